import PyProof.Rows.All
import Wide.All
import OpenK.AllK
import Wide.FinOn
import HandS.ForMost
import HandS.IsInst
import HandS.Style
import HandS.TupAny
import HandS.TupMul
import HandS.Gcd
import HandS.Wide
import HandS.WideBits
import HandS.Conv
import HandS.Exc
import HandS.Zip0
import KE.GoesMore
import PyProof.Draws
import PyProof.EnumMake
import PyProof.ReprRoads
import PyProof.ReprLen
import PyProof.Rows.RegStrFacts
import HandS.RaiseMore
import HandS.TryOnly
import KE.KMathGC
import HandS.Deep
import HandS.Zip
import KE.DataAny
import HandS.ForDict
import HandS.Rev
import HandS.SetFor
import PySem.Challenge.RW_shaftshakes_k64_whole_products_and_quoti
set_option Elab.async false
set_option linter.all false
set_option maxRecDepth 100000
set_option maxHeartbeats 4000000
/-! A layer over HandS: values are told as data, one mutable list (the well) and local lists apart. -/
namespace DL
open PySem PySem.Spec PyProof.Rows L2

/-! ### data -/
mutual
inductive Dn (K : PySem.W.Frag) (H : Hp) : V → PyData → Prop
  | non : Dn K H .non .none
  | bl (b : Bool) : Dn K H (.bl b) (.bool b)
  | int (i : Int) : Dn K H (.int i) (.int i)
  | str (x : Str) : Dn K H (.str x) (.str x)
  | lst {a : Addr} {xs : List V} {ds : List PyData} : H a = some (.lst xs) → DnA K H xs ds → Dn K H (.ref a) (.list ds)
  | tup {a : Addr} {xs : List V} {ds : List PyData} : SqT K H a xs → DnA K H xs ds → Dn K H (.ref a) (.tuple ds)
  | emp {a : Addr} : H a = some (.dK []) → Dn K H (.ref a) (.dict [])
inductive DnA (K : PySem.W.Frag) (H : Hp) : List V → List PyData → Prop
  | nil : DnA K H [] []
  | cons {v : V} {vs : List V} {d : PyData} {ds : List PyData} : Dn K H v d → DnA K H vs ds → DnA K H (v :: vs) (d :: ds)
end

theorem Same.sqt {K : PySem.W.Frag} {H H' : Hp} {a : Addr} {xs : List V} (e : Same H H') (h : SqT K H a xs) : SqT K H' a xs := by
  rcases h with (h | ⟨o, h⟩) | h
  · exact .inl (.inl (e _ _ h))
  · exact .inl (.inr ⟨o, e _ _ h⟩)
  · exact .inr h

section
variable {K : PySem.W.Frag} {H H' : Hp}
mutual
theorem Dn.mono (e : Same H H') : ∀ {v : V} {d : PyData}, Dn K H v d → Dn K H' v d
  | _, _, .non => .non
  | _, _, .bl b => .bl b
  | _, _, .int i => .int i
  | _, _, .str x => .str x
  | _, _, .lst h1 h2 => .lst (e _ _ h1) (DnA.mono e h2)
  | _, _, .tup h1 h2 => .tup (Same.sqt e h1) (DnA.mono e h2)
  | _, _, .emp h => .emp (e _ _ h)
theorem DnA.mono (e : Same H H') : ∀ {vs : List V} {ds : List PyData}, DnA K H vs ds → DnA K H' vs ds
  | _, _, .nil => .nil
  | _, _, .cons h1 h2 => .cons (Dn.mono e h1) (DnA.mono e h2)
end
theorem DnA.length : ∀ {vs : List V} {ds : List PyData}, DnA K H vs ds → vs.length = ds.length
  | _, _, .nil => rfl
  | _, _, .cons _ h => by
    show _ + 1 = _ + 1
    rw [DnA.length h]
theorem DnA.get : ∀ {vs : List V} {ds : List PyData} {i : Nat} {d : PyData}, DnA K H vs ds → ds[i]? = some d → ∃ v, vs[i]? = some v ∧ Dn K H v d
  | _, _, i, _, .nil, e => by simp at e
  | _, _, 0, _, .cons h _, e => by
    simp at e
    subst e
    exact ⟨_, rfl, h⟩
  | _, _, i + 1, _, .cons _ h, e => by
    obtain ⟨v, q, r⟩ := DnA.get (i := i) h (by simpa using e)
    exact ⟨v, by simpa using q, r⟩
theorem DnA.getV : ∀ {vs : List V} {ds : List PyData} {i : Nat} {v : V}, DnA K H vs ds → vs[i]? = some v → ∃ d, ds[i]? = some d ∧ Dn K H v d
  | _, _, i, _, .nil, e => by simp at e
  | _, _, 0, _, .cons h _, e => by
    simp at e
    subst e
    exact ⟨_, rfl, h⟩
  | _, _, i + 1, _, .cons _ h, e => by
    obtain ⟨v, q, r⟩ := DnA.getV (i := i) h (by simpa using e)
    exact ⟨v, by simpa using q, r⟩
theorem DnA.append : ∀ {vs ws : List V} {ds es : List PyData}, DnA K H vs ds → DnA K H ws es → DnA K H (vs ++ ws) (ds ++ es)
  | _, _, _, _, .nil, h => h
  | _, _, _, _, .cons h1 h2, h => .cons h1 (DnA.append h2 h)
theorem DnA.take : ∀ {vs : List V} {ds : List PyData} (n : Nat), DnA K H vs ds → DnA K H (vs.take n) (ds.take n)
  | _, _, 0, _ => .nil
  | _, _, _ + 1, .nil => .nil
  | _, _, n + 1, .cons h1 h2 => .cons h1 (DnA.take n h2)
theorem DnA.drop : ∀ {vs : List V} {ds : List PyData} (n : Nat), DnA K H vs ds → DnA K H (vs.drop n) (ds.drop n)
  | _, _, 0, h => h
  | _, _, _ + 1, .nil => .nil
  | _, _, n + 1, .cons h1 h2 => DnA.drop n h2
theorem DnA.set : ∀ {vs : List V} {ds : List PyData} (i : Nat) {v : V} {d : PyData}, DnA K H vs ds → Dn K H v d → DnA K H (vs.set i v) (ds.set i d)
  | _, _, _, _, _, .nil, _ => .nil
  | _, _, 0, _, _, .cons _ h2, h => .cons h h2
  | _, _, i + 1, _, _, .cons h1 h2, h => .cons h1 (DnA.set i h2 h)
theorem DnA.ints : ∀ {vs : List V} {ns : List Int}, DnA K H vs (ns.map PyData.int) → vs = ns.map V.int
  | _, [], .nil => rfl
  | _, n :: ns, .cons h1 h2 => by
    cases h1
    rw [DnA.ints h2]
    rfl
theorem DnA.bools : ∀ {vs : List V} {ns : List Bool}, DnA K H vs (ns.map PyData.bool) → vs = ns.map V.bl
  | _, [], .nil => rfl
  | _, n :: ns, .cons h1 h2 => by
    cases h1
    rw [DnA.bools h2]
    rfl
theorem DnA.rep {v : V} {d : PyData} (h : Dn K H v d) : ∀ n : Nat, DnA K H (List.replicate n v) (List.replicate n d)
  | 0 => .nil
  | n + 1 => .cons h (DnA.rep h n)
end

/-! ### what is hidden -/
noncomputable def hid (M : List Addr) (H : Hp) : Hp := fun a => if a ∈ M then none else H a
theorem hid_out {M : List Addr} {H : Hp} {a : Addr} (h : a ∉ M) : hid M H a = H a := by unfold hid; rw [if_neg h]
theorem hid_some {M : List Addr} {H : Hp} {a : Addr} {o : HO} (h : hid M H a = some o) : a ∉ M ∧ H a = some o := by
  unfold hid at h
  by_cases q : a ∈ M
  · rw [if_pos q] at h; cases h
  · rw [if_neg q] at h; exact ⟨q, h⟩
theorem hid_sub (M : List Addr) (H : Hp) : Same (hid M H) H := fun a o h => (hid_some h).2
theorem hid_less {M N : List Addr} (H : Hp) (h : ∀ a ∈ N, a ∈ M) : Same (hid M H) (hid N H) := fun a o e => by
  obtain ⟨q, e⟩ := hid_some e
  rw [hid_out (fun z => q (h a z))]
  exact e
theorem hid_same {M : List Addr} {H H' : Hp} (h : ∀ a o, a ∉ M → H a = some o → H' a = some o) : Same (hid M H) (hid M H') := fun a o e => by
  obtain ⟨q, e⟩ := hid_some e
  rw [hid_out q]
  exact h a o q e

/-! ### slots -/
inductive Sl where
  | un
  | d (x : PyData)
  | own (l : Addr) (xs : List PyData)
  | well (w : Addr)
  | raw (v : V)

noncomputable def WellAt (H : Hp) (w : Addr) : Prop := ∃ n b c : Int, H w = some (.lst [.int n, .int b, .int c]) ∧ 0 ≤ n ∧ 0 ≤ b ∧ b < 1099511627776

noncomputable def SlotOk (K : PySem.W.Frag) (M : List Addr) (H : Hp) (ov : Option V) : Sl → Prop
  | .un => True
  | .d x => ∃ v, ov = some v ∧ Dn K (hid M H) v x
  | .own l xs => ov = some (.ref l) ∧ ∃ vs, H l = some (.lst vs) ∧ DnA K (hid M H) vs xs
  | .well w => ov = some (.ref w)
  | .raw v => ov = some v

structure Bs where
  M : List Addr
  Ws : List Addr
  H : Hp

structure Env (K : PySem.W.Frag) (B : Bs) (G : List Hp) (L : List Addr) (H : Hp) (σ : L2.St) (Γ : List Sl) : Prop where
  fr : ∀ a o, a ∉ B.Ws → B.H a = some o → H a = some o
  ws : ∀ w ∈ B.Ws, WellAt H w
  wm : ∀ w ∈ B.Ws, w ∈ B.M
  lm : ∀ m ∈ B.M, ∃ o, B.H m = some o
  lo : ∀ l ∈ L, B.H l = none ∧ ∃ xs, H l = some (.lst xs)
  len : σ.length = Γ.length
  sl : ∀ (i : Nat) (s : Sl), Γ[i]? = some s → SlotOk K (L ++ B.M) H (σ[i]?.join) s
  gh : ∀ g ∈ G, Same g (hid (L ++ B.M) H)
  ow : ∀ (i : Nat) (l : Addr) (xs : List PyData), Γ[i]? = some (.own l xs) → l ∈ L
  ou : ∀ (i j : Nat) (l : Addr) (xs ys : List PyData), Γ[i]? = some (.own l xs) → Γ[j]? = some (.own l ys) → i = j
  we : ∀ (i : Nat) (w : Addr), Γ[i]? = some (.well w) → w ∈ B.Ws

section
variable {K : PySem.W.Frag} {B : Bs} {G : List Hp} {L : List Addr} {H H' : Hp} {σ : L2.St} {Γ : List Sl}

theorem WellAt.ne {w a : Addr} (h : WellAt H w) (n : H a = none) : a ≠ w := by
  rintro rfl
  obtain ⟨_, _, _, e, _⟩ := h
  rw [n] at e; cases e
theorem Env.alive (E : Env K B G L H σ Γ) : ∀ a ∈ L ++ B.M, ∃ o, H a = some o := fun a ha => by
  rcases List.mem_append.mp ha with h | h
  · obtain ⟨_, xs, e⟩ := E.lo a h
    exact ⟨_, e⟩
  · by_cases w : a ∈ B.Ws
    · obtain ⟨n, b, c, e, _⟩ := E.ws a w
      exact ⟨_, e⟩
    · obtain ⟨o, e⟩ := E.lm a h
      exact ⟨o, E.fr a o w e⟩
theorem Env.newM (E : Env K B G L H σ Γ) {p : Addr} (h : H p = none) : p ∉ L ++ B.M := fun q => by
  obtain ⟨o, e⟩ := E.alive p q
  rw [h] at e; cases e
theorem Env.lW (E : Env K B G L H σ Γ) {l : Addr} (h : l ∈ L) : l ∉ B.Ws := fun w => by
  obtain ⟨o, e⟩ := E.lm l (E.wm l w)
  rw [(E.lo l h).1] at e; cases e
/-- all but the wells is kept -/
theorem Env.step (E : Env K B G L H σ Γ) (h1 : ∀ a o, a ∉ B.Ws → H a = some o → H' a = some o) (h2 : ∀ w ∈ B.Ws, WellAt H' w) :
    Env K B G L H' σ Γ ∧ Same (hid (L ++ B.M) H) (hid (L ++ B.M) H') := by
  have hs : Same (hid (L ++ B.M) H) (hid (L ++ B.M) H') := hid_same fun a o q e => h1 a o (fun w => q (List.mem_append_right _ (E.wm a w))) e
  refine ⟨⟨fun a o w e => h1 a o w (E.fr a o w e), h2, E.wm, E.lm, fun l hl => ?_, E.len, fun i s hi => ?_, fun p hp => (E.gh p hp).trans hs, E.ow, E.ou, E.we⟩, hs⟩
  · obtain ⟨e, xs, q⟩ := E.lo l hl
    exact ⟨e, xs, h1 l _ (E.lW hl) q⟩
  · have q := E.sl i s hi
    cases s with
    | un => trivial
    | d x =>
      obtain ⟨v, e, dn⟩ := q
      exact ⟨v, e, dn.mono hs⟩
    | own l xs =>
      obtain ⟨e, vs, hl, dn⟩ := q
      exact ⟨e, vs, h1 l _ (E.lW (E.ow i l xs hi)) hl, dn.mono hs⟩
    | well w => exact q
    | raw v => exact q
theorem Env.ext (E : Env K B G L H σ Γ) (h : Same H H') : Env K B G L H' σ Γ ∧ Same (hid (L ++ B.M) H) (hid (L ++ B.M) H') :=
  E.step (fun a o _ e => h a o e) fun w hw => by
    obtain ⟨n, b, c, e, q⟩ := E.ws w hw
    exact ⟨n, b, c, h _ _ e, q⟩
theorem same_upd {H : Hp} {p : Addr} {o : HO} (h : H p = none) : Same H (upd H p o) := fun b x e => by
  rw [upd_ne (ne_of_none e h)]
  exact e
theorem hid_new {M : List Addr} {H : Hp} {p : Addr} {o : HO} (h : p ∉ M) : hid M (upd H p o) p = some o := by
  rw [hid_out h]
  exact upd_same
theorem Env.get (E : Env K B G L H σ Γ) {i : Nat} {x : PyData} (h : Γ[i]? = some (.d x)) : ∃ v, σ[i]? = some (some v) ∧ Dn K (hid (L ++ B.M) H) v x := by
  obtain ⟨v, e, dn⟩ := E.sl i _ h
  refine ⟨v, ?_, dn⟩
  cases q : σ[i]? with
  | none => rw [q] at e; cases e
  | some ov =>
    rw [q] at e
    rw [show ov = some v from e]
theorem Env.getW (E : Env K B G L H σ Γ) {i : Nat} {w : Addr} (h : Γ[i]? = some (.well w)) : σ[i]? = some (some (.ref w)) := by
  have e := E.sl i _ h
  cases q : σ[i]? with
  | none => rw [q] at e; cases e
  | some ov =>
    rw [q] at e
    rw [show ov = some (.ref w) from e]
theorem Env.getO (E : Env K B G L H σ Γ) {i : Nat} {l : Addr} {xs : List PyData} (h : Γ[i]? = some (.own l xs)) : σ[i]? = some (some (.ref l)) ∧ ∃ vs, H l = some (.lst vs) ∧ DnA K (hid (L ++ B.M) H) vs xs := by
  have e := E.sl i _ h
  obtain ⟨e, r⟩ := e
  refine ⟨?_, r⟩
  cases q : σ[i]? with
  | none => rw [q] at e; cases e
  | some ov =>
    rw [q] at e
    rw [show ov = some (.ref l) from e]
/-- a slot gets data -/
theorem Env.put (E : Env K B G L H σ Γ) (i : Nat) {v : V} {x : PyData} (h : Dn K (hid (L ++ B.M) H) v x) : Env K B G L H (σ.set i (some v)) (Γ.set i (.d x)) := by
  have g : ∀ (j : Nat) (s : Sl), (Γ.set i (.d x))[j]? = some s → (j = i ∧ s = .d x ∧ j < Γ.length) ∨ (j ≠ i ∧ Γ[j]? = some s) := fun j s hj => by
    by_cases e : j = i
    · subst e
      refine .inl ⟨rfl, ?_⟩
      by_cases hl : j < Γ.length
      · rw [List.getElem?_set_self hl] at hj
        exact ⟨(Option.some.inj hj).symm, hl⟩
      · rw [List.getElem?_eq_none (by rw [List.length_set]; omega)] at hj
        cases hj
    · rw [List.getElem?_set_ne (Ne.symm e)] at hj
      exact .inr ⟨e, hj⟩
  refine ⟨E.fr, E.ws, E.wm, E.lm, E.lo, by rw [List.length_set, List.length_set]; exact E.len, fun j s hj => ?_, E.gh, fun j l xs hj => ?_, fun j k l xs ys hj hk => ?_, fun j w hj => ?_⟩
  · rcases g j s hj with ⟨rfl, rfl, hl⟩ | ⟨e, hj⟩
    · refine ⟨v, ?_, h⟩
      rw [List.getElem?_set_self (by rw [E.len]; exact hl)]
      rfl
    · rw [List.getElem?_set_ne (Ne.symm e)]
      exact E.sl j s hj
  · rcases g j _ hj with ⟨_, e, _⟩ | ⟨_, hj⟩
    · cases e
    · exact E.ow j l xs hj
  · rcases g j _ hj with ⟨_, e, _⟩ | ⟨_, hj⟩
    · cases e
    · rcases g k _ hk with ⟨_, e, _⟩ | ⟨_, hk⟩
      · cases e
      · exact E.ou j k l xs ys hj hk
  · rcases g j _ hj with ⟨_, e, _⟩ | ⟨_, hj⟩
    · cases e
    · exact E.we j w hj
end

/-! ### what evaluates to what -/
section
variable (K : PySem.W.Frag) (B : Bs) (G : List Hp) (L : List Addr) (Γ : List Sl)
/-- the step that an evaluation may take -/
structure Go (H H' : Hp) (σ : L2.St) : Prop where
  env : Env K B G L H' σ Γ
  sm : Same (hid (L ++ B.M) H) (hid (L ++ B.M) H')
  kp : ∀ l ∈ L, ∀ o, H l = some o → H' l = some o
  rl : ∀ a o, a ∉ B.Ws → H a = some o → H' a = some o
noncomputable def EvP (te : TE) (k : PyData → Prop) : Prop := ∀ (σ : L2.St) (H : Hp) (Q : VK), Env K B G L H σ Γ →
  (∀ v d H', Go K B G L Γ H H' σ → Dn K (hid (L ++ B.M) H') v d → k d → Q v H') → te σ H Q
/-- a new list -/
noncomputable def EvN (te : TE) (k : List PyData → Prop) : Prop := ∀ (σ : L2.St) (H : Hp) (Q : VK), Env K B G L H σ Γ →
  (∀ p vs ds H', Go K B G L Γ H H' σ → H p = none → H' p = some (.lst vs) → DnA K (hid (p :: (L ++ B.M)) H') vs ds → k ds → Q (.ref p) H') → te σ H Q
noncomputable def EvA (ta : TA) (k : List PyData → Prop) : Prop := ∀ (σ : L2.St) (H : Hp) (Q : List V → Hp → Prop), Env K B G L H σ Γ →
  (∀ vs ds H', Go K B G L Γ H H' σ → DnA K (hid (L ++ B.M) H') vs ds → k ds → Q vs H') → ta σ H Q
noncomputable def EvT (tt : TT) (k : Bool → Prop) : Prop := ∀ (σ : L2.St) (H : Hp) (Q : Bool → Hp → Prop), Env K B G L H σ Γ →
  (∀ b H', Go K B G L Γ H H' σ → k b → Q b H') → tt σ H Q
/-- an operation on values -/
noncomputable def ROk (r : R2) (x y : PyData) (k : PyData → Prop) : Prop := ∀ (σ : L2.St) (H : Hp) (Q : VK) (v u : V), Env K B G L H σ Γ → Dn K (hid (L ++ B.M) H) v x → Dn K (hid (L ++ B.M) H) u y →
  (∀ z d H', Go K B G L Γ H H' σ → Dn K (hid (L ++ B.M) H') z d → k d → Q z H') → r v u H Q
noncomputable def UOk (r : V → Hp → VK → Prop) (x : PyData) (k : PyData → Prop) : Prop := ∀ (σ : L2.St) (H : Hp) (Q : VK) (v : V), Env K B G L H σ Γ → Dn K (hid (L ++ B.M) H) v x →
  (∀ z d H', Go K B G L Γ H H' σ → Dn K (hid (L ++ B.M) H') z d → k d → Q z H') → r v H Q
noncomputable def COk (r : List V → Hp → VK → Prop) (ds : List PyData) (k : PyData → Prop) : Prop := ∀ (σ : L2.St) (H : Hp) (Q : VK) (vs : List V), Env K B G L H σ Γ → DnA K (hid (L ++ B.M) H) vs ds →
  (∀ z d H', Go K B G L Γ H H' σ → Dn K (hid (L ++ B.M) H') z d → k d → Q z H') → r vs H Q
end

section
variable {K : PySem.W.Frag} {B : Bs} {G : List Hp} {L : List Addr} {Γ : List Sl} {H H' H2 : Hp} {σ : L2.St}
theorem Go.refl (E : Env K B G L H σ Γ) : Go K B G L Γ H H σ := ⟨E, Same.refl _, fun _ _ _ e => e, fun _ _ _ e => e⟩
theorem Go.trans (a : Go K B G L Γ H H' σ) (b : Go K B G L Γ H' H2 σ) : Go K B G L Γ H H2 σ := ⟨b.env, a.sm.trans b.sm, fun l hl o e => b.kp l hl o (a.kp l hl o e), fun c o w e => b.rl c o w (a.rl c o w e)⟩
/-- all but the wells is kept -/
theorem Go.step (E : Env K B G L H σ Γ) (h1 : ∀ a o, a ∉ B.Ws → H a = some o → H' a = some o) (h2 : ∀ w ∈ B.Ws, WellAt H' w) : Go K B G L Γ H H' σ := by
  obtain ⟨a, b⟩ := E.step h1 h2
  exact ⟨a, b, fun l hl o e => h1 l o (E.lW hl) e, h1⟩
theorem Go.new (E : Env K B G L H σ Γ) {p : Addr} {o : HO} (h : H p = none) : Go K B G L Γ H (upd H p o) σ := by
  obtain ⟨a, b⟩ := E.ext (same_upd (o := o) h)
  exact ⟨a, b, fun l hl o e => same_upd h l o e, fun c o _ e => same_upd h c o e⟩

variable {te ta tb tc : TE} {tt tu : TT} {tr : TA} {k : PyData → Prop} {x y : PyData}
theorem EvP.mono {k' : PyData → Prop} (h : EvP K B G L Γ te k) (f : ∀ d, k d → k' d) : EvP K B G L Γ te k' := fun σ H Q E q => h σ H Q E fun v d H' g dn hk => q v d H' g dn (f d hk)
theorem ev_var {i : Nat} (h : Γ[i]? = some (.d x)) (hk : k x) : EvP K B G L Γ (tVar i) k := fun σ H Q E q => by
  obtain ⟨v, e, dn⟩ := E.get h
  exact ⟨v, e, q v x H (Go.refl E) dn hk⟩
theorem ev_int {i : Int} (hk : k (.int i)) : EvP K B G L Γ (tC (.int i)) k := fun σ H Q E q => q _ _ H (Go.refl E) (.int i) hk
theorem ev_bl {b : Bool} (hk : k (.bool b)) : EvP K B G L Γ (tC (.bl b)) k := fun σ H Q E q => q _ _ H (Go.refl E) (.bl b) hk
theorem ev_non (hk : k .none) : EvP K B G L Γ (tC .non) k := fun σ H Q E q => q _ _ H (Go.refl E) .non hk
theorem ev_str {s : Str} (hk : k (.str s)) : EvP K B G L Γ (tC (.str s)) k := fun σ H Q E q => q _ _ H (Go.refl E) (.str s) hk
theorem ev_op {r : R2} (h : EvP K B G L Γ ta fun x => EvP K B G L Γ tb fun y => ROk K B G L Γ r x y k) : EvP K B G L Γ (tOp r ta tb) k := fun σ H Q E q =>
  h σ H _ E fun v x H1 g1 dn1 h1 => h1 σ H1 _ g1.env fun u y H2 g2 dn2 h2 => h2 σ H2 Q v u g2.env (dn1.mono g2.sm) dn2 fun z d H3 g3 dn3 hk => q z d H3 ((g1.trans g2).trans g3) dn3 hk
theorem ev_un {r : V → Hp → VK → Prop} (h : EvP K B G L Γ ta fun x => UOk K B G L Γ r x k) : EvP K B G L Γ (tUn r ta) k := fun σ H Q E q =>
  h σ H _ E fun v x H1 g1 dn1 h1 => h1 σ H1 Q v g1.env dn1 fun z d H3 g3 dn3 hk => q z d H3 (g1.trans g3) dn3 hk
theorem ev_cb {r : List V → Hp → VK → Prop} (h : EvA K B G L Γ tr fun ds => COk K B G L Γ r ds k) : EvP K B G L Γ (tCB r tr) k := fun σ H Q E q =>
  h σ H _ E fun vs ds H1 g1 dn1 h1 => h1 σ H1 Q vs g1.env dn1 fun z d H3 g3 dn3 hk => q z d H3 (g1.trans g3) dn3 hk
theorem ev_if (h : EvT K B G L Γ tt fun b => (b = true → EvP K B G L Γ ta k) ∧ (b = false → EvP K B G L Γ tb k)) : EvP K B G L Γ (tIf tt ta tb) k := fun σ H Q E q =>
  h σ H _ E fun b H1 g1 ⟨h1, h2⟩ => by
    cases b with
    | true => exact iteT (h1 rfl σ H1 Q g1.env fun v d H3 g3 dn hk => q v d H3 (g1.trans g3) dn hk)
    | false => exact iteF (h2 rfl σ H1 Q g1.env fun v d H3 g3 dn hk => q v d H3 (g1.trans g3) dn hk)
theorem dn_bool {v : V} {b : Bool} (h : Dn K H v (.bool b)) : v = .bl b := by cases h; rfl
theorem dn_int {v : V} {i : Int} (h : Dn K H v (.int i)) : v = .int i := by cases h; rfl
theorem dn_str {v : V} {i : Str} (h : Dn K H v (.str i)) : v = .str i := by cases h; rfl
theorem ev_andV (h : EvP K B G L Γ ta fun x => ∃ b, x = .bool b ∧ (b = true → EvP K B G L Γ tb k) ∧ (b = false → k (.bool false))) : EvP K B G L Γ (tAndV ta tb) k := fun σ H Q E q =>
  h σ H _ E fun v x H1 g1 dn1 ⟨b, e, h1, h2⟩ => by
    subst e
    refine ⟨b, dn_bool dn1, ?_⟩
    cases b with
    | true => exact iteT (h1 rfl σ H1 Q g1.env fun v d H3 g3 dn hk => q v d H3 (g1.trans g3) dn hk)
    | false => exact iteF (q _ _ H1 g1 (.bl false) (h2 rfl))
theorem ev_orV (h : EvP K B G L Γ ta fun x => ∃ b, x = .bool b ∧ (b = false → EvP K B G L Γ tb k) ∧ (b = true → k (.bool true))) : EvP K B G L Γ (tOrV ta tb) k := fun σ H Q E q =>
  h σ H _ E fun v x H1 g1 dn1 ⟨b, e, h1, h2⟩ => by
    subst e
    refine ⟨b, dn_bool dn1, ?_⟩
    cases b with
    | false => exact iteF (h1 rfl σ H1 Q g1.env fun v d H3 g3 dn hk => q v d H3 (g1.trans g3) dn hk)
    | true => exact iteT (q _ _ H1 g1 (.bl true) (h2 rfl))
theorem ev_notV (h : EvP K B G L Γ ta fun x => ∃ b, x = .bool b ∧ k (.bool (!b))) : EvP K B G L Γ (tNotV ta) k := fun σ H Q E q =>
  h σ H _ E fun v x H1 g1 dn1 ⟨b, e, h1⟩ => by
    subst e
    exact ⟨b, dn_bool dn1, q _ _ H1 g1 (.bl _) h1⟩
/-! tests -/
theorem et_test {kb : Bool → Prop} (h : EvP K B G L Γ te fun x => ∃ b, x = .bool b ∧ kb b) : EvT K B G L Γ (tTest te) kb := fun σ H Q E q =>
  h σ H _ E fun v x H1 g1 dn1 ⟨b, e, h1⟩ => by
    subst e
    exact ⟨b, dn_bool dn1, q b H1 g1 h1⟩
theorem et_B {kb : Bool → Prop} (h : EvP K B G L Γ te fun x => ∃ b, x = .bool b ∧ kb b) : EvT K B G L Γ (tB te) kb := et_test h
theorem et_and {kb : Bool → Prop} (h : EvT K B G L Γ tt fun b => (b = true → EvT K B G L Γ tu kb) ∧ (b = false → kb false)) : EvT K B G L Γ (tAnd tt tu) kb := fun σ H Q E q =>
  h σ H _ E fun b H1 g1 ⟨h1, h2⟩ => by
    cases b with
    | true => exact iteT (h1 rfl σ H1 Q g1.env fun b H3 g3 hk => q b H3 (g1.trans g3) hk)
    | false => exact iteF (q false H1 g1 (h2 rfl))
theorem et_or {kb : Bool → Prop} (h : EvT K B G L Γ tt fun b => (b = false → EvT K B G L Γ tu kb) ∧ (b = true → kb true)) : EvT K B G L Γ (tOr tt tu) kb := fun σ H Q E q =>
  h σ H _ E fun b H1 g1 ⟨h1, h2⟩ => by
    cases b with
    | false => exact iteF (h1 rfl σ H1 Q g1.env fun b H3 g3 hk => q b H3 (g1.trans g3) hk)
    | true => exact iteT (q true H1 g1 (h2 rfl))
theorem et_not {kb : Bool → Prop} (h : EvT K B G L Γ tt fun b => kb (!b)) : EvT K B G L Γ (tNot tt) kb := fun σ H Q E q =>
  h σ H _ E fun b H1 g1 h1 => q (!b) H1 g1 h1
theorem EvT.mono {kb kb' : Bool → Prop} (h : EvT K B G L Γ tt kb) (f : ∀ b, kb b → kb' b) : EvT K B G L Γ tt kb' := fun σ H Q E q => h σ H Q E fun b H' g hk => q b H' g (f b hk)
/-! arguments -/
theorem ea_nil {kl : List PyData → Prop} (h : kl []) : EvA K B G L Γ tNil kl := fun σ H Q E q => q [] [] H (Go.refl E) .nil h
theorem ea_cons {kl : List PyData → Prop} (h : EvP K B G L Γ te fun d => EvA K B G L Γ tr fun ds => kl (d :: ds)) : EvA K B G L Γ (tCons te tr) kl := fun σ H Q E q =>
  h σ H _ E fun v d H1 g1 dn1 h1 => h1 σ H1 _ g1.env fun vs ds H2 g2 dn2 hk => q (v :: vs) (d :: ds) H2 (g1.trans g2) (.cons (dn1.mono g2.sm) dn2) hk
theorem sz_ok {n : Nat} (h : n ≤ 1000000) : n ≤ sizeLine := Nat.le_trans h (by decide)
theorem ev_tup (h : EvA K B G L Γ tr fun ds => ds.length ≤ 1000000 ∧ k (.tuple ds)) : EvP K B G L Γ (tTup tr) k := fun σ H Q E q =>
  h σ H _ E fun vs ds H1 g1 dn1 ⟨hl, hk⟩ => ⟨by rw [dn1.length]; exact sz_ok hl, fun p hp => by
    have g2 := Go.new (o := .tup vs) g1.env hp
    exact q _ _ _ (g1.trans g2) (.tup (.inl (.inl (hid_new (g1.env.newM hp)))) (dn1.mono g2.sm)) hk⟩
theorem hid_none {M : List Addr} {H : Hp} {p : Addr} (h : H p = none) : hid M H p = none := by
  unfold hid
  split
  · rfl
  · exact h
theorem hid_keep {M : List Addr} {H H' : Hp} {p : Addr} (hp : H p = none) (h : Same H H') : Same (hid M H) (hid (p :: M) H') := fun a o e => by
  obtain ⟨q, e⟩ := hid_some e
  rw [hid_out (fun z => by
    rcases List.mem_cons.mp z with z | z
    · rw [z, hp] at e; cases e
    · exact q z)]
  exact h a o e
theorem en_lst {kl : List PyData → Prop} (h : EvA K B G L Γ tr fun ds => ds.length ≤ 1000000 ∧ kl ds) : EvN K B G L Γ (tLst tr) kl := fun σ H Q E q =>
  h σ H _ E fun vs ds H1 g1 dn1 ⟨hl, hk⟩ => ⟨by rw [dn1.length]; exact sz_ok hl, fun p hp => by
    have g2 := Go.new (o := .lst vs) g1.env hp
    refine q p vs ds _ (g1.trans g2) ?_ upd_same (dn1.mono (hid_keep hp (same_upd hp))) hk
    cases e : H p with
    | none => rfl
    | some o =>
      exfalso
      by_cases w : p ∈ L ++ B.M
      · obtain ⟨o', e'⟩ := g1.env.alive p w
        rw [hp] at e'; cases e'
      · have := g1.sm p o (by rw [hid_out w]; exact e)
        rw [hid_none hp] at this; cases this⟩
theorem ev_new (h : EvN K B G L Γ te fun ds => k (.list ds)) : EvP K B G L Γ te k := fun σ H Q E q =>
  h σ H Q E fun p vs ds H' g hp e dn hk => q _ _ H' g (.lst (by rw [hid_out (E.newM hp)]; exact e) (dn.mono (hid_less _ fun a ha => List.mem_cons_of_mem _ ha))) hk
theorem ev_lst (h : EvA K B G L Γ tr fun ds => ds.length ≤ 1000000 ∧ k (.list ds)) : EvP K B G L Γ (tLst tr) k := ev_new (en_lst h)
end
end DL
namespace DL
open PySem PySem.Spec PyProof.Rows L2
section
variable {K : PySem.W.Frag} {B : Bs} {G : List Hp} {L : List Addr} {Γ : List Sl} {H H' H2 : Hp} {σ : L2.St}
variable {te ta tb tc : TE} {tt tu : TT} {tr : TA} {k : PyData → Prop} {x y : PyData}

/-! ### operators -/
theorem rok_i0 {f : Int → Int → Int} {i j : Int} (hk : k (.int (f i j))) : ROk K B G L Γ (rI0 fun i j => .int (f i j)) (.int i) (.int j) k := fun σ H Q v u E d1 d2 q =>
  ⟨i, j, dn_int d1, dn_int d2, q _ _ H (Go.refl E) (.int _) hk⟩
theorem rok_b0 {f : Int → Int → Bool} {i j : Int} (hk : k (.bool (f i j))) : ROk K B G L Γ (rI0 fun i j => .bl (f i j)) (.int i) (.int j) k := fun σ H Q v u E d1 d2 q =>
  ⟨i, j, dn_int d1, dn_int d2, q _ _ H (Go.refl E) (.bl _) hk⟩
theorem rok_i {C : Int → Int → Prop} {f : Int → Int → Int} {i j : Int} (hc : C i j) (hk : k (.int (f i j))) : ROk K B G L Γ (rI C fun i j => .int (f i j)) (.int i) (.int j) k := fun σ H Q v u E d1 d2 q =>
  ⟨i, j, dn_int d1, dn_int d2, hc, q _ _ H (Go.refl E) (.int _) hk⟩
theorem rok_eqI {i j : Int} (hk : k (.bool (decide (i = j)))) : ROk K B G L Γ rEq (.int i) (.int j) k := fun σ H Q v u E d1 d2 q => by
  rw [dn_int d1, dn_int d2]
  refine ⟨rfl, ?_⟩
  have e : decide ((V.int i) = V.int j) = decide (i = j) := by
    by_cases h : i = j
    · subst h; simp
    · rw [decide_eq_false h, decide_eq_false (fun z => h (V.int.inj z))]
  rw [e]
  exact q _ _ H (Go.refl E) (.bl _) hk
theorem rok_neI {i j : Int} (hk : k (.bool (!decide (i = j)))) : ROk K B G L Γ rNe (.int i) (.int j) k := fun σ H Q v u E d1 d2 q => by
  rw [dn_int d1, dn_int d2]
  refine ⟨rfl, ?_⟩
  have e : decide ((V.int i) = V.int j) = decide (i = j) := by
    by_cases h : i = j
    · subst h; simp
    · rw [decide_eq_false h, decide_eq_false (fun z => h (V.int.inj z))]
  rw [e]
  exact q _ _ H (Go.refl E) (.bl _) hk
theorem rok_neS {i j : Str} (hk : k (.bool (!decide (i = j)))) : ROk K B G L Γ rNe (.str i) (.str j) k := fun σ H Q v u E d1 d2 q => by
  rw [dn_str d1, dn_str d2]
  refine ⟨rfl, ?_⟩
  have e : decide ((V.str i) = V.str j) = decide (i = j) := by
    by_cases h : i = j
    · subst h; simp
    · rw [decide_eq_false h, decide_eq_false (fun z => h (V.str.inj z))]
  rw [e]
  exact q _ _ H (Go.refl E) (.bl _) hk
theorem rok_eqS {i j : Str} (hk : k (.bool (decide (i = j)))) : ROk K B G L Γ rEq (.str i) (.str j) k := fun σ H Q v u E d1 d2 q => by
  rw [dn_str d1, dn_str d2]
  refine ⟨rfl, ?_⟩
  have e : decide ((V.str i) = V.str j) = decide (i = j) := by
    by_cases h : i = j
    · subst h; simp
    · rw [decide_eq_false h, decide_eq_false (fun z => h (V.str.inj z))]
  rw [e]
  exact q _ _ H (Go.refl E) (.bl _) hk
theorem rok_isB {i j : Bool} (hk : k (.bool (decide (i = j)))) : ROk K B G L Γ rIsB (.bool i) (.bool j) k := fun σ H Q v u E d1 d2 q =>
  ⟨i, j, dn_bool d1, dn_bool d2, q _ _ H (Go.refl E) (.bl _) hk⟩
theorem rok_notB {i j : Bool} (hk : k (.bool (!decide (i = j)))) : ROk K B G L Γ rNotB (.bool i) (.bool j) k := fun σ H Q v u E d1 d2 q =>
  ⟨i, j, dn_bool d1, dn_bool d2, q _ _ H (Go.refl E) (.bl _) hk⟩
theorem dna_at {vs : List V} {ds : List PyData} (h : DnA K H vs ds) {i : Int} {d : PyData} (e : atI ds i = some d) : ∃ v, atI vs i = some v ∧ Dn K H v d := by
  unfold atI at e ⊢
  rw [h.length]
  cases q : ixN ds.length i with
  | none => rw [q] at e; cases e
  | some j =>
    rw [q] at e
    exact h.get e
theorem rok_ixT {ds : List PyData} {i : Int} {d : PyData} (e : atI ds i = some d) (hk : k d) : ROk K B G L Γ (rIxT K) (.tuple ds) (.int i) k := fun σ H Q v u E d1 d2 q => by
  cases d1 with
  | tup h1 h2 =>
    obtain ⟨w, e2, dn⟩ := dna_at h2 e
    exact ⟨_, _, i, w, rfl, dn_int d2, Same.sqt (hid_sub _ _) h1, e2, q _ _ H (Go.refl E) dn hk⟩
theorem rok_ixL {ds : List PyData} {i : Int} {d : PyData} (e : atI ds i = some d) (hk : k d) : ROk K B G L Γ (rIxL K) (.list ds) (.int i) k := fun σ H Q v u E d1 d2 q => by
  cases d1 with
  | lst h1 h2 =>
    obtain ⟨w, e2, dn⟩ := dna_at h2 e
    exact ⟨_, _, i, w, rfl, dn_int d2, .inl (.inl (hid_sub _ _ _ _ h1)), e2, q _ _ H (Go.refl E) dn hk⟩
theorem rok_ixsT {ds : List PyData} {i : Int} {d : PyData} (e : atI ds i = some d) (hk : k d) : ROk K B G L Γ (rIx K) (.tuple ds) (.int i) k := fun σ H Q v u E d1 d2 q =>
  .inr (.inl (rok_ixT e hk σ H Q v u E d1 d2 q))
theorem rok_ixsL {ds : List PyData} {i : Int} {d : PyData} (e : atI ds i = some d) (hk : k d) : ROk K B G L Γ (rIx K) (.list ds) (.int i) k := fun σ H Q v u E d1 d2 q =>
  .inl (rok_ixL e hk σ H Q v u E d1 d2 q)
/-- tuple + tuple -/
theorem rok_catT {ds es : List PyData} (hl : ds.length + es.length ≤ 1000000) (hk : k (.tuple (ds ++ es))) : ROk K B G L Γ (rCatA K) (.tuple ds) (.tuple es) k := fun σ H Q v u E d1 d2 q => by
  cases d1 with
  | @tup a xs _ h1 h2 =>
    cases d2 with
    | @tup b ys _ h3 h4 =>
      refine ⟨a, b, xs, ys, rfl, rfl, Same.sqt (hid_sub _ _) h1, Same.sqt (hid_sub _ _) h3, by rw [h2.length, h4.length]; exact sz_ok hl, fun e => ?_, fun _ e => ?_, fun _ _ p hp => ?_⟩
      · subst e
        have z : ds = [] := List.eq_nil_of_length_eq_zero h2.length.symm
        subst z
        exact q _ _ H (Go.refl E) (.tup h3 h4) hk
      · subst e
        have z : es = [] := List.eq_nil_of_length_eq_zero h4.length.symm
        subst z
        rw [List.append_nil] at hk
        exact q _ _ H (Go.refl E) (.tup h1 h2) hk
      · have g := Go.new (o := .tup (xs ++ ys)) E hp
        exact q _ _ _ g (.tup (.inl (.inl (hid_new (E.newM hp)))) (DnA.append (h2.mono g.sm) (h4.mono g.sm))) hk
/-- list + list -/
theorem rok_catL {ds es : List PyData} (hl : ds.length + es.length ≤ 1000000) (hk : k (.list (ds ++ es))) : ROk K B G L Γ rCat (.list ds) (.list es) k := fun σ H Q v u E d1 d2 q => by
  cases d1 with
  | @lst a xs _ h1 h2 =>
    cases d2 with
    | @lst b ys _ h3 h4 =>
      refine ⟨a, b, xs, ys, rfl, rfl, hid_sub _ _ _ _ h1, hid_sub _ _ _ _ h3, by rw [h2.length, h4.length]; exact sz_ok hl, fun p hp => ?_⟩
      have g := Go.new (o := .lst (xs ++ ys)) E hp
      exact q _ _ _ g (.lst (hid_new (E.newM hp)) (DnA.append (h2.mono g.sm) (h4.mono g.sm))) hk
theorem DnA.reps {vs : List V} {ds : List PyData} (h : DnA K H vs ds) : ∀ n : Nat, DnA K H (List.replicate n vs).flatten (List.replicate n ds).flatten
  | 0 => .nil
  | n + 1 => by
    rw [List.replicate_succ, List.replicate_succ, List.flatten_cons, List.flatten_cons]
    exact DnA.append h (DnA.reps h n)
/-- tuple * int -/
theorem rok_repT {ds : List PyData} {n : Int} (hne : ds ≠ []) (h0 : 2 ≤ n) (h1 : n ≤ 1000) (hl : ds.length ≤ 1000) (hk : k (.tuple (List.replicate n.toNat ds).flatten)) : ROk K B G L Γ (rRepT K) (.tuple ds) (.int n) k := fun σ H Q v u E d1 d2 q => by
  cases d1 with
  | @tup a xs _ e1 h2 =>
    refine ⟨a, n, xs, rfl, dn_int d2, Same.sqt (hid_sub _ _) e1, fun z => hne ?_, h0, h1, by rw [h2.length]; exact hl, fun p hp => ?_⟩
    · subst z
      exact List.eq_nil_of_length_eq_zero h2.length.symm
    · have g := Go.new (o := .tup (List.replicate n.toNat xs).flatten) E hp
      exact q _ _ _ g (.tup (.inl (.inl (hid_new (E.newM hp)))) ((h2.mono g.sm).reps _)) hk
/-! unary -/
theorem uok_neg {i : Int} (hk : k (.int (-i))) : UOk K B G L Γ (rU fun i => .int (-i)) (.int i) k := fun σ H Q v E d1 q => ⟨i, dn_int d1, q _ _ H (Go.refl E) (.int _) hk⟩

/-! ### slices -/
noncomputable def EvO (K : PySem.W.Frag) (B : Bs) (G : List Hp) (L : List Addr) (Γ : List Sl) (to : TO) (ko : Option Int → Prop) : Prop := ∀ (σ : L2.St) (H : Hp) (Q : Option Int → Hp → Prop), Env K B G L H σ Γ →
  (∀ o H', Go K B G L Γ H H' σ → ko o → Q o H') → to σ H Q
theorem eo_no {ko : Option Int → Prop} (h : ko none) : EvO K B G L Γ tNoPart ko := fun σ H Q E q => q none H (Go.refl E) h
theorem eo_some {ko : Option Int → Prop} (h : EvP K B G L Γ te fun d => ∃ i, d = .int i ∧ ko (some i)) : EvO K B G L Γ (tPart te) ko := fun σ H Q E q =>
  h σ H _ E fun v d H1 g1 dn ⟨i, e, hk⟩ => by
    subst e
    exact ⟨i, dn_int dn, q _ H1 g1 hk⟩
noncomputable def cutD (ds : List PyData) (lo hi : Option Int) : List PyData := (ds.drop (HT.sIx ds.length 0 lo)).take (HT.sIx ds.length ds.length hi - HT.sIx ds.length 0 lo)
theorem dna_cut {vs : List V} {ds : List PyData} (h : DnA K H vs ds) (lo hi : Option Int) : DnA K H (cutV vs lo hi) (cutD ds lo hi) := by
  unfold cutV cutD
  rw [h.length]
  exact (h.drop _).take _
noncomputable def SOk (K : PySem.W.Frag) (B : Bs) (G : List Hp) (L : List Addr) (Γ : List Sl) (r : V → Option Int → Option Int → Hp → VK → Prop) (x : PyData) (lo hi : Option Int) (k : PyData → Prop) : Prop :=
  ∀ (σ : L2.St) (H : Hp) (Q : VK) (v : V), Env K B G L H σ Γ → Dn K (hid (L ++ B.M) H) v x → (∀ z d H', Go K B G L Γ H H' σ → Dn K (hid (L ++ B.M) H') z d → k d → Q z H') → r v lo hi H Q
theorem ev_sl {r : V → Option Int → Option Int → Hp → VK → Prop} {tl th : TO} (h : EvP K B G L Γ te fun x => EvO K B G L Γ tl fun lo => EvO K B G L Γ th fun hi => SOk K B G L Γ r x lo hi k) : EvP K B G L Γ (tSl r te tl th) k := fun σ H Q E q =>
  h σ H _ E fun v x H1 g1 dn1 h1 => h1 σ H1 _ g1.env fun lo H2 g2 h2 => h2 σ H2 _ g2.env fun hi H3 g3 h3 => h3 σ H3 Q v g3.env ((dn1.mono g2.sm).mono g3.sm) fun z d H4 g4 dn4 hk => q z d H4 (((g1.trans g2).trans g3).trans g4) dn4 hk
theorem sok_tup {ds : List PyData} {lo hi : Option Int} (hk : k (.tuple (cutD ds lo hi))) : SOk K B G L Γ (rSlA K) (.tuple ds) lo hi k := fun σ H Q v E d1 q => by
  cases d1 with
  | @tup a xs _ e1 h2 =>
    refine ⟨a, xs, rfl, Same.sqt (hid_sub _ _) e1, fun e => ?_, fun _ p hp => ?_⟩
    · have z : cutD ds lo hi = ds := by
        unfold cutD
        rw [← h2.length, e.1, e.2, h2.length]
        simp
      rw [z] at hk
      exact q _ _ H (Go.refl E) (.tup e1 h2) hk
    · have g := Go.new (o := .tup (cutV xs lo hi)) E hp
      exact q _ _ _ g (.tup (.inl (.inl (hid_new (E.newM hp)))) (dna_cut (h2.mono g.sm) lo hi)) hk
theorem sok_lst {ds : List PyData} {lo hi : Option Int} (hk : k (.list (cutD ds lo hi))) : SOk K B G L Γ (rSlL K) (.list ds) lo hi k := fun σ H Q v E d1 q => by
  cases d1 with
  | @lst a xs _ e1 h2 =>
    refine ⟨a, xs, rfl, .inl (.inl (hid_sub _ _ _ _ e1)), fun p hp => ?_⟩
    have g := Go.new (o := .lst (cutV xs lo hi)) E hp
    exact q _ _ _ g (.lst (hid_new (E.newM hp)) (dna_cut (h2.mono g.sm) lo hi)) hk

/-! ### calls of built-ins -/
noncomputable def rLenQ (K : PySem.W.Frag) : List V → Hp → VK → Prop := fun xs H Q => ∃ p ys, xs = [.ref p] ∧ (SqL K H p ys ∨ SqT K H p ys) ∧ Q (.int ys.length) H
theorem cok_lenT {ds : List PyData} (hk : k (.int ds.length)) : COk K B G L Γ (fun xs H Q => ∃ p ys, xs = [.ref p] ∧ (SqL K H p ys ∨ SqT K H p ys) ∧ Q (.int ys.length) H) [.tuple ds] k := fun σ H Q vs E d1 q => by
  cases d1 with
  | cons h1 h2 =>
    cases h2
    cases h1 with
    | @tup a xs _ e1 h2 =>
      refine ⟨a, xs, rfl, .inr (Same.sqt (hid_sub _ _) e1), ?_⟩
      rw [h2.length]
      exact q _ _ H (Go.refl E) (.int _) hk
theorem cok_lenL {ds : List PyData} (hk : k (.int ds.length)) : COk K B G L Γ (fun xs H Q => ∃ p ys, xs = [.ref p] ∧ (SqL K H p ys ∨ SqT K H p ys) ∧ Q (.int ys.length) H) [.list ds] k := fun σ H Q vs E d1 q => by
  cases d1 with
  | cons h1 h2 =>
    cases h2
    cases h1 with
    | @lst a xs _ e1 h2 =>
      refine ⟨a, xs, rfl, .inl (.inl (.inl (hid_sub _ _ _ _ e1))), ?_⟩
      rw [h2.length]
      exact q _ _ H (Go.refl E) (.int _) hk
theorem cok_abs {i : Int} (hk : k (.int (if i < 0 then -i else i))) : COk K B G L Γ (fun xs H Q => ∃ i, xs = [.int i] ∧ Q (.int (if i < 0 then -i else i)) H) [.int i] k := fun σ H Q vs E d1 q => by
  cases d1 with
  | cons h1 h2 =>
    cases h2
    cases h1
    exact ⟨i, rfl, q _ _ H (Go.refl E) (.int _) hk⟩
theorem cok_intI {i : Int} (hk : k (.int i)) : COk K B G L Γ (fun xs H Q => (∃ i, xs = [.int i] ∧ Q (.int i) H) ∨ ∃ k, xs = [.bl k] ∧ Q (.int (if k then 1 else 0)) H) [.int i] k := fun σ H Q vs E d1 q => by
  cases d1 with
  | cons h1 h2 =>
    cases h2
    cases h1
    exact .inl ⟨i, rfl, q _ _ H (Go.refl E) (.int _) hk⟩
theorem cok_gcd {i j : Int} (hk : k (.int (Nat.gcd i.natAbs j.natAbs : Nat))) : COk K B G L Γ rGcd [.int i, .int j] k := fun σ H Q vs E d1 q => by
  cases d1 with
  | cons h1 h2 =>
    cases h2 with
    | cons h2 h3 =>
      cases h3
      cases h1
      cases h2
      exact ⟨i, j, rfl, q _ _ H (Go.refl E) (.int _) hk⟩
theorem cok_all {bs : List Bool} (hk : k (.bool (bs.all id))) : COk K B G L Γ (rAll K) [.list (bs.map .bool)] k := fun σ H Q vs E d1 q => by
  cases d1 with
  | cons h1 h2 =>
    cases h2
    cases h1 with
    | @lst a xs _ e1 h2 =>
      have e := h2.bools
      subst e
      exact ⟨a, bs, rfl, .inl (.inl (hid_sub _ _ _ _ e1)), q _ _ H (Go.refl E) (.bl _) hk⟩
theorem Go.fresh (E : Env K B G L H σ Γ) (g : Go K B G L Γ H H' σ) {p : Addr} (hp : H' p = none) : H p = none := by
  cases e : H p with
  | none => rfl
  | some o =>
    exfalso
    by_cases w : p ∈ L ++ B.M
    · obtain ⟨o', e'⟩ := g.env.alive p w
      rw [hp] at e'; cases e'
    · have := g.sm p o (by rw [hid_out w]; exact e)
      rw [hid_none hp] at this; cases this
theorem en_list {kl : List PyData → Prop} (h : EvP K B G L Γ te fun d => ∃ ds, (d = .tuple ds ∨ d = .list ds) ∧ kl ds) :
    EvN K B G L Γ (tCB (fun xs H Q => ∃ p ys, xs = [.ref p] ∧ (SqL K H p ys ∨ SqT K H p ys) ∧ ∀ l, H l = none → Q (.ref l) (upd H l (.lst ys))) (tCons te tNil)) kl := fun σ H Q E q =>
  h σ H _ E fun v d H1 g1 dn ⟨ds, e, hk⟩ => by
    rcases e with rfl | rfl
    · cases dn with
      | @tup a xs _ e1 h2 =>
        refine ⟨a, xs, rfl, .inr (Same.sqt (hid_sub _ _) e1), fun l hl => ?_⟩
        have g2 := Go.new (o := .lst xs) g1.env hl
        exact q l xs ds _ (g1.trans g2) (Go.fresh E g1 hl) upd_same (h2.mono (hid_keep hl (same_upd hl))) hk
    · cases dn with
      | @lst a xs _ e1 h2 =>
        refine ⟨a, xs, rfl, .inl (.inl (.inl (hid_sub _ _ _ _ e1))), fun l hl => ?_⟩
        have g2 := Go.new (o := .lst xs) g1.env hl
        exact q l xs ds _ (g1.trans g2) (Go.fresh E g1 hl) upd_same (h2.mono (hid_keep hl (same_upd hl))) hk
/-- tuple(x) of a list (data) -/
theorem cok_tupL {ds : List PyData} (hk : k (.tuple ds)) : COk K B G L Γ (fun xs H Q => ∃ p ys, xs = [.ref p] ∧ ((SqL K H p ys ∧ ∀ l, H l = none → Q (.ref l) (upd H l (.tup ys))) ∨ (SqT K H p ys ∧ Q (.ref p) H))) [.list ds] k := fun σ H Q vs E d1 q => by
  cases d1 with
  | cons h1 h2 =>
    cases h2
    cases h1 with
    | @lst a xs _ e1 h2 =>
      refine ⟨a, xs, rfl, .inl ⟨.inl (.inl (hid_sub _ _ _ _ e1)), fun l hl => ?_⟩⟩
      have g2 := Go.new (o := .tup xs) E hl
      exact q _ _ _ g2 (.tup (.inl (.inl (hid_new (E.newM hl)))) (h2.mono g2.sm)) hk
theorem cok_tupT {ds : List PyData} (hk : k (.tuple ds)) : COk K B G L Γ (fun xs H Q => ∃ p ys, xs = [.ref p] ∧ ((SqL K H p ys ∧ ∀ l, H l = none → Q (.ref l) (upd H l (.tup ys))) ∨ (SqT K H p ys ∧ Q (.ref p) H))) [.tuple ds] k := fun σ H Q vs E d1 q => by
  cases d1 with
  | cons h1 h2 =>
    cases h2
    cases h1 with
    | @tup a xs _ e1 h2 =>
      exact ⟨a, xs, rfl, .inr ⟨Same.sqt (hid_sub _ _) e1, q _ _ H (Go.refl E) (.tup e1 h2) hk⟩⟩

/-! ### isinstance -/
noncomputable def tyD : PyData → String
  | .none => "NoneType"
  | .bool _ => "bool"
  | .int _ => "int"
  | .str _ => "str"
  | .list _ => "list"
  | .tuple _ => "tuple"
  | .dict _ => "dict"
theorem sqt_ty {a : Addr} {xs : List V} (h : SqT K H a xs) : TyX K H (.ref a) (.type "tuple") := by
  rcases h with (h | ⟨o, h⟩) | ⟨o, its, n, h1, h2, _⟩
  · exact .base (.tup h)
  · exact .fTuple h
  · exact .kTuple h1 h2
theorem dn_ty {v : V} {d : PyData} (h : Dn K H v d) : TyX K H v (.type (tyD d)) := by
  cases h with
  | non => exact .base .non
  | bl b => exact .base (.bl b)
  | int i => exact .base (.int i)
  | str x => exact .base (.str x)
  | lst h1 h2 => exact .base (.lst h1)
  | tup h1 h2 => exact sqt_ty h1
  | emp h => exact .base (.dK h)
theorem ev_isi {n : String} (h : EvP K B G L Γ te fun d => ∃ b, kitB (tyD d) n = some b ∧ k (.bool b)) : EvP K B G L Γ (tCB (rIsi K) (tCons te (tCons (tC (.ty n)) tNil))) k := fun σ H Q E q =>
  h σ H _ E fun v d H1 g1 dn ⟨b, e, hk⟩ => ⟨v, .ty n, .type (tyD d), .type n, b, rfl, .ty n, dn_ty (dn.mono (hid_sub _ _)), kit_ty e, q _ _ H1 g1 (.bl b) hk⟩
end
end DL
namespace DL
open PySem PySem.Spec PyProof.Rows L2

/-! ### statements -/
structure PD where
  nx : List Addr → List Sl → Prop
  rt : PyData → Prop
  bk : List Addr → List Sl → Prop := fun _ _ => False
  ct : List Addr → List Sl → Prop := fun _ _ => False
/-- the heap at a def's end -/
structure Out (B : Bs) (H : Hp) : Prop where
  fr : ∀ a o, a ∉ B.Ws → B.H a = some o → H a = some o
  ws : ∀ w ∈ B.Ws, WellAt H w
structure Mt (K : PySem.W.Frag) (B : Bs) (G : List Hp) (P : PD) (D : Ends) : Prop where
  nx : ∀ L Γ σ H, P.nx L Γ → Env K B G L H σ Γ → D.nx σ H
  rt : ∀ v d H, P.rt d → Out B H → Dn K (hid B.M H) v d → D.rt v H
  bk : ∀ L Γ σ H, P.bk L Γ → Env K B G L H σ Γ → D.bk σ H
  ct : ∀ L Γ σ H, P.ct L Γ → Env K B G L H σ Γ → D.ct σ H
noncomputable def StP (K : PySem.W.Frag) (B : Bs) (G : List Hp) (L : List Addr) (Γ : List Sl) (ts : TS) (P : PD) : Prop := ∀ (σ : L2.St) (H : Hp) (D : Ends), Env K B G L H σ Γ → Mt K B G P D → ts D σ H
section
variable {K : PySem.W.Frag} {B : Bs} {G : List Hp} {L : List Addr} {Γ : List Sl} {H H' H2 : Hp} {σ : L2.St}
variable {te ta tb tc : TE} {tt tu : TT} {tr : TA} {k : PyData → Prop} {x y : PyData} {P P' : PD} {t u : TS}
theorem Env.out (E : Env K B G L H σ Γ) : Out B H := ⟨E.fr, E.ws⟩
theorem hid_M (L M : List Addr) (H : Hp) : Same (hid (L ++ M) H) (hid M H) := hid_less H fun a h => List.mem_append_right _ h
theorem st_seq (h : StP K B G L Γ t { P with nx := fun L' Γ' => StP K B G L' Γ' u P }) : StP K B G L Γ (tSeq t u) P := fun σ H D E M =>
  h σ H { D with nx := u D } E ⟨fun L' Γ' σ' H' hs E' => hs σ' H' D E' M, M.rt, M.bk, M.ct⟩
theorem st_next (h : P.nx L Γ) : StP K B G L Γ tNext P := fun σ H D E M => M.nx L Γ σ H h E
theorem st_asg {i : Nat} (h : EvP K B G L Γ te fun d => P.nx L (Γ.set i (.d d))) : StP K B G L Γ (tAsg te (gName i)) P := fun σ H D E M =>
  h σ H _ E fun v d H1 g1 dn hk => M.nx _ _ _ _ hk (g1.env.put i dn)
theorem st_drop (h : EvP K B G L Γ te fun d => P.nx L Γ) : StP K B G L Γ (tDrop te) P := fun σ H D E M =>
  h σ H _ E fun v d H1 g1 dn hk => M.nx _ _ _ _ hk g1.env
theorem st_ret (h : EvP K B G L Γ te P.rt) : StP K B G L Γ (tRet te) P := fun σ H D E M =>
  h σ H _ E fun v d H1 g1 dn hk => M.rt _ _ _ hk g1.env.out (dn.mono (hid_M _ _ _))
theorem st_if (h : EvT K B G L Γ tt fun b => (b = true → StP K B G L Γ t P) ∧ (b = false → StP K B G L Γ u P)) : StP K B G L Γ (tIfS tt t u) P := fun σ H D E M =>
  h σ H _ E fun b H1 g1 ⟨h1, h2⟩ => by
    cases b with
    | true => exact iteT (h1 rfl σ H1 D g1.env M)
    | false => exact iteF (h2 rfl σ H1 D g1.env M)
/-- what is known of a slot is forgotten -/
theorem Env.weak (E : Env K B G L H σ Γ) (i : Nat) : Env K B G L H σ (Γ.set i .un) := by
  have g : ∀ (j : Nat) (s : Sl), (Γ.set i .un)[j]? = some s → s = .un ∨ Γ[j]? = some s := fun j s hj => by
    by_cases e : j = i
    · subst e
      by_cases hl : j < Γ.length
      · rw [List.getElem?_set_self hl] at hj
        exact .inl (Option.some.inj hj).symm
      · rw [List.getElem?_eq_none (by rw [List.length_set]; omega)] at hj
        cases hj
    · rw [List.getElem?_set_ne (Ne.symm e)] at hj
      exact .inr hj
  refine ⟨E.fr, E.ws, E.wm, E.lm, E.lo, by rw [List.length_set]; exact E.len, fun j s hj => ?_, E.gh, fun j l xs hj => ?_, fun j k l xs ys hj hk => ?_, fun j w hj => ?_⟩
  · rcases g j s hj with rfl | hj
    · trivial
    · exact E.sl j s hj
  · rcases g j _ hj with e | hj
    · cases e
    · exact E.ow j l xs hj
  · rcases g j _ hj with e | hj
    · cases e
    · rcases g k _ hk with e | hk
      · cases e
      · exact E.ou j k l xs ys hj hk
  · rcases g j _ hj with e | hj
    · cases e
    · exact E.we j w hj
/-- several targets -/
noncomputable def TgP (K : PySem.W.Frag) (B : Bs) (G : List Hp) (L : List Addr) (Γ : List Sl) (tg : TGs) (ds : List PyData) (kx : List Sl → Prop) : Prop :=
  ∀ (σ : L2.St) (H : Hp) (vs : List V) (Q : L2.St → Hp → Prop), Env K B G L H σ Γ → DnA K (hid (L ++ B.M) H) vs ds → (∀ Γ' σ' , Env K B G L H σ' Γ' → kx Γ' → Q σ' H) → tg vs σ H Q
theorem tg_nil {kx : List Sl → Prop} (h : kx Γ) : TgP K B G L Γ gNil [] kx := fun σ H vs Q E d q => by
  cases d
  exact ⟨rfl, q Γ σ E h⟩
theorem tg_cons {i : Nat} {tg : TGs} {d : PyData} {ds : List PyData} {kx : List Sl → Prop} (h : TgP K B G L (Γ.set i (.d d)) tg ds kx) : TgP K B G L Γ (gCons (gName i) tg) (d :: ds) kx := fun σ H vs Q E dn q => by
  cases dn with
  | cons h1 h2 => exact ⟨_, _, rfl, h _ H _ Q (E.put i h1) h2 q⟩
theorem st_unpack {n : Nat} {tg : TGs} (h : EvP K B G L Γ te fun d => ∃ ds, d = .tuple ds ∧ ds.length = n ∧ TgP K B G L Γ tg ds fun Γ' => P.nx L Γ') : StP K B G L Γ (tAsg te (gTup K n tg)) P := fun σ H D E M =>
  h σ H _ E fun v d H1 g1 dn ⟨ds, e, hn, ht⟩ => by
    subst e
    cases dn with
    | @tup a xs _ e1 h2 =>
      exact ⟨a, xs, rfl, Same.sqt (hid_sub _ _) e1, by rw [h2.length]; exact hn, ht σ H1 xs _ g1.env h2 fun Γ' σ' E' hk => M.nx _ _ _ _ hk E'⟩
theorem st_par {i j : Nat} (h : EvA K B G L Γ tr fun ds => ∃ x y, ds = [x, y] ∧ P.nx L ((Γ.set i (.d x)).set j (.d y))) : StP K B G L Γ (tPar i j tr) P := fun σ H D E M =>
  h σ H _ E fun vs ds H1 g1 dn ⟨x, y, e, hk⟩ => by
    subst e
    cases dn with
    | cons h1 h2 =>
      cases h2 with
      | cons h2 h3 =>
        cases h3
        exact ⟨_, _, rfl, M.nx _ _ _ _ hk ((g1.env.put i h1).put j h2)⟩
theorem st_par3 {i j l : Nat} (h : EvA K B G L Γ tr fun ds => ∃ x y z, ds = [x, y, z] ∧ P.nx L (((Γ.set i (.d x)).set j (.d y)).set l (.d z))) : StP K B G L Γ (tPar3 i j l tr) P := fun σ H D E M =>
  h σ H _ E fun vs ds H1 g1 dn ⟨x, y, z, e, hk⟩ => by
    subst e
    cases dn with
    | cons h1 h2 =>
      cases h2 with
      | cons h2 h3 =>
        cases h3 with
        | cons h3 h4 =>
          cases h4
          exact ⟨_, _, _, rfl, M.nx _ _ _ _ hk (((g1.env.put i h1).put j h2).put l h3)⟩
theorem st_augI {i : Nat} {f : Int → Int → Int} {a : Int} (h0 : Γ[i]? = some (.d (.int a))) (h : EvP K B G L Γ te fun d => ∃ b, d = .int b ∧ P.nx L (Γ.set i (.d (.int (f a b))))) : StP K B G L Γ (tAug i te (ipI f)) P := fun σ H D E M => by
  obtain ⟨v, e, dn⟩ := E.get h0
  refine ⟨v, e, h σ H _ E fun u d H1 g1 dn1 ⟨b, e1, hk⟩ => ?_⟩
  subst e1
  exact ⟨a, b, dn_int dn, dn_int dn1, M.nx _ _ _ _ hk (g1.env.put i (.int _))⟩

/-! ### local lists -/
theorem Go.keepL {l : Addr} (E : Env K B G L H σ Γ) (g : Go K B G L Γ H H' σ) (hl : H l = none) : Same (hid (L ++ B.M) H) (hid (l :: L ++ B.M) H') := fun a o e => by
  obtain ⟨q, e1⟩ := hid_some e
  have q2 : a ∉ l :: L ++ B.M := fun z => by
    rcases List.mem_cons.mp z with z | z
    · rw [z, hl] at e1; cases e1
    · exact q z
  rw [hid_out q2]
  exact (hid_some (g.sm a o e)).2
/-- a fresh list becomes a slot's own -/
theorem Env.take {l : Addr} {vs : List V} {ds : List PyData} (E : Env K B G L H σ Γ) (g : Go K B G L Γ H H' σ) (hl : H l = none) (h : H' l = some (.lst vs)) (i : Nat)
    (hself : DnA K (hid (l :: (L ++ B.M)) H') vs ds) : Env K B G (l :: L) H' (σ.set i (some (.ref l))) (Γ.set i (.own l ds)) := by
  have E' := g.env
  have hkeep := g.keepL E hl
  have nL : l ∉ L := fun q => by
    obtain ⟨_, xs, e⟩ := E.lo l q
    rw [hl] at e; cases e
  have gt : ∀ (j : Nat) (s : Sl), (Γ.set i (.own l ds))[j]? = some s → (j = i ∧ s = .own l ds ∧ j < Γ.length) ∨ (j ≠ i ∧ Γ[j]? = some s) := fun j s hj => by
    by_cases e : j = i
    · subst e
      refine .inl ⟨rfl, ?_⟩
      by_cases hl : j < Γ.length
      · rw [List.getElem?_set_self hl] at hj
        exact ⟨(Option.some.inj hj).symm, hl⟩
      · rw [List.getElem?_eq_none (by rw [List.length_set]; omega)] at hj
        cases hj
    · rw [List.getElem?_set_ne (Ne.symm e)] at hj
      exact .inr ⟨e, hj⟩
  refine ⟨E'.fr, E'.ws, E'.wm, E'.lm, fun m hm => ?_, by rw [List.length_set, List.length_set]; exact E'.len, fun j s hj => ?_, fun p hp => (E.gh p hp).trans hkeep, fun j m xs hj => ?_, fun j k m xs ys hj hk => ?_, fun j w hj => ?_⟩
  · rcases List.mem_cons.mp hm with rfl | hm
    · refine ⟨?_, _, h⟩
      cases e : B.H m with
      | none => rfl
      | some o =>
        exfalso
        by_cases w : m ∈ B.Ws
        · obtain ⟨_, _, _, q, _⟩ := E.ws m w
          rw [hl] at q; cases q
        · have q := E.fr m o w e
          rw [hl] at q; cases q
    · exact E'.lo m hm
  · rcases gt j s hj with ⟨rfl, rfl, hj'⟩ | ⟨ne, hj'⟩
    · refine ⟨?_, vs, h, hself⟩
      rw [List.getElem?_set_self (by rw [E'.len]; exact hj')]
      rfl
    · rw [List.getElem?_set_ne (Ne.symm ne)]
      have q := E.sl j s hj'
      cases s with
      | un => trivial
      | d x =>
        obtain ⟨v, e, dn⟩ := q
        exact ⟨v, e, dn.mono hkeep⟩
      | own m xs =>
        obtain ⟨e, ws, hm, dnm⟩ := q
        exact ⟨e, ws, g.kp m (E.ow j m xs hj') _ hm, dnm.mono hkeep⟩
      | well w => exact q
      | raw v => exact q
  · rcases gt j _ hj with ⟨_, e, _⟩ | ⟨_, hj⟩
    · cases e
      exact List.mem_cons_self ..
    · exact List.mem_cons_of_mem _ (E'.ow j m xs hj)
  · rcases gt j _ hj with ⟨ej, e, _⟩ | ⟨_, hj⟩
    · rcases gt k _ hk with ⟨ek, e', _⟩ | ⟨_, hk⟩
      · rw [ej, ek]
      · exfalso
        cases e
        exact nL (E'.ow k _ _ hk)
    · rcases gt k _ hk with ⟨ek, e', _⟩ | ⟨_, hk⟩
      · exfalso
        cases e'
        exact nL (E'.ow j _ _ hj)
      · exact E'.ou j k m xs ys hj hk
  · rcases gt j _ hj with ⟨_, e, _⟩ | ⟨_, hj⟩
    · cases e
    · exact E'.we j w hj
/-- x = a new list, kept as the name's own -/
theorem st_own {i : Nat} (h : EvN K B G L Γ te fun ds => ∀ l, P.nx (l :: L) (Γ.set i (.own l ds))) : StP K B G L Γ (tAsg te (gName i)) P := fun σ H D E M =>
  h σ H _ E fun p vs ds H' g hp e dn hk => M.nx _ _ _ _ (hk p) (Env.take E g hp e i dn)
/-- an own list's new content -/
theorem Env.write {i : Nat} {l : Addr} {xs ys : List PyData} {vs : List V} (E : Env K B G L H σ Γ) (hi : Γ[i]? = some (.own l xs)) (dn : DnA K (hid (L ++ B.M) H) vs ys) :
    Env K B G L (upd H l (.lst vs)) σ (Γ.set i (.own l ys)) := by
  have hl := E.ow i l xs hi
  have lM : l ∈ L ++ B.M := List.mem_append_left _ hl
  have hs : Same (hid (L ++ B.M) H) (hid (L ++ B.M) (upd H l (.lst vs))) := fun a o e => by
    obtain ⟨q, e⟩ := hid_some e
    rw [hid_out q, upd_ne (fun (z : a = l) => q (by rw [z]; exact lM))]
    exact e
  have gt : ∀ (j : Nat) (s : Sl), (Γ.set i (.own l ys))[j]? = some s → (j = i ∧ s = .own l ys ∧ j < Γ.length) ∨ (j ≠ i ∧ Γ[j]? = some s) := fun j s hj => by
    by_cases e : j = i
    · subst e
      refine .inl ⟨rfl, ?_⟩
      by_cases hl : j < Γ.length
      · rw [List.getElem?_set_self hl] at hj
        exact ⟨(Option.some.inj hj).symm, hl⟩
      · rw [List.getElem?_eq_none (by rw [List.length_set]; omega)] at hj
        cases hj
    · rw [List.getElem?_set_ne (Ne.symm e)] at hj
      exact .inr ⟨e, hj⟩
  refine ⟨fun a o w e => ?_, fun w hw => ?_, E.wm, E.lm, fun m hm => ?_, by rw [List.length_set]; exact E.len, fun j s hj => ?_, fun p hp => (E.gh p hp).trans hs, fun j m zs hj => ?_, fun j k m zs ws hj hk => ?_, fun j w hj => ?_⟩
  · rw [upd_ne]
    · exact E.fr a o w e
    · rintro rfl
      rw [(E.lo a hl).1] at e; cases e
  · obtain ⟨n, b, c, e, q⟩ := E.ws w hw
    refine ⟨n, b, c, ?_, q⟩
    rw [upd_ne (fun (z : w = l) => E.lW hl (by rw [← z]; exact hw))]
    exact e
  · refine ⟨(E.lo m hm).1, ?_⟩
    by_cases z : m = l
    · exact ⟨vs, by rw [z]; exact upd_same⟩
    · rw [upd_ne z]
      exact (E.lo m hm).2
  · rcases gt j s hj with ⟨rfl, rfl, hj'⟩ | ⟨ne, hj'⟩
    · obtain ⟨e, _⟩ := E.sl j _ hi
      exact ⟨e, vs, upd_same, dn.mono hs⟩
    · have q := E.sl j s hj'
      cases s with
      | un => trivial
      | d x =>
        obtain ⟨v, e, dn⟩ := q
        exact ⟨v, e, dn.mono hs⟩
      | own m zs =>
        obtain ⟨e, ws, hm, dnm⟩ := q
        refine ⟨e, ws, ?_, dnm.mono hs⟩
        rw [upd_ne (fun (z : m = l) => ne (E.ou j i m zs xs hj' (by rw [z]; exact hi)))]
        exact hm
      | well w => exact q
      | raw v => exact q
  · rcases gt j _ hj with ⟨_, e, _⟩ | ⟨_, hj⟩
    · cases e
      exact hl
    · exact E.ow j m zs hj
  · rcases gt j _ hj with ⟨ej, e, _⟩ | ⟨nj, hj⟩
    · rcases gt k _ hk with ⟨ek, e', _⟩ | ⟨_, hk⟩
      · rw [ej, ek]
      · cases e
        rw [ej]
        exact E.ou i k _ _ _ hi hk
    · rcases gt k _ hk with ⟨ek, e', _⟩ | ⟨_, hk⟩
      · cases e'
        rw [ek]
        exact E.ou j i _ _ _ hj hi
      · exact E.ou j k m zs ws hj hk
  · rcases gt j _ hj with ⟨_, e, _⟩ | ⟨_, hj⟩
    · cases e
    · exact E.we j w hj
/-- xs.append(e), xs an own list -/
theorem st_append {i : Nat} {l : Addr} {xs : List PyData} (hi : Γ[i]? = some (.own l xs)) (hz : xs.length < 100000) (h : EvP K B G L Γ te fun d => P.nx L (Γ.set i (.own l (xs ++ [d])))) :
    StP K B G L Γ (tDrop (tBM K "list" rAppend (tVar i) (tCons te tNil))) P := fun σ H D E M => by
  obtain ⟨e, vs, hl, dn⟩ := E.getO hi
  refine ⟨_, e, .inl ⟨rfl, vs, .inl (.inl hl)⟩, h σ H _ E fun v d H1 g1 dn1 hk => ?_⟩
  obtain ⟨e1, ws, hl1, dn2⟩ := g1.env.getO hi
  refine ⟨l, ws, v, rfl, rfl, hl1, ?_, M.nx _ _ _ _ hk (Env.write g1.env hi (dn2.append (.cons dn1 .nil)))⟩
  rw [dn2.length]
  exact Nat.lt_of_lt_of_le hz (by decide)
/-- reading an own list -/
theorem ev_lenO {i : Nat} {l : Addr} {xs : List PyData} (hi : Γ[i]? = some (.own l xs)) (hk : k (.int xs.length)) : EvP K B G L Γ (tCB (fun xs H Q => ∃ p ys, xs = [.ref p] ∧ (SqL K H p ys ∨ SqT K H p ys) ∧ Q (.int ys.length) H) (tCons (tVar i) tNil)) k := fun σ H Q E q => by
  obtain ⟨e, vs, hl, dn⟩ := E.getO hi
  refine ⟨_, e, l, vs, rfl, .inl (.inl (.inl hl)), ?_⟩
  rw [dn.length]
  exact q _ _ H (Go.refl E) (.int _) hk
/-- an own list is data from here on -/
theorem Env.freeze {i : Nat} {l : Addr} {L' : List Addr} {xs : List PyData} (E : Env K B G (l :: L') H σ Γ) (hn : l ∉ L') (hi : Γ[i]? = some (.own l xs)) : Env K B G L' H σ (Γ.set i (.d (.list xs))) := by
  have hs : Same (hid (l :: L' ++ B.M) H) (hid (L' ++ B.M) H) := hid_less H fun a h => List.mem_cons_of_mem _ h
  have lM : l ∉ L' ++ B.M := fun z => by
    rcases List.mem_append.mp z with z | z
    · exact hn z
    · obtain ⟨o, e⟩ := E.lm l z
      rw [(E.lo l (List.mem_cons_self ..)).1] at e; cases e
  have gt : ∀ (j : Nat) (s : Sl), (Γ.set i (.d (.list xs)))[j]? = some s → (j = i ∧ s = .d (.list xs) ∧ j < Γ.length) ∨ (j ≠ i ∧ Γ[j]? = some s) := fun j s hj => by
    by_cases e : j = i
    · subst e
      refine .inl ⟨rfl, ?_⟩
      by_cases hl : j < Γ.length
      · rw [List.getElem?_set_self hl] at hj
        exact ⟨(Option.some.inj hj).symm, hl⟩
      · rw [List.getElem?_eq_none (by rw [List.length_set]; omega)] at hj
        cases hj
    · rw [List.getElem?_set_ne (Ne.symm e)] at hj
      exact .inr ⟨e, hj⟩
  refine ⟨E.fr, E.ws, E.wm, E.lm, fun m hm => E.lo m (List.mem_cons_of_mem _ hm), by rw [List.length_set]; exact E.len, fun j s hj => ?_, fun p hp => (E.gh p hp).trans hs, fun j m zs hj => ?_, fun j k m zs ws hj hk => ?_, fun j w hj => ?_⟩
  · rcases gt j s hj with ⟨rfl, rfl, hj'⟩ | ⟨ne, hj'⟩
    · obtain ⟨e, vs, hl, dn⟩ := E.sl j _ hi
      exact ⟨_, e, .lst (by rw [hid_out lM]; exact hl) (dn.mono hs)⟩
    · have q := E.sl j s hj'
      cases s with
      | un => trivial
      | d x =>
        obtain ⟨v, e, dn⟩ := q
        exact ⟨v, e, dn.mono hs⟩
      | own m zs =>
        obtain ⟨e, ws, hm, dnm⟩ := q
        exact ⟨e, ws, hm, dnm.mono hs⟩
      | well w => exact q
      | raw v => exact q
  · rcases gt j _ hj with ⟨_, e, _⟩ | ⟨nj, hj⟩
    · cases e
    · rcases List.mem_cons.mp (E.ow j m zs hj) with z | z
      · subst z
        exact absurd (E.ou j i m zs xs hj hi) nj
      · exact z
  · rcases gt j _ hj with ⟨ej, e, _⟩ | ⟨nj, hj⟩
    · cases e
    · rcases gt k _ hk with ⟨ek, e', _⟩ | ⟨_, hk⟩
      · cases e'
      · exact E.ou j k m zs ws hj hk
  · rcases gt j _ hj with ⟨_, e, _⟩ | ⟨_, hj⟩
    · cases e
    · exact E.we j w hj
theorem st_freeze (i : Nat) {l : Addr} {L' : List Addr} {xs : List PyData} (hi : Γ[i]? = some (.own l xs)) (hn : l ∉ L') (h : StP K B G L' (Γ.set i (.d (.list xs))) t P) : StP K B G (l :: L') Γ t P := fun σ H D E M => h σ H D (E.freeze hn hi) M
end
end DL
namespace DL
open PySem PySem.Spec PyProof.Rows L2
section
variable {K : PySem.W.Frag} {B : Bs} {G : List Hp} {L : List Addr} {Γ : List Sl} {H H' H2 : Hp} {σ : L2.St}
variable {te ta tb tc tl : TE} {tt tu : TT} {tr : TA} {k : PyData → Prop} {x y : PyData} {P P' : PD} {t u : TS}

/-! ### loops -/
theorem Env.gpush (E : Env K B G L H σ Γ) : Env K B (hid (L ++ B.M) H :: G) L H σ Γ := ⟨E.fr, E.ws, E.wm, E.lm, E.lo, E.len, E.sl, fun g hg => by
  rcases List.mem_cons.mp hg with rfl | hg
  · exact Same.refl _
  · exact E.gh g hg, E.ow, E.ou, E.we⟩
theorem Env.gpop {g : Hp} (E : Env K B (g :: G) L H σ Γ) : Env K B G L H σ Γ := ⟨E.fr, E.ws, E.wm, E.lm, E.lo, E.len, E.sl, fun g' hg => E.gh g' (List.mem_cons_of_mem _ hg), E.ow, E.ou, E.we⟩
noncomputable def PD.inLoop (P : PD) (I : List Addr → List Sl → Prop) : PD := { nx := I, ct := I, bk := P.nx, rt := P.rt }
/-- for x in (a list that is data | a tuple) -/
theorem st_forL {j : Nat} (h : EvP K B G L Γ tl fun d => ∃ ds, d = .list ds ∧ ∃ I : Nat → List Addr → List Sl → Prop, I 0 L Γ ∧
    (∀ i d' L' Γ' g, ds[i]? = some d' → I i L' Γ' → StP K B (g :: G) L' (Γ'.set j (.d d')) t (P.inLoop (I (i + 1)))) ∧ ∀ L' Γ', I ds.length L' Γ' → P.nx L' Γ') :
    StP K B G L Γ (tFor (iList K tl) (gName j) t) P := fun σ H D E M =>
  h σ H _ E fun v d H1 g1 dn ⟨ds, e, I, h0, hs, hd⟩ => by
    subst e
    cases dn with
    | @lst a xs _ e1 h2 =>
      have E1 := g1.env.gpush
      refine ⟨a, rfl, ⟨xs, .inl (.inl (hid_sub _ _ _ _ e1))⟩, for_list (xs := xs) (fun i σ' H' => ∃ L' Γ', I i L' Γ' ∧ Env K B (hid (L ++ B.M) H1 :: G) L' H' σ' Γ') ⟨L, Γ, h0, E1⟩ (fun i σ' H' _ ⟨L', Γ', _, E'⟩ => ?_) (fun i x σ' H' hi ⟨L', Γ', hI, E'⟩ => ?_) (fun σ' H' ⟨L', Γ', hI, E'⟩ => ?_)⟩
      · exact .inl (.inl (hid_sub _ _ _ _ (E'.gh _ (List.mem_cons_self ..) _ _ e1)))
      · obtain ⟨d', e', dn'⟩ := h2.getV hi
        refine hs i d' L' Γ' _ e' hI _ H' _ (E'.put j (dn'.mono (E'.gh _ (List.mem_cons_self ..)))) ⟨fun L2 Γ2 σ2 H2 q E2 => ⟨L2, Γ2, q, E2⟩, M.rt, fun L2 Γ2 σ2 H2 q E2 => M.nx _ _ _ _ q E2.gpop, fun L2 Γ2 σ2 H2 q E2 => ⟨L2, Γ2, q, E2⟩⟩
      · rw [h2.length] at hI
        exact M.nx _ _ _ _ (hd L' Γ' hI) E'.gpop
theorem st_forT {j : Nat} (h : EvP K B G L Γ tl fun d => ∃ ds, d = .tuple ds ∧ ∃ I : Nat → List Addr → List Sl → Prop, I 0 L Γ ∧
    (∀ i d' L' Γ' g, ds[i]? = some d' → I i L' Γ' → StP K B (g :: G) L' (Γ'.set j (.d d')) t (P.inLoop (I (i + 1)))) ∧ ∀ L' Γ', I ds.length L' Γ' → P.nx L' Γ') :
    StP K B G L Γ (tFor (iTup K tl) (gName j) t) P := fun σ H D E M =>
  h σ H _ E fun v d H1 g1 dn ⟨ds, e, I, h0, hs, hd⟩ => by
    subst e
    cases dn with
    | @tup a xs _ e1 h2 =>
      have E1 := g1.env.gpush
      refine ⟨a, rfl, ⟨xs, Same.sqt (hid_sub _ _) e1⟩, for_tup (xs := xs) (fun i σ' H' => ∃ L' Γ', I i L' Γ' ∧ Env K B (hid (L ++ B.M) H1 :: G) L' H' σ' Γ') ⟨L, Γ, h0, E1⟩ (fun i σ' H' _ ⟨L', Γ', _, E'⟩ => ?_) (fun i x σ' H' hi ⟨L', Γ', hI, E'⟩ => ?_) (fun σ' H' ⟨L', Γ', hI, E'⟩ => ?_)⟩
      · exact Same.sqt (hid_sub _ _) (Same.sqt (E'.gh _ (List.mem_cons_self ..)) e1)
      · obtain ⟨d', e', dn'⟩ := h2.getV hi
        refine hs i d' L' Γ' _ e' hI _ H' _ (E'.put j (dn'.mono (E'.gh _ (List.mem_cons_self ..)))) ⟨fun L2 Γ2 σ2 H2 q E2 => ⟨L2, Γ2, q, E2⟩, M.rt, fun L2 Γ2 σ2 H2 q E2 => M.nx _ _ _ _ q E2.gpop, fun L2 Γ2 σ2 H2 q E2 => ⟨L2, Γ2, q, E2⟩⟩
      · rw [h2.length] at hI
        exact M.nx _ _ _ _ (hd L' Γ' hI) E'.gpop
/-- for k in range(n) -/
theorem st_forR {j : Nat} (h : EvA K B G L Γ tr fun vs => ∃ n : Int, vs = [.int n] ∧ -1000000 ≤ n ∧ n ≤ 1000000 ∧ ∃ I : Nat → List Addr → List Sl → Prop, I 0 L Γ ∧
    (∀ i L' Γ', i < n.toNat → I i L' Γ' → StP K B G L' (Γ'.set j (.d (.int (i : Int)))) t (P.inLoop (I (i + 1)))) ∧ ∀ L' Γ', I n.toNat L' Γ' → P.nx L' Γ') :
    StP K B G L Γ (tFor (iRng1 tr) (gName j) t) P := fun σ H D E M =>
  h σ H _ E fun vs ds H1 g1 dn ⟨n, e, hn0, hn, I, h0, hs, hd⟩ => by
    subst e
    cases dn with
    | cons d1 d2 =>
      cases d2
      cases d1
      refine ⟨n, rfl, by omega, by omega, for_range (lo := 0) (n := n.toNat) (fun i σ' H' => ∃ L' Γ', I i L' Γ' ∧ Env K B G L' H' σ' Γ') ⟨L, Γ, h0, g1.env⟩ (fun i σ' H' hi ⟨L', Γ', hI, E'⟩ => ?_) (fun σ' H' ⟨L', Γ', hI, E'⟩ => M.nx _ _ _ _ (hd L' Γ' hI) E')⟩
      have e0 : (0 : Int) + (i : Int) = (i : Int) := Int.zero_add _
      rw [e0]
      exact hs i L' Γ' hi hI _ H' _ (E'.put j (.int _)) ⟨fun L2 Γ2 σ2 H2 q E2 => ⟨L2, Γ2, q, E2⟩, M.rt, M.nx, fun L2 Γ2 σ2 H2 q E2 => ⟨L2, Γ2, q, E2⟩⟩
/-- while -/
theorem st_while (I : Nat → List Addr → List Sl → Prop) (m0 : Nat) (h0 : I m0 L Γ)
    (hs : ∀ m L' Γ', I m L' Γ' → EvT K B G L' Γ' tt fun b => (b = true → StP K B G L' Γ' t (P.inLoop fun L2 Γ2 => ∃ m', m' < m ∧ I m' L2 Γ2)) ∧ (b = false → P.nx L' Γ')) : StP K B G L Γ (tWhile tt t) P := fun σ H D E M =>
  ⟨fun m σ' H' => ∃ L' Γ', I m L' Γ' ∧ Env K B G L' H' σ' Γ', ⟨m0, L, Γ, h0, E⟩, fun m σ' H' ⟨L', Γ', hI, E'⟩ => hs m L' Γ' hI σ' H' _ E' fun b H1 g1 ⟨h1, h2⟩ => by
    cases b with
    | true =>
      refine iteT ⟨fun σ2 H2 => ∃ L2 Γ2, (∃ m', m' < m ∧ I m' L2 Γ2) ∧ Env K B G L2 H2 σ2 Γ2, fun σ2 H2 ⟨L2, Γ2, ⟨m', hm, hI2⟩, E2⟩ => ⟨m', hm, L2, Γ2, hI2, E2⟩, ?_⟩
      exact h1 rfl σ' H1 _ g1.env ⟨fun L2 Γ2 σ2 H2 q E2 => ⟨L2, Γ2, q, E2⟩, M.rt, M.nx, fun L2 Γ2 σ2 H2 q E2 => ⟨L2, Γ2, q, E2⟩⟩
    | false => exact iteF (M.nx _ _ _ _ (h2 rfl) g1.env)⟩

/-! ### comprehensions -/
/-- one more list of one's own, no name's -/
theorem Env.temp {l : Addr} {vs : List V} (E : Env K B G L H σ Γ) (g : Go K B G L Γ H H' σ) (hl : H l = none) (h : H' l = some (.lst vs)) : Env K B G (l :: L) H' σ Γ := by
  have E' := g.env
  have hkeep := g.keepL E hl
  refine ⟨E'.fr, E'.ws, E'.wm, E'.lm, fun m hm => ?_, E'.len, fun j s hj => ?_, fun p hp => (E.gh p hp).trans hkeep, fun j m xs hj => List.mem_cons_of_mem _ (E'.ow j m xs hj), E'.ou, E'.we⟩
  · rcases List.mem_cons.mp hm with rfl | hm
    · refine ⟨?_, _, h⟩
      cases e : B.H m with
      | none => rfl
      | some o =>
        exfalso
        by_cases w : m ∈ B.Ws
        · obtain ⟨_, _, _, q, _⟩ := E.ws m w
          rw [hl] at q; cases q
        · have q := E.fr m o w e
          rw [hl] at q; cases q
    · exact E'.lo m hm
  · have q := E.sl j s hj
    cases s with
    | un => trivial
    | d x =>
      obtain ⟨v, e, dn⟩ := q
      exact ⟨v, e, dn.mono hkeep⟩
    | own m xs =>
      obtain ⟨e, ws, hm, dnm⟩ := q
      exact ⟨e, ws, g.kp m (E.ow j m xs hj) _ hm, dnm.mono hkeep⟩
    | well w => exact q
    | raw v => exact q
noncomputable def wipeG (Γ : List Sl) : List Nat → List Sl
  | [] => Γ
  | v :: vs => (wipeG Γ vs).set v .un
theorem Env.set_un (E : Env K B G L H σ Γ) (i : Nat) : Env K B G L H (σ.set i none) (Γ.set i .un) := by
  have E2 := E.weak i
  refine ⟨E2.fr, E2.ws, E2.wm, E2.lm, E2.lo, by rw [List.length_set]; exact E2.len, fun j s hj => ?_, E2.gh, E2.ow, E2.ou, E2.we⟩
  by_cases e : j = i
  · subst e
    have : s = .un := by
      by_cases hl : j < Γ.length
      · rw [List.getElem?_set_self hl] at hj
        exact (Option.some.inj hj).symm
      · rw [List.getElem?_eq_none (by rw [List.length_set]; omega)] at hj
        cases hj
    subst this
    trivial
  · rw [List.getElem?_set_ne (Ne.symm e)]
    exact E2.sl j s hj
theorem Env.wipe (E : Env K B G L H σ Γ) : ∀ vs : List Nat, Env K B G L H (L2.wipe σ vs) (wipeG Γ vs)
  | [] => E
  | v :: vs => (Env.wipe E vs).set_un v
/-- a comprehension's turns: J says what is made of the first turns -/
noncomputable def CompOk (K : PySem.W.Frag) (B : Bs) (G : List Hp) (L : List Addr) (Γ : List Sl) (j : Nat) (tt : TT) (te : TE) (vs : List Nat) (n : Nat) (item : Nat → PyData → Prop) (J : Nat → List PyData → Prop) : Prop :=
  J 0 [] ∧ ∀ i D d' acc, item i d' → J i acc → i < n → EvT K B G (D :: L) ((wipeG Γ vs).set j (.d d')) tt fun b =>
    (b = true → EvP K B G (D :: L) ((wipeG Γ vs).set j (.d d')) te fun y => J (i + 1) (acc ++ [y])) ∧ (b = false → J (i + 1) acc)
/-- the heap and the list so far -/
structure Sofar (K : PySem.W.Frag) (B : Bs) (L : List Addr) (H1 H' : Hp) (D : Addr) (i : Nat) (J : Nat → List PyData → Prop) : Prop where
  rl : ∀ a o, a ∉ B.Ws → H1 a = some o → H' a = some o
  ws : ∀ w ∈ B.Ws, WellAt H' w
  it : ∃ accV acc, J i acc ∧ acc.length ≤ i ∧ H' D = some (.lst accV) ∧ DnA K (hid (D :: (L ++ B.M)) H') accV acc
theorem Go.of_rel (E : Env K B G L H σ Γ) (h1 : ∀ a o, a ∉ B.Ws → H a = some o → H' a = some o) (h2 : ∀ w ∈ B.Ws, WellAt H' w) : Go K B G L Γ H H' σ := Go.step E h1 h2
theorem comp_turn {j n : Nat} {vs : List Nat} {item : Nat → PyData → Prop} {J : Nat → List PyData → Prop} {H1 : Hp} {D : Addr} {i : Nat} {x : V} {d' : PyData} (E1 : Env K B G L H1 σ Γ) (hD : H1 D = none) (C : CompOk K B G L Γ j tt te vs n item J) (hn : n ≤ 100000)
    (S : Sofar K B L H1 H' D i J) (hi : item i d') (hin : i < n) (dn : Dn K (hid (L ++ B.M) H1) x d') :
    tt ((L2.wipe σ vs).set j (some x)) H' fun b H3 => if b = true then te ((L2.wipe σ vs).set j (some x)) H3 fun y H4 => ∃ acc, H4 D = some (.lst acc) ∧ acc.length < sizeLine ∧ Sofar K B L H1 (upd H4 D (.lst (acc ++ [y]))) D (i + 1) J else Sofar K B L H1 H3 D (i + 1) J := by
  obtain ⟨rl, ws, accV, acc, hJ, hlen, hDl, dA⟩ := S
  have g0 : Go K B G L Γ H1 H' σ := Go.of_rel E1 rl ws
  have ET := Env.temp E1 g0 hD hDl
  have hk0 : Same (hid (L ++ B.M) H1) (hid (D :: L ++ B.M) H') := g0.keepL E1 hD
  have EW := (ET.wipe vs).put j (dn.mono hk0)
  refine C.2 i D d' acc hi hJ hin _ H' _ EW fun b H3 g3 ⟨c1, c2⟩ => ?_
  have D3 : H3 D = some (.lst accV) := g3.kp D (List.mem_cons_self ..) _ hDl
  cases b with
  | false =>
    refine iteF ⟨fun a o w e => g3.rl a o w (rl a o w e), g3.env.ws, accV, acc, c2 rfl, by omega, D3, dA.mono g3.sm⟩
  | true =>
    refine iteT (c1 rfl _ H3 _ g3.env fun y d H4 g4 dy hJ' => ?_)
    have D4 : H4 D = some (.lst accV) := g4.kp D (List.mem_cons_self ..) _ D3
    refine ⟨accV, D4, ?_, ?_⟩
    · rw [dA.length]
      exact Nat.lt_of_le_of_lt hlen (Nat.lt_of_lt_of_le (Nat.lt_of_lt_of_le hin hn) (by decide))
    · have hs : Same (hid (D :: (L ++ B.M)) H4) (hid (D :: (L ++ B.M)) (upd H4 D (.lst (accV ++ [y])))) := fun a o e => by
        obtain ⟨q, e⟩ := hid_some e
        rw [hid_out q, upd_ne (fun z => q (by rw [z]; exact List.mem_cons_self ..))]
        exact e
      have dW : D ∉ B.Ws := fun w => by
        obtain ⟨_, _, _, q, _⟩ := E1.ws D w
        rw [hD] at q; cases q
      refine ⟨fun a o w e => ?_, fun w hw => ?_, accV ++ [y], acc ++ [d], hJ', by rw [List.length_append]; exact Nat.succ_le_succ hlen, upd_same, ?_⟩
      · rw [upd_ne (ne_of_none e hD)]
        exact g4.rl a o w (g3.rl a o w (rl a o w e))
      · obtain ⟨n, b, c, e, q⟩ := g4.env.ws w hw
        exact ⟨n, b, c, by rw [upd_ne (fun (z : w = D) => dW (by rw [← z]; exact hw))]; exact e, q⟩
      · exact ((dA.mono g3.sm).mono g4.sm |>.append (.cons dy .nil)).mono hs
theorem en_lcT {j : Nat} {vs : List Nat} {kl : List PyData → Prop} (hw : ∀ (σ : L2.St) x, L2.wipe ((L2.wipe σ vs).set j (some x)) vs = L2.wipe σ vs)
    (h : EvP K B G L Γ tl fun d => ∃ ds, d = .tuple ds ∧ ds.length ≤ 100000 ∧ ∃ J, CompOk K B G L Γ j tt te vs ds.length (fun i d' => ds[i]? = some d') J ∧ ∀ acc, J ds.length acc → kl acc) :
    EvN K B G L Γ (tLc (iTup K tl) (gName j) tt te vs) kl := fun σ H Q E q =>
  h σ H _ E fun v d H1 g1 dn ⟨ds, e, hl, J, C, hk⟩ => by
    subst e
    cases dn with
    | @tup a xs _ e1 h2 =>
      refine ⟨a, rfl, ⟨xs, Same.sqt (hid_sub _ _) e1⟩, fun D hD => lc_tup (xs := xs) (fun i H' => Sofar K B L H1 H' D i J)
        ⟨fun a o w e => same_upd hD a o e, fun w hw => ?_, [], [], C.1, Nat.le_refl _, upd_same, .nil⟩ (fun i H' _ S => ?_) (fun i x H' hi S => ?_) (fun H' S => ?_)⟩
      · obtain ⟨n, b, c, e, q⟩ := g1.env.ws w hw
        exact ⟨n, b, c, same_upd hD _ _ e, q⟩
      · have g0 : Go K B G L Γ H1 H' σ := Go.of_rel g1.env S.rl S.ws
        exact Same.sqt (hid_sub _ _) (Same.sqt g0.sm e1)
      · obtain ⟨d', e', dn'⟩ := h2.getV hi
        exact ⟨hw σ x, comp_turn g1.env hD C hl S e' (List.getElem?_eq_some_iff.mp e').1 dn'⟩
      · have g0 : Go K B G L Γ H1 H' σ := Go.of_rel g1.env S.rl S.ws
        obtain ⟨accV, acc, hJ, _, e, dA⟩ := S.it
        rw [h2.length] at hJ
        exact q D accV acc H' (g1.trans g0) (Go.fresh E g1 hD) e dA (hk acc hJ)
theorem en_lcL {j : Nat} {vs : List Nat} {kl : List PyData → Prop} (hw : ∀ (σ : L2.St) x, L2.wipe ((L2.wipe σ vs).set j (some x)) vs = L2.wipe σ vs)
    (h : EvP K B G L Γ tl fun d => ∃ ds, d = .list ds ∧ ds.length ≤ 100000 ∧ ∃ J, CompOk K B G L Γ j tt te vs ds.length (fun i d' => ds[i]? = some d') J ∧ ∀ acc, J ds.length acc → kl acc) :
    EvN K B G L Γ (tLc (iList K tl) (gName j) tt te vs) kl := fun σ H Q E q =>
  h σ H _ E fun v d H1 g1 dn ⟨ds, e, hl, J, C, hk⟩ => by
    subst e
    cases dn with
    | @lst a xs _ e1 h2 =>
      refine ⟨a, rfl, ⟨xs, .inl (.inl (hid_sub _ _ _ _ e1))⟩, fun D hD => lc_list (xs := xs) (fun i H' => Sofar K B L H1 H' D i J)
        ⟨fun a o w e => same_upd hD a o e, fun w hw => ?_, [], [], C.1, Nat.le_refl _, upd_same, .nil⟩ (fun i H' _ S => ?_) (fun i x H' hi S => ?_) (fun H' S => ?_)⟩
      · obtain ⟨n, b, c, e, q⟩ := g1.env.ws w hw
        exact ⟨n, b, c, same_upd hD _ _ e, q⟩
      · have g0 : Go K B G L Γ H1 H' σ := Go.of_rel g1.env S.rl S.ws
        exact .inl (.inl (hid_sub _ _ _ _ (g0.sm _ _ e1)))
      · obtain ⟨d', e', dn'⟩ := h2.getV hi
        exact ⟨hw σ x, comp_turn g1.env hD C hl S e' (List.getElem?_eq_some_iff.mp e').1 dn'⟩
      · have g0 : Go K B G L Γ H1 H' σ := Go.of_rel g1.env S.rl S.ws
        obtain ⟨accV, acc, hJ, _, e, dA⟩ := S.it
        rw [h2.length] at hJ
        exact q D accV acc H' (g1.trans g0) (Go.fresh E g1 hD) e dA (hk acc hJ)
theorem et_yes {kb : Bool → Prop} (h : kb true) : EvT K B G L Γ tYes kb := fun σ H Q E q => q true H (Go.refl E) h

/-! ### defs -/
/-- a def that changes nothing -/
noncomputable def SpP (K : PySem.W.Frag) (pre : List PyData → Prop) (post : List PyData → PyData → Prop) : Sp := fun vs H Q _ => ∃ M ds, (∀ m ∈ M, ∃ o, H m = some o) ∧ DnA K (hid M H) vs ds ∧ pre ds ∧
  ∀ v d H', Same H H' → Dn K (hid M H') v d → post ds d → Q v H'
/-- a def that draws from the well, its first argument -/
noncomputable def SpW (K : PySem.W.Frag) (pre : List PyData → Prop) (post : List PyData → PyData → Prop) : Sp := fun vs H Q _ => ∃ M w vs' ds, vs = .ref w :: vs' ∧ w ∈ M ∧ WellAt H w ∧ (∀ m ∈ M, ∃ o, H m = some o) ∧ DnA K (hid M H) vs' ds ∧ pre ds ∧
  ∀ v d H', (∀ a o, a ≠ w → H a = some o → H' a = some o) → WellAt H' w → Dn K (hid M H') v d → post ds d → Q v H'
theorem ev_callP {pre : List PyData → Prop} {post : List PyData → PyData → Prop} {E0 : XK} (h : EvA K B G L Γ tr fun ds => pre ds ∧ ∀ d, post ds d → k d) : EvP K B G L Γ (tCall (SpP K pre post) [] E0 tr) k := fun σ H Q E q =>
  h σ H _ E fun vs ds H1 g1 dn ⟨hp, hk⟩ => by
    rw [List.append_nil]
    refine ⟨L ++ B.M, ds, g1.env.alive, dn, hp, fun v d H' hs dv hpost => ?_⟩
    have g2 := Go.step g1.env (H' := H') (fun a o _ e => hs a o e) fun w hw => by
      obtain ⟨n, b, c, e, q⟩ := g1.env.ws w hw
      exact ⟨n, b, c, hs _ _ e, q⟩
    exact q v d H' (g1.trans g2) dv (hk d hpost)
theorem ev_callW {i : Nat} {w : Addr} {pre : List PyData → Prop} {post : List PyData → PyData → Prop} {E0 : XK} (hi : Γ[i]? = some (.well w)) (h : EvA K B G L Γ tr fun ds => pre ds ∧ ∀ d, post ds d → k d) : EvP K B G L Γ (tCall (SpW K pre post) [] E0 (tCons (tVar i) tr)) k := fun σ H Q E q =>
  ⟨_, E.getW hi, h σ H _ E fun vs ds H1 g1 dn ⟨hp, hk⟩ => by
    show SpW K pre post ((V.ref w :: vs) ++ []) H1 Q E0
    rw [List.append_nil]
    have hw := g1.env.we i w hi
    refine ⟨L ++ B.M, w, vs, ds, rfl, List.mem_append_right _ (g1.env.wm w hw), g1.env.ws w hw, g1.env.alive, dn, hp, fun v d H' hs hW dv hpost => ?_⟩
    have g2 := Go.step g1.env (H' := H') (fun a o wn e => hs a o (fun z => wn (by rw [z]; exact hw)) e) fun w' hw' => by
      by_cases z : w' = w
      · rw [z]; exact hW
      · obtain ⟨n, b, c, e, q⟩ := g1.env.ws w' hw'
        exact ⟨n, b, c, hs _ _ z e, q⟩
    exact q v d H' (g1.trans g2) dv (hk d hpost)⟩
noncomputable def slots (N : List Str) (ds : List PyData) : List Sl := ds.map Sl.d ++ List.replicate (N.length - ds.length) .un
theorem slotok_start (K : PySem.W.Frag) (M : List Addr) (H : Hp) (r : Nat) {vs : List V} {ds : List PyData} (dn : DnA K (hid M H) vs ds) : ∀ (i : Nat) (s : Sl), (ds.map Sl.d ++ List.replicate r Sl.un)[i]? = some s → SlotOk K M H ((vs.map some ++ List.replicate r none)[i]?.join) s := fun i s hi => by
  have hl := dn.length
  by_cases h : i < ds.length
  · rw [List.getElem?_append_left (by simpa using h)] at hi
    rw [List.getElem?_append_left (by simpa [hl] using h)]
    rw [List.getElem?_map, List.getElem?_eq_getElem h] at hi
    obtain ⟨v, e, dv⟩ := dn.get (List.getElem?_eq_getElem h)
    rw [List.getElem?_map, e]
    cases hi
    exact ⟨v, rfl, dv⟩
  · rw [List.getElem?_append_right (by simpa using h), List.getElem?_replicate] at hi
    split at hi
    · cases hi
      trivial
    · cases hi
/-- from a promise to its body -/
theorem body_P {pre : List PyData → Prop} {post : List PyData → PyData → Prop} {N : List Str} {vs : List V} {Q : VK} {E : XK} (h : SpP K pre post vs H Q E)
    (hb : ∀ (B : Bs) (ds : List PyData), B.Ws = [] → pre ds → StP K B [] [] (slots N ds) t { nx := fun _ _ => post ds .none, rt := post ds }) : t { nx := fun _ H' => Q .non H', rt := Q } (L2.start N vs) H := by
  obtain ⟨M, ds, lm, dn, hp, q⟩ := h
  have E0 : Env K ⟨M, [], H⟩ [] [] H (L2.start N vs) (slots N ds) := by
    refine ⟨fun _ _ _ e => e, fun w hw => (by cases hw), fun w hw => (by cases hw), lm, fun l hl => (by cases hl), ?_, ?_, fun g hg => (by cases hg), ?_, ?_, ?_⟩
    · unfold L2.start slots
      simp [dn.length]
    · unfold L2.start slots
      rw [dn.length]
      exact slotok_start K _ H _ dn
    · intro i l xs hi
      exfalso
      unfold slots at hi
      rcases List.mem_append.mp (List.mem_of_getElem? hi) with z | z
      · obtain ⟨d, _, e⟩ := List.mem_map.mp z
        cases e
      · cases (List.eq_of_mem_replicate z)
    · intro i j l xs ys hi hj
      exfalso
      unfold slots at hi
      rcases List.mem_append.mp (List.mem_of_getElem? hi) with z | z
      · obtain ⟨d, _, e⟩ := List.mem_map.mp z
        cases e
      · cases (List.eq_of_mem_replicate z)
    · intro i w hi
      exfalso
      unfold slots at hi
      rcases List.mem_append.mp (List.mem_of_getElem? hi) with z | z
      · obtain ⟨d, _, e⟩ := List.mem_map.mp z
        cases e
      · cases (List.eq_of_mem_replicate z)
  exact hb _ ds rfl hp _ _ _ E0 ⟨fun L Γ σ H' hq E' => q _ _ H' (fun a o e => E'.fr a o (by simp) e) .non hq, fun v d H' hq o dn => q v d H' (fun a o' e => o.fr a o' (by simp) e) dn hq, fun _ _ _ _ z => z.elim, fun _ _ _ _ z => z.elim⟩
theorem body_W {pre : List PyData → Prop} {post : List PyData → PyData → Prop} {N : List Str} {vs : List V} {Q : VK} {E : XK} (h : SpW K pre post vs H Q E) (hN : N ≠ [])
    (hb : ∀ (B : Bs) (w : Addr) (ds : List PyData), pre ds → StP K B [] [] (.well w :: slots N.tail ds) t { nx := fun _ _ => post ds .none, rt := post ds }) : t { nx := fun _ H' => Q .non H', rt := Q } (L2.start N vs) H := by
  obtain ⟨M, w, vs', ds, rfl, wM, hW, lm, dn, hp, q⟩ := h
  obtain ⟨n0, N', rfl⟩ : ∃ n0 N', N = n0 :: N' := by
    cases N with
    | nil => exact absurd rfl hN
    | cons a b => exact ⟨a, b, rfl⟩
  have e0 : L2.start (n0 :: N') (.ref w :: vs') = some (.ref w) :: (vs'.map some ++ List.replicate (N'.length - vs'.length) none) := by
    unfold L2.start
    simp
  have E0 : Env K ⟨M, [w], H⟩ [] [] H (L2.start (n0 :: N') (.ref w :: vs')) (.well w :: slots N' ds) := by
    rw [e0]
    refine ⟨fun _ _ _ e => e, fun w' hw => ?_, fun w' hw => ?_, lm, fun l hl => (by cases hl), ?_, ?_, fun g hg => (by cases hg), ?_, ?_, ?_⟩
    · rw [List.mem_singleton.mp hw]; exact hW
    · rw [List.mem_singleton.mp hw]; exact wM
    · unfold slots
      simp [dn.length]
    · intro i s hi
      cases i with
      | zero =>
        cases hi
        rfl
      | succ i =>
        have hi' : (slots N' ds)[i]? = some s := by simpa using hi
        have := slotok_start K ([] ++ M) H (N'.length - ds.length) dn i s hi'
        rw [← dn.length] at this
        simpa using this
    · intro i l xs hi
      exfalso
      cases i with
      | zero => cases hi
      | succ i =>
        have hi' : (slots N' ds)[i]? = some (.own l xs) := by simpa using hi
        unfold slots at hi'
        rcases List.mem_append.mp (List.mem_of_getElem? hi') with z | z
        · obtain ⟨d, _, e⟩ := List.mem_map.mp z
          cases e
        · cases (List.eq_of_mem_replicate z)
    · intro i j l xs ys hi hj
      exfalso
      cases i with
      | zero => cases hi
      | succ i =>
        have hi' : (slots N' ds)[i]? = some (.own l xs) := by simpa using hi
        unfold slots at hi'
        rcases List.mem_append.mp (List.mem_of_getElem? hi') with z | z
        · obtain ⟨d, _, e⟩ := List.mem_map.mp z
          cases e
        · cases (List.eq_of_mem_replicate z)
    · intro i w' hi
      cases i with
      | zero =>
        cases hi
        exact List.mem_singleton.mpr rfl
      | succ i =>
        exfalso
        have hi' : (slots N' ds)[i]? = some (.well w') := by simpa using hi
        unfold slots at hi'
        rcases List.mem_append.mp (List.mem_of_getElem? hi') with z | z
        · obtain ⟨d, _, e⟩ := List.mem_map.mp z
          cases e
        · cases (List.eq_of_mem_replicate z)
  exact hb _ w ds hp _ _ _ E0 ⟨fun L Γ σ H' hq E' => q _ _ H' (fun a o ne e => E'.fr a o (fun z => ne (List.mem_singleton.mp z)) e) (E'.ws w (List.mem_singleton.mpr rfl)) .non hq,
    fun v d H' hq o dn => q v d H' (fun a o' ne e => o.fr a o' (fun z => ne (List.mem_singleton.mp z)) e) (o.ws w (List.mem_singleton.mpr rfl)) dn hq, fun _ _ _ _ z => z.elim, fun _ _ _ _ z => z.elim⟩
end
end DL
namespace PySem.HT
open PySem PySem.Spec PyProof.Rows
section
variable {prog : Program} {w : World} {A : Around} {E : Value → Shared → Prop} {s : Shared}
end
end PySem.HT
namespace DL
open PySem PySem.Spec PyProof.Rows L2
section
variable {X : Cx}
/-! ### more rules -/
theorem op_or {f : Value → Value → Sem Value} {r r' : R2} (h : OpR X f r) (h' : OpR X f r') : OpR X f (fun x y H Q => r x y H Q ∨ r' x y H Q) := fun pins s σ H x y v u Q I rx ry q => by
  rcases q with q | q
  · exact h pins s σ H x y v u Q I rx ry q
  · exact h' pins s σ H x y v u Q I rx ry q
noncomputable def rAddA (K : PySem.W.Frag) : R2 := fun x y H Q => rI0 (fun i j => .int (i + j)) x y H Q ∨ (rCatA K x y H Q ∨ rCat x y H Q)
theorem op_addA : OpR X (binaryOp .Add) (rAddA X.K) := op_or op_add (op_or op_catA op_cat)
noncomputable def rMulA (K : PySem.W.Frag) : R2 := fun x y H Q => rI CMul (fun i j => .int (i * j)) x y H Q ∨ (rI CMulW (fun i j => .int (i * j)) x y H Q ∨ (rRep x y H Q ∨ rRepT K x y H Q))
theorem op_mulA : OpR X (binaryOp .Mult) (rMulA X.K) := op_or op_mul (op_or op_mulW (op_or op_rep op_repT))
noncomputable def rFdA : R2 := fun x y H Q => rI CDiv (fun i j => .int (i / j)) x y H Q ∨ (rI CDivW (fun i j => .int (i / j)) x y H Q ∨ rI CDivN (fun i j => .int (i.fdiv j)) x y H Q)
theorem op_fdA : OpR X (binaryOp .FloorDiv) rFdA := op_or op_fdiv (op_or op_fdivW op_fdivN)
noncomputable def rModA : R2 := fun x y H Q => rI (fun _ j => 0 < j) (fun i j => .int (i % j)) x y H Q ∨ rI (fun _ j => j ≠ 0) (fun i j => .int (i.fmod j)) x y H Q
theorem op_modA : OpR X (binaryOp .Mod) rModA := op_or op_mod op_modN
noncomputable def rSlX2 (K : PySem.W.Frag) : V → Option Int → Option Int → Hp → VK → Prop := fun x lo hi H Q => rSlA K x lo hi H Q ∨ rSlL K x lo hi H Q
theorem sl_any : SlR X (rSlX2 X.K) := sl_tupA.or sl_list
/-! f(k = v, ..), all parameters by name, in their order -/
variable {x : Str} {p pos : Pos} {k : Nat} {f : Addr} {fd : FuncData} {ps ks : List Str} {sp : Sp} {CX : CXT} {E : XK} {tk : TA} {kws : List Keyword}
end
section
variable {K : PySem.W.Frag} {B : Bs} {G : List Hp} {L : List Addr} {Γ : List Sl} {H H' H2 : Hp} {σ : L2.St}
variable {te ta tb tc tl : TE} {tt tu : TT} {tr : TA} {k : PyData → Prop} {x y : PyData} {P P' : PD} {t u : TS}
theorem ROk.l {r r' : R2} (h : ROk K B G L Γ r x y k) : ROk K B G L Γ (fun x y H Q => r x y H Q ∨ r' x y H Q) x y k := fun σ H Q v u E d1 d2 q => .inl (h σ H Q v u E d1 d2 q)
theorem ROk.r {r r' : R2} (h : ROk K B G L Γ r' x y k) : ROk K B G L Γ (fun x y H Q => r x y H Q ∨ r' x y H Q) x y k := fun σ H Q v u E d1 d2 q => .inr (h σ H Q v u E d1 d2 q)
theorem ro_add {i j : Int} (hk : k (.int (i + j))) : ROk K B G L Γ (rAddA K) (.int i) (.int j) k := ROk.l (rok_i0 hk)
theorem ro_catT {ds es : List PyData} (hl : ds.length + es.length ≤ 1000000) (hk : k (.tuple (ds ++ es))) : ROk K B G L Γ (rAddA K) (.tuple ds) (.tuple es) k := ROk.r (ROk.l (rok_catT hl hk))
theorem ro_catL {ds es : List PyData} (hl : ds.length + es.length ≤ 1000000) (hk : k (.list (ds ++ es))) : ROk K B G L Γ (rAddA K) (.list ds) (.list es) k := ROk.r (ROk.r (rok_catL hl hk))
theorem ro_mul {i j : Int} (hc : CMul i j) (hk : k (.int (i * j))) : ROk K B G L Γ (rMulA K) (.int i) (.int j) k := ROk.l (rok_i hc hk)
theorem ro_mulW {i j : Int} (hc : CMulW i j) (hk : k (.int (i * j))) : ROk K B G L Γ (rMulA K) (.int i) (.int j) k := ROk.r (ROk.l (rok_i hc hk))
theorem ro_repT {ds : List PyData} {n : Int} (hne : ds ≠ []) (h0 : 2 ≤ n) (h1 : n ≤ 1000) (hl : ds.length ≤ 1000) (hk : k (.tuple (List.replicate n.toNat ds).flatten)) : ROk K B G L Γ (rMulA K) (.tuple ds) (.int n) k := ROk.r (ROk.r (ROk.r (rok_repT hne h0 h1 hl hk)))
theorem ro_fd {i j : Int} (hc : 0 < j ∧ j < 1073741824) (hk : k (.int (i / j))) : ROk K B G L Γ rFdA (.int i) (.int j) k := ROk.l (rok_i hc hk)
theorem ro_fdW {i j : Int} (hc : CDivW i j) (hk : k (.int (i / j))) : ROk K B G L Γ rFdA (.int i) (.int j) k := ROk.r (ROk.l (rok_i hc hk))
theorem ro_mod {i j : Int} (hc : 0 < j) (hk : k (.int (i % j))) : ROk K B G L Γ rModA (.int i) (.int j) k := ROk.l (rok_i (C := fun _ j => 0 < j) hc hk)
theorem so_tup {ds : List PyData} {lo hi : Option Int} (hk : k (.tuple (cutD ds lo hi))) : SOk K B G L Γ (rSlX2 K) (.tuple ds) lo hi k := fun σ H Q v E d1 q => .inl (sok_tup hk σ H Q v E d1 q)
theorem so_lst {ds : List PyData} {lo hi : Option Int} (hk : k (.list (cutD ds lo hi))) : SOk K B G L Γ (rSlX2 K) (.list ds) lo hi k := fun σ H Q v E d1 q => .inr (sok_lst hk σ H Q v E d1 q)
/-- divmod, its pair unpacked into a place of the well and a name: not general -/
theorem ev_dict (hk : k (.dict [])) : EvP K B G L Γ (fun (_ : L2.St) H Q => ∀ d, H d = none → Q (.ref d) (upd H d (.dK []))) k := fun σ H Q E q d hd => by
  have g := Go.new (o := .dK []) E hd
  exact q _ _ _ g (.emp (hid_new (E.newM hd))) hk
/-- a test by None -/
noncomputable def isNoneD : PyData → Bool
  | .none => true
  | _ => false
theorem ev_isN (h : EvP K B G L Γ te fun d => k (.bool (isNoneD d))) : EvP K B G L Γ (tIsN te) k := fun σ H Q E q =>
  h σ H _ E fun v d H1 g1 dn hk => by
    have e : decide (v = V.non) = isNoneD d := by cases dn <;> simp [isNoneD]
    show Q (.bl (decide (v = V.non))) H1
    rw [e]
    exact q _ _ H1 g1 (.bl _) hk
/-- the truth of data -/
noncomputable def truD : PyData → Bool
  | .none => false
  | .bool b => b
  | .int i => i != 0
  | .str s => s.length != 0
  | .list ds => !ds.isEmpty
  | .tuple ds => !ds.isEmpty
  | .dict ds => !ds.isEmpty
end
end DL
namespace DL
open PySem PySem.Spec PyProof.Rows L2
/-! ### names for the built-ins' readings -/
noncomputable def rAbsQ : List V → Hp → VK → Prop := fun xs H Q => ∃ i, xs = [.int i] ∧ Q (.int (if i < 0 then -i else i)) H
noncomputable def rIntQ : List V → Hp → VK → Prop := fun xs H Q => (∃ i, xs = [.int i] ∧ Q (.int i) H) ∨ ∃ k, xs = [.bl k] ∧ Q (.int (if k then 1 else 0)) H
noncomputable def rListQ (K : PySem.W.Frag) : List V → Hp → VK → Prop := fun xs H Q => ∃ p ys, xs = [.ref p] ∧ (SqL K H p ys ∨ SqT K H p ys) ∧ ∀ l, H l = none → Q (.ref l) (upd H l (.lst ys))
noncomputable def rTupleQ (K : PySem.W.Frag) : List V → Hp → VK → Prop := fun xs H Q => ∃ p ys, xs = [.ref p] ∧ ((SqL K H p ys ∧ ∀ l, H l = none → Q (.ref l) (upd H l (.tup ys))) ∨ (SqT K H p ys ∧ Q (.ref p) H))
noncomputable def rDivmodQ : List V → Hp → VK → Prop := fun xs H Q => ∃ i j, xs = [.int i, .int j] ∧ CDivP i j ∧ ∀ p, H p = none → Q (.ref p) (upd H p (.tup [.int (i / j), .int (i % j)]))
noncomputable def rMax2Q : List V → Hp → VK → Prop := fun xs H Q => ∃ i j, xs = [.int i, .int j] ∧ Q (.int (if j > i then j else i)) H
noncomputable def rMin2Q : List V → Hp → VK → Prop := fun xs H Q => ∃ i j, xs = [.int i, .int j] ∧ Q (.int (if j < i then j else i)) H
noncomputable def tTru (K : PySem.W.Frag) (te : TE) : TT := fun σ H Q => te σ H fun x H' => ∃ k, TruV K x H' k ∧ Q k H'
section
variable {K : PySem.W.Frag} {B : Bs} {G : List Hp} {L : List Addr} {Γ : List Sl} {H H' H2 : Hp} {σ : L2.St}
variable {te ta tb tc tl : TE} {tt tu : TT} {tr : TA} {k : PyData → Prop} {x y : PyData} {P P' : PD} {t u : TS}
theorem co_lenT {ds : List PyData} (hk : k (.int ds.length)) : COk K B G L Γ (rLenQ K) [.tuple ds] k := cok_lenT hk
theorem co_lenL {ds : List PyData} (hk : k (.int ds.length)) : COk K B G L Γ (rLenQ K) [.list ds] k := cok_lenL hk
theorem co_abs {i : Int} (hk : k (.int (if i < 0 then -i else i))) : COk K B G L Γ rAbsQ [.int i] k := cok_abs hk
theorem co_int {i : Int} (hk : k (.int i)) : COk K B G L Γ rIntQ [.int i] k := cok_intI hk
theorem co_tupL {ds : List PyData} (hk : k (.tuple ds)) : COk K B G L Γ (rTupleQ K) [.list ds] k := cok_tupL hk
theorem co_tupT {ds : List PyData} (hk : k (.tuple ds)) : COk K B G L Γ (rTupleQ K) [.tuple ds] k := cok_tupT hk
theorem ev_lenOwn {i : Nat} {l : Addr} {xs : List PyData} (hi : Γ[i]? = some (.own l xs)) (hk : k (.int xs.length)) : EvP K B G L Γ (tCB (rLenQ K) (tCons (tVar i) tNil)) k := ev_lenO hi hk
theorem en_listQ {kl : List PyData → Prop} (h : EvP K B G L Γ te fun d => ∃ ds, (d = .tuple ds ∨ d = .list ds) ∧ kl ds) : EvN K B G L Γ (tCB (rListQ K) (tCons te tNil)) kl := en_list h
/-- an item of the well -/
theorem ev_well {i : Nat} {w : Addr} (hi : Γ[i]? = some (.well w)) (h : EvP K B G L Γ tb fun n => ∃ j, n = .int j ∧ (j = 0 ∨ j = 1 ∨ j = 2) ∧ ∀ n : Int, (j = 0 → 0 ≤ n) → (j = 1 → 0 ≤ n ∧ n < 1099511627776) → k (.int n)) : EvP K B G L Γ (tOp (rIx K) (tVar i) tb) k := fun σ H Q E q =>
  ⟨_, E.getW hi, h σ H _ E fun u n H2 g2 dn2 ⟨j, en, hj, hk⟩ => by
    subst en
    obtain ⟨a, b, c, e, h0, h1, h2⟩ := g2.env.ws w (g2.env.we i w hi)
    have z : u = .int j := dn_int dn2
    rcases hj with rfl | rfl | rfl
    · exact .inl ⟨w, _, 0, .int a, rfl, z, .inl (.inl e), rfl, q _ _ H2 g2 (.int a) (hk a (fun _ => h0) (by omega))⟩
    · exact .inl ⟨w, _, 1, .int b, rfl, z, .inl (.inl e), rfl, q _ _ H2 g2 (.int b) (hk b (by omega) (fun _ => ⟨h1, h2⟩))⟩
    · exact .inl ⟨w, _, 2, .int c, rfl, z, .inl (.inl e), rfl, q _ _ H2 g2 (.int c) (hk c (by omega) (by omega))⟩⟩
/-- the well changed in one place -/
theorem Env.stir {w : Addr} {vs : List V} (E : Env K B G L H σ Γ) (hw : w ∈ B.Ws) (h : WellAt (upd H w (.lst vs)) w) : Env K B G L (upd H w (.lst vs)) σ Γ := by
  refine (E.step (fun a o wn e => ?_) fun w' hw' => ?_).1
  · rw [upd_ne (fun (z : a = w) => wn (by rw [z]; exact hw))]
    exact e
  · by_cases z : w' = w
    · rw [z]; exact h
    · obtain ⟨n, b, c, e, q⟩ := E.ws w' hw'
      exact ⟨n, b, c, by rw [upd_ne z]; exact e, q⟩
/-- well[j] = e -/
theorem st_setWell {i : Nat} {w : Addr} (hi : Γ[i]? = some (.well w)) (h : EvP K B G L Γ te fun d => EvP K B G L Γ tb fun n => ∃ z j : Int, d = .int z ∧ n = .int j ∧ (j = 0 ∨ j = 1 ∨ j = 2) ∧ (j = 0 → 0 ≤ z) ∧ (j = 1 → 0 ≤ z ∧ z < 1099511627776) ∧ P.nx L Γ) :
    StP K B G L Γ (tAsg te (gSub (tVar i) tb rSetL)) P := fun σ H D E M =>
  h σ H _ E fun v d H1 g1 dn1 h2 => ⟨_, g1.env.getW hi, h2 σ H1 _ g1.env fun u n H2 g2 dn2 ⟨z, j, ed, en, hj, hz0, hz1, hk⟩ => by
    subst ed en
    have ev : v = .int z := dn_int dn1
    have eu : u = .int j := dn_int dn2
    have hw := g2.env.we i w hi
    obtain ⟨a, b, c, e, h0, h1, h2⟩ := g2.env.ws w hw
    rcases hj with rfl | rfl | rfl
    · refine ⟨w, _, 0, 0, rfl, eu, e, rfl, M.nx _ _ _ _ hk (g2.env.stir hw ?_)⟩
      subst ev
      exact ⟨z, b, c, upd_same, hz0 rfl, h1, h2⟩
    · refine ⟨w, _, 1, 1, rfl, eu, e, rfl, M.nx _ _ _ _ hk (g2.env.stir hw ?_)⟩
      subst ev
      exact ⟨a, z, c, upd_same, h0, (hz1 rfl).1, (hz1 rfl).2⟩
    · refine ⟨w, _, 2, 2, rfl, eu, e, rfl, M.nx _ _ _ _ hk (g2.env.stir hw ?_)⟩
      subst ev
      exact ⟨a, b, z, upd_same, h0, h1, h2⟩⟩
/-- well[0], x = divmod(well[0], m) -/
theorem st_dmWell {i n : Nat} {w : Addr} (hi : Γ[i]? = some (.well w)) (h : EvA K B G L Γ tr fun ds => ∃ z m : Int, ds = [.int z, .int m] ∧ 0 ≤ z ∧ 0 < m ∧ m < 1073741824 ∧ P.nx L (Γ.set n (.d (.int (z % m))))) :
    StP K B G L Γ (tAsg (tCB rDivmodQ tr) (gTup K 2 (gCons (gSub (tVar i) (tC (.int 0)) rSetL) (gCons (gName n) gNil)))) P := fun σ H D E M =>
  h σ H _ E fun vs ds H1 g1 dn ⟨z, m, e, hz, hm, hm2, hk⟩ => by
    subst e
    cases dn with
    | cons d1 d2 =>
      cases d2 with
      | cons d2 d3 =>
        cases d3
        cases d1
        cases d2
        refine ⟨z, m, rfl, ⟨hm, PyProof.noPylong_small (by omega)⟩, fun p hp => ?_⟩
        have g2 := Go.new (o := .tup [.int (z / m), .int (z % m)]) g1.env hp
        have hw := g2.env.we i w hi
        obtain ⟨a, b, c, e, h0, h1, h2⟩ := g2.env.ws w hw
        refine ⟨p, _, rfl, .inl (.inl upd_same), rfl, _, _, rfl, ⟨_, g2.env.getW hi, w, _, 0, 0, rfl, rfl, e, rfl, _, _, rfl, rfl, ?_⟩⟩
        refine M.nx _ _ _ _ hk ((g2.env.stir hw ⟨z / m, b, c, upd_same, Int.ediv_nonneg hz (Int.le_of_lt hm), h1, h2⟩).put n (.int _))
/-- a test of data by its truth -/
theorem et_tru {kb : Bool → Prop} (h : EvP K B G L Γ te fun d => (match d with | .str s => s.length ≤ 1000000 | _ => True) ∧ kb (truD d)) : EvT K B G L Γ (tTru K te) kb := fun σ H Q E q =>
  h σ H _ E fun v d H1 g1 dn ⟨hs, hk⟩ => by
    refine ⟨truD d, ?_, q _ H1 g1 hk⟩
    cases dn with
    | non => rfl
    | bl b => rfl
    | int i => rfl
    | str x =>
      refine ⟨sz_ok hs, ?_⟩
      show (x.length != 0) = ((x.length : Int) != 0)
      rcases Nat.eq_zero_or_pos x.length with h | h
      · rw [h]; rfl
      · have a : (x.length != 0) = true := by simp; omega
        have b : ((x.length : Int) != 0) = true := by simp; omega
        rw [a, b]
    | @lst a xs ds e h2 =>
      refine .inl ⟨xs, .inl (.inl (hid_sub _ _ _ _ e)), ?_⟩
      have := h2.length
      cases xs <;> cases ds <;> simp_all [truD]
    | @tup a xs ds e h2 =>
      refine .inr (.inl ⟨xs, Same.sqt (hid_sub _ _) e, ?_⟩)
      have := h2.length
      cases xs <;> cases ds <;> simp_all [truD]
    | emp e => exact .inr (.inr ⟨[], hid_sub _ _ _ _ e, rfl⟩)
/-- a < b < c -/
theorem ev_chain {r r' : R2} (h : EvP K B G L Γ ta fun x => EvP K B G L Γ tb fun y => ROk K B G L Γ r x y fun z => ∃ b, z = .bool b ∧ (b = true → EvP K B G L Γ tc fun w => ROk K B G L Γ r' y w k) ∧ (b = false → k (.bool false))) : EvP K B G L Γ (tChain r r' ta tb tc) k := fun σ H Q E q =>
  h σ H _ E fun v x H1 g1 dn1 h1 => h1 σ H1 _ g1.env fun u y H2 g2 dn2 h2 => h2 σ H2 _ v u g2.env (dn1.mono g2.sm) dn2 fun z d H3 g3 dn3 ⟨b, e, c1, c2⟩ => by
    subst e
    refine ⟨b, dn_bool dn3, ?_⟩
    cases b with
    | true => exact iteT (c1 rfl σ H3 _ g3.env fun w' d4 H4 g4 dn4 h4 => h4 σ H4 Q u w' g4.env ((dn2.mono g3.sm).mono g4.sm) dn4 fun z d H5 g5 dn5 hk => q z d H5 ((((g1.trans g2).trans g3).trans g4).trans g5) dn5 hk)
    | false => exact iteF (q _ _ H3 ((g1.trans g2).trans g3) (.bl false) (c2 rfl))
theorem ev_dictD (hk : k (.dict [])) : EvP K B G L Γ tDNewK k := ev_dict hk
end
end DL
namespace DL
open PySem PySem.Spec PyProof.Rows L2
theorem len_P {K : PySem.W.Frag} {pre : List PyData → Prop} {post : List PyData → PyData → Prop} {vs : List V} {H : Hp} {Q : VK} {E : XK} (h : SpP K pre post vs H Q E) {n : Nat} (hn : ∀ ds, pre ds → ds.length = n) : vs.length = n := by
  obtain ⟨M, ds, _, dn, hp, _⟩ := h
  rw [dn.length, hn ds hp]
theorem len_W {K : PySem.W.Frag} {pre : List PyData → Prop} {post : List PyData → PyData → Prop} {vs : List V} {H : Hp} {Q : VK} {E : XK} (h : SpW K pre post vs H Q E) {n : Nat} (hn : ∀ ds, pre ds → ds.length = n) : vs.length = n + 1 := by
  obtain ⟨M, w, vs', ds, rfl, _, _, _, dn, hp, _⟩ := h
  rw [List.length_cons, dn.length, hn ds hp]
theorem wipe1 (i : Nat) : ∀ (σ : L2.St) (x : V), L2.wipe ((L2.wipe σ [i]).set i (some x)) [i] = L2.wipe σ [i] := fun σ x => by
  show (((σ.set i none).set i (some x)).set i none) = σ.set i none
  rw [List.set_set, List.set_set]
end DL
namespace DL
open PySem PySem.Spec PyProof.Rows L2
noncomputable def isIntT : PyData → Bool
  | .int _ => true
  | .bool _ => true
  | _ => false
noncomputable def isBoolT : PyData → Bool
  | .bool _ => true
  | _ => false
noncomputable def isTupT : PyData → Bool
  | .tuple _ => true
  | _ => false
theorem kit_int (d : PyData) : kitB (tyD d) "int" = some (isIntT d) := by
  cases d <;> (simp only [tyD, isIntT]; decide +kernel)
theorem kit_bool (d : PyData) : kitB (tyD d) "bool" = some (isBoolT d) := by
  cases d <;> (simp only [tyD, isBoolT]; decide +kernel)
theorem kit_tup (d : PyData) : kitB (tyD d) "tuple" = some (isTupT d) := by
  cases d <;> (simp only [tyD, isTupT]; decide +kernel)
section
variable {K : PySem.W.Frag} {B : Bs} {G : List Hp} {L : List Addr} {Γ : List Sl} {te : TE} {k : PyData → Prop}
theorem ev_isiInt (h : EvP K B G L Γ te fun d => k (.bool (isIntT d))) : EvP K B G L Γ (tCB (rIsi K) (tCons te (tCons (tC (.ty "int")) tNil))) k := ev_isi (h.mono fun d hk => ⟨_, kit_int d, hk⟩)
theorem ev_isiBool (h : EvP K B G L Γ te fun d => k (.bool (isBoolT d))) : EvP K B G L Γ (tCB (rIsi K) (tCons te (tCons (tC (.ty "bool")) tNil))) k := ev_isi (h.mono fun d hk => ⟨_, kit_bool d, hk⟩)
theorem ev_isiTup (h : EvP K B G L Γ te fun d => k (.bool (isTupT d))) : EvP K B G L Γ (tCB (rIsi K) (tCons te (tCons (tC (.ty "tuple")) tNil))) k := ev_isi (h.mono fun d hk => ⟨_, kit_tup d, hk⟩)
theorem isTupT_true {d : PyData} (h : isTupT d = true) : ∃ xs, d = .tuple xs := by
  cases d <;> simp [isTupT] at h
  exact ⟨_, rfl⟩
end
end DL
namespace DL
open PySem PySem.Spec PyProof.Rows L2
section
variable {K : PySem.W.Frag} {B : Bs} {G : List Hp} {L : List Addr} {Γ : List Sl} {te : TE} {P : PD}
end
end DL

namespace DL
open PySem
theorem sz_and {n : Nat} {p : Prop} (h : n ≤ 1000000) (hp : p) : n ≤ 1000000 ∧ p := ⟨h, hp⟩
end DL

namespace DL
open PySem L2
section
variable {K : PySem.W.Frag} {B : Bs} {G : List Hp} {L : List Addr} {Γ : List Sl} {k : PyData → Prop}
theorem ro_mulL {i j : Int} (h0 : -18446744073709551616 < i) (h1 : i < 18446744073709551616) (hk : k (.int (i * j))) : ROk K B G L Γ (rMulA K) (.int i) (.int j) k := ro_mul (Or.inl ⟨h0, h1⟩) hk
end
end DL
/-! enumerate over a tuple -/
namespace PySem
open Sem (wp)
open AutoSeq1 (wpAny_loadPart')
namespace EnT
theorem draws_tuple {prog : Program} {w : World} {A : Around} (hh : A.handled = none) (it t : Addr) (hne : t ≠ it) (items : Array Value) :
    Draws prog w A it [it, t] items.size (fun i v => items[i]? = some v) (fun i h => h.IsTupleIter it t i ∧ h.IsTuple t items) where
  live := fun _ _ st => let ⟨o, ho, _⟩ := st.1; ⟨o, ho⟩
  frame := fun _ _ _ st hk => ⟨st.1.at fun o e => hk it (by simp) o e, let ⟨o, ho, r⟩ := st.2; ⟨o, hk t (by simp) o ho, r⟩⟩
  item := fun i s Q E hi st hQ => by
    refine wpAny_nextOf_tuple_item st.1 st.2 (x := items[i]) (by simp [hi]) fun h' hit' hs' => ?_
    exact hQ _ h' s.toks (by simp [hi]) ⟨hit', let ⟨o, ho, r⟩ := st.2; ⟨o, hs'.extBut t o hne ho, r⟩⟩ hs'
  done := fun s Q E st hE => wpAny_nextOf_tuple_end hh st.1 st.2 (by simp) hE
theorem meets_new (l : Addr) (items : Array Value) :
    Meets (Builtin.«enumerate.__new__» ⟨[.type "enumerate", .ref l], []⟩) (fun _ R s => s.heap.IsTuple l items ∧
      R (.ok (.ret (.ref (s.heap.push { cls := .type "tuple_iterator", data := .fields #[.ref l, .int 0 0] }).objs.size)))
        { s with heap := (s.heap.push { cls := .type "tuple_iterator", data := .fields #[.ref l, .int 0 0] }).push { cls := .type "enumerate", data := .fields #[.none, .bool false, .ref s.heap.objs.size, rawInt 0, .none, .none] } }) :=
  .of_wp fun prog w A R s h => by
    obtain ⟨hp, g, d, tk, os⟩ := s; obtain ⟨hL, h⟩ := h
    have hsub := sub_enumerate
    wp_walk
    refine wpAny_stack_any fun st => wpAny_pure ?_
    split
    · rename_i c _ _ _ _ _
      cases (c == Value.type "enumerate")
      · wp_walk using wpAny_pyIter_tuple hL
        exact ⟨_, rfl, h⟩
      · wp_walk using wpAny_pyIter_tuple hL
        exact ⟨_, rfl, h⟩
    · wp_walk using wpAny_pyIter_tuple hL
      exact ⟨_, rfl, h⟩
section
variable {prog : Program} {w : World} {A : Around} {E : Value → Shared → Prop} {s : Shared}
theorem call_enum {l : Addr} {items : Array Value} {Q : Value → Shared → Prop} (hL : s.heap.IsTuple l items)
    (h : ∀ h', IsEnum h' (s.heap.objs.size + 1) s.heap.objs.size 0 .none → h'.IsTupleIter s.heap.objs.size l 0 → h'.objs.size = s.heap.objs.size + 2 →
      (∀ b o, s.heap.get? b = some o → h'.get? b = some o) → Q (.ref (s.heap.objs.size + 1)) { s with heap := h' }) :
    wpAny (model prog w) A (call (.type "enumerate") [.ref l]) Q E s := by
  refine callType_new F.called_enumerate (by decide) (F.typeCall_enumerate_1 _) (F.newCall_enumerate_1 _) (fun obj => F.args_object_init_2 obj _) F.entry_enumerate_new
    (meets_new l items) ⟨hL, ?_⟩
  have hz : (s.heap.push { cls := .type "tuple_iterator", data := .fields #[.ref l, .int 0 0] }).objs.size = s.heap.objs.size + 1 := Heap.size_push ..
  show _ ∧ _
  rw [hz]
  have he : IsEnum ((s.heap.push { cls := .type "tuple_iterator", data := .fields #[.ref l, .int 0 0] }).push
      { cls := .type "enumerate", data := .fields #[.none, .bool false, .ref s.heap.objs.size, rawInt 0, .none, .none] }) (s.heap.objs.size + 1) s.heap.objs.size 0 .none := by
    have := Heap.get?_push_size (s.heap.push { cls := .type "tuple_iterator", data := .fields #[.ref l, .int 0 0] })
      (o := { cls := .type "enumerate", data := .fields #[.none, .bool false, .ref s.heap.objs.size, rawInt 0, .none, .none] }) rfl
    rw [hz] at this; exact this
  refine ⟨⟨_, he, rfl⟩, h _ he ⟨_, Heap.get?_push_of_some _ (Heap.get?_push_size _ rfl), rfl, rfl⟩ (by rw [Heap.size_push, hz]) fun b o x => Heap.get?_push_of_some _ (Heap.get?_push_of_some _ x)⟩
theorem next_end {e it l : Addr} {i : Nat} {j : Int} {items : Array Value} {old : Value} {Q : Option Value → Shared → Prop} (hh : A.handled = none)
    (he : IsEnum s.heap e it j old) (hit : s.heap.IsTupleIter it l i) (hl : s.heap.IsTuple l items) (hx : items[i]? = none)
    (hQ : ∀ h', Heap.ExtBut it s.heap h' → Q none { s with heap := h' }) : wpAny (model prog w) A (pyNext (.ref e)) Q E s := by
  have hT : s.TypeIs (.ref e) "enumerate" := ⟨_, he, rfl⟩
  unfold pyNext
  refine wpAny_bind (wpAny_attempt (wpAny_callSpecial?_slot (name := Str.ofString "__next__") hT F.slot_enumerate_next
    (wpAny_call_entry F.slot_enumerate_next hT F.entry_enumerate_next ?_ (F.args_enumerate_next_1 _))))
  show wpAny _ _ (field (.ref e) 2 >>= _) _ _ _
  refine wpAny_bind (wpAny_field he rfl (x := .ref it) rfl ?_)
  refine wpAny_bind (wpAny_nextOf_tuple_end hh hit hl hx fun h' x he' hx' => ?_)
  obtain ⟨o, ho, hc⟩ := hx'
  refine wpAny_bind (wpAny_isInstance (T := "StopIteration") (b := true) ⟨o, ho, hc⟩ isSubtype_stop ?_)
  exact wpAny_pure (hQ _ he')
end
end EnT
end PySem
namespace DL
open PySem PySem.Spec PyProof.Rows L2
/-- the tuple at a, each item in a new pair with its place -/
noncomputable def IteT (K : PySem.W.Frag) (a : Addr) : It :=
  ⟨fun i H => ∃ (xs : List V) (x : V), SqT K H a xs ∧ xs[i]? = some x, fun i H v H' => ∃ T x, v = .ref T ∧ H T = none ∧ H' = upd H T (.tup [.int (i : Nat), x]) ∧ ∀ xs, SqT K H a xs → xs[i]? = some x, fun i H => ∃ xs : List V, SqT K H a xs ∧ xs.length ≤ i⟩
theorem turn_enumT {P : Program} {w : World} {K : PySem.W.Frag} {elts : List Expr} {kk : Nat} {tpos : Pos} (a e it : Addr) (ha : a ≠ it) (hae : a ≠ e) :
    Turn P w K (.Tuple elts kk tpos) (IteT K a) [e, it] e (fun i h => (∃ old, IsEnum h e it ((i : Nat) : Int) old) ∧ h.IsTupleIter it a i ∧ e ≠ it) where
  mem := by simp
  obj := fun i h st b hb => by
    obtain ⟨⟨old, he⟩, ⟨o, ho, hc, hd⟩, _⟩ := st
    have e' : b = e ∨ b = it := by simpa using hb
    rcases e' with z | z
    · rw [z]; exact ⟨_, he, fun v q => nomatch q⟩
    · rw [z]; exact ⟨o, ho, fun v q => by rw [hd] at q; cases q⟩
  keep := fun i h h' st k => let ⟨⟨old, he⟩, hi, hne⟩ := st; ⟨⟨old, k e (by simp) _ he⟩, hi.at fun o q => k it (by simp) o q, hne⟩
  item := by
    intro X hP hw hK hc i pins s σ H E I hf st hg
    subst hP hw hK
    obtain ⟨⟨old, he⟩, hit, hne⟩ := st
    obtain ⟨xs, x, hq, hx⟩ := hg
    obtain ⟨its, rv, p, hz⟩ := I.tuple hq
    obtain ⟨u, hu, ru⟩ := rv.get hx
    have hel : e < s.heap.objs.size := Heap.lt_size he
    have hil : it < s.heap.objs.size := by obtain ⟨_, q, _⟩ := hit; exact Heap.lt_size q
    have hT0 : s.heap.IsTuple a its.toArray := p
    have D := PySem.EnT.draws_tuple (prog := X.prog) (w := X.w) (A := X.A.in1) (I.ok.hd hc) it a ha its.toArray
    have hi' : i < its.toArray.size := by
      have := (List.getElem?_eq_some_iff.mp hu).1
      rw [List.size_toArray]; exact this
    refine wpAny_pyNext_enum_itemD D he ⟨hit, hT0⟩ hi' hne (by simp [hne, Ne.symm hae]) fun y h' tk hy ho hit' hT hsz hk => ?_
    have ey : y = u := by
      have : (its.toArray)[i]? = some u := by simpa using hu
      rw [this] at hy
      exact (Option.some.inj hy).symm
    subst ey
    refine ⟨_, rfl, wpAny_letOwnedTupleGo_enum (s := { s with heap := h', toks := tk + 1 }) ho fun h'' he' sb => ?_⟩
    have hT2 : h''.get? s.heap.objs.size = some { cls := .type "tuple", data := .seq #[.int i tk, y] } := (sb.2 _ (Nat.ne_of_gt hel)).trans hT
    have new : ObjOk X.prog X.w (upd H s.heap.objs.size (.tup [.int (i : Nat), x])) h'' s.heap.objs.size (.tup [.int (i : Nat), x]) :=
      ⟨by show 2 ≤ sizeLine; decide, [.int i tk, y], .cons ⟨_, rfl⟩ (.cons ru .nil), ⟨_, hT2, rfl, _, rfl⟩⟩
    have I1 : Inv X pins σ (upd H s.heap.objs.size (.tup [.int (i : Nat), x])) { s with heap := h'', toks := tk + 1 } :=
      I.turnedNew (ch := [e, it]) (fun b ob hb q => (sb.2 b (fun z => hb (by simp [z]))).trans (hk b ob (fun z => hb (by simp [z])) (fun z => hb (by simp [z])) q)) hf (Nat.le_refl _) new
    refine ⟨.ref s.heap.objs.size, _, I1, rfl, ⟨_, x, rfl, I.hok.fresh (Nat.le_refl _), rfl, fun ys hy => by rw [I.tuple_inj hy hq]; exact hx⟩, ⟨⟨y, ?_⟩, hit'.1.at fun o q => (sb.2 it (Ne.symm hne)).trans q, hne⟩, fun b hb => ?_⟩
    · have e1 : ((i + 1 : Nat) : Int) = (i : Int) + 1 := by omega
      rw [e1]; exact he'
    · have hb' : b < s.heap.objs.size := by
        have e' : b = e ∨ b = it := by simpa using hb
        rcases e' with z | z
        · rw [z]; exact hel
        · rw [z]; exact hil
      rw [upd_ne (Nat.ne_of_lt hb')]
      exact (hf b hb).1
  done := by
    intro X hP hw hK hc i pins s σ H E I hf st hg
    subst hP hw hK
    obtain ⟨⟨old, he⟩, hit, hne⟩ := st
    obtain ⟨xs, hq, hx⟩ := hg
    obtain ⟨its, rv, p, hz⟩ := I.tuple hq
    obtain ⟨f0, f1, f2, f3, f4, f5⟩ := hf it (by simp)
    have hl := rv.length
    have hT0 : s.heap.IsTuple a its.toArray := p
    exact PySem.EnT.next_end (I.ok.hd hc) he hit hT0 (by simp; omega) fun h' eb => ⟨rfl, I.turned (t' := s.toks) (fun b o hb q => eb b o hb q) f0 f1 f3 f4 f5⟩
  self := fun A i s Q E st h => let ⟨⟨_, he⟩, _⟩ := st; wpAny_pyIter_enum he h

noncomputable def iEnumT (K : PySem.W.Frag) (ta : TA) : TI := fun σ H R => ta σ H fun vs H1 => ∃ a xs, vs = [.ref a] ∧ SqT K H1 a xs ∧ R (IteT K a) H1
theorem pi_enumT {X : Cx} {e : Expr} {ta : TA} {p pos tpos : Pos} {elts : List Expr} {kk : Nat} (hg : Gl X "enumerate") (hm : X.mg "enumerate" = none) (ha : PA X [e] ta) (hs : starEach [e] X.env = [(false, eval e X.env)] := by rfl) :
    PI X (.Tuple elts kk tpos) (.Call (.Name "enumerate" p) [e] [] pos) (iEnumT X.K ta) := by
  refine ⟨fun pins s σ H R I h => ?_⟩
  refine Call_ (ld_blt I hg hm boot_enumerate (PyProof.Rows.callWith_type1 (thn (ha.run pos pins s σ H _ I h) fun us s1 ⟨vs, H1, I1, r1, q1⟩ => ?_) hs rfl))
  obtain ⟨a, xs, ex, hq, q⟩ := q1
  subst ex
  cases r1 with
  | cons r rr =>
    cases rr
    cases r
    obtain ⟨its, rv, p', hz⟩ := I1.tuple hq
    have hal : a < s1.heap.objs.size := by
      obtain ⟨o, ho, _⟩ := p'
      exact Heap.lt_size ho
    refine PySem.EnT.call_enum (show s1.heap.IsTuple a its.toArray from p') fun h' he hit hsz hk => wpAny_pyIter_enum he ?_
    have I2 : Inv X pins σ H1 { s1 with heap := h' } := I1.kept (t' := s1.toks) hk
    refine ⟨s1.heap.objs.size + 1, [s1.heap.objs.size + 1, s1.heap.objs.size], _, _, H1, rfl, I2, turn_enumT a (s1.heap.objs.size + 1) s1.heap.objs.size (Nat.ne_of_lt hal) (Nat.ne_of_lt (Nat.lt_succ_of_lt hal)), ⟨⟨.none, he⟩, hit, Nat.succ_ne_self _⟩, fun b hb => ?_, q⟩
    have e' : b = s1.heap.objs.size + 1 ∨ b = s1.heap.objs.size := by simpa using hb
    have hle : s1.heap.objs.size ≤ b := by
      rcases e' with z | z
      · rw [z]; exact Nat.le_add_right _ _
      · rw [z]; exact Nat.le_refl _
    exact I1.fpOk hle (I1.hok.fresh hle)
section
variable {K : PySem.W.Frag} {B : Bs} {G : List Hp} {L : List Addr} {Γ : List Sl} {H : Hp} {σ : L2.St} {ta : TA} {P : PD} {t : TS}
theorem for_enumT {a : Addr} {xs : List V} {g : TG} {tb : TS} {D : Ends} {σ : L2.St} {H : Hp} (Pv : Nat → L2.St → Hp → Prop) (h0 : Pv 0 σ H) (hl : ∀ i σ H, i ≤ xs.length → Pv i σ H → SqT K H a xs)
    (hs : ∀ i x T σ H, xs[i]? = some x → Pv i σ H → H T = none → g (.ref T) σ (upd H T (.tup [.int (i : Nat), x])) fun σ2 H2 => tb { D with nx := Pv (i + 1), ct := Pv (i + 1), bk := D.nx } σ2 H2) (hd : ∀ σ H, Pv xs.length σ H → D.nx σ H) :
    ∃ W : Nat → Nat → L2.St → Hp → Prop, (∃ m, W 0 m σ H) ∧ ∀ i m σ H, W i m σ H →
      ((IteT K a).stop i H ∧ D.nx σ H) ∨ ((IteT K a).go i H ∧ ∃ N : L2.St → Hp → Prop, (∀ σ' H', N σ' H' → ∃ m', m' < m ∧ W (i + 1) m' σ' H') ∧ ∀ x H', (IteT K a).yld i H x H' → g x σ H' fun σ2 H2 => tb { D with nx := N, ct := N, bk := D.nx } σ2 H2) := by
  refine ⟨fun i m σ H => m = xs.length - i ∧ i ≤ xs.length ∧ Pv i σ H, ⟨xs.length, by simp, Nat.zero_le _, h0⟩, ?_⟩
  rintro i m σ H ⟨rfl, hi, p⟩
  have q := hl i σ H hi p
  by_cases hlt : i < xs.length
  · refine .inr ⟨⟨xs, xs[i], q, by simp [hlt]⟩, Pv (i + 1), fun σ' H' p' => ⟨xs.length - (i + 1), by omega, rfl, hlt, p'⟩, fun v H' y => ?_⟩
    obtain ⟨T, x, rfl, hT, rfl, hx⟩ := y
    exact hs i x T σ H (hx xs q) p hT
  · have e : i = xs.length := by omega
    subst e
    exact .inl ⟨⟨xs, q, Nat.le_refl _⟩, hd σ H p⟩
/-- for i, x in enumerate(a tuple) -/
theorem st_forE {j1 j2 : Nat} (h : EvA K B G L Γ ta fun vs => ∃ ds, vs = [.tuple ds] ∧ ∃ I : Nat → List Addr → List Sl → Prop, I 0 L Γ ∧
    (∀ i d' L' Γ' g, ds[i]? = some d' → I i L' Γ' → StP K B (g :: G) L' ((Γ'.set j1 (.d (.int (i : Int)))).set j2 (.d d')) t (P.inLoop (I (i + 1)))) ∧ ∀ L' Γ', I ds.length L' Γ' → P.nx L' Γ') :
    StP K B G L Γ (tFor (iEnumT K ta) (gTup K 2 (gCons (gName j1) (gCons (gName j2) gNil))) t) P := fun σ H D E M =>
  h σ H _ E fun vs dd H1 g1 dn ⟨ds, e, I, h0, hs, hd⟩ => by
    subst e
    cases dn with
    | cons dn dn2 =>
      cases dn2
      cases dn with
      | @tup a xs _ e1 h2 =>
        have E1 := g1.env.gpush
        refine ⟨a, xs, rfl, Same.sqt (hid_sub _ _) e1, for_enumT (xs := xs) (fun i σ' H' => ∃ L' Γ', I i L' Γ' ∧ Env K B (hid (L ++ B.M) H1 :: G) L' H' σ' Γ') ⟨L, Γ, h0, E1⟩ (fun i σ' H' _ ⟨L', Γ', _, E'⟩ => ?_) (fun i x T σ' H' hi ⟨L', Γ', hI, E'⟩ hT => ?_) (fun σ' H' ⟨L', Γ', hI, E'⟩ => ?_)⟩
        · exact Same.sqt (hid_sub _ _) (Same.sqt (E'.gh _ (List.mem_cons_self ..)) e1)
        · obtain ⟨d', e', dn'⟩ := h2.getV hi
          have gn := Go.new (o := .tup [.int (i : Nat), x]) E' hT
          have E2 := gn.env
          have dx := dn'.mono (E2.gh _ (List.mem_cons_self ..))
          refine ⟨T, _, rfl, .inl (.inl upd_same), rfl, _, _, rfl, _, _, rfl, rfl, ?_⟩
          refine hs i d' L' Γ' _ e' hI _ _ _ ((E2.put j1 (.int _)).put j2 dx) ⟨fun L2 Γ2 σ2 H2 q E2 => ⟨L2, Γ2, q, E2⟩, M.rt, fun L2 Γ2 σ2 H2 q E2 => M.nx _ _ _ _ q E2.gpop, fun L2 Γ2 σ2 H2 q E2 => ⟨L2, Γ2, q, E2⟩⟩
        · rw [h2.length] at hI
          exact M.nx _ _ _ _ (hd L' Γ' hI) E'.gpop
end
end DL
/-! Defs that show values by repr: where they run, nothing else is being shown. -/
namespace DL
open PySem PySem.Spec PyProof.Rows L2

/-- a def's promise where no container is being shown -/
structure FnG (P : Program) (w : World) (K : PySem.W.Frag) (mg : Str → Option Value) (base : Heap) (k : Nat) (f : Addr) (fd : FuncData) (ps : List Str) (sp : Sp) : Prop where
  len : ∀ vs H Q E, sp vs H Q E → vs.length = ps.length
  go : ∀ (B : Around) (fs : List PySem.Env) (t : Shared) (H : Hp) (gs : Args) (us : List Value) (vs : List V) (Q : VK) (E : XK),
    B.guards = some [] → Room k B → Env0 P w K mg base B fs t H → BindsTo t fd gs (ps.zip us) → Vals vs us → sp vs H Q E →
      codeAny (model P w) B (.call (.ref f) gs) (CR CX0 fs P w H t Q E) t

section
variable {P : Program} {w : World} {K : PySem.W.Frag} {mg : Str → Option Value} {base : Heap}

theorem Fun.okG {x qual : Str} {st : Stmt} {f : Addr} {fd : FuncData} {N ps : List Str} {k : Nat} {sp : Sp} (F : Fun K x qual st f fd) (S : FnScope N ps (defScope st))
    (len : ∀ vs H Q E, sp vs H Q E → vs.length = ps.length)
    (body : ∀ (cd : Value) (B : Around) (fs : List PySem.Env) (t : Shared) (H : Hp) (vs : List V) (Q : VK) (E : XK),
      (B.deeper (envOfC qual (defScope st) t.heap.objs.size f cd)).guards = some [] →
      Room k (B.deeper (envOfC qual (defScope st) t.heap.objs.size f cd)) → sp vs H Q E →
      ∃ r, PSs (cxOf CX0 P w K mg base N qual (defScope st) f cd B fs t H E).nox (defBody st) r ∧ r { nx := fun _ H' => Q .non H', rt := Q } (start N vs) H) :
    FnG P w K mg base (k + 1) f fd ps sp := by
  obtain ⟨oc, od, kV, doc, pm, an, cd, ct, osl, rfl, lk, hcd⟩ := F.ex
  refine ⟨len, ?_⟩
  intro B fs t H gs us vs Q E hg room e0 bt rv hsp
  have hl : vs.length = ps.length := len _ _ _ _ hsp
  have KT : K.In t.heap := e0.mod.kin.keeps fun b o e => (e0.bs b o e).1
  have nl : t.heap.NoLimit := e0.mod.nolimit.keeps fun b o e => (e0.bs b o e).1
  refine codeAny_call_function room.depth (KT _ _ lk) rfl S.co S.gen rfl (PySem.W.codeRec_of KT hcd) (bt _ _ _ _ ?_)
  refine wpAny_newFunctionEnv_cells S.kind (fun ⟨n, v⟩ hy => (S.par n (List.of_mem_zip hy).1).imp id fun q => ⟨q, PySem.W.cellsFrom_some _ _ _ (.inl q)⟩) ?_
  rintro env rfl t1 ic
  refine ⟨nl.keeps ic.toInCall.keep, codeAny_func ?_⟩
  obtain ⟨r, hr, hq⟩ := body cd B fs t H vs Q E hg (room.deeper _) hsp
  have I1 := inv_start (CX := CX0) (E := E) S room.hd e0 hl rv ic
  have go := hr.nox.run [] t1 (start N vs) H _ I1 hq
  refine wpAny_mono go ?_ fun _ _ z => z
  intro fl t2 ends
  rcases fl with _ | _ | _ | u
  · obtain ⟨σ2, H2, J, q⟩ := ends
    exact ⟨.non, H2, J.os, J.bare, J.base, J.hok, rfl, q⟩
  · obtain ⟨_, _, _, z⟩ := ends
    exact z.elim
  · obtain ⟨_, _, _, z⟩ := ends
    exact z.elim
  · obtain ⟨v, σ2, H2, J, ru, q⟩ := ends
    exact ⟨v, H2, J.os, J.bare, J.base, J.hok, ru, q⟩
end

/-! ### calls of such defs -/
section
variable {X : Cx} {k : Nat} {f : Addr} {fd : FuncData} {ps : List Str} {sp : Sp} {E : XK} {x : Str} {p pos : Pos} {e : Expr} {es : List Expr} {t : TA}
theorem pe_callG (F : FnG X.prog X.w X.K X.mg X.base k f fd ps sp) (room : Room k X.A) (gd : X.A.guards = some []) (gx : Gl X x) (mx : X.mg x = some (.ref f)) (kf : PySem.W.keepIn X.K (.ref f) = true) (bd : Binds X.K fd ps [])
    (ea : PA X (e :: es) t) (nd : (x == ("__debug__" : Str)) = false := by decide) (st : starEach (e :: es) X.env = (false, eval e X.env) :: starEach es X.env := by rfl)
    (pl : (backTo pos (starEach es X.env)).any (·.1) = false := by rfl) : PE X (.Call (.Name x p) (e :: es) [] pos) (tCall sp [] E t) := by
  constructor
  intro pins s σ H Q I tq
  refine wpAny_Call_Name_kw (ld_glob I gx mx (PySem.W.callWith_K (h₀ := X.base) I.ok.mod.kin kf (thn (ea.run pos pins s σ H _ I tq) ?_) st pl) nd)
  rintro us s1 ⟨vs, H1, I1, rv, q⟩
  refine ⟨I1.kIn, ?_⟩
  rw [List.append_nil] at q
  have hl : (us ++ []).length = ps.length := by
    rw [List.append_nil, ← rv.length]
    exact F.len _ _ _ _ q
  have bt := bd s1 us I1.kIn hl
  rw [List.append_nil] at bt
  refine wpAny_call (codeAny_mono (F.go X.A X.stack s1 H1 ⟨us, []⟩ us vs Q E gd room I1.env0 bt rv q) ?_)
  intro r s2 hr
  match r, hr with
  | .error _, hr => exact hr.elim
  | .ok (.ret u), hr => exact I1.after hr
  | .ok .next, hr => exact hr.elim
  | .ok .brk, hr => exact hr.elim
  | .ok .cont, hr => exact hr.elim
end

/-! ### repr -/
mutual
/-- how long a text can be -/
noncomputable def cost : PyData → Nat
  | .list xs => costAll xs + 3
  | .tuple xs => costAll xs + 3
  | .str x => (reprText x).length
  | .dict _ => 0
  | _ => 1921
noncomputable def costAll : List PyData → Nat
  | [] => 0
  | x :: xs => cost x + 2 + costAll xs
end
mutual
theorem shown_le : ∀ {d : PyData}, d.showable = true → d.hasDict = false → d.shown.length ≤ cost d
  | .none, _, _ => by decide
  | .bool true, _, _ => by decide
  | .bool false, _, _ => by decide
  | .int i, h, _ => by
    simp only [PyData.showable, decide_eq_true_eq] at h
    simp only [PyData.shown, cost]
    exact int_text_len_1921 h
  | .str x, _, _ => by simp only [PyData.shown, cost]; exact Nat.le_refl _
  | .list xs, h, h2 => by
    simp only [PyData.showable] at h
    simp only [PyData.hasDict] at h2
    have := shownAll_le h h2
    simp only [PyData.shown, cost]
    have := listText_len_le (PyData.shownAll xs)
    omega
  | .tuple xs, h, h2 => by
    simp only [PyData.showable] at h
    simp only [PyData.hasDict] at h2
    have := shownAll_le h h2
    simp only [PyData.shown, cost]
    have := tupleText_len_le (PyData.shownAll xs)
    omega
  | .dict _, _, h => by simp [PyData.hasDict] at h
theorem shownAll_le : ∀ {ds : List PyData}, PyData.showableAll ds = true → PyData.hasDictAll ds = false → ((PyData.shownAll ds).map (·.length)).sum + 2 * (PyData.shownAll ds).length ≤ costAll ds
  | [], _, _ => by simp [PyData.shownAll, costAll]
  | d :: ds, h, h2 => by
    simp only [PyData.showableAll, Bool.and_eq_true] at h
    simp only [PyData.hasDictAll, Bool.or_eq_false_iff] at h2
    have a := shown_le h.1 h2.1
    have b := shownAll_le h.2 h2.2
    simp only [PyData.shownAll, costAll, List.map_cons, List.sum_cons, List.length_cons]
    omega
end
mutual
theorem Dn.dp {K : PySem.W.Frag} {H : Hp} : ∀ {v : V} {d : PyData}, Dn K H v d → d.hasDict = false → Dp K H v d
  | _, _, .non, _ => .non
  | _, _, .bl b, _ => .bl b
  | _, _, .int i, _ => .int i
  | _, _, .str x, _ => .str x
  | _, _, .lst h1 h2, h => .lst (.inl (.inl h1)) (DnA.dp h2 (by simpa only [PyData.hasDict] using h))
  | _, _, .tup h1 h2, h => .tup h1 (DnA.dp h2 (by simpa only [PyData.hasDict] using h))
  | _, _, .emp _, h => by simp [PyData.hasDict] at h
theorem DnA.dp {K : PySem.W.Frag} {H : Hp} : ∀ {vs : List V} {ds : List PyData}, DnA K H vs ds → PyData.hasDictAll ds = false → DpAll K H vs ds
  | _, _, .nil, _ => .nil
  | _, _, .cons h1 h2, h => by
    simp only [PyData.hasDictAll, Bool.or_eq_false_iff] at h
    exact .cons (Dn.dp h1 h.1) (DnA.dp h2 h.2)
end
noncomputable def rReprD (K : PySem.W.Frag) : List V → Hp → VK → Prop := fun xs H Q => ∃ (a : Addr) (d : PyData), xs = [.ref a] ∧ Dp K H (.ref a) d ∧ d.showable = true ∧ d.hasDict = false ∧ d.depth < 64 ∧ cost d ≤ sizeLine ∧ Q (.str d.shown) H
theorem call_reprD {X : Cx} (hu : X.A.units + 64 < cLine) (gd : X.A.guards = some []) : CallR X (.builtin "repr") (rReprD X.K) := by
  rintro pins s σ H xs us Q I r ⟨a, d, rfl, dp, sh, nd, dd, cz, q⟩
  obtain ⟨u, rfl, ru⟩ := vals1 r
  obtain rfl : u = Value.ref a := ru
  obtain ⟨as, rd⟩ := Dp.reads I d _ _ dp rfl
  refine repr_of_reads' rd sh (fun z => by rw [nd] at z; cases z) gd (by omega) (fun b o e => e) (fun h' u tk hk => ?_) (Nat.le_trans (shown_le sh nd) cz)
  exact ⟨.str d.shown, H, I.kept hk, ⟨_, rfl⟩, q⟩
section
variable {K : PySem.W.Frag} {B : Bs} {G : List Hp} {L : List Addr} {Γ : List Sl} {k : PyData → Prop}
noncomputable def isBox : PyData → Bool
  | .list _ => true
  | .tuple _ => true
  | _ => false
theorem cok_repr {d : PyData} (hb : isBox d = true) (sh : d.showable = true) (nd : d.hasDict = false) (dd : d.depth < 64) (cz : cost d ≤ sizeLine) (hk : k (.str d.shown)) : COk K B G L Γ (rReprD K) [d] k := fun σ H Q vs E d1 q => by
  cases d1 with
  | cons h1 h2 =>
    cases h2
    have dp := Dn.dp (h1.mono (hid_sub _ _)) nd
    have go := q (.str d.shown) _ H (Go.refl E) (.str _) hk
    cases h1 with
    | lst _ _ => exact ⟨_, _, rfl, dp, sh, nd, dd, cz, go⟩
    | tup _ _ => exact ⟨_, _, rfl, dp, sh, nd, dd, cz, go⟩
    | _ => cases hb
end

/-! ### the head -/
/-- the script as the only thing that is tracked, where it is not the module's own -/
noncomputable def scr (K : PySem.W.Frag) (a : Addr) (o : Obj) (xs : List V) : Hp := fun b => if b = a ∧ (K.lookup a).isNone = true then some (.frz o (.lst xs)) else none
theorem scr_some {K : PySem.W.Frag} {a b : Addr} {o : Obj} {xs : List V} {u : HO} (h : scr K a o xs b = some u) : b = a ∧ K.lookup a = none ∧ u = .frz o (.lst xs) := by
  unfold scr at h
  by_cases c : b = a ∧ (K.lookup a).isNone = true
  · rw [if_pos c] at h
    exact ⟨c.1, by simpa using c.2, (Option.some.inj h).symm⟩
  · rw [if_neg c] at h
    cases h
theorem scr_none {K : PySem.W.Frag} {a b : Addr} {o : Obj} {xs : List V} (h : b = a → K.lookup a ≠ none) : scr K a o xs b = none := by
  cases e : scr K a o xs b with
  | none => rfl
  | some u =>
    obtain ⟨h1, h2, _⟩ := scr_some e
    exact absurd h2 (h h1)

theorem law_callG {P : Program} {w : World} {K : PySem.W.Frag} {mg mb : Str → Option Value} {k : Nat} {f a : Addr} {fd : FuncData} {x : Str} {sp : Sp} {t : Shared} {vs : List Value} {ns : List Int}
    (inK : K.In t.heap) (gl : t.heap.Ns mainGlobals mg) (bl : t.heap.Ns builtinsNs mb) (bb : ∀ x : Str, x ≠ "__name__" → mb x = bootBuiltins x) (nl : t.heap.NoLimit) (ng : t.gens = #[])
    (at_ : t.heap.get? a = some { cls := .type "list", data := .seq vs.toArray }) (ia : IntsAre vs ns) (sz : ns.length ≤ sizeLine) (room : Room k callerA)
    (F : ∀ base : Heap, K.In base → base.Ns mainGlobals mg → FnG P w K mg base k f fd [x] sp) (bind : ∀ (s : Shared) (u : Value), BindsTo s fd ⟨[u], []⟩ [(x, u)])
    (hsp : ∀ H : Hp, SqL K H a (ns.map V.int) → sp [.ref a] H (fun v _ => v = .bl true) fun _ _ _ => False) :
    codeAny (model P w) callerA (.call (.ref f) ⟨[.ref a], []⟩) (fun r s' => r = .ok (.ret (.bool true)) ∧ OldK t.heap s'.heap ∧ s'.os = t.os ∧ AllBare s'.gens) t := by
  have rv : Vals (ns.map V.int) vs := vals_ints ia
  have zs : (ns.map V.int).length ≤ sizeLine := by rw [List.length_map]; exact sz
  let o : Obj := { cls := .type "list", data := .seq vs.toArray }
  let H : Hp := scr K a o (ns.map V.int)
  have onlyA : ∀ {b : Addr} {u : HO}, H b = some u → b = a ∧ K.lookup a = none ∧ u = .frz o (.lst (ns.map V.int)) := fun e => scr_some e
  have ok : HOk P w H t.heap := by
    intro b u e
    obtain ⟨e1, _, e2⟩ := onlyA e
    rw [e1, e2]
    exact ⟨at_, zs, vs, _, rv, at_⟩
  have sq : SqL K H a (ns.map V.int) := by
    cases q : K.lookup a with
    | none => exact .inl (.inr ⟨o, if_pos ⟨rfl, by rw [q]; rfl⟩⟩)
    | some o1 =>
      have e1 := inK a o1 q
      rw [at_] at e1
      cases e1
      exact .inr ⟨_, vs.toArray, _, q, rfl, rfl, rfl, by rw [List.size_toArray, ia.length]; exact sz, by simpa using rv⟩
  have kept : ∀ {b : Addr} {ob : Obj}, t.heap.get? b = some ob → H b = none → (hidT t.heap H).get? b = some ob := fun e n => hidT_get e n
  have nsB : ∀ {b : Addr} {m : Str → Option Value}, t.heap.Ns b m → (hidT t.heap H).Ns b m := by
    rintro b m ⟨ob, es, ep, e, d, r⟩
    refine ⟨ob, es, ep, kept e (scr_none fun z => ?_), d, r⟩
    subst z
    rw [at_] at e
    cases e
    cases d
  have kB : K.In (hidT t.heap H) := fun b ob e => kept (inK b ob e) (scr_none fun z => by
    subst z
    rw [show K.lookup b = some ob from e]
    exact fun z => nomatch z)
  obtain ⟨mc, l1, l2⟩ := nl
  have M : Mod K mg (hidT t.heap H) := ⟨kB, nsB gl, ⟨mb, nsB bl, bb⟩, ⟨mc, nsB l1, l2⟩⟩
  have e0 : Env0 P w K mg (hidT t.heap H) callerA [] t H :=
    ⟨rfl, M, fun b ob e => of_hidT e, Nat.le_of_eq (hidT_size _ _), trivial, fun b hb => absurd (show b ∈ ([] : List Addr) from hb) (by simp), ok, .of_eq ng⟩
  have run := (F _ kB (nsB gl)).go callerA [] t H ⟨[.ref a], []⟩ [.ref a] [.ref a] _ _ rfl room e0 (bind t (.ref a)) (.cons rfl .nil) (hsp H sq)
  refine codeAny_mono run ?_
  intro r s2 hr
  match r, hr with
  | .error _, hr => exact hr.elim
  | .ok .next, hr => exact hr.elim
  | .ok .brk, hr => exact hr.elim
  | .ok .cont, hr => exact hr.elim
  | .ok (.ret u), hr =>
    obtain ⟨v, H2, os, bare, un, ok2, ru, q⟩ := hr
    obtain rfl : v = V.bl true := q
    obtain rfl : u = Value.bool true := ru
    refine ⟨rfl, OldK.of_keep ?_, os, bare⟩
    intro b ob e
    cases c : H b with
    | none => exact un.keep b ob e c (by intro z; exact absurd (show b ∈ ([] : List Addr) from z) (by simp)) (by simp)
    | some u =>
      obtain ⟨e1, _, e2⟩ := onlyA c
      rw [e2] at c
      obtain ⟨g, _⟩ := ok2 b _ (un.frzs b o _ c)
      rw [e1] at e g
      rw [at_] at e
      cases e
      rw [e1]
      exact g
theorem walk_ofG {l : PySem.W.OpenLaw} {n k : Nat} {q : Program} {loose : List Str} {XP : (Str → Option Value) → Heap → Prop} {YP : World → Heap → Prop} {d : DefRec} {K : Params → PySem.W.Frag} {sp : PySem.W.Frag → Sp} {x : Str}
    (hn : l.most = some n) (small : n ≤ sizeLine) (nodf : d.params.defaults = []) (room : Room k callerA) (hY : ∀ (w : World) (h : Heap), YP w h → (K w.params).In h)
    (F : ∀ (w : World) (mg : Str → Option Value) (f : Addr) (h : Heap), (K w.params).In h → h.Ns mainGlobals mg → mg d.name = some (.ref f) →
      ∃ fd : FuncData, (∀ (s : Shared) (u : Value), BindsTo s fd ⟨[u], []⟩ [(x, u)]) ∧ ∀ base : Heap, (K w.params).In base → base.Ns mainGlobals mg → FnG l.prog w (K w.params) mg base k f fd [x] (sp (K w.params)))
    (hsp : ∀ (K : PySem.W.Frag) (H : Hp) (a : Addr) (ns : List Int), ns.length ≤ n → SqL K H a (ns.map V.int) → sp K [.ref a] H (fun v _ => v = .bl true) fun _ _ _ => False) :
    PySem.W.WalkO q loose XP YP l.row.toRowW d [] (fun f vs => PySem.call f vs) := by
  refine Att.attach_call hn nodf ?_
  intro w s₀ t mg mb f o pm cd doc a vs ns G Y ho hd hcd hmg hobj hints hlen ng
  have inK : (K w.params).In t.heap := hY w _ Y
  obtain ⟨fd, bind, FG⟩ := F w mg f _ inK G.T.g hmg
  exact law_callG inK G.T.g G.T.b G.T.builtins G.T.nolimit ng hobj hints (Nat.le_trans hlen small) room FG bind fun H hS => hsp _ H a ns hlen hS
end DL
/-! More words over data: xs[i] op= e, extend, pop, several new lists at once, max, comparing rows. -/
namespace DL
open PySem PySem.Spec PyProof.Rows L2

/-! ### a list's item, by value -/
noncomputable def rGetL (K : PySem.W.Frag) : V → V → Hp → VK → Prop := fun o i H Q => ∃ (p : Addr) (xs : List V) (n : Nat) (x : V), o = .ref p ∧ i = .int n ∧ SqL K H p xs ∧ xs[n]? = some x ∧ Q x H
theorem get_list {X : Cx} : PGet X (rGetL X.K) := by
  rintro pins s σ H o i ov iv Q I ro ri ⟨p, xs, n, x, rfl, rfl, hp, hx, q⟩
  obtain rfl : ov = .ref p := ro
  obtain ⟨t, rfl⟩ := ri
  obtain ⟨its, r, pl, hz⟩ := I.list hp
  obtain ⟨w, ew, rw'⟩ := r.get hx
  have hn : n < xs.length := (List.getElem?_eq_some_iff.mp hx).1
  have big := line63
  exact wpAny_getItem_list pl.isList (by omega) (by omega) (by simpa using ew) ⟨x, H, I, rw', q⟩
noncomputable def ipM : TIp := fun x y H Q => ∃ i j : Int, x = .int i ∧ y = .int j ∧ CMulW i j ∧ Q (.int (i * j)) H
theorem ip_mul {X : Cx} : PIp X .Mult ipM := by
  rintro pins s σ H x y v u Q I r1 r2 ⟨i, j, rfl, rfl, c, q⟩
  obtain ⟨t, rfl⟩ := r1
  obtain ⟨t', rfl⟩ := r2
  exact PySem.P.imul_int ⟨.int _, H, I.tok _, ⟨_, rfl⟩, q⟩ c.ok

section
variable {K : PySem.W.Frag} {B : Bs} {G : List Hp} {L : List Addr} {Γ : List Sl} {H H' H2 : Hp} {σ : L2.St}
variable {te ta tb tc : TE} {tt tu : TT} {tr : TA} {k : PyData → Prop} {x y : PyData} {P P' : PD} {t u : TS}
theorem st_augM {i : Nat} {a : Int} (h0 : Γ[i]? = some (.d (.int a))) (h : EvP K B G L Γ te fun d => ∃ b, d = .int b ∧ CMulW a b ∧ P.nx L (Γ.set i (.d (.int (a * b))))) : StP K B G L Γ (tAug i te ipM) P := fun σ H D E M => by
  obtain ⟨v, e, dn⟩ := E.get h0
  refine ⟨v, e, h σ H _ E fun w d H1 g1 dn1 ⟨b, e1, c, hk⟩ => ?_⟩
  subst e1
  exact ⟨a, b, dn_int dn, dn_int dn1, c, M.nx _ _ _ _ hk (g1.env.put i (.int _))⟩
/-- xs[j] += e, xs an own list of numbers -/
theorem st_addOwn {i : Nat} {l : Addr} {xs : List PyData} (hi : Γ[i]? = some (.own l xs)) (h : EvP K B G L Γ tb fun n => ∃ (j : Nat) (a : Int), n = .int (j : Int) ∧ xs[j]? = some (.int a) ∧
      EvP K B G L Γ te fun d => ∃ b : Int, d = .int b ∧ P.nx L (Γ.set i (.own l (xs.set j (.int (a + b)))))) :
    StP K B G L Γ (tAugS (tVar i) tb te (rGetL K) (ipI fun a b => a + b) rSetL) P := fun σ H D E M => by
  obtain ⟨e, vs, hl, dn⟩ := E.getO hi
  refine ⟨_, e, h σ H _ E fun u n H1 g1 dn1 ⟨j, a, en, hj, h2⟩ => ?_⟩
  subst en
  obtain ⟨_, ws, hl1, dn2⟩ := g1.env.getO hi
  obtain ⟨w, ew, dw⟩ := dn2.get hj
  refine ⟨l, ws, j, w, rfl, dn_int dn1, .inl (.inl hl1), ew, h2 σ H1 _ g1.env fun v d H2 g2 dn3 ⟨b, ed, hk⟩ => ?_⟩
  subst ed
  obtain ⟨_, zs, hl2, dn4⟩ := g2.env.getO hi
  refine ⟨a, b, dn_int dw, dn_int dn3, l, zs, (j : Int), j, rfl, dn_int dn1, hl2, ?_, M.nx _ _ _ _ hk (Env.write g2.env hi (dn4.set j (.int _)))⟩
  have : j < xs.length := (List.getElem?_eq_some_iff.mp hj).1
  rw [dn4.length]
  unfold ixN
  rw [if_pos (by omega), if_pos (by omega)]
  simp
/-- xs.extend(ys) -/
theorem st_extend {i : Nat} {l : Addr} {xs : List PyData} (hi : Γ[i]? = some (.own l xs)) (h : EvP K B G L Γ te fun d => ∃ ys, d = .list ys ∧ xs.length + ys.length ≤ 1000000 ∧ P.nx L (Γ.set i (.own l (xs ++ ys)))) :
    StP K B G L Γ (tDrop (tBM K "list" rExtend (tVar i) (tCons te tNil))) P := fun σ H D E M => by
  obtain ⟨e, vs, hl, dn⟩ := E.getO hi
  refine ⟨_, e, .inl ⟨rfl, vs, .inl (.inl hl)⟩, h σ H _ E fun v d H1 g1 dn1 ⟨ys, ed, hz, hk⟩ => ?_⟩
  subst ed
  obtain ⟨e1, ws, hl1, dn2⟩ := g1.env.getO hi
  cases dn1 with
  | @lst b zs _ hb dz =>
    refine ⟨l, b, ws, zs, rfl, rfl, hl1, hid_sub _ _ _ _ hb, ?_, M.nx _ _ _ _ hk (Env.write g1.env hi (dn2.append dz))⟩
    rw [dn2.length, dz.length]
    exact sz_ok hz
/-- a, b = two new lists -/
theorem st_parOO {i j : Nat} (h : EvN K B G L Γ ta fun xs => ∀ l1 : Addr, EvN K B G (l1 :: L) Γ tb fun ys => ∀ l2 : Addr, l1 ≠ l2 → P.nx (l2 :: l1 :: L) ((Γ.set i (.own l1 xs)).set j (.own l2 ys))) : StP K B G L Γ (tPar i j (tCons ta (tCons tb tNil))) P := fun σ H D E M =>
  h σ H _ E fun p vs xs H1 g1 hp hv dv h2 => h2 p σ H1 _ (Env.temp E g1 hp hv) fun q ws ys H2 g2 hq hw dw hk => by
    have hpq : p ≠ q := ne_of_none hv hq
    have E1 := Env.take E g1 hp hv i dv
    have g3 := Go.step E1 g2.rl g2.env.ws
    have E2 := Env.take E1 g3 hq hw j dw
    exact ⟨_, _, rfl, M.nx _ _ _ _ (hk q hpq) E2⟩
theorem co_min {i j : Int} (hk : k (.int (if j < i then j else i))) : COk K B G L Γ rMin2Q [.int i, .int j] k := fun σ H Q vs E d1 q => by
  cases d1 with
  | cons h1 h2 =>
    cases h2 with
    | cons h2 h3 =>
      cases h3
      cases h1
      cases h2
      exact ⟨i, j, rfl, q _ _ H (Go.refl E) (.int _) hk⟩
/-- comparing rows of numbers and tuples of such -/
theorem rok_eqD {x y : PyData} (nx : x.hasDict = false) (ny : y.hasDict = false) (sx : SeqAt.shaped x = true) (sy : SeqAt.shaped y = true) (hk : k (.bool (PyData.eqv x y))) : ROk K B G L Γ (rEqD K) x y k := fun σ H Q v u E d1 d2 q =>
  ⟨x, y, Dn.dp (d1.mono (hid_sub _ _)) nx, Dn.dp (d2.mono (hid_sub _ _)) ny, sx, sy, q _ _ H (Go.refl E) (.bl _) hk⟩
end
end DL
/-! a tuple times 1 is itself -/
namespace DL
open PySem PySem.Spec PyProof.Rows L2
theorem tup_once (l : Addr) (o : Obj) (items : Array Value) (n : Nat) (u : Tok) (hc : o.cls = .type "tuple") (hd : o.data = .seq items n) :
    Meets (Builtin.«tuple.__mul__» ⟨[.ref l, .int 1 u], []⟩) (fun _ R s => s.heap.get? l = some o ∧ R (.ok (.ret (.ref l))) s) := by
  obtain ⟨cls, dd, data, sl⟩ := o
  simp only at hc hd
  subst hc hd
  apply Meets.of_wp
  rintro prog w A R ⟨hp, g, d, tk, os⟩ ⟨hl, hr⟩
  have big : (decide ((1 : Int) < -(2 ^ 63)) || decide ((1 : Int) ≥ 2 ^ 63)) = false := by decide
  have one : (items.isEmpty || (1 : Int) == 1) = true := by simp
  have f1 := AutoSeq1.idx_int
  wp_walk using wpAny_loadPart' hl
  repeat (first
    | (refine wpAny_ite_false (decide_eq_false (by rw [big]; exact Bool.false_ne_true)) ?_; wp_walk using wpAny_loadPart' hl)
    | (refine wpAny_ite_true (decide_eq_true one) ?_; wp_walk using wpAny_loadPart' hl))
  all_goals exact ⟨_, rfl, hr⟩
noncomputable def rRepT1 (K : PySem.W.Frag) : R2 := fun x y H Q => ∃ (l : Addr) (xs : List V), x = .ref l ∧ y = .int 1 ∧ SqT K H l xs ∧ Q (.ref l) H
theorem op_repT1 {X : Cx} : OpR X (binaryOp .Mult) (rRepT1 X.K) := by
  rintro pins s σ H x y v u Q I rx ry ⟨l, xs, rfl, rfl, hT, q⟩
  obtain rfl : v = .ref l := rx
  obtain ⟨t, rfl⟩ := ry
  obtain ⟨its, r, ⟨⟨c, dd, dat, sl⟩, ho, hc, n, hd⟩, hs⟩ := I.tuple hT
  obtain rfl : c = .type "tuple" := hc
  obtain rfl : dat = .seq its.toArray n := hd
  have asInt := fun s' => typeIs_int s' 1 t
  refine wpAny_binaryOp_repeat_ref (T := "tuple") (U := "int") (by decide) ⟨_, ho, rfl⟩ asInt noFill_tuple_mul F.fills_int_mul F.slot_int_rmul repeat_tuple F.slot_int_index.lookup ?_
  refine call_meets F.slot_int_rmul (asInt s) F.entry_int_rmul (F.args_int_rmul_2 _ _) (int_rmul_tuple 1 t l its.toArray n dd sl) ⟨ho, rfl, ⟨_, ho, rfl⟩, ?_⟩
  refine call_meets F.slot_tuple_mul ⟨_, ho, rfl⟩ F.entry_tuple_mul (F.args_tuple_mul_2 _ _) (tup_once l _ its.toArray n t rfl rfl) ⟨ho, ?_⟩
  exact ⟨.ref l, H, I, rfl, q⟩
/-- + or * of all that is met here -/
noncomputable def rMulB (K : PySem.W.Frag) : R2 := fun x y H Q => rMulA K x y H Q ∨ rRepT1 K x y H Q
theorem op_mulB {X : Cx} : OpR X (binaryOp .Mult) (rMulB X.K) := op_or op_mulA op_repT1
section
variable {K : PySem.W.Frag} {B : Bs} {G : List Hp} {L : List Addr} {Γ : List Sl} {k : PyData → Prop}
theorem rb_repT1 {ds : List PyData} (hk : k (.tuple ds)) : ROk K B G L Γ (rMulB K) (.tuple ds) (.int 1) k := fun σ H Q v u E d1 d2 q => by
  cases d2
  have d1' := d1
  cases d1 with
  | @tup a xs _ e1 h2 => exact .inr ⟨a, xs, rfl, rfl, Same.sqt (hid_sub _ _) e1, q _ _ H (Go.refl E) d1' hk⟩
/-- a tuple times a count above 0 -/
theorem rb_repT {ds : List PyData} {n : Nat} (hne : ds ≠ []) (h0 : 1 ≤ n) (h1 : n ≤ 1000) (hl : ds.length ≤ 1000) (hk : k (.tuple (List.replicate n ds).flatten)) : ROk K B G L Γ (rMulB K) (.tuple ds) (.int (n : Int)) k := by
  rcases Nat.lt_or_ge n 2 with h | h
  · obtain rfl : n = 1 := by omega
    exact rb_repT1 (by simpa using hk)
  · exact (ro_repT hne (by omega) (by omega) hl (by simpa using hk)).l
/-- a list times a count that may be below 0 -/
theorem ro_repN {ds : List PyData} {n : Int} (h0 : -100000 ≤ n) (h1 : n ≤ 100000) (hl : ds.length * n.toNat ≤ 1000000) (hk : k (.list (List.replicate n.toNat ds).flatten)) : ROk K B G L Γ (rMulA K) (.list ds) (.int n) k := by
  refine ROk.r (ROk.r (ROk.l ?_))
  rintro σ H Q v u E d1 d2 q
  cases d2
  cases d1 with
  | @lst a xs _ e1 h2 =>
    refine ⟨a, n, xs, rfl, rfl, hid_sub _ _ _ _ e1, by omega, by omega, ?_, fun p hp => ?_⟩
    · rw [h2.length]
      exact sz_ok hl
    · have g := Go.new (o := .lst (List.replicate n.toNat xs).flatten) E hp
      exact q _ _ _ g (.lst (hid_new (E.newM hp)) ((DnA.reps h2 n.toNat).mono g.sm)) hk
end
end DL
/-! Calls with some arguments by name, in any order. -/
namespace DL
open PySem PySem.Spec PyProof.Rows L2
noncomputable def gP (m n : Nat) (js : List Nat) (us ws : List Value) : List Value := if us.length = m ∧ ws.length = n then us ++ js.map (fun j => ws.getD j .none) else []
noncomputable def gPV (m n : Nat) (js : List Nat) (vs zs : List V) : List V := if vs.length = m ∧ zs.length = n then vs ++ js.map (fun j => zs.getD j .non) else []
noncomputable def gPD (m n : Nat) (js : List Nat) (ds es : List PyData) : List PyData := if ds.length = m ∧ es.length = n then ds ++ js.map (fun j => es.getD j .none) else []
theorem vals_app {vs ws : List V} {us zs : List Value} : Vals vs us → Vals ws zs → Vals (vs ++ ws) (us ++ zs)
  | .nil, h => h
  | .cons a b, h => .cons a (vals_app b h)
theorem vals_getD : ∀ {zs : List V} {ws : List Value} (j : Nat), Vals zs ws → RelV (zs.getD j .non) (ws.getD j .none)
  | [], [], _, _ => rfl
  | _ :: _, _ :: _, 0, .cons a _ => a
  | _ :: _, _ :: _, j + 1, .cons _ b => vals_getD j b
theorem vals_pick {zs : List V} {ws : List Value} (h : Vals zs ws) : ∀ js : List Nat, Vals (js.map fun j => zs.getD j .non) (js.map fun j => ws.getD j .none)
  | [] => .nil
  | j :: js => .cons (vals_getD j h) (vals_pick h js)
theorem dna_getD {K : PySem.W.Frag} {H : Hp} : ∀ {zs : List V} {es : List PyData} (j : Nat), DnA K H zs es → Dn K H (zs.getD j .non) (es.getD j .none)
  | [], [], _, _ => .non
  | _ :: _, _ :: _, 0, .cons a _ => a
  | _ :: _, _ :: _, j + 1, .cons _ b => dna_getD j b
theorem dna_pick {K : PySem.W.Frag} {H : Hp} {zs : List V} {es : List PyData} (h : DnA K H zs es) : ∀ js : List Nat, DnA K H (js.map fun j => zs.getD j .non) (js.map fun j => es.getD j .none)
  | [] => .nil
  | j :: js => .cons (dna_getD j h) (dna_pick h js)
theorem dna_gP {K : PySem.W.Frag} {H : Hp} {vs zs : List V} {ds es : List PyData} (h1 : DnA K H vs ds) (h2 : DnA K H zs es) (m n : Nat) (js : List Nat) : DnA K H (gPV m n js vs zs) (gPD m n js ds es) := by
  unfold gPV gPD
  rw [h1.length, h2.length]
  split
  · exact h1.append (dna_pick h2 js)
  · exact .nil
theorem Fun.kbindsP {K : PySem.W.Frag} {x qual : Str} {st : Stmt} {f : Addr} {fd : FuncData} {ps ks : List Str} (F : Fun K x qual st f fd) (hne : ps ≠ []) (m n : Nat) (js : List Nat)
    (h : ∀ (kV doc pm : Value) (an : Option Addr) (cdv ct : Value) (us ws : List Value), us.length = m → ws.length = n → bindArgs (PySem.W.fnOf x qual (defArgs st) (defBody st) (defScope st) .none kV doc pm an cdv ct) ⟨us, ks.zip ws⟩ = pure (ps.zip (us ++ js.map fun j => ws.getD j .none))) : KBinds K fd ps ks (gP m n js) (gPV m n js) := by
  obtain ⟨oc, od, kV, doc, pm, an, cdv, ct, osl, rfl, lk, hcd⟩ := F.ex
  refine ⟨fun s us ws _ hl => ?_, fun {vs us zs ws} r rz => ?_⟩
  · unfold gP at hl ⊢
    split at hl
    · rename_i hc
      rw [if_pos hc]
      exact BindsTo.of_eq (h kV doc pm an cdv ct us ws hc.1 hc.2)
    · cases ps with
      | nil => exact absurd rfl hne
      | cons c d => cases hl
  · unfold gP gPV
    rw [r.length, rz.length]
    split
    · exact vals_app r (vals_pick rz js)
    · exact .nil
section
variable {X : Cx} {x : Str} {p pos : Pos} {k : Nat} {f : Addr} {fd : FuncData} {ps ks : List Str} {sp : Sp} {CX : CXT} {E : XK} {tk : TA} {kws : List Keyword} {g : List Value → List Value → List Value} {gV : List V → List V → List V}
noncomputable def tCallN (sp : Sp) (gV : List V → List V → List V) (E : XK) (tk : TA) : TE := fun σ H Q => tk σ H fun zs H1 => sp (gV [] zs) H1 Q E
theorem pe_callN (F : FnOk X.prog X.w X.K X.mg X.base CX k f fd ps sp) (hr : Room k X.A) (hg : Gl X x) (hm : X.mg x = some (.ref f)) (hk : PySem.W.keepIn X.K (.ref f) = true) (hb : KBinds X.K fd ps ks g gV) (hx : Passes CX X E)
    (hkw : PK X kws tk) (hall : (backToKw pos (keywordEach kws X.env)).all (·.1.isSome) = true := by rfl) (hks : (backToKw pos (keywordEach kws X.env)).filterMap (·.1) = ks := by rfl)
    (hdb : (x == ("__debug__" : Str)) = false := by decide)
    (hpl : ((backTo pos (starEach [] X.env)).any (·.1) || (backToKw pos (keywordEach kws X.env)).any (·.1.isNone)) = false := by rfl) :
    PE X (.Call (.Name x p) [] kws pos) (tCallN sp gV E tk) := by
  refine ⟨fun pins s σ H Q I h => ?_⟩
  refine wpAny_Call_Name_kw (ld_glob I hg hm ?_ hdb)
  refine PySem.W.callWith_KW0 (h₀ := X.base) I.ok.mod.kin hk hall ?_ hpl
  refine thn (hkw.run pos pins s σ H _ I h) fun ws s2 ⟨zs, H2, I2, rz, q2⟩ => ⟨I2.kIn, ?_⟩
  rw [hks]
  exact run_fnk (us := []) (vs := []) F hr hb hx I2 .nil rz q2
end
section
variable {K : PySem.W.Frag} {B : Bs} {G : List Hp} {L : List Addr} {Γ : List Sl} {tr tk : TA} {k : PyData → Prop}
theorem ev_callN {pre : List PyData → Prop} {post : List PyData → PyData → Prop} {E0 : XK} {m n : Nat} {js : List Nat} (h : EvA K B G L Γ tk fun es => pre (gPD m n js [] es) ∧ ∀ d, post (gPD m n js [] es) d → k d) : EvP K B G L Γ (tCallN (SpP K pre post) (gPV m n js) E0 tk) k := fun σ H Q E q =>
  h σ H _ E fun zs es H1 g1 dn ⟨hp, hk⟩ => by
    refine ⟨L ++ B.M, gPD m n js [] es, g1.env.alive, dna_gP .nil dn m n js, hp, fun v d H' hs dv hpost => ?_⟩
    have g2 := Go.step g1.env (H' := H') (fun a o _ e => hs a o e) fun w hw => by
      obtain ⟨n, b, c, e, q⟩ := g1.env.ws w hw
      exact ⟨n, b, c, hs _ _ e, q⟩
    exact q v d H' (g1.trans g2) dv (hk d hpost)
theorem ev_callKP {pre : List PyData → Prop} {post : List PyData → PyData → Prop} {E0 : XK} {m n : Nat} {js : List Nat} (h : EvA K B G L Γ tr fun ds => EvA K B G L Γ tk fun es => pre (gPD m n js ds es) ∧ ∀ d, post (gPD m n js ds es) d → k d) : EvP K B G L Γ (L2.tCallK (SpP K pre post) (gPV m n js) E0 tr tk) k := fun σ H Q E q =>
  h σ H _ E fun vs ds H1 g1 dn1 h2 => h2 σ H1 _ g1.env fun zs es H2 g2 dn ⟨hp, hk⟩ => by
    have g12 := g1.trans g2
    refine ⟨L ++ B.M, gPD m n js ds es, g12.env.alive, dna_gP (dn1.mono g2.sm) dn m n js, hp, fun v d H' hs dv hpost => ?_⟩
    have g3 := Go.step g12.env (H' := H') (fun a o _ e => hs a o e) fun w hw => by
      obtain ⟨n, b, c, e, q⟩ := g12.env.ws w hw
      exact ⟨n, b, c, hs _ _ e, q⟩
    exact q v d H' (g12.trans g3) dv (hk d hpost)
end
end DL
/-! More of lists: list(range(n)), two lists at once, two places at once, xs[::-1], unpacking. -/
namespace DL
open PySem PySem.Spec PyProof.Rows L2
section
variable {K : PySem.W.Frag} {B : Bs} {G : List Hp} {L : List Addr} {Γ : List Sl} {H H' H2 : Hp} {σ : L2.St}
variable {te tf ta tb : TE} {k : PyData → Prop} {P : PD}
/-- a, b = a new list, a new list, by a tuple -/
theorem st_unpOO {i j : Nat} (h : EvN K B G L Γ ta fun xs => ∀ l1 : Addr, EvN K B G (l1 :: L) Γ tb fun ys => ∀ l2 : Addr, l1 ≠ l2 → P.nx (l2 :: l1 :: L) ((Γ.set i (.own l1 xs)).set j (.own l2 ys))) : StP K B G L Γ (tAsg (tTup (tCons ta (tCons tb tNil))) (gTup K 2 (gCons (gName i) (gCons (gName j) gNil)))) P := fun σ H D E M =>
  h σ H _ E fun p vs xs H1 g1 hp hv dv h2 => h2 p σ H1 _ (Env.temp E g1 hp hv) fun q ws ys H2 g2 hq hw dw hk => by
    have hpq : p ≠ q := ne_of_none hv hq
    refine ⟨by show 2 ≤ sizeLine; decide, fun t ht => ?_⟩
    have s3 : Same H2 (upd H2 t (.tup [.ref p, .ref q])) := same_upd ht
    have E1 := Env.take E g1 hp hv i dv
    have g3 := Go.step E1 g2.rl g2.env.ws
    have E2 := Env.take E1 g3 hq hw j dw
    have g4 := Go.new (o := .tup [.ref p, .ref q]) E2 ht
    exact ⟨t, [.ref p, .ref q], rfl, .inl (.inl upd_same), rfl, _, _, rfl, _, _, rfl, rfl, M.nx _ _ _ _ (hk q hpq) g4.env⟩
/-- xs[a], xs[b] = e, f -/
theorem st_setTwo {tr : TA} {i : Nat} {l : Addr} {xs : List PyData} (hi : Γ[i]? = some (.own l xs)) (h : EvA K B G L Γ tr fun ds => ∃ x y, ds = [x, y] ∧ EvP K B G L Γ ta fun m => ∃ j : Nat, m = .int (j : Int) ∧ j < xs.length ∧
    EvP K B G L (Γ.set i (.own l (xs.set j x))) tb fun n => ∃ j2 : Nat, n = .int (j2 : Int) ∧ j2 < xs.length ∧ P.nx L (Γ.set i (.own l ((xs.set j x).set j2 y)))) :
    StP K B G L Γ (tAsg (tTup tr) (gTup K 2 (gCons (gSub (tVar i) ta rSetL) (gCons (gSub (tVar i) tb rSetL) gNil)))) P := fun σ H D E M =>
  h σ H _ E fun vs ds H1 g1 dn ⟨x, y, e, h2⟩ => by
    subst e
    cases dn with
    | cons d1 d2 =>
      cases d2 with
      | cons d2 d3 =>
        cases d3
        rename_i v u
        refine ⟨by show 2 ≤ sizeLine; decide, fun t ht => ?_⟩
        have g2 := Go.new (o := .tup [v, u]) g1.env ht
        refine ⟨t, [v, u], rfl, .inl (.inl upd_same), rfl, _, _, rfl, ?_⟩
        obtain ⟨e1, ws0, hl0, dn0⟩ := g2.env.getO hi
        refine ⟨_, e1, h2 σ _ _ g2.env fun m dm H3 g3 dm1 ⟨j, ej, hj, h3⟩ => ?_⟩
        subst ej
        obtain ⟨e2, ws, hl2, dn3⟩ := g3.env.getO hi
        have d1' := (d1.mono g2.sm).mono g3.sm
        have d2' := (d2.mono g2.sm).mono g3.sm
        refine ⟨l, ws, (j : Int), j, rfl, dn_int dm1, hl2, ?_, ?_⟩
        · rw [dn3.length]
          unfold ixN
          rw [if_pos (by omega), if_pos (by omega)]
          simp
        · have E4 := Env.write g3.env hi (dn3.set j d1')
          have s4 : Same (hid (L ++ B.M) H3) (hid (L ++ B.M) (upd H3 l (.lst (ws.set j v)))) := fun a o e => by
            obtain ⟨q, e⟩ := hid_some e
            have lM : l ∈ L ++ B.M := List.mem_append_left _ (g3.env.ow i l xs hi)
            rw [hid_out q, upd_ne (fun (z : a = l) => q (by rw [z]; exact lM))]
            exact e
          have hi4 : (Γ.set i (.own l (xs.set j x)))[i]? = some (.own l (xs.set j x)) := List.getElem?_set_self (List.getElem?_eq_some_iff.mp hi).1
          obtain ⟨e5, ws5, hl5, dn5⟩ := E4.getO hi4
          refine ⟨_, _, rfl, _, e5, h3 σ _ _ E4 fun n dn' H5 g5 dm2 ⟨j2, ej2, hj2, hk⟩ => ?_⟩
          subst ej2
          obtain ⟨e6, ws6, hl6, dn6⟩ := g5.env.getO hi4
          have d2'' := (d2'.mono s4).mono g5.sm
          refine ⟨l, ws6, (j2 : Int), j2, rfl, dn_int dm2, hl6, ?_, ?_⟩
          · rw [dn6.length, List.length_set]
            unfold ixN
            rw [if_pos (by omega), if_pos (by omega)]
            simp
          · have E7 := Env.write g5.env hi4 (dn6.set j2 d2'')
            rw [List.set_set] at E7
            exact ⟨rfl, M.nx _ _ _ _ hk E7⟩
end
end DL
/-! A text among texts, isinstance of a text, the least common multiple. -/
namespace DL
open PySem PySem.Spec PyProof.Rows L2
section
variable {K : PySem.W.Frag} {B : Bs} {G : List Hp} {L : List Addr} {Γ : List Sl} {te : TE} {k : PyData → Prop}
end
end DL
/-! The least common multiple of two or three numbers; a module's constant tuple. -/
namespace DL
open PySem PySem.Spec PyProof.Rows L2
section
open PySem.W
end
section
variable {K : PySem.W.Frag} {B : Bs} {G : List Hp} {L : List Addr} {Γ : List Sl} {te : TE} {k : PyData → Prop}
/-- a module's constant row -/
noncomputable def CT (K : PySem.W.Frag) (a : Addr) (d : PyData) : Prop := ∀ H : Hp, Dn K H (.ref a) d
theorem ev_ct {a : Addr} {d : PyData} (h : CT K a d) (hk : k d) : EvP K B G L Γ (tC (.ref a)) k := fun σ H Q E q => q _ _ H (Go.refl E) (h _) hk
end
theorem ct_pair {K : PySem.W.Frag} {a : Addr} {od : Option Addr} {n : Nat} {sl : Array (Option Value)} {i j : Int} {t u : Tok} (h : K.lookup a = some ⟨.type "tuple", od, .seq #[.int i t, .int j u] n, sl⟩) : CT K a (.tuple [.int i, .int j]) := fun H =>
  .tup (xs := [.int i, .int j]) (.inr ⟨_, _, _, h, rfl, rfl, by show 2 ≤ sizeLine; decide, .cons ⟨t, rfl⟩ (.cons ⟨u, rfl⟩ .nil)⟩) (.cons (.int i) (.cons (.int j) .nil))
end DL
/-! Comprehensions whose turns are pairs: [.. for x, y in rows]. -/
namespace DL
open PySem PySem.Spec PyProof.Rows L2
section
variable {K : PySem.W.Frag} {B : Bs} {G : List Hp} {L : List Addr} {Γ : List Sl} {H H' : Hp} {σ : L2.St} {tl te : TE} {tt : TT}
end
end DL
/-! Truth values compared. -/
namespace DL
open PySem PySem.Spec PyProof.Rows L2
section
variable {K : PySem.W.Frag} {B : Bs} {G : List Hp} {L : List Addr} {Γ : List Sl} {H H' H2 : Hp} {σ : L2.St}
variable {te ta tb tc : TE} {tt tu : TT} {tr : TA} {k : PyData → Prop} {x y : PyData}
end
end DL
/-! The least common multiple of two numbers; in, not in, index over lists of data. -/
namespace DL
open PySem PySem.Spec PyProof.Rows L2
section
open PySem.W
end
section
variable {K : PySem.W.Frag} {B : Bs} {G : List Hp} {L : List Addr} {Γ : List Sl} {te tf : TE} {k : PyData → Prop}
end
end DL
/-! Ranges with a start and with a step down, loops with several targets, enumerate in a comprehension. -/
namespace DL
open PySem PySem.Spec PyProof.Rows L2
section
variable {K : PySem.W.Frag} {B : Bs} {G : List Hp} {L : List Addr} {Γ : List Sl} {H H' H2 : Hp} {σ : L2.St}
variable {te ta tb tc tl : TE} {tt tu : TT} {tr : TA} {k : PyData → Prop} {x y : PyData} {P P' : PD} {t u : TS}
end
end DL
/-! Loops over three rows at once, lists or tuples, of one length. -/
namespace DL
open PySem PySem.Spec PyProof.Rows L2 RZ
noncomputable def SqB (K : PySem.W.Frag) (H : Hp) (b : Bool) (a : Addr) (xs : List V) : Prop := if b = true then SqT K H a xs else SqL K H a xs
noncomputable def ItB (h : Heap) (b : Bool) (it l : Addr) (i : Nat) : Prop := if b = true then h.IsTupleIter it l i else h.IsListIter it l i
noncomputable def ObB (h : Heap) (b : Bool) (l : Addr) (items : Array Value) : Prop := if b = true then h.IsTuple l items else h.IsList l items
theorem ItB.ob {h : Heap} {b : Bool} {it l : Addr} {i : Nat} (q : ItB h b it l i) : ∃ o, h.get? it = some o ∧ o.data = .fields #[.ref l, .int i 0] := by
  unfold ItB at q
  cases b with
  | true => obtain ⟨o, e, _, d⟩ := (show h.IsTupleIter it l i from q); exact ⟨o, e, d⟩
  | false => obtain ⟨o, e, _, d⟩ := (show h.IsListIter it l i from q); exact ⟨o, e, d⟩
theorem ItB.at {h h' : Heap} {b : Bool} {it l : Addr} {i : Nat} (q : ItB h b it l i) (k : ∀ o, h.get? it = some o → h'.get? it = some o) : ItB h' b it l i := by
  unfold ItB at q ⊢
  cases b with
  | true => exact Heap.IsTupleIter.at (show h.IsTupleIter it l i from q) k
  | false => exact Heap.IsListIter.at (show h.IsListIter it l i from q) k
theorem drawsB {prog : Program} {w : World} {A : Around} (hh : A.handled = none) (b : Bool) (it l : Addr) (hne : l ≠ it) (items : Array Value) : Draws prog w A it [it, l] items.size (fun i v => items[i]? = some v) (fun i h => ItB h b it l i ∧ ObB h b l items) := by
  cases b with
  | true => exact Draws.tuple hh it l hne items
  | false => exact Draws.list hh it l hne items
theorem beginsB (b : Bool) (l : Addr) (items : Array Value) : Begins (.ref l) { cls := .type (if b = true then "tuple_iterator" else "list_iterator"), data := .fields #[.ref l, .int 0 0] } fun h => ObB h b l items := by
  cases b with
  | true => exact begins_tuple l items
  | false => exact begins_list l items
theorem itB_new {h : Heap} {b : Bool} {it l : Addr} (e : h.get? it = some { cls := .type (if b = true then "tuple_iterator" else "list_iterator"), data := .fields #[.ref l, .int 0 0] }) : ItB h b it l 0 := by
  unfold ItB
  cases b with
  | true => exact ⟨_, e, rfl, rfl⟩
  | false => exact ⟨_, e, rfl, rfl⟩
theorem inv_seqB {X : Cx} {pins : List (Addr × Obj)} {σ : L2.St} {H : Hp} {s : Shared} (I : Inv X pins σ H s) {b : Bool} {a : Addr} {xs : List V} (q : SqB X.K H b a xs) : ∃ its : List Value, ObB s.heap b a its.toArray ∧ its.length = xs.length ∧ (∀ (i : Nat) (x : V), xs[i]? = some x → ∃ u, its[i]? = some u ∧ RelV x u) ∧ a < s.heap.objs.size := by
  unfold SqB at q
  unfold ObB
  cases b with
  | true =>
    obtain ⟨its, rv, p, _⟩ := I.tuple (show SqT X.K H a xs from q)
    obtain ⟨o, ho, _⟩ := id p
    exact ⟨its, p, rv.length.symm, fun i x hx => rv.get hx, Heap.lt_size ho⟩
  | false =>
    obtain ⟨its, rv, p, _⟩ := I.list (show SqL X.K H a xs from q)
    exact ⟨its, p.isList, rv.length.symm, fun i x hx => rv.get hx, p.lt⟩
theorem inv_injB {X : Cx} {pins : List (Addr × Obj)} {σ : L2.St} {H : Hp} {s : Shared} (I : Inv X pins σ H s) {b : Bool} {a : Addr} {xs ys : List V} (q : SqB X.K H b a xs) (r : SqB X.K H b a ys) : xs = ys := by
  unfold SqB at q r
  cases b with
  | true => exact I.tuple_inj (show SqT X.K H a xs from q) (show SqT X.K H a ys from r)
  | false => exact I.list_inj (show SqL X.K H a xs from q) (show SqL X.K H a ys from r)
/-- three rows as they stand at each turn, the items in new tuples -/
noncomputable def Itz3 (K : PySem.W.Frag) (b1 b2 b3 : Bool) (a b c : Addr) : It :=
  ⟨fun i H => ∃ (xs ys zs : List V) (x y z : V), SqB K H b1 a xs ∧ SqB K H b2 b ys ∧ SqB K H b3 c zs ∧ xs[i]? = some x ∧ ys[i]? = some y ∧ zs[i]? = some z,
    fun i H v H' => ∃ T x y z, v = .ref T ∧ H T = none ∧ H' = upd H T (.tup [x, y, z]) ∧ (∀ xs, SqB K H b1 a xs → xs[i]? = some x) ∧ (∀ ys, SqB K H b2 b ys → ys[i]? = some y) ∧ ∀ zs, SqB K H b3 c zs → zs[i]? = some z,
    fun i H => ∃ xs ys zs : List V, SqB K H b1 a xs ∧ SqB K H b2 b ys ∧ SqB K H b3 c zs ∧ xs.length = i ∧ ys.length = i ∧ zs.length = i⟩
theorem sep3 (I l1 l2 l3 : Nat) (h1 : l1 < I) (h2 : l2 < I) (h3 : l3 < I) : ZipSep3 (I + 5) (I + 3) (I + 4) I (I + 1) (I + 2) [I, l1] [I + 1, l2] [I + 2, l3] := by
  constructor <;> simp <;> (try constructor) <;> (try intro q) <;> (try (have q : (_ : Nat) = _ := q)) <;> omega
theorem turn_zip3 {P : Program} {w : World} {K : PySem.W.Frag} {elts : List Expr} {kk : Nat} {tpos : Pos} {b1 b2 b3 : Bool} {a b c z TI TO i1 i2 i3 : Addr} (D : ZipSep3 z TI TO i1 i2 i3 [i1, a] [i2, b] [i3, c]) (n1 : a ≠ i1) (n2 : b ≠ i2) (n3 : c ≠ i3) :
    Turn P w K (.Tuple elts kk tpos) (Itz3 K b1 b2 b3 a b c) [z, TI, TO, i1, i2, i3] z (fun i h => IsZip h z TI TO .none ∧ IsTupOf3 h TI (.ref i1) (.ref i2) (.ref i3) ∧ (∃ x y v, IsTupOf3 h TO x y v) ∧ ItB h b1 i1 a i ∧ ItB h b2 i2 b i ∧ ItB h b3 i3 c i) where
  mem := by simp
  obj := fun i h st d hc => by
    obtain ⟨hz, hTI, ⟨x, y, v, hTO⟩, h1, h2, h3⟩ := st
    obtain ⟨o1, e1, d1⟩ := h1.ob
    obtain ⟨o2, e2, d2⟩ := h2.ob
    obtain ⟨o3, e3, d3⟩ := h3.ob
    have e' : d = z ∨ d = TI ∨ d = TO ∨ d = i1 ∨ d = i2 ∨ d = i3 := by simpa using hc
    rcases e' with q | q | q | q | q | q
    · rw [q]; exact ⟨_, hz, fun v q => nomatch q⟩
    · rw [q]; exact ⟨_, hTI, fun v q => nomatch q⟩
    · rw [q]; exact ⟨_, hTO, fun v q => nomatch q⟩
    · rw [q]; exact ⟨o1, e1, fun v q => by rw [d1] at q; cases q⟩
    · rw [q]; exact ⟨o2, e2, fun v q => by rw [d2] at q; cases q⟩
    · rw [q]; exact ⟨o3, e3, fun v q => by rw [d3] at q; cases q⟩
  keep := fun i h h' st k => by
    obtain ⟨hz, hTI, ⟨x, y, v, hTO⟩, h1, h2, h3⟩ := st
    exact ⟨k z (by simp) _ hz, k TI (by simp) _ hTI, ⟨x, y, v, k TO (by simp) _ hTO⟩, h1.at fun o q => k i1 (by simp) o q, h2.at fun o q => k i2 (by simp) o q, h3.at fun o q => k i3 (by simp) o q⟩
  item := by
    intro X hP hw hK hc i pins s σ H E I hf st hg
    subst hP hw hK
    obtain ⟨hz, hTI, ⟨x0, y0, v0, hTO⟩, h1, h2, h3⟩ := st
    obtain ⟨xs, ys, zs, x, y, v, qx, qy, qz, hx, hy, hv⟩ := hg
    obtain ⟨t1, p1, l1, g1, _⟩ := inv_seqB I qx
    obtain ⟨t2, p2, l2, g2, _⟩ := inv_seqB I qy
    obtain ⟨t3, p3, l3, g3, _⟩ := inv_seqB I qz
    obtain ⟨u1, hu1, r1⟩ := g1 i x hx
    obtain ⟨u2, hu2, r2⟩ := g2 i y hy
    obtain ⟨u3, hu3, r3⟩ := g3 i v hv
    have hzl : z < s.heap.objs.size := Heap.lt_size hz
    have hh : X.A.in1.handled = none := I.ok.hd hc
    have D1 := drawsB (prog := X.prog) (w := X.w) hh b1 i1 a n1 t1.toArray
    have D2 := drawsB (prog := X.prog) (w := X.w) hh b2 i2 b n2 t2.toArray
    have D3 := drawsB (prog := X.prog) (w := X.w) hh b3 i3 c n3 t3.toArray
    refine wpAny_pyNext_zipD3_item D D1 D2 D3 hz hTI hTO ⟨h1, p1⟩ ⟨h2, p2⟩ ⟨h3, p3⟩
      (show i < t1.toArray.size by simpa using (List.getElem?_eq_some_iff.mp hu1).1) (show i < t2.toArray.size by simpa using (List.getElem?_eq_some_iff.mp hu2).1) (show i < t3.toArray.size by simpa using (List.getElem?_eq_some_iff.mp hu3).1) fun w1 w2 w3 h' tk e1 e2 e3 z' TO' s1 s2 s3 hT hsz hk => ?_
    have e1 : w1 = u1 := by
      have : t1[i]? = some w1 := by simpa using e1
      rw [hu1] at this
      exact (Option.some.inj this).symm
    have e2 : w2 = u2 := by
      have : t2[i]? = some w2 := by simpa using e2
      rw [hu2] at this
      exact (Option.some.inj this).symm
    have e3 : w3 = u3 := by
      have : t3[i]? = some w3 := by simpa using e3
      rw [hu3] at this
      exact (Option.some.inj this).symm
    subst e1 e2 e3
    refine ⟨_, rfl, wpAny_letOwnedTupleGo_zip (s := { s with heap := h', toks := tk }) z' fun h'' z'' sb => ?_⟩
    have hT2 : h''.get? s.heap.objs.size = some { cls := .type "tuple", data := .seq #[w1, w2, w3] } := (sb.2 _ (Nat.ne_of_gt hzl)).trans hT
    have new : ObjOk X.prog X.w (upd H s.heap.objs.size (.tup [x, y, v])) h'' s.heap.objs.size (.tup [x, y, v]) :=
      ⟨by show 3 ≤ sizeLine; decide, [w1, w2, w3], .cons r1 (.cons r2 (.cons r3 .nil)), ⟨_, hT2, rfl, _, rfl⟩⟩
    have I1 : Inv X pins σ (upd H s.heap.objs.size (.tup [x, y, v])) { s with heap := h'', toks := tk } :=
      I.turnedNew (t' := tk) (ch := [z, TI, TO, i1, i2, i3]) (fun c o hb q => (sb.2 c (fun q' => hb (by simp [q']))).trans (hk c o (fun q' => hb (by simp [q'])) (fun q' => hb (by simp [q'])) (fun q' => hb (by simp [q'])) (fun q' => hb (by simp [q'])) (fun q' => hb (by simp [q'])) q)) hf (Nat.le_refl _) new
    have k1 : i1 ≠ z := D.zi1.symm
    have k2 : i2 ≠ z := D.zi2.symm
    have k3 : i3 ≠ z := D.zi3.symm
    refine ⟨.ref s.heap.objs.size, _, I1, rfl, ⟨_, x, y, v, rfl, I.hok.fresh (Nat.le_refl _), rfl, fun l hl => by rw [inv_injB I hl qx]; exact hx, fun l hl => by rw [inv_injB I hl qy]; exact hy, fun l hl => by rw [inv_injB I hl qz]; exact hv⟩, ⟨z'', ?_, ⟨w1, w2, w3, ?_⟩, ?_, ?_, ?_⟩, fun c hcm => ?_⟩
    · exact (sb.2 _ D.TIz).trans (hk _ _ D.TIz D.TITO D.TIi1 D.TIi2 D.TIi3 hTI)
    · exact (sb.2 _ D.TOz).trans TO'
    · exact s1.1.at fun o q => (sb.2 _ k1).trans q
    · exact s2.1.at fun o q => (sb.2 _ k2).trans q
    · exact s3.1.at fun o q => (sb.2 _ k3).trans q
    · have hlt : c < s.heap.objs.size := by
        have e' : c = z ∨ c = TI ∨ c = TO ∨ c = i1 ∨ c = i2 ∨ c = i3 := by simpa using hcm
        rcases e' with q | q | q | q | q | q
        · rw [q]; exact hzl
        · rw [q]; exact Heap.lt_size hTI
        · rw [q]; exact Heap.lt_size hTO
        · rw [q]; obtain ⟨_, e1, _⟩ := h1.ob; exact Heap.lt_size e1
        · rw [q]; obtain ⟨_, e2, _⟩ := h2.ob; exact Heap.lt_size e2
        · rw [q]; obtain ⟨_, e3, _⟩ := h3.ob; exact Heap.lt_size e3
      rw [upd_ne (Nat.ne_of_lt hlt)]
      exact (hf c hcm).1
  done := by
    intro X hP hw hK hc i pins s σ H E I hf st hg
    subst hP hw hK
    obtain ⟨hz, hTI, ⟨x0, y0, v0, hTO⟩, h1, h2, h3⟩ := st
    obtain ⟨xs, ys, zs, qx, qy, qz, lx, ly, lz⟩ := hg
    obtain ⟨t1, p1, l1, g1, _⟩ := inv_seqB I qx
    obtain ⟨t2, p2, l2, g2, _⟩ := inv_seqB I qy
    obtain ⟨t3, p3, l3, g3, _⟩ := inv_seqB I qz
    have hh : X.A.in1.handled = none := I.ok.hd hc
    have D1 := drawsB (prog := X.prog) (w := X.w) hh b1 i1 a n1 t1.toArray
    have D2 := drawsB (prog := X.prog) (w := X.w) hh b2 i2 b n2 t2.toArray
    have D3 := drawsB (prog := X.prog) (w := X.w) hh b3 i3 c n3 t3.toArray
    exact wpAny_pyNext_zipD3_end D D1 D2 D3 hz hTI hTO ⟨h1, p1⟩ ⟨h2, p2⟩ ⟨h3, p3⟩
      (show i ≤ t1.toArray.size by simp; omega) (show i ≤ t2.toArray.size by simp; omega) (show i ≤ t3.toArray.size by simp; omega) (.inl (show i = t1.toArray.size by simp; omega)) fun h' tk hk => ⟨rfl, I.turnedL (t' := tk) (ch := [z, TI, TO, i1, i2, i3]) (fun c o hb q =>
      hk c o (fun q' => hb (by simp [q'])) (fun q' => hb (by simp [q'])) (fun q' => hb (by simp [q'])) (fun q' => hb (by simp [q'])) (fun q' => hb (by simp [q'])) q) hf⟩
  self := fun A i s Q E st h => wpAny_pyIter_zip st.1 h
noncomputable def iZip3 (K : PySem.W.Frag) (ta : TA) : TI := fun σ H R => ta σ H fun vs H1 => ∃ (a b c : Addr) (b1 b2 b3 : Bool) (xs ys zs : List V), vs = [.ref a, .ref b, .ref c] ∧ SqB K H1 b1 a xs ∧ SqB K H1 b2 b ys ∧ SqB K H1 b3 c zs ∧ R (Itz3 K b1 b2 b3 a b c) H1
theorem pi_zip3 {X : Cx} {e e2 e3 : Expr} {ta : TA} {p pos tpos : Pos} {elts : List Expr} {kk : Nat} (hg : Gl X "zip") (hm : X.mg "zip" = none) (ha : PA X [e, e2, e3] ta)
    (hs : starEach [e, e2, e3] X.env = (false, eval e X.env) :: starEach [e2, e3] X.env := by rfl) (hpl : (backTo pos (starEach [e2, e3] X.env)).any (·.1) = false := by rfl) :
    PI X (.Tuple elts kk tpos) (.Call (.Name "zip" p) [e, e2, e3] [] pos) (iZip3 X.K ta) := by
  refine ⟨fun pins s σ H R I h => ?_⟩
  refine Call_ (ld_blt I hg hm PyProof.Rows.boot_zip (PyProof.Rows.callWith_type1 (thn (ha.run pos pins s σ H _ I h) fun us s1 ⟨vs, H1, I1, r1, q1⟩ => ?_) hs hpl))
  obtain ⟨a, b, c, b1, b2, b3, xs, ys, zs, ex, qx, qy, qz, q⟩ := q1
  subst ex
  cases r1 with
  | cons r rr =>
    cases rr with
    | cons r' rr =>
      cases rr with
      | cons r'' rr =>
        cases rr
        cases r
        cases r'
        cases r''
        have fresh : ∀ d, d ∈ [s1.heap.objs.size + 5, s1.heap.objs.size + 3, s1.heap.objs.size + 4, s1.heap.objs.size, s1.heap.objs.size + 1, s1.heap.objs.size + 2] → FpOk X pins H1 d := fun d hd => by
          have hle : s1.heap.objs.size ≤ d := by
            have e' : d = s1.heap.objs.size + 5 ∨ d = s1.heap.objs.size + 3 ∨ d = s1.heap.objs.size + 4 ∨ d = s1.heap.objs.size ∨ d = s1.heap.objs.size + 1 ∨ d = s1.heap.objs.size + 2 := by simpa using hd
            rcases e' with z | z | z | z | z | z
            · rw [z]; exact Nat.le_add_right _ _
            · rw [z]; exact Nat.le_add_right _ _
            · rw [z]; exact Nat.le_add_right _ _
            · rw [z]; exact Nat.le_refl _
            · rw [z]; exact Nat.le_add_right _ _
            · rw [z]; exact Nat.le_add_right _ _
          exact I1.fpOk hle (I1.hok.fresh hle)
        obtain ⟨t1, p1, _, _, g1⟩ := inv_seqB I1 qx
        obtain ⟨t2, p2, _, _, g2⟩ := inv_seqB I1 qy
        obtain ⟨t3, p3, _, _, g3⟩ := inv_seqB I1 qz
        refine zip_begins3 (beginsB b1 a t1.toArray) (beginsB b2 b t2.toArray) (beginsB b3 c t3.toArray) p1 p2 p3 fun h' hz hTI hTO e1 e2 e3 hsz hk => wpAny_pyIter_zip hz ?_
        have I2 : Inv X pins σ H1 { s1 with heap := h' } := I1.kept (t' := s1.toks) hk
        exact ⟨s1.heap.objs.size + 5, [s1.heap.objs.size + 5, s1.heap.objs.size + 3, s1.heap.objs.size + 4, s1.heap.objs.size, s1.heap.objs.size + 1, s1.heap.objs.size + 2], _, _, H1, rfl, I2, turn_zip3 (sep3 s1.heap.objs.size a b c g1 g2 g3) (Nat.ne_of_lt g1) (Nat.ne_of_lt (Nat.lt_succ_of_lt g2)) (Nat.ne_of_lt (Nat.lt_succ_of_lt (Nat.lt_succ_of_lt g3))), ⟨hz, hTI, ⟨_, _, _, hTO⟩, itB_new e1, itB_new e2, itB_new e3⟩, fresh, q⟩
/-- a loop over three rows of one length -/
theorem for_zip3 {K : PySem.W.Frag} {b1 b2 b3 : Bool} {a b c : Addr} {xs ys zs : List V} {g : TG} {tb : TS} {D : Ends} {σ : L2.St} {H : Hp} (l1 : xs.length = ys.length) (l2 : xs.length = zs.length) (Pv : Nat → L2.St → Hp → Prop) (h0 : Pv 0 σ H) (hq : ∀ i σ H, Pv i σ H → SqB K H b1 a xs ∧ SqB K H b2 b ys ∧ SqB K H b3 c zs)
    (hs : ∀ (i : Nat) (x y z : V) (T : Addr) (σ : L2.St) (H : Hp), xs[i]? = some x → ys[i]? = some y → zs[i]? = some z → Pv i σ H → H T = none → g (.ref T) σ (upd H T (.tup [x, y, z])) fun σ2 H2 => tb { D with nx := Pv (i + 1), ct := Pv (i + 1), bk := D.nx } σ2 H2) (hd : ∀ σ H, Pv xs.length σ H → D.nx σ H) :
    ∃ W : Nat → Nat → L2.St → Hp → Prop, (∃ m, W 0 m σ H) ∧ ∀ i m σ H, W i m σ H →
      ((Itz3 K b1 b2 b3 a b c).stop i H ∧ D.nx σ H) ∨ ((Itz3 K b1 b2 b3 a b c).go i H ∧ ∃ N : L2.St → Hp → Prop, (∀ σ' H', N σ' H' → ∃ m', m' < m ∧ W (i + 1) m' σ' H') ∧ ∀ v H', (Itz3 K b1 b2 b3 a b c).yld i H v H' → g v σ H' fun σ2 H2 => tb { D with nx := N, ct := N, bk := D.nx } σ2 H2) := by
  refine ⟨fun i m σ H => m = xs.length - i ∧ i ≤ xs.length ∧ Pv i σ H, ⟨xs.length, rfl, Nat.zero_le _, h0⟩, ?_⟩
  rintro i m σ H ⟨rfl, hi, p⟩
  obtain ⟨qx, qy, qz⟩ := hq i σ H p
  by_cases hlt : i < xs.length
  · have hx : xs[i]? = some xs[i] := List.getElem?_eq_getElem hlt
    have hy : ys[i]? = some ys[i] := List.getElem?_eq_getElem (by omega)
    have hz : zs[i]? = some zs[i] := List.getElem?_eq_getElem (by omega)
    refine .inr ⟨⟨xs, ys, zs, _, _, _, qx, qy, qz, hx, hy, hz⟩, Pv (i + 1), fun σ' H' p' => ⟨xs.length - (i + 1), by omega, rfl, hlt, p'⟩, fun v H' y => ?_⟩
    obtain ⟨T, x', y', z', rfl, hT, rfl, f1, f2, f3⟩ := y
    exact hs i x' y' z' T σ H (f1 xs qx) (f2 ys qy) (f3 zs qz) p hT
  · have e : i = xs.length := by omega
    subst e
    exact .inl ⟨⟨xs, ys, zs, qx, qy, qz, rfl, by omega, by omega⟩, hd σ H p⟩
section
variable {K : PySem.W.Frag} {B : Bs} {G : List Hp} {L : List Addr} {Γ : List Sl} {H H' H2 : Hp} {σ : L2.St}
variable {te ta tb tc tl : TE} {tt tu : TT} {tr : TA} {k : PyData → Prop} {x y : PyData} {P P' : PD} {t u : TS}
noncomputable def rowB (b : Bool) (ds : List PyData) : PyData := if b = true then .tuple ds else .list ds
theorem dn_rowB {f : Hp} {H : Hp} {b : Bool} {v : V} {ds : List PyData} (h : Dn K f v (rowB b ds)) : ∃ a xs, v = .ref a ∧ DnA K f xs ds ∧ ((b = true ∧ SqT K f a xs) ∨ (b = false ∧ f a = some (.lst xs))) := by
  unfold rowB at h
  cases b with
  | true =>
    cases (show Dn K f v (.tuple ds) from h) with
    | @tup a xs _ e1 h2 => exact ⟨a, xs, rfl, h2, .inl ⟨rfl, e1⟩⟩
  | false =>
    cases (show Dn K f v (.list ds) from h) with
    | @lst a xs _ e1 h2 => exact ⟨a, xs, rfl, h2, .inr ⟨rfl, e1⟩⟩
theorem sqB_of {f H : Hp} {b : Bool} {a : Addr} {xs : List V} (s : Same f H) (h : (b = true ∧ SqT K f a xs) ∨ (b = false ∧ f a = some (.lst xs))) : SqB K H b a xs := by
  unfold SqB
  rcases h with ⟨rfl, e⟩ | ⟨rfl, e⟩
  · exact Same.sqt s e
  · exact .inl (.inl (s _ _ e))
/-- for a, b, c in zip of three rows of one length -/
theorem st_forZ3 {j1 j2 j3 : Nat} (h : EvA K B G L Γ tr fun vs => ∃ (b1 b2 b3 : Bool) (ds es fs : List PyData), vs = [rowB b1 ds, rowB b2 es, rowB b3 fs] ∧ ds.length = es.length ∧ ds.length = fs.length ∧ ∃ I : Nat → List Addr → List Sl → Prop, I 0 L Γ ∧
    (∀ i d e f L' Γ' g, ds[i]? = some d → es[i]? = some e → fs[i]? = some f → I i L' Γ' → StP K B (g :: G) L' (((Γ'.set j1 (.d d)).set j2 (.d e)).set j3 (.d f)) t (P.inLoop (I (i + 1)))) ∧ ∀ L' Γ', I ds.length L' Γ' → P.nx L' Γ') :
    StP K B G L Γ (tFor (iZip3 K tr) (gTup K 3 (gCons (gName j1) (gCons (gName j2) (gCons (gName j3) gNil)))) t) P := fun σ H D E M =>
  h σ H _ E fun vs dd H1 g1 dn ⟨b1, b2, b3, ds, es, fs, e, le, lf, I, h0, hs, hd⟩ => by
    subst e
    cases dn with
    | cons d1 dn =>
      cases dn with
      | cons d2 dn =>
        cases dn with
        | cons d3 dn =>
          cases dn
          obtain ⟨a1, x1, rfl, h1, q1⟩ := dn_rowB (H := H1) d1
          obtain ⟨a2, x2, rfl, h2, q2⟩ := dn_rowB (H := H1) d2
          obtain ⟨a3, x3, rfl, h3, q3⟩ := dn_rowB (H := H1) d3
          have E1 := g1.env.gpush
          have l1 := h1.length
          have l2 := h2.length
          have l3 := h3.length
          refine ⟨a1, a2, a3, b1, b2, b3, x1, x2, x3, rfl, sqB_of (hid_sub _ _) q1, sqB_of (hid_sub _ _) q2, sqB_of (hid_sub _ _) q3, for_zip3 (xs := x1) (ys := x2) (zs := x3) (by omega) (by omega) (fun i σ' H' => ∃ L' Γ', I i L' Γ' ∧ Env K B (hid (L ++ B.M) H1 :: G) L' H' σ' Γ') ⟨L, Γ, h0, E1⟩ (fun i σ' H' ⟨L', Γ', _, E'⟩ => ?_) (fun i x y z T σ' H' hx hy hz ⟨L', Γ', hI, E'⟩ hT => ?_) (fun σ' H' ⟨L', Γ', hI, E'⟩ => ?_)⟩
          · have s := (E'.gh _ (List.mem_cons_self ..)).trans (hid_sub _ _)
            exact ⟨sqB_of s q1, sqB_of s q2, sqB_of s q3⟩
          · obtain ⟨d, e1, n1⟩ := h1.getV hx
            obtain ⟨e, e2, n2⟩ := h2.getV hy
            obtain ⟨f, e3, n3⟩ := h3.getV hz
            have gn := Go.new (o := .tup [x, y, z]) E' hT
            have E2 := gn.env
            have s := E2.gh _ (List.mem_cons_self ..)
            refine ⟨T, _, rfl, .inl (.inl upd_same), rfl, _, _, rfl, _, _, rfl, _, _, rfl, rfl, ?_⟩
            refine hs i d e f L' Γ' _ e1 e2 e3 hI _ _ _ (((E2.put j1 (n1.mono s)).put j2 (n2.mono s)).put j3 (n3.mono s)) ⟨fun L2 Γ2 σ2 H2 q E2 => ⟨L2, Γ2, q, E2⟩, M.rt, fun L2 Γ2 σ2 H2 q E2 => M.nx _ _ _ _ q E2.gpop, fun L2 Γ2 σ2 H2 q E2 => ⟨L2, Γ2, q, E2⟩⟩
          · rw [l1] at hI
            exact M.nx _ _ _ _ (hd L' Γ' hI) E'.gpop
end
end DL
/-! any of a tuple of whole numbers. -/
namespace DL
open PySem PySem.Spec PyProof.Rows L2
noncomputable def rAnyI (K : PySem.W.Frag) : List V → Hp → VK → Prop := fun vs H Q => ∃ (a : Addr) (ns : List Int), vs = [V.ref a] ∧ SqT K H a (ns.map V.int) ∧ Q (.bl ((ns.map PyData.int).any PyData.truthy)) H
theorem reads_ints (h : Heap) : ∀ {ns : List Int} {its : List Value}, Vals (ns.map V.int) its → ReadsAll h its (ns.map PyData.int) []
  | [], its, r => by cases r; exact .nil
  | n :: ns, its, r => by
    cases r with
    | cons r1 r2 =>
      obtain ⟨t, rfl⟩ := r1
      exact .cons (as := []) (bs := []) (.int n t) (reads_ints h r2)
theorem plain_ints : ∀ ns : List Int, PyData.plainAll (ns.map PyData.int) = true
  | [] => rfl
  | n :: ns => by
    have := plain_ints ns
    simp [PyData.plainAll, PyData.plain, this]
theorem cr_anyI {X : Cx} (hc : X.calm = true) : CallR X (.builtin "any") (rAnyI X.K) := by
  intro pins s σ H vs us Q I r h
  obtain ⟨a, ns, rfl, hs, q⟩ := h
  obtain ⟨its, rv, p, _⟩ := I.tuple hs
  rw [Vals.ref1 r]
  exact PySem.W.any_tuple_data (xs := ns.map PyData.int) (I.ok.hd hc) (show s.heap.IsTuple a its.toArray from p) (reads_ints _ rv) (plain_ints ns) (fun x hx => by
    obtain ⟨n, _, rfl⟩ := List.mem_map.mp hx
    trivial) fun h' tk hk => ⟨.bl _, H, I.kept hk, rfl, q⟩
theorem any_true {ns : List Int} {n : Int} (h : n ∈ ns) (h0 : n ≠ 0) : (ns.map PyData.int).any PyData.truthy = true := by
  rw [List.any_eq_true]
  refine ⟨.int n, List.mem_map.mpr ⟨n, h, rfl⟩, ?_⟩
  simp [PyData.truthy, h0]
section
variable {K : PySem.W.Frag} {B : Bs} {G : List Hp} {L : List Addr} {Γ : List Sl} {k : PyData → Prop}
theorem ints_of {f : Hp} : ∀ {xs : List V} {ns : List Int}, DnA K f xs (ns.map PyData.int) → xs = ns.map V.int
  | _, [], h => by cases h; rfl
  | _, n :: ns, h => by
    cases h with
    | cons h1 h2 =>
      cases h1
      rw [ints_of h2]
      rfl
theorem cok_anyI {ns : List Int} (hk : k (.bool ((ns.map PyData.int).any PyData.truthy))) : COk K B G L Γ (rAnyI K) [.tuple (ns.map PyData.int)] k := fun σ H Q vs E d1 q => by
  cases d1 with
  | cons h1 h2 =>
    cases h2
    cases h1 with
    | @tup a xs _ e1 dx =>
      obtain rfl := ints_of dx
      exact ⟨a, ns, rfl, Same.sqt (hid_sub _ _) e1, q _ _ H (Go.refl E) (.bl _) hk⟩
end
end DL
/-! Fractions, rows, the run of a line: what they are, apart from any program. -/
namespace Mx
open PySem

noncomputable abbrev Fr := Int × Int
noncomputable def frD (x : Fr) : PyData := .tuple [.int x.1, .int x.2]
noncomputable def FOk (x : Fr) : Prop := 0 < x.2 ∧ Nat.gcd x.1.natAbs x.2.natAbs = 1
noncomputable def val (x : Fr) : Rat := (x.1 : Rat) / (x.2 : Rat)

theorem ratInt_ne {a : Int} (h : a ≠ 0) : (a : Rat) ≠ 0 := fun z => h (Rat.intCast_inj.mp (z.trans (by rfl)))
theorem ratInt_pos {a : Int} (h : 0 < a) : (0 : Rat) < (a : Rat) := by
  have := Rat.intCast_lt_intCast.mpr h
  exact this
theorem val_eq {x : Fr} {n d : Int} (hx : 0 < x.2) (hd : 0 < d) : val x = (n : Rat) / (d : Rat) ↔ x.1 * d = n * x.2 := by
  have h1 : (x.2 : Rat) ≠ 0 := ratInt_ne (by omega)
  have h2 : (d : Rat) ≠ 0 := ratInt_ne (by omega)
  constructor
  · intro h
    have h3 : (x.1 : Rat) * d = n * x.2 := by
      unfold val at h
      grind
    have h4 : ((x.1 * d : Int) : Rat) = ((n * x.2 : Int) : Rat) := by
      rw [Rat.intCast_mul, Rat.intCast_mul]
      exact h3
    exact Rat.intCast_inj.mp h4
  · intro h
    have h4 : ((x.1 * d : Int) : Rat) = ((n * x.2 : Int) : Rat) := by rw [h]
    rw [Rat.intCast_mul, Rat.intCast_mul] at h4
    unfold val
    grind
/-- a reduced fraction that is u / S is no longer than these -/
theorem FOk.small {x : Fr} {u S : Int} (h : FOk x) (hS : 0 < S) (e : val x * (S : Rat) = (u : Rat)) : x.1.natAbs ≤ u.natAbs ∧ x.2.natAbs ≤ S.natAbs ∧ ∃ c : Int, 0 < c ∧ S = x.2 * c ∧ u = x.1 * c := by
  obtain ⟨h1, h2⟩ := h
  have hs : (S : Rat) ≠ 0 := ratInt_ne (by omega)
  have e2 : val x = (u : Rat) / (S : Rat) := by grind
  have e3 := (val_eq h1 hS).mp e2
  have d1 : x.2.natAbs ∣ S.natAbs := by
    have : x.2 ∣ x.1 * S := ⟨u, by rw [e3]; exact Int.mul_comm _ _⟩
    have h3 : x.2.natAbs ∣ x.1.natAbs * S.natAbs := by
      rw [← Int.natAbs_mul]
      exact Int.natAbs_dvd_natAbs.mpr this
    exact (Nat.Coprime.dvd_of_dvd_mul_left (show Nat.Coprime x.2.natAbs x.1.natAbs by
      unfold Nat.Coprime
      rw [Nat.gcd_comm]
      exact h2) h3)
  obtain ⟨c, hc⟩ := Int.natAbs_dvd_natAbs.mp d1
  have hc0 : 0 < c := by
    rcases Int.lt_trichotomy c 0 with q | q | q
    · have := Int.mul_neg_of_pos_of_neg h1 q
      omega
    · rw [q] at hc
      omega
    · exact q
  have e4 : u = x.1 * c := by
    rw [hc] at e3
    have : x.2 * (x.1 * c) = x.2 * u := by rw [Int.mul_comm x.2 u, ← e3]; grind
    exact (Int.eq_of_mul_eq_mul_left (by omega) this).symm
  refine ⟨?_, ?_, c, hc0, hc, e4⟩
  · rw [e4, Int.natAbs_mul]
    exact Nat.le_mul_of_pos_right _ (by omega)
  · rw [hc, Int.natAbs_mul]
    exact Nat.le_mul_of_pos_right _ (by omega)
theorem FOk.inj {x y : Fr} (hx : FOk x) (hy : FOk y) (e : val x = val y) : x = y := by
  have e1 := (val_eq (n := y.1) hx.1 hy.1).mp (by rw [e]; rfl)
  obtain ⟨_, h2, c, hc, e3, e4⟩ := hx.small (u := y.1) hy.1 (by
    rw [e]
    have := ratInt_ne (a := y.2) (by have := hy.1; omega)
    unfold val
    grind)
  obtain ⟨_, h5, _⟩ := hy.small (u := x.1) hx.1 (by
    rw [← e]
    have := ratInt_ne (a := x.2) (by have := hx.1; omega)
    unfold val
    grind)
  have h1 := hx.1
  have h3 := hy.1
  have : x.2 = y.2 := by omega
  rw [this] at e1
  have : x.1 = y.1 := Int.eq_of_mul_eq_mul_right (by omega) e1
  exact Prod.ext this (by assumption)

/-! ### rows of whole numbers -/
noncomputable def gcdL : List Int → Nat
  | [] => 0
  | x :: xs => Nat.gcd x.natAbs (gcdL xs)
noncomputable def prim (u : List Int) : List Int := u.map fun x => x / (gcdL u : Int)
theorem gcdL_dvd : ∀ {u : List Int} {x : Int}, x ∈ u → ((gcdL u : Nat) : Int) ∣ x
  | y :: ys, x, h => by
    rcases List.mem_cons.mp h with rfl | h
    · exact Int.ofNat_dvd_left.mpr (Nat.gcd_dvd_left _ _)
    · exact Int.dvd_trans (Int.ofNat_dvd.mpr (Nat.gcd_dvd_right _ _)) (gcdL_dvd h)
theorem gcdL_pos {u : List Int} (h : ∃ x ∈ u, x ≠ 0) : 0 < gcdL u := by
  obtain ⟨x, hx, hn⟩ := h
  rcases Nat.eq_zero_or_pos (gcdL u) with z | z
  · have := gcdL_dvd hx
    rw [z] at this
    exact absurd (Int.zero_dvd.mp this) hn
  · exact z
theorem prim_len (u : List Int) : (prim u).length = u.length := by simp [prim]
theorem prim_get (u : List Int) (k : Nat) : (prim u).getD k 0 = u.getD k 0 / (gcdL u : Int) := by
  unfold prim
  by_cases h : k < u.length
  · simp [List.getD_eq_getElem?_getD, h]
  · simp [List.getD_eq_getElem?_getD, h]
theorem mem_getD {u : List Int} {k : Nat} (h : u.getD k 0 ≠ 0) : u.getD k 0 ∈ u := by
  by_cases q : k < u.length
  · rw [List.getD_eq_getElem?_getD, List.getElem?_eq_getElem q]
    simp
  · exfalso
    apply h
    rw [List.getD_eq_getElem?_getD, List.getElem?_eq_none (by omega)]
    rfl
theorem prim_abs (u : List Int) (k : Nat) : ((prim u).getD k 0).natAbs ≤ (u.getD k 0).natAbs := by
  rw [prim_get]
  by_cases h : u.getD k 0 = 0
  · rw [h]; simp
  · have hm := mem_getD h
    have hp := gcdL_pos ⟨_, hm, h⟩
    rw [Int.natAbs_ediv_of_dvd (gcdL_dvd hm)]
    exact Nat.div_le_self _ _

/-! ### trimming -/
noncomputable def trim (u : List Int) : List Int := (u.reverse.dropWhile (· == 0)).reverse
theorem trim_id {u : List Int} (h : u.getLast? ≠ some 0) : trim u = u := by
  unfold trim
  cases e : u.reverse with
  | nil => simp [List.reverse_eq_nil_iff.mp e]
  | cons x xs =>
    have : u = (x :: xs).reverse := by rw [← e, List.reverse_reverse]
    have hx : x ≠ 0 := by
      intro z
      apply h
      rw [this, z]
      simp
    rw [List.dropWhile_cons]
    rw [if_neg (by simpa using hx)]
    exact this.symm

/-! ### the run -/
noncomputable def sh (t : Nat → Rat) : Nat → Rat
  | 0 => 0
  | k + 1 => t k
/-- the torque behind shaft i and the angle of disc i, by powers of the pace -/
noncomputable def run (J K : Nat → Rat) : Nat → (Nat → Rat) × (Nat → Rat)
  | 0 => (fun k => if k = 0 then K 0 else 0, fun k => if k = 0 then 1 else 0)
  | i + 1 => (fun k => (run J K i).1 k - J i * sh (run J K i).2 k, fun k => (run J K i).2 k + ((run J K i).1 k - J i * sh (run J K i).2 k) / K (i + 1))
noncomputable def tq (J K : Nat → Rat) (i : Nat) : Nat → Rat := (run J K i).1
noncomputable def tn (J K : Nat → Rat) (i : Nat) : Nat → Rat := (run J K i).2
theorem tq_succ (J K : Nat → Rat) (i k : Nat) : tq J K (i + 1) k = tq J K i k - J i * sh (tn J K i) k := rfl
theorem tn_succ (J K : Nat → Rat) (i k : Nat) : tn J K (i + 1) k = tn J K i k + tq J K (i + 1) k / K (i + 1) := rfl
/-- the end of a line of n + 1 discs -/
noncomputable def en (J K : Nat → Rat) (n : Nat) : Nat → Rat := fun k => tq J K (n + 1) k + K (n + 1) * tn J K n k
/-- what is beyond the degree, the lead, and what stands at 0 -/
noncomputable def alt (i : Nat) : Rat := if i % 2 = 0 then 1 else -1
theorem alt_succ (i : Nat) : alt (i + 1) = - alt i := by
  unfold alt
  rcases Nat.mod_two_eq_zero_or_one i with h | h
  · rw [if_neg (by omega), if_pos h]
  · rw [if_pos (by omega), if_neg (by omega)]
    rfl
theorem run_shape {J K : Nat → Rat} : ∀ i : Nat, (∀ j, j < i → 0 < J j) → (∀ j, 0 < j → j ≤ i → 0 < K j) →
    (∀ k, i < k → tq J K i k = 0 ∧ tn J K i k = 0) ∧ 0 < alt i * tn J K i i ∧ tq J K i 0 = K 0 ∧ (0 ≤ K 0 → 0 < tn J K i 0)
  | 0, _, _ => by
    refine ⟨fun k hk => ?_, ?_, rfl, fun _ => ?_⟩
    · unfold tq tn run
      simp [show ¬ k = 0 by omega]
    · show (0 : Rat) < 1 * 1
      decide +kernel
    · show (0 : Rat) < 1
      decide +kernel
  | i + 1, hJ, hK => by
    obtain ⟨h1, h2, h3, h4⟩ := run_shape i (fun j h => hJ j (by omega)) (fun j a b => hK j a (by omega))
    have hk := hK (i + 1) (by omega) (by omega)
    have hj := hJ i (by omega)
    have t1 : tq J K (i + 1) (i + 1) = - (J i * tn J K i i) := by
      rw [tq_succ, (h1 (i + 1) (by omega)).1]
      show 0 - J i * tn J K i i = _
      grind
    refine ⟨fun k h => ?_, ?_, ?_, fun h0 => ?_⟩
    · have a : tq J K (i + 1) k = 0 := by
        rw [tq_succ, (h1 k (by omega)).1]
        match k, h with
        | k + 1, h =>
          show 0 - J i * tn J K i k = 0
          rw [(h1 k (by omega)).2]
          grind
      refine ⟨a, ?_⟩
      rw [tn_succ, a, (h1 k (by omega)).2]
      grind
    · rw [tn_succ, t1, (h1 (i + 1) (by omega)).2, alt_succ]
      have : -alt i * (0 + -(J i * tn J K i i) / K (i + 1)) = J i * (alt i * tn J K i i) / K (i + 1) := by grind
      rw [this, Rat.div_def]
      exact Rat.mul_pos (Rat.mul_pos hj h2) (Rat.inv_pos.mpr hk)
    · rw [tq_succ, h3]
      show K 0 - J i * 0 = K 0
      grind
    · rw [tn_succ, tq_succ, h3]
      show 0 < tn J K i 0 + (K 0 - J i * 0) / K (i + 1)
      have h5 := h4 h0
      have h6 : 0 ≤ K 0 / K (i + 1) := by
        rw [Rat.div_def]
        exact Rat.mul_nonneg h0 (Rat.le_of_lt (Rat.inv_pos.mpr hk))
      grind
theorem tq_lead {J K : Nat → Rat} (i : Nat) (hJ : ∀ j, j < i + 1 → 0 < J j) (hK : ∀ j, 0 < j → j ≤ i → 0 < K j) : (∀ k, i + 1 < k → tq J K (i + 1) k = 0) ∧ 0 < alt (i + 1) * tq J K (i + 1) (i + 1) ∧ tq J K (i + 1) 0 = K 0 := by
  obtain ⟨h1, h2, h3, h4⟩ := run_shape i (fun j h => hJ j (by omega)) hK
  have hj := hJ i (by omega)
  refine ⟨fun k h => ?_, ?_, ?_⟩
  · rw [tq_succ, (h1 k (by omega)).1]
    match k, h with
    | k + 1, h =>
      show 0 - J i * tn J K i k = 0
      rw [(h1 k (by omega)).2]
      grind
  · rw [tq_succ, (h1 (i + 1) (by omega)).1, alt_succ]
    show 0 < -alt i * (0 - J i * tn J K i i)
    have : -alt i * (0 - J i * tn J K i i) = J i * (alt i * tn J K i i) := by grind
    rw [this]
    exact Rat.mul_pos hj h2
  · rw [tq_succ, h3]
    show K 0 - J i * 0 = K 0
    grind
theorem en_shape {J K : Nat → Rat} (n : Nat) (hJ : ∀ j, j < n + 1 → 0 < J j) (hK : ∀ j, 0 < j → j ≤ n → 0 < K j) (h0 : 0 ≤ K 0) (hn : 0 ≤ K (n + 1)) :
    (∀ k, n + 1 < k → en J K n k = 0) ∧ 0 < alt (n + 1) * en J K n (n + 1) ∧ (K 0 = 0 → K (n + 1) = 0 → en J K n 0 = 0) ∧ (0 < K 0 ∨ 0 < K (n + 1) → 0 < en J K n 0) := by
  obtain ⟨h1, h2, h3, h4⟩ := run_shape n (fun j h => hJ j (by omega)) hK
  obtain ⟨g1, g2, g3⟩ := tq_lead n hJ hK
  unfold en
  refine ⟨fun k h => ?_, ?_, fun a b => ?_, fun h => ?_⟩
  · rw [g1 k h, (h1 k (by omega)).2]
    grind
  · rw [(h1 (n + 1) (by omega)).2]
    have : alt (n + 1) * (tq J K (n + 1) (n + 1) + K (n + 1) * 0) = alt (n + 1) * tq J K (n + 1) (n + 1) := by grind
    rw [this]
    exact g2
  · rw [g3, a, b]
    grind
  · rw [g3]
    have h5 := h4 h0
    have h6 := Rat.mul_nonneg hn (Rat.le_of_lt h5)
    rcases h with h | h
    · grind
    · have := Rat.mul_pos h h5
      grind
end Mx
namespace Mx
open PySem

/-! ### rows that are a number times a polynomial -/
structure Rel (S : Int) (u : List Int) (f : Nat → Rat) : Prop where
  pos : 0 < S
  at_ : ∀ k, ((u.getD k 0 : Int) : Rat) = (S : Rat) * f k
noncomputable def comb (a : Int) (u : List Int) (b : Int) (v : List Int) : List Int := (List.range (max u.length v.length)).map fun k => a * u.getD k 0 + b * v.getD k 0
theorem comb_len (a : Int) (u : List Int) (b : Int) (v : List Int) : (comb a u b v).length = max u.length v.length := by simp [comb]
theorem getD_out {u : List Int} {k : Nat} (h : u.length ≤ k) : u.getD k 0 = 0 := by
  rw [List.getD_eq_getElem?_getD, List.getElem?_eq_none h]
  rfl
theorem comb_get (a : Int) (u : List Int) (b : Int) (v : List Int) (k : Nat) : (comb a u b v).getD k 0 = a * u.getD k 0 + b * v.getD k 0 := by
  by_cases h : k < max u.length v.length
  · rw [List.getD_eq_getElem?_getD, List.getElem?_eq_getElem (by rw [comb_len]; exact h)]
    simp [comb]
  · rw [getD_out (by rw [comb_len]; omega), getD_out (u := u) (by omega), getD_out (u := v) (by omega)]
    omega
theorem last_ne {u : List Int} {n : Nat} (hl : u.length = n + 1) (h : u.getD n 0 ≠ 0) : u.getLast? ≠ some 0 := by
  rw [List.getLast?_eq_getElem?, hl]
  intro z
  apply h
  rw [List.getD_eq_getElem?_getD]
  rw [show n + 1 - 1 = n by omega] at z
  rw [z]
  rfl
theorem Rel.ne {S : Int} {u : List Int} {f : Nat → Rat} (r : Rel S u f) {k : Nat} (h : f k ≠ 0) : u.getD k 0 ≠ 0 := by
  intro z
  have := r.at_ k
  rw [z] at this
  have hs := ratInt_ne (a := S) (by have := r.pos; omega)
  have h0 : ((0 : Int) : Rat) = 0 := rfl
  rw [h0] at this
  grind
theorem ne_of_alt {i : Nat} {x : Rat} (h : 0 < alt i * x) : x ≠ 0 := by
  intro z
  rw [z] at h
  have : alt i * 0 = 0 := by grind
  rw [this] at h
  exact absurd h (by decide +kernel)

/-! ### a step of the run in whole numbers -/
structure LN (ds ss : List Fr) : Prop where
  c1 : 1 ≤ ds.length
  c8 : ds.length ≤ 8
  len : ss.length = ds.length + 1
  dok : ∀ x ∈ ds, FOk x ∧ 0 < x.1 ∧ x.1 < 18446744073709551616 ∧ x.2 < 18446744073709551616
  sok : ∀ x ∈ ss, FOk x ∧ 0 ≤ x.1 ∧ x.1 < 18446744073709551616 ∧ x.2 < 18446744073709551616
  inn : ∀ i x, 0 < i → i < ds.length → ss[i]? = some x → 0 < x.1
noncomputable def jv (ds : List Fr) (i : Nat) : Rat := val (ds.getD i (0, 1))
theorem val_pos {x : Fr} (h2 : 0 < x.2) : (0 < val x ↔ 0 < x.1) ∧ (0 ≤ val x ↔ 0 ≤ x.1) ∧ (val x = 0 ↔ x.1 = 0) := by
  have h := ratInt_pos h2
  have hi := Rat.inv_pos.mpr h
  have e : val x = (x.1 : Rat) * (x.2 : Rat)⁻¹ := Rat.div_def _ _
  have e0 : val x = 0 ↔ x.1 = 0 := by
    constructor
    · intro z
      have : (x.1 : Rat) = 0 := by
        have hn := ratInt_ne (a := x.2) (by omega)
        unfold val at z
        grind
      exact Rat.intCast_inj.mp (this.trans rfl)
    · intro z
      rw [e, z]
      show (0 : Rat) * _ = 0
      grind
  have p1 : 0 < x.1 → 0 < val x := fun q => by
    rw [e]
    exact Rat.mul_pos (ratInt_pos q) hi
  have n1 : x.1 < 0 → val x < 0 := fun q => by
    have q2 : 0 < (-x.1 : Int) := by omega
    have q3 := Rat.mul_pos (ratInt_pos q2) hi
    rw [e]
    rw [Rat.intCast_neg] at q3
    grind
  refine ⟨⟨fun q => ?_, p1⟩, ⟨fun q => ?_, fun q => ?_⟩, e0⟩
  · rcases Int.lt_trichotomy x.1 0 with z | z | z
    · have := n1 z
      grind
    · rw [e0.mpr z] at q
      exact absurd q (by decide +kernel)
    · exact z
  · rcases Int.lt_trichotomy x.1 0 with z | z | z
    · have := n1 z
      grind
    · omega
    · omega
  · rcases Int.lt_trichotomy x.1 0 with z | z | z
    · omega
    · rw [e0.mpr z]
      decide +kernel
    · exact Rat.le_of_lt (p1 z)
section
variable {ds ss : List Fr} (h : LN ds ss)
include h
theorem LN.d_get {i : Nat} (hi : i < ds.length) : ∃ x, ds[i]? = some x ∧ ds.getD i (0, 1) = x ∧ FOk x ∧ 0 < x.1 ∧ x.1 < 18446744073709551616 ∧ x.2 < 18446744073709551616 := by
  refine ⟨ds[i], List.getElem?_eq_getElem hi, ?_, h.dok _ (List.getElem_mem hi)⟩
  rw [List.getD_eq_getElem?_getD, List.getElem?_eq_getElem hi]
  rfl
theorem LN.s_get {i : Nat} (hi : i < ss.length) : ∃ x, ss[i]? = some x ∧ ss.getD i (0, 1) = x ∧ FOk x ∧ 0 ≤ x.1 ∧ x.1 < 18446744073709551616 ∧ x.2 < 18446744073709551616 ∧ (0 < i → i < ds.length → 0 < x.1) := by
  obtain ⟨a, b, c, d⟩ := h.sok _ (List.getElem_mem hi)
  refine ⟨ss[i], List.getElem?_eq_getElem hi, ?_, a, b, c, d, fun p q => h.inn i _ p q (List.getElem?_eq_getElem hi)⟩
  rw [List.getD_eq_getElem?_getD, List.getElem?_eq_getElem hi]
  rfl
theorem LN.jpos {i : Nat} (hi : i < ds.length) : 0 < jv ds i := by
  obtain ⟨x, _, e, a, b, _⟩ := h.d_get hi
  unfold jv
  rw [e]
  exact (val_pos a.1).1.mpr b
theorem LN.kpos {i : Nat} (h0 : 0 < i) (hi : i < ds.length) : 0 < jv ss i := by
  obtain ⟨x, _, e, a, b, _, _, q⟩ := h.s_get (i := i) (by rw [h.len]; omega)
  unfold jv
  rw [e]
  exact (val_pos a.1).1.mpr (q h0 hi)
theorem LN.knn {i : Nat} (hi : i < ss.length) : 0 ≤ jv ss i := by
  obtain ⟨x, _, e, a, b, _⟩ := h.s_get hi
  unfold jv
  rw [e]
  exact (val_pos a.1).2.1.mpr b
end

noncomputable abbrev bd (u : List Int) (e : Nat) : Prop := ∀ x ∈ u, x.natAbs < 2 ^ e
theorem bd.get {u : List Int} {e : Nat} (h : bd u e) (k : Nat) : (u.getD k 0).natAbs < 2 ^ e := by
  by_cases q : u.getD k 0 = 0
  · rw [q]
    exact Nat.pow_pos (by decide)
  · exact h _ (mem_getD q)
theorem bd.of_get {u : List Int} {e : Nat} (h : ∀ k, (u.getD k 0).natAbs < 2 ^ e) : bd u e := fun x hx => by
  obtain ⟨k, hk, e1⟩ := List.getElem_of_mem hx
  have := h k
  rw [List.getD_eq_getElem?_getD, List.getElem?_eq_getElem hk] at this
  rw [← e1]
  simpa using this
theorem natAbs_mul_lt {a b : Int} {m n : Nat} (ha : a.natAbs < 2 ^ m) (hb : b.natAbs < 2 ^ n) : (a * b).natAbs < 2 ^ (m + n) := by
  rw [Int.natAbs_mul, Nat.pow_add]
  rcases Nat.eq_zero_or_pos a.natAbs with z | z
  · rw [z, Nat.zero_mul]
    exact Nat.mul_pos (Nat.pow_pos (by decide)) (Nat.pow_pos (by decide))
  · exact Nat.lt_of_lt_of_le (Nat.mul_lt_mul_of_pos_left hb z) (Nat.mul_le_mul_right _ (Nat.le_of_lt ha))
theorem natAbs_add_lt {a b : Int} {m : Nat} (ha : a.natAbs < 2 ^ m) (hb : b.natAbs < 2 ^ m) : (a + b).natAbs < 2 ^ (m + 1) := by
  have := Int.natAbs_add_le a b
  rw [Nat.pow_succ]
  omega
theorem pow_up {a m n : Nat} (h : a < 2 ^ m) (hn : m ≤ n) : a < 2 ^ n := Nat.lt_of_lt_of_le h (Nat.pow_le_pow_right (by decide) hn)
theorem comb_bd {a b : Int} {u v : List Int} {m n : Nat} {e f : Nat} (ha : a.natAbs < 2 ^ m) (hb : b.natAbs < 2 ^ n) (hu : bd u e) (hv : bd v f) {g : Nat} (h1 : m + e ≤ g) (h2 : n + f ≤ g) : bd (comb a u b v) (g + 1) := by
  apply bd.of_get
  intro k
  rw [comb_get]
  exact natAbs_add_lt (pow_up (natAbs_mul_lt ha (hu.get k)) h1) (pow_up (natAbs_mul_lt hb (hv.get k)) h2)
theorem shift_get (u : List Int) (f : Nat → Rat) (S : Rat) (h : ∀ k, ((u.getD k 0 : Int) : Rat) = S * f k) (k : Nat) : ((((0 : Int) :: u).getD k 0 : Int) : Rat) = S * sh f k := by
  cases k with
  | zero =>
    show ((0 : Int) : Rat) = S * 0
    have : ((0 : Int) : Rat) = 0 := rfl
    grind
  | succ k =>
    rw [List.getD_cons_succ]
    exact h k

/-- the state ahead of disc i -/
structure Sta (ds ss : List Fr) (i : Nat) (S : Int) (turn torque : List Int) : Prop where
  tu : Rel S turn (tn (jv ds) (jv ss) i)
  to : Rel S torque (tq (jv ds) (jv ss) i)
  tl : turn.length = i + 1
  ol : torque.length ≤ i + 1
  bS : S.natAbs < 2 ^ (64 + 130 * i)
  bt : bd turn (64 + 130 * i)
  bo : bd torque (64 + 130 * i)
theorem step1 {ds ss : List Fr} {i : Nat} {S : Int} {turn torque : List Int} (h : LN ds ss) (hi : i < ds.length) (st : Sta ds ss i S turn torque) {J : Fr} (hJ : ds[i]? = some J) :
    ∃ to', trim (comb J.2 torque (-J.1) (0 :: turn)) = to' ∧ Rel (S * J.2) to' (tq (jv ds) (jv ss) (i + 1)) ∧ to'.length = i + 2 ∧ bd to' (64 + 130 * i + 65) := by
  obtain ⟨J', e1, e2, a, b, c, d⟩ := h.d_get hi
  rw [hJ] at e1
  cases e1
  have hl : (comb J.2 torque (-J.1) (0 :: turn)).length = i + 2 := by
    rw [comb_len, List.length_cons, st.tl]
    have := st.ol
    omega
  have hr : Rel (S * J.2) (comb J.2 torque (-J.1) (0 :: turn)) (tq (jv ds) (jv ss) (i + 1)) := by
    refine ⟨Int.mul_pos st.to.pos a.1, fun k => ?_⟩
    rw [comb_get, tq_succ, Rat.intCast_add, Rat.intCast_mul, Rat.intCast_mul, Rat.intCast_mul, st.to.at_ k, shift_get turn _ _ st.tu.at_ k, Rat.intCast_neg]
    have hj : jv ds i = (J.1 : Rat) / (J.2 : Rat) := by
      unfold jv
      rw [e2]
      rfl
    have hn := ratInt_ne (a := J.2) (by have := a.1; omega)
    rw [hj]
    grind
  have hld := (tq_lead (J := jv ds) (K := jv ss) i (fun j hj => h.jpos (by omega)) (fun j p q => h.kpos p (by omega))).2.1
  have hid : trim (comb J.2 torque (-J.1) (0 :: turn)) = comb J.2 torque (-J.1) (0 :: turn) := trim_id (last_ne hl (hr.ne (ne_of_alt hld)))
  refine ⟨_, hid, hr, hl, ?_⟩
  have p1 : J.2.natAbs < 2 ^ 64 := by have := a.1; omega
  have p2 : (-J.1).natAbs < 2 ^ 64 := by omega
  refine comb_bd p1 p2 st.bo (f := 64 + 130 * i) (fun x hx => ?_) (by omega) (by omega)
  rcases List.mem_cons.mp hx with rfl | hx
  · exact Nat.pow_pos (by decide)
  · exact st.bt x hx
theorem step2 {ds ss : List Fr} {i : Nat} {S : Int} {turn torque to' : List Int} (h : LN ds ss) (hi : i + 1 < ds.length) (st : Sta ds ss i S turn torque) {J C : Fr} (hJ : ds[i]? = some J) (hC : ss[i + 1]? = some C)
    (hr : Rel (S * J.2) to' (tq (jv ds) (jv ss) (i + 1))) (hl : to'.length = i + 2) (hb : bd to' (64 + 130 * i + 65)) :
    Sta ds ss (i + 1) (S * (J.2 * C.1)) (trim (comb (J.2 * C.1) turn C.2 to')) (trim (comb C.1 to' 0 [])) := by
  obtain ⟨J', e1, e2, a, b, c, d⟩ := h.d_get (i := i) (by omega)
  rw [hJ] at e1
  cases e1
  obtain ⟨C', g1, g2, a', b', c', d', q'⟩ := h.s_get (i := i + 1) (by rw [h.len]; omega)
  rw [hC] at g1
  cases g1
  have hC0 := q' (by omega) hi
  have hk : jv ss (i + 1) = (C.1 : Rat) / (C.2 : Rat) := by
    unfold jv
    rw [g2]
    rfl
  have n1 := ratInt_ne (a := J.2) (by have := a.1; omega)
  have n2 := ratInt_ne (a := C.1) (by omega)
  have n3 := ratInt_ne (a := C.2) (by have := a'.1; omega)
  have hS : 0 < S * (J.2 * C.1) := Int.mul_pos st.tu.pos (Int.mul_pos a.1 hC0)
  have sh1 := run_shape (J := jv ds) (K := jv ss) (i + 1) (fun j hj => h.jpos (by omega)) (fun j p q => h.kpos p (by omega))
  have ld := (tq_lead (J := jv ds) (K := jv ss) i (fun j hj => h.jpos (by omega)) (fun j p q => h.kpos p (by omega))).2.1
  have l1 : (comb (J.2 * C.1) turn C.2 to').length = i + 2 := by
    rw [comb_len, st.tl, hl]
    omega
  have r1 : Rel (S * (J.2 * C.1)) (comb (J.2 * C.1) turn C.2 to') (tn (jv ds) (jv ss) (i + 1)) := by
    refine ⟨hS, fun k => ?_⟩
    rw [comb_get, tn_succ, Rat.intCast_add, Rat.intCast_mul, Rat.intCast_mul, Rat.intCast_mul, Rat.intCast_mul, Rat.intCast_mul, st.tu.at_ k, hr.at_ k, hk, Rat.intCast_mul]
    grind
  have l2 : (comb C.1 to' 0 []).length = i + 2 := by
    rw [comb_len, hl]
    simp
  have r2 : Rel (S * (J.2 * C.1)) (comb C.1 to' 0 []) (tq (jv ds) (jv ss) (i + 1)) := by
    refine ⟨hS, fun k => ?_⟩
    rw [comb_get, Int.zero_mul, Int.add_zero, Rat.intCast_mul, hr.at_ k, Rat.intCast_mul, Rat.intCast_mul, Rat.intCast_mul]
    grind
  rw [trim_id (last_ne l1 (r1.ne (ne_of_alt sh1.2.1))), trim_id (last_ne l2 (r2.ne (ne_of_alt ld)))]
  have p1 : J.2.natAbs < 2 ^ 64 := by have := a.1; omega
  have p2 : C.1.natAbs < 2 ^ 64 := by omega
  have p3 : C.2.natAbs < 2 ^ 64 := by have := a'.1; omega
  have p12 : (J.2 * C.1).natAbs < 2 ^ (64 + 64) := natAbs_mul_lt p1 p2
  have b1 : bd (comb (J.2 * C.1) turn C.2 to') (64 + 130 * i + 129 + 1) := comb_bd p12 p3 st.bt hb (by omega) (by omega)
  have b2 : bd (comb C.1 to' 0 []) (64 + 130 * i + 129 + 1) := comb_bd (n := 0) (f := 0) p2 (by decide) hb (fun x hx => by simp at hx) (by omega) (by omega)
  refine ⟨r1, r2, l1, by omega, ?_, ?_, ?_⟩
  · exact pow_up (natAbs_mul_lt st.bS p12) (by omega)
  · rw [show 64 + 130 * (i + 1) = 64 + 130 * i + 129 + 1 by omega]
    exact b1
  · rw [show 64 + 130 * (i + 1) = 64 + 130 * i + 129 + 1 by omega]
    exact b2
theorem stepE {ds ss : List Fr} {i : Nat} {S : Int} {turn torque to' : List Int} (h : LN ds ss) (hi : i + 1 = ds.length) (st : Sta ds ss i S turn torque) {J C : Fr} (hJ : ds[i]? = some J) (hC : ss[i + 1]? = some C)
    (hr : Rel (S * J.2) to' (tq (jv ds) (jv ss) (i + 1))) (hl : to'.length = i + 2) (hb : bd to' (64 + 130 * i + 65)) :
    Rel (S * (J.2 * C.2)) (trim (comb (J.2 * C.1) turn C.2 to')) (en (jv ds) (jv ss) i) ∧ (trim (comb (J.2 * C.1) turn C.2 to')).length = i + 2 ∧ bd (trim (comb (J.2 * C.1) turn C.2 to')) (64 + 130 * (i + 1)) := by
  obtain ⟨J', e1, e2, a, b, c, d⟩ := h.d_get (i := i) (by omega)
  rw [hJ] at e1
  cases e1
  obtain ⟨C', g1, g2, a', b', c', d', q'⟩ := h.s_get (i := i + 1) (by rw [h.len]; omega)
  rw [hC] at g1
  cases g1
  have hk : jv ss (i + 1) = (C.1 : Rat) / (C.2 : Rat) := by
    unfold jv
    rw [g2]
    rfl
  have n1 := ratInt_ne (a := J.2) (by have := a.1; omega)
  have n3 := ratInt_ne (a := C.2) (by have := a'.1; omega)
  have hS : 0 < S * (J.2 * C.2) := Int.mul_pos st.tu.pos (Int.mul_pos a.1 a'.1)
  have shp := en_shape (J := jv ds) (K := jv ss) i (fun j hj => h.jpos (by omega)) (fun j p q => h.kpos p (by omega)) (h.knn (by rw [h.len]; omega)) (h.knn (by rw [h.len]; omega))
  have l1 : (comb (J.2 * C.1) turn C.2 to').length = i + 2 := by
    rw [comb_len, st.tl, hl]
    omega
  have r1 : Rel (S * (J.2 * C.2)) (comb (J.2 * C.1) turn C.2 to') (en (jv ds) (jv ss) i) := by
    refine ⟨hS, fun k => ?_⟩
    unfold en
    rw [comb_get, Rat.intCast_add, Rat.intCast_mul, Rat.intCast_mul, Rat.intCast_mul, Rat.intCast_mul, Rat.intCast_mul, st.tu.at_ k, hr.at_ k, hk, Rat.intCast_mul]
    grind
  rw [trim_id (last_ne l1 (r1.ne (ne_of_alt shp.2.1)))]
  have p1 : J.2.natAbs < 2 ^ 64 := by have := a.1; omega
  have p2 : C.1.natAbs < 2 ^ 64 := by omega
  have p3 : C.2.natAbs < 2 ^ 64 := by have := a'.1; omega
  refine ⟨r1, l1, ?_⟩
  rw [show 64 + 130 * (i + 1) = 64 + 130 * i + 129 + 1 by omega]
  exact comb_bd (natAbs_mul_lt p1 p2) p3 st.bt hb (by omega) (by omega)
theorem sta0 {ds ss : List Fr} (h : LN ds ss) {C : Fr} (hC : ss[0]? = some C) : Sta ds ss 0 C.2 [C.2] (if C.1 = 0 then [] else [C.1]) := by
  obtain ⟨C', g1, g2, a, b, c, d, q⟩ := h.s_get (i := 0) (by rw [h.len]; omega)
  rw [hC] at g1
  cases g1
  have hk : jv ss 0 = (C.1 : Rat) / (C.2 : Rat) := by
    unfold jv
    rw [g2]
    rfl
  have n := ratInt_ne (a := C.2) (by have := a.1; omega)
  have z0 : ((0 : Int) : Rat) = 0 := rfl
  have p2 : C.1.natAbs < 2 ^ 64 := by omega
  have p3 : C.2.natAbs < 2 ^ 64 := by have := a.1; omega
  refine ⟨⟨a.1, fun k => ?_⟩, ⟨a.1, fun k => ?_⟩, rfl, by split <;> simp, p3, ?_, ?_⟩
  · cases k with
    | zero =>
      show ((C.2 : Int) : Rat) = C.2 * 1
      grind
    | succ k =>
      show ((0 : Int) : Rat) = C.2 * 0
      grind
  · cases k with
    | zero =>
      show (((if C.1 = 0 then [] else [C.1]).getD 0 0 : Int) : Rat) = C.2 * jv ss 0
      rw [hk]
      by_cases z : C.1 = 0
      · rw [if_pos z, z]
        show ((0 : Int) : Rat) = C.2 * (((0 : Int) : Rat) / C.2)
        grind
      · rw [if_neg z]
        show ((C.1 : Int) : Rat) = C.2 * ((C.1 : Rat) / C.2)
        grind
    | succ k =>
      show (((if C.1 = 0 then [] else [C.1]).getD (k + 1) 0 : Int) : Rat) = C.2 * 0
      by_cases z : C.1 = 0
      · rw [if_pos z]
        show ((0 : Int) : Rat) = _
        grind
      · rw [if_neg z]
        show ((0 : Int) : Rat) = _
        grind
  · intro x hx
    rw [List.mem_singleton.mp hx]
    exact p3
  · intro x hx
    by_cases z : C.1 = 0
    · rw [if_pos z] at hx
      simp at hx
    · rw [if_neg z] at hx
      rw [List.mem_singleton.mp hx]
      exact p2
end Mx
namespace Mx
open PySem DL L2
section
variable {K : PySem.W.Frag} {B : Bs} {G : List Hp} {L : List Addr} {Γ : List Sl} {k : PyData → Prop}
theorem ixf0 {x : Fr} (hk : k (.int x.1)) : ROk K B G L Γ (rIx K) (frD x) (.int 0) k := rok_ixsT (d := .int x.1) rfl hk
theorem ixf1 {x : Fr} (hk : k (.int x.2)) : ROk K B G L Γ (rIx K) (frD x) (.int 1) k := rok_ixsT (d := .int x.2) rfl hk
end

section
variable {K : PySem.W.Frag} {B : Bs} {G : List Hp} {L : List Addr} {Γ : List Sl} {ta tb : TE}
theorem en_lcR {j : Nat} {vs : List Nat} {tr : TA} {tt : TT} {te : TE} {kl : List PyData → Prop} (hw : ∀ (σ : L2.St) x, L2.wipe ((L2.wipe σ vs).set j (some x)) vs = L2.wipe σ vs)
    (h : EvA K B G L Γ tr fun es => ∃ n : Int, es = [.int n] ∧ -100000 ≤ n ∧ n ≤ 100000 ∧ ∃ J, CompOk K B G L Γ j tt te vs n.toNat (fun i d' => d' = .int (i : Int)) J ∧ ∀ acc, J n.toNat acc → kl acc) :
    EvN K B G L Γ (tLc (iRng1 tr) (gName j) tt te vs) kl := fun σ H Q E q =>
  h σ H _ E fun v es H1 g1 dn ⟨n, e, h0, h1, J, C, hk⟩ => by
    subst e
    cases dn with
    | cons d1 d2 =>
      cases d2
      cases d1
      refine ⟨n, rfl, by omega, by omega, fun D hD => lc_range (lo := 0) (n := n.toNat) (fun i H' => Sofar K B L H1 H' D i J)
        ⟨fun a o w e => same_upd hD a o e, fun w hw => ?_, [], [], C.1, Nat.le_refl _, upd_same, .nil⟩ (fun i H' hi S => ?_) (fun H' S => ?_)⟩
      · obtain ⟨m, b, c, e, q⟩ := g1.env.ws w hw
        exact ⟨m, b, c, same_upd hD _ _ e, q⟩
      · have e0 : (0 : Int) + (i : Int) = (i : Int) := Int.zero_add _
        rw [e0]
        exact ⟨hw σ _, comp_turn g1.env hD C (by omega) S rfl hi (.int _)⟩
      · have g0 : Go K B G L Γ H1 H' σ := Go.of_rel g1.env S.rl S.ws
        obtain ⟨accV, acc, hJ, _, e, dA⟩ := S.it
        exact q D accV acc H' (g1.trans g0) (Go.fresh E g1 hD) e dA (hk acc hJ)
end
end Mx
/-! How many swings are slower than a pace: the changes of sign in the run at it. -/
namespace Mx
open PySem

/-! ### the row at a pace -/
/-- the angle of disc i and the torque ahead of it, at the pace p -/
noncomputable def rowAt (J K : Nat → Rat) (p : Rat) : Nat → Rat × Rat
  | 0 => (1, K 0)
  | i + 1 => ((rowAt J K p i).1 + ((rowAt J K p i).2 - p * J i * (rowAt J K p i).1) / K (i + 1), (rowAt J K p i).2 - p * J i * (rowAt J K p i).1)
noncomputable def xa (J K : Nat → Rat) (p : Rat) (i : Nat) : Rat := (rowAt J K p i).1
noncomputable def ya (J K : Nat → Rat) (p : Rat) (i : Nat) : Rat := (rowAt J K p i).2
theorem ya_succ (J K : Nat → Rat) (p : Rat) (i : Nat) : ya J K p (i + 1) = ya J K p i - p * J i * xa J K p i := rfl
theorem xa_succ (J K : Nat → Rat) (p : Rat) (i : Nat) : xa J K p (i + 1) = xa J K p i + ya J K p (i + 1) / K (i + 1) := rfl
/-- the end of n + 1 discs -/
noncomputable def ea (J K : Nat → Rat) (p : Rat) (n : Nat) : Rat := ya J K p (n + 1) + K (n + 1) * xa J K p n

/-- a polynomial's first n powers at p -/
noncomputable def fev (f : Nat → Rat) (p : Rat) : Nat → Rat
  | 0 => 0
  | n + 1 => fev f p n + f n * p ^ n
theorem fev_congr {f g : Nat → Rat} {p : Rat} (h : ∀ k, f k = g k) : ∀ n, fev f p n = fev g p n
  | 0 => rfl
  | n + 1 => by
    unfold fev
    rw [fev_congr h n, h n]
theorem fev_lin {f g : Nat → Rat} {p a b : Rat} : ∀ n, fev (fun k => a * f k + b * g k) p n = a * fev f p n + b * fev g p n
  | 0 => by
    unfold fev
    grind
  | n + 1 => by
    unfold fev
    rw [fev_lin n]
    grind
theorem fev_sh {g : Nat → Rat} {p : Rat} : ∀ n, fev (sh g) p (n + 1) = p * fev g p n
  | 0 => by
    show fev (sh g) p 0 + sh g 0 * p ^ 0 = p * fev g p 0
    show 0 + 0 * p ^ 0 = p * 0
    grind
  | n + 1 => by
    show fev (sh g) p (n + 1) + sh g (n + 1) * p ^ (n + 1) = p * (fev g p n + g n * p ^ n)
    rw [fev_sh n]
    show p * fev g p n + g n * p ^ (n + 1) = _
    rw [Rat.pow_succ]
    grind
theorem fev_more {f : Nat → Rat} {p : Rat} {n : Nat} (h : ∀ k, n ≤ k → f k = 0) : ∀ m, fev f p (n + m) = fev f p n
  | 0 => rfl
  | m + 1 => by
    show fev f p (n + m) + f (n + m) * p ^ (n + m) = _
    rw [fev_more h m, h (n + m) (by omega)]
    grind
theorem fev_head {f : Nat → Rat} {p : Rat} : ∀ n, fev f p (n + 1) = f 0 + p * fev (fun k => f (k + 1)) p n
  | 0 => by
    show fev f p 0 + f 0 * p ^ 0 = f 0 + p * 0
    show 0 + f 0 * p ^ 0 = f 0 + p * 0
    rw [Rat.pow_zero]
    grind
  | n + 1 => by
    show fev f p (n + 1) + f (n + 1) * p ^ (n + 1) = f 0 + p * (fev (fun k => f (k + 1)) p n + f (n + 1) * p ^ n)
    rw [fev_head n, Rat.pow_succ]
    grind
/-- the run's polynomials at p are the row at p -/
theorem fev_run {J K : Nat → Rat} {p : Rat} : ∀ i : Nat, (∀ j, j < i → 0 < J j) → (∀ j, 0 < j → j ≤ i → 0 < K j) → fev (tn J K i) p (i + 1) = xa J K p i ∧ fev (tq J K i) p (i + 1) = ya J K p i
  | 0, _, _ => by
    constructor
    · show 0 + tn J K 0 0 * p ^ 0 = 1
      rw [Rat.pow_zero]
      show 0 + 1 * 1 = (1 : Rat)
      grind
    · show 0 + tq J K 0 0 * p ^ 0 = K 0
      rw [Rat.pow_zero]
      show 0 + K 0 * 1 = K 0
      grind
  | i + 1, hJ, hK => by
    obtain ⟨h1, h2⟩ := fev_run (p := p) i (fun j h => hJ j (by omega)) (fun j a b => hK j a (by omega))
    have sh0 := run_shape (J := J) (K := K) i (fun j h => hJ j (by omega)) (fun j a b => hK j a (by omega))
    have hk := hK (i + 1) (by omega) (by omega)
    have e1 : fev (tq J K (i + 1)) p (i + 1 + 1) = ya J K p (i + 1) := by
      have a : ∀ k, tq J K (i + 1) k = 1 * tq J K i k + (- J i) * sh (tn J K i) k := fun k => by
        rw [tq_succ]
        grind
      rw [fev_congr a, fev_lin, fev_sh, h1, fev_more (n := i + 1) (fun k hk => (sh0.1 k (by omega)).1) 1, h2, ya_succ]
      grind
    refine ⟨?_, e1⟩
    have a : ∀ k, tn J K (i + 1) k = 1 * tn J K i k + (1 / K (i + 1)) * tq J K (i + 1) k := fun k => by
      rw [tn_succ]
      grind
    rw [fev_congr a, fev_lin, e1, fev_more (n := i + 1) (fun k hk => (sh0.1 k (by omega)).2) 1, h1, xa_succ]
    grind
theorem fev_en {J K : Nat → Rat} {p : Rat} (n : Nat) (hJ : ∀ j, j < n + 1 → 0 < J j) (hK : ∀ j, 0 < j → j ≤ n → 0 < K j) : fev (en J K n) p (n + 2) = ea J K p n := by
  obtain ⟨h1, h2⟩ := fev_run (p := p) n (fun j h => hJ j (by omega)) hK
  have sh0 := run_shape (J := J) (K := K) n (fun j h => hJ j (by omega)) hK
  have e1 : fev (tq J K (n + 1)) p (n + 1 + 1) = ya J K p (n + 1) := by
    have a : ∀ k, tq J K (n + 1) k = 1 * tq J K n k + (- J n) * sh (tn J K n) k := fun k => by
      rw [tq_succ]
      grind
    rw [fev_congr a, fev_lin, fev_sh, h1, fev_more (n := n + 1) (fun k hk => (sh0.1 k (by omega)).1) 1, h2, ya_succ]
    grind
  have a : ∀ k, en J K n k = 1 * tq J K (n + 1) k + K (n + 1) * tn J K n k := fun k => by
    unfold en
    grind
  rw [fev_congr a, fev_lin, e1, fev_more (n := n + 1) (fun k hk => (sh0.1 k (by omega)).2) 1, h1]
  unfold ea
  grind

/-! ### a row of whole numbers at a fraction, scaled -/
noncomputable def hor (t b : Int) : List Int → Int
  | [] => 0
  | x :: xs => hor t b xs * t + x * b ^ xs.length
theorem hor_eq {t b : Int} (hb : b ≠ 0) : ∀ (u : List Int), (b : Rat) * (hor t b u : Int) = (b : Rat) ^ u.length * fev (fun k => ((u.getD k 0 : Int) : Rat)) ((t : Rat) / (b : Rat)) u.length
  | [] => by
    show (b : Rat) * ((0 : Int) : Rat) = _ * 0
    have : ((0 : Int) : Rat) = 0 := rfl
    grind
  | x :: xs => by
    have ih := hor_eq (t := t) hb xs
    have nb := ratInt_ne hb
    rw [List.length_cons, fev_head]
    show (b : Rat) * ((hor t b xs * t + x * b ^ xs.length : Int) : Rat) = _
    rw [Rat.intCast_add, Rat.intCast_mul, Rat.intCast_mul, Rat.intCast_pow, Rat.pow_succ]
    have e : fev (fun k => (((x :: xs).getD (k + 1) 0 : Int) : Rat)) ((t : Rat) / (b : Rat)) xs.length = fev (fun k => ((xs.getD k 0 : Int) : Rat)) ((t : Rat) / (b : Rat)) xs.length := fev_congr (fun k => by rw [List.getD_cons_succ]) _
    rw [e]
    show (b : Rat) * ((hor t b xs : Int) * (t : Rat) + x * (b : Rat) ^ xs.length) = (b : Rat) ^ xs.length * b * ((x : Rat) + _)
    grind
noncomputable def sgn (n : Int) : Int := if 0 < n then 1 else if n < 0 then -1 else 0
noncomputable def rsgn (x : Rat) : Int := if 0 < x then 1 else if x < 0 then -1 else 0
theorem rsgn_int (n : Int) : rsgn (n : Rat) = sgn n := by
  have z0 : ((0 : Int) : Rat) = 0 := rfl
  unfold rsgn sgn
  by_cases h : 0 < n
  · rw [if_pos h, if_pos (ratInt_pos h)]
  · rw [if_neg h, if_neg (fun q => h (Rat.intCast_lt_intCast.mp (by rw [z0]; exact q)))]
    by_cases h2 : n < 0
    · rw [if_pos h2, if_pos (by have := Rat.intCast_lt_intCast.mpr h2; rw [z0] at this; exact this)]
    · rw [if_neg h2, if_neg (fun q => h2 (Rat.intCast_lt_intCast.mp (by rw [z0]; exact q)))]
theorem rsgn_mul {a x : Rat} (h : 0 < a) : rsgn (a * x) = rsgn x := by
  unfold rsgn
  have ai := Rat.inv_pos.mpr h
  have e : a⁻¹ * (a * x) = x := by grind
  by_cases h1 : 0 < x
  · rw [if_pos h1, if_pos (Rat.mul_pos h h1)]
  · rw [if_neg h1, if_neg (fun q => h1 (by rw [← e]; exact Rat.mul_pos ai q))]
    by_cases h2 : x < 0
    · have : a * x < 0 := by
        have := Rat.mul_pos h (show 0 < -x by grind)
        grind
      rw [if_pos h2, if_pos this]
    · rw [if_neg h2, if_neg]
      intro q
      have := Rat.mul_pos ai (show 0 < -(a * x) by grind)
      grind
theorem pow_posQ {a : Rat} (h : 0 < a) : ∀ n : Nat, 0 < a ^ n
  | 0 => by
    rw [Rat.pow_zero]
    decide +kernel
  | n + 1 => by
    rw [Rat.pow_succ]
    exact Rat.mul_pos (pow_posQ h n) h
end Mx
namespace Mx
open PySem

/-! ### counting changes of sign -/
noncomputable def stp (s : Nat × Int) (x : Int) : Nat × Int := if x = 0 then s else (if x = -s.2 then s.1 + 1 else s.1, x)
noncomputable def chs (l : List Int) : Nat × Int := l.foldl stp (0, 0)
theorem chs_snoc (l : List Int) (x : Int) : chs (l ++ [x]) = stp (chs l) x := by
  unfold chs
  rw [List.foldl_append]
  rfl
/-! ### the phase: how often the sign has changed, and where the row stands since -/
noncomputable def ph (J K : Nat → Rat) (p : Rat) : Nat → Nat × Rat × Rat
  | 0 => (0, 1, K 0)
  | i + 1 =>
    let s := ph J K p i
    let y := s.2.2 - p * J i * s.2.1
    let x := s.2.1 + y / K (i + 1)
    if x < 0 then (s.1 + 1, -x, -y) else (s.1, x, y)
/-- how many swings of a line of n + 1 discs are slower than p -/
noncomputable def cnt (J K : Nat → Rat) (p : Rat) (n : Nat) : Nat :=
  let s := ph J K p n
  s.1 + if K (n + 1) * s.2.1 + (s.2.2 - p * J n * s.2.1) < 0 then 1 else 0
noncomputable def altI (N : Nat) : Int := if N % 2 = 0 then 1 else -1
theorem altI_succ (N : Nat) : altI (N + 1) = - altI N := by
  unfold altI
  rcases Nat.mod_two_eq_zero_or_one N with h | h
  · rw [if_neg (by omega), if_pos h]
  · rw [if_pos (by omega), if_neg (by omega)]
    rfl
theorem altI_pm (N : Nat) : altI N = 1 ∨ altI N = -1 := by
  unfold altI
  split
  · exact .inl rfl
  · exact .inr rfl
theorem ph_row (J K : Nat → Rat) (p : Rat) : ∀ i, xa J K p i = alt (ph J K p i).1 * (ph J K p i).2.1 ∧ ya J K p i = alt (ph J K p i).1 * (ph J K p i).2.2
  | 0 => by
    constructor
    · show (1 : Rat) = 1 * 1
      grind
    · show K 0 = 1 * K 0
      grind
  | i + 1 => by
    obtain ⟨h1, h2⟩ := ph_row J K p i
    have e1 : ya J K p (i + 1) = alt (ph J K p i).1 * ((ph J K p i).2.2 - p * J i * (ph J K p i).2.1) := by
      rw [ya_succ, h1, h2]
      grind
    have e2 : xa J K p (i + 1) = alt (ph J K p i).1 * ((ph J K p i).2.1 + ((ph J K p i).2.2 - p * J i * (ph J K p i).2.1) / K (i + 1)) := by
      rw [xa_succ, e1, h1]
      grind
    rw [e1, e2]
    show _ = alt (if _ then _ else _ : Nat × Rat × Rat).1 * (if _ then _ else _ : Nat × Rat × Rat).2.1 ∧ _ = alt (if _ then _ else _ : Nat × Rat × Rat).1 * (if _ then _ else _ : Nat × Rat × Rat).2.2
    split
    · show _ = alt ((ph J K p i).1 + 1) * -_ ∧ _ = alt ((ph J K p i).1 + 1) * -_
      rw [alt_succ]
      constructor <;> grind
    · exact ⟨rfl, rfl⟩
theorem stp_alt (N : Nat) (x : Rat) : stp (N, altI N) (rsgn (alt N * x)) = if x < 0 then (N + 1, altI (N + 1)) else (N, altI N) := by
  have ha : (alt N = 1 ∧ altI N = 1) ∨ (alt N = -1 ∧ altI N = -1) := by
    unfold alt altI
    split
    · exact .inl ⟨rfl, rfl⟩
    · exact .inr ⟨rfl, rfl⟩
  have hs : rsgn (alt N * x) = if x < 0 then -altI N else if 0 < x then altI N else 0 := by
    unfold rsgn
    rcases ha with ⟨a, b⟩ | ⟨a, b⟩
    · rw [a, b]
      by_cases h : x < 0
      · rw [if_pos h, if_neg (by grind), if_pos (by grind)]
      · rw [if_neg h]
        by_cases h2 : 0 < x
        · rw [if_pos h2, if_pos (by grind)]
        · rw [if_neg h2, if_neg (by grind), if_neg (by grind)]
    · rw [a, b]
      by_cases h : x < 0
      · rw [if_pos h, if_pos (by grind)]
        rfl
      · rw [if_neg h]
        by_cases h2 : 0 < x
        · rw [if_pos h2, if_neg (by grind), if_pos (by grind)]
        · rw [if_neg h2, if_neg (by grind), if_neg (by grind)]
  have hp := altI_pm N
  rw [hs]
  by_cases h : x < 0
  · rw [if_pos h, if_pos h, altI_succ]
    unfold stp
    rw [if_neg (by omega), if_pos rfl]
  · rw [if_neg h, if_neg h]
    by_cases h2 : 0 < x
    · rw [if_pos h2]
      unfold stp
      rw [if_neg (by omega), if_neg (by show ¬ altI N = - altI N; omega)]
    · rw [if_neg h2]
      rfl
theorem chs_row (J K : Nat → Rat) (p : Rat) : ∀ i, chs ((List.range (i + 1)).map fun j => rsgn (xa J K p j)) = ((ph J K p i).1, altI (ph J K p i).1)
  | 0 => by
    show stp (0, 0) (rsgn 1) = (0, 1)
    decide +kernel
  | i + 1 => by
    rw [List.range_succ, List.map_append]
    show chs (_ ++ [rsgn (xa J K p (i + 1))]) = _
    rw [chs_snoc, chs_row J K p i]
    obtain ⟨h1, h2⟩ := ph_row J K p i
    have e2 : xa J K p (i + 1) = alt (ph J K p i).1 * ((ph J K p i).2.1 + ((ph J K p i).2.2 - p * J i * (ph J K p i).2.1) / K (i + 1)) := by
      rw [xa_succ, ya_succ, h1, h2]
      grind
    rw [e2, stp_alt]
    show _ = ((if _ then _ else _ : Nat × Rat × Rat).1, altI (if _ then _ else _ : Nat × Rat × Rat).1)
    split <;> rfl
/-- the count is that of the changes of sign in the row -/
theorem chs_cnt (J K : Nat → Rat) (p : Rat) (n : Nat) : (chs (((List.range (n + 1)).map fun j => rsgn (xa J K p j)) ++ [rsgn (ea J K p n)])).1 = cnt J K p n := by
  rw [chs_snoc, chs_row]
  obtain ⟨h1, h2⟩ := ph_row J K p n
  have e : ea J K p n = alt (ph J K p n).1 * (K (n + 1) * (ph J K p n).2.1 + ((ph J K p n).2.2 - p * J n * (ph J K p n).2.1)) := by
    unfold ea
    rw [ya_succ, h1, h2]
    grind
  rw [e, stp_alt]
  unfold cnt
  show (if _ then _ else _ : Nat × Int).1 = (ph J K p n).1 + if _ then 1 else 0
  split <;> rfl

/-! ### the count never falls as the pace rises -/
noncomputable def hp (x y : Rat) : Prop := 0 < x ∨ (x = 0 ∧ y < 0)
theorem hp_nn {x y : Rat} (h : hp x y) : 0 ≤ x := by
  rcases h with h | ⟨h, _⟩ <;> grind
theorem hp_shear {x y c : Rat} (h : hp x y) : hp x (y - c * x) := by
  rcases h with h | ⟨h, h2⟩
  · exact .inl h
  · refine .inr ⟨h, ?_⟩
    rw [h]
    grind
theorem hp_turn {x y k : Rat} (h : hp x y) (hk : 0 < k) : (x + y * k < 0 → hp (-(x + y * k)) (-y)) ∧ (¬ x + y * k < 0 → hp (x + y * k) y) := by
  have hx := hp_nn h
  refine ⟨fun q => .inl (by grind), fun q => ?_⟩
  by_cases z : 0 < x + y * k
  · exact .inl z
  · have e : x + y * k = 0 := by grind
    refine .inr ⟨e, ?_⟩
    rcases h with h | ⟨h, h2⟩
    · by_cases hy : y < 0
      · exact hy
      · have := Rat.mul_nonneg (show 0 ≤ y by grind) (Rat.le_of_lt hk)
        grind
    · exact h2
theorem ph_hp {J K : Nat → Rat} {p : Rat} : ∀ i, (∀ j, 0 < j → j ≤ i → 0 < K j) → hp (ph J K p i).2.1 (ph J K p i).2.2
  | 0, _ => .inl (by show (0 : Rat) < 1; decide +kernel)
  | i + 1, hK => by
    have ih := ph_hp (J := J) (p := p) i fun j a b => hK j a (by omega)
    have hk := Rat.inv_pos.mpr (hK (i + 1) (by omega) (by omega))
    have t := hp_turn (hp_shear (c := p * J i) ih) hk
    show hp (if _ then _ else _ : Nat × Rat × Rat).2.1 (if _ then _ else _ : Nat × Rat × Rat).2.2
    rw [Rat.div_def]
    split
    · exact t.1 (by assumption)
    · exact t.2 (by assumption)
noncomputable def le (s t : Nat × Rat × Rat) : Prop := s.1 < t.1 ∨ (s.1 = t.1 ∧ s.2.1 * t.2.2 - s.2.2 * t.2.1 ≤ 0)
/-! ### none at 0, all beyond a bound -/
theorem mul_div' {Y k : Rat} (hk : 0 < k) : k * (Y / k) = Y := by grind
end Mx
/-! An object that stands for a fraction: made once, read only. -/
namespace DL
open PySem PySem.Spec PyProof.Rows L2
/-- o.f = .. as one of several targets -/
noncomputable def gFld (K : PySem.W.Frag) (to : TE) (f : Str) : TG := fun v σ H Q => to σ H fun x H1 => ∃ (a C dx : Addr) (fs : List (Str × V)), x = .ref a ∧ H1 a = some (.ins C dx fs) ∧ Cls K C ∧ NoAttr K C f ∧ fs.length < 1000 ∧ Q σ (upd H1 a (.ins C dx (putF f v fs)))
theorem pg_fld {X : Cx} {o : Expr} {f : Str} {pos : Pos} {to : TE} (eo : PE X o to) : PG X (.Attribute o f pos) (gFld X.K to f) := by
  constructor
  intro pins s σ H v u Q I rv tq
  rw [assign_Attribute]
  refine wpAny_bind (wpAny_holding (thn (eo.run pins s σ H _ I tq) ?_))
  rintro ov s1 ⟨x, H1, I1, rx, a, C, dx, fs, rfl, e, c, n, l, q⟩
  obtain rfl : ov = Value.ref a := rx
  refine wpAny_bind (wpAny_standAt (wpAny_bind (wpAny_holding (setattr_ok I1 e c n l rv fun s2 I2 => ?_))))
  exact wpAny_release ⟨σ, _, I2, q⟩
end DL
namespace Mx
open PySem PySem.Spec PyProof.Rows L2 DL
structure PlaceAt (K : PySem.W.Frag) (H : Hp) (a : Addr) (p : Fr) : Prop where
  ex : ∃ (C dx : Addr) (fs : List (Str × V)) (vt vp : V), H a = some (.ins C dx fs) ∧ fs.lookup ("told" : Str) = some vt ∧ fs.lookup ("polynomial" : Str) = some vp ∧ Dn K H vt (frD p) ∧ Dn K H vp (.tuple []) ∧ Cls K C ∧ NoAttr K C "told" ∧ NoAttr K C "polynomial"
theorem PlaceAt.mono {K : PySem.W.Frag} {H H' : Hp} {a : Addr} {p : Fr} (h : PlaceAt K H a p) (s : Same H H') : PlaceAt K H' a p := by
  obtain ⟨C, dx, fs, vt, vp, e, l1, l2, d1, d2, r⟩ := h.ex
  exact ⟨C, dx, fs, vt, vp, s _ _ e, l1, l2, d1.mono s, d2.mono s, r⟩
noncomputable def SpO (K : PySem.W.Frag) (pre : PyData → Fr → Prop) (post : PyData → Fr → PyData → Prop) : Sp := fun vs H Q _ => ∃ (M : List Addr) (v : V) (a : Addr) (d : PyData) (p : Fr), vs = [v, .ref a] ∧ (∀ m ∈ M, ∃ o, H m = some o) ∧ PlaceAt K (hid M H) a p ∧ Dn K (hid M H) v d ∧ pre d p ∧
  ∀ u e H', Same H H' → Dn K (hid M H') u e → post d p e → Q u H'
noncomputable def SpMk (K : PySem.W.Frag) : Sp := fun vs H Q _ => ∃ (M : List Addr) (v : V) (p : Fr), vs = [v] ∧ (∀ m ∈ M, ∃ o, H m = some o) ∧ Dn K (hid M H) v (frD p) ∧ ∀ a H', Same H H' → PlaceAt K (hid M H') a p → Q (.ref a) H'
section
variable {K : PySem.W.Frag} {B : Bs} {G : List Hp} {L : List Addr} {Γ : List Sl} {H H' H2 : Hp} {σ : L2.St} {te tp : TE} {k : PyData → Prop} {pre : PyData → Fr → Prop} {post : PyData → Fr → PyData → Prop} {t : TS}
theorem Go.ext (E : DL.Env K B G L H σ Γ) (s : Same H H') : Go K B G L Γ H H' σ := Go.step E (fun a o _ e => s a o e) fun w hw => by
  obtain ⟨n, b, c, e, q⟩ := E.ws w hw
  exact ⟨n, b, c, s _ _ e, q⟩
theorem Env.raw {i : Nat} {v : V} (E : DL.Env K B G L H σ Γ) (hi : Γ[i]? = some (.raw v)) : σ[i]? = some (some v) := by
  have q := E.sl i _ hi
  have q2 : σ[i]?.join = some v := q
  cases e : σ[i]? with
  | none => rw [e] at q2; cases q2
  | some x =>
    rw [e] at q2
    rw [show x = some v from q2]
theorem ev_fldT {i : Nat} {a : Addr} {p : Fr} {g : Hp} (hi : Γ[i]? = some (.raw (.ref a))) (hg : g ∈ G) (hp : PlaceAt K g a p) (hk : k (frD p)) : EvP K B G L Γ (tFld K (tVar i) "told") k := fun σ H Q E q => by
  obtain ⟨C, dx, fs, vt, vp, e, l1, l2, d1, d2, c, n1, n2⟩ := (hp.mono (E.gh g hg)).ex
  exact ⟨_, Env.raw E hi, a, C, dx, fs, vt, rfl, hid_sub _ _ _ _ e, c, n1, l1, q _ _ H (Go.refl E) d1 hk⟩
theorem ev_fldP {i : Nat} {a : Addr} {p : Fr} {g : Hp} (hi : Γ[i]? = some (.raw (.ref a))) (hg : g ∈ G) (hp : PlaceAt K g a p) (hk : k (.tuple [])) : EvP K B G L Γ (tFld K (tVar i) "polynomial") k := fun σ H Q E q => by
  obtain ⟨C, dx, fs, vt, vp, e, l1, l2, d1, d2, c, n1, n2⟩ := (hp.mono (E.gh g hg)).ex
  exact ⟨_, Env.raw E hi, a, C, dx, fs, vp, rfl, hid_sub _ _ _ _ e, c, n2, l2, q _ _ H (Go.refl E) d2 hk⟩
theorem ev_callO {i : Nat} {a : Addr} {p : Fr} {g : Hp} {E0 : XK} (hi : Γ[i]? = some (.raw (.ref a))) (hg : g ∈ G) (hp : PlaceAt K g a p) (h : EvP K B G L Γ te fun d => pre d p ∧ ∀ e, post d p e → k e) : EvP K B G L Γ (tCall (SpO K pre post) [] E0 (tCons te (tCons (tVar i) tNil))) k := fun σ H Q E q =>
  h σ H _ E fun v d H1 g1 dn ⟨hq, hk⟩ => by
    refine ⟨_, Env.raw g1.env hi, L ++ B.M, v, a, d, p, rfl, g1.env.alive, hp.mono (g1.env.gh g hg), dn, hq, fun u e H' s de po => ?_⟩
    exact q u e H' (g1.trans (Go.ext g1.env s)) de (hk e po)
theorem body_O {N : List Str} {vs : List V} {Q : VK} {E : XK} (hN : 2 ≤ N.length) (h : SpO K pre post vs H Q E)
    (hb : ∀ (B : Bs) (a : Addr) (d : PyData) (p : Fr), B.Ws = [] → PlaceAt K (hid B.M B.H) a p → pre d p →
      StP K B [hid B.M B.H] [] (.d d :: .raw (.ref a) :: List.replicate (N.length - 2) .un) t { nx := fun _ _ => post d p .none, rt := post d p }) : t { nx := fun _ H' => Q .non H', rt := Q } (L2.start N vs) H := by
  obtain ⟨M, v, a, d, p, rfl, lm, pl, dn, hp, q⟩ := h
  have e0 : L2.start N [v, .ref a] = some v :: some (.ref a) :: List.replicate (N.length - 2) none := by
    unfold L2.start
    simp
  have noO : ∀ (i : Nat) (s : Sl), (.d d :: .raw (.ref a) :: List.replicate (N.length - 2) Sl.un)[i]? = some s → s = .d d ∨ s = .raw (.ref a) ∨ s = .un := fun i s hi => by
    match i, hi with
    | 0, hi => exact .inl (Option.some.inj hi).symm
    | 1, hi => exact .inr (.inl (Option.some.inj hi).symm)
    | i + 2, hi => exact .inr (.inr (List.eq_of_mem_replicate (List.mem_of_getElem? (show (List.replicate (N.length - 2) Sl.un)[i]? = some s from hi))))
  have E0 : DL.Env K ⟨M, [], H⟩ [hid M H] [] H (L2.start N [v, .ref a]) (.d d :: .raw (.ref a) :: List.replicate (N.length - 2) .un) := by
    rw [e0]
    refine ⟨fun _ _ _ e => e, fun w hw => (by cases hw), fun w hw => (by cases hw), lm, fun l hl => (by cases hl), by simp, fun i s hi => ?_, fun g hg => ?_, fun i l xs hi => ?_, fun i j l xs ys hi hj => ?_, fun i w hi => ?_⟩
    · match i, hi with
      | 0, hi =>
        cases hi
        exact ⟨v, rfl, dn⟩
      | 1, hi =>
        cases hi
        rfl
      | i + 2, hi =>
        have := List.eq_of_mem_replicate (List.mem_of_getElem? (show (List.replicate (N.length - 2) Sl.un)[i]? = some s from hi))
        subst this
        trivial
    · rw [List.mem_singleton.mp hg]
      exact Same.refl _
    · rcases noO _ _ hi with e | e | e <;> cases e
    · rcases noO _ _ hi with e | e | e <;> cases e
    · rcases noO _ _ hi with e | e | e <;> cases e
  exact hb ⟨M, [], H⟩ a d p rfl pl hp _ _ _ E0 ⟨fun L Γ σ H' hq E' => q _ _ H' (fun a o e => E'.fr a o (by simp) e) .non hq, fun v d H' hq o dn => q v d H' (fun a o' e => o.fr a o' (by simp) e) dn hq, fun _ _ _ _ z => z.elim, fun _ _ _ _ z => z.elim⟩
theorem st_forRevT {j : Nat} {P : PD} (h : EvP K B G L Γ te fun d => ∃ ds, d = .tuple ds ∧ ∃ I : Nat → List Addr → List Sl → Prop, I 0 L Γ ∧
    (∀ i d' L' Γ' g, i < ds.length → ds[ds.length - 1 - i]? = some d' → I i L' Γ' → StP K B (g :: G) L' (Γ'.set j (.d d')) t (P.inLoop (I (i + 1)))) ∧ ∀ L' Γ', I ds.length L' Γ' → P.nx L' Γ') :
    StP K B G L Γ (tFor (RT.iRevA K te) (gName j) t) P := fun σ H D E M =>
  h σ H _ E fun v d H1 g1 dn ⟨ds, e, I, h0, hs, hd⟩ => by
    subst e
    cases dn with
    | @tup a xs _ e1 h2 =>
      have E1 := g1.env.gpush
      have hl := h2.length
      have sq : ∀ {L' : List Addr} {Γ' : List Sl} {σ' : L2.St} {H' : Hp}, DL.Env K B (hid (L ++ B.M) H1 :: G) L' H' σ' Γ' → SqT K H' a xs := fun E' => Same.sqt (hid_sub _ _) (Same.sqt (E'.gh _ (List.mem_cons_self ..)) e1)
      refine ⟨a, xs, rfl, .inr ⟨Same.sqt (hid_sub _ _) e1, RT.for_ItvT (xs := xs) (fun i σ' H' => ∃ L' Γ', I i L' Γ' ∧ DL.Env K B (hid (L ++ B.M) H1 :: G) L' H' σ' Γ') ⟨L, Γ, h0, E1⟩ ?_ ?_ ?_⟩⟩
      · rintro i σ' H' ⟨L', Γ', _, E'⟩
        exact sq E'
      · rintro i x σ' H' hin hi ⟨L', Γ', hI, E'⟩
        obtain ⟨d', e', dn'⟩ := h2.getV hi
        rw [hl] at e'
        exact hs i d' L' Γ' _ (by omega) e' hI _ H' _ (E'.put j (dn'.mono (E'.gh _ (List.mem_cons_self ..)))) ⟨fun L2 Γ2 σ2 H2 q E2 => ⟨L2, Γ2, q, E2⟩, M.rt, fun L2 Γ2 σ2 H2 q E2 => M.nx _ _ _ _ q E2.gpop, fun L2 Γ2 σ2 H2 q E2 => ⟨L2, Γ2, q, E2⟩⟩
      · rintro σ' H' ⟨L', Γ', hI, E'⟩
        rw [hl] at hI
        exact M.nx _ _ _ _ (hd L' Γ' hI) E'.gpop
end
end Mx
namespace Mx
open PySem
theorem hor_sgn {S : Rat} {u : List Int} {f : Nat → Rat} (pS : 0 < S) (r : ∀ k, ((u.getD k 0 : Int) : Rat) = S * f k) {t b : Int} (hb : 0 < b) : sgn (hor t b u) = rsgn (fev f ((t : Rat) / (b : Rat)) u.length) := by
  have e := hor_eq (t := t) (show b ≠ 0 by omega) u
  have e2 : fev (fun k => ((u.getD k 0 : Int) : Rat)) ((t : Rat) / (b : Rat)) u.length = S * fev f ((t : Rat) / (b : Rat)) u.length := by
    rw [fev_congr (g := fun k => S * f k + 0 * f k) (fun k => by rw [r k]; grind), fev_lin]
    grind
  rw [e2] at e
  have pb := ratInt_pos hb
  rw [← rsgn_int, ← rsgn_mul pb, e, rsgn_mul (pow_posQ pb _), rsgn_mul pS]
theorem prim_sgn {S : Int} {u : List Int} {f : Nat → Rat} (r : Rel S u f) {k : Nat} (ne : f k ≠ 0) {t b : Int} (hb : 0 < b) : sgn (hor t b (prim u)) = rsgn (fev f ((t : Rat) / (b : Rat)) u.length) := by
  have un := r.ne ne
  have g := gcdL_pos ⟨_, mem_getD un, un⟩
  have gq := ratInt_pos (a := ((gcdL u : Nat) : Int)) (by omega)
  have gi := Rat.inv_pos.mpr gq
  have := hor_sgn (S := (S : Rat) * (((gcdL u : Nat) : Int) : Rat)⁻¹) (u := prim u) (f := f) (t := t) (b := b) (Rat.mul_pos (ratInt_pos r.pos) gi) (fun k => by
    have h1 := r.at_ k
    rw [prim_get]
    have h2 : u.getD k 0 = u.getD k 0 / ((gcdL u : Nat) : Int) * ((gcdL u : Nat) : Int) := by
      by_cases z : u.getD k 0 = 0
      · rw [z]
        simp
      · exact (Int.ediv_mul_cancel (gcdL_dvd (mem_getD z))).symm
    rw [h2, Rat.intCast_mul] at h1
    generalize u.getD k 0 / ((gcdL u : Nat) : Int) = z at *
    grind) hb
  rw [prim_len] at this
  exact this
theorem natAbs_pow_lt {b : Int} {m : Nat} (hb : b.natAbs < 2 ^ m) : ∀ n : Nat, (b ^ n).natAbs < 2 ^ (m * n + 1)
  | 0 => by
    rw [Int.pow_zero, Nat.mul_zero]
    decide
  | n + 1 => by
    rw [Int.pow_succ]
    exact pow_up (natAbs_mul_lt (natAbs_pow_lt hb n) hb) (by rw [Nat.mul_succ]; omega)
theorem hor_bd {t b : Int} {m : Nat} (ht : t.natAbs < 2 ^ m) (hb : b.natAbs < 2 ^ m) : ∀ u : List Int, bd u m → (hor t b u).natAbs < 2 ^ ((2 * m + 2) * u.length + 1)
  | [], _ => by
    show (0 : Int).natAbs < 2 ^ _
    exact Nat.pow_pos (by decide)
  | x :: xs, h => by
    have ih := hor_bd ht hb xs fun y hy => h y (List.mem_cons_of_mem _ hy)
    have hx := h x (List.mem_cons_self ..)
    have hp := natAbs_pow_lt hb xs.length
    have e : (2 * m + 2) * (xs.length + 1) = (2 * m + 2) * xs.length + 2 * m + 2 := by rw [Nat.mul_succ]; omega
    have e2 : m * xs.length ≤ (2 * m + 2) * xs.length := Nat.mul_le_mul_right _ (by omega)
    show (hor t b xs * t + x * b ^ xs.length).natAbs < 2 ^ ((2 * m + 2) * (xs.length + 1) + 1)
    rw [e]
    exact pow_up (natAbs_add_lt (m := (2 * m + 2) * xs.length + 1 + m) (natAbs_mul_lt ih ht) (pow_up (natAbs_mul_lt hx hp) (by omega))) (by omega)
end Mx
/-! What the specs of defs share. -/
namespace Mx
open PySem PySem.Spec PyProof.Rows L2 DL
theorem atI_n {α : Type} (xs : List α) (n : Nat) : atI xs (n : Int) = xs[n]? := by
  unfold atI ixN
  by_cases h : n < xs.length
  · rw [if_pos (by omega), if_pos (by omega)]
    simp
  · rw [if_pos (by omega), if_neg (by omega), List.getElem?_eq_none (by omega)]
    rfl
theorem cutD_take (ds : List PyData) {m : Nat} (h : m ≤ ds.length) : DL.cutD ds none (some (m : Int)) = ds.take m := by
  unfold DL.cutD
  rw [HT.sIx_none, HT.sIx_nat, Nat.min_eq_left h]
  rfl
theorem trim_take {ns : List Int} {m : Nat} (hz : ∀ x ∈ ns.drop m, x = 0) (hl : 0 < m → ns.getD (m - 1) 0 ≠ 0) : trim ns = ns.take m := by
  have e1 : trim ns = trim (ns.take m) := by
    unfold trim
    have : ns.reverse = (ns.drop m).reverse ++ (ns.take m).reverse := by rw [← List.reverse_append, List.take_append_drop]
    rw [this, List.dropWhile_append_of_pos]
    intro x hx
    rw [hz x (List.mem_reverse.mp hx)]
    rfl
  rw [e1]
  apply trim_id
  intro z
  rcases Nat.eq_zero_or_pos m with h | h
  · subst h
    simp at z
  · rw [List.getLast?_eq_getElem?, List.length_take] at z
    have hm : m ≤ ns.length := by
      rcases Nat.lt_or_ge ns.length m with q | q
      · exfalso
        exact hl h (Mx.getD_out (by omega))
      · exact q
    rw [Nat.min_eq_left hm, List.getElem?_take_of_lt (by omega)] at z
    apply hl h
    rw [List.getD_eq_getElem?_getD, z]
    rfl
theorem map_getG {α β : Type} {f : α → β} {u : List α} {i : Nat} {d : β} (h : (u.map f)[i]? = some d) : ∃ x, u[i]? = some x ∧ d = f x := by
  rw [List.getElem?_map] at h
  cases e : u[i]? with
  | none => rw [e] at h; cases h
  | some x =>
    rw [e] at h
    exact ⟨x, rfl, (Option.some.inj h).symm⟩
theorem map_get {u : List Int} {i : Nat} {d : PyData} (h : (u.map PyData.int)[i]? = some d) : ∃ x, u[i]? = some x ∧ d = .int x := by
  rw [List.getElem?_map] at h
  cases e : u[i]? with
  | none => rw [e] at h; cases h
  | some x =>
    rw [e] at h
    exact ⟨x, rfl, (Option.some.inj h).symm⟩
theorem map_int_inj : ∀ {u v : List Int}, u.map PyData.int = v.map PyData.int → u = v
  | [], [], _ => rfl
  | [], _ :: _, h => by simp at h
  | _ :: _, [], h => by simp at h
  | x :: xs, y :: ys, h => by
    simp only [List.map_cons, List.cons.injEq, PyData.int.injEq] at h
    rw [h.1, map_int_inj h.2]
theorem lg {x : Int} {m : Nat} (h : x.natAbs < 2 ^ m) : x.natAbs.log2 ≤ m := by
  by_cases z : x.natAbs = 0
  · rw [z]
    exact Nat.zero_le _
  · exact Nat.le_of_lt ((Nat.log2_lt z).mpr h)
theorem mulW_of {x y : Int} {m n : Nat} (hx : x.natAbs < 2 ^ m) (hy : y.natAbs < 2 ^ n) (h : m + n < 1000000) : CMulW x y := by
  have a := lg hx
  have b := lg hy
  unfold CMulW
  omega
noncomputable def sums (a : Int) (u : List Int) (b : Int) (v : List Int) (i : Nat) : List Int := (List.range (max u.length v.length)).map fun k => a * u.getD k 0 + if k < i then b * v.getD k 0 else 0
theorem sums_at (a : Int) (u : List Int) (b : Int) (v : List Int) (i k : Nat) (h : k < max u.length v.length) : (sums a u b v i)[k]? = some (a * u.getD k 0 + if k < i then b * v.getD k 0 else 0) := by
  unfold sums
  rw [List.getElem?_map, List.getElem?_range h]
  rfl
theorem sums_len (a : Int) (u : List Int) (b : Int) (v : List Int) (i : Nat) : (sums a u b v i).length = max u.length v.length := by simp [sums]
theorem sums_step {a : Int} {u : List Int} {b : Int} {v : List Int} {i : Nat} {y : Int} (hy : v[i]? = some y) : sums a u b v (i + 1) = (sums a u b v i).set i (a * u.getD i 0 + b * y) := by
  have hi : i < v.length := (List.getElem?_eq_some_iff.mp hy).1
  have hv : v.getD i 0 = y := by rw [List.getD_eq_getElem?_getD, hy]; rfl
  apply List.ext_getElem?
  intro k
  by_cases hk : k < max u.length v.length
  · rw [sums_at a u b v (i + 1) k hk]
    by_cases e : k = i
    · subst e
      rw [List.getElem?_set_self (by rw [sums_len]; omega), if_pos (by omega), hv]
    · rw [List.getElem?_set_ne (Ne.symm e), sums_at a u b v i k hk]
      by_cases q : k < i
      · rw [if_pos q, if_pos (by omega)]
      · rw [if_neg q, if_neg (by omega)]
  · rw [List.getElem?_eq_none (by rw [sums_len]; omega), List.getElem?_eq_none (by rw [List.length_set, sums_len]; omega)]
theorem sums_all (a : Int) (u : List Int) (b : Int) (v : List Int) : sums a u b v v.length = comb a u b v := by
  unfold sums comb
  apply List.map_congr_left
  intro k _
  by_cases q : k < v.length
  · rw [if_pos q]
  · rw [if_neg q, getD_out (u := v) (by omega)]
    omega
theorem sums_zero (a : Int) (u : List Int) (b : Int) (v : List Int) : sums a u b v 0 = (u.map fun x => a * x) ++ List.replicate (v.length - u.length) 0 := by
  apply List.ext_getElem?
  intro k
  by_cases hk : k < max u.length v.length
  · rw [sums_at a u b v 0 k hk, if_neg (by omega)]
    by_cases q : k < u.length
    · rw [List.getElem?_append_left (by simpa using q), List.getElem?_map, List.getElem?_eq_getElem q, List.getD_eq_getElem?_getD, List.getElem?_eq_getElem q]
      simp
    · rw [List.getElem?_append_right (by simpa using q), List.getElem?_replicate, if_pos (by simp; omega), getD_out (by omega)]
      simp
  · rw [List.getElem?_eq_none (by rw [sums_len]; omega), List.getElem?_eq_none (by simp; omega)]
theorem gcdL_append : ∀ u v : List Int, gcdL (u ++ v) = Nat.gcd (gcdL u) (gcdL v)
  | [], v => by simp [gcdL]
  | x :: xs, v => by
    simp only [List.cons_append, gcdL]
    rw [gcdL_append xs v, Nat.gcd_assoc]
noncomputable def rowD (u : List Int) : PyData := .tuple (u.map .int)
noncomputable def angD (p : List Int × Int) : PyData := .tuple [rowD p.1, .int p.2]
noncomputable def lineD (ds ss : List Fr) : PyData := .tuple [.tuple (ds.map frD), .tuple (ss.map frD)]
structure PLists (dd ss : List Fr) (i : Nat) (as : List (List Int × Int)) (ts : List (List Int)) : Prop where
  la : as.length = i
  lt : ts.length = i
  pa : ∀ j p, as[j]? = some p → Rel p.2 p.1 (tn (jv dd) (jv ss) j) ∧ p.1.length = j + 1 ∧ bd p.1 (64 + 130 * j)
  pt : ∀ j t, ts[j]? = some t → (∃ S, Rel S t (tq (jv dd) (jv ss) (j + 1))) ∧ t.length = j + 2 ∧ bd t (64 + 130 * (j + 1))
  dv : ∀ (j j' : Nat) (p q : List Int × Int), j ≤ j' → as[j]? = some p → as[j']? = some q → p.2 ∣ q.2
noncomputable def PInv (dd ss : List Fr) (i : Nat) (S : Int) (turn torque : List Int) (as : List (List Int × Int)) (ts : List (List Int)) : Prop :=
  (i < dd.length → Sta dd ss i S turn torque ∧ as.length = i ∧ ts.length = i ∧ PLists dd ss i as ts ∧ ∀ p ∈ as, p.2 ∣ S) ∧
  (i = dd.length → PLists dd ss i as ts ∧ (∃ S, Rel S turn (en (jv dd) (jv ss) (dd.length - 1))) ∧ turn.length = dd.length + 1 ∧ bd turn (64 + 130 * dd.length))
noncomputable def Parts (dd ss : List Fr) (d : PyData) : Prop := ∃ (as : List (List Int × Int)) (ts : List (List Int)) (e : List Int), d = .tuple [.list (as.map angD), .list (ts.map rowD), rowD e] ∧ PLists dd ss dd.length as ts ∧
  (∃ S, Rel S e (en (jv dd) (jv ss) (dd.length - 1))) ∧ e.length = dd.length + 1 ∧ bd e (64 + 130 * dd.length)
theorem pinv0 {dd ss : List Fr} (h : LN dd ss) {C : Fr} (hC : ss[0]? = some C) : PInv dd ss 0 C.2 [C.2] (if C.1 = 0 then [] else [C.1]) [] [] := by
  have := h.c1
  exact ⟨fun _ => ⟨sta0 h hC, rfl, rfl, ⟨rfl, rfl, by simp, by simp, by simp⟩, by simp⟩, fun z => by omega⟩
theorem get_push {α : Type} {xs : List α} {x y : α} {j : Nat} (h : (xs ++ [x])[j]? = some y) : xs[j]? = some y ∨ (j = xs.length ∧ y = x) := by
  rcases Nat.lt_trichotomy j xs.length with q | q | q
  · rw [List.getElem?_append_left q] at h
    exact .inl h
  · subst q
    rw [List.getElem?_append_right (Nat.le_refl _)] at h
    simp at h
    exact .inr ⟨rfl, h.symm⟩
  · rw [List.getElem?_eq_none (by simp; omega)] at h
    cases h
theorem pinvS {dd ss : List Fr} (h : LN dd ss) {i : Nat} {S : Int} {turn torque : List Int} {as : List (List Int × Int)} {ts : List (List Int)} (I : PInv dd ss i S turn torque as ts) (hi : i < dd.length) {J C : Fr} (hJ : dd[i]? = some J) (hC : ss[i + 1]? = some C)
    {to' : List Int} (hr : Rel (S * J.2) to' (tq (jv dd) (jv ss) (i + 1))) (hl : to'.length = i + 2) (hb : bd to' (64 + 130 * i + 65)) :
    PInv dd ss (i + 1) (S * (J.2 * C.1)) (trim (comb (J.2 * C.1) turn C.2 to')) (trim (comb C.1 to' 0 [])) (as ++ [(turn, S)]) (ts ++ [to']) := by
  obtain ⟨st, la, lt, p, dv⟩ := I.1 hi
  have pl : PLists dd ss (i + 1) (as ++ [(turn, S)]) (ts ++ [to']) := by
    refine ⟨by simp [la], by simp [lt], fun j q hj => ?_, fun j t hj => ?_, fun j j' p1 q1 jj h1 h2 => ?_⟩
    · rcases get_push hj with hj | ⟨e1, e2⟩
      · exact p.pa j q hj
      · rw [e2, e1, la]
        exact ⟨st.tu, st.tl, st.bt⟩
    · rcases get_push hj with hj | ⟨e1, e2⟩
      · exact p.pt j t hj
      · rw [e2, e1, lt]
        exact ⟨⟨_, hr⟩, hl, fun x hx => pow_up (hb x hx) (by omega)⟩
    · rcases get_push h2 with h2 | ⟨e1, e2⟩
      · rcases get_push h1 with h1 | ⟨e3, e4⟩
        · exact p.dv j j' p1 q1 jj h1 h2
        · have := (List.getElem?_eq_some_iff.mp h2).1
          omega
      · rw [e2]
        rcases get_push h1 with h1 | ⟨e3, e4⟩
        · exact dv p1 (List.mem_of_getElem? h1)
        · rw [e4]
          exact Int.dvd_refl _
  have dv2 : ∀ (z : Int), ∀ q ∈ as ++ [(turn, S)], q.2 ∣ S * z := fun z q hq => by
    rcases List.mem_append.mp hq with hq | hq
    · exact Int.dvd_trans (dv q hq) (Int.dvd_mul_right _ _)
    · rw [List.mem_singleton.mp hq]
      exact Int.dvd_mul_right _ _
  refine ⟨fun q => ?_, fun q => ?_⟩
  · exact ⟨step2 h q st hJ hC hr hl hb, pl.la, pl.lt, pl, dv2 _⟩
  · obtain ⟨a, b, c⟩ := stepE h q st hJ hC hr hl hb
    have e : dd.length - 1 = i := by omega
    refine ⟨pl, ⟨_, by rw [e]; exact a⟩, by omega, by rw [← q]; exact c⟩
theorem pinvE {dd ss : List Fr} (h : LN dd ss) {S : Int} {turn torque : List Int} {as : List (List Int × Int)} {ts : List (List Int)} (I : PInv dd ss dd.length S turn torque as ts) : Parts dd ss (.tuple [.list (as.map angD), .list (ts.map rowD), rowD turn]) := by
  obtain ⟨a, b, c, d⟩ := I.2 rfl
  exact ⟨as, ts, turn, rfl, a, b, c, d⟩
theorem blend_inj {u u' v v' : List Int} {a a' b b' : Int} (h : [PyData.tuple (u.map .int), .int a, .tuple (v.map .int), .int b] = [PyData.tuple (u'.map .int), .int a', .tuple (v'.map .int), .int b']) : u = u' ∧ a = a' ∧ v = v' ∧ b = b' := by
  simp only [List.cons.injEq, PyData.tuple.injEq, PyData.int.injEq] at h
  exact ⟨map_int_inj h.1, h.2.1, map_int_inj h.2.2.1, h.2.2.2.1⟩
theorem frD_inj {x y : Fr} (h : frD x = frD y) : x = y := by
  obtain ⟨a, b⟩ := x
  obtain ⟨c, d⟩ := y
  unfold frD at h
  simp only [PyData.tuple.injEq, List.cons.injEq, PyData.int.injEq] at h
  rw [h.1, h.2.1]
theorem mapF_inj : ∀ {u v : List Fr}, u.map frD = v.map frD → u = v
  | [], [], _ => rfl
  | [], _ :: _, h => by simp at h
  | _ :: _, [], h => by simp at h
  | x :: xs, y :: ys, h => by
    simp only [List.map_cons, List.cons.injEq] at h
    rw [frD_inj h.1, mapF_inj h.2]
theorem lineD_inj {a b c d : List Fr} (h : [lineD a b] = [lineD c d]) : a = c ∧ b = d := by
  unfold lineD at h
  simp only [PyData.tuple.injEq, List.cons.injEq] at h
  exact ⟨mapF_inj h.1.1, mapF_inj h.1.2.1⟩
noncomputable def pol (dd ss : List Fr) (i : Nat) : Nat → Rat := if i < dd.length then tn (jv dd) (jv ss) i else en (jv dd) (jv ss) (dd.length - 1)
structure Rows (dd ss : List Fr) (rows : List (List Int)) : Prop where
  len : rows.length = dd.length + 1
  row : ∀ i r, rows[i]? = some r → ∃ u S, r = prim u ∧ Rel S u (pol dd ss i) ∧ u.length = i + 1 ∧ bd u 1200
noncomputable def Sm (x : Fr) : Prop := 0 < x.2 ∧ x.1.natAbs < 2 ^ 4000 ∧ x.2.natAbs < 2 ^ 4000
structure RowOk (r : List Fr) (n : Nat) (f : Nat → Rat) : Prop where
  len : r.length = n
  ok : ∀ x ∈ r, FOk x
  at_ : ∀ k, val (r.getD k (0, 1)) = f k
structure PartOk (r : List Fr) (n : Nat) (f : Nat → Rat) : Prop where
  len : r.length = n
  ok : ∀ x ∈ r, FOk x
  at_ : ∀ k, k < n → val (r.getD k (0, 1)) = f k
theorem val_zero : val (0, 1) = 0 := by decide +kernel
theorem PartOk.push {r : List Fr} {n : Nat} {f : Nat → Rat} (h : PartOk r n f) {b : Fr} (hb : FOk b) (hv : val b = f n) : PartOk (r ++ [b]) (n + 1) f := by
  refine ⟨by simp [h.len], fun x hx => ?_, fun k hk => ?_⟩
  · rcases List.mem_append.mp hx with q | q
    · exact h.ok x q
    · rw [List.mem_singleton.mp q]
      exact hb
  · by_cases q : k < n
    · rw [List.getD_eq_getElem?_getD, List.getElem?_append_left (by rw [h.len]; exact q), ← List.getD_eq_getElem?_getD]
      exact h.at_ k q
    · obtain rfl : k = n := by omega
      rw [List.getD_eq_getElem?_getD, List.getElem?_append_right (by rw [h.len]; omega), h.len, Nat.sub_self]
      exact hv
theorem PartOk.row {r : List Fr} {n : Nat} {f : Nat → Rat} (h : PartOk r n f) (hz : ∀ k, n ≤ k → f k = 0) : RowOk r n f := by
  refine ⟨h.len, h.ok, fun k => ?_⟩
  by_cases q : k < n
  · exact h.at_ k q
  · rw [hz k (by omega), List.getD_eq_getElem?_getD, List.getElem?_eq_none (by rw [h.len]; omega)]
    exact val_zero
theorem frD2_inj {x y a b : Fr} (h : [frD x, frD y] = [frD a, frD b]) : x = a ∧ y = b := by
  simp only [List.cons.injEq, and_true] at h
  exact ⟨frD_inj h.1, frD_inj h.2⟩
noncomputable def Gsm (f : Nat → Rat) : Prop := ∃ S u, Rel S u f ∧ bd u 1200 ∧ S.natAbs < 2 ^ 1200
theorem RowOk.smE {r : List Fr} {n : Nat} {f : Nat → Rat} (h : RowOk r n f) {e : Nat} (he : e ≤ 4000) (g : ∃ S u, Rel S u f ∧ bd u e ∧ S.natAbs < 2 ^ e) : ∀ a ∈ r, Sm a := fun a ha => by
  obtain ⟨S, u, rl, bu, bS⟩ := g
  obtain ⟨k, hk, e1⟩ := List.getElem_of_mem ha
  have v := h.at_ k
  rw [List.getD_eq_getElem?_getD, List.getElem?_eq_getElem hk] at v
  have v2 : val a = f k := by rw [← e1]; exact v
  have f1 := h.ok a ha
  obtain ⟨s1, s2, _⟩ := f1.small (u := u.getD k 0) rl.pos (by
    rw [v2, rl.at_ k]
    grind)
  exact ⟨f1.1, pow_up (Nat.lt_of_le_of_lt s1 (bu.get k)) he, pow_up (Nat.lt_of_le_of_lt s2 bS) he⟩
theorem RowOk.sm {r : List Fr} {n : Nat} {f : Nat → Rat} (h : RowOk r n f) (g : Gsm f) : ∀ a ∈ r, Sm a := h.smE (e := 1200) (by decide) g
theorem rel_mul {S : Int} {u : List Int} {f : Nat → Rat} (r : Rel S u f) {p q : Int} (hq : 0 < q) : Rel (S * q) (u.map fun x => p * x) (fun k => f k * ((p : Rat) / (q : Rat))) := by
  refine ⟨Int.mul_pos r.pos hq, fun k => ?_⟩
  have e : (u.map fun x => p * x).getD k 0 = p * u.getD k 0 := by
    by_cases h : k < u.length
    · simp [List.getD_eq_getElem?_getD, h]
    · simp [List.getD_eq_getElem?_getD, h]
  rw [e, Rat.intCast_mul, Rat.intCast_mul, r.at_ k]
  have := ratInt_ne (a := q) (by omega)
  grind
theorem Gsm.mul {f : Nat → Rat} (g : Gsm f) {p q : Int} (hq : 0 < q) (hp1 : p.natAbs < 2 ^ 64) (hq1 : q.natAbs < 2 ^ 64) : ∃ S u, Rel S u (fun k => f k * ((p : Rat) / (q : Rat))) ∧ bd u 1264 ∧ S.natAbs < 2 ^ 1264 := by
  obtain ⟨S, u, r, bu, bS⟩ := g
  refine ⟨_, _, rel_mul r hq, fun x hx => ?_, natAbs_mul_lt bS hq1⟩
  obtain ⟨y, hy, rfl⟩ := List.mem_map.mp hx
  exact pow_up (natAbs_mul_lt hp1 (bu y hy)) (by decide)
theorem RowOk.congr {r : List Fr} {n m : Nat} {f g : Nat → Rat} (h : RowOk r n f) (e : n = m) (hf : ∀ k, f k = g k) : RowOk r m g := ⟨by rw [← e]; exact h.len, h.ok, fun k => by rw [← hf k]; exact h.at_ k⟩
noncomputable def Small (r : List Fr) : Prop := ∀ x ∈ r, x.1 < 64 ∧ x.2 < 64
theorem pol_lead {dd ss : List Fr} (h : LN dd ss) {i : Nat} (hi : i ≤ dd.length) : 0 < alt i * pol dd ss i i := by
  have n1 := h.c1
  unfold pol
  by_cases q : i < dd.length
  · rw [if_pos q]
    exact (run_shape (J := jv dd) (K := jv ss) i (fun j hj => h.jpos (by omega)) (fun j p q => h.kpos p (by omega))).2.1
  · rw [if_neg q]
    have e : i = dd.length - 1 + 1 := by omega
    have hl := h.len
    have := (en_shape (J := jv dd) (K := jv ss) (dd.length - 1) (fun j hj => h.jpos (by omega)) (fun j p q => h.kpos p (by omega)) (h.knn (by omega)) (h.knn (by omega))).2.1
    rw [← e] at this
    exact this
structure Sh (ws : List (List Int)) : Prop where
  len : ws.length ≤ 9
  row : ∀ w ∈ ws, w.length ≤ 9 ∧ bd w 1200
theorem Rows.sh {dd ss : List Fr} {ws : List (List Int)} (h : Rows dd ss ws) (h8 : dd.length ≤ 8) : Sh ws := by
  have hl := h.len
  refine ⟨by omega, fun w hw => ?_⟩
  obtain ⟨j, hj, e⟩ := List.getElem_of_mem hw
  obtain ⟨u, S, e1, r1, l1, b1⟩ := h.row j w (by rw [List.getElem?_eq_getElem hj, e])
  refine ⟨by rw [e1, prim_len]; omega, ?_⟩
  rw [e1]
  exact bd.of_get fun k => Nat.lt_of_le_of_lt (prim_abs u k) (b1.get k)
theorem Rows.first {dd ss : List Fr} {ws : List (List Int)} (R : Rows dd ss ws) (h : LN dd ss) : ∃ w, ws[0]? = some w ∧ w = [1] := by
  have hl := R.len
  refine ⟨ws[0], List.getElem?_eq_getElem (by omega), ?_⟩
  obtain ⟨u, S, e, r, l, b⟩ := R.row 0 ws[0] (List.getElem?_eq_getElem (by omega))
  rw [e]
  match u, l with
  | [x], _ =>
    have ld := r.at_ 0
    have n1 := h.c1
    have p0 : pol dd ss 0 0 = 1 := by
      unfold pol
      rw [if_pos (by omega)]
      rfl
    rw [p0] at ld
    have hx : x = S := by
      apply Rat.intCast_inj.mp
      have : (([x] : List Int).getD 0 0) = x := rfl
      rw [this] at ld
      rw [ld]
      grind
    have hS := r.pos
    subst hx
    show [x / ((Nat.gcd x.natAbs 0 : Nat) : Int)] = [1]
    rw [Nat.gcd_zero_right, show ((x.natAbs : Nat) : Int) = x by omega, Int.ediv_self (by omega)]
theorem rowD_inj {u v : List Int} (h : rowD u = rowD v) : u = v := by
  unfold rowD at h
  injection h with h
  exact map_int_inj h
theorem rowf_inj {u v : List Int} {x y : Fr} (h : [rowD u, frD x] = [rowD v, frD y]) : u = v ∧ x = y := by
  simp only [List.cons.injEq, and_true] at h
  exact ⟨rowD_inj h.1, frD_inj h.2⟩
theorem mapR_inj : ∀ {u v : List (List Int)}, u.map rowD = v.map rowD → u = v
  | [], [], _ => rfl
  | [], _ :: _, h => by simp at h
  | _ :: _, [], h => by simp at h
  | x :: xs, y :: ys, h => by
    simp only [List.map_cons, List.cons.injEq] at h
    rw [rowD_inj h.1, mapR_inj h.2]
theorem rows_inj {u v : List (List Int)} (h : PyData.tuple (u.map rowD) = .tuple (v.map rowD)) : u = v := by
  injection h with h
  exact mapR_inj h
/-- the signs of a run's rows at a pace change as often as swings are slower -/
theorem signs_cnt {dd ss : List Fr} {rows : List (List Int)} (R : Rows dd ss rows) (h : LN dd ss) {p : Fr} (hp : 0 < p.2) : (chs ((rows.map fun w => sgn (hor p.1 p.2 w)).map sgn)).1 = cnt (jv dd) (jv ss) (val p) (dd.length - 1) := by
  have n1 := h.c1
  have hl := R.len
  have hls := h.len
  have sg : ∀ z : Rat, sgn (rsgn z) = rsgn z := fun z => by
    unfold rsgn
    split
    · decide
    · split <;> decide
  have e : (rows.map fun w => sgn (hor p.1 p.2 w)).map sgn = ((List.range (dd.length - 1 + 1)).map fun j => rsgn (xa (jv dd) (jv ss) (val p) j)) ++ [rsgn (ea (jv dd) (jv ss) (val p) (dd.length - 1))] := by
    apply List.ext_getElem?
    intro j
    by_cases hj : j < rows.length
    · have hr : rows[j]? = some rows[j] := List.getElem?_eq_getElem hj
      generalize rows[j] = w at hr
      obtain ⟨u, S, ew, rl, lu, bu⟩ := R.row j w hr
      have ld := pol_lead h (i := j) (by omega)
      have sw : sgn (hor p.1 p.2 w) = rsgn (fev (pol dd ss j) (val p) (j + 1)) := by
        rw [ew, prim_sgn rl (ne_of_alt ld) hp, lu]
        rfl
      rw [List.getElem?_map, List.getElem?_map, hr]
      show some (sgn (sgn (hor p.1 p.2 w))) = _
      rw [sw, sg]
      by_cases q : j < dd.length
      · rw [List.getElem?_append_left (by simp; omega), List.getElem?_map, List.getElem?_range (by omega)]
        show _ = some (rsgn (xa (jv dd) (jv ss) (val p) j))
        unfold pol
        rw [if_pos q, (fev_run (p := val p) j (fun i hi => h.jpos (by omega)) (fun i a b => h.kpos a (by omega))).1]
      · obtain rfl : j = dd.length := by omega
        rw [List.getElem?_append_right (by simp; omega)]
        simp only [List.length_map, List.length_range, show dd.length - (dd.length - 1 + 1) = 0 by omega]
        show _ = some (rsgn (ea (jv dd) (jv ss) (val p) (dd.length - 1)))
        unfold pol
        rw [if_neg q, show dd.length + 1 = dd.length - 1 + 2 by omega, fev_en (dd.length - 1) (fun i hi => h.jpos (by omega)) (fun i a b => h.kpos a (by omega))]
    · rw [List.getElem?_eq_none (by simp; omega), List.getElem?_eq_none (by simp; omega)]
  rw [e]
  exact chs_cnt _ _ _ _
end Mx
namespace Mx
open PySem PySem.Spec PyProof.Rows L2 DL
section
variable {K : PySem.W.Frag} {B : Bs} {G : List Hp} {L : List Addr} {Γ : List Sl} {ta tb : TE}
end

/-! ### how great the parts of a fraction get -/
noncomputable def GS (e : Nat) (v : Rat) : Prop := ∃ a b : Int, 0 < b ∧ v * (b : Rat) = (a : Rat) ∧ a.natAbs < 2 ^ e ∧ b.natAbs < 2 ^ e
theorem GS.fr {x : Fr} {e : Nat} (g : GS e (val x)) (h : FOk x) : x.1.natAbs < 2 ^ e ∧ x.2.natAbs < 2 ^ e := by
  obtain ⟨a, b, hb, e1, ha, hb2⟩ := g
  have := h.small hb e1
  exact ⟨Nat.lt_of_le_of_lt this.1 ha, Nat.lt_of_le_of_lt this.2.1 hb2⟩
theorem GS.sm {x : Fr} {e : Nat} (g : GS e (val x)) (h : FOk x) (he : e ≤ 4000) : Sm x := ⟨h.1, pow_up (g.fr h).1 he, pow_up (g.fr h).2 he⟩
theorem GS.up {e f : Nat} {v : Rat} (g : GS e v) (h : e ≤ f) : GS f v := by
  obtain ⟨a, b, hb, e1, ha, hb2⟩ := g
  exact ⟨a, b, hb, e1, pow_up ha h, pow_up hb2 h⟩
theorem val_mul {x : Fr} (h : 0 < x.2) : val x * ((x.2 : Int) : Rat) = (x.1 : Rat) := by
  have := ratInt_ne (a := x.2) (by omega)
  unfold val
  grind
theorem GS.of {x : Fr} {e : Nat} (h : 0 < x.2) (h1 : x.1.natAbs < 2 ^ e) (h2 : x.2.natAbs < 2 ^ e) : GS e (val x) := ⟨x.1, x.2, h, val_mul h, h1, h2⟩
theorem GS.mul {e f : Nat} {u v : Rat} (g : GS e u) (h : GS f v) : GS (e + f) (u * v) := by
  obtain ⟨a, b, hb, e1, ha, hb2⟩ := g
  obtain ⟨c, d, hd, e2, hc, hd2⟩ := h
  refine ⟨a * c, b * d, Int.mul_pos hb hd, ?_, natAbs_mul_lt ha hc, natAbs_mul_lt hb2 hd2⟩
  rw [Rat.intCast_mul, Rat.intCast_mul, ← e1, ← e2]
  grind
theorem GS.add {e f : Nat} {u v : Rat} (g : GS e u) (h : GS f v) : GS (e + f + 1) (u + v) := by
  obtain ⟨a, b, hb, e1, ha, hb2⟩ := g
  obtain ⟨c, d, hd, e2, hc, hd2⟩ := h
  refine ⟨a * d + b * c, b * d, Int.mul_pos hb hd, ?_, natAbs_add_lt (natAbs_mul_lt ha hd2) (natAbs_mul_lt hb2 hc), pow_up (natAbs_mul_lt hb2 hd2) (by omega)⟩
  rw [Rat.intCast_add, Rat.intCast_mul, Rat.intCast_mul, Rat.intCast_mul, ← e1, ← e2]
  grind
theorem pos_num {v : Rat} {a b : Int} (hv : 0 < v) (hb : 0 < b) (e : v * (b : Rat) = (a : Rat)) : 0 < a := by
  have := Rat.mul_pos hv (ratInt_pos hb)
  rw [e] at this
  exact Rat.intCast_pos.mp this
theorem GS.div {e f : Nat} {u v : Rat} (g : GS e u) (h : GS f v) (hv : 0 < v) : GS (e + f) (u / v) := by
  obtain ⟨a, b, hb, e1, ha, hb2⟩ := g
  obtain ⟨c, d, hd, e2, hc, hd2⟩ := h
  have hc0 := pos_num hv hd e2
  refine ⟨a * d, b * c, Int.mul_pos hb hc0, ?_, natAbs_mul_lt ha hd2, natAbs_mul_lt hb2 hc⟩
  rw [Rat.intCast_mul, Rat.intCast_mul, ← e1, ← e2]
  grind
/-- two numbers over one denominator -/
noncomputable def G2 (e : Nat) (t a : Rat) : Prop := ∃ S T A : Int, 0 < S ∧ t * (S : Rat) = (T : Rat) ∧ a * (S : Rat) = (A : Rat) ∧ S.natAbs < 2 ^ e ∧ T.natAbs < 2 ^ e ∧ A.natAbs < 2 ^ e
theorem G2.l {e : Nat} {t a : Rat} (g : G2 e t a) : GS e t := by
  obtain ⟨S, T, A, s0, h1, h2, h3, h4, h5⟩ := g
  exact ⟨T, S, s0, h1, h4, h3⟩
theorem G2.r {e : Nat} {t a : Rat} (g : G2 e t a) : GS e a := by
  obtain ⟨S, T, A, s0, h1, h2, h3, h4, h5⟩ := g
  exact ⟨A, S, s0, h2, h5, h3⟩
theorem natAbs_sub_lt {a b : Int} {m : Nat} (ha : a.natAbs < 2 ^ m) (hb : b.natAbs < 2 ^ m) : (a - b).natAbs < 2 ^ (m + 1) := by
  rw [Int.sub_eq_add_neg]
  exact natAbs_add_lt ha (by rw [Int.natAbs_neg]; exact hb)
theorem G2.less {e f : Nat} {t a x : Rat} (g : G2 e t a) (h : GS f x) : G2 (e + f + 1) (t - x * a) a := by
  obtain ⟨S, T, A, s0, h1, h2, h3, h4, h5⟩ := g
  obtain ⟨c, d, hd, e2, hc, hd2⟩ := h
  refine ⟨S * d, T * d - A * c, A * d, Int.mul_pos s0 hd, ?_, ?_, pow_up (natAbs_mul_lt h3 hd2) (by omega), natAbs_sub_lt (natAbs_mul_lt h4 hd2) (natAbs_mul_lt h5 hc), pow_up (natAbs_mul_lt h5 hd2) (by omega)⟩
  · rw [Rat.intCast_sub, Rat.intCast_mul, Rat.intCast_mul, Rat.intCast_mul, ← h1, ← h2, ← e2]
    grind
  · rw [Rat.intCast_mul, Rat.intCast_mul, ← h2]
    grind
theorem G2.more {e f : Nat} {t a k : Rat} (g : G2 e t a) (h : GS f k) (hk : 0 < k) : G2 (e + f + 1) t (a + t / k) := by
  obtain ⟨S, T, A, s0, h1, h2, h3, h4, h5⟩ := g
  obtain ⟨c, d, hd, e2, hc, hd2⟩ := h
  have hc0 := pos_num hk hd e2
  refine ⟨S * c, T * c, A * c + T * d, Int.mul_pos s0 hc0, ?_, ?_, pow_up (natAbs_mul_lt h3 hc) (by omega), pow_up (natAbs_mul_lt h4 hc) (by omega), natAbs_add_lt (natAbs_mul_lt h5 hc) (natAbs_mul_lt h4 hd2)⟩
  · rw [Rat.intCast_mul, Rat.intCast_mul, ← h1]
    grind
  · rw [Rat.intCast_add, Rat.intCast_mul, Rat.intCast_mul, Rat.intCast_mul, ← h1, ← h2, ← e2]
    grind

/-! ### the row by fractions -/
theorem gs_j {dd : List Fr} {i : Nat} {x : Fr} (hx : dd[i]? = some x) (s : Small dd) (f : FOk x) (h0 : 0 ≤ x.1) : GS 6 (jv dd i) := by
  have := s x (List.mem_of_getElem? hx)
  have f1 := f.1
  unfold jv
  rw [List.getD_eq_getElem?_getD, hx]
  exact GS.of f.1 (by show x.1.natAbs < 2 ^ 6; omega) (by show x.2.natAbs < 2 ^ 6; omega)
/-! ### a pace beyond all swings -/
noncomputable def fs (J K : Nat → Rat) : Nat → Rat
  | 0 => 1
  | i + 1 => fs J K i + 2 * ((K i + K (i + 1)) / J i)
/-! ### signs -/
noncomputable def live (l : List Int) : List Int := (l.filter (· ≠ 0)).map sgn
theorem ph_le (J K : Nat → Rat) (p : Rat) : ∀ i, (ph J K p i).1 ≤ i
  | 0 => Nat.le_refl _
  | i + 1 => by
    have := ph_le J K p i
    show (if _ then _ else _ : Nat × Rat × Rat).1 ≤ i + 1
    split
    · show (ph J K p i).1 + 1 ≤ i + 1
      omega
    · show (ph J K p i).1 ≤ i + 1
      omega
theorem cnt_le (J K : Nat → Rat) (p : Rat) (n : Nat) : cnt J K p n ≤ n + 1 := by
  have := ph_le J K p n
  unfold cnt
  show (ph J K p n).1 + (if _ < 0 then 1 else 0) ≤ n + 1
  split <;> omega
end Mx
namespace Mx
open PySem PySem.Spec PyProof.Rows L2 DL
/-! ### none and all slower: the signs of the row -/
theorem ph_zero {J K : Nat → Rat} {p : Rat} (n : Nat) (hK : ∀ j, 0 < j → j ≤ n → 0 < K j) (hc : cnt J K p n = 0) : (∀ i, i ≤ n → (ph J K p i).1 = 0 ∧ 0 < (ph J K p i).2.1) ∧ ¬ K (n + 1) * (ph J K p n).2.1 + ((ph J K p n).2.2 - p * J n * (ph J K p n).2.1) < 0 := by
  have up : ∀ i, (ph J K p i).1 ≤ (ph J K p (i + 1)).1 := fun i => by
    show (ph J K p i).1 ≤ (if _ then _ else _ : Nat × Rat × Rat).1
    split
    · show (ph J K p i).1 ≤ (ph J K p i).1 + 1
      omega
    · exact Nat.le_refl _
  have ups : ∀ d i, (ph J K p i).1 ≤ (ph J K p (i + d)).1 := by
    intro d
    induction d with
    | zero => exact fun i => Nat.le_refl _
    | succ d ih => exact fun i => Nat.le_trans (ih i) (up (i + d))
  have h0 : (ph J K p n).1 = 0 ∧ ¬ K (n + 1) * (ph J K p n).2.1 + ((ph J K p n).2.2 - p * J n * (ph J K p n).2.1) < 0 := by
    have : (ph J K p n).1 + (if K (n + 1) * (ph J K p n).2.1 + ((ph J K p n).2.2 - p * J n * (ph J K p n).2.1) < 0 then 1 else 0) = 0 := hc
    by_cases q : K (n + 1) * (ph J K p n).2.1 + ((ph J K p n).2.2 - p * J n * (ph J K p n).2.1) < 0
    · rw [if_pos q] at this
      omega
    · exact ⟨by omega, q⟩
  have z : ∀ i, i ≤ n → (ph J K p i).1 = 0 := fun i hi => by
    have := ups (n - i) i
    rw [show i + (n - i) = n by omega, h0.1] at this
    omega
  refine ⟨fun i hi => ⟨z i hi, ?_⟩, h0.2⟩
  have hh := ph_hp (J := J) (p := p) i fun j a b => hK j a (by omega)
  rcases hh with q | ⟨q1, q2⟩
  · exact q
  · exfalso
    by_cases e : i = n
    · subst e
      apply h0.2
      rw [q1]
      grind
    · have z1 := z (i + 1) (by omega)
      have hk := Rat.inv_pos.mpr (hK (i + 1) (by omega) (by omega))
      have t : (ph J K p i).2.1 + ((ph J K p i).2.2 - p * J i * (ph J K p i).2.1) / K (i + 1) < 0 := by
        rw [q1, Rat.div_def]
        have := Rat.mul_pos (show 0 < -(ph J K p i).2.2 by grind) hk
        grind
      have d : ph J K p (i + 1) = ((ph J K p i).1 + 1, -((ph J K p i).2.1 + ((ph J K p i).2.2 - p * J i * (ph J K p i).2.1) / K (i + 1)), -((ph J K p i).2.2 - p * J i * (ph J K p i).2.1)) := if_pos t
      rw [d] at z1
      exact absurd z1 (Nat.succ_ne_zero _)
theorem ph_full {J K : Nat → Rat} {p : Rat} (n : Nat) (hc : cnt J K p n = n + 1) : (∀ i, i ≤ n → (ph J K p i).1 = i ∧ 0 < (ph J K p i).2.1) ∧ K (n + 1) * (ph J K p n).2.1 + ((ph J K p n).2.2 - p * J n * (ph J K p n).2.1) < 0 := by
  have le := fun i => ph_le J K p i
  have up : ∀ i, (ph J K p (i + 1)).1 ≤ (ph J K p i).1 + 1 := fun i => by
    show (if _ then _ else _ : Nat × Rat × Rat).1 ≤ _
    split
    · exact Nat.le_refl _
    · exact Nat.le_succ _
  have ups : ∀ d i, (ph J K p (i + d)).1 ≤ (ph J K p i).1 + d := by
    intro d
    induction d with
    | zero => exact fun i => Nat.le_refl _
    | succ d ih => exact fun i => Nat.le_trans (up (i + d)) (Nat.succ_le_succ (ih i))
  have h0 : (ph J K p n).1 = n ∧ K (n + 1) * (ph J K p n).2.1 + ((ph J K p n).2.2 - p * J n * (ph J K p n).2.1) < 0 := by
    have : (ph J K p n).1 + (if K (n + 1) * (ph J K p n).2.1 + ((ph J K p n).2.2 - p * J n * (ph J K p n).2.1) < 0 then 1 else 0) = n + 1 := hc
    have l := le n
    by_cases q : K (n + 1) * (ph J K p n).2.1 + ((ph J K p n).2.2 - p * J n * (ph J K p n).2.1) < 0
    · rw [if_pos q] at this
      exact ⟨by omega, q⟩
    · rw [if_neg q] at this
      omega
  have z : ∀ i, i ≤ n → (ph J K p i).1 = i := fun i hi => by
    have := ups (n - i) i
    rw [show i + (n - i) = n by omega, h0.1] at this
    have := le i
    omega
  refine ⟨fun i hi => ⟨z i hi, ?_⟩, h0.2⟩
  cases i with
  | zero => show (0 : Rat) < 1; decide +kernel
  | succ i =>
    have z1 := z (i + 1) hi
    have z0 := z i (by omega)
    by_cases t : (ph J K p i).2.1 + ((ph J K p i).2.2 - p * J i * (ph J K p i).2.1) / K (i + 1) < 0
    · have d : ph J K p (i + 1) = ((ph J K p i).1 + 1, -((ph J K p i).2.1 + ((ph J K p i).2.2 - p * J i * (ph J K p i).2.1) / K (i + 1)), -((ph J K p i).2.2 - p * J i * (ph J K p i).2.1)) := if_pos t
      rw [d]
      show 0 < -_
      grind
    · have d : ph J K p (i + 1) = ((ph J K p i).1, (ph J K p i).2.1 + ((ph J K p i).2.2 - p * J i * (ph J K p i).2.1) / K (i + 1), (ph J K p i).2.2 - p * J i * (ph J K p i).2.1) := if_neg t
      rw [d] at z1
      have z2 : (ph J K p i).1 = i + 1 := z1
      omega
theorem ea_ph (J K : Nat → Rat) (p : Rat) (n : Nat) : ea J K p n = alt (ph J K p n).1 * (K (n + 1) * (ph J K p n).2.1 + ((ph J K p n).2.2 - p * J n * (ph J K p n).2.1)) := by
  obtain ⟨h1, h2⟩ := ph_row J K p n
  unfold ea
  rw [ya_succ, h1, h2]
  grind
theorem alt_sq (i : Nat) : alt i * alt i = 1 := by
  unfold alt
  split
  · decide +kernel
  · decide +kernel
/-- where all signs go one way or all change, s * neighbours' products are above 0 -/
structure Way (J K : Nat → Rat) (p : Rat) (n : Nat) (s : Rat) : Prop where
  ne : ∀ i, i ≤ n → xa J K p i ≠ 0
  nb : ∀ i, i < n → 0 < s * (xa J K p i * xa J K p (i + 1))
  en : 0 < s * (xa J K p n * ea J K p n)
theorem way_up {J K : Nat → Rat} {p : Rat} (n : Nat) (hK : ∀ j, 0 < j → j ≤ n → 0 < K j) (hc : cnt J K p n = 0) (he : ea J K p n ≠ 0) : Way J K p n 1 := by
  obtain ⟨h, hl⟩ := ph_zero n hK hc
  have x : ∀ i, i ≤ n → xa J K p i = (ph J K p i).2.1 := fun i hi => by
    rw [(ph_row J K p i).1, (h i hi).1]
    show (1 : Rat) * _ = _
    grind
  have e := ea_ph J K p n
  rw [(h n (Nat.le_refl _)).1] at e
  have a0 : alt 0 = 1 := rfl
  rw [a0] at e
  refine ⟨fun i hi => ?_, fun i hi => ?_, ?_⟩
  · rw [x i hi]
    have := (h i hi).2
    grind
  · rw [x i (by omega), x (i + 1) (by omega)]
    have := Rat.mul_pos (h i (by omega)).2 (h (i + 1) (by omega)).2
    grind
  · rw [x n (Nat.le_refl _)]
    have q : 0 < ea J K p n := by grind
    have := Rat.mul_pos (h n (Nat.le_refl _)).2 q
    grind
theorem way_down {J K : Nat → Rat} {p : Rat} (n : Nat) (hc : cnt J K p n = n + 1) : Way J K p n (-1) := by
  obtain ⟨h, hl⟩ := ph_full n hc
  have x : ∀ i, i ≤ n → xa J K p i = alt i * (ph J K p i).2.1 := fun i hi => by
    rw [(ph_row J K p i).1, (h i hi).1]
  have e := ea_ph J K p n
  rw [(h n (Nat.le_refl _)).1] at e
  refine ⟨fun i hi => ?_, fun i hi => ?_, ?_⟩
  · rw [x i hi]
    have h1 := (h i hi).2
    have h2 := alt_sq i
    intro z
    have : alt i * (alt i * (ph J K p i).2.1) = 0 := by rw [z]; grind
    grind
  · rw [x i (by omega), x (i + 1) (by omega), alt_succ]
    have h1 := Rat.mul_pos (h i (by omega)).2 (h (i + 1) (by omega)).2
    have h2 := alt_sq i
    have : -1 * (alt i * (ph J K p i).2.1 * (-alt i * (ph J K p (i + 1)).2.1)) = (alt i * alt i) * ((ph J K p i).2.1 * (ph J K p (i + 1)).2.1) := by grind
    rw [this, h2]
    grind
  · rw [x n (Nat.le_refl _), e]
    have h1 := Rat.mul_pos (h n (Nat.le_refl _)).2 (show 0 < -(K (n + 1) * (ph J K p n).2.1 + ((ph J K p n).2.2 - p * J n * (ph J K p n).2.1)) by grind)
    have h2 := alt_sq n
    generalize (K (n + 1) * (ph J K p n).2.1 + ((ph J K p n).2.2 - p * J n * (ph J K p n).2.1)) = W at *
    have : -1 * (alt n * (ph J K p n).2.1 * (alt n * W)) = (alt n * alt n) * ((ph J K p n).2.1 * -W) := by grind
    rw [this, h2]
    grind

/-! ### the quotient of a shape -/
/-- twists are told by w (k + 1) - w k, turns by w (k + 1) -/
noncomputable def kf (K w : Nat → Rat) : Nat → Rat
  | 0 => 0
  | k + 1 => kf K w k + K k * ((w (k + 1) - w k) * (w (k + 1) - w k))
noncomputable def jf (J u : Nat → Rat) : Nat → Rat
  | 0 => 0
  | k + 1 => jf J u k + J k * (u k * u k)
theorem sq_nn (x : Rat) : 0 ≤ x * x := by
  rcases Rat.le_total (a := 0) (b := x) with h | h
  · exact Rat.mul_nonneg h h
  · have := Rat.mul_nonneg (show 0 ≤ -x by grind) (show 0 ≤ -x by grind)
    grind
theorem sq_zero {x : Rat} (h : x * x = 0) : x = 0 := by grind
theorem prod_zero {a b : Rat} (ha : a ≠ 0) (h : a * b = 0) : b = 0 := by grind
theorem pic_id {K t u t' u' : Rat} (h1 : t ≠ 0) (h2 : t' ≠ 0) : K * (t' - t) / t * (u * u) + K * ((u' - u) * (u' - u)) = K * (t' - t) / t' * (u' * u') + K * (t * t') * ((u' / t' - u / t) * (u' / t' - u / t)) := by
  grind
/-- the rest of the form when the last turn's share is taken out -/
noncomputable def rest (J K : Nat → Rat) (p : Rat) (u w : Nat → Rat) (i : Nat) : Rat := kf K w (i + 1) - p * jf J u i - ya J K p i / xa J K p i * (u i * u i)
theorem rest_step {J K u w : Nat → Rat} {p : Rat} {i : Nat} (hw : ∀ k, k ≤ i + 1 → w (k + 1) = u k) (h1 : xa J K p i ≠ 0) (h2 : xa J K p (i + 1) ≠ 0) (hk : 0 < K (i + 1)) :
    rest J K p u w (i + 1) = rest J K p u w i + K (i + 1) * (xa J K p i * xa J K p (i + 1)) * ((u (i + 1) / xa J K p (i + 1) - u i / xa J K p i) * (u (i + 1) / xa J K p (i + 1) - u i / xa J K p i)) := by
  have e1 : kf K w (i + 1 + 1) = kf K w (i + 1) + K (i + 1) * ((u (i + 1) - u i) * (u (i + 1) - u i)) := by
    show kf K w (i + 1) + K (i + 1) * ((w (i + 1 + 1) - w (i + 1)) * (w (i + 1 + 1) - w (i + 1))) = _
    rw [hw (i + 1) (Nat.le_refl _), hw i (by omega)]
  have e2 : jf J u (i + 1) = jf J u i + J i * (u i * u i) := rfl
  have e3 := ya_succ J K p i
  have e4 := xa_succ J K p i
  have ety : ya J K p (i + 1) = K (i + 1) * (xa J K p (i + 1) - xa J K p i) := by
    rw [e4]
    have := mul_div' (Y := ya J K p (i + 1)) hk
    grind
  have e5 : ya J K p i = K (i + 1) * (xa J K p (i + 1) - xa J K p i) + p * J i * xa J K p i := by
    rw [← ety, e3]
    grind
  unfold rest
  rw [e1, e2, ety, e5]
  have id := pic_id (K := K (i + 1)) (u := u i) (u' := u (i + 1)) h1 h2
  have sp : (K (i + 1) * (xa J K p (i + 1) - xa J K p i) + p * J i * xa J K p i) / xa J K p i = K (i + 1) * (xa J K p (i + 1) - xa J K p i) / xa J K p i + p * J i := by
    grind
  rw [sp]
  grind
theorem rest_zero {J K u w : Nat → Rat} {p : Rat} (h0 : w 0 = 0) (h1 : w 1 = u 0) : rest J K p u w 0 = 0 := by
  unfold rest
  show 0 + K 0 * ((w 1 - w 0) * (w 1 - w 0)) - p * 0 - K 0 / 1 * (u 0 * u 0) = 0
  rw [h0, h1]
  grind
theorem rest_way {J K u w : Nat → Rat} {p s : Rat} {n : Nat} (W : Way J K p n s) (h0 : w 0 = 0) (hw : ∀ k, k ≤ n → w (k + 1) = u k) (hK : ∀ j, 0 < j → j ≤ n → 0 < K j) :
    ∀ i, i ≤ n → 0 ≤ s * rest J K p u w i ∧ (s * rest J K p u w i = 0 → u i = 0 → ∀ j, j ≤ i → u j = 0)
  | 0, hi => by
    rw [rest_zero h0 (hw 0 (by omega))]
    refine ⟨by grind, fun _ z j hj => ?_⟩
    obtain rfl : j = 0 := by omega
    exact z
  | i + 1, hi => by
    obtain ⟨a, b⟩ := rest_way W h0 hw hK i (by omega)
    have n1 := W.ne i (by omega)
    have n2 := W.ne (i + 1) hi
    have hk := hK (i + 1) (by omega) hi
    have nb := W.nb i (by omega)
    rw [rest_step (fun k hk => hw k (by omega)) n1 n2 hk]
    have sq := sq_nn (u (i + 1) / xa J K p (i + 1) - u i / xa J K p i)
    have mp := Rat.mul_pos hk nb
    have mm := Rat.mul_nonneg (Rat.le_of_lt mp) sq
    have e : s * (rest J K p u w i + K (i + 1) * (xa J K p i * xa J K p (i + 1)) * ((u (i + 1) / xa J K p (i + 1) - u i / xa J K p i) * (u (i + 1) / xa J K p (i + 1) - u i / xa J K p i))) = s * rest J K p u w i + K (i + 1) * (s * (xa J K p i * xa J K p (i + 1))) * ((u (i + 1) / xa J K p (i + 1) - u i / xa J K p i) * (u (i + 1) / xa J K p (i + 1) - u i / xa J K p i)) := by grind
    rw [e]
    refine ⟨by grind, fun z zu j hj => ?_⟩
    have z1 : s * rest J K p u w i = 0 := by grind
    have z2 : K (i + 1) * (s * (xa J K p i * xa J K p (i + 1))) * ((u (i + 1) / xa J K p (i + 1) - u i / xa J K p i) * (u (i + 1) / xa J K p (i + 1) - u i / xa J K p i)) = 0 := by grind
    have z3 := sq_zero (prod_zero (by grind) z2)
    rw [zu] at z3
    have z4 : u i = 0 := by
      generalize xa J K p (i + 1) = t' at *
      generalize xa J K p i = t at *
      grind
    by_cases q : j = i + 1
    · rw [q]
      exact zu
    · exact b z1 z4 j (by omega)
/-- the whole form -/
theorem form_way {J K u w : Nat → Rat} {p s : Rat} {n : Nat} (W : Way J K p n s) (h0 : w 0 = 0) (hw : ∀ k, k ≤ n → w (k + 1) = u k) (hl : w (n + 2) = 0) (hK : ∀ j, 0 < j → j ≤ n → 0 < K j)
    (hs : s * (kf K w (n + 2) - p * jf J u (n + 1)) ≤ 0) : ∀ j, j ≤ n → u j = 0 := by
  obtain ⟨a, b⟩ := rest_way W h0 hw hK n (Nat.le_refl _)
  have n1 := W.ne n (Nat.le_refl _)
  have e1 : kf K w (n + 2) - p * jf J u (n + 1) = rest J K p u w n + ea J K p n / xa J K p n * (u n * u n) := by
    unfold rest
    show kf K w (n + 1) + K (n + 1) * ((w (n + 2) - w (n + 1)) * (w (n + 2) - w (n + 1))) - p * (jf J u n + J n * (u n * u n)) = _
    rw [hl, hw n (Nat.le_refl _)]
    unfold ea
    rw [ya_succ]
    generalize xa J K p n = t at *
    grind
  have e2 : ea J K p n / xa J K p n * (u n * u n) = (xa J K p n * ea J K p n) * ((u n / xa J K p n) * (u n / xa J K p n)) := by
    generalize xa J K p n = t at *
    grind
  have sq := sq_nn (u n / xa J K p n)
  have mm := Rat.mul_nonneg (Rat.le_of_lt W.en) sq
  rw [e1, e2] at hs
  have e3 : s * (rest J K p u w n + (xa J K p n * ea J K p n) * ((u n / xa J K p n) * (u n / xa J K p n))) = s * rest J K p u w n + s * (xa J K p n * ea J K p n) * ((u n / xa J K p n) * (u n / xa J K p n)) := by grind
  rw [e3] at hs
  have z1 : s * rest J K p u w n = 0 := by grind
  have z2 : s * (xa J K p n * ea J K p n) * ((u n / xa J K p n) * (u n / xa J K p n)) = 0 := by grind
  have z3 := sq_zero (prod_zero (by have := W.en; grind) z2)
  have z4 : u n = 0 := by
    generalize xa J K p n = t at *
    grind
  exact b z1 z4
/-- the slowest swing is no faster than the quotient, the fastest one no slower -/
theorem quot_ok {J K u w : Nat → Rat} {p : Rat} {n : Nat} (h0 : w 0 = 0) (hw : ∀ k, k ≤ n → w (k + 1) = u k) (hl : w (n + 2) = 0) (hK : ∀ j, 0 < j → j ≤ n → 0 < K j) (hu : ∃ j, j ≤ n ∧ u j ≠ 0)
    (hp : kf K w (n + 2) = p * jf J u (n + 1)) : (cnt J K p n = 0 → ea J K p n = 0) ∧ cnt J K p n ≤ n := by
  obtain ⟨j, hj, hj0⟩ := hu
  constructor
  · intro hc
    rcases Classical.em (ea J K p n = 0) with e | e
    · exact e
    · exact absurd (form_way (way_up n hK hc e) h0 hw hl hK (by rw [hp]; grind) j hj) hj0
  · have := cnt_le J K p n
    rcases Nat.lt_or_ge (cnt J K p n) (n + 1) with q | q
    · omega
    · exact absurd (form_way (way_down (J := J) (K := K) (p := p) n (by omega)) h0 hw hl hK (by rw [hp]; grind) j hj) hj0
theorem kf_nn {K w : Nat → Rat} : ∀ k, (∀ j, j < k → 0 ≤ K j) → 0 ≤ kf K w k
  | 0, _ => Rat.le_refl
  | k + 1, h => by
    have a := kf_nn (w := w) k fun j hj => h j (by omega)
    have b := Rat.mul_nonneg (h k (by omega)) (sq_nn (w (k + 1) - w k))
    show 0 ≤ kf K w k + K k * _
    grind
theorem jf_pos {J u : Nat → Rat} : ∀ k, (∀ j, j < k → 0 < J j) → 0 ≤ jf J u k ∧ ((∃ j, j < k ∧ u j ≠ 0) → 0 < jf J u k)
  | 0, _ => ⟨Rat.le_refl, fun ⟨j, h, _⟩ => absurd h (by omega)⟩
  | k + 1, h => by
    obtain ⟨a, b⟩ := jf_pos (u := u) k fun j hj => h j (by omega)
    have q := sq_nn (u k)
    have c := Rat.mul_nonneg (Rat.le_of_lt (h k (by omega))) q
    refine ⟨?_, fun ⟨j, hj, hne⟩ => ?_⟩
    · show 0 ≤ jf J u k + J k * _
      grind
    · show 0 < jf J u k + J k * _
      by_cases e : j = k
      · subst e
        have nz : u j * u j ≠ 0 := fun z => hne (sq_zero z)
        have := Rat.mul_pos (h j (by omega)) (show 0 < u j * u j by grind)
        grind
      · have := b ⟨j, by omega, hne⟩
        grind

/-! ### the pivots of the table -/
noncomputable def pv (J K : Nat → Rat) (p : Rat) : Nat → Rat
  | 0 => K 0 + K 1 - p * J 0
  | i + 1 => K (i + 1) + K (i + 2) - p * J (i + 1) - K (i + 1) * K (i + 1) / pv J K p i
end Mx
/-! Counting in a list, a test by None, a name for an object. -/
namespace Mx
open PySem PySem.Spec PyProof.Rows L2 DL
noncomputable def SpMk2 (K : PySem.W.Frag) : Sp := fun vs H Q _ => ∃ (M : List Addr) (v u : V) (p : Fr), vs = [v, u] ∧ (∀ m ∈ M, ∃ o, H m = some o) ∧ Dn K (hid M H) v (frD p) ∧ FOk p ∧ ∀ a H', Same H H' → PlaceAt K (hid M H') a p → Q (.ref a) H'
section
variable {K : PySem.W.Frag} {B : Bs} {G : List Hp} {L : List Addr} {Γ : List Sl} {H H' : Hp} {σ : L2.St} {te ta : TE} {k : PyData → Prop} {u : TS} {P : PD}
theorem Env.putRaw (E : DL.Env K B G L H σ Γ) (i : Nat) (v : V) : DL.Env K B G L H (σ.set i (some v)) (Γ.set i (.raw v)) := by
  have g : ∀ (j : Nat) (s : Sl), (Γ.set i (.raw v))[j]? = some s → (j = i ∧ s = .raw v ∧ j < Γ.length) ∨ (j ≠ i ∧ Γ[j]? = some s) := fun j s hj => by
    by_cases e : j = i
    · subst e
      by_cases hl : j < Γ.length
      · rw [List.getElem?_set_self hl] at hj
        exact .inl ⟨rfl, (Option.some.inj hj).symm, hl⟩
      · rw [List.getElem?_eq_none (by rw [List.length_set]; omega)] at hj
        cases hj
    · rw [List.getElem?_set_ne (Ne.symm e)] at hj
      exact .inr ⟨e, hj⟩
  refine ⟨E.fr, E.ws, E.wm, E.lm, E.lo, by rw [List.length_set, List.length_set]; exact E.len, fun j s hj => ?_, E.gh, fun j l xs hj => ?_, fun j k l xs ys hj hk => ?_, fun j w hj => ?_⟩
  · rcases g j s hj with ⟨rfl, rfl, hl⟩ | ⟨e, hj⟩
    · show (σ.set j (some v))[j]?.join = some v
      rw [List.getElem?_set_self (by rw [E.len]; exact hl)]
      rfl
    · rw [List.getElem?_set_ne (Ne.symm e)]
      exact E.sl j s hj
  · rcases g j _ hj with ⟨_, e, _⟩ | ⟨_, hj⟩
    · cases e
    · exact E.ow j l xs hj
  · rcases g j _ hj with ⟨_, e, _⟩ | ⟨_, hj⟩
    · cases e
    · rcases g k _ hk with ⟨_, e, _⟩ | ⟨_, hk⟩
      · cases e
      · exact E.ou j k l xs ys hj hk
  · rcases g j _ hj with ⟨_, e, _⟩ | ⟨_, hj⟩
    · cases e
    · exact E.we j w hj
/-- a name for the object of a point that is a fraction -/
theorem st_seqMk {i : Nat} {E0 : XK} (h : EvP K B G L Γ ta fun d => ∃ p, d = frD p ∧ FOk p ∧ ∀ (a : Addr) (g : Hp), PlaceAt K g a p → StP K B (g :: G) L (Γ.set i (.raw (.ref a))) u P) :
    StP K B G L Γ (tSeq (tAsg (tCall (SpMk2 K) [] E0 (tCons ta (tCons tDNewK tNil))) (gName i)) u) P := fun σ H D E M =>
  h σ H _ E fun v d H1 g1 dn ⟨p, ed, fp, hk⟩ => by
    subst ed
    intro b hb
    have g2 := Go.new (o := .dK []) g1.env hb
    refine ⟨L ++ B.M, v, .ref b, p, rfl, g2.env.alive, dn.mono g2.sm, fp, fun a H3 s pl => ?_⟩
    have g3 := Go.ext g2.env s
    exact hk a _ pl _ _ D (Env.putRaw g3.env.gpush i (.ref a)) ⟨fun L2 Γ2 σ2 H2 q E2 => M.nx _ _ _ _ q E2.gpop, M.rt, fun L2 Γ2 σ2 H2 q E2 => M.bk _ _ _ _ q E2.gpop, fun L2 Γ2 σ2 H2 q E2 => M.ct _ _ _ _ q E2.gpop⟩
end
/-- what is told of a pace by the count and the end -/
noncomputable def cmpv (c : Nat) (e : Rat) (k : Nat) : Int := if k < c then -1 else if k = c ∧ e = 0 then 0 else 1
theorem rsgn_zero {x : Rat} : rsgn x = 0 ↔ x = 0 := by
  unfold rsgn
  split
  · exact ⟨(fun z => nomatch z), fun z => by grind⟩
  · split
    · exact ⟨(fun z => nomatch z), fun z => by grind⟩
    · exact ⟨fun _ => by grind, fun _ => rfl⟩
/-- the last sign is that of the end -/
theorem signs_end {dd ss : List Fr} {rows : List (List Int)} (R : Rows dd ss rows) (h : LN dd ss) {p : Fr} (hp : 0 < p.2) : (rows.map fun w => sgn (hor p.1 p.2 w))[dd.length]? = some (rsgn (ea (jv dd) (jv ss) (val p) (dd.length - 1))) := by
  have n1 := h.c1
  have hl := R.len
  have hls := h.len
  have hr : rows[dd.length]? = some rows[dd.length] := List.getElem?_eq_getElem (by omega)
  generalize rows[dd.length] = w at hr
  obtain ⟨u, S, ew, rl, lu, bu⟩ := R.row dd.length w hr
  have ld := pol_lead h (i := dd.length) (by omega)
  have sw : sgn (hor p.1 p.2 w) = rsgn (fev (pol dd ss dd.length) (val p) (dd.length + 1)) := by
    rw [ew, prim_sgn rl (ne_of_alt ld) hp, lu]
    rfl
  rw [List.getElem?_map, hr]
  show some (sgn (hor p.1 p.2 w)) = _
  rw [sw]
  unfold pol
  rw [if_neg (by omega), show dd.length + 1 = dd.length - 1 + 2 by omega, fev_en (dd.length - 1) (fun i hi => h.jpos (by omega)) (fun i a b => h.kpos a (by omega))]
/-- turns by places: 0 ahead of the first and behind the last -/
noncomputable def uv (us : List Int) (k : Nat) : Rat := ((us.getD k 0 : Int) : Rat)
noncomputable def wv (us : List Int) (k : Nat) : Rat := (((0 :: us).getD k 0 : Int) : Rat)
theorem wv_zero (us : List Int) : wv us 0 = 0 := rfl
theorem wv_succ (us : List Int) (k : Nat) : wv us (k + 1) = uv us k := rfl
theorem wv_end {us : List Int} : wv us (us.length + 1) = 0 := by
  show ((us.getD us.length 0 : Int) : Rat) = 0
  rw [List.getD_eq_getElem?_getD, List.getElem?_eq_none (Nat.le_refl _)]
  rfl
theorem whole_at (us : List Int) {k : Nat} (hk : k ≤ us.length + 1) : ((0 :: us) ++ [0])[k]? = some ((0 :: us).getD k 0) := by
  by_cases q : k < us.length + 1
  · rw [List.getElem?_append_left (by simpa using q), List.getD_eq_getElem?_getD, List.getElem?_eq_getElem (by simpa using q)]
    rfl
  · obtain rfl : k = us.length + 1 := by omega
    have e2 : (0 :: us).getD (us.length + 1) 0 = 0 := getD_out (u := 0 :: us) (Nat.le_refl _)
    rw [e2]
    have e1 := List.getElem?_append_right (l₁ := 0 :: us) (l₂ := [0]) (Nat.le_refl _)
    rw [Nat.sub_self] at e1
    exact e1
/-- turns that are small -/
structure Turns (us : List Int) (c : Nat) : Prop where
  len : us.length = c
  sm : ∀ x ∈ us, -3 ≤ x ∧ x ≤ 3
  ne : ∃ x ∈ us, x ≠ 0
theorem Turns.get {us : List Int} {c : Nat} (h : Turns us c) (k : Nat) : -3 ≤ us.getD k 0 ∧ us.getD k 0 ≤ 3 := by
  by_cases q : k < us.length
  · rw [List.getD_eq_getElem?_getD, List.getElem?_eq_getElem q]
    exact h.sm _ (List.getElem_mem q)
  · rw [getD_out (by omega)]
    decide
theorem Turns.getW {us : List Int} {c : Nat} (h : Turns us c) (k : Nat) : -3 ≤ (0 :: us).getD k 0 ∧ (0 :: us).getD k 0 ≤ 3 := by
  cases k with
  | zero => exact ⟨by show (-3 : Int) ≤ 0; decide, by show (0 : Int) ≤ 3; decide⟩
  | succ k => exact h.get k
theorem Turns.some {us : List Int} {c : Nat} (h : Turns us c) : ∃ j, j < c ∧ uv us j ≠ 0 := by
  obtain ⟨x, hx, ne⟩ := h.ne
  obtain ⟨j, hj, e⟩ := List.getElem_of_mem hx
  refine ⟨j, by rw [← h.len]; exact hj, ?_⟩
  unfold uv
  rw [List.getD_eq_getElem?_getD, List.getElem?_eq_getElem hj]
  show ((us[j] : Int) : Rat) ≠ 0
  rw [e]
  exact ratInt_ne ne
/-- rows of pivots -/
structure PivAt (dd ss : List Fr) (p : Fr) (i : Nat) (ps : List Fr) : Prop where
  len : ps.length = i
  ok : ∀ j, j < i → FOk (ps.getD j (0, 1)) ∧ (ps.getD j (0, 1)).1 ≠ 0 ∧ val (ps.getD j (0, 1)) = pv (jv dd) (jv ss) (val p) j
theorem PivAt.ne {dd ss : List Fr} {p : Fr} {i : Nat} {ps : List Fr} (h : PivAt dd ss p i ps) : ∀ j, j < i → pv (jv dd) (jv ss) (val p) j ≠ 0 := fun j hj => by
  obtain ⟨a, b, c⟩ := h.ok j hj
  rw [← c]
  intro z
  exact b ((val_pos a.1).2.2.mp z)
theorem PivAt.push {dd ss : List Fr} {p : Fr} {i : Nat} {ps : List Fr} (h : PivAt dd ss p i ps) {b : Fr} (f : FOk b) (n : b.1 ≠ 0) (v : val b = pv (jv dd) (jv ss) (val p) i) : PivAt dd ss p (i + 1) (ps ++ [b]) := by
  refine ⟨by simp [h.len], fun j hj => ?_⟩
  by_cases q : j < i
  · rw [List.getD_eq_getElem?_getD, List.getElem?_append_left (by rw [h.len]; exact q), ← List.getD_eq_getElem?_getD]
    exact h.ok j q
  · obtain rfl : j = i := by omega
    rw [List.getD_eq_getElem?_getD, List.getElem?_append_right (by rw [h.len]; omega), h.len, Nat.sub_self]
    exact ⟨f, n, v⟩
end Mx
namespace Mx
open PySem PySem.Spec PyProof.Rows L2 DL
theorem GS.neg {e : Nat} {v : Rat} (g : GS e v) : GS e (-v) := by
  obtain ⟨a, b, hb, e1, ha, hb2⟩ := g
  refine ⟨-a, b, hb, ?_, by rw [Int.natAbs_neg]; exact ha, hb2⟩
  rw [Rat.intCast_neg, ← e1]
  grind
theorem GS.sub {e f : Nat} {u v : Rat} (g : GS e u) (h : GS f v) : GS (e + f + 1) (u - v) := by
  have := g.add h.neg
  rw [show u - v = u + -v by grind]
  exact this
theorem val_int (n : Int) : val (n, 1) = (n : Rat) := by
  unfold val
  show (n : Rat) / 1 = n
  grind
theorem fok_zero : FOk (0, 1) := ⟨by decide, by decide⟩
section
variable {K : PySem.W.Frag} {B : Bs} {G : List Hp} {L : List Addr} {Γ : List Sl} {t : TS} {P : PD}
end
theorem cmp_inj {a b c d : List Fr} {k k' : Nat} {x y : Fr} (h : [lineD a b, .int (k : Int), frD x] = [lineD c d, .int (k' : Int), frD y]) : a = c ∧ b = d ∧ k = k' ∧ x = y := by
  simp only [List.cons.injEq, and_true, PyData.int.injEq] at h
  obtain ⟨h1, h2, h3⟩ := h
  obtain ⟨rfl, rfl⟩ := lineD_inj (a := a) (b := b) (c := c) (d := d) (by rw [h1])
  exact ⟨rfl, rfl, by omega, frD_inj h3⟩
theorem at_last {α : Type} (xs : List α) {n : Nat} (h : xs.length = n + 1) : atI xs (-1) = xs[n]? := by
  unfold atI ixN
  rw [if_neg (by decide)]
  rw [if_pos (by omega)]
  show xs[_]? = _
  congr 1
  omega
end Mx
namespace Mx
open PySem PySem.Spec PyProof.Rows L2 DL
/-! ### a disc held: the counts of both parts -/
/-! ### parts and changes of lines -/
theorem LN.ahead {dd ss : List Fr} (h : LN dd ss) {k : Nat} (h0 : 0 < k) (hk : k < dd.length) : LN (dd.take k) (ss.take (k + 1)) := by
  have hl := h.len
  have n8 := h.c8
  refine ⟨by rw [List.length_take]; omega, by rw [List.length_take]; omega, by rw [List.length_take, List.length_take]; omega, fun x hx => h.dok x (List.mem_of_mem_take hx), fun x hx => h.sok x (List.mem_of_mem_take hx), fun i x hi hic hx => ?_⟩
  rw [List.length_take] at hic
  rw [List.getElem?_take, if_pos (by omega)] at hx
  exact h.inn i x hi (by omega) hx
theorem LN.behind {dd ss : List Fr} (h : LN dd ss) {k : Nat} (hk : k + 1 < dd.length) : LN (dd.drop (k + 1)) (ss.drop (k + 1)) := by
  have hl := h.len
  have n8 := h.c8
  refine ⟨by rw [List.length_drop]; omega, by rw [List.length_drop]; omega, by rw [List.length_drop, List.length_drop]; omega, fun x hx => h.dok x (List.mem_of_mem_drop hx), fun x hx => h.sok x (List.mem_of_mem_drop hx), fun i x hi hic hx => ?_⟩
  rw [List.length_drop] at hic
  rw [List.getElem?_drop] at hx
  exact h.inn (k + 1 + i) x (by omega) (by omega) hx
/-! ### what can be shown -/
noncomputable def Sho (e c : Nat) (d : PyData) : Prop := d.showable = true ∧ d.hasDict = false ∧ d.depth ≤ e ∧ cost d ≤ c
theorem sho_int {i : Int} (h : i.natAbs < 2 ^ 1900) : Sho 0 1921 (.int i) := by
  refine ⟨?_, rfl, Nat.le_refl _, Nat.le_refl _⟩
  show decide (i.natAbs.log2 < 1920) = true
  have := lg h
  exact decide_eq_true (by omega)
theorem sho_all {e c : Nat} : ∀ {ds : List PyData}, (∀ d ∈ ds, Sho e c d) → PyData.showableAll ds = true ∧ PyData.hasDictAll ds = false ∧ PyData.depthAll ds ≤ e ∧ costAll ds ≤ (c + 2) * ds.length
  | [], _ => by simp [PyData.showableAll, PyData.hasDictAll, PyData.depthAll, costAll]
  | d :: ds, h => by
    obtain ⟨a, b, c', d'⟩ := sho_all (ds := ds) fun x hx => h x (List.mem_cons_of_mem _ hx)
    obtain ⟨p, q, r, s⟩ := h d (List.mem_cons_self ..)
    simp only [PyData.showableAll, PyData.hasDictAll, PyData.depthAll, costAll, a, b, p, q, List.length_cons]
    refine ⟨rfl, rfl, by omega, ?_⟩
    rw [Nat.mul_add]
    omega
theorem sho_tup {e c : Nat} {ds : List PyData} (h : ∀ d ∈ ds, Sho e c d) : Sho (e + 1) ((c + 2) * ds.length + 3) (.tuple ds) := by
  obtain ⟨a, b, c', d'⟩ := sho_all h
  simp only [Sho, PyData.showable, PyData.hasDict, PyData.depth, cost]
  exact ⟨a, b, by omega, by omega⟩
theorem sho_lst {e c : Nat} {ds : List PyData} (h : ∀ d ∈ ds, Sho e c d) : Sho (e + 1) ((c + 2) * ds.length + 3) (.list ds) := by
  obtain ⟨a, b, c', d'⟩ := sho_all h
  simp only [Sho, PyData.showable, PyData.hasDict, PyData.depth, cost]
  exact ⟨a, b, by omega, by omega⟩
theorem sho_fr {x : Fr} (h1 : x.1.natAbs < 2 ^ 1900) (h2 : x.2.natAbs < 2 ^ 1900) : Sho 1 3849 (frD x) := by
  refine sho_tup (e := 0) (c := 1921) (ds := [.int x.1, .int x.2]) fun d hd => ?_
  simp only [List.mem_cons, List.not_mem_nil, or_false] at hd
  rcases hd with rfl | rfl
  · exact sho_int h1
  · exact sho_int h2
/-! ### slices, sums, being in a list -/
section
variable {K : PySem.W.Frag} {B : Bs} {G : List Hp} {L : List Addr} {Γ : List Sl} {k : PyData → Prop}
theorem cok_show {d : PyData} {e c : Nat} (h : Sho e c d) (hb : isBox d = true) (he : e < 64) (hc : c ≤ 1000000) (hk : k (.str d.shown)) : COk K B G L Γ (rReprD K) [d] k := cok_repr hb h.1 h.2.1 (Nat.lt_of_le_of_lt h.2.2.1 he) (sz_ok (Nat.le_trans h.2.2.2 hc)) hk
end
end Mx
/-! Slices of rows of fractions; one element otherwise. -/
namespace Mx
open PySem PySem.Spec PyProof.Rows L2 DL
section
variable {K : PySem.W.Frag} {B : Bs} {G : List Hp} {L : List Addr} {Γ : List Sl} {te ta : TE} {k : PyData → Prop}
end
end Mx
/-! Counts of lines beside one another: heavier discs and softer shafts have no fewer slower swings. -/
namespace Mx
/-! ### one number otherwise: one more or less at most -/
end Mx
/-! Lines, slots and amounts of the later laws. -/
namespace Mx
open PySem PySem.Spec PyProof.Rows L2 DL
noncomputable def Am0 (x : Fr) : Prop := FOk x ∧ 0 ≤ x.1 ∧ x.1 < 64 ∧ x.2 < 64
noncomputable def Am (x : Fr) : Prop := FOk x ∧ 0 < x.1 ∧ x.1 < 64 ∧ x.2 < 64
theorem Am.to0 {x : Fr} (h : Am x) : Am0 x := ⟨h.1, by have := h.2.1; omega, h.2.2⟩
theorem am00 : Am0 (0, 1) := ⟨fok_zero, by decide, by decide, by decide⟩
structure LineS (dd ss : List Fr) : Prop where
  ln : LN dd ss
  sd : Small dd
  sq : Small ss
  c5 : dd.length ≤ 5
/-- sizes of a row with any numbers of a line -/
theorem gs_jw {r : List Fr} {i : Nat} {x : Fr} (hx : r[i]? = some x) (f : FOk x) (h0 : 0 ≤ x.1) (h1 : x.1 < 18446744073709551616) (h2 : x.2 < 18446744073709551616) : GS 64 (jv r i) := by
  have f1 := f.1
  unfold jv
  rw [List.getD_eq_getElem?_getD, hx]
  exact GS.of f.1 (by show x.1.natAbs < 2 ^ 64; omega) (by show x.2.natAbs < 2 ^ 64; omega)
/-- a row of angles, and the end -/
structure AngR (dd ss : List Fr) (p : Fr) (n : Nat) (rs : List Fr) : Prop where
  len : rs.length = n
  ok : ∀ x ∈ rs, FOk x
  inn : ∀ j, j < n → val (rs.getD j (0, 1)) = xa (jv dd) (jv ss) (val p) j
theorem AngR.push {dd ss : List Fr} {p : Fr} {n : Nat} {rs : List Fr} (h : AngR dd ss p n rs) {b : Fr} (hb : FOk b) (hv : val b = xa (jv dd) (jv ss) (val p) n) : AngR dd ss p (n + 1) (rs ++ [b]) := by
  refine ⟨by simp [h.len], fun x hx => ?_, fun j hj => ?_⟩
  · rcases List.mem_append.mp hx with q | q
    · exact h.ok x q
    · rw [List.mem_singleton.mp q]
      exact hb
  · by_cases q : j < n
    · rw [List.getD_eq_getElem?_getD, List.getElem?_append_left (by rw [h.len]; exact q), ← List.getD_eq_getElem?_getD]
      exact h.inn j q
    · obtain rfl : j = n := by omega
      rw [List.getD_eq_getElem?_getD, List.getElem?_append_right (by rw [h.len]; omega), h.len, Nat.sub_self]
      exact hv
theorem AngR.get {dd ss : List Fr} {p : Fr} {n : Nat} {rs : List Fr} (h : AngR dd ss p n rs) {j : Nat} (hj : j < n) : rs[j]? = some (rs.getD j (0, 1)) ∧ FOk (rs.getD j (0, 1)) := by
  have e : rs[j]? = some (rs.getD j (0, 1)) := by
    rw [List.getD_eq_getElem?_getD, List.getElem?_eq_getElem (by rw [h.len]; exact hj)]
    rfl
  exact ⟨e, h.ok _ (List.mem_of_getElem? e)⟩
end Mx
namespace Mx
open PySem PySem.Spec PyProof.Rows L2 DL
/-! ### the product of two shapes -/
noncomputable def tf (K w v : Nat → Rat) : Nat → Rat
  | 0 => 0
  | k + 1 => tf K w v k + K k * ((w (k + 1) - w k) * (v (k + 1) - v k))
noncomputable def sf (J u v : Nat → Rat) : Nat → Rat
  | 0 => 0
  | k + 1 => sf J u v k + J k * (u k * v k)
theorem tf_self (K w : Nat → Rat) : ∀ k, tf K w w k = kf K w k
  | 0 => rfl
  | k + 1 => by
    show tf K w w k + _ = kf K w k + _
    rw [tf_self K w k]
theorem sf_self (J u : Nat → Rat) : ∀ k, sf J u u k = jf J u k
  | 0 => rfl
  | k + 1 => by
    show sf J u u k + _ = jf J u k + _
    rw [sf_self J u k]
theorem tf_comm (K w v : Nat → Rat) : ∀ k, tf K w v k = tf K v w k
  | 0 => rfl
  | k + 1 => by
    show tf K w v k + _ = tf K v w k + _
    rw [tf_comm K w v k]
    grind
theorem sf_comm (J u v : Nat → Rat) : ∀ k, sf J u v k = sf J v u k
  | 0 => rfl
  | k + 1 => by
    show sf J u v k + _ = sf J v u k + _
    rw [sf_comm J u v k]
    grind
theorem tf_mix {K w v x : Nat → Rat} {b : Rat} : ∀ k, (∀ j, j ≤ k → x j = w j + b * v j) → tf K w x k = tf K w w k + b * tf K w v k
  | 0, _ => by
    show (0 : Rat) = 0 + b * 0
    grind
  | k + 1, h => by
    show tf K w x k + _ = tf K w w k + _ + b * (tf K w v k + _)
    rw [tf_mix k fun j hj => h j (by omega), h (k + 1) (by omega), h k (by omega)]
    grind
theorem sf_mix {J u v x : Nat → Rat} {b : Rat} : ∀ k, (∀ j, j < k → x j = u j + b * v j) → sf J u x k = sf J u u k + b * sf J u v k
  | 0, _ => by
    show (0 : Rat) = 0 + b * 0
    grind
  | k + 1, h => by
    show sf J u x k + _ = sf J u u k + _ + b * (sf J u v k + _)
    rw [sf_mix k fun j hj => h j (by omega), h k (by omega)]
    grind
theorem tf_zero {K w v : Nat → Rat} : ∀ k, (∀ j, j ≤ k → w j = 0) → tf K w v k = 0
  | 0, _ => rfl
  | k + 1, h => by
    show tf K w v k + _ = 0
    rw [tf_zero k fun j hj => h j (by omega), h (k + 1) (by omega), h k (by omega)]
    grind
theorem sf_zero {J u v : Nat → Rat} : ∀ k, (∀ j, j < k → u j = 0) → sf J u v k = 0
  | 0, _ => rfl
  | k + 1, h => by
    show sf J u v k + _ = 0
    rw [sf_zero k fun j hj => h j (by omega), h k (by omega)]
    grind
noncomputable def prd (dd ss : List Fr) (p : Rat) (us vs : List Int) : Rat := tf (jv ss) (wv us) (wv vs) (dd.length + 1) - p * sf (jv dd) (uv us) (uv vs) dd.length
theorem prd_comm (dd ss : List Fr) (p : Rat) (us vs : List Int) : prd dd ss p us vs = prd dd ss p vs us := by
  unfold prd
  rw [tf_comm, sf_comm]
theorem prd_self (dd ss : List Fr) (p : Rat) (us : List Int) : prd dd ss p us us = kf (jv ss) (wv us) (dd.length + 1) - p * jf (jv dd) (uv us) dd.length := by
  unfold prd
  rw [tf_self, sf_self]
/-- turns that are not great -/
structure Trn (us : List Int) (c : Nat) (b : Int) : Prop where
  len : us.length = c
  sm : ∀ x ∈ us, -b ≤ x ∧ x ≤ b
  nn : 0 ≤ b
theorem Trn.get {us : List Int} {c : Nat} {b : Int} (h : Trn us c b) (k : Nat) : -b ≤ us.getD k 0 ∧ us.getD k 0 ≤ b := by
  by_cases q : k < us.length
  · rw [List.getD_eq_getElem?_getD, List.getElem?_eq_getElem q]
    exact h.sm _ (List.getElem_mem q)
  · rw [getD_out (by omega)]
    have := h.nn
    omega
theorem Trn.getW {us : List Int} {c : Nat} {b : Int} (h : Trn us c b) (k : Nat) : -b ≤ (0 :: us).getD k 0 ∧ (0 :: us).getD k 0 ≤ b := by
  cases k with
  | zero =>
    have := h.nn
    exact ⟨by show -b ≤ 0; omega, by show 0 ≤ b; omega⟩
  | succ k => exact h.get k
theorem Trn.up {us : List Int} {c : Nat} {b e : Int} (h : Trn us c b) (he : b ≤ e) : Trn us c e := ⟨h.len, fun x hx => by have := h.sm x hx; omega, by have := h.nn; omega⟩
theorem pr_small {x y : Int} (hx : -80 ≤ x ∧ x ≤ 80) (hy : -80 ≤ y ∧ y ≤ 80) : (x * y).natAbs < 2 ^ 13 := by
  rw [Int.natAbs_mul]
  have h1 : x.natAbs ≤ 80 := by omega
  have h2 : y.natAbs ≤ 80 := by omega
  have := Nat.mul_le_mul h1 h2
  omega
theorem gs_pr {x y : Int} (hx : -80 ≤ x ∧ x ≤ 80) (hy : -80 ≤ y ∧ y ≤ 80) : GS 13 (((x : Int) : Rat) * ((y : Int) : Rat)) := by
  refine ⟨x * y, 1, by decide, ?_, pr_small hx hy, by decide⟩
  rw [Rat.intCast_mul]
  show _ * 1 = _
  grind
theorem tf_size {dd ss : List Fr} {us vs : List Int} (h : LN dd ss) (sq : Small ss) (T : Trn us dd.length 40) (U : Trn vs dd.length 40) : ∀ k, k ≤ dd.length + 1 → GS (1 + 20 * k) (tf (jv ss) (wv us) (wv vs) k)
  | 0, _ => ⟨0, 1, by decide, (by show (0 : Rat) * 1 = 0; decide +kernel), by decide, by decide⟩
  | k + 1, hk => by
    have g := tf_size h sq T U k (by omega)
    obtain ⟨C, hC, eC, c, d, _⟩ := h.s_get (i := k) (by rw [h.len]; omega)
    have e : ∀ us : List Int, wv us (k + 1) - wv us k = (((0 :: us).getD (k + 1) 0 - (0 :: us).getD k 0 : Int) : Rat) := fun us => by
      rw [Rat.intCast_sub]
      rfl
    have t1 := T.getW (k + 1)
    have t2 := T.getW k
    have u1 := U.getW (k + 1)
    have u2 := U.getW k
    have g2 := (gs_j hC sq c d).mul (gs_pr (x := (0 :: us).getD (k + 1) 0 - (0 :: us).getD k 0) (y := (0 :: vs).getD (k + 1) 0 - (0 :: vs).getD k 0) (by omega) (by omega))
    rw [← e, ← e] at g2
    exact (g.add g2).up (by omega)
theorem sf_size {dd ss : List Fr} {us vs : List Int} (h : LN dd ss) (sd : Small dd) (T : Trn us dd.length 40) (U : Trn vs dd.length 40) : ∀ k, k ≤ dd.length → GS (1 + 20 * k) (sf (jv dd) (uv us) (uv vs) k)
  | 0, _ => ⟨0, 1, by decide, (by show (0 : Rat) * 1 = 0; decide +kernel), by decide, by decide⟩
  | k + 1, hk => by
    have g := sf_size h sd T U k (by omega)
    obtain ⟨C, hC, eC, c, d, _⟩ := h.d_get (i := k) (by omega)
    have t1 := T.get k
    have u1 := U.get k
    have g2 := (gs_j hC sd c (by omega)).mul (gs_pr (x := us.getD k 0) (y := vs.getD k 0) (by omega) (by omega))
    exact (g.add g2).up (by omega)
theorem prd_size {dd ss : List Fr} {us vs : List Int} {p : Rat} {e : Nat} (h : LN dd ss) (sd : Small dd) (sq : Small ss) (T : Trn us dd.length 40) (U : Trn vs dd.length 40) (g : GS e p) : GS (e + 400) (prd dd ss p us vs) := by
  have n8 := h.c8
  have a := tf_size h sq T U (dd.length + 1) (Nat.le_refl _)
  have b := sf_size h sd T U dd.length (Nat.le_refl _)
  exact (a.sub (g.mul b)).up (by omega)
/-- one shape and so much of another one -/
noncomputable def mixd (c : Nat) (us vs : List Int) (b : Int) : List Int := (List.range c).map fun i => us.getD i 0 + b * vs.getD i 0
theorem mixd_len (c : Nat) (us vs : List Int) (b : Int) : (mixd c us vs b).length = c := by
  unfold mixd
  rw [List.length_map, List.length_range]
theorem mixd_get {c : Nat} {us vs : List Int} {b : Int} {k : Nat} (hk : k < c) : (mixd c us vs b).getD k 0 = us.getD k 0 + b * vs.getD k 0 := by
  unfold mixd
  rw [List.getD_eq_getElem?_getD, List.getElem?_map, List.getElem?_range hk]
  rfl
theorem mixd_uv {c : Nat} {us vs : List Int} {b : Int} (hu : us.length = c) (hv : vs.length = c) (k : Nat) : uv (mixd c us vs b) k = uv us k + (b : Rat) * uv vs k := by
  unfold uv
  by_cases q : k < c
  · rw [mixd_get q, Rat.intCast_add, Rat.intCast_mul]
  · rw [getD_out (by rw [mixd_len]; omega), getD_out (by omega), getD_out (by omega)]
    show (0 : Rat) = 0 + _ * 0
    grind
theorem mixd_wv {c : Nat} {us vs : List Int} {b : Int} (hu : us.length = c) (hv : vs.length = c) (k : Nat) : wv (mixd c us vs b) k = wv us k + (b : Rat) * wv vs k := by
  cases k with
  | zero =>
    rw [wv_zero, wv_zero, wv_zero]
    grind
  | succ k =>
    rw [wv_succ, wv_succ, wv_succ]
    exact mixd_uv hu hv k
theorem prd_mix {dd ss : List Fr} {us vs : List Int} {p : Rat} {b : Int} (hu : us.length = dd.length) (hv : vs.length = dd.length) : prd dd ss p us (mixd dd.length us vs b) = prd dd ss p us us + prd dd ss p us vs * (b : Rat) := by
  unfold prd
  rw [tf_mix (w := wv us) (v := wv vs) (b := (b : Rat)) _ fun j _ => mixd_wv hu hv j, sf_mix (u := uv us) (v := uv vs) (b := (b : Rat)) _ fun j _ => mixd_uv hu hv j]
  grind
theorem mixd_trn {c : Nat} {us vs : List Int} {b : Int} (T : Trn us c 40) (U : Trn vs c 40) (hb : -4 ≤ b ∧ b ≤ 4) : Trn (mixd c us vs b) c 200 := by
  refine ⟨mixd_len .., fun x hx => ?_, by decide⟩
  obtain ⟨i, hi, rfl⟩ := List.mem_map.mp hx
  have t := T.get i
  have u := U.get i
  generalize us.getD i 0 = s at *
  generalize vs.getD i 0 = r at *
  have hm : (b * r).natAbs ≤ 4 * 40 := by
    rw [Int.natAbs_mul]
    exact Nat.mul_le_mul (by omega) (by omega)
  omega
theorem prd_nil {dd ss : List Fr} {us : List Int} {p : Rat} (h : ∀ x ∈ us, x = 0) : prd dd ss p us us = 0 := by
  have u0 : ∀ k, us.getD k 0 = 0 := fun k => by
    by_cases q : k < us.length
    · rw [List.getD_eq_getElem?_getD, List.getElem?_eq_getElem q]
      exact h _ (List.getElem_mem q)
    · rw [getD_out (by omega)]
  have eu : ∀ k, uv us k = 0 := fun k => by
    unfold uv
    rw [u0]
    rfl
  have ew : ∀ k, wv us k = 0 := fun k => by
    cases k with
    | zero => rfl
    | succ k => rw [wv_succ]; exact eu k
  unfold prd
  rw [tf_zero _ fun j _ => ew j, sf_zero _ fun j _ => eu j]
  grind
theorem some_turn {us : List Int} (h : ¬ ∀ x ∈ us, x = 0) : ∃ j, j < us.length ∧ uv us j ≠ 0 := by
  rcases Classical.em (∃ x ∈ us, x ≠ 0) with ⟨x, hx, ne⟩ | q
  · obtain ⟨j, hj, e⟩ := List.getElem_of_mem hx
    refine ⟨j, hj, ?_⟩
    unfold uv
    rw [List.getD_eq_getElem?_getD, List.getElem?_eq_getElem hj]
    show ((us[j] : Int) : Rat) ≠ 0
    rw [e]
    exact ratInt_ne ne
  · exact absurd (fun x hx => Classical.byContradiction fun z => q ⟨x, hx, z⟩) h
/-- what the quotient of a shape is -/
noncomputable def quo (dd ss : List Fr) (us : List Int) : Rat := kf (jv ss) (wv us) (dd.length + 1) / jf (jv dd) (uv us) dd.length
theorem quo_facts {dd ss : List Fr} {us : List Int} (h : LN dd ss) (hu : us.length = dd.length) (hs : ∃ j, j < us.length ∧ uv us j ≠ 0) :
    0 < jf (jv dd) (uv us) dd.length ∧ 0 ≤ quo dd ss us ∧ prd dd ss (quo dd ss us) us us = 0 ∧ prd dd ss (quo dd ss us + 1 / 1000) us us < 0 ∧
    (cnt (jv dd) (jv ss) (quo dd ss us) (dd.length - 1) = 0 → ea (jv dd) (jv ss) (quo dd ss us) (dd.length - 1) = 0) ∧ cnt (jv dd) (jv ss) (quo dd ss us) (dd.length - 1) ≤ dd.length - 1 := by
  have n1 := h.c1
  have hl := h.len
  have jp := (jf_pos (J := jv dd) (u := uv us) dd.length (fun j hj => h.jpos hj)).2 (by rw [← hu]; exact hs)
  have kn := kf_nn (K := jv ss) (w := wv us) (dd.length + 1) (fun j hj => h.knn (by omega))
  have ne : jf (jv dd) (uv us) dd.length ≠ 0 := by grind
  have e : kf (jv ss) (wv us) (dd.length + 1) = quo dd ss us * jf (jv dd) (uv us) dd.length := by
    unfold quo
    generalize kf (jv ss) (wv us) (dd.length + 1) = a
    generalize jf (jv dd) (uv us) dd.length = b at ne
    grind
  have q := quot_ok (J := jv dd) (K := jv ss) (u := uv us) (w := wv us) (p := quo dd ss us) (n := dd.length - 1) (wv_zero us) (fun k _ => wv_succ us k)
      (by rw [show dd.length - 1 + 2 = dd.length + 1 by omega]; have := wv_end (us := us); rw [hu] at this; exact this) (fun j a b => h.kpos a (by omega))
      (by obtain ⟨j, a, b⟩ := hs; exact ⟨j, by omega, b⟩) (by rw [show dd.length - 1 + 2 = dd.length + 1 by omega, show dd.length - 1 + 1 = dd.length by omega]; exact e)
  refine ⟨jp, ?_, ?_, ?_, q.1, q.2⟩
  · unfold quo
    rw [Rat.div_def]
    exact Rat.mul_nonneg kn (Rat.le_of_lt (Rat.inv_pos.mpr jp))
  · rw [prd_self, e]
    grind
  · rw [prd_self, e]
    generalize jf (jv dd) (uv us) dd.length = b at jp
    have := Rat.mul_pos (show (0 : Rat) < 1 / 1000 by decide +kernel) jp
    grind
theorem prd_top (dd ss : List Fr) (us : List Int) : prd dd ss 0 us us / (prd dd ss 0 us us - prd dd ss 1 us us) = quo dd ss us := by
  rw [prd_self, prd_self]
  unfold quo
  congr 1
  · grind
  · grind
theorem prd_gap (dd ss : List Fr) (us : List Int) : prd dd ss 0 us us - prd dd ss 1 us us = jf (jv dd) (uv us) dd.length := by
  rw [prd_self, prd_self]
  grind
/-! ### shapes as data -/
noncomputable def tupI (us : List Int) : PyData := .tuple (us.map .int)
theorem tupI_inj {u v : List Int} (h : tupI u = tupI v) : u = v := by
  unfold tupI at h
  simp only [PyData.tuple.injEq] at h
  exact map_int_inj h
theorem lineI_inj {a b c d : List Fr} {u v : List Int} (h : [lineD a b, tupI u] = [lineD c d, tupI v]) : a = c ∧ b = d ∧ u = v := by
  simp only [List.cons.injEq, and_true] at h
  obtain ⟨h1, h2⟩ := h
  obtain ⟨rfl, rfl⟩ := lineD_inj (a := a) (b := b) (c := c) (d := d) (by rw [h1])
  exact ⟨rfl, rfl, tupI_inj h2⟩
theorem lineII_inj {a b c d : List Fr} {p q : Fr} {u v x y : List Int} (h : [lineD a b, frD p, tupI u, tupI x] = [lineD c d, frD q, tupI v, tupI y]) : a = c ∧ b = d ∧ p = q ∧ u = v ∧ x = y := by
  simp only [List.cons.injEq, and_true] at h
  obtain ⟨h1, h2, h3, h4⟩ := h
  obtain ⟨rfl, rfl⟩ := lineD_inj (a := a) (b := b) (c := c) (d := d) (by rw [h1])
  exact ⟨rfl, rfl, frD_inj h2, tupI_inj h3, tupI_inj h4⟩
theorem lay_ints : ∀ r : List Int, PyData.canLayAll0 (r.map .int) = true ∧ PyData.depthAll (r.map .int) ≤ 1 ∧ PyData.hasDictAll (r.map .int) = false
  | [] => by simp [PyData.canLayAll0, PyData.depthAll, PyData.hasDictAll]
  | x :: r => by
    obtain ⟨a, b, c⟩ := lay_ints r
    simp [PyData.canLayAll0, PyData.depthAll, PyData.hasDictAll, PyData.canLay0, PyData.depth, PyData.hasDict, a, c] at b ⊢
    omega
theorem ints_shaped (r : List Int) : SeqAt.shaped (tupI r) = true ∧ (tupI r).hasDict = false := by
  obtain ⟨a, b, c⟩ := lay_ints r
  refine ⟨?_, by simpa [tupI, PyData.hasDict] using c⟩
  unfold SeqAt.shaped tupI
  simp [PyData.canLay0, PyData.depth, a]
  omega
theorem eqv_noughts : ∀ us : List Int, PyData.eqvAll (us.map .int) ((List.replicate us.length (0 : Int)).map .int) = true ↔ ∀ x ∈ us, x = 0
  | [] => by simp [PyData.eqvAll]
  | x :: r => by
    have := eqv_noughts r
    simp only [List.length_cons, List.replicate_succ, List.map_cons, PyData.eqvAll, PyData.eqv, Bool.and_eq_true, beq_iff_eq, this, List.mem_cons, forall_eq_or_imp]
theorem quo_size {dd ss : List Fr} {us : List Int} (h : LN dd ss) (sd : Small dd) (sq : Small ss) (T : Trn us dd.length 40) (jp : 0 < jf (jv dd) (uv us) dd.length) : GS 350 (quo dd ss us) := by
  have n8 := h.c8
  have a := tf_size h sq T T (dd.length + 1) (Nat.le_refl _)
  have b := sf_size h sd T T dd.length (Nat.le_refl _)
  rw [tf_self] at a
  rw [sf_self] at b
  exact (a.div b jp).up (by omega)
theorem gs_00 : GS 1 0 := ⟨0, 1, by decide, (by show (0 : Rat) * 1 = 0; decide +kernel), by decide, by decide⟩
theorem gs_11 : GS 1 1 := ⟨1, 1, by decide, (by show (1 : Rat) * 1 = 1; decide +kernel), by decide, by decide⟩
theorem am0_gs {p : Fr} (h : Am0 p) : GS 6 (val p) := by
  obtain ⟨a, b, c, d⟩ := h
  have := a.1
  exact GS.of a.1 (by omega) (by omega)
theorem am11 : Am0 (1, 1) := ⟨⟨by decide, by decide⟩, by decide, by decide, by decide⟩
theorem val_oneF : val (1, 1) = 1 := by
  unfold val
  decide +kernel
/-- the twists of a shape -/
noncomputable def twl (us : List Int) (k : Nat) : List Int := (List.range k).map fun i => (0 :: us).getD (i + 1) 0 - (0 :: us).getD i 0
theorem twl_len (us : List Int) (k : Nat) : (twl us k).length = k := by
  unfold twl
  rw [List.length_map, List.length_range]
theorem twl_succ (us : List Int) (k : Nat) : twl us (k + 1) = twl us k ++ [(0 :: us).getD (k + 1) 0 - (0 :: us).getD k 0] := by
  unfold twl
  rw [List.range_succ, List.map_append]
  rfl
theorem twl_get {us : List Int} {k i : Nat} (hi : i < k) : (twl us k)[i]? = some ((0 :: us).getD (i + 1) 0 - (0 :: us).getD i 0) := by
  unfold twl
  rw [List.getElem?_map, List.getElem?_range hi]
  rfl
theorem mixd_succ {us vs : List Int} {b : Int} (k : Nat) : mixd (k + 1) us vs b = mixd k us vs b ++ [us.getD k 0 + b * vs.getD k 0] := by
  unfold mixd
  rw [List.range_succ, List.map_append]
  rfl
end Mx
namespace Mx
open PySem PySem.Spec PyProof.Rows L2 DL
end Mx
set_option maxRecDepth 100000
set_option maxHeartbeats 4000000
theorem PySem.W.Fast.te2163177863247926317 : True := trivial
namespace Law
open PySem PySem.Spec PyProof.Rows L2 DL Mx
local macro_rules | `(tactic| walk_at "d") => `(tactic| first
  | with_reducible refine st_seq ?_ | with_reducible refine st_if ?_ | with_reducible refine st_ret ?_ | with_reducible refine st_next ?_
  | with_reducible refine et_or ?_ | with_reducible refine et_and ?_ | with_reducible refine et_not ?_ | with_reducible refine et_test ?_ | with_reducible refine et_B ?_
  | with_reducible refine ev_int ?_ | with_reducible refine ev_bl ?_ | with_reducible refine ev_non ?_ | with_reducible refine ev_str ?_
  | with_reducible refine ev_isiInt ?_ | with_reducible refine ev_isiBool ?_ | with_reducible refine ev_isiTup ?_
  | with_reducible refine ev_andV ?_ | with_reducible refine ev_orV ?_ | with_reducible refine ev_notV ?_ | with_reducible refine ev_if ?_ | with_reducible refine ev_chain ?_ | with_reducible refine ev_tup ?_ | with_reducible refine ev_lst ?_ | refine sz_and (by simp) ?_
  | with_reducible refine ev_op ?_ | with_reducible refine ev_un ?_ | with_reducible refine ev_sl ?_ | refine ev_lenOwn rfl ?_ | with_reducible refine ev_new (en_listQ ?_) | with_reducible refine ev_cb ?_ | with_reducible refine ev_dictD ?_ | with_reducible refine ev_isN ?_
  | with_reducible refine ea_cons ?_ | with_reducible refine ea_nil ?_ | with_reducible refine eo_no ?_ | with_reducible refine eo_some ?_
  | with_reducible refine co_lenT ?_ | with_reducible refine co_lenL ?_ | with_reducible refine co_abs ?_ | with_reducible refine co_int ?_ | with_reducible refine cok_gcd ?_
  | with_reducible refine rok_b0 ?_ | with_reducible refine rok_i0 ?_ | with_reducible refine rok_eqI ?_ | with_reducible refine rok_neI ?_ | with_reducible refine ro_add ?_ | with_reducible refine rok_notB ?_ | with_reducible refine rok_isB ?_
  | with_reducible refine ro_mulL (by decide) (by decide) ?_ | with_reducible refine so_tup ?_ | with_reducible refine so_lst ?_ | with_reducible refine uok_neg ?_
  | with_reducible refine tg_cons ?_ | with_reducible refine tg_nil ?_
  | refine ev_var rfl ?_
  | with_reducible refine ⟨_, rfl, ?_⟩
  | with_reducible refine ⟨_, Or.inl rfl, ?_⟩)
local macro_rules | `(tactic| walk_at "dd") => `(tactic| repeat walk_at "d")
local macro_rules | `(tactic| walk_at "d") => `(tactic| first | with_reducible refine ixf0 ?_ | with_reducible refine ixf1 ?_)
noncomputable def topS (i : Nat) : Stmt := PySem.Challenge.pw_shaftshakes_k64_whole_products_and_quoti.main.body.getD i (.Pass ⟨0, 0, 0, 0⟩)
noncomputable abbrev s_is_whole : Stmt := topS 3
noncomputable abbrev N_is_whole : List Str := ["value"]
noncomputable abbrev p_is_whole : List Str := ["value"]
theorem sc_is_whole : FnScope N_is_whole p_is_whole (defScope s_is_whole) := ⟨rfl, rfl, rfl, by decide +kernel, rfl, by decide +kernel, by decide +kernel⟩
noncomputable abbrev s_is_fraction : Stmt := topS 4
noncomputable abbrev N_is_fraction : List Str := ["value", "top", "bottom"]
noncomputable abbrev p_is_fraction : List Str := ["value"]
theorem sc_is_fraction : FnScope N_is_fraction p_is_fraction (defScope s_is_fraction) := ⟨rfl, rfl, rfl, by decide +kernel, rfl, by decide +kernel, by decide +kernel⟩
noncomputable abbrev s_lowest : Stmt := topS 5
noncomputable abbrev N_lowest : List Str := ["top", "bottom", "shared"]
noncomputable abbrev p_lowest : List Str := ["top", "bottom"]
theorem sc_lowest : FnScope N_lowest p_lowest (defScope s_lowest) := ⟨rfl, rfl, rfl, by decide +kernel, rfl, by decide +kernel, by decide +kernel⟩
noncomputable abbrev s_sign_of : Stmt := topS 6
noncomputable abbrev N_sign_of : List Str := ["number"]
noncomputable abbrev p_sign_of : List Str := ["number"]
theorem sc_sign_of : FnScope N_sign_of p_sign_of (defScope s_sign_of) := ⟨rfl, rfl, rfl, by decide +kernel, rfl, by decide +kernel, by decide +kernel⟩
noncomputable abbrev s_count_changes : Stmt := topS 7
noncomputable abbrev N_count_changes : List Str := ["numbers", "changes", "last", "number", "sign"]
noncomputable abbrev p_count_changes : List Str := ["numbers"]
theorem sc_count_changes : FnScope N_count_changes p_count_changes (defScope s_count_changes) := ⟨rfl, rfl, rfl, by decide +kernel, rfl, by decide +kernel, by decide +kernel⟩
noncomputable abbrev s_added : Stmt := topS 9
noncomputable abbrev N_added : List Str := ["first", "second"]
noncomputable abbrev p_added : List Str := ["first", "second"]
theorem sc_added : FnScope N_added p_added (defScope s_added) := ⟨rfl, rfl, rfl, by decide +kernel, rfl, by decide +kernel, by decide +kernel⟩
noncomputable abbrev s_subtracted : Stmt := topS 10
noncomputable abbrev N_subtracted : List Str := ["first", "second"]
noncomputable abbrev p_subtracted : List Str := ["first", "second"]
theorem sc_subtracted : FnScope N_subtracted p_subtracted (defScope s_subtracted) := ⟨rfl, rfl, rfl, by decide +kernel, rfl, by decide +kernel, by decide +kernel⟩
noncomputable abbrev s_multiplied : Stmt := topS 11
noncomputable abbrev N_multiplied : List Str := ["first", "second"]
noncomputable abbrev p_multiplied : List Str := ["first", "second"]
theorem sc_multiplied : FnScope N_multiplied p_multiplied (defScope s_multiplied) := ⟨rfl, rfl, rfl, by decide +kernel, rfl, by decide +kernel, by decide +kernel⟩
noncomputable abbrev s_divided : Stmt := topS 12
noncomputable abbrev N_divided : List Str := ["first", "second", "top", "bottom"]
noncomputable abbrev p_divided : List Str := ["first", "second"]
theorem sc_divided : FnScope N_divided p_divided (defScope s_divided) := ⟨rfl, rfl, rfl, by decide +kernel, rfl, by decide +kernel, by decide +kernel⟩
noncomputable abbrev s_is_fraction_from_nought : Stmt := topS 13
noncomputable abbrev N_is_fraction_from_nought : List Str := ["value"]
noncomputable abbrev p_is_fraction_from_nought : List Str := ["value"]
theorem sc_is_fraction_from_nought : FnScope N_is_fraction_from_nought p_is_fraction_from_nought (defScope s_is_fraction_from_nought) := ⟨rfl, rfl, rfl, by decide +kernel, rfl, by decide +kernel, by decide +kernel⟩
noncomputable abbrev s_is_index : Stmt := topS 14
noncomputable abbrev N_is_index : List Str := ["value", "size"]
noncomputable abbrev p_is_index : List Str := ["value", "size"]
theorem sc_is_index : FnScope N_is_index p_is_index (defScope s_is_index) := ⟨rfl, rfl, rfl, by decide +kernel, rfl, by decide +kernel, by decide +kernel⟩
noncomputable abbrev s_trimmed : Stmt := topS 16
noncomputable abbrev N_trimmed : List Str := ["numbers", "size"]
noncomputable abbrev p_trimmed : List Str := ["numbers"]
theorem sc_trimmed : FnScope N_trimmed p_trimmed (defScope s_trimmed) := ⟨rfl, rfl, rfl, by decide +kernel, rfl, by decide +kernel, by decide +kernel⟩
noncomputable abbrev s_blend : Stmt := topS 17
noncomputable abbrev N_blend : List Str := ["first", "times", "second", "other_times", "number", "sums", "place"]
noncomputable abbrev p_blend : List Str := ["first", "times", "second", "other_times"]
theorem sc_blend : FnScope N_blend p_blend (defScope s_blend) := ⟨rfl, rfl, rfl, by decide +kernel, rfl, by decide +kernel, by decide +kernel⟩
noncomputable abbrev s_raised : Stmt := topS 18
noncomputable abbrev N_raised : List Str := ["polynomial"]
noncomputable abbrev p_raised : List Str := ["polynomial"]
theorem sc_raised : FnScope N_raised p_raised (defScope s_raised) := ⟨rfl, rfl, rfl, by decide +kernel, rfl, by decide +kernel, by decide +kernel⟩
noncomputable abbrev s_content : Stmt := topS 20
noncomputable abbrev N_content : List Str := ["polynomial", "shared", "number"]
noncomputable abbrev p_content : List Str := ["polynomial"]
theorem sc_content : FnScope N_content p_content (defScope s_content) := ⟨rfl, rfl, rfl, by decide +kernel, rfl, by decide +kernel, by decide +kernel⟩
noncomputable abbrev s_shrunk : Stmt := topS 21
noncomputable abbrev N_shrunk : List Str := ["polynomial", "divisor", "number"]
noncomputable abbrev p_shrunk : List Str := ["polynomial", "divisor"]
theorem sc_shrunk : FnScope N_shrunk p_shrunk (defScope s_shrunk) := ⟨rfl, rfl, rfl, by decide +kernel, rfl, by decide +kernel, by decide +kernel⟩
noncomputable abbrev s_thinned : Stmt := topS 22
noncomputable abbrev N_thinned : List Str := ["polynomial"]
noncomputable abbrev p_thinned : List Str := ["polynomial"]
theorem sc_thinned : FnScope N_thinned p_thinned (defScope s_thinned) := ⟨rfl, rfl, rfl, by decide +kernel, rfl, by decide +kernel, by decide +kernel⟩
noncomputable abbrev s_scaled_value : Stmt := topS 25
noncomputable abbrev N_scaled_value : List Str := ["polynomial", "top", "bottom", "value", "scale", "number"]
noncomputable abbrev p_scaled_value : List Str := ["polynomial", "top", "bottom"]
theorem sc_scaled_value : FnScope N_scaled_value p_scaled_value (defScope s_scaled_value) := ⟨rfl, rfl, rfl, by decide +kernel, rfl, by decide +kernel, by decide +kernel⟩
noncomputable abbrev s_dyadic_value : Stmt := topS 26
noncomputable abbrev N_dyadic_value : List Str := ["polynomial", "top", "bits", "value", "shift", "number"]
noncomputable abbrev p_dyadic_value : List Str := ["polynomial", "top", "bits"]
theorem sc_dyadic_value : FnScope N_dyadic_value p_dyadic_value (defScope s_dyadic_value) := ⟨rfl, rfl, rfl, by decide +kernel, rfl, by decide +kernel, by decide +kernel⟩
noncomputable abbrev s_fraction_sign : Stmt := topS 27
noncomputable abbrev N_fraction_sign : List Str := ["polynomial", "fraction"]
noncomputable abbrev p_fraction_sign : List Str := ["polynomial", "fraction"]
theorem sc_fraction_sign : FnScope N_fraction_sign p_fraction_sign (defScope s_fraction_sign) := ⟨rfl, rfl, rfl, by decide +kernel, rfl, by decide +kernel, by decide +kernel⟩
noncomputable abbrev s_Place___init__ : Stmt := inClass (topS 64) 0
noncomputable abbrev N_Place___init__ : List Str := ["self", "told", "polynomial", "cell"]
noncomputable abbrev p_Place___init__ : List Str := ["self", "told", "polynomial", "cell"]
theorem sc_Place___init__ : FnScope N_Place___init__ p_Place___init__ (defScope s_Place___init__) := ⟨rfl, rfl, rfl, by decide +kernel, rfl, by decide +kernel, by decide +kernel⟩
noncomputable abbrev s_fraction_place : Stmt := topS 65
noncomputable abbrev N_fraction_place : List Str := ["fraction"]
noncomputable abbrev p_fraction_place : List Str := ["fraction"]
theorem sc_fraction_place : FnScope N_fraction_place p_fraction_place (defScope s_fraction_place) := ⟨rfl, rfl, rfl, by decide +kernel, rfl, by decide +kernel, by decide +kernel⟩
noncomputable abbrev s_sign_at_place : Stmt := topS 70
noncomputable abbrev N_sign_at_place : List Str := ["polynomial", "place", "asked", "sign"]
noncomputable abbrev p_sign_at_place : List Str := ["polynomial", "place"]
theorem sc_sign_at_place : FnScope N_sign_at_place p_sign_at_place (defScope s_sign_at_place) := ⟨rfl, rfl, rfl, by decide +kernel, rfl, by decide +kernel, by decide +kernel⟩
noncomputable abbrev s_read_point : Stmt := topS 76
noncomputable abbrev N_read_point : List Str := ["value", "known", "polynomial", "index", "cells"]
noncomputable abbrev p_read_point : List Str := ["value", "known"]
theorem sc_read_point : FnScope N_read_point p_read_point (defScope s_read_point) := ⟨rfl, rfl, rfl, by decide +kernel, rfl, by decide +kernel, by decide +kernel⟩
noncomputable abbrev s_check_point : Stmt := topS 77
noncomputable abbrev N_check_point : List Str := ["given", "known", "place"]
noncomputable abbrev p_check_point : List Str := ["given", "known"]
theorem sc_check_point : FnScope N_check_point p_check_point (defScope s_check_point) := ⟨rfl, rfl, rfl, by decide +kernel, rfl, by decide +kernel, by decide +kernel⟩
noncomputable abbrev s_run_parts : Stmt := topS 79
noncomputable abbrev N_run_parts : List Str := ["line", "discs", "shafts", "number", "scale", "turn", "torque", "angles", "torques", "place", "inertia", "stiffness"]
noncomputable abbrev p_run_parts : List Str := ["line"]
theorem sc_run_parts : FnScope N_run_parts p_run_parts (defScope s_run_parts) := ⟨rfl, rfl, rfl, by decide +kernel, rfl, by decide +kernel, by decide +kernel⟩
noncomputable abbrev s_thinned_run : Stmt := topS 80
noncomputable abbrev N_thinned_run : List Str := ["line", "angles", "_", "end", "angle"]
noncomputable abbrev p_thinned_run : List Str := ["line"]
theorem sc_thinned_run : FnScope N_thinned_run p_thinned_run (defScope s_thinned_run) := ⟨rfl, rfl, rfl, by decide +kernel, rfl, by decide +kernel, by decide +kernel⟩
noncomputable abbrev s_run_signs : Stmt := topS 81
noncomputable abbrev N_run_signs : List Str := ["run", "place", "polynomial"]
noncomputable abbrev p_run_signs : List Str := ["run", "place"]
theorem sc_run_signs : FnScope N_run_signs p_run_signs (defScope s_run_signs) := ⟨rfl, rfl, rfl, by decide +kernel, rfl, by decide +kernel, by decide +kernel⟩
noncomputable abbrev s_is_row_of_fractions : Stmt := topS 84
noncomputable abbrev N_is_row_of_fractions : List Str := ["value", "size", "number"]
noncomputable abbrev p_is_row_of_fractions : List Str := ["value", "size"]
theorem sc_is_row_of_fractions : FnScope N_is_row_of_fractions p_is_row_of_fractions (defScope s_is_row_of_fractions) := ⟨rfl, rfl, rfl, by decide +kernel, rfl, by decide +kernel, by decide +kernel⟩
noncomputable abbrev s_is_line : Stmt := topS 85
noncomputable abbrev N_is_line : List Str := ["value", "discs", "shafts", "number"]
noncomputable abbrev p_is_line : List Str := ["value"]
theorem sc_is_line : FnScope N_is_line p_is_line (defScope s_is_line) := ⟨rfl, rfl, rfl, by decide +kernel, rfl, by decide +kernel, by decide +kernel⟩
noncomputable abbrev s_check_line : Stmt := topS 86
noncomputable abbrev N_check_line : List Str := ["given"]
noncomputable abbrev p_check_line : List Str := ["given"]
theorem sc_check_line : FnScope N_check_line p_check_line (defScope s_check_line) := ⟨rfl, rfl, rfl, by decide +kernel, rfl, by decide +kernel, by decide +kernel⟩
noncomputable abbrev s_check_index : Stmt := topS 87
noncomputable abbrev N_check_index : List Str := ["line", "given"]
noncomputable abbrev p_check_index : List Str := ["line", "given"]
theorem sc_check_index : FnScope N_check_index p_check_index (defScope s_check_index) := ⟨rfl, rfl, rfl, by decide +kernel, rfl, by decide +kernel, by decide +kernel⟩
noncomputable abbrev s_check_pace : Stmt := topS 88
noncomputable abbrev N_check_pace : List Str := ["given"]
noncomputable abbrev p_check_pace : List Str := ["given"]
theorem sc_check_pace : FnScope N_check_pace p_check_pace (defScope s_check_pace) := ⟨rfl, rfl, rfl, by decide +kernel, rfl, by decide +kernel, by decide +kernel⟩
noncomputable abbrev s_compare_pace : Stmt := topS 89
noncomputable abbrev N_compare_pace : List Str := ["line", "index", "point", "place", "signs", "slower"]
noncomputable abbrev p_compare_pace : List Str := ["line", "index", "point"]
theorem sc_compare_pace : FnScope N_compare_pace p_compare_pace (defScope s_compare_pace) := ⟨rfl, rfl, rfl, by decide +kernel, rfl, by decide +kernel, by decide +kernel⟩
noncomputable abbrev s_is_shape : Stmt := topS 92
noncomputable abbrev N_is_shape : List Str := ["line", "value", "angle"]
noncomputable abbrev p_is_shape : List Str := ["line", "value"]
theorem sc_is_shape : FnScope N_is_shape p_is_shape (defScope s_is_shape) := ⟨rfl, rfl, rfl, by decide +kernel, rfl, by decide +kernel, by decide +kernel⟩
noncomputable abbrev s_check_shape : Stmt := topS 93
noncomputable abbrev N_check_shape : List Str := ["line", "given"]
noncomputable abbrev p_check_shape : List Str := ["line", "given"]
theorem sc_check_shape : FnScope N_check_shape p_check_shape (defScope s_check_shape) := ⟨rfl, rfl, rfl, by decide +kernel, rfl, by decide +kernel, by decide +kernel⟩
noncomputable abbrev s_twists_of : Stmt := topS 94
noncomputable abbrev N_twists_of : List Str := ["shape", "angles", "place"]
noncomputable abbrev p_twists_of : List Str := ["shape"]
theorem sc_twists_of : FnScope N_twists_of p_twists_of (defScope s_twists_of) := ⟨rfl, rfl, rfl, by decide +kernel, rfl, by decide +kernel, by decide +kernel⟩
noncomputable abbrev s_weighed : Stmt := topS 95
noncomputable abbrev N_weighed : List Str := ["numbers", "first", "second", "total", "number", "one", "other"]
noncomputable abbrev p_weighed : List Str := ["numbers", "first", "second"]
theorem sc_weighed : FnScope N_weighed p_weighed (defScope s_weighed) := ⟨rfl, rfl, rfl, by decide +kernel, rfl, by decide +kernel, by decide +kernel⟩
noncomputable abbrev s_twist_product : Stmt := topS 96
noncomputable abbrev N_twist_product : List Str := ["line", "pace", "shape", "other", "stiff"]
noncomputable abbrev p_twist_product : List Str := ["line", "pace", "shape", "other"]
theorem sc_twist_product : FnScope N_twist_product p_twist_product (defScope s_twist_product) := ⟨rfl, rfl, rfl, by decide +kernel, rfl, by decide +kernel, by decide +kernel⟩
noncomputable abbrev s_quotient_of : Stmt := topS 97
noncomputable abbrev N_quotient_of : List Str := ["line", "shape", "twists"]
noncomputable abbrev p_quotient_of : List Str := ["line", "shape"]
theorem sc_quotient_of : FnScope N_quotient_of p_quotient_of (defScope s_quotient_of) := ⟨rfl, rfl, rfl, by decide +kernel, rfl, by decide +kernel, by decide +kernel⟩
noncomputable abbrev s__law_spool : Stmt := topS 99
noncomputable abbrev N__law_spool : List Str := ["_law_script", "_law_lap", "_law_blend", "_law_cell", "_law_great"]
noncomputable abbrev p__law_spool : List Str := ["_law_script", "_law_lap"]
theorem sc__law_spool : FnScope N__law_spool p__law_spool (defScope s__law_spool) := ⟨rfl, rfl, rfl, by decide +kernel, rfl, by decide +kernel, by decide +kernel⟩
noncomputable abbrev s__law_wind : Stmt := topS 100
noncomputable abbrev N__law_wind : List Str := ["_law_spool_here", "_law_size", "_law_found", "_law_turn"]
noncomputable abbrev p__law_wind : List Str := ["_law_spool_here", "_law_size"]
theorem sc__law_wind : FnScope N__law_wind p__law_wind (defScope s__law_wind) := ⟨rfl, rfl, rfl, by decide +kernel, rfl, by decide +kernel, by decide +kernel⟩
noncomputable abbrev s__law_any : Stmt := topS 101
noncomputable abbrev N__law_any : List Str := ["_law_spool_here", "_law_some"]
noncomputable abbrev p__law_any : List Str := ["_law_spool_here", "_law_some"]
theorem sc__law_any : FnScope N__law_any p__law_any (defScope s__law_any) := ⟨rfl, rfl, rfl, by decide +kernel, rfl, by decide +kernel, by decide +kernel⟩
noncomputable abbrev s__law_measure : Stmt := topS 102
noncomputable abbrev N__law_measure : List Str := ["_law_one", "_law_two"]
noncomputable abbrev p__law_measure : List Str := ["_law_one", "_law_two"]
theorem sc__law_measure : FnScope N__law_measure p__law_measure (defScope s__law_measure) := ⟨rfl, rfl, rfl, by decide +kernel, rfl, by decide +kernel, by decide +kernel⟩
noncomputable abbrev s__law_frac : Stmt := topS 103
noncomputable abbrev N__law_frac : List Str := ["_law_n", "_law_m", "_law_by"]
noncomputable abbrev p__law_frac : List Str := ["_law_n", "_law_m"]
theorem sc__law_frac : FnScope N__law_frac p__law_frac (defScope s__law_frac) := ⟨rfl, rfl, rfl, by decide +kernel, rfl, by decide +kernel, by decide +kernel⟩
noncomputable abbrev s__law_sum : Stmt := topS 104
noncomputable abbrev N__law_sum : List Str := ["_law_one", "_law_two"]
noncomputable abbrev p__law_sum : List Str := ["_law_one", "_law_two"]
theorem sc__law_sum : FnScope N__law_sum p__law_sum (defScope s__law_sum) := ⟨rfl, rfl, rfl, by decide +kernel, rfl, by decide +kernel, by decide +kernel⟩
noncomputable abbrev s__law_gap : Stmt := topS 105
noncomputable abbrev N__law_gap : List Str := ["_law_one", "_law_two"]
noncomputable abbrev p__law_gap : List Str := ["_law_one", "_law_two"]
theorem sc__law_gap : FnScope N__law_gap p__law_gap (defScope s__law_gap) := ⟨rfl, rfl, rfl, by decide +kernel, rfl, by decide +kernel, by decide +kernel⟩
noncomputable abbrev s__law_prod : Stmt := topS 106
noncomputable abbrev N__law_prod : List Str := ["_law_one", "_law_two"]
noncomputable abbrev p__law_prod : List Str := ["_law_one", "_law_two"]
theorem sc__law_prod : FnScope N__law_prod p__law_prod (defScope s__law_prod) := ⟨rfl, rfl, rfl, by decide +kernel, rfl, by decide +kernel, by decide +kernel⟩
noncomputable abbrev s__law_per : Stmt := topS 107
noncomputable abbrev N__law_per : List Str := ["_law_one", "_law_two"]
noncomputable abbrev p__law_per : List Str := ["_law_one", "_law_two"]
theorem sc__law_per : FnScope N__law_per p__law_per (defScope s__law_per) := ⟨rfl, rfl, rfl, by decide +kernel, rfl, by decide +kernel, by decide +kernel⟩
noncomputable abbrev s__law_amount : Stmt := topS 108
noncomputable abbrev N__law_amount : List Str := ["_law_spool_here", "_law_wide"]
noncomputable abbrev p__law_amount : List Str := ["_law_spool_here"]
theorem sc__law_amount : FnScope N__law_amount p__law_amount (defScope s__law_amount) := ⟨rfl, rfl, rfl, by decide +kernel, rfl, by decide +kernel, by decide +kernel⟩
noncomputable abbrev s__law_end : Stmt := topS 109
noncomputable abbrev N__law_end : List Str := ["_law_spool_here"]
noncomputable abbrev p__law_end : List Str := ["_law_spool_here"]
theorem sc__law_end : FnScope N__law_end p__law_end (defScope s__law_end) := ⟨rfl, rfl, rfl, by decide +kernel, rfl, by decide +kernel, by decide +kernel⟩
noncomputable abbrev s__law_line : Stmt := topS 110
noncomputable abbrev N__law_line : List Str := ["_law_spool_here", "_law_many", "_law_discs", "_law_shafts", "_law_at"]
noncomputable abbrev p__law_line : List Str := ["_law_spool_here"]
theorem sc__law_line : FnScope N__law_line p__law_line (defScope s__law_line) := ⟨rfl, rfl, rfl, by decide +kernel, rfl, by decide +kernel, by decide +kernel⟩
noncomputable abbrev s__law_pace : Stmt := topS 111
noncomputable abbrev N__law_pace : List Str := ["_law_spool_here", "_law_way"]
noncomputable abbrev p__law_pace : List Str := ["_law_spool_here"]
theorem sc__law_pace : FnScope N__law_pace p__law_pace (defScope s__law_pace) := ⟨rfl, rfl, rfl, by decide +kernel, rfl, by decide +kernel, by decide +kernel⟩
noncomputable abbrev s__law_laps : Stmt := topS 112
noncomputable abbrev N__law_laps : List Str := ["_law_script", "_law_most"]
noncomputable abbrev p__law_laps : List Str := ["_law_script", "_law_most"]
theorem sc__law_laps : FnScope N__law_laps p__law_laps (defScope s__law_laps) := ⟨rfl, rfl, rfl, by decide +kernel, rfl, by decide +kernel, by decide +kernel⟩
noncomputable abbrev s__law_twists : Stmt := topS 113
noncomputable abbrev N__law_twists : List Str := ["_law_line_here", "_law_shape_here", "_law_ends", "_law_at"]
noncomputable abbrev p__law_twists : List Str := ["_law_line_here", "_law_shape_here"]
theorem sc__law_twists : FnScope N__law_twists p__law_twists (defScope s__law_twists) := ⟨rfl, rfl, rfl, by decide +kernel, rfl, by decide +kernel, by decide +kernel⟩
noncomputable abbrev s__law_product : Stmt := topS 114
noncomputable abbrev N__law_product : List Str := ["_law_line_here", "_law_pace_here", "_law_one", "_law_two", "_law_left", "_law_right_here", "_law_found", "_law_at"]
noncomputable abbrev p__law_product : List Str := ["_law_line_here", "_law_pace_here", "_law_one", "_law_two"]
theorem sc__law_product : FnScope N__law_product p__law_product (defScope s__law_product) := ⟨rfl, rfl, rfl, by decide +kernel, rfl, by decide +kernel, by decide +kernel⟩
noncomputable abbrev s__law_shape : Stmt := topS 115
noncomputable abbrev N__law_shape : List Str := ["_law_spool_here", "_law_many", "_law_wide", "_law_at"]
noncomputable abbrev p__law_shape : List Str := ["_law_spool_here", "_law_many"]
theorem sc__law_shape : FnScope N__law_shape p__law_shape (defScope s__law_shape) := ⟨rfl, rfl, rfl, by decide +kernel, rfl, by decide +kernel, by decide +kernel⟩
noncomputable abbrev s__law_right : Stmt := topS 116
noncomputable abbrev N__law_right : List Str := ["_law_spool_here", "_law_line_here", "_law_pace_here", "_law_many", "_law_one", "_law_two", "_law_by", "_law_due", "_law_told", "_law_mixed", "_law_total", "_law_top", "_law_low", "_law_quotient", "_law_above", "_law_at"]
noncomputable abbrev p__law_right : List Str := ["_law_spool_here"]
theorem sc__law_right : FnScope N__law_right p__law_right (defScope s__law_right) := ⟨rfl, rfl, rfl, by decide +kernel, rfl, by decide +kernel, by decide +kernel⟩
noncomputable abbrev s_law : Stmt := topS 117
noncomputable abbrev N_law : List Str := ["_law_script", "_law_lap"]
noncomputable abbrev p_law : List Str := ["_law_script"]
theorem sc_law : FnScope N_law p_law (defScope s_law) := ⟨rfl, rfl, rfl, by decide +kernel, rfl, by decide +kernel, by decide +kernel⟩
set_option genSizeOf false in
set_option genInjectivity false in
structure Tx (K : PySem.W.Frag) (mg : Str → Option Value) where
  a_is_whole : Addr
  d_is_whole : FuncData
  F_is_whole : Fun K "is_whole" "is_whole" s_is_whole a_is_whole d_is_whole
  g_is_whole : mg "is_whole" = some (.ref a_is_whole)
  a_is_fraction : Addr
  d_is_fraction : FuncData
  F_is_fraction : Fun K "is_fraction" "is_fraction" s_is_fraction a_is_fraction d_is_fraction
  g_is_fraction : mg "is_fraction" = some (.ref a_is_fraction)
  a_lowest : Addr
  d_lowest : FuncData
  F_lowest : Fun K "lowest" "lowest" s_lowest a_lowest d_lowest
  g_lowest : mg "lowest" = some (.ref a_lowest)
  a_sign_of : Addr
  d_sign_of : FuncData
  F_sign_of : Fun K "sign_of" "sign_of" s_sign_of a_sign_of d_sign_of
  g_sign_of : mg "sign_of" = some (.ref a_sign_of)
  a_count_changes : Addr
  d_count_changes : FuncData
  F_count_changes : Fun K "count_changes" "count_changes" s_count_changes a_count_changes d_count_changes
  g_count_changes : mg "count_changes" = some (.ref a_count_changes)
  a_added : Addr
  d_added : FuncData
  F_added : Fun K "added" "added" s_added a_added d_added
  g_added : mg "added" = some (.ref a_added)
  a_subtracted : Addr
  d_subtracted : FuncData
  F_subtracted : Fun K "subtracted" "subtracted" s_subtracted a_subtracted d_subtracted
  g_subtracted : mg "subtracted" = some (.ref a_subtracted)
  a_multiplied : Addr
  d_multiplied : FuncData
  F_multiplied : Fun K "multiplied" "multiplied" s_multiplied a_multiplied d_multiplied
  g_multiplied : mg "multiplied" = some (.ref a_multiplied)
  a_divided : Addr
  d_divided : FuncData
  F_divided : Fun K "divided" "divided" s_divided a_divided d_divided
  g_divided : mg "divided" = some (.ref a_divided)
  a_is_fraction_from_nought : Addr
  d_is_fraction_from_nought : FuncData
  F_is_fraction_from_nought : Fun K "is_fraction_from_nought" "is_fraction_from_nought" s_is_fraction_from_nought a_is_fraction_from_nought d_is_fraction_from_nought
  g_is_fraction_from_nought : mg "is_fraction_from_nought" = some (.ref a_is_fraction_from_nought)
  a_is_index : Addr
  d_is_index : FuncData
  F_is_index : Fun K "is_index" "is_index" s_is_index a_is_index d_is_index
  g_is_index : mg "is_index" = some (.ref a_is_index)
  a_trimmed : Addr
  d_trimmed : FuncData
  F_trimmed : Fun K "trimmed" "trimmed" s_trimmed a_trimmed d_trimmed
  g_trimmed : mg "trimmed" = some (.ref a_trimmed)
  a_blend : Addr
  d_blend : FuncData
  F_blend : Fun K "blend" "blend" s_blend a_blend d_blend
  g_blend : mg "blend" = some (.ref a_blend)
  a_raised : Addr
  d_raised : FuncData
  F_raised : Fun K "raised" "raised" s_raised a_raised d_raised
  g_raised : mg "raised" = some (.ref a_raised)
  a_content : Addr
  d_content : FuncData
  F_content : Fun K "content" "content" s_content a_content d_content
  g_content : mg "content" = some (.ref a_content)
  a_shrunk : Addr
  d_shrunk : FuncData
  F_shrunk : Fun K "shrunk" "shrunk" s_shrunk a_shrunk d_shrunk
  g_shrunk : mg "shrunk" = some (.ref a_shrunk)
  a_thinned : Addr
  d_thinned : FuncData
  F_thinned : Fun K "thinned" "thinned" s_thinned a_thinned d_thinned
  g_thinned : mg "thinned" = some (.ref a_thinned)
  a_scaled_value : Addr
  d_scaled_value : FuncData
  F_scaled_value : Fun K "scaled_value" "scaled_value" s_scaled_value a_scaled_value d_scaled_value
  g_scaled_value : mg "scaled_value" = some (.ref a_scaled_value)
  a_dyadic_value : Addr
  d_dyadic_value : FuncData
  F_dyadic_value : Fun K "dyadic_value" "dyadic_value" s_dyadic_value a_dyadic_value d_dyadic_value
  g_dyadic_value : mg "dyadic_value" = some (.ref a_dyadic_value)
  a_fraction_sign : Addr
  d_fraction_sign : FuncData
  F_fraction_sign : Fun K "fraction_sign" "fraction_sign" s_fraction_sign a_fraction_sign d_fraction_sign
  g_fraction_sign : mg "fraction_sign" = some (.ref a_fraction_sign)
  a_Place___init__ : Addr
  d_Place___init__ : FuncData
  F_Place___init__ : Fun K "__init__" "Place.__init__" s_Place___init__ a_Place___init__ d_Place___init__
  c_Place : Addr
  g_Place : mg "Place" = some (.ref c_Place)
  cl_Place : Cls K c_Place
  mk_Place : Mk K c_Place a_Place___init__
  na_Place_told : NoAttr K c_Place "told"
  na_Place_polynomial : NoAttr K c_Place "polynomial"
  na_Place_start : NoAttr K c_Place "start"
  na_Place_leap : NoAttr K c_Place "leap"
  na_Place_rounds : NoAttr K c_Place "rounds"
  na_Place_low : NoAttr K c_Place "low"
  na_Place_high : NoAttr K c_Place "high"
  na_Place_bits : NoAttr K c_Place "bits"
  a_fraction_place : Addr
  d_fraction_place : FuncData
  F_fraction_place : Fun K "fraction_place" "fraction_place" s_fraction_place a_fraction_place d_fraction_place
  g_fraction_place : mg "fraction_place" = some (.ref a_fraction_place)
  a_sign_at_place : Addr
  d_sign_at_place : FuncData
  F_sign_at_place : Fun K "sign_at_place" "sign_at_place" s_sign_at_place a_sign_at_place d_sign_at_place
  g_sign_at_place : mg "sign_at_place" = some (.ref a_sign_at_place)
  a_read_point : Addr
  d_read_point : FuncData
  F_read_point : Fun K "read_point" "read_point" s_read_point a_read_point d_read_point
  g_read_point : mg "read_point" = some (.ref a_read_point)
  a_check_point : Addr
  d_check_point : FuncData
  F_check_point : Fun K "check_point" "check_point" s_check_point a_check_point d_check_point
  g_check_point : mg "check_point" = some (.ref a_check_point)
  a_run_parts : Addr
  d_run_parts : FuncData
  F_run_parts : Fun K "run_parts" "run_parts" s_run_parts a_run_parts d_run_parts
  g_run_parts : mg "run_parts" = some (.ref a_run_parts)
  a_thinned_run : Addr
  d_thinned_run : FuncData
  F_thinned_run : Fun K "thinned_run" "thinned_run" s_thinned_run a_thinned_run d_thinned_run
  g_thinned_run : mg "thinned_run" = some (.ref a_thinned_run)
  a_run_signs : Addr
  d_run_signs : FuncData
  F_run_signs : Fun K "run_signs" "run_signs" s_run_signs a_run_signs d_run_signs
  g_run_signs : mg "run_signs" = some (.ref a_run_signs)
  a_is_row_of_fractions : Addr
  d_is_row_of_fractions : FuncData
  F_is_row_of_fractions : Fun K "is_row_of_fractions" "is_row_of_fractions" s_is_row_of_fractions a_is_row_of_fractions d_is_row_of_fractions
  g_is_row_of_fractions : mg "is_row_of_fractions" = some (.ref a_is_row_of_fractions)
  a_is_line : Addr
  d_is_line : FuncData
  F_is_line : Fun K "is_line" "is_line" s_is_line a_is_line d_is_line
  g_is_line : mg "is_line" = some (.ref a_is_line)
  a_check_line : Addr
  d_check_line : FuncData
  F_check_line : Fun K "check_line" "check_line" s_check_line a_check_line d_check_line
  g_check_line : mg "check_line" = some (.ref a_check_line)
  a_check_index : Addr
  d_check_index : FuncData
  F_check_index : Fun K "check_index" "check_index" s_check_index a_check_index d_check_index
  g_check_index : mg "check_index" = some (.ref a_check_index)
  a_check_pace : Addr
  d_check_pace : FuncData
  F_check_pace : Fun K "check_pace" "check_pace" s_check_pace a_check_pace d_check_pace
  g_check_pace : mg "check_pace" = some (.ref a_check_pace)
  a_compare_pace : Addr
  d_compare_pace : FuncData
  F_compare_pace : Fun K "compare_pace" "compare_pace" s_compare_pace a_compare_pace d_compare_pace
  g_compare_pace : mg "compare_pace" = some (.ref a_compare_pace)
  a_is_shape : Addr
  d_is_shape : FuncData
  F_is_shape : Fun K "is_shape" "is_shape" s_is_shape a_is_shape d_is_shape
  g_is_shape : mg "is_shape" = some (.ref a_is_shape)
  a_check_shape : Addr
  d_check_shape : FuncData
  F_check_shape : Fun K "check_shape" "check_shape" s_check_shape a_check_shape d_check_shape
  g_check_shape : mg "check_shape" = some (.ref a_check_shape)
  a_twists_of : Addr
  d_twists_of : FuncData
  F_twists_of : Fun K "twists_of" "twists_of" s_twists_of a_twists_of d_twists_of
  g_twists_of : mg "twists_of" = some (.ref a_twists_of)
  a_weighed : Addr
  d_weighed : FuncData
  F_weighed : Fun K "weighed" "weighed" s_weighed a_weighed d_weighed
  g_weighed : mg "weighed" = some (.ref a_weighed)
  a_twist_product : Addr
  d_twist_product : FuncData
  F_twist_product : Fun K "twist_product" "twist_product" s_twist_product a_twist_product d_twist_product
  g_twist_product : mg "twist_product" = some (.ref a_twist_product)
  a_quotient_of : Addr
  d_quotient_of : FuncData
  F_quotient_of : Fun K "quotient_of" "quotient_of" s_quotient_of a_quotient_of d_quotient_of
  g_quotient_of : mg "quotient_of" = some (.ref a_quotient_of)
  a__law_spool : Addr
  d__law_spool : FuncData
  F__law_spool : Fun K "_law_spool" "_law_spool" s__law_spool a__law_spool d__law_spool
  g__law_spool : mg "_law_spool" = some (.ref a__law_spool)
  a__law_wind : Addr
  d__law_wind : FuncData
  F__law_wind : Fun K "_law_wind" "_law_wind" s__law_wind a__law_wind d__law_wind
  g__law_wind : mg "_law_wind" = some (.ref a__law_wind)
  a__law_any : Addr
  d__law_any : FuncData
  F__law_any : Fun K "_law_any" "_law_any" s__law_any a__law_any d__law_any
  g__law_any : mg "_law_any" = some (.ref a__law_any)
  a__law_measure : Addr
  d__law_measure : FuncData
  F__law_measure : Fun K "_law_measure" "_law_measure" s__law_measure a__law_measure d__law_measure
  g__law_measure : mg "_law_measure" = some (.ref a__law_measure)
  a__law_frac : Addr
  d__law_frac : FuncData
  F__law_frac : Fun K "_law_frac" "_law_frac" s__law_frac a__law_frac d__law_frac
  g__law_frac : mg "_law_frac" = some (.ref a__law_frac)
  a__law_sum : Addr
  d__law_sum : FuncData
  F__law_sum : Fun K "_law_sum" "_law_sum" s__law_sum a__law_sum d__law_sum
  g__law_sum : mg "_law_sum" = some (.ref a__law_sum)
  a__law_gap : Addr
  d__law_gap : FuncData
  F__law_gap : Fun K "_law_gap" "_law_gap" s__law_gap a__law_gap d__law_gap
  g__law_gap : mg "_law_gap" = some (.ref a__law_gap)
  a__law_prod : Addr
  d__law_prod : FuncData
  F__law_prod : Fun K "_law_prod" "_law_prod" s__law_prod a__law_prod d__law_prod
  g__law_prod : mg "_law_prod" = some (.ref a__law_prod)
  a__law_per : Addr
  d__law_per : FuncData
  F__law_per : Fun K "_law_per" "_law_per" s__law_per a__law_per d__law_per
  g__law_per : mg "_law_per" = some (.ref a__law_per)
  a__law_amount : Addr
  d__law_amount : FuncData
  F__law_amount : Fun K "_law_amount" "_law_amount" s__law_amount a__law_amount d__law_amount
  g__law_amount : mg "_law_amount" = some (.ref a__law_amount)
  a__law_end : Addr
  d__law_end : FuncData
  F__law_end : Fun K "_law_end" "_law_end" s__law_end a__law_end d__law_end
  g__law_end : mg "_law_end" = some (.ref a__law_end)
  a__law_line : Addr
  d__law_line : FuncData
  F__law_line : Fun K "_law_line" "_law_line" s__law_line a__law_line d__law_line
  g__law_line : mg "_law_line" = some (.ref a__law_line)
  a__law_pace : Addr
  d__law_pace : FuncData
  F__law_pace : Fun K "_law_pace" "_law_pace" s__law_pace a__law_pace d__law_pace
  g__law_pace : mg "_law_pace" = some (.ref a__law_pace)
  a__law_laps : Addr
  d__law_laps : FuncData
  F__law_laps : Fun K "_law_laps" "_law_laps" s__law_laps a__law_laps d__law_laps
  g__law_laps : mg "_law_laps" = some (.ref a__law_laps)
  a__law_twists : Addr
  d__law_twists : FuncData
  F__law_twists : Fun K "_law_twists" "_law_twists" s__law_twists a__law_twists d__law_twists
  g__law_twists : mg "_law_twists" = some (.ref a__law_twists)
  a__law_product : Addr
  d__law_product : FuncData
  F__law_product : Fun K "_law_product" "_law_product" s__law_product a__law_product d__law_product
  g__law_product : mg "_law_product" = some (.ref a__law_product)
  a__law_shape : Addr
  d__law_shape : FuncData
  F__law_shape : Fun K "_law_shape" "_law_shape" s__law_shape a__law_shape d__law_shape
  g__law_shape : mg "_law_shape" = some (.ref a__law_shape)
  a__law_right : Addr
  d__law_right : FuncData
  F__law_right : Fun K "_law_right" "_law_right" s__law_right a__law_right d__law_right
  g__law_right : mg "_law_right" = some (.ref a__law_right)
  a_law : Addr
  d_law : FuncData
  F_law : Fun K "law" "law" s_law a_law d_law
  g_law : mg "law" = some (.ref a_law)
  t_MOST_DISCS : Tok
  c_MOST_DISCS : mg "MOST_DISCS" = some (.int 8 t_MOST_DISCS)
  k_NOUGHT : Addr
  c_NOUGHT : mg "NOUGHT" = some (.ref k_NOUGHT)
  v_NOUGHT : CT K k_NOUGHT (.tuple [.int 0, .int 1])
  n_abs : mg "abs" = none
  n_all : mg "all" = none
  n_any : mg "any" = none
  n_bool : mg "bool" = none
  n_divmod : mg "divmod" = none
  n_enumerate : mg "enumerate" = none
  l_gcd : mg "gcd" = some (.builtin "math.gcd")
  n_int : mg "int" = none
  n_isinstance : mg "isinstance" = none
  n_len : mg "len" = none
  n_list : mg "list" = none
  n_max : mg "max" = none
  n_min : mg "min" = none
  n_range : mg "range" = none
  n_repr : mg "repr" = none
  n_reversed : mg "reversed" = none
  n_tuple : mg "tuple" = none
  n_zip : mg "zip" = none
section
variable {P : Program} {w : World} {K : PySem.W.Frag} {mg : Str → Option Value} {base : Heap}
theorem b_is_whole (T : Tx K mg) : Binds K T.d_is_whole p_is_whole [] := T.F_is_whole.binds (ps := p_is_whole) fun _ _ _ _ _ _ us hl => match us, hl with | [_], _ => rfl
theorem b_is_fraction (T : Tx K mg) : Binds K T.d_is_fraction p_is_fraction [] := T.F_is_fraction.binds (ps := p_is_fraction) fun _ _ _ _ _ _ us hl => match us, hl with | [_], _ => rfl
theorem b_lowest (T : Tx K mg) : Binds K T.d_lowest p_lowest [] := T.F_lowest.binds (ps := p_lowest) fun _ _ _ _ _ _ us hl => match us, hl with | [_, _], _ => rfl
theorem b_sign_of (T : Tx K mg) : Binds K T.d_sign_of p_sign_of [] := T.F_sign_of.binds (ps := p_sign_of) fun _ _ _ _ _ _ us hl => match us, hl with | [_], _ => rfl
theorem b_count_changes (T : Tx K mg) : Binds K T.d_count_changes p_count_changes [] := T.F_count_changes.binds (ps := p_count_changes) fun _ _ _ _ _ _ us hl => match us, hl with | [_], _ => rfl
theorem b_added (T : Tx K mg) : Binds K T.d_added p_added [] := T.F_added.binds (ps := p_added) fun _ _ _ _ _ _ us hl => match us, hl with | [_, _], _ => rfl
theorem b_subtracted (T : Tx K mg) : Binds K T.d_subtracted p_subtracted [] := T.F_subtracted.binds (ps := p_subtracted) fun _ _ _ _ _ _ us hl => match us, hl with | [_, _], _ => rfl
theorem b_multiplied (T : Tx K mg) : Binds K T.d_multiplied p_multiplied [] := T.F_multiplied.binds (ps := p_multiplied) fun _ _ _ _ _ _ us hl => match us, hl with | [_, _], _ => rfl
theorem b_divided (T : Tx K mg) : Binds K T.d_divided p_divided [] := T.F_divided.binds (ps := p_divided) fun _ _ _ _ _ _ us hl => match us, hl with | [_, _], _ => rfl
theorem b_is_fraction_from_nought (T : Tx K mg) : Binds K T.d_is_fraction_from_nought p_is_fraction_from_nought [] := T.F_is_fraction_from_nought.binds (ps := p_is_fraction_from_nought) fun _ _ _ _ _ _ us hl => match us, hl with | [_], _ => rfl
theorem b_is_index (T : Tx K mg) : Binds K T.d_is_index p_is_index [] := T.F_is_index.binds (ps := p_is_index) fun _ _ _ _ _ _ us hl => match us, hl with | [_, _], _ => rfl
theorem b_trimmed (T : Tx K mg) : Binds K T.d_trimmed p_trimmed [] := T.F_trimmed.binds (ps := p_trimmed) fun _ _ _ _ _ _ us hl => match us, hl with | [_], _ => rfl
theorem b_blend (T : Tx K mg) : Binds K T.d_blend p_blend [] := T.F_blend.binds (ps := p_blend) fun _ _ _ _ _ _ us hl => match us, hl with | [_, _, _, _], _ => rfl
theorem b_raised (T : Tx K mg) : Binds K T.d_raised p_raised [] := T.F_raised.binds (ps := p_raised) fun _ _ _ _ _ _ us hl => match us, hl with | [_], _ => rfl
theorem b_content (T : Tx K mg) : Binds K T.d_content p_content [] := T.F_content.binds (ps := p_content) fun _ _ _ _ _ _ us hl => match us, hl with | [_], _ => rfl
theorem b_shrunk (T : Tx K mg) : Binds K T.d_shrunk p_shrunk [] := T.F_shrunk.binds (ps := p_shrunk) fun _ _ _ _ _ _ us hl => match us, hl with | [_, _], _ => rfl
theorem b_thinned (T : Tx K mg) : Binds K T.d_thinned p_thinned [] := T.F_thinned.binds (ps := p_thinned) fun _ _ _ _ _ _ us hl => match us, hl with | [_], _ => rfl
theorem b_scaled_value (T : Tx K mg) : Binds K T.d_scaled_value p_scaled_value [] := T.F_scaled_value.binds (ps := p_scaled_value) fun _ _ _ _ _ _ us hl => match us, hl with | [_, _, _], _ => rfl
theorem b_dyadic_value (T : Tx K mg) : Binds K T.d_dyadic_value p_dyadic_value [] := T.F_dyadic_value.binds (ps := p_dyadic_value) fun _ _ _ _ _ _ us hl => match us, hl with | [_, _, _], _ => rfl
theorem b_fraction_sign (T : Tx K mg) : Binds K T.d_fraction_sign p_fraction_sign [] := T.F_fraction_sign.binds (ps := p_fraction_sign) fun _ _ _ _ _ _ us hl => match us, hl with | [_, _], _ => rfl
theorem b_Place___init__ (T : Tx K mg) : Binds K T.d_Place___init__ p_Place___init__ [] := T.F_Place___init__.binds (ps := p_Place___init__) fun _ _ _ _ _ _ us hl => match us, hl with | [_, _, _, _], _ => rfl
theorem b_fraction_place (T : Tx K mg) : Binds K T.d_fraction_place p_fraction_place [] := T.F_fraction_place.binds (ps := p_fraction_place) fun _ _ _ _ _ _ us hl => match us, hl with | [_], _ => rfl
theorem b_sign_at_place (T : Tx K mg) : Binds K T.d_sign_at_place p_sign_at_place [] := T.F_sign_at_place.binds (ps := p_sign_at_place) fun _ _ _ _ _ _ us hl => match us, hl with | [_, _], _ => rfl
theorem b_read_point (T : Tx K mg) : Binds K T.d_read_point p_read_point [] := T.F_read_point.binds (ps := p_read_point) fun _ _ _ _ _ _ us hl => match us, hl with | [_, _], _ => rfl
theorem b_check_point (T : Tx K mg) : Binds K T.d_check_point p_check_point [] := T.F_check_point.binds (ps := p_check_point) fun _ _ _ _ _ _ us hl => match us, hl with | [_, _], _ => rfl
theorem b_run_parts (T : Tx K mg) : Binds K T.d_run_parts p_run_parts [] := T.F_run_parts.binds (ps := p_run_parts) fun _ _ _ _ _ _ us hl => match us, hl with | [_], _ => rfl
theorem b_thinned_run (T : Tx K mg) : Binds K T.d_thinned_run p_thinned_run [] := T.F_thinned_run.binds (ps := p_thinned_run) fun _ _ _ _ _ _ us hl => match us, hl with | [_], _ => rfl
theorem b_run_signs (T : Tx K mg) : Binds K T.d_run_signs p_run_signs [] := T.F_run_signs.binds (ps := p_run_signs) fun _ _ _ _ _ _ us hl => match us, hl with | [_, _], _ => rfl
theorem b_is_row_of_fractions (T : Tx K mg) : Binds K T.d_is_row_of_fractions p_is_row_of_fractions [] := T.F_is_row_of_fractions.binds (ps := p_is_row_of_fractions) fun _ _ _ _ _ _ us hl => match us, hl with | [_, _], _ => rfl
theorem b_is_line (T : Tx K mg) : Binds K T.d_is_line p_is_line [] := T.F_is_line.binds (ps := p_is_line) fun _ _ _ _ _ _ us hl => match us, hl with | [_], _ => rfl
theorem b_check_line (T : Tx K mg) : Binds K T.d_check_line p_check_line [] := T.F_check_line.binds (ps := p_check_line) fun _ _ _ _ _ _ us hl => match us, hl with | [_], _ => rfl
theorem b_check_index (T : Tx K mg) : Binds K T.d_check_index p_check_index [] := T.F_check_index.binds (ps := p_check_index) fun _ _ _ _ _ _ us hl => match us, hl with | [_, _], _ => rfl
theorem b_check_pace (T : Tx K mg) : Binds K T.d_check_pace p_check_pace [] := T.F_check_pace.binds (ps := p_check_pace) fun _ _ _ _ _ _ us hl => match us, hl with | [_], _ => rfl
theorem b_compare_pace (T : Tx K mg) : Binds K T.d_compare_pace p_compare_pace [] := T.F_compare_pace.binds (ps := p_compare_pace) fun _ _ _ _ _ _ us hl => match us, hl with | [_, _, _], _ => rfl
theorem b_is_shape (T : Tx K mg) : Binds K T.d_is_shape p_is_shape [] := T.F_is_shape.binds (ps := p_is_shape) fun _ _ _ _ _ _ us hl => match us, hl with | [_, _], _ => rfl
theorem b_check_shape (T : Tx K mg) : Binds K T.d_check_shape p_check_shape [] := T.F_check_shape.binds (ps := p_check_shape) fun _ _ _ _ _ _ us hl => match us, hl with | [_, _], _ => rfl
theorem b_twists_of (T : Tx K mg) : Binds K T.d_twists_of p_twists_of [] := T.F_twists_of.binds (ps := p_twists_of) fun _ _ _ _ _ _ us hl => match us, hl with | [_], _ => rfl
theorem b_weighed (T : Tx K mg) : Binds K T.d_weighed p_weighed [] := T.F_weighed.binds (ps := p_weighed) fun _ _ _ _ _ _ us hl => match us, hl with | [_, _, _], _ => rfl
theorem b_twist_product (T : Tx K mg) : Binds K T.d_twist_product p_twist_product [] := T.F_twist_product.binds (ps := p_twist_product) fun _ _ _ _ _ _ us hl => match us, hl with | [_, _, _, _], _ => rfl
theorem b_quotient_of (T : Tx K mg) : Binds K T.d_quotient_of p_quotient_of [] := T.F_quotient_of.binds (ps := p_quotient_of) fun _ _ _ _ _ _ us hl => match us, hl with | [_, _], _ => rfl
theorem b__law_spool (T : Tx K mg) : Binds K T.d__law_spool p__law_spool [] := T.F__law_spool.binds (ps := p__law_spool) fun _ _ _ _ _ _ us hl => match us, hl with | [_, _], _ => rfl
theorem b__law_wind (T : Tx K mg) : Binds K T.d__law_wind p__law_wind [] := T.F__law_wind.binds (ps := p__law_wind) fun _ _ _ _ _ _ us hl => match us, hl with | [_, _], _ => rfl
theorem b__law_any (T : Tx K mg) : Binds K T.d__law_any p__law_any [] := T.F__law_any.binds (ps := p__law_any) fun _ _ _ _ _ _ us hl => match us, hl with | [_, _], _ => rfl
theorem b__law_measure (T : Tx K mg) : Binds K T.d__law_measure p__law_measure [] := T.F__law_measure.binds (ps := p__law_measure) fun _ _ _ _ _ _ us hl => match us, hl with | [_, _], _ => rfl
theorem b__law_frac (T : Tx K mg) : Binds K T.d__law_frac p__law_frac [] := T.F__law_frac.binds (ps := p__law_frac) fun _ _ _ _ _ _ us hl => match us, hl with | [_, _], _ => rfl
theorem b__law_sum (T : Tx K mg) : Binds K T.d__law_sum p__law_sum [] := T.F__law_sum.binds (ps := p__law_sum) fun _ _ _ _ _ _ us hl => match us, hl with | [_, _], _ => rfl
theorem b__law_gap (T : Tx K mg) : Binds K T.d__law_gap p__law_gap [] := T.F__law_gap.binds (ps := p__law_gap) fun _ _ _ _ _ _ us hl => match us, hl with | [_, _], _ => rfl
theorem b__law_prod (T : Tx K mg) : Binds K T.d__law_prod p__law_prod [] := T.F__law_prod.binds (ps := p__law_prod) fun _ _ _ _ _ _ us hl => match us, hl with | [_, _], _ => rfl
theorem b__law_per (T : Tx K mg) : Binds K T.d__law_per p__law_per [] := T.F__law_per.binds (ps := p__law_per) fun _ _ _ _ _ _ us hl => match us, hl with | [_, _], _ => rfl
theorem b__law_amount (T : Tx K mg) : Binds K T.d__law_amount p__law_amount [] := T.F__law_amount.binds (ps := p__law_amount) fun _ _ _ _ _ _ us hl => match us, hl with | [_], _ => rfl
theorem b__law_end (T : Tx K mg) : Binds K T.d__law_end p__law_end [] := T.F__law_end.binds (ps := p__law_end) fun _ _ _ _ _ _ us hl => match us, hl with | [_], _ => rfl
theorem b__law_line (T : Tx K mg) : Binds K T.d__law_line p__law_line [] := T.F__law_line.binds (ps := p__law_line) fun _ _ _ _ _ _ us hl => match us, hl with | [_], _ => rfl
theorem b__law_pace (T : Tx K mg) : Binds K T.d__law_pace p__law_pace [] := T.F__law_pace.binds (ps := p__law_pace) fun _ _ _ _ _ _ us hl => match us, hl with | [_], _ => rfl
theorem b__law_laps (T : Tx K mg) : Binds K T.d__law_laps p__law_laps [] := T.F__law_laps.binds (ps := p__law_laps) fun _ _ _ _ _ _ us hl => match us, hl with | [_, _], _ => rfl
theorem b__law_twists (T : Tx K mg) : Binds K T.d__law_twists p__law_twists [] := T.F__law_twists.binds (ps := p__law_twists) fun _ _ _ _ _ _ us hl => match us, hl with | [_, _], _ => rfl
theorem b__law_product (T : Tx K mg) : Binds K T.d__law_product p__law_product [] := T.F__law_product.binds (ps := p__law_product) fun _ _ _ _ _ _ us hl => match us, hl with | [_, _, _, _], _ => rfl
theorem b__law_shape (T : Tx K mg) : Binds K T.d__law_shape p__law_shape [] := T.F__law_shape.binds (ps := p__law_shape) fun _ _ _ _ _ _ us hl => match us, hl with | [_, _], _ => rfl
theorem b__law_right (T : Tx K mg) : Binds K T.d__law_right p__law_right [] := T.F__law_right.binds (ps := p__law_right) fun _ _ _ _ _ _ us hl => match us, hl with | [_], _ => rfl
theorem kb_twist_product_0 (T : Tx K mg) : KBinds K T.d_twist_product p_twist_product ["other"] (gP 3 1 [0]) (gPV 3 1 [0]) := Fun.kbindsP T.F_twist_product (by decide) 3 1 [0] fun _ _ _ _ _ _ us ws h1 h2 => match us, ws, h1, h2 with | [_, _, _], [_], _, _ => rfl
theorem kb_quotient_of_1 (T : Tx K mg) : KBinds K T.d_quotient_of p_quotient_of ["shape", "line"] (gP 0 2 [1, 0]) (gPV 0 2 [1, 0]) := Fun.kbindsP T.F_quotient_of (by decide) 0 2 [1, 0] fun _ _ _ _ _ _ us ws h1 h2 => match us, ws, h1, h2 with | [], [_, _], _, _ => rfl
/-! ### is_whole -/
noncomputable def isWholeD : PyData → Bool
  | .int _ => true
  | _ => false
theorem isWholeD_true {d : PyData} (h : isWholeD d = true) : ∃ i, d = .int i := by
  cases d <;> simp [isWholeD] at h
  exact ⟨_, rfl⟩
noncomputable def pre_is_whole : List PyData → Prop := fun ds => ∃ v, ds = [v]
noncomputable def post_is_whole : List PyData → PyData → Prop := fun ds d => ∃ v, ds = [v] ∧ d = .bool (isWholeD v)
noncomputable abbrev sp_is_whole (K : PySem.W.Frag) : Sp := SpP K pre_is_whole post_is_whole
theorem len_is_whole (K : PySem.W.Frag) (vs : List V) (H : Hp) (Q : VK) (E : XK) (h : sp_is_whole K vs H Q E) : vs.length = p_is_whole.length := len_P (n := 1) h fun ds hp => by
  obtain ⟨v, e⟩ := hp
  rw [e]; rfl
noncomputable def t_is_whole (K : PySem.W.Frag) : TS :=
  (tRet (tAndV (tCB (rIsi K) (tCons (tVar 0) (tCons (tC (.ty "int")) tNil))) (tNotV (tCB (rIsi K) (tCons (tVar 0) (tCons (tC (.ty "bool")) tNil))))))
theorem pure_is_whole (K : PySem.W.Frag) (vs : List V) (H : Hp) (Q : VK) (E : XK) (h : sp_is_whole K vs H Q E) : t_is_whole K { nx := fun _ H' => Q .non H', rt := Q } (L2.start N_is_whole vs) H := body_P h fun B ds hW hp => by
  obtain ⟨v, e⟩ := hp
  subst e
  unfold t_is_whole
  refine st_ret (ev_andV (ev_isiInt (ev_var rfl ⟨_, rfl, fun hb => ?_, fun hb => ⟨_, rfl, ?_⟩⟩)))
  · refine ev_notV (ev_isiBool (ev_var rfl ⟨_, rfl, _, rfl, ?_⟩))
    cases v <;> simp_all [isIntT, isBoolT, isWholeD]
  · cases v <;> simp_all [isIntT, isBoolT, isWholeD]
theorem ok_is_whole (T : Tx K mg) : FnOk P w K mg base CX0 1 T.a_is_whole T.d_is_whole p_is_whole (sp_is_whole K) := by
  refine T.F_is_whole.ok sc_is_whole (fun vs H Q E h => len_is_whole K vs H Q E h) (fun cdv A outer s H vs Q E hr h => ?_)
  exact ⟨t_is_whole K, (pss_one (ps_ret (pe_and (pe_callB call_isi (by rfl) T.n_isinstance (by decide +kernel) (pa_cons (pv 0) (pa_cons (pe_bltn (v := .ty "int") (by rfl) T.n_int (by decide +kernel) rfl) pa_nil))) (pe_one (pe_not (pe_callB call_isi (by rfl) T.n_isinstance (by decide +kernel) (pa_cons (pv 0) (pa_cons (pe_bltn (v := .ty "bool") (by rfl) T.n_bool (by decide +kernel) rfl) pa_nil)))))))), pure_is_whole K vs H Q E h⟩
/-! ### is_fraction -/
noncomputable def isPairD : PyData → PyData → Bool
  | .int n, .int m => decide (0 < m) && decide (((Nat.gcd n.natAbs m.natAbs : Nat) : Int) = 1)
  | _, _ => false
noncomputable def isTwoD : List PyData → Bool
  | [x, y] => isPairD x y
  | _ => false
noncomputable def isFracD : PyData → Bool
  | .tuple ds => isTwoD ds
  | _ => false
theorem isFrac_len {xs : List PyData} (h : xs.length ≠ 2) : isFracD (.tuple xs) = false := by
  match xs with
  | [] => rfl
  | [a] => rfl
  | [a, b] => exact absurd rfl h
  | a :: b :: c :: r => rfl
theorem isFracD_true {d : PyData} (h : isFracD d = true) : ∃ n m : Int, d = .tuple [.int n, .int m] ∧ 0 < m ∧ Nat.gcd n.natAbs m.natAbs = 1 := by
  cases d with
  | tuple ds =>
    match ds with
    | [] => cases h
    | [a] => cases h
    | a :: b :: c :: r => cases h
    | [a, b] =>
      cases a with
      | int n =>
        cases b with
        | int m =>
          have h2 : (decide (0 < m) && decide (((Nat.gcd n.natAbs m.natAbs : Nat) : Int) = 1)) = true := h
          rw [Bool.and_eq_true] at h2
          have h3 := of_decide_eq_true h2.1
          have h4 := of_decide_eq_true h2.2
          exact ⟨n, m, rfl, h3, by omega⟩
        | _ => cases h
      | _ => cases b <;> cases h
  | _ => cases h
noncomputable def pre_is_fraction : List PyData → Prop := fun ds => ∃ v, ds = [v]
noncomputable def post_is_fraction : List PyData → PyData → Prop := fun ds d => ∃ v, ds = [v] ∧ d = .bool (isFracD v)
noncomputable abbrev sp_is_fraction (K : PySem.W.Frag) : Sp := SpP K pre_is_fraction post_is_fraction
theorem len_is_fraction (K : PySem.W.Frag) (vs : List V) (H : Hp) (Q : VK) (E : XK) (h : sp_is_fraction K vs H Q E) : vs.length = p_is_fraction.length := len_P (n := 1) h fun ds hp => by
  obtain ⟨v, e⟩ := hp
  rw [e]; rfl
noncomputable def t_is_fraction (K : PySem.W.Frag) : TS :=
  (tSeq (tIfS (tOr (tNot (tB (tCB (rIsi K) (tCons (tVar 0) (tCons (tC (.ty "tuple")) tNil))))) (tTest (tOp rNe (tCB (rLenQ K) (tCons (tVar 0) tNil)) (tC (.int 2))))) (tRet (tC (.bl false))) tNext)
  (tSeq (tAsg (tVar 0) (gTup K 2 (gCons (gName 1) (gCons (gName 2) gNil))))
  (tSeq (tIfS (tOr (tNot (tB (tCall (sp_is_whole K) [] E0 (tCons (tVar 1) tNil)))) (tNot (tB (tCall (sp_is_whole K) [] E0 (tCons (tVar 2) tNil))))) (tRet (tC (.bl false))) tNext)
  (tRet (tAndV (tOp (rI0 fun i j => .bl (decide (j < i))) (tVar 2) (tC (.int 0))) (tOp rEq (tCB rGcd (tCons (tVar 1) (tCons (tVar 2) tNil))) (tC (.int 1))))))))
theorem pure_is_fraction (K : PySem.W.Frag) (vs : List V) (H : Hp) (Q : VK) (E : XK) (h : sp_is_fraction K vs H Q E) : t_is_fraction K { nx := fun _ H' => Q .non H', rt := Q } (L2.start N_is_fraction vs) H := body_P h fun B ds hW hp => by
  obtain ⟨v, e⟩ := hp
  subst e
  unfold t_is_fraction
  refine st_seq (st_if (et_or (et_not (et_B (ev_isiTup (ev_var rfl ⟨_, rfl, fun hb => ?_, fun hb => ⟨fun _ => ?_, fun z => nomatch z⟩⟩))))))
  · obtain ⟨xs, rfl⟩ := isTupT_true (d := v) (by simpa using hb)
    refine et_test (ev_op (ev_cb (ea_cons (ev_var rfl (ea_nil (co_lenT (ev_int (rok_neI ⟨_, rfl, fun hb => ?_, fun hb => ?_⟩))))))))
    · refine st_ret (ev_bl ⟨_, rfl, ?_⟩)
      rw [isFrac_len]
      intro z
      rw [z] at hb
      cases hb
    · have hl : xs.length = 2 := by
        simp at hb
        omega
      obtain ⟨a, b, rfl⟩ : ∃ a b, xs = [a, b] := by
        match xs, hl with
        | [a, b], _ => exact ⟨a, b, rfl⟩
      refine st_next (st_seq (st_unpack (ev_var rfl ⟨_, rfl, rfl, tg_cons (tg_cons (tg_nil ?_))⟩)))
      refine st_seq (st_if (et_or (et_not (et_B (ev_callP (ea_cons (ev_var rfl (ea_nil ⟨⟨_, rfl⟩, fun d ⟨v, ev, ed⟩ => ?_⟩))))))))
      cases ev
      refine ⟨_, ed, fun hb => ?_, fun hb => ⟨fun _ => ?_, fun z => nomatch z⟩⟩
      · obtain ⟨n, rfl⟩ := isWholeD_true (d := a) (by simpa using hb)
        refine et_not (et_B (ev_callP (ea_cons (ev_var rfl (ea_nil ⟨⟨_, rfl⟩, fun d ⟨v, ev, ed⟩ => ?_⟩)))))
        cases ev
        refine ⟨_, ed, fun hb2 => ?_, fun hb2 => ?_⟩
        · refine st_ret (ev_bl ⟨_, rfl, ?_⟩)
          cases b <;> first | rfl | cases hb2
        · obtain ⟨m, rfl⟩ := isWholeD_true (d := b) (by simpa using hb2)
          refine st_next (st_ret (ev_andV (ev_op (ev_var rfl (ev_int (rok_b0 ⟨_, rfl, fun hb3 => ?_, fun hb3 => ?_⟩))))))
          · refine ev_op (ev_cb (ea_cons (ev_var rfl (ea_cons (ev_var rfl (ea_nil (cok_gcd (ev_int (rok_eqI ⟨_, rfl, ?_⟩)))))))))
            show _ = PyData.bool (decide (0 < m) && decide (((Nat.gcd n.natAbs m.natAbs : Nat) : Int) = 1))
            rw [hb3, Bool.true_and]
          · refine ⟨_, rfl, ?_⟩
            show _ = PyData.bool (decide (0 < m) && decide (((Nat.gcd n.natAbs m.natAbs : Nat) : Int) = 1))
            rw [hb3, Bool.false_and]
      · refine st_ret (ev_bl ⟨_, rfl, ?_⟩)
        cases a <;> first | rfl | cases hb
  · refine st_ret (ev_bl ⟨_, rfl, ?_⟩)
    cases v <;> first | rfl | cases hb
theorem frD_is {x : Fr} (h : FOk x) : isFracD (frD x) = true := by
  show (decide (0 < x.2) && decide (((Nat.gcd x.1.natAbs x.2.natAbs : Nat) : Int) = 1)) = true
  rw [decide_eq_true h.1, decide_eq_true (by rw [h.2]; rfl)]
  rfl

theorem ok_is_fraction (T : Tx K mg) : FnOk P w K mg base CX0 2 T.a_is_fraction T.d_is_fraction p_is_fraction (sp_is_fraction K) := by
  refine T.F_is_fraction.ok sc_is_fraction (fun vs H Q E h => len_is_fraction K vs H Q E h) (fun cdv A outer s H vs Q E hr h => ?_)
  exact ⟨t_is_fraction K, (pss_cons (ps_if (PW.pt (pw_or (pt_not (pt_val (pe_callB call_isi (by rfl) T.n_isinstance (by decide +kernel) (pa_cons (pv 0) (pa_cons (pe_bltn (v := .ty "tuple") (by rfl) T.n_tuple (by decide +kernel) rfl) pa_nil))))) (pw_or1 (pt_cmpR op_ne (pe_callB call_len_seq (by rfl) T.n_len (by decide +kernel) (pa_cons (pv 0) pa_nil)) pe_int (nomark _))))) (pss_one (ps_ret pe_bl)) pss_nil)
  (pss_cons (ps_asg (pv 0) (pg_tup (by rfl) (pgs_cons (pg_name (i := 1) sc_is_fraction.nd rfl (Or.inl rfl)) (pgs_cons (pg_name (i := 2) sc_is_fraction.nd rfl (Or.inl rfl)) pgs_nil))))
  (pss_cons (ps_if (PW.pt (pw_or (pt_not (pt_val (pe_call (ok_is_whole T) (hr.mono (by decide)) rfl T.g_is_whole T.F_is_whole.kp (b_is_whole T) .nil pass0 (pa_cons (pv 1) pa_nil)))) (pw_or1 (pt_not (pt_val (pe_call (ok_is_whole T) (hr.mono (by decide)) rfl T.g_is_whole T.F_is_whole.kp (b_is_whole T) .nil pass0 (pa_cons (pv 2) pa_nil))))))) (pss_one (ps_ret pe_bl)) pss_nil)
  (pss_one (ps_ret (pe_and (pe_cmpR op_gt (pv 2) pe_int (nomark _)) (pe_one (pe_cmpR op_eq (pe_callBfun cr_gcd (by rfl) T.l_gcd (pa_cons (pv 1) (pa_cons (pv 2) pa_nil))) pe_int (nomark _))))))))), pure_is_fraction K vs H Q E h⟩
/-! ### lowest -/

noncomputable def pre_lowest : List PyData → Prop := fun ds => ∃ n m : Int, ds = [.int n, .int m] ∧ 0 < m ∧ m.natAbs < 2 ^ 9000
noncomputable def post_lowest : List PyData → PyData → Prop := fun ds d => ∃ n m : Int, ds = [.int n, .int m] ∧ ∃ x : Fr, d = frD x ∧ FOk x ∧ val x = (n : Rat) / (m : Rat) ∧ x.1.natAbs ≤ n.natAbs ∧ x.2.natAbs ≤ m.natAbs
noncomputable abbrev sp_lowest (K : PySem.W.Frag) : Sp := SpP K pre_lowest post_lowest
theorem len_lowest (K : PySem.W.Frag) (vs : List V) (H : Hp) (Q : VK) (E : XK) (h : sp_lowest K vs H Q E) : vs.length = p_lowest.length := len_P (n := 2) h fun ds hp => by
  obtain ⟨n, m, e, hm, hz⟩ := hp
  rw [e]; rfl
noncomputable def t_lowest (K : PySem.W.Frag) : TS :=
  (tSeq (tAsg (tCB rGcd (tCons (tVar 0) (tCons (tVar 1) tNil))) (gName 2))
  (tRet (tTup (tCons (tOp rFdA (tVar 0) (tVar 2)) (tCons (tOp rFdA (tVar 1) (tVar 2)) tNil)))))
theorem pure_lowest (K : PySem.W.Frag) (vs : List V) (H : Hp) (Q : VK) (E : XK) (h : sp_lowest K vs H Q E) : t_lowest K { nx := fun _ H' => Q .non H', rt := Q } (L2.start N_lowest vs) H := body_P h fun B ds hW hp => by
  obtain ⟨n, m, e, hm, hz⟩ := hp
  subst e
  unfold t_lowest
  refine st_seq (st_asg (ev_cb (ea_cons (ev_var rfl (ea_cons (ev_var rfl (ea_nil (cok_gcd ?_))))))))
  have hg : 0 < Nat.gcd n.natAbs m.natAbs := Nat.gcd_pos_of_pos_right _ (by omega)
  have gl : Nat.gcd n.natAbs m.natAbs ≤ m.natAbs := Nat.le_of_dvd (by omega) (Nat.gcd_dvd_right _ _)
  obtain ⟨p, hp⟩ : ((Nat.gcd n.natAbs m.natAbs : Nat) : Int) ∣ n := Int.ofNat_dvd_left.mpr (Nat.gcd_dvd_left _ _)
  obtain ⟨r, hr⟩ : ((Nat.gcd n.natAbs m.natAbs : Nat) : Int) ∣ m := Int.ofNat_dvd_left.mpr (Nat.gcd_dvd_right _ _)
  have hc : Nat.gcd p.natAbs r.natAbs = 1 := by
    have e1 : n.natAbs = Nat.gcd n.natAbs m.natAbs * p.natAbs := by
      conv => lhs; rw [hp, Int.natAbs_mul, Int.natAbs_natCast]
    have e2 : m.natAbs = Nat.gcd n.natAbs m.natAbs * r.natAbs := by
      conv => lhs; rw [hr, Int.natAbs_mul, Int.natAbs_natCast]
    have e3 : Nat.gcd (Nat.gcd n.natAbs m.natAbs * p.natAbs) (Nat.gcd n.natAbs m.natAbs * r.natAbs) = Nat.gcd n.natAbs m.natAbs * Nat.gcd p.natAbs r.natAbs := Nat.gcd_mul_left ..
    rw [← e1, ← e2] at e3
    exact Nat.eq_of_mul_eq_mul_left hg (by rw [Nat.mul_one]; exact e3.symm)
  generalize Nat.gcd n.natAbs m.natAbs = g at *
  have hg0 : (0 : Int) < (g : Int) := by omega
  have dn : n / (g : Int) = p := by
    rw [hp]
    exact Int.mul_ediv_cancel_left _ (by omega)
  have dm : m / (g : Int) = r := by
    rw [hr]
    exact Int.mul_ediv_cancel_left _ (by omega)
  have cd : CDivW 0 (g : Int) := by
    refine ⟨hg0, ?_⟩
    have := lg (x := (g : Int)) (m := 9000) (by rw [Int.natAbs_natCast]; omega)
    rw [Int.natAbs_natCast] at this ⊢
    exact (Nat.log2_lt (by omega)).mpr (by omega)
  have cdn : CDivW n (g : Int) := cd
  have cdm : CDivW m (g : Int) := cd
  have rn := ratInt_ne (a := m) (by omega)
  have rg := ratInt_ne (a := (g : Int)) (by omega)
  have ln : p.natAbs ≤ n.natAbs := by
    rw [hp, Int.natAbs_mul, Int.natAbs_natCast]
    exact Nat.le_mul_of_pos_left _ hg
  have lm : r.natAbs ≤ m.natAbs := by
    rw [hr, Int.natAbs_mul, Int.natAbs_natCast]
    exact Nat.le_mul_of_pos_left _ hg
  have vp : (n : Rat) = (g : Int) * (p : Rat) := by
    conv => lhs; rw [hp]
    exact Rat.intCast_mul _ _
  have vr : (m : Rat) = (g : Int) * (r : Rat) := by
    conv => lhs; rw [hr]
    exact Rat.intCast_mul _ _
  have r0 : 0 < r := by
    rcases Int.lt_trichotomy r 0 with z | z | z
    · have := Int.mul_neg_of_pos_of_neg hg0 z
      omega
    · rw [z] at hr
      omega
    · exact z
  refine st_ret (ev_tup (ea_cons (ev_op (ev_var rfl (ev_var rfl (ro_fdW cdn ?_))))))
  refine ea_cons (ev_op (ev_var rfl (ev_var rfl (ro_fdW cdm (ea_nil ⟨by simp, n, m, rfl, (p, r), ?_, ⟨r0, hc⟩, ?_, ln, lm⟩)))))
  · rw [dn, dm]
    rfl
  · have := ratInt_ne (a := r) (by omega)
    unfold val
    rw [vp, vr]
    grind
theorem ok_lowest (T : Tx K mg) : FnOk P w K mg base CX0 1 T.a_lowest T.d_lowest p_lowest (sp_lowest K) := by
  refine T.F_lowest.ok sc_lowest (fun vs H Q E h => len_lowest K vs H Q E h) (fun cdv A outer s H vs Q E hr h => ?_)
  exact ⟨t_lowest K, (pss_cons (ps_set (i := 2) sc_lowest.nd rfl (Or.inl rfl) (pe_callBfun cr_gcd (by rfl) T.l_gcd (pa_cons (pv 0) (pa_cons (pv 1) pa_nil))))
  (pss_one (ps_ret (pe_tup (pa_cons (pe_op op_fdA (pv 0) (pv 2)) (pa_cons (pe_op op_fdA (pv 1) (pv 2)) pa_nil)))))), pure_lowest K vs H Q E h⟩
/-! ### sign_of -/

noncomputable def pre_sign_of : List PyData → Prop := fun ds => ∃ n : Int, ds = [.int n]
noncomputable def post_sign_of : List PyData → PyData → Prop := fun ds d => ∃ n : Int, ds = [.int n] ∧ d = .int (sgn n)
noncomputable abbrev sp_sign_of (K : PySem.W.Frag) : Sp := SpP K pre_sign_of post_sign_of
theorem len_sign_of (K : PySem.W.Frag) (vs : List V) (H : Hp) (Q : VK) (E : XK) (h : sp_sign_of K vs H Q E) : vs.length = p_sign_of.length := len_P (n := 1) h fun ds hp => by
  obtain ⟨n, e⟩ := hp
  rw [e]; rfl
noncomputable def t_sign_of (K : PySem.W.Frag) : TS :=
  (tSeq (tIfS (tTest (tOp (rI0 fun i j => .bl (decide (j < i))) (tVar 0) (tC (.int 0)))) (tRet (tC (.int 1))) tNext)
  (tSeq (tIfS (tTest (tOp (rI0 fun i j => .bl (decide (i < j))) (tVar 0) (tC (.int 0)))) (tRet (tUn (rU fun i => .int (-i)) (tC (.int 1)))) tNext)
  (tRet (tC (.int 0)))))
theorem pure_sign_of (K : PySem.W.Frag) (vs : List V) (H : Hp) (Q : VK) (E : XK) (h : sp_sign_of K vs H Q E) : t_sign_of K { nx := fun _ H' => Q .non H', rt := Q } (L2.start N_sign_of vs) H := body_P h fun B ds hW hp => by
  obtain ⟨n, e⟩ := hp
  subst e
  unfold t_sign_of
  refine st_seq (st_if ?_)
  walk_at "dd"
  refine ⟨fun hb => ?_, fun hb => ?_⟩
  · refine st_ret (ev_int ⟨n, rfl, ?_⟩)
    unfold sgn
    rw [if_pos (of_decide_eq_true hb)]
  · refine st_next (st_seq (st_if ?_))
    walk_at "dd"
    refine ⟨fun hb2 => ?_, fun hb2 => ?_⟩
    · walk_at "dd"
      refine ⟨n, rfl, ?_⟩
      unfold sgn
      rw [if_neg (of_decide_eq_false hb), if_pos (of_decide_eq_true hb2)]
    · refine st_next (st_ret (ev_int ⟨n, rfl, ?_⟩))
      unfold sgn
      rw [if_neg (of_decide_eq_false hb), if_neg (of_decide_eq_false hb2)]
theorem ok_sign_of (T : Tx K mg) : FnOk P w K mg base CX0 1 T.a_sign_of T.d_sign_of p_sign_of (sp_sign_of K) := by
  refine T.F_sign_of.ok sc_sign_of (fun vs H Q E h => len_sign_of K vs H Q E h) (fun cdv A outer s H vs Q E hr h => ?_)
  exact ⟨t_sign_of K, (pss_cons (ps_if (pt_cmpR op_gt (pv 0) pe_int (nomark _)) (pss_one (ps_ret pe_int)) pss_nil)
  (pss_cons (ps_if (pt_cmpR op_lt (pv 0) pe_int (nomark _)) (pss_one (ps_ret (pe_un un_neg pe_int))) pss_nil)
  (pss_one (ps_ret pe_int)))), pure_sign_of K vs H Q E h⟩
/-! ### count_changes -/

noncomputable def pre_count_changes : List PyData → Prop := fun ds => ∃ l : List Int, ds = [.list (l.map .int)] ∧ l.length ≤ 400
noncomputable def post_count_changes : List PyData → PyData → Prop := fun ds d => ∃ l : List Int, ds = [.list (l.map .int)] ∧ d = .int (((chs (l.map sgn)).1 : Nat) : Int)
noncomputable abbrev sp_count_changes (K : PySem.W.Frag) : Sp := SpP K pre_count_changes post_count_changes
theorem len_count_changes (K : PySem.W.Frag) (vs : List V) (H : Hp) (Q : VK) (E : XK) (h : sp_count_changes K vs H Q E) : vs.length = p_count_changes.length := len_P (n := 1) h fun ds hp => by
  obtain ⟨l, e, hl⟩ := hp
  rw [e]; rfl
noncomputable def t_count_changes (K : PySem.W.Frag) : TS :=
  (tSeq (tAsg (tC (.int 0)) (gName 1))
  (tSeq (tAsg (tC (.int 0)) (gName 2))
  (tSeq (tFor (iList K (tVar 0)) (gName 3) (tSeq (tAsg (tCall (sp_sign_of K) [] E0 (tCons (tVar 3) tNil)) (gName 4))
  (tIfS (tTest (tOp rNe (tVar 4) (tC (.int 0)))) (tSeq (tIfS (tTest (tOp rEq (tVar 4) (tUn (rU fun i => .int (-i)) (tVar 2)))) (tAug 1 (tC (.int 1)) (ipI fun i j => i + j)) tNext)
  (tAsg (tVar 4) (gName 2))) tNext)))
  (tRet (tVar 1)))))
theorem pure_count_changes (K : PySem.W.Frag) (vs : List V) (H : Hp) (Q : VK) (E : XK) (h : sp_count_changes K vs H Q E) : t_count_changes K { nx := fun _ H' => Q .non H', rt := Q } (L2.start N_count_changes vs) H := body_P h fun B ds hW hp => by
  obtain ⟨l, e, hl⟩ := hp
  subst e
  unfold t_count_changes
  refine st_seq (st_asg (ev_int (st_seq (st_asg (ev_int ?_)))))
  refine st_seq (st_forL (ev_var rfl ⟨_, rfl, fun i L2 Γ2 => ∃ s3 s4 : Sl, L2 = [] ∧ Γ2 = [.d (.list (l.map .int)), .d (.int (((chs ((l.take i).map sgn)).1 : Nat) : Int)), .d (.int (chs ((l.take i).map sgn)).2), s3, s4], ⟨_, _, rfl, rfl⟩, ?_, ?_⟩))
  · rintro i d' L2 Γ2 g hi ⟨s3, s4, rfl, rfl⟩
    obtain ⟨x, hx, rfl⟩ : ∃ x, l[i]? = some x ∧ d' = .int x := map_get hi
    have e1 : chs ((l.take (i + 1)).map sgn) = stp (chs ((l.take i).map sgn)) (sgn x) := by
      rw [List.take_add_one, hx, List.map_append]
      exact chs_snoc _ _
    generalize chs ((l.take i).map sgn) = c at *
    obtain ⟨n, last⟩ := c
    refine st_seq (st_asg (ev_callP (ea_cons (ev_var rfl (ea_nil ⟨⟨x, rfl⟩, fun d ⟨x', ex, ed⟩ => ?_⟩)))))
    cases ex
    subst ed
    refine st_if ?_
    walk_at "dd"
    refine ⟨fun hb => ?_, fun hb => ?_⟩
    · have hz : sgn x ≠ 0 := by simpa using hb
      refine st_seq (st_if ?_)
      walk_at "dd"
      refine ⟨fun hb2 => ?_, fun hb2 => ?_⟩
      · have hz2 : sgn x = -last := of_decide_eq_true hb2
        refine st_augI rfl (ev_int ⟨1, rfl, st_asg (ev_var rfl ⟨.d (.int x), .d (.int (sgn x)), rfl, ?_⟩)⟩)
        rw [e1]
        unfold stp
        rw [if_neg hz]
        show _ = [_, Sl.d (.int (((if sgn x = -last then n + 1 else n : Nat) : Int))), _, _, _]
        rw [if_pos hz2]
        rfl
      · have hz2 : ¬ sgn x = -last := of_decide_eq_false hb2
        refine st_next (st_asg (ev_var rfl ⟨.d (.int x), .d (.int (sgn x)), rfl, ?_⟩))
        rw [e1]
        unfold stp
        rw [if_neg hz]
        show _ = [_, Sl.d (.int (((if sgn x = -last then n + 1 else n : Nat) : Int))), _, _, _]
        rw [if_neg hz2]
        rfl
    · have hz : sgn x = 0 := by simpa using hb
      refine st_next ⟨.d (.int x), .d (.int (sgn x)), rfl, ?_⟩
      rw [e1]
      unfold stp
      rw [if_pos hz]
      rfl
  · rintro L2 Γ2 ⟨s3, s4, rfl, rfl⟩
    refine st_ret (ev_var rfl ⟨l, rfl, ?_⟩)
    rw [List.length_map, List.take_length]
theorem ok_count_changes (T : Tx K mg) : FnOk P w K mg base CX0 2 T.a_count_changes T.d_count_changes p_count_changes (sp_count_changes K) := by
  refine T.F_count_changes.ok sc_count_changes (fun vs H Q E h => len_count_changes K vs H Q E h) (fun cdv A outer s H vs Q E hr h => ?_)
  exact ⟨t_count_changes K, (pss_cons (ps_set (i := 1) sc_count_changes.nd rfl (Or.inl rfl) pe_int)
  (pss_cons (ps_set (i := 2) sc_count_changes.nd rfl (Or.inl rfl) pe_int)
  (pss_cons (ps_for PassesOwn.never rfl (pi_list (pv 0)) (pg_name (i := 3) sc_count_changes.nd rfl (Or.inl rfl)) (pss_cons (ps_set (i := 4) sc_count_changes.nd rfl (Or.inl rfl) (pe_call (ok_sign_of T) (hr.mono (by decide)) rfl T.g_sign_of T.F_sign_of.kp (b_sign_of T) .nil pass0 (pa_cons (pv 3) pa_nil)))
  (pss_one (ps_if (pt_cmpR op_ne (pv 4) pe_int (nomark _)) (pss_cons (ps_if (pt_cmpR op_eq (pv 4) (pe_un un_neg (pv 2)) (nomark _)) (pss_one (ps_aug (i := 1) sc_count_changes.nd rfl (Or.inl rfl) pe_int ip_add)) pss_nil)
  (pss_one (ps_set (i := 2) sc_count_changes.nd rfl (Or.inl rfl) (pv 4)))) pss_nil))))
  (pss_one (ps_ret (pv 1)))))), pure_count_changes K vs H Q E h⟩
/-! ### added -/

noncomputable def pre_added : List PyData → Prop := fun ds => ∃ x y : Fr, ds = [frD x, frD y] ∧ Sm x ∧ Sm y
noncomputable def post_added : List PyData → PyData → Prop := fun ds d => ∃ x y r : Fr, ds = [frD x, frD y] ∧ d = frD r ∧ FOk r ∧ val r = val x + val y
noncomputable abbrev sp_added (K : PySem.W.Frag) : Sp := SpP K pre_added post_added
theorem len_added (K : PySem.W.Frag) (vs : List V) (H : Hp) (Q : VK) (E : XK) (h : sp_added K vs H Q E) : vs.length = p_added.length := len_P (n := 2) h fun ds hp => by
  obtain ⟨x, y, e, hx, hy⟩ := hp
  rw [e]; rfl
noncomputable def t_added (K : PySem.W.Frag) : TS :=
  (tRet (tCall (sp_lowest K) [] E0 (tCons (tOp (rAddA K) (tOp (rMulA K) (tOp (rIx K) (tVar 0) (tC (.int 0))) (tOp (rIx K) (tVar 1) (tC (.int 1)))) (tOp (rMulA K) (tOp (rIx K) (tVar 1) (tC (.int 0))) (tOp (rIx K) (tVar 0) (tC (.int 1))))) (tCons (tOp (rMulA K) (tOp (rIx K) (tVar 0) (tC (.int 1))) (tOp (rIx K) (tVar 1) (tC (.int 1)))) tNil))))
theorem pure_added (K : PySem.W.Frag) (vs : List V) (H : Hp) (Q : VK) (E : XK) (h : sp_added K vs H Q E) : t_added K { nx := fun _ H' => Q .non H', rt := Q } (L2.start N_added vs) H := body_P h fun B ds hW hp => by
  obtain ⟨x, y, e, hx, hy⟩ := hp
  subst e
  unfold t_added
  obtain ⟨x1, x2, x3⟩ := hx
  obtain ⟨y1, y2, y3⟩ := hy
  have nx := ratInt_ne (a := x.2) (by omega)
  have ny := ratInt_ne (a := y.2) (by omega)
  refine st_ret (ev_callP ?_)
  walk_at "dd"
  refine ro_mulW (mulW_of x2 y3 (by decide)) ?_
  walk_at "dd"
  refine ro_mulW (mulW_of y2 x3 (by decide)) ?_
  walk_at "dd"
  refine ro_mulW (mulW_of x3 y3 (by decide)) ?_
  have hm : 0 < x.2 * y.2 := Int.mul_pos x1 y1
  refine ea_nil ⟨⟨_, _, rfl, hm, pow_up (natAbs_mul_lt x3 y3) (by decide)⟩, fun d ⟨n', m', en, r, ed, f, v, _, _⟩ => ?_⟩
  simp only [List.cons.injEq, PyData.int.injEq, and_true] at en
  obtain ⟨rfl, rfl⟩ := en
  refine ⟨x, y, r, rfl, ed, f, ?_⟩
  rw [v]
  unfold val
  rw [Rat.intCast_add, Rat.intCast_mul, Rat.intCast_mul, Rat.intCast_mul]
  grind
theorem ok_added (T : Tx K mg) : FnOk P w K mg base CX0 2 T.a_added T.d_added p_added (sp_added K) := by
  refine T.F_added.ok sc_added (fun vs H Q E h => len_added K vs H Q E h) (fun cdv A outer s H vs Q E hr h => ?_)
  exact ⟨t_added K, (pss_one (ps_ret (pe_call (ok_lowest T) (hr.mono (by decide)) rfl T.g_lowest T.F_lowest.kp (b_lowest T) .nil pass0 (pa_cons (pe_op op_addA (pe_op op_mulA (pe_ix ix_seq (pv 0) pe_int (fun _ _ => rfl)) (pe_ix ix_seq (pv 1) pe_int (fun _ _ => rfl))) (pe_op op_mulA (pe_ix ix_seq (pv 1) pe_int (fun _ _ => rfl)) (pe_ix ix_seq (pv 0) pe_int (fun _ _ => rfl)))) (pa_cons (pe_op op_mulA (pe_ix ix_seq (pv 0) pe_int (fun _ _ => rfl)) (pe_ix ix_seq (pv 1) pe_int (fun _ _ => rfl))) pa_nil))))), pure_added K vs H Q E h⟩
/-! ### subtracted -/

noncomputable def pre_subtracted : List PyData → Prop := fun ds => ∃ x y : Fr, ds = [frD x, frD y] ∧ Sm x ∧ Sm y
noncomputable def post_subtracted : List PyData → PyData → Prop := fun ds d => ∃ x y r : Fr, ds = [frD x, frD y] ∧ d = frD r ∧ FOk r ∧ val r = val x - val y
noncomputable abbrev sp_subtracted (K : PySem.W.Frag) : Sp := SpP K pre_subtracted post_subtracted
theorem len_subtracted (K : PySem.W.Frag) (vs : List V) (H : Hp) (Q : VK) (E : XK) (h : sp_subtracted K vs H Q E) : vs.length = p_subtracted.length := len_P (n := 2) h fun ds hp => by
  obtain ⟨x, y, e, hx, hy⟩ := hp
  rw [e]; rfl
noncomputable def t_subtracted (K : PySem.W.Frag) : TS :=
  (tRet (tCall (sp_lowest K) [] E0 (tCons (tOp (rI0 fun i j => .int (i - j)) (tOp (rMulA K) (tOp (rIx K) (tVar 0) (tC (.int 0))) (tOp (rIx K) (tVar 1) (tC (.int 1)))) (tOp (rMulA K) (tOp (rIx K) (tVar 1) (tC (.int 0))) (tOp (rIx K) (tVar 0) (tC (.int 1))))) (tCons (tOp (rMulA K) (tOp (rIx K) (tVar 0) (tC (.int 1))) (tOp (rIx K) (tVar 1) (tC (.int 1)))) tNil))))
theorem pure_subtracted (K : PySem.W.Frag) (vs : List V) (H : Hp) (Q : VK) (E : XK) (h : sp_subtracted K vs H Q E) : t_subtracted K { nx := fun _ H' => Q .non H', rt := Q } (L2.start N_subtracted vs) H := body_P h fun B ds hW hp => by
  obtain ⟨x, y, e, hx, hy⟩ := hp
  subst e
  unfold t_subtracted
  obtain ⟨x1, x2, x3⟩ := hx
  obtain ⟨y1, y2, y3⟩ := hy
  have nx := ratInt_ne (a := x.2) (by omega)
  have ny := ratInt_ne (a := y.2) (by omega)
  refine st_ret (ev_callP ?_)
  walk_at "dd"
  refine ro_mulW (mulW_of x2 y3 (by decide)) ?_
  walk_at "dd"
  refine ro_mulW (mulW_of y2 x3 (by decide)) ?_
  walk_at "dd"
  refine ro_mulW (mulW_of x3 y3 (by decide)) ?_
  have hm : 0 < x.2 * y.2 := Int.mul_pos x1 y1
  refine ea_nil ⟨⟨_, _, rfl, hm, pow_up (natAbs_mul_lt x3 y3) (by decide)⟩, fun d ⟨n', m', en, r, ed, f, v, _, _⟩ => ?_⟩
  simp only [List.cons.injEq, PyData.int.injEq, and_true] at en
  obtain ⟨rfl, rfl⟩ := en
  refine ⟨x, y, r, rfl, ed, f, ?_⟩
  rw [v]
  unfold val
  rw [Rat.intCast_sub, Rat.intCast_mul, Rat.intCast_mul, Rat.intCast_mul]
  grind
theorem ok_subtracted (T : Tx K mg) : FnOk P w K mg base CX0 2 T.a_subtracted T.d_subtracted p_subtracted (sp_subtracted K) := by
  refine T.F_subtracted.ok sc_subtracted (fun vs H Q E h => len_subtracted K vs H Q E h) (fun cdv A outer s H vs Q E hr h => ?_)
  exact ⟨t_subtracted K, (pss_one (ps_ret (pe_call (ok_lowest T) (hr.mono (by decide)) rfl T.g_lowest T.F_lowest.kp (b_lowest T) .nil pass0 (pa_cons (pe_op op_sub (pe_op op_mulA (pe_ix ix_seq (pv 0) pe_int (fun _ _ => rfl)) (pe_ix ix_seq (pv 1) pe_int (fun _ _ => rfl))) (pe_op op_mulA (pe_ix ix_seq (pv 1) pe_int (fun _ _ => rfl)) (pe_ix ix_seq (pv 0) pe_int (fun _ _ => rfl)))) (pa_cons (pe_op op_mulA (pe_ix ix_seq (pv 0) pe_int (fun _ _ => rfl)) (pe_ix ix_seq (pv 1) pe_int (fun _ _ => rfl))) pa_nil))))), pure_subtracted K vs H Q E h⟩
/-! ### multiplied -/

noncomputable def pre_multiplied : List PyData → Prop := fun ds => ∃ x y : Fr, ds = [frD x, frD y] ∧ Sm x ∧ Sm y
noncomputable def post_multiplied : List PyData → PyData → Prop := fun ds d => ∃ x y r : Fr, ds = [frD x, frD y] ∧ d = frD r ∧ FOk r ∧ val r = val x * val y ∧ r.1.natAbs ≤ (x.1 * y.1).natAbs ∧ r.2.natAbs ≤ (x.2 * y.2).natAbs
noncomputable abbrev sp_multiplied (K : PySem.W.Frag) : Sp := SpP K pre_multiplied post_multiplied
theorem len_multiplied (K : PySem.W.Frag) (vs : List V) (H : Hp) (Q : VK) (E : XK) (h : sp_multiplied K vs H Q E) : vs.length = p_multiplied.length := len_P (n := 2) h fun ds hp => by
  obtain ⟨x, y, e, hx, hy⟩ := hp
  rw [e]; rfl
noncomputable def t_multiplied (K : PySem.W.Frag) : TS :=
  (tRet (tCall (sp_lowest K) [] E0 (tCons (tOp (rMulA K) (tOp (rIx K) (tVar 0) (tC (.int 0))) (tOp (rIx K) (tVar 1) (tC (.int 0)))) (tCons (tOp (rMulA K) (tOp (rIx K) (tVar 0) (tC (.int 1))) (tOp (rIx K) (tVar 1) (tC (.int 1)))) tNil))))
theorem pure_multiplied (K : PySem.W.Frag) (vs : List V) (H : Hp) (Q : VK) (E : XK) (h : sp_multiplied K vs H Q E) : t_multiplied K { nx := fun _ H' => Q .non H', rt := Q } (L2.start N_multiplied vs) H := body_P h fun B ds hW hp => by
  obtain ⟨x, y, e, hx, hy⟩ := hp
  subst e
  unfold t_multiplied
  obtain ⟨x1, x2, x3⟩ := hx
  obtain ⟨y1, y2, y3⟩ := hy
  have nx := ratInt_ne (a := x.2) (by omega)
  have ny := ratInt_ne (a := y.2) (by omega)
  refine st_ret (ev_callP (ea_cons (ev_op (ev_op (ev_var rfl (ev_int (rok_ixsT (d := .int x.1) rfl (ev_op (ev_var rfl (ev_int (rok_ixsT (d := .int y.1) rfl (ro_mulW (mulW_of x2 y2 (by decide)) ?_))))))))))))
  refine ea_cons (ev_op (ev_op (ev_var rfl (ev_int (rok_ixsT (d := .int x.2) rfl (ev_op (ev_var rfl (ev_int (rok_ixsT (d := .int y.2) rfl (ro_mulW (mulW_of x3 y3 (by decide)) (ea_nil ⟨⟨_, _, rfl, Int.mul_pos x1 y1, pow_up (natAbs_mul_lt x3 y3) (by decide)⟩, fun d ⟨n', m', en, r, ed, f, v, l1, l2⟩ => ?_⟩)))))))))))
  simp only [List.cons.injEq, PyData.int.injEq, and_true] at en
  obtain ⟨rfl, rfl⟩ := en
  refine ⟨x, y, r, rfl, ed, f, ?_, l1, l2⟩
  rw [v]
  unfold val
  rw [Rat.intCast_mul, Rat.intCast_mul]
  grind
theorem ok_multiplied (T : Tx K mg) : FnOk P w K mg base CX0 2 T.a_multiplied T.d_multiplied p_multiplied (sp_multiplied K) := by
  refine T.F_multiplied.ok sc_multiplied (fun vs H Q E h => len_multiplied K vs H Q E h) (fun cdv A outer s H vs Q E hr h => ?_)
  exact ⟨t_multiplied K, (pss_one (ps_ret (pe_call (ok_lowest T) (hr.mono (by decide)) rfl T.g_lowest T.F_lowest.kp (b_lowest T) .nil pass0 (pa_cons (pe_op op_mulA (pe_ix ix_seq (pv 0) pe_int (fun _ _ => rfl)) (pe_ix ix_seq (pv 1) pe_int (fun _ _ => rfl))) (pa_cons (pe_op op_mulA (pe_ix ix_seq (pv 0) pe_int (fun _ _ => rfl)) (pe_ix ix_seq (pv 1) pe_int (fun _ _ => rfl))) pa_nil))))), pure_multiplied K vs H Q E h⟩
/-! ### divided -/

noncomputable def pre_divided : List PyData → Prop := fun ds => ∃ x y : Fr, ds = [frD x, frD y] ∧ Sm x ∧ Sm y ∧ y.1 ≠ 0
noncomputable def post_divided : List PyData → PyData → Prop := fun ds d => ∃ x y r : Fr, ds = [frD x, frD y] ∧ d = frD r ∧ FOk r ∧ val r = val x / val y ∧ r.1.natAbs ≤ (x.1 * y.2).natAbs ∧ r.2.natAbs ≤ (x.2 * y.1).natAbs
noncomputable abbrev sp_divided (K : PySem.W.Frag) : Sp := SpP K pre_divided post_divided
theorem len_divided (K : PySem.W.Frag) (vs : List V) (H : Hp) (Q : VK) (E : XK) (h : sp_divided K vs H Q E) : vs.length = p_divided.length := len_P (n := 2) h fun ds hp => by
  obtain ⟨x, y, e, hx, hy, y0⟩ := hp
  rw [e]; rfl
noncomputable def t_divided (K : PySem.W.Frag) : TS :=
  (tSeq (tPar 2 3 (tCons (tOp (rMulA K) (tOp (rIx K) (tVar 0) (tC (.int 0))) (tOp (rIx K) (tVar 1) (tC (.int 1)))) (tCons (tOp (rMulA K) (tOp (rIx K) (tVar 0) (tC (.int 1))) (tOp (rIx K) (tVar 1) (tC (.int 0)))) tNil)))
  (tRet (tIf (tTest (tOp (rI0 fun i j => .bl (decide (j < i))) (tVar 3) (tC (.int 0)))) (tCall (sp_lowest K) [] E0 (tCons (tVar 2) (tCons (tVar 3) tNil))) (tCall (sp_lowest K) [] E0 (tCons (tUn (rU fun i => .int (-i)) (tVar 2)) (tCons (tUn (rU fun i => .int (-i)) (tVar 3)) tNil))))))
theorem pure_divided (K : PySem.W.Frag) (vs : List V) (H : Hp) (Q : VK) (E : XK) (h : sp_divided K vs H Q E) : t_divided K { nx := fun _ H' => Q .non H', rt := Q } (L2.start N_divided vs) H := body_P h fun B ds hW hp => by
  obtain ⟨x, y, e, hx, hy, y0⟩ := hp
  subst e
  unfold t_divided
  obtain ⟨x1, x2, x3⟩ := hx
  obtain ⟨y1, y2, y3⟩ := hy
  have nx := ratInt_ne (a := x.2) (by omega)
  have ny := ratInt_ne (a := y.2) (by omega)
  have nz := ratInt_ne y0
  have e0 : ∀ a b : Fr, atI [PyData.int a.1, .int a.2] 0 = some (.int a.1) ∧ atI [PyData.int a.1, .int a.2] 1 = some (.int a.2) := fun a b => ⟨rfl, rfl⟩
  refine st_seq (st_par (ea_cons (ev_op (ev_op (ev_var rfl (ev_int (rok_ixsT (d := .int x.1) rfl (ev_op (ev_var rfl (ev_int (rok_ixsT (d := .int y.2) rfl (ro_mulW (mulW_of x2 y3 (by decide)) ?_))))))))))))
  refine ea_cons (ev_op (ev_op (ev_var rfl (ev_int (rok_ixsT (d := .int x.2) rfl (ev_op (ev_var rfl (ev_int (rok_ixsT (d := .int y.1) rfl (ro_mulW (mulW_of x3 y2 (by decide)) (ea_nil ⟨_, _, rfl, ?_⟩)))))))))))
  have bm : (x.2 * y.1).natAbs < 2 ^ 9000 := pow_up (natAbs_mul_lt x3 y2) (by decide)
  have fin : ((x.1 * y.2 : Int) : Rat) / ((x.2 * y.1 : Int) : Rat) = val x / val y := by
    unfold val
    rw [Rat.intCast_mul, Rat.intCast_mul]
    grind
  refine st_ret (ev_if (et_test (ev_op (ev_var rfl (ev_int (rok_b0 ⟨_, rfl, fun hb => ?_, fun hb => ?_⟩))))))
  · have m0 := of_decide_eq_true hb
    refine ev_callP (ea_cons (ev_var rfl (ea_cons (ev_var rfl (ea_nil ⟨⟨_, _, rfl, m0, bm⟩, fun d ⟨n', m', en, r, ed, f, v, l1, l2⟩ => ?_⟩)))))
    simp only [List.cons.injEq, PyData.int.injEq, and_true] at en
    obtain ⟨rfl, rfl⟩ := en
    exact ⟨x, y, r, rfl, ed, f, by rw [v, fin], l1, l2⟩
  · have m0 := of_decide_eq_false hb
    have m1 : x.2 * y.1 ≠ 0 := Int.mul_ne_zero (by omega) y0
    refine ev_callP (ea_cons (ev_un (ev_var rfl (uok_neg (ea_cons (ev_un (ev_var rfl (uok_neg (ea_nil ⟨⟨_, _, rfl, by omega, by rw [Int.natAbs_neg]; exact bm⟩, fun d ⟨n', m', en, r, ed, f, v, l1, l2⟩ => ?_⟩)))))))))
    simp only [List.cons.injEq, PyData.int.injEq, and_true] at en
    obtain ⟨rfl, rfl⟩ := en
    rw [Int.natAbs_neg] at l1 l2
    refine ⟨x, y, r, rfl, ed, f, ?_, l1, l2⟩
    rw [v, ← fin, Rat.intCast_neg, Rat.intCast_neg]
    have := ratInt_ne m1
    grind
theorem ok_divided (T : Tx K mg) : FnOk P w K mg base CX0 2 T.a_divided T.d_divided p_divided (sp_divided K) := by
  refine T.F_divided.ok sc_divided (fun vs H Q E h => len_divided K vs H Q E h) (fun cdv A outer s H vs Q E hr h => ?_)
  exact ⟨t_divided K, (pss_cons (ps_par (by rfl) sc_divided.nd rfl rfl (by decide) rfl rfl (pa_cons (pe_op op_mulA (pe_ix ix_seq (pv 0) pe_int (fun _ _ => rfl)) (pe_ix ix_seq (pv 1) pe_int (fun _ _ => rfl))) (pa_cons (pe_op op_mulA (pe_ix ix_seq (pv 0) pe_int (fun _ _ => rfl)) (pe_ix ix_seq (pv 1) pe_int (fun _ _ => rfl))) pa_nil)) (by rfl))
  (pss_one (ps_ret (pe_ifExp (pt_cmpR op_gt (pv 3) pe_int (nomark _)) (pe_call (ok_lowest T) (hr.mono (by decide)) rfl T.g_lowest T.F_lowest.kp (b_lowest T) .nil pass0 (pa_cons (pv 2) (pa_cons (pv 3) pa_nil))) (pe_call (ok_lowest T) (hr.mono (by decide)) rfl T.g_lowest T.F_lowest.kp (b_lowest T) .nil pass0 (pa_cons (pe_un un_neg (pv 2)) (pa_cons (pe_un un_neg (pv 3)) pa_nil))))))), pure_divided K vs H Q E h⟩
/-! ### is_fraction_from_nought -/
noncomputable def numD : PyData → Int
  | .tuple (.int n :: _) => n
  | _ => 0
noncomputable def isRowItem (d : PyData) : Bool := isFracD d && decide (0 ≤ numD d)
noncomputable def isRowD (v : PyData) (n : Int) : Bool := match v with
  | .tuple xs => decide ((xs.length : Int) = n) && xs.all isRowItem
  | _ => false

noncomputable def pre_is_fraction_from_nought : List PyData → Prop := fun ds => ∃ v, ds = [v]
noncomputable def post_is_fraction_from_nought : List PyData → PyData → Prop := fun ds d => ∃ v, ds = [v] ∧ d = .bool (isRowItem v)
noncomputable abbrev sp_is_fraction_from_nought (K : PySem.W.Frag) : Sp := SpP K pre_is_fraction_from_nought post_is_fraction_from_nought
theorem len_is_fraction_from_nought (K : PySem.W.Frag) (vs : List V) (H : Hp) (Q : VK) (E : XK) (h : sp_is_fraction_from_nought K vs H Q E) : vs.length = p_is_fraction_from_nought.length := len_P (n := 1) h fun ds hp => by
  obtain ⟨v, e⟩ := hp
  rw [e]; rfl
noncomputable def t_is_fraction_from_nought (K : PySem.W.Frag) : TS :=
  (tRet (tAndV (tCall (sp_is_fraction K) [] E0 (tCons (tVar 0) tNil)) (tOp (rI0 fun i j => .bl (decide (j ≤ i))) (tOp (rIx K) (tVar 0) (tC (.int 0))) (tC (.int 0)))))
theorem pure_is_fraction_from_nought (K : PySem.W.Frag) (vs : List V) (H : Hp) (Q : VK) (E : XK) (h : sp_is_fraction_from_nought K vs H Q E) : t_is_fraction_from_nought K { nx := fun _ H' => Q .non H', rt := Q } (L2.start N_is_fraction_from_nought vs) H := body_P h fun B ds hW hp => by
  obtain ⟨v, e⟩ := hp
  subst e
  unfold t_is_fraction_from_nought
  refine st_ret (ev_andV (ev_callP (ea_cons (ev_var rfl (ea_nil ⟨⟨_, rfl⟩, fun d ⟨v', ev, ed⟩ => ?_⟩)))))
  cases ev
  refine ⟨_, ed, fun hb => ?_, fun hb => ⟨_, rfl, ?_⟩⟩
  · obtain ⟨p, q, rfl, hq, hg⟩ := isFracD_true hb
    refine ev_op (ev_op (ev_var rfl (ev_int (rok_ixsT (d := .int p) rfl (ev_int (rok_b0 ⟨_, rfl, ?_⟩))))))
    show _ = PyData.bool (isFracD (.tuple [.int p, .int q]) && decide (0 ≤ p))
    rw [hb, Bool.true_and]
  · show _ = PyData.bool (isFracD v && decide (0 ≤ numD v))
    rw [hb]
    rfl
theorem ok_is_fraction_from_nought (T : Tx K mg) : FnOk P w K mg base CX0 3 T.a_is_fraction_from_nought T.d_is_fraction_from_nought p_is_fraction_from_nought (sp_is_fraction_from_nought K) := by
  refine T.F_is_fraction_from_nought.ok sc_is_fraction_from_nought (fun vs H Q E h => len_is_fraction_from_nought K vs H Q E h) (fun cdv A outer s H vs Q E hr h => ?_)
  exact ⟨t_is_fraction_from_nought K, (pss_one (ps_ret (pe_and (pe_call (ok_is_fraction T) (hr.mono (by decide)) rfl T.g_is_fraction T.F_is_fraction.kp (b_is_fraction T) .nil pass0 (pa_cons (pv 0) pa_nil)) (pe_one (pe_cmpR op_ge (pe_ix ix_seq (pv 0) pe_int (fun _ _ => rfl)) pe_int (nomark _)))))), pure_is_fraction_from_nought K vs H Q E h⟩
/-! ### is_index -/

noncomputable def pre_is_index : List PyData → Prop := fun ds => ∃ a b : Int, ds = [.int a, .int b]
noncomputable def post_is_index : List PyData → PyData → Prop := fun ds d => ∃ a b : Int, ds = [.int a, .int b] ∧ d = .bool (decide (0 ≤ a) && decide (a < b))
noncomputable abbrev sp_is_index (K : PySem.W.Frag) : Sp := SpP K pre_is_index post_is_index
theorem len_is_index (K : PySem.W.Frag) (vs : List V) (H : Hp) (Q : VK) (E : XK) (h : sp_is_index K vs H Q E) : vs.length = p_is_index.length := len_P (n := 2) h fun ds hp => by
  obtain ⟨a, b, e⟩ := hp
  rw [e]; rfl
noncomputable def t_is_index (K : PySem.W.Frag) : TS :=
  (tRet (tAndV (tCall (sp_is_whole K) [] E0 (tCons (tVar 0) tNil)) (tChain (rI0 fun i j => .bl (decide (i ≤ j))) (rI0 fun i j => .bl (decide (i < j))) (tC (.int 0)) (tVar 0) (tVar 1))))
theorem pure_is_index (K : PySem.W.Frag) (vs : List V) (H : Hp) (Q : VK) (E : XK) (h : sp_is_index K vs H Q E) : t_is_index K { nx := fun _ H' => Q .non H', rt := Q } (L2.start N_is_index vs) H := body_P h fun B ds hW hp => by
  obtain ⟨a, b, e⟩ := hp
  subst e
  unfold t_is_index
  refine st_ret (ev_andV (ev_callP (ea_cons (ev_var rfl (ea_nil ⟨⟨_, rfl⟩, fun d ⟨v, ev, ed⟩ => ?_⟩)))))
  cases ev
  subst ed
  refine ⟨true, rfl, fun _ => ?_, (fun z => nomatch z)⟩
  refine ev_chain (ev_int (ev_var rfl (rok_b0 ⟨_, rfl, fun hb => ?_, fun hb => ?_⟩)))
  · refine ev_var rfl (rok_b0 ⟨a, b, rfl, ?_⟩)
    rw [hb]
    rfl
  · refine ⟨a, b, rfl, ?_⟩
    rw [hb]
    rfl
theorem ok_is_index (T : Tx K mg) : FnOk P w K mg base CX0 2 T.a_is_index T.d_is_index p_is_index (sp_is_index K) := by
  refine T.F_is_index.ok sc_is_index (fun vs H Q E h => len_is_index K vs H Q E h) (fun cdv A outer s H vs Q E hr h => ?_)
  exact ⟨t_is_index K, (pss_one (ps_ret (pe_and (pe_call (ok_is_whole T) (hr.mono (by decide)) rfl T.g_is_whole T.F_is_whole.kp (b_is_whole T) .nil pass0 (pa_cons (pv 0) pa_nil)) (pe_one (pe_chain op_le op_lt pe_int (pv 0) (pv 1)))))), pure_is_index K vs H Q E h⟩
/-! ### trimmed -/
noncomputable def pre_trimmed : List PyData → Prop := fun ds => ∃ ns : List Int, ds = [.list (ns.map .int)] ∧ ns.length ≤ 1000
noncomputable def post_trimmed : List PyData → PyData → Prop := fun ds d => ∃ ns : List Int, ds = [.list (ns.map .int)] ∧ d = .tuple ((trim ns).map .int)
noncomputable abbrev sp_trimmed (K : PySem.W.Frag) : Sp := SpP K pre_trimmed post_trimmed
theorem len_trimmed (K : PySem.W.Frag) (vs : List V) (H : Hp) (Q : VK) (E : XK) (h : sp_trimmed K vs H Q E) : vs.length = p_trimmed.length := len_P (n := 1) h fun ds hp => by
  obtain ⟨ns, e, hl⟩ := hp
  rw [e]; rfl
noncomputable def t_trimmed (K : PySem.W.Frag) : TS :=
  (tSeq (tAsg (tCB (rLenQ K) (tCons (tVar 0) tNil)) (gName 1))
  (tSeq (tWhile (tAnd (tTest (tOp (rI0 fun i j => .bl (decide (j < i))) (tVar 1) (tC (.int 0)))) (tTest (tOp rEq (tOp (rIx K) (tVar 0) (tOp (rI0 fun i j => .int (i - j)) (tVar 1) (tC (.int 1)))) (tC (.int 0))))) (tAug 1 (tC (.int 1)) (ipI fun i j => i - j)))
  (tRet (tCB (rTupleQ K) (tCons (tSl (rSlX2 K) (tVar 0) tNoPart (tPart (tVar 1))) tNil)))))
theorem pure_trimmed (K : PySem.W.Frag) (vs : List V) (H : Hp) (Q : VK) (E : XK) (h : sp_trimmed K vs H Q E) : t_trimmed K { nx := fun _ H' => Q .non H', rt := Q } (L2.start N_trimmed vs) H := body_P h fun B ds hW hp => by
  obtain ⟨ns, e, hl⟩ := hp
  subst e
  unfold t_trimmed
  refine st_seq (st_asg (ev_cb (ea_cons (ev_var rfl (ea_nil (co_lenL ?_))))))
  rw [List.length_map]
  refine st_seq (st_while (fun m L2 Γ2 => L2 = [] ∧ Γ2 = [.d (.list (ns.map .int)), .d (.int (m : Int))] ∧ m ≤ ns.length ∧ ∀ x ∈ ns.drop m, x = 0) ns.length ⟨rfl, rfl, Nat.le_refl _, by simp⟩ ?_)
  rintro m L2 Γ2 ⟨rfl, rfl, hm, hz⟩
  walk_at "dd"
  refine ⟨fun hb => ?_, fun hb => ?_⟩
  · have hm0 : 0 < m := by
      have := of_decide_eq_true hb
      omega
    have hg : ns[m - 1]? = some (ns.getD (m - 1) 0) := by
      rw [List.getD_eq_getElem?_getD, List.getElem?_eq_getElem (by omega)]
      rfl
    walk_at "dd"
    refine rok_ixsL (d := .int (ns.getD (m - 1) 0)) ?_ ?_
    · rw [show ((m : Int) - 1) = ((m - 1 : Nat) : Int) by omega, atI_n, List.getElem?_map, hg]
      rfl
    walk_at "dd"
    refine ⟨fun hb2 => ?_, fun hb2 => ?_⟩
    · have e0 : ns.getD (m - 1) 0 = 0 := of_decide_eq_true hb2
      refine st_augI rfl (ev_int ⟨_, rfl, m - 1, by omega, rfl, ?_, by omega, fun x hx => ?_⟩)
      · rw [show ((m : Int) - 1) = ((m - 1 : Nat) : Int) by omega]
        rfl
      · have : ns.drop (m - 1) = ns.getD (m - 1) 0 :: ns.drop m := by
          rw [List.drop_eq_getElem_cons (by omega), show m - 1 + 1 = m by omega]
          rw [List.getD_eq_getElem?_getD, List.getElem?_eq_getElem (by omega)]
          rfl
        rw [this] at hx
        rcases List.mem_cons.mp hx with h | h
        · rw [h, e0]
        · exact hz x h
    · have e0 : ns.getD (m - 1) 0 ≠ 0 := of_decide_eq_false hb2
      walk_at "dd"
      refine co_tupL ⟨ns, rfl, ?_⟩
      rw [cutD_take _ (by rw [List.length_map]; exact hm), ← List.map_take, trim_take hz (fun _ => e0)]
  · have hm0 : m = 0 := by
      have := of_decide_eq_false hb
      omega
    subst hm0
    refine ⟨(fun z => nomatch z), fun _ => ?_⟩
    walk_at "dd"
    refine co_tupL ⟨ns, rfl, ?_⟩
    rw [cutD_take _ (by rw [List.length_map]; exact hm), ← List.map_take, trim_take hz (fun z => absurd z (by omega))]
theorem ok_trimmed (T : Tx K mg) : FnOk P w K mg base CX0 1 T.a_trimmed T.d_trimmed p_trimmed (sp_trimmed K) := by
  refine T.F_trimmed.ok sc_trimmed (fun vs H Q E h => len_trimmed K vs H Q E h) (fun cdv A outer s H vs Q E hr h => ?_)
  exact ⟨t_trimmed K, (pss_cons (ps_set (i := 1) sc_trimmed.nd rfl (Or.inl rfl) (pe_callB call_len_seq (by rfl) T.n_len (by decide +kernel) (pa_cons (pv 0) pa_nil)))
  (pss_cons (ps_while PassesOwn.never (PW.pt (pw_and (pt_cmpR op_gt (pv 1) pe_int (nomark _)) (pw_and1 (pt_cmpR op_eq (pe_ix ix_seq (pv 0) (pe_op op_sub (pv 1) pe_int) (fun _ _ => rfl)) pe_int (nomark _))))) (pss_one (ps_aug (i := 1) sc_trimmed.nd rfl (Or.inl rfl) pe_int ip_sub)))
  (pss_one (ps_ret (pe_callTy call_tuple_of (by rfl) T.n_tuple (by decide +kernel) (pa_cons (pe_slice sl_any (pv 0) po_none (po_some (pv 1))) pa_nil)))))), pure_trimmed K vs H Q E h⟩
/-! ### blend -/
noncomputable def pre_blend : List PyData → Prop := fun ds => ∃ (u v : List Int) (a b : Int), ds = [.tuple (u.map .int), .int a, .tuple (v.map .int), .int b] ∧ u.length ≤ 400 ∧ v.length ≤ 400 ∧ a.natAbs < 2 ^ 4000 ∧ b.natAbs < 2 ^ 4000 ∧ bd u 4000 ∧ bd v 4000
noncomputable def post_blend : List PyData → PyData → Prop := fun ds d => ∃ (u v : List Int) (a b : Int), ds = [.tuple (u.map .int), .int a, .tuple (v.map .int), .int b] ∧ d = .tuple ((trim (comb a u b v)).map .int)
noncomputable abbrev sp_blend (K : PySem.W.Frag) : Sp := SpP K pre_blend post_blend
theorem len_blend (K : PySem.W.Frag) (vs : List V) (H : Hp) (Q : VK) (E : XK) (h : sp_blend K vs H Q E) : vs.length = p_blend.length := len_P (n := 4) h fun ds hp => by
  obtain ⟨u, v, a, b, e, hu, hv, ha, hb, bu, bv⟩ := hp
  rw [e]; rfl
noncomputable def t_blend (K : PySem.W.Frag) : TS :=
  (tSeq (tAsg (tLc (iTup K (tVar 0)) (gName 4) tYes (tOp (rMulA K) (tVar 1) (tVar 4)) [4]) (gName 5))
  (tSeq (tDrop (tBM K "list" rExtend (tVar 5) (tCons (tOp (rMulA K) (tLst (tCons (tC (.int 0)) tNil)) (tOp (rI0 fun i j => .int (i - j)) (tCB (rLenQ K) (tCons (tVar 2) tNil)) (tCB (rLenQ K) (tCons (tVar 0) tNil)))) tNil)))
  (tSeq (tFor (iEnumT K (tCons (tVar 2) tNil)) (gTup K 2 (gCons (gName 6) (gCons (gName 4) gNil))) (tAugS (tVar 5) (tVar 6) (tOp (rMulA K) (tVar 3) (tVar 4)) (rGetL K) (ipI fun i j => i + j) rSetL))
  (tRet (tCall (sp_trimmed K) [] E0 (tCons (tVar 5) tNil))))))
theorem pure_blend (K : PySem.W.Frag) (vs : List V) (H : Hp) (Q : VK) (E : XK) (h : sp_blend K vs H Q E) : t_blend K { nx := fun _ H' => Q .non H', rt := Q } (L2.start N_blend vs) H := body_P h fun B ds hW hp => by
  obtain ⟨u, v, a, b, e, hu, hv, ha, hb, bu, bv⟩ := hp
  subst e
  unfold t_blend
  refine st_seq (st_own (en_lcT (wipe1 4) (ev_var rfl ⟨_, rfl, by simp; omega, fun i acc => acc = ((u.take i).map fun x => PyData.int (a * x)), ⟨rfl, fun i D d' acc hi hJ hin => ?_⟩, fun acc hJ => ?_⟩)))
  · obtain ⟨x, hx, rfl⟩ : ∃ x, u[i]? = some x ∧ d' = .int x := map_get hi
    refine et_yes ⟨fun _ => ?_, fun z => nomatch z⟩
    refine ev_op (ev_var rfl (ev_var rfl (ro_mulW (mulW_of (m := 4000) (n := 4000) ha (bu _ (List.mem_of_getElem? hx)) (by decide)) ?_)))
    subst hJ
    rw [List.take_add_one, hx, List.map_append]
    rfl
  · intro l
    rw [List.length_map, List.take_length] at hJ
    subst hJ
    refine st_seq (st_extend rfl ?_)
    walk_at "dd"
    refine ro_repN (by simp; omega) (by simp; omega) (by simp; omega) ⟨_, rfl, by simp; omega, ?_⟩
    have e1 : (u.map fun x => PyData.int (a * x)) ++ (List.replicate (((v.map PyData.int).length : Int) - ((u.map PyData.int).length : Int)).toNat [PyData.int 0]).flatten = (sums a u b v 0).map PyData.int := by
      rw [sums_zero, List.map_append, List.map_map, List.length_map, List.length_map, List.map_replicate, List.flatten_replicate_singleton]
      congr 2
      omega
    rw [e1]
    refine st_seq (st_forE (ea_cons (ev_var rfl (ea_nil ⟨_, rfl, fun i L2 Γ2 => ∃ s1 s2 : Sl, L2 = [l] ∧ Γ2 = [.d (.tuple (u.map .int)), .d (.int a), .d (.tuple (v.map .int)), .d (.int b), s1, .own l ((sums a u b v i).map .int), s2], ⟨_, _, rfl, rfl⟩, ?_, ?_⟩))))
    · rintro i d' L2 Γ2 g hi ⟨s1, s2, rfl, rfl⟩
      obtain ⟨y, hy, rfl⟩ : ∃ x, v[i]? = some x ∧ d' = .int x := map_get hi
      have hi2 : i < v.length := (List.getElem?_eq_some_iff.mp hy).1
      refine st_addOwn rfl (ev_var rfl ⟨i, a * u.getD i 0, rfl, ?_, ?_⟩)
      · rw [List.getElem?_map, sums_at a u b v i i (by omega), if_neg (by omega)]
        simp
      · refine ev_op (ev_var rfl (ev_var rfl (ro_mulW (mulW_of (m := 4000) (n := 4000) hb (bv _ (List.mem_of_getElem? hy)) (by decide)) ?_)))
        refine ⟨_, rfl, .d (.int y), .d (.int (i : Int)), rfl, ?_⟩
        rw [sums_step hy, List.map_set]
        rfl
    · rintro L2 Γ2 ⟨s1, s2, rfl, rfl⟩
      rw [List.length_map, sums_all]
      refine st_freeze 5 rfl (by simp) (st_ret (ev_callP (ea_cons (ev_var rfl (ea_nil ⟨⟨_, rfl, by rw [comb_len]; omega⟩, fun d ⟨ns, en, ed⟩ => ?_⟩)))))
      cases map_int_inj (by injection en with en; injection en)
      exact ⟨u, v, a, b, rfl, ed⟩
theorem ok_blend (T : Tx K mg) : FnOk P w K mg base CX0 2 T.a_blend T.d_blend p_blend (sp_blend K) := by
  refine T.F_blend.ok sc_blend (fun vs H Q E h => len_blend K vs H Q E h) (fun cdv A outer s H vs Q E hr h => ?_)
  exact ⟨t_blend K, (pss_cons (ps_setLc (i := 5) (own := [("number", 4)]) (by rfl) sc_blend.nd rfl rfl (sw_true rfl rfl rfl (by decide +kernel)) (pi_tup (pv 0)) (blkOk_by (own := [("number", 4)]) (N := N_blend) (sc := defScope s_blend) (by decide +kernel)) (fun _ _ _ _ _ => pg_name (i := 4) sc_blend.nd rfl (Or.inl rfl)) (fun _ _ _ _ _ => pts_nil) (fun _ _ _ _ _ => (pe_op op_mulA (pv 1) (pv 4))))
  (pss_cons (ps_expr (pe_bm PySem.F.plainAttrs_list PySem.F.slot_list_extend PySem.F.type_list_extend mt_extend (pv 5) (pa_cons (pe_op op_mulA (pe_lst (pa_cons pe_int pa_nil)) (pe_op op_sub (pe_callB call_len_seq (by rfl) T.n_len (by decide +kernel) (pa_cons (pv 2) pa_nil)) (pe_callB call_len_seq (by rfl) T.n_len (by decide +kernel) (pa_cons (pv 0) pa_nil)))) pa_nil)))
  (pss_cons (ps_for PassesOwn.never rfl (pi_enumT (by rfl) T.n_enumerate (pa_cons (pv 2) pa_nil)) (pg_tup (by rfl) (pgs_cons (pg_name (i := 6) sc_blend.nd rfl (Or.inl rfl)) (pgs_cons (pg_name (i := 4) sc_blend.nd rfl (Or.inl rfl)) pgs_nil))) (pss_one (ps_augS (pv 5) (pv 6) get_list (pe_op op_mulA (pv 3) (pv 4)) ip_add set_list)))
  (pss_one (ps_ret (pe_call (ok_trimmed T) (hr.mono (by decide)) rfl T.g_trimmed T.F_trimmed.kp (b_trimmed T) .nil pass0 (pa_cons (pv 5) pa_nil))))))), pure_blend K vs H Q E h⟩
/-! ### raised -/

noncomputable def pre_raised : List PyData → Prop := fun ds => ∃ u : List Int, ds = [.tuple (u.map .int)] ∧ u ≠ [] ∧ u.length ≤ 400
noncomputable def post_raised : List PyData → PyData → Prop := fun ds d => ∃ u : List Int, ds = [.tuple (u.map .int)] ∧ d = .tuple (((0 : Int) :: u).map .int)
noncomputable abbrev sp_raised (K : PySem.W.Frag) : Sp := SpP K pre_raised post_raised
theorem len_raised (K : PySem.W.Frag) (vs : List V) (H : Hp) (Q : VK) (E : XK) (h : sp_raised K vs H Q E) : vs.length = p_raised.length := len_P (n := 1) h fun ds hp => by
  obtain ⟨u, e, hn, hl⟩ := hp
  rw [e]; rfl
noncomputable def t_raised (K : PySem.W.Frag) : TS :=
  (tSeq (tIfS (tNot (tTru K (tVar 0))) (tRet (tTup tNil)) tNext)
  (tRet (tOp (rAddA K) (tTup (tCons (tC (.int 0)) tNil)) (tVar 0))))
theorem pure_raised (K : PySem.W.Frag) (vs : List V) (H : Hp) (Q : VK) (E : XK) (h : sp_raised K vs H Q E) : t_raised K { nx := fun _ H' => Q .non H', rt := Q } (L2.start N_raised vs) H := body_P h fun B ds hW hp => by
  obtain ⟨u, e, hn, hl⟩ := hp
  subst e
  unfold t_raised
  refine st_seq (st_if (et_not (et_tru (ev_var rfl ⟨trivial, fun hb => ?_, fun hb => ?_⟩))))
  · exfalso
    cases u with
    | nil => exact hn rfl
    | cons x xs => cases hb
  · walk_at "dd"
    refine ro_catT (by simp; omega) ⟨u, rfl, rfl⟩
theorem ok_raised (T : Tx K mg) : FnOk P w K mg base CX0 1 T.a_raised T.d_raised p_raised (sp_raised K) := by
  refine T.F_raised.ok sc_raised (fun vs H Q E h => len_raised K vs H Q E h) (fun cdv A outer s H vs Q E hr h => ?_)
  exact ⟨t_raised K, (pss_cons (ps_if (pt_not (pt_truth (pv 0) (by intro _; rfl))) (pss_one (ps_ret (pe_tup pa_nil))) pss_nil)
  (pss_one (ps_ret (pe_op op_addA (pe_tup (pa_cons pe_int pa_nil)) (pv 0))))), pure_raised K vs H Q E h⟩
/-! ### content -/
noncomputable def pre_content : List PyData → Prop := fun ds => ∃ u : List Int, ds = [.tuple (u.map .int)] ∧ u.length ≤ 400
noncomputable def post_content : List PyData → PyData → Prop := fun ds d => ∃ u : List Int, ds = [.tuple (u.map .int)] ∧ d = .int ((gcdL u : Nat) : Int)
noncomputable abbrev sp_content (K : PySem.W.Frag) : Sp := SpP K pre_content post_content
theorem len_content (K : PySem.W.Frag) (vs : List V) (H : Hp) (Q : VK) (E : XK) (h : sp_content K vs H Q E) : vs.length = p_content.length := len_P (n := 1) h fun ds hp => by
  obtain ⟨u, e, hl⟩ := hp
  rw [e]; rfl
noncomputable def t_content (K : PySem.W.Frag) : TS :=
  (tSeq (tAsg (tC (.int 0)) (gName 1))
  (tSeq (tFor (iTup K (tVar 0)) (gName 2) (tSeq (tAsg (tCB rGcd (tCons (tVar 1) (tCons (tVar 2) tNil))) (gName 1))
  (tIfS (tTest (tOp rEq (tVar 1) (tC (.int 1)))) (tRet (tC (.int 1))) tNext)))
  (tRet (tVar 1))))
theorem pure_content (K : PySem.W.Frag) (vs : List V) (H : Hp) (Q : VK) (E : XK) (h : sp_content K vs H Q E) : t_content K { nx := fun _ H' => Q .non H', rt := Q } (L2.start N_content vs) H := body_P h fun B ds hW hp => by
  obtain ⟨u, e, hl⟩ := hp
  subst e
  unfold t_content
  refine st_seq (st_asg (ev_int ?_))
  refine st_seq (st_forT (ev_var rfl ⟨_, rfl, fun i L2 Γ2 => ∃ s : Sl, L2 = [] ∧ Γ2 = [.d (.tuple (u.map .int)), .d (.int ((gcdL (u.take i) : Nat) : Int)), s], ⟨_, rfl, rfl⟩, ?_, ?_⟩))
  · rintro i d' L2 Γ2 g hi ⟨s, rfl, rfl⟩
    obtain ⟨x, hx, rfl⟩ : ∃ x, u[i]? = some x ∧ d' = .int x := map_get hi
    have e1 : gcdL (u.take (i + 1)) = Nat.gcd ((gcdL (u.take i) : Nat) : Int).natAbs x.natAbs := by
      rw [List.take_add_one, hx, gcdL_append, Int.natAbs_natCast]
      simp [gcdL]
    refine st_seq (st_asg (ev_cb (ea_cons (ev_var rfl (ea_cons (ev_var rfl (ea_nil (cok_gcd ?_))))))))
    rw [← e1]
    walk_at "dd"
    refine ⟨fun hb => ?_, fun hb => ?_⟩
    · refine st_ret (ev_int ⟨u, rfl, ?_⟩)
      have h1 : gcdL (u.take (i + 1)) = 1 := by
        have := of_decide_eq_true hb
        omega
      have h2 : gcdL u ∣ gcdL (u.take (i + 1)) := by
        have := gcdL_append (u.take (i + 1)) (u.drop (i + 1))
        rw [List.take_append_drop] at this
        rw [this]
        exact Nat.gcd_dvd_left _ _
      rw [h1] at h2
      rw [Nat.dvd_one.mp h2]
      rfl
    · refine st_next ⟨_, rfl, rfl⟩
  · rintro L2 Γ2 ⟨s, rfl, rfl⟩
    refine st_ret (ev_var rfl ⟨u, rfl, ?_⟩)
    rw [List.length_map, List.take_length]
theorem ok_content (T : Tx K mg) : FnOk P w K mg base CX0 1 T.a_content T.d_content p_content (sp_content K) := by
  refine T.F_content.ok sc_content (fun vs H Q E h => len_content K vs H Q E h) (fun cdv A outer s H vs Q E hr h => ?_)
  exact ⟨t_content K, (pss_cons (ps_set (i := 1) sc_content.nd rfl (Or.inl rfl) pe_int)
  (pss_cons (ps_for PassesOwn.never rfl (pi_tup (pv 0)) (pg_name (i := 2) sc_content.nd rfl (Or.inl rfl)) (pss_cons (ps_set (i := 1) sc_content.nd rfl (Or.inl rfl) (pe_callBfun cr_gcd (by rfl) T.l_gcd (pa_cons (pv 1) (pa_cons (pv 2) pa_nil))))
  (pss_one (ps_if (pt_cmpR op_eq (pv 1) pe_int (nomark _)) (pss_one (ps_ret pe_int)) pss_nil))))
  (pss_one (ps_ret (pv 1))))), pure_content K vs H Q E h⟩
/-! ### shrunk -/


noncomputable def pre_shrunk : List PyData → Prop := fun ds => ∃ (u : List Int) (g : Int), ds = [.tuple (u.map .int), .int g] ∧ u.length ≤ 400 ∧ CDivW 0 g
noncomputable def post_shrunk : List PyData → PyData → Prop := fun ds d => ∃ (u : List Int) (g : Int), ds = [.tuple (u.map .int), .int g] ∧ d = .tuple ((u.map fun x => x / g).map .int)
noncomputable abbrev sp_shrunk (K : PySem.W.Frag) : Sp := SpP K pre_shrunk post_shrunk
theorem len_shrunk (K : PySem.W.Frag) (vs : List V) (H : Hp) (Q : VK) (E : XK) (h : sp_shrunk K vs H Q E) : vs.length = p_shrunk.length := len_P (n := 2) h fun ds hp => by
  obtain ⟨u, g, e, hl, hz⟩ := hp
  rw [e]; rfl
noncomputable def t_shrunk (K : PySem.W.Frag) : TS :=
  (tRet (tCB (rTupleQ K) (tCons (tLc (iTup K (tVar 0)) (gName 2) tYes (tOp rFdA (tVar 2) (tVar 1)) [2]) tNil)))
theorem pure_shrunk (K : PySem.W.Frag) (vs : List V) (H : Hp) (Q : VK) (E : XK) (h : sp_shrunk K vs H Q E) : t_shrunk K { nx := fun _ H' => Q .non H', rt := Q } (L2.start N_shrunk vs) H := body_P h fun B ds hW hp => by
  obtain ⟨u, g, e, hl, hz⟩ := hp
  subst e
  unfold t_shrunk
  refine st_ret (ev_cb (ea_cons (ev_new (en_lcT (wipe1 2) (ev_var rfl ⟨_, rfl, by simp; omega, fun i acc => acc = ((u.take i).map fun x => PyData.int (x / g)), ⟨rfl, fun i D d' acc hi hJ hin => ?_⟩, fun acc hJ => ?_⟩)))))
  · obtain ⟨x, hx, rfl⟩ : ∃ x, u[i]? = some x ∧ d' = .int x := map_get hi
    refine et_yes ⟨fun _ => ?_, fun z => nomatch z⟩
    refine ev_op (ev_var rfl (ev_var rfl (ro_fdW hz ?_)))
    subst hJ
    rw [List.take_add_one, hx, List.map_append]
    rfl
  · refine ea_nil (co_tupL ⟨u, g, rfl, ?_⟩)
    rw [hJ, List.length_map, List.take_length, List.map_map]
    rfl
theorem ok_shrunk (T : Tx K mg) : FnOk P w K mg base CX0 1 T.a_shrunk T.d_shrunk p_shrunk (sp_shrunk K) := by
  refine T.F_shrunk.ok sc_shrunk (fun vs H Q E h => len_shrunk K vs H Q E h) (fun cdv A outer s H vs Q E hr h => ?_)
  exact ⟨t_shrunk K, (pss_one (ps_ret (pe_callTy call_tuple_of (by rfl) T.n_tuple (by decide +kernel) (pa_cons (pe_lc (own := [("number", 2)]) (by rfl) sc_shrunk.nd (pi_tup (pv 0)) (blkOk_by (own := [("number", 2)]) (N := N_shrunk) (sc := defScope s_shrunk) (by decide +kernel)) (fun _ _ _ _ _ => pg_name (i := 2) sc_shrunk.nd rfl (Or.inl rfl)) (fun _ _ _ _ _ => pts_nil) (fun _ _ _ _ _ => (pe_op op_fdA (pv 2) (pv 1)))) pa_nil)))), pure_shrunk K vs H Q E h⟩
/-! ### thinned -/

noncomputable def pre_thinned : List PyData → Prop := fun ds => ∃ u : List Int, ds = [.tuple (u.map .int)] ∧ u.length ≤ 400 ∧ bd u 4000 ∧ ∃ x ∈ u, x ≠ 0
noncomputable def post_thinned : List PyData → PyData → Prop := fun ds d => ∃ u : List Int, ds = [.tuple (u.map .int)] ∧ d = .tuple ((prim u).map .int)
noncomputable abbrev sp_thinned (K : PySem.W.Frag) : Sp := SpP K pre_thinned post_thinned
theorem len_thinned (K : PySem.W.Frag) (vs : List V) (H : Hp) (Q : VK) (E : XK) (h : sp_thinned K vs H Q E) : vs.length = p_thinned.length := len_P (n := 1) h fun ds hp => by
  obtain ⟨u, e, hl, hb, hn⟩ := hp
  rw [e]; rfl
noncomputable def t_thinned (K : PySem.W.Frag) : TS :=
  (tRet (tCall (sp_shrunk K) [] E0 (tCons (tVar 0) (tCons (tCall (sp_content K) [] E0 (tCons (tVar 0) tNil)) tNil))))
theorem pure_thinned (K : PySem.W.Frag) (vs : List V) (H : Hp) (Q : VK) (E : XK) (h : sp_thinned K vs H Q E) : t_thinned K { nx := fun _ H' => Q .non H', rt := Q } (L2.start N_thinned vs) H := body_P h fun B ds hW hp => by
  obtain ⟨u, e, hl, hb, hn⟩ := hp
  subst e
  unfold t_thinned
  refine st_ret (ev_callP (ea_cons (ev_var rfl (ea_cons (ev_callP (ea_cons (ev_var rfl (ea_nil ⟨⟨u, rfl, hl⟩, fun d ⟨v, ev, ed⟩ => ?_⟩))))))))
  cases map_int_inj (by injection ev with ev; injection ev)
  subst ed
  have hg := gcdL_pos hn
  have hz : CDivW 0 ((gcdL u : Nat) : Int) := by
    obtain ⟨x, hx, hx0⟩ := hn
    refine ⟨by omega, ?_⟩
    have h1 := Int.natAbs_dvd_natAbs.mpr (gcdL_dvd hx)
    have h2 := Nat.le_of_dvd (by omega) h1
    have h3 : ((gcdL u : Nat) : Int).natAbs < 2 ^ 4000 := Nat.lt_of_le_of_lt h2 (hb x hx)
    have := lg h3
    omega
  refine ea_nil ⟨⟨u, _, rfl, hl, hz⟩, fun d ⟨u', g', e, ed⟩ => ⟨u, rfl, ?_⟩⟩
  simp only [List.cons.injEq, and_true, PyData.int.injEq, PyData.tuple.injEq] at e
  obtain ⟨e1, rfl⟩ := e
  obtain rfl := map_int_inj e1
  rw [ed]
  rfl
theorem ok_thinned (T : Tx K mg) : FnOk P w K mg base CX0 2 T.a_thinned T.d_thinned p_thinned (sp_thinned K) := by
  refine T.F_thinned.ok sc_thinned (fun vs H Q E h => len_thinned K vs H Q E h) (fun cdv A outer s H vs Q E hr h => ?_)
  exact ⟨t_thinned K, (pss_one (ps_ret (pe_call (ok_shrunk T) (hr.mono (by decide)) rfl T.g_shrunk T.F_shrunk.kp (b_shrunk T) .nil pass0 (pa_cons (pv 0) (pa_cons (pe_call (ok_content T) (hr.mono (by decide)) rfl T.g_content T.F_content.kp (b_content T) .nil pass0 (pa_cons (pv 0) pa_nil)) pa_nil))))), pure_thinned K vs H Q E h⟩
/-! ### scaled_value -/

noncomputable def pre_scaled_value : List PyData → Prop := fun ds => ∃ (u : List Int) (t b : Int), ds = [rowD u, .int t, .int b] ∧ u.length ≤ 20 ∧ bd u 1200 ∧ t.natAbs < 2 ^ 1200 ∧ b.natAbs < 2 ^ 1200
noncomputable def post_scaled_value : List PyData → PyData → Prop := fun ds d => ∃ (u : List Int) (t b : Int), ds = [rowD u, .int t, .int b] ∧ d = .int (hor t b u)
noncomputable abbrev sp_scaled_value (K : PySem.W.Frag) : Sp := SpP K pre_scaled_value post_scaled_value
theorem len_scaled_value (K : PySem.W.Frag) (vs : List V) (H : Hp) (Q : VK) (E : XK) (h : sp_scaled_value K vs H Q E) : vs.length = p_scaled_value.length := len_P (n := 3) h fun ds hp => by
  obtain ⟨u, t, b, e, hl, hu, ht, hb⟩ := hp
  rw [e]; rfl
noncomputable def t_scaled_value (K : PySem.W.Frag) : TS :=
  (tSeq (tAsg (tC (.int 0)) (gName 3))
  (tSeq (tAsg (tC (.int 1)) (gName 4))
  (tSeq (tFor (RT.iRevA K (tVar 0)) (gName 5) (tSeq (tAsg (tOp (rAddA K) (tOp (rMulA K) (tVar 3) (tVar 1)) (tOp (rMulA K) (tVar 5) (tVar 4))) (gName 3))
  (tAug 4 (tVar 2) ipM)))
  (tRet (tVar 3)))))
theorem pure_scaled_value (K : PySem.W.Frag) (vs : List V) (H : Hp) (Q : VK) (E : XK) (h : sp_scaled_value K vs H Q E) : t_scaled_value K { nx := fun _ H' => Q .non H', rt := Q } (L2.start N_scaled_value vs) H := body_P h fun B ds hW hp => by
  obtain ⟨u, t, b, e, hl, hu, ht, hb⟩ := hp
  subst e
  unfold t_scaled_value
  refine st_seq (st_asg (ev_int (st_seq (st_asg (ev_int ?_)))))
  refine st_seq (st_forRevT (ev_var rfl ⟨u.map .int, rfl, fun i L2 Γ2 => ∃ s5 : Sl, L2 = [] ∧ Γ2 = [.d (rowD u), .d (.int t), .d (.int b), .d (.int (hor t b (u.drop (u.length - i)))), .d (.int (b ^ i)), s5], ⟨.un, rfl, ?_⟩, ?_, ?_⟩))
  · rw [Nat.sub_zero, List.drop_length, Int.pow_zero]
    rfl
  · rintro i d' L2 Γ2 g hin hi ⟨s5, rfl, rfl⟩
    rw [List.length_map] at hin hi
    obtain ⟨x, hx, rfl⟩ : ∃ x, u[u.length - 1 - i]? = some x ∧ d' = .int x := map_get hi
    have bx := hu x (List.mem_of_getElem? hx)
    have bh := hor_bd ht hb (u.drop (u.length - i)) fun y hy => hu y (List.mem_of_mem_drop hy)
    have bp := natAbs_pow_lt hb i
    rw [List.length_drop] at bh
    have hle : (2 * 1200 + 2) * (u.length - (u.length - i)) + 1 ≤ 60000 := by omega
    have hd : u.drop (u.length - (i + 1)) = x :: u.drop (u.length - i) := by
      rw [show u.length - (i + 1) = u.length - 1 - i by omega, List.drop_eq_getElem_cons (by omega), show u.length - 1 - i + 1 = u.length - i by omega]
      congr 1
      have := List.getElem?_eq_getElem (l := u) (i := u.length - 1 - i) (by omega)
      rw [hx] at this
      exact (Option.some.inj this).symm
    refine st_seq (st_asg ?_)
    walk_at "dd"
    refine ro_mulW (mulW_of (pow_up bh hle) ht (by decide)) ?_
    walk_at "dd"
    refine ro_mulW (mulW_of bx (pow_up bp (show 1200 * i + 1 ≤ 60000 by omega)) (by decide)) ?_
    walk_at "dd"
    refine st_augM rfl (ev_var rfl ⟨b, rfl, mulW_of (pow_up bp (show 1200 * i + 1 ≤ 60000 by omega)) hb (by decide), .d (.int x), rfl, ?_⟩)
    rw [hd]
    show [_, _, _, _, _, _] = [_, _, _, Sl.d (.int (hor t b (u.drop (u.length - i)) * t + x * b ^ (u.drop (u.length - i)).length)), _, _]
    rw [List.length_drop, show u.length - (u.length - i) = i by omega, Int.pow_succ]
  · rintro L2 Γ2 ⟨s5, rfl, rfl⟩
    refine st_ret (ev_var rfl ⟨u, t, b, rfl, ?_⟩)
    rw [List.length_map, Nat.sub_self, List.drop_zero]
theorem ok_scaled_value (T : Tx K mg) : FnOk P w K mg base CX0 1 T.a_scaled_value T.d_scaled_value p_scaled_value (sp_scaled_value K) := by
  refine T.F_scaled_value.ok sc_scaled_value (fun vs H Q E h => len_scaled_value K vs H Q E h) (fun cdv A outer s H vs Q E hr h => ?_)
  exact ⟨t_scaled_value K, (pss_cons (ps_set (i := 3) sc_scaled_value.nd rfl (Or.inl rfl) pe_int)
  (pss_cons (ps_set (i := 4) sc_scaled_value.nd rfl (Or.inl rfl) pe_int)
  (pss_cons (ps_for PassesOwn.never rfl (RT.pi_revA (by rfl) T.n_reversed (pv 0)) (pg_name (i := 5) sc_scaled_value.nd rfl (Or.inl rfl)) (pss_cons (ps_set (i := 3) sc_scaled_value.nd rfl (Or.inl rfl) (pe_op op_addA (pe_op op_mulA (pv 3) (pv 1)) (pe_op op_mulA (pv 5) (pv 4))))
  (pss_one (ps_aug (i := 4) sc_scaled_value.nd rfl (Or.inl rfl) (pv 2) ip_mul))))
  (pss_one (ps_ret (pv 3)))))), pure_scaled_value K vs H Q E h⟩
/-! ### dyadic_value -/

noncomputable def pre_dyadic_value : List PyData → Prop := fun ds => ∃ a b : Int, ds = [.tuple [], .int a, .int b]
noncomputable def post_dyadic_value : List PyData → PyData → Prop := fun ds d => d = .int 0
noncomputable abbrev sp_dyadic_value (K : PySem.W.Frag) : Sp := SpP K pre_dyadic_value post_dyadic_value
theorem len_dyadic_value (K : PySem.W.Frag) (vs : List V) (H : Hp) (Q : VK) (E : XK) (h : sp_dyadic_value K vs H Q E) : vs.length = p_dyadic_value.length := len_P (n := 3) h fun ds hp => by
  obtain ⟨a, b, e⟩ := hp
  rw [e]; rfl
noncomputable def t_dyadic_value (K : PySem.W.Frag) : TS :=
  (tSeq (tAsg (tC (.int 0)) (gName 3))
  (tSeq (tAsg (tC (.int 0)) (gName 4))
  (tSeq (tFor (RT.iRevA K (tVar 0)) (gName 5) tNever)
  (tRet (tVar 3)))))
theorem pure_dyadic_value (K : PySem.W.Frag) (vs : List V) (H : Hp) (Q : VK) (E : XK) (h : sp_dyadic_value K vs H Q E) : t_dyadic_value K { nx := fun _ H' => Q .non H', rt := Q } (L2.start N_dyadic_value vs) H := body_P h fun B ds hW hp => by
  obtain ⟨a, b, e⟩ := hp
  subst e
  unfold t_dyadic_value
  refine st_seq (st_asg (ev_int (st_seq (st_asg (ev_int ?_)))))
  refine st_seq (st_forRevT (ev_var rfl ⟨[], rfl, fun i L2 Γ2 => L2 = [] ∧ Γ2 = [.d (.tuple []), .d (.int a), .d (.int b), .d (.int 0), .d (.int 0), .un], ⟨rfl, rfl⟩, ?_, ?_⟩))
  · rintro i d' L2 Γ2 g hin hi _
    exact absurd hin (by simp)
  · rintro L2 Γ2 ⟨rfl, rfl⟩
    exact st_ret (ev_var rfl rfl)
theorem ok_dyadic_value (T : Tx K mg) : FnOk P w K mg base CX0 1 T.a_dyadic_value T.d_dyadic_value p_dyadic_value (sp_dyadic_value K) := by
  refine T.F_dyadic_value.ok sc_dyadic_value (fun vs H Q E h => len_dyadic_value K vs H Q E h) (fun cdv A outer s H vs Q E hr h => ?_)
  exact ⟨t_dyadic_value K, (pss_cons (ps_set (i := 3) sc_dyadic_value.nd rfl (Or.inl rfl) pe_int)
  (pss_cons (ps_set (i := 4) sc_dyadic_value.nd rfl (Or.inl rfl) pe_int)
  (pss_cons (ps_for PassesOwn.never rfl (RT.pi_revA (by rfl) T.n_reversed (pv 0)) (pg_name (i := 5) sc_dyadic_value.nd rfl (Or.inl rfl)) pss_never)
  (pss_one (ps_ret (pv 3)))))), pure_dyadic_value K vs H Q E h⟩
/-! ### fraction_sign -/
theorem row3_inj {u v : List Int} {a b c d : Int} (h : [rowD u, .int a, .int b] = [rowD v, .int c, .int d]) : u = v ∧ a = c ∧ b = d := by
  unfold rowD at h
  simp only [List.cons.injEq, PyData.tuple.injEq, PyData.int.injEq, and_true] at h
  exact ⟨map_int_inj h.1, h.2.1, h.2.2⟩
noncomputable def pre_fraction_sign : List PyData → Prop := fun ds => ∃ (u : List Int) (p : Fr), ds = [rowD u, frD p] ∧ u.length ≤ 20 ∧ bd u 1200 ∧ p.1.natAbs < 2 ^ 1200 ∧ p.2.natAbs < 2 ^ 1200
noncomputable def post_fraction_sign : List PyData → PyData → Prop := fun ds d => ∃ (u : List Int) (p : Fr), ds = [rowD u, frD p] ∧ d = .int (sgn (hor p.1 p.2 u))
noncomputable abbrev sp_fraction_sign (K : PySem.W.Frag) : Sp := SpP K pre_fraction_sign post_fraction_sign
theorem len_fraction_sign (K : PySem.W.Frag) (vs : List V) (H : Hp) (Q : VK) (E : XK) (h : sp_fraction_sign K vs H Q E) : vs.length = p_fraction_sign.length := len_P (n := 2) h fun ds hp => by
  obtain ⟨u, p, e, hl, hu, ht, hb⟩ := hp
  rw [e]; rfl
noncomputable def t_fraction_sign (K : PySem.W.Frag) : TS :=
  (tRet (tCall (sp_sign_of K) [] E0 (tCons (tCall (sp_scaled_value K) [] E0 (tCons (tVar 0) (tCons (tOp (rIx K) (tVar 1) (tC (.int 0))) (tCons (tOp (rIx K) (tVar 1) (tC (.int 1))) tNil)))) tNil)))
theorem pure_fraction_sign (K : PySem.W.Frag) (vs : List V) (H : Hp) (Q : VK) (E : XK) (h : sp_fraction_sign K vs H Q E) : t_fraction_sign K { nx := fun _ H' => Q .non H', rt := Q } (L2.start N_fraction_sign vs) H := body_P h fun B ds hW hp => by
  obtain ⟨u, p, e, hl, hu, ht, hb⟩ := hp
  subst e
  unfold t_fraction_sign
  refine st_ret (ev_callP (ea_cons (ev_callP ?_)))
  walk_at "dd"
  refine ⟨⟨u, p.1, p.2, rfl, hl, hu, ht, hb⟩, fun d ⟨u', t', b', e, ed⟩ => ?_⟩
  obtain ⟨rfl, rfl, rfl⟩ := row3_inj e
  subst ed
  refine ea_nil ⟨⟨_, rfl⟩, fun d ⟨n, en, ed⟩ => ?_⟩
  cases en
  exact ⟨u, p, rfl, ed⟩
theorem ok_fraction_sign (T : Tx K mg) : FnOk P w K mg base CX0 2 T.a_fraction_sign T.d_fraction_sign p_fraction_sign (sp_fraction_sign K) := by
  refine T.F_fraction_sign.ok sc_fraction_sign (fun vs H Q E h => len_fraction_sign K vs H Q E h) (fun cdv A outer s H vs Q E hr h => ?_)
  exact ⟨t_fraction_sign K, (pss_one (ps_ret (pe_call (ok_sign_of T) (hr.mono (by decide)) rfl T.g_sign_of T.F_sign_of.kp (b_sign_of T) .nil pass0 (pa_cons (pe_call (ok_scaled_value T) (hr.mono (by decide)) rfl T.g_scaled_value T.F_scaled_value.kp (b_scaled_value T) .nil pass0 (pa_cons (pv 0) (pa_cons (pe_ix ix_seq (pv 1) pe_int (fun _ _ => rfl)) (pa_cons (pe_ix ix_seq (pv 1) pe_int (fun _ _ => rfl)) pa_nil)))) pa_nil)))), pure_fraction_sign K vs H Q E h⟩
/-! ### Place___init__ -/
noncomputable def sp_Place___init__ (K : PySem.W.Frag) (C : Addr) : Sp := fun vs H Q _ => ∃ (x dx : Addr) (vt vp vc : V) (p : Fr), vs = [.ref x, vt, vp, vc] ∧ H x = some (.ins C dx []) ∧ Dn K (hid [x] H) vt (frD p) ∧ Dn K (hid [x] H) vp (.tuple []) ∧ Dn K (hid [x] H) vc (.tuple [.int 0, .int 0, .int 0]) ∧
  ∀ fs H', (∀ b o, b ≠ x → H b = some o → H' b = some o) → H' x = some (.ins C dx fs) → fs.lookup ("told" : Str) = some vt → fs.lookup ("polynomial" : Str) = some vp → Q .non H'
noncomputable def t_Place___init__ (K : PySem.W.Frag) : TS :=
  (tSeq (sFld K (tVar 0) (tVar 1) "told")
  (tSeq (sFld K (tVar 0) (tVar 2) "polynomial")
  (tSeq (tAsg (tVar 3) (gTup K 3 (gCons (gFld K (tVar 0) "low") (gCons (gFld K (tVar 0) "high") (gCons (gFld K (tVar 0) "bits") gNil)))))
  (tSeq (sFld K (tVar 0) (tCall (sp_sign_of K) [] E0 (tCons (tCall (sp_dyadic_value K) [] E0 (tCons (tVar 2) (tCons (tFld K (tVar 0) "low") (tCons (tFld K (tVar 0) "bits") tNil)))) tNil)) "start")
  (tSeq (sFld K (tVar 0) (tC (.int 1)) "leap")
  (sFld K (tVar 0) (tC (.int 0)) "rounds"))))))
theorem ok_Place___init__ (T : Tx K mg) : FnOk P w K mg base CX0 2 T.a_Place___init__ T.d_Place___init__ p_Place___init__ (sp_Place___init__ K T.c_Place) := by
  refine T.F_Place___init__.ok sc_Place___init__ (fun vs H Q E h => ?_) (fun cdv A outer s H vs Q E hr h => ?_)
  · obtain ⟨x, dx, vt, vp, vc, p, rfl, _⟩ := h
    rfl
  refine ⟨t_Place___init__ K, (pss_cons (ps_fld (pv 0) (pv 1) rfl)
  (pss_cons (ps_fld (pv 0) (pv 2) rfl)
  (pss_cons (ps_asg (pv 3) (pg_tup (by rfl) (pgs_cons (pg_fld (pv 0)) (pgs_cons (pg_fld (pv 0)) (pgs_cons (pg_fld (pv 0)) pgs_nil)))))
  (pss_cons (ps_fld (pv 0) (pe_call (ok_sign_of T) (hr.mono (by decide)) rfl T.g_sign_of T.F_sign_of.kp (b_sign_of T) .nil pass0 (pa_cons (pe_call (ok_dyadic_value T) (hr.mono (by decide)) rfl T.g_dyadic_value T.F_dyadic_value.kp (b_dyadic_value T) .nil pass0 (pa_cons (pv 2) (pa_cons (pe_fld (pv 0) rfl) (pa_cons (pe_fld (pv 0) rfl) pa_nil)))) pa_nil)) rfl)
  (pss_cons (ps_fld (pv 0) pe_int rfl)
  (pss_one (ps_fld (pv 0) pe_int rfl))))))), ?_⟩
  obtain ⟨x, dx, vt, vp, vc, p, rfl, hx, dt, dp, dc, q⟩ := h
  unfold t_Place___init__
  have lk : ∀ (fs : List (Str × V)) (f g : Str) (v : V), f ≠ g → (putF f v fs).lookup g = fs.lookup g := fun fs f g v ne => by rw [lookup_putF, if_neg (Ne.symm ne)]
  have ls : ∀ (fs : List (Str × V)) (f : Str) (v : V), (putF f v fs).lookup f = some v := fun fs f v => by rw [lookup_putF, if_pos rfl]
  have le : ∀ (fs : List (Str × V)) (f : Str) (v : V) (n : Nat), fs.length ≤ n → (putF f v fs).length ≤ n + 1 := fun fs f v n h => Nat.le_trans (length_putF f v fs) (by omega)
  -- told, polynomial
  refine ⟨_, rfl, _, rfl, x, T.c_Place, dx, [], rfl, hx, T.cl_Place, T.na_Place_told, (by show 0 < 1000; decide), ?_⟩
  have l1 := le [] "told" vt 0 (Nat.le_refl _)
  refine ⟨_, rfl, _, rfl, x, T.c_Place, dx, _, rfl, upd_same, T.cl_Place, T.na_Place_polynomial, by omega, ?_⟩
  have l2 := le _ "polynomial" vp _ l1
  -- the cell
  have keep : ∀ (G : Hp) (o : HO), (∀ b u, b ≠ x → H b = some u → G b = some u) → Same (hid [x] H) (hid [x] (upd G x o)) := fun G o hG b u e => by
    obtain ⟨n, e⟩ := hid_some e
    have n' : b ≠ x := fun z => n (by rw [z]; exact List.mem_singleton.mpr rfl)
    rw [hid_out n, upd_ne n']
    exact hG b u n' e
  have h0 : ∀ b u, b ≠ x → H b = some u → H b = some u := fun _ _ _ e => e
  have hstep : ∀ (G : Hp) (o : HO), (∀ b u, b ≠ x → H b = some u → G b = some u) → ∀ b u, b ≠ x → H b = some u → upd G x o b = some u := fun G o hG b u n e => by rw [upd_ne n]; exact hG b u n e
  have k1 := hstep H (.ins T.c_Place dx (putF "told" vt [])) h0
  have dc1 := dc.mono (keep _ (.ins T.c_Place dx (putF "polynomial" vp (putF "told" vt []))) k1)
  have k2 := hstep _ (.ins T.c_Place dx (putF "polynomial" vp (putF "told" vt []))) k1
  generalize hH2 : upd (upd H x (.ins T.c_Place dx (putF "told" vt []))) x (.ins T.c_Place dx (putF "polynomial" vp (putF "told" vt []))) = H2 at *
  have hx2 : H2 x = some (.ins T.c_Place dx (putF "polynomial" vp (putF "told" vt []))) := by rw [← hH2]; exact upd_same
  cases dc1 with
  | @tup a xs _ e1 h2 =>
    obtain rfl : xs = [.int 0, .int 0, .int 0] := DnA.ints (ns := [0, 0, 0]) h2
    refine ⟨_, rfl, a, _, rfl, Same.sqt (hid_sub _ _) e1, rfl, ?_⟩
    refine ⟨_, _, rfl, _, rfl, x, T.c_Place, dx, _, rfl, hx2, T.cl_Place, T.na_Place_low, by omega, ?_⟩
    have l3 := le _ "low" (V.int 0) _ l2
    refine ⟨_, _, rfl, _, rfl, x, T.c_Place, dx, _, rfl, upd_same, T.cl_Place, T.na_Place_high, by omega, ?_⟩
    have l4 := le _ "high" (V.int 0) _ l3
    refine ⟨_, _, rfl, _, rfl, x, T.c_Place, dx, _, rfl, upd_same, T.cl_Place, T.na_Place_bits, by omega, rfl, ?_⟩
    have l5 := le _ "bits" (V.int 0) _ l4
    -- the sign at its low end
    have dp5 : ∀ G : Hp, (∀ b u, b ≠ x → H b = some u → G b = some u) → Dn K (hid [x] G) vp (.tuple []) := fun G hG => dp.mono (fun b u e => by
      obtain ⟨n, e⟩ := hid_some e
      rw [hid_out n]
      exact hG b u (fun z => n (by rw [z]; exact List.mem_singleton.mpr rfl)) e)
    have k3 := hstep _ (.ins T.c_Place dx (putF "low" (V.int 0) (putF "polynomial" vp (putF "told" vt [])))) k2
    have k4 := hstep _ (.ins T.c_Place dx (putF "high" (V.int 0) (putF "low" (V.int 0) (putF "polynomial" vp (putF "told" vt []))))) k3
    have k5 := hstep _ (.ins T.c_Place dx (putF "bits" (V.int 0) (putF "high" (V.int 0) (putF "low" (V.int 0) (putF "polynomial" vp (putF "told" vt [])))))) k4
    have lkT : ∀ (fs : List (Str × V)) (v1 v2 v3 v4 v5 v6 : V), (putF "rounds" v6 (putF "leap" v5 (putF "start" v4 (putF "bits" v3 (putF "high" v2 (putF "low" v1 (putF "polynomial" vp (putF "told" vt fs)))))))).lookup ("told" : Str) = some vt := fun fs v1 v2 v3 v4 v5 v6 => by
      rw [lk _ _ _ _ (by decide +kernel), lk _ _ _ _ (by decide +kernel), lk _ _ _ _ (by decide +kernel), lk _ _ _ _ (by decide +kernel), lk _ _ _ _ (by decide +kernel), lk _ _ _ _ (by decide +kernel), lk _ _ _ _ (by decide +kernel), ls]
    have lkP : ∀ (fs : List (Str × V)) (v1 v2 v3 v4 v5 v6 : V), (putF "rounds" v6 (putF "leap" v5 (putF "start" v4 (putF "bits" v3 (putF "high" v2 (putF "low" v1 (putF "polynomial" vp fs))))))).lookup ("polynomial" : Str) = some vp := fun fs v1 v2 v3 v4 v5 v6 => by
      rw [lk _ _ _ _ (by decide +kernel), lk _ _ _ _ (by decide +kernel), lk _ _ _ _ (by decide +kernel), lk _ _ _ _ (by decide +kernel), lk _ _ _ _ (by decide +kernel), lk _ _ _ _ (by decide +kernel), ls]
    have lkL : ∀ (fs : List (Str × V)) (v1 v2 v3 : V), (putF "bits" v3 (putF "high" v2 (putF "low" v1 fs))).lookup ("low" : Str) = some v1 := fun fs v1 v2 v3 => by
      rw [lk _ _ _ _ (by decide +kernel), lk _ _ _ _ (by decide +kernel), ls]
    generalize hH5 : upd (upd (upd H2 x _) x _) x (.ins T.c_Place dx (putF "bits" (V.int 0) (putF "high" (V.int 0) (putF "low" (V.int 0) (putF "polynomial" vp (putF "told" vt [])))))) = H5 at k5 ⊢
    have hx5 : H5 x = some (.ins T.c_Place dx (putF "bits" (V.int 0) (putF "high" (V.int 0) (putF "low" (V.int 0) (putF "polynomial" vp (putF "told" vt [])))))) := by rw [← hH5]; exact upd_same
    refine ⟨_, rfl, _, rfl, x, T.c_Place, dx, _, _, rfl, hx5, T.cl_Place, T.na_Place_low, lkL _ _ _ _, _, rfl, x, T.c_Place, dx, _, _, rfl, hx5, T.cl_Place, T.na_Place_bits, ls _ _ _, ?_⟩
    refine ⟨[x], [.tuple [], .int 0, .int 0], fun m hm => ?_, .cons (dp5 H5 k5) (.cons (.int 0) (.cons (.int 0) .nil)), ⟨0, 0, rfl⟩, fun v d H6 s6 dv hd => ?_⟩
    · rw [List.mem_singleton.mp hm]
      exact ⟨_, hx5⟩
    rw [show d = .int 0 from hd] at dv
    obtain rfl : v = .int 0 := dn_int dv
    have hx6 := s6 _ _ hx5
    refine ⟨[x], [.int 0], fun m hm => ?_, .cons (.int 0) .nil, ⟨0, rfl⟩, fun v d H7 s7 dv hd => ?_⟩
    · rw [List.mem_singleton.mp hm]
      exact ⟨_, hx6⟩
    have hx7 := s7 _ _ hx6
    have k7 : ∀ b u, b ≠ x → H b = some u → H7 b = some u := fun b u n e => s7 _ _ (s6 _ _ (k5 b u n e))
    refine ⟨_, rfl, x, T.c_Place, dx, _, rfl, hx7, T.cl_Place, T.na_Place_start, by omega, ?_⟩
    have l6 := le _ "start" v _ l5
    refine ⟨_, rfl, x, T.c_Place, dx, _, rfl, upd_same, T.cl_Place, T.na_Place_leap, by omega, ?_⟩
    have l7 := le _ "leap" (V.int 1) _ l6
    refine ⟨_, rfl, x, T.c_Place, dx, _, rfl, upd_same, T.cl_Place, T.na_Place_rounds, by omega, ?_⟩
    exact q _ _ (hstep _ _ (hstep _ _ (hstep _ _ k7))) upd_same (lkT _ _ _ _ _ _ _) (lkP _ _ _ _ _ _ _)
/-! ### fraction_place -/
noncomputable abbrev sp_fraction_place (K : PySem.W.Frag) : Sp := SpMk K
theorem ok_fraction_place (T : Tx K mg) : FnOk P w K mg base CX0 4 T.a_fraction_place T.d_fraction_place p_fraction_place (sp_fraction_place K) := by
  refine T.F_fraction_place.ok sc_fraction_place (fun vs H Q E h => ?_) (fun cdv A outer s H vs Q E hr h => ?_)
  · obtain ⟨M, v, p, rfl, _⟩ := h
    rfl
  refine ⟨(tRet (tMake T.c_Place (sp_Place___init__ K T.c_Place) [] E0 (tCons (tVar 0) (tCons (tTup tNil) (tCons (tTup (tCons (tC (.int 0)) (tCons (tC (.int 0)) (tCons (tC (.int 0)) tNil)))) tNil))))), (pss_one (ps_ret (pe_make T.mk_Place (ok_Place___init__ T) (hr.mono (by decide)) rfl T.g_Place (b_Place___init__ T) .nil pass0 (pa_cons (pv 0) (pa_cons (pe_tup pa_nil) (pa_cons (pe_tup (pa_cons pe_int (pa_cons pe_int (pa_cons pe_int pa_nil)))) pa_nil)))))), ?_⟩
  obtain ⟨M, v, p, rfl, lm, dn, q⟩ := h
  refine ⟨_, rfl, Nat.zero_le _, fun e he => ⟨(by decide : 3 ≤ sizeLine), fun c hc x dx hx hdx ne => ?_⟩⟩
  have hx2 : (upd (upd (upd H e (.tup [])) c (.tup [.int 0, .int 0, .int 0])) dx (.own x)) x = none := by
    rw [upd_ne (Ne.symm ne)]
    exact hx
  have s1 : Same H (upd H e (.tup [])) := same_upd he
  have s2 : Same (upd H e (.tup [])) (upd (upd H e (.tup [])) c (.tup [.int 0, .int 0, .int 0])) := same_upd hc
  have s3 : Same (upd (upd H e (.tup [])) c (.tup [.int 0, .int 0, .int 0])) (upd (upd (upd H e (.tup [])) c (.tup [.int 0, .int 0, .int 0])) dx (.own x)) := same_upd hdx
  have s4 : Same (upd (upd (upd H e (.tup [])) c (.tup [.int 0, .int 0, .int 0])) dx (.own x)) (upd (upd (upd (upd H e (.tup [])) c (.tup [.int 0, .int 0, .int 0])) dx (.own x)) x (.ins T.c_Place dx [])) := same_upd hx2
  have he1 : (upd (upd H e (.tup [])) c (.tup [.int 0, .int 0, .int 0])) e = some (.tup []) := s2 _ _ upd_same
  have hc1 : (upd (upd H e (.tup [])) c (.tup [.int 0, .int 0, .int 0])) c = some (.tup [.int 0, .int 0, .int 0]) := upd_same
  have s02 := s1.trans s2
  generalize upd (upd H e (.tup [])) c (.tup [.int 0, .int 0, .int 0]) = H1 at *
  have s24 := s3.trans s4
  have hxH : H x = none := by
    cases z : H x with
    | none => rfl
    | some o =>
      have := s02 _ _ z
      rw [hx] at this
      cases this
  generalize hH3 : upd (upd H1 dx (.own x)) x (.ins T.c_Place dx []) = H3 at *
  have hx3 : H3 x = some (.ins T.c_Place dx []) := by rw [← hH3]; exact upd_same
  have nx : ∀ b o, H1 b = some o → b ≠ x := fun b o h z => by
    rw [z, hx] at h
    cases h
  have up : ∀ b o, H1 b = some o → hid [x] H3 b = some o := fun b o h => by
    rw [hid_out (fun z => nx b o h (List.mem_singleton.mp z))]
    exact s24 _ _ h
  have at0 : ∀ n : Nat, DnA K (hid [x] H3) (List.replicate n (.int 0)) (List.replicate n (.int 0)) := fun n => DnA.rep (.int 0) n
  refine ⟨x, dx, v, .ref e, .ref c, p, rfl, hx3, dn.mono (fun b o h => up b o (s02 _ _ (hid_some h).2)), .tup (.inl (.inl (up _ _ he1))) .nil, .tup (.inl (.inl (up _ _ hc1))) (at0 3), fun fs H' keep hx' lt lp => ⟨rfl, ?_⟩⟩
  have xM : x ∉ M := fun z => by
    obtain ⟨o, h⟩ := lm x z
    rw [hxH] at h
    cases h
  have kp : ∀ b o, H1 b = some o → H' b = some o := fun b o h => keep b o (nx b o h) (s24 _ _ h)
  have eM : e ∉ M := fun z => by
    obtain ⟨o, h⟩ := lm e z
    rw [he] at h
    cases h
  have sH : Same (hid M H) (hid M H') := fun b o h => by
    obtain ⟨n, h⟩ := hid_some h
    rw [hid_out n]
    exact kp _ _ (s02 _ _ h)
  refine q x H' (fun b o h => kp _ _ (s02 _ _ h)) ⟨T.c_Place, dx, fs, v, .ref e, by rw [hid_out xM]; exact hx', lt, lp, dn.mono sH, .tup (.inl (.inl (by rw [hid_out eM]; exact kp _ _ he1))) .nil, T.cl_Place, T.na_Place_told, T.na_Place_polynomial⟩
/-! ### sign_at_place -/
noncomputable def pre_sign_at_place (d : PyData) (p : Fr) : Prop := ∃ u : List Int, d = rowD u ∧ u.length ≤ 20 ∧ bd u 1200 ∧ p.1.natAbs < 2 ^ 1200 ∧ p.2.natAbs < 2 ^ 1200
noncomputable def post_sign_at_place (d : PyData) (p : Fr) (e : PyData) : Prop := ∃ u : List Int, d = rowD u ∧ e = .int (sgn (hor p.1 p.2 u))
noncomputable abbrev sp_sign_at_place (K : PySem.W.Frag) : Sp := SpO K pre_sign_at_place post_sign_at_place
noncomputable def t_sign_at_place (K : PySem.W.Frag) : TS :=
  (tSeq (tIfS (tNot (tTru K (tVar 0))) (tRet (tC (.int 0))) tNext)
  (tSeq (tIfS (tNot (tTru K (tFld K (tVar 1) "polynomial"))) (tRet (tCall (sp_fraction_sign K) [] E0 (tCons (tVar 0) (tCons (tFld K (tVar 1) "told") tNil)))) tNext)
  tNever))
theorem ok_sign_at_place (T : Tx K mg) : FnOk P w K mg base CX0 3 T.a_sign_at_place T.d_sign_at_place p_sign_at_place (sp_sign_at_place K) := by
  refine T.F_sign_at_place.ok sc_sign_at_place (fun vs H Q E h => ?_) (fun cdv A outer s H vs Q E hr h => ?_)
  · obtain ⟨M, v, a, d, p, rfl, _⟩ := h
    rfl
  refine ⟨t_sign_at_place K, (pss_cons (ps_if (pt_not (pt_truth (pv 0) (by intro _; rfl))) (pss_one (ps_ret pe_int)) pss_nil)
  (pss_cons (ps_if (pt_not (pt_truth (pe_fld (pv 1) rfl) (by intro _; rfl))) (pss_one (ps_ret (pe_call (ok_fraction_sign T) (hr.mono (by decide)) rfl T.g_fraction_sign T.F_fraction_sign.kp (b_fraction_sign T) .nil pass0 (pa_cons (pv 0) (pa_cons (pe_fld (pv 1) rfl) pa_nil))))) pss_nil)
  pss_never)), ?_⟩
  refine body_O (by decide) h fun B a d p hW pl hp => ?_
  obtain ⟨u, rfl, hl, hu, ht, hb⟩ := hp
  unfold t_sign_at_place
  refine st_seq (st_if (et_not (et_tru (ev_var rfl ⟨trivial, fun hz => ?_, fun hz => ?_⟩))))
  · refine st_ret (ev_int ⟨u, rfl, ?_⟩)
    cases u with
    | nil => rfl
    | cons x xs => cases hz
  · refine st_next (st_seq (st_if (et_not (et_tru (ev_fldP rfl (List.mem_singleton.mpr rfl) pl ⟨trivial, fun hz => ?_, fun hz => nomatch hz⟩)))))
    refine st_ret (ev_callP (ea_cons (ev_var rfl (ea_cons (ev_fldT rfl (List.mem_singleton.mpr rfl) pl (ea_nil ⟨⟨u, p, rfl, hl, hu, ht, hb⟩, fun d ⟨u', p', e, ed⟩ => ?_⟩))))))
    obtain ⟨rfl, rfl⟩ := rowf_inj e
    exact ⟨u, rfl, ed⟩
/-! ### read_point -/
noncomputable abbrev sp_read_point (K : PySem.W.Frag) : Sp := SpMk2 K
theorem ok_read_point (T : Tx K mg) : FnOk P w K mg base CX0 5 T.a_read_point T.d_read_point p_read_point (sp_read_point K) := by
  refine T.F_read_point.ok sc_read_point (fun vs H Q E h => ?_) (fun cdv A outer s H vs Q E hr h => ?_)
  · obtain ⟨M, v, u, p, rfl, _⟩ := h
    rfl
  refine ⟨(tSeq (tIfS (tB (tCall (sp_is_fraction K) [] E0 (tCons (tVar 0) tNil))) (tRet (tCall (sp_fraction_place K) [] E0 (tCons (tVar 0) tNil))) tNext)
  tNever), (pss_cons (ps_if (pt_val (pe_call (ok_is_fraction T) (hr.mono (by decide)) rfl T.g_is_fraction T.F_is_fraction.kp (b_is_fraction T) .nil pass0 (pa_cons (pv 0) pa_nil))) (pss_one (ps_ret (pe_call (ok_fraction_place T) (hr.mono (by decide)) rfl T.g_fraction_place T.F_fraction_place.kp (b_fraction_place T) .nil pass0 (pa_cons (pv 0) pa_nil)))) pss_nil)
  pss_never), ?_⟩
  obtain ⟨M, v, u, p, rfl, lm, dn, fp, q⟩ := h
  refine ⟨_, rfl, M, [frD p], lm, .cons dn .nil, ⟨_, rfl⟩, fun b d H1 s1 db ⟨x, ex, ed⟩ => ?_⟩
  cases ex
  rw [frD_is fp] at ed
  subst ed
  obtain rfl : b = .bl true := dn_bool db
  have lm1 : ∀ m ∈ M, ∃ o, H1 m = some o := fun m hm => by
    obtain ⟨o, e⟩ := lm m hm
    exact ⟨o, s1 _ _ e⟩
  have sh : Same (hid M H) (hid M H1) := fun a o e => by
    obtain ⟨n, e⟩ := hid_some e
    rw [hid_out n]
    exact s1 _ _ e
  refine ⟨true, rfl, iteT ⟨_, rfl, M, v, p, rfl, lm1, dn.mono sh, fun a H2 s2 pl => q a H2 (s1.trans s2) pl⟩⟩
/-! ### check_point -/
noncomputable abbrev sp_check_point (K : PySem.W.Frag) : Sp := SpMk2 K
theorem ok_check_point (T : Tx K mg) : FnOk P w K mg base CX0 6 T.a_check_point T.d_check_point p_check_point (sp_check_point K) := by
  refine T.F_check_point.ok sc_check_point (fun vs H Q E h => ?_) (fun cdv A outer s H vs Q E hr h => ?_)
  · obtain ⟨M, v, u, p, rfl, _⟩ := h
    rfl
  refine ⟨(tSeq (tAsg (tCall (sp_read_point K) [] E0 (tCons (tVar 0) (tCons (tVar 1) tNil))) (gName 2))
  (tSeq (tIfS (tB (tIsN (tVar 2))) tNever tNext)
  (tRet (tVar 2)))), (pss_cons (ps_set (i := 2) sc_check_point.nd rfl (Or.inl rfl) (pe_call (ok_read_point T) (hr.mono (by decide)) rfl T.g_read_point T.F_read_point.kp (b_read_point T) .nil pass0 (pa_cons (pv 0) (pa_cons (pv 1) pa_nil))))
  (pss_cons (ps_if (pt_cmp (pc_isN (pv 2))) (pss_one ps_never) pss_nil)
  (pss_one (ps_ret (pv 2))))), ?_⟩
  obtain ⟨M, v, u, p, rfl, lm, dn, fp, q⟩ := h
  refine ⟨_, rfl, _, rfl, M, v, u, p, rfl, lm, dn, fp, fun a H1 s1 pl => ?_⟩
  refine ⟨_, rfl, false, rfl, iteF ⟨_, rfl, q a H1 s1 pl⟩⟩
/-! ### run_parts -/
noncomputable def pre_run_parts : List PyData → Prop := fun ds => ∃ dd ss : List Fr, ds = [lineD dd ss] ∧ LN dd ss
noncomputable def post_run_parts : List PyData → PyData → Prop := fun ds d => ∃ dd ss : List Fr, ds = [lineD dd ss] ∧ Parts dd ss d
noncomputable abbrev sp_run_parts (K : PySem.W.Frag) : Sp := SpP K pre_run_parts post_run_parts
theorem len_run_parts (K : PySem.W.Frag) (vs : List V) (H : Hp) (Q : VK) (E : XK) (h : sp_run_parts K vs H Q E) : vs.length = p_run_parts.length := len_P (n := 1) h fun ds hp => by
  obtain ⟨dd, ss, e, h⟩ := hp
  rw [e]; rfl
noncomputable def t_run_parts (K : PySem.W.Frag) : TS :=
  (tSeq (tAsg (tVar 0) (gTup K 2 (gCons (gName 1) (gCons (gName 2) gNil))))
  (tSeq (tAsg (tOp (rIx K) (tVar 2) (tC (.int 0))) (gTup K 2 (gCons (gName 3) (gCons (gName 4) gNil))))
  (tSeq (tAsg (tTup (tCons (tVar 4) tNil)) (gName 5))
  (tSeq (tAsg (tIf (tTru K (tVar 3)) (tTup (tCons (tVar 3) tNil)) (tTup tNil)) (gName 6))
  (tSeq (tPar 7 8 (tCons (tLst tNil) (tCons (tLst tNil) tNil)))
  (tSeq (tFor (iEnumT K (tCons (tVar 1) tNil)) (gTup K 2 (gCons (gName 9) (gCons (gName 10) gNil))) (tSeq (tDrop (tBM K "list" rAppend (tVar 7) (tCons (tTup (tCons (tVar 5) (tCons (tVar 4) tNil))) tNil)))
  (tSeq (tAsg (tOp (rIx K) (tVar 2) (tOp (rAddA K) (tVar 9) (tC (.int 1)))) (gName 11))
  (tSeq (tAsg (tCall (sp_blend K) [] E0 (tCons (tVar 6) (tCons (tOp (rIx K) (tVar 10) (tC (.int 1))) (tCons (tCall (sp_raised K) [] E0 (tCons (tVar 5) tNil)) (tCons (tUn (rU fun i => .int (-i)) (tOp (rIx K) (tVar 10) (tC (.int 0)))) tNil))))) (gName 6))
  (tSeq (tDrop (tBM K "list" rAppend (tVar 8) (tCons (tVar 6) tNil)))
  (tSeq (tAsg (tCall (sp_blend K) [] E0 (tCons (tVar 5) (tCons (tOp (rMulA K) (tOp (rIx K) (tVar 10) (tC (.int 1))) (tOp (rIx K) (tVar 11) (tC (.int 0)))) (tCons (tVar 6) (tCons (tOp (rIx K) (tVar 11) (tC (.int 1))) tNil))))) (gName 5))
  (tSeq (tAsg (tCall (sp_blend K) [] E0 (tCons (tVar 6) (tCons (tOp (rIx K) (tVar 11) (tC (.int 0))) (tCons (tTup tNil) (tCons (tC (.int 0)) tNil))))) (gName 6))
  (tAug 4 (tOp (rMulA K) (tOp (rIx K) (tVar 10) (tC (.int 1))) (tOp (rIx K) (tVar 11) (tC (.int 0)))) ipM))))))))
  (tRet (tTup (tCons (tVar 7) (tCons (tVar 8) (tCons (tVar 5) tNil)))))))))))
theorem pure_run_parts (K : PySem.W.Frag) (vs : List V) (H : Hp) (Q : VK) (E : XK) (h : sp_run_parts K vs H Q E) : t_run_parts K { nx := fun _ H' => Q .non H', rt := Q } (L2.start N_run_parts vs) H := body_P h fun B ds hW hp => by
  obtain ⟨dd, ss, e, h⟩ := hp
  subst e
  unfold t_run_parts
  obtain ⟨C0, hC0, _, hC, hCn, _⟩ := h.s_get (i := 0) (by rw [h.len]; omega)
  have n1 := h.c1
  have n8 := h.c8
  refine st_seq (st_unpack (ev_var rfl ⟨_, rfl, rfl, tg_cons (tg_cons (tg_nil ?_))⟩))
  refine st_seq (st_unpack (ev_op (ev_var rfl (ev_int (rok_ixsT (d := frD C0) ?_ ⟨_, rfl, rfl, tg_cons (tg_cons (tg_nil ?_))⟩)))))
  · rw [show (0 : Int) = ((0 : Nat) : Int) by rfl, atI_n, List.getElem?_map, hC0]
    rfl
  refine st_seq (st_asg (ev_tup (ea_cons (ev_var rfl (ea_nil ⟨by simp, ?_⟩)))))
  have main : ∀ tq0 : List Int, tq0 = (if C0.1 = 0 then [] else [C0.1]) → StP K B [] [] [.d (lineD dd ss), .d (.tuple (dd.map frD)), .d (.tuple (ss.map frD)), .d (.int C0.1), .d (.int C0.2), .d (.tuple [.int C0.2]), .d (.tuple (tq0.map .int)), .un, .un, .un, .un, .un]
      (tSeq (tPar 7 8 (tCons (tLst tNil) (tCons (tLst tNil) tNil)))
  (tSeq (tFor (iEnumT K (tCons (tVar 1) tNil)) (gTup K 2 (gCons (gName 9) (gCons (gName 10) gNil))) (tSeq (tDrop (tBM K "list" rAppend (tVar 7) (tCons (tTup (tCons (tVar 5) (tCons (tVar 4) tNil))) tNil)))
  (tSeq (tAsg (tOp (rIx K) (tVar 2) (tOp (rAddA K) (tVar 9) (tC (.int 1)))) (gName 11))
  (tSeq (tAsg (tCall (sp_blend K) [] E0 (tCons (tVar 6) (tCons (tOp (rIx K) (tVar 10) (tC (.int 1))) (tCons (tCall (sp_raised K) [] E0 (tCons (tVar 5) tNil)) (tCons (tUn (rU fun i => .int (-i)) (tOp (rIx K) (tVar 10) (tC (.int 0)))) tNil))))) (gName 6))
  (tSeq (tDrop (tBM K "list" rAppend (tVar 8) (tCons (tVar 6) tNil)))
  (tSeq (tAsg (tCall (sp_blend K) [] E0 (tCons (tVar 5) (tCons (tOp (rMulA K) (tOp (rIx K) (tVar 10) (tC (.int 1))) (tOp (rIx K) (tVar 11) (tC (.int 0)))) (tCons (tVar 6) (tCons (tOp (rIx K) (tVar 11) (tC (.int 1))) tNil))))) (gName 5))
  (tSeq (tAsg (tCall (sp_blend K) [] E0 (tCons (tVar 6) (tCons (tOp (rIx K) (tVar 11) (tC (.int 0))) (tCons (tTup tNil) (tCons (tC (.int 0)) tNil))))) (gName 6))
  (tAug 4 (tOp (rMulA K) (tOp (rIx K) (tVar 10) (tC (.int 1))) (tOp (rIx K) (tVar 11) (tC (.int 0)))) ipM))))))))
  (tRet (tTup (tCons (tVar 7) (tCons (tVar 8) (tCons (tVar 5) tNil))))))) { nx := fun _ _ => post_run_parts [lineD dd ss] .none, rt := post_run_parts [lineD dd ss] } := fun tq0 htq => by
    refine st_seq (st_parOO (en_lst (ea_nil ⟨by simp, fun l1 => en_lst (ea_nil ⟨by simp, fun l2 hne => ?_⟩)⟩)))
    refine st_seq (st_forE (ea_cons (ev_var rfl (ea_nil ⟨_, rfl, fun i L2 Γ2 => ∃ (S : Int) (turn torque : List Int) (as : List (List Int × Int)) (ts : List (List Int)) (s1 s2 s3 : Sl), L2 = [l2, l1] ∧
        Γ2 = [.d (lineD dd ss), .d (.tuple (dd.map frD)), .d (.tuple (ss.map frD)), .d (.int C0.1), .d (.int S), .d (.tuple (turn.map .int)), .d (.tuple (torque.map .int)), .own l1 (as.map angD), .own l2 (ts.map rowD), s1, s2, s3] ∧
        PInv dd ss i S turn torque as ts, ⟨C0.2, [C0.2], tq0, [], [], _, _, _, rfl, rfl, ?_⟩, ?_, ?_⟩))))
    · subst htq
      exact pinv0 h hC0
    · rintro i d' L2 Γ2 g hi ⟨S, turn, torque, as, ts, s1, s2, s3, rfl, rfl, I⟩
      rw [List.getElem?_map] at hi
      obtain ⟨J, hJ, rfl⟩ : ∃ J, dd[i]? = some J ∧ d' = frD J := by
        cases e : dd[i]? with
        | none => rw [e] at hi; cases hi
        | some J =>
          rw [e] at hi
          exact ⟨J, rfl, (Option.some.inj hi).symm⟩
      have hi : i < dd.length := (List.getElem?_eq_some_iff.mp hJ).1
      obtain ⟨st, la, lt, pa, pt⟩ := I.1 hi
      obtain ⟨J', hJ', _, ja, jb, jc, jd⟩ := h.d_get hi
      obtain rfl : J = J' := Option.some.inj (hJ.symm.trans hJ')
      obtain ⟨C, hC', _, ca, cb, cc, cd, cq⟩ := h.s_get (i := i + 1) (by rw [h.len]; omega)
      have big : 64 + 130 * i + 400 ≤ 4000 := by omega
      have q1 : J.1.natAbs < 2 ^ 64 := by omega
      have q2 : J.2.natAbs < 2 ^ 64 := by have := ja.1; omega
      have q3 : C.1.natAbs < 2 ^ 64 := by omega
      have q4 : C.2.natAbs < 2 ^ 64 := by have := ca.1; omega
      refine st_seq (st_append rfl (by simp; omega) (ev_tup (ea_cons (ev_var rfl (ea_cons (ev_var rfl (ea_nil ⟨by simp, ?_⟩)))))))
      refine st_seq (st_asg ?_)
      walk_at "dd"
      refine rok_ixsT (d := frD C) ?_ ?_
      · rw [show (i : Int) + 1 = ((i + 1 : Nat) : Int) by omega, atI_n, List.getElem?_map, hC']
        rfl
      refine st_seq (st_asg (ev_callP ?_))
      walk_at "dd"
      refine ev_callP ?_
      walk_at "dd"
      refine ⟨⟨turn, rfl, ?_, ?_⟩, fun d ⟨u, eu, ed⟩ => ?_⟩
      · intro z
        have := st.tl
        rw [z] at this
        simp at this
      · have := st.tl
        omega
      cases map_int_inj (by injection eu with eu; injection eu)
      subst ed
      obtain ⟨to', e1, r1, l1', b1⟩ := step1 h hi st hJ
      walk_at "dd"
      refine ⟨⟨torque, _, _, _, rfl, ?_, ?_, ?_, ?_, ?_, ?_⟩, fun d ⟨u, v, a, b, eu, ed⟩ => ?_⟩
      · have := st.ol
        omega
      · have := st.tl
        simp
        omega
      · exact pow_up q2 (by omega)
      · exact pow_up (show (-J.1).natAbs < 2 ^ 64 by omega) (by omega)
      · exact fun x hx => pow_up (st.bo x hx) (by omega)
      · intro x hx
        rcases List.mem_cons.mp hx with rfl | hx
        · exact Nat.pow_pos (by decide)
        · exact pow_up (st.bt x hx) (by omega)
      obtain ⟨rfl, rfl, rfl, rfl⟩ := blend_inj eu
      rw [e1] at ed
      subst ed
      refine st_seq (st_append rfl (by simp; omega) (ev_var rfl ?_))
      refine st_seq (st_asg (ev_callP ?_))
      walk_at "dd"
      refine ro_mulW (mulW_of q2 q3 (by decide)) ?_
      walk_at "dd"
      refine ⟨⟨turn, to', _, _, rfl, ?_, ?_, ?_, ?_, ?_, ?_⟩, fun d ⟨u, v, a, b, eu, ed⟩ => ?_⟩
      · have := st.tl
        omega
      · omega
      · exact pow_up (natAbs_mul_lt q2 q3) (by omega)
      · exact pow_up q4 (by omega)
      · exact fun x hx => pow_up (st.bt x hx) (by omega)
      · exact fun x hx => pow_up (b1 x hx) (by omega)
      obtain ⟨rfl, rfl, rfl, rfl⟩ := blend_inj eu
      subst ed
      refine st_seq (st_asg (ev_callP ?_))
      walk_at "dd"
      refine ⟨⟨to', [], _, _, rfl, ?_, ?_, ?_, ?_, ?_, ?_⟩, fun d ⟨u, v, a, b, eu, ed⟩ => ?_⟩
      · omega
      · simp
      · exact pow_up q3 (by omega)
      · exact Nat.pow_pos (by decide)
      · exact fun x hx => pow_up (b1 x hx) (by omega)
      · intro x hx
        simp at hx
      obtain ⟨rfl, rfl, rfl, rfl⟩ := blend_inj (v := []) eu
      subst ed
      refine st_augM rfl ?_
      walk_at "dd"
      refine ro_mulW (mulW_of q2 q3 (by decide)) ⟨_, rfl, ?_, ?_⟩
      · exact mulW_of st.bS (natAbs_mul_lt q2 q3) (by omega)
      · refine ⟨_, _, _, as ++ [(turn, S)], ts ++ [to'], .d (.int (i : Int)), .d (frD J), .d (frD C), rfl, ?_, pinvS h I hi hJ hC' r1 l1' b1⟩
        rw [List.map_append, List.map_append]
        rfl
    · rintro L2 Γ2 ⟨S, turn, torque, as, ts, s1, s2, s3, rfl, rfl, I⟩
      rw [List.length_map] at I
      refine st_freeze 8 rfl (by simpa using Ne.symm hne) ?_
      refine st_freeze 7 rfl (by simp) ?_
      walk_at "dd"
      refine ⟨dd, ss, rfl, ?_⟩
      exact pinvE h I
  refine st_seq (st_asg (ev_if (et_tru (ev_var rfl ⟨trivial, fun hb => ?_, fun hb => ?_⟩))))
  · have z : C0.1 ≠ 0 := by simpa [truD] using hb
    refine ev_tup (ea_cons (ev_var rfl (ea_nil ⟨by simp, ?_⟩)))
    exact main [C0.1] (if_neg z).symm
  · have z : C0.1 = 0 := by simpa [truD] using hb
    refine ev_tup (ea_nil ⟨by simp, ?_⟩)
    exact main [] (if_pos z).symm
theorem ok_run_parts (T : Tx K mg) : FnOk P w K mg base CX0 3 T.a_run_parts T.d_run_parts p_run_parts (sp_run_parts K) := by
  refine T.F_run_parts.ok sc_run_parts (fun vs H Q E h => len_run_parts K vs H Q E h) (fun cdv A outer s H vs Q E hr h => ?_)
  exact ⟨t_run_parts K, (pss_cons (ps_asg (pv 0) (pg_tup (by rfl) (pgs_cons (pg_name (i := 1) sc_run_parts.nd rfl (Or.inl rfl)) (pgs_cons (pg_name (i := 2) sc_run_parts.nd rfl (Or.inl rfl)) pgs_nil))))
  (pss_cons (ps_asg (pe_ix ix_seq (pv 2) pe_int (fun _ _ => rfl)) (pg_tup (by rfl) (pgs_cons (pg_name (i := 3) sc_run_parts.nd rfl (Or.inl rfl)) (pgs_cons (pg_name (i := 4) sc_run_parts.nd rfl (Or.inl rfl)) pgs_nil))))
  (pss_cons (ps_set (i := 5) sc_run_parts.nd rfl (Or.inl rfl) (pe_tup (pa_cons (pv 4) pa_nil)))
  (pss_cons (ps_set (i := 6) sc_run_parts.nd rfl (Or.inl rfl) (pe_ifExp (pt_truth (pv 3) (by intro _; rfl)) (pe_tup (pa_cons (pv 3) pa_nil)) (pe_tup pa_nil)))
  (pss_cons (ps_par (by rfl) sc_run_parts.nd rfl rfl (by decide) rfl rfl (pa_cons (pe_lst pa_nil) (pa_cons (pe_lst pa_nil) pa_nil)) (by rfl))
  (pss_cons (ps_for PassesOwn.never rfl (pi_enumT (by rfl) T.n_enumerate (pa_cons (pv 1) pa_nil)) (pg_tup (by rfl) (pgs_cons (pg_name (i := 9) sc_run_parts.nd rfl (Or.inl rfl)) (pgs_cons (pg_name (i := 10) sc_run_parts.nd rfl (Or.inl rfl)) pgs_nil))) (pss_cons (ps_expr (pe_bm PySem.F.plainAttrs_list PySem.F.slot_list_append PySem.F.type_list_append mt_append (pv 7) (pa_cons (pe_tup (pa_cons (pv 5) (pa_cons (pv 4) pa_nil))) pa_nil)))
  (pss_cons (ps_set (i := 11) sc_run_parts.nd rfl (Or.inl rfl) (pe_ix ix_seq (pv 2) (pe_op op_addA (pv 9) pe_int) (fun _ _ => rfl)))
  (pss_cons (ps_set (i := 6) sc_run_parts.nd rfl (Or.inl rfl) (pe_call (ok_blend T) (hr.mono (by decide)) rfl T.g_blend T.F_blend.kp (b_blend T) .nil pass0 (pa_cons (pv 6) (pa_cons (pe_ix ix_seq (pv 10) pe_int (fun _ _ => rfl)) (pa_cons (pe_call (ok_raised T) (hr.mono (by decide)) rfl T.g_raised T.F_raised.kp (b_raised T) .nil pass0 (pa_cons (pv 5) pa_nil)) (pa_cons (pe_un un_neg (pe_ix ix_seq (pv 10) pe_int (fun _ _ => rfl))) pa_nil))))))
  (pss_cons (ps_expr (pe_bm PySem.F.plainAttrs_list PySem.F.slot_list_append PySem.F.type_list_append mt_append (pv 8) (pa_cons (pv 6) pa_nil)))
  (pss_cons (ps_set (i := 5) sc_run_parts.nd rfl (Or.inl rfl) (pe_call (ok_blend T) (hr.mono (by decide)) rfl T.g_blend T.F_blend.kp (b_blend T) .nil pass0 (pa_cons (pv 5) (pa_cons (pe_op op_mulA (pe_ix ix_seq (pv 10) pe_int (fun _ _ => rfl)) (pe_ix ix_seq (pv 11) pe_int (fun _ _ => rfl))) (pa_cons (pv 6) (pa_cons (pe_ix ix_seq (pv 11) pe_int (fun _ _ => rfl)) pa_nil))))))
  (pss_cons (ps_set (i := 6) sc_run_parts.nd rfl (Or.inl rfl) (pe_call (ok_blend T) (hr.mono (by decide)) rfl T.g_blend T.F_blend.kp (b_blend T) .nil pass0 (pa_cons (pv 6) (pa_cons (pe_ix ix_seq (pv 11) pe_int (fun _ _ => rfl)) (pa_cons (pe_tup pa_nil) (pa_cons pe_int pa_nil))))))
  (pss_one (ps_aug (i := 4) sc_run_parts.nd rfl (Or.inl rfl) (pe_op op_mulA (pe_ix ix_seq (pv 10) pe_int (fun _ _ => rfl)) (pe_ix ix_seq (pv 11) pe_int (fun _ _ => rfl))) ip_mul)))))))))
  (pss_one (ps_ret (pe_tup (pa_cons (pv 7) (pa_cons (pv 8) (pa_cons (pv 5) pa_nil)))))))))))), pure_run_parts K vs H Q E h⟩
/-! ### thinned_run -/
noncomputable def pre_thinned_run : List PyData → Prop := fun ds => ∃ dd ss : List Fr, ds = [lineD dd ss] ∧ LN dd ss
noncomputable def post_thinned_run : List PyData → PyData → Prop := fun ds d => ∃ dd ss : List Fr, ds = [lineD dd ss] ∧ ∃ rows, d = .tuple (rows.map rowD) ∧ Rows dd ss rows
noncomputable abbrev sp_thinned_run (K : PySem.W.Frag) : Sp := SpP K pre_thinned_run post_thinned_run
theorem len_thinned_run (K : PySem.W.Frag) (vs : List V) (H : Hp) (Q : VK) (E : XK) (h : sp_thinned_run K vs H Q E) : vs.length = p_thinned_run.length := len_P (n := 1) h fun ds hp => by
  obtain ⟨dd, ss, e, h⟩ := hp
  rw [e]; rfl
noncomputable def t_thinned_run (K : PySem.W.Frag) : TS :=
  (tSeq (tAsg (tCall (sp_run_parts K) [] E0 (tCons (tVar 0) tNil)) (gTup K 3 (gCons (gName 1) (gCons (gName 2) (gCons (gName 3) gNil)))))
  (tRet (tCB (rTupleQ K) (tCons (tOp (rAddA K) (tLc (iList K (tVar 1)) (gName 4) tYes (tCall (sp_thinned K) [] E0 (tCons (tOp (rIx K) (tVar 4) (tC (.int 0))) tNil)) [4]) (tLst (tCons (tCall (sp_thinned K) [] E0 (tCons (tVar 3) tNil)) tNil))) tNil))))
theorem pure_thinned_run (K : PySem.W.Frag) (vs : List V) (H : Hp) (Q : VK) (E : XK) (h : sp_thinned_run K vs H Q E) : t_thinned_run K { nx := fun _ H' => Q .non H', rt := Q } (L2.start N_thinned_run vs) H := body_P h fun B ds hW hp => by
  obtain ⟨dd, ss, e, h⟩ := hp
  subst e
  unfold t_thinned_run
  have n1 := h.c1
  have n8 := h.c8
  refine st_seq (st_unpack (ev_callP (ea_cons (ev_var rfl (ea_nil ⟨⟨dd, ss, rfl, h⟩, fun d ⟨dd', ss', el, as, ts, e, ed, pl, re, le, be⟩ => ?_⟩)))))
  obtain ⟨rfl, rfl⟩ := lineD_inj el
  subst ed
  refine ⟨_, rfl, rfl, tg_cons (tg_cons (tg_cons (tg_nil ?_)))⟩
  have la := pl.la
  refine st_ret (ev_cb (ea_cons (ev_op (ev_new (en_lcL (wipe1 4) (ev_var rfl ⟨_, rfl, by simp; omega, fun i acc => acc = ((as.take i).map fun p => rowD (prim p.1)), ⟨rfl, fun i D d' acc hi hJ hin => ?_⟩, fun acc hJ => ?_⟩))))))
  · obtain ⟨p, hp, rfl⟩ : ∃ p, as[i]? = some p ∧ d' = angD p := map_getG hi
    have hi2 : i < as.length := (List.getElem?_eq_some_iff.mp hp).1
    obtain ⟨r, lu, bu⟩ := pl.pa i p hp
    have ne := r.ne (ne_of_alt (run_shape (J := jv dd) (K := jv ss) i (fun j hj => h.jpos (by omega)) (fun j p q => h.kpos p (by omega))).2.1)
    refine et_yes ⟨fun _ => ?_, fun z => nomatch z⟩
    refine ev_callP (ea_cons (ev_op (ev_var rfl (ev_int (rok_ixsT (d := rowD p.1) rfl (ea_nil ⟨⟨p.1, rfl, by omega, fun x hx => pow_up (bu x hx) (by omega), _, mem_getD ne, ne⟩, fun d ⟨u, eu, ed⟩ => ?_⟩))))))
    cases map_int_inj (by injection eu with eu; injection eu)
    subst ed
    subst hJ
    rw [List.take_add_one, hp, List.map_append]
    rfl
  · rw [List.length_map, List.take_length] at hJ
    subst hJ
    obtain ⟨S, r⟩ := re
    have h0 : 0 ≤ jv ss 0 := h.knn (by rw [h.len]; omega)
    have hn : 0 ≤ jv ss (dd.length - 1 + 1) := h.knn (by rw [h.len]; omega)
    have ne := r.ne (ne_of_alt (en_shape (J := jv dd) (K := jv ss) (dd.length - 1) (fun j hj => h.jpos (by omega)) (fun j p q => h.kpos p (by omega)) h0 hn).2.1)
    refine ev_lst (ea_cons (ev_callP (ea_cons (ev_var rfl (ea_nil ⟨⟨e, rfl, by omega, fun x hx => pow_up (be x hx) (by omega), _, mem_getD ne, ne⟩, fun d ⟨u, eu, ed⟩ => ?_⟩)))))
    cases map_int_inj (by injection eu with eu; injection eu)
    subst ed
    refine ea_nil ⟨by simp, ro_catL (by simp; omega) (ea_nil (co_tupL ⟨dd, ss, rfl, (as.map fun p => prim p.1) ++ [prim e], ?_, ?_⟩))⟩
    · rw [List.map_append, List.map_map]
      rfl
    · refine ⟨by simp [la], fun i r' hi => ?_⟩
      rcases get_push hi with hi | ⟨e1, e2⟩
      · rw [List.getElem?_map] at hi
        obtain ⟨p, hp, rfl⟩ : ∃ p, as[i]? = some p ∧ r' = prim p.1 := by
          cases e : as[i]? with
          | none => rw [e] at hi; cases hi
          | some J =>
            rw [e] at hi
            exact ⟨J, rfl, (Option.some.inj hi).symm⟩
        have hi2 : i < as.length := (List.getElem?_eq_some_iff.mp hp).1
        obtain ⟨r, lu, bu⟩ := pl.pa i p hp
        refine ⟨p.1, p.2, rfl, ?_, lu, fun x hx => pow_up (bu x hx) (by omega)⟩
        unfold pol
        rw [if_pos (by omega)]
        exact r
      · rw [List.length_map, la] at e1
        subst e1
        refine ⟨e, S, e2, ?_, le, fun x hx => pow_up (be x hx) (by omega)⟩
        unfold pol
        rw [if_neg (by omega)]
        exact r
theorem ok_thinned_run (T : Tx K mg) : FnOk P w K mg base CX0 4 T.a_thinned_run T.d_thinned_run p_thinned_run (sp_thinned_run K) := by
  refine T.F_thinned_run.ok sc_thinned_run (fun vs H Q E h => len_thinned_run K vs H Q E h) (fun cdv A outer s H vs Q E hr h => ?_)
  exact ⟨t_thinned_run K, (pss_cons (ps_asg (pe_call (ok_run_parts T) (hr.mono (by decide)) rfl T.g_run_parts T.F_run_parts.kp (b_run_parts T) .nil pass0 (pa_cons (pv 0) pa_nil)) (pg_tup (by rfl) (pgs_cons (pg_name (i := 1) sc_thinned_run.nd rfl (Or.inl rfl)) (pgs_cons (pg_name (i := 2) sc_thinned_run.nd rfl (Or.inl rfl)) (pgs_cons (pg_name (i := 3) sc_thinned_run.nd rfl (Or.inl rfl)) pgs_nil)))))
  (pss_one (ps_ret (pe_callTy call_tuple_of (by rfl) T.n_tuple (by decide +kernel) (pa_cons (pe_op op_addA (pe_lc (own := [("angle", 4)]) (by rfl) sc_thinned_run.nd (pi_list (pv 1)) (blkOk_by (own := [("angle", 4)]) (N := N_thinned_run) (sc := defScope s_thinned_run) (by decide +kernel)) (fun _ _ _ _ _ => pg_name (i := 4) sc_thinned_run.nd rfl (Or.inl rfl)) (fun _ _ _ _ _ => pts_nil) (fun _ _ _ _ _ => (pe_call (ok_thinned T) (hr.mono (by decide)) rfl T.g_thinned T.F_thinned.kp (b_thinned T) .nil pass0 (pa_cons (pe_ix ix_seq (pv 4) pe_int (fun _ _ => rfl)) pa_nil)))) (pe_lst (pa_cons (pe_call (ok_thinned T) (hr.mono (by decide)) rfl T.g_thinned T.F_thinned.kp (b_thinned T) .nil pass0 (pa_cons (pv 3) pa_nil)) pa_nil))) pa_nil))))), pure_thinned_run K vs H Q E h⟩
/-! ### run_signs -/
noncomputable def pre_run_signs (d : PyData) (p : Fr) : Prop := ∃ ws : List (List Int), d = .tuple (ws.map rowD) ∧ ws.length ≤ 20 ∧ (∀ w ∈ ws, w.length ≤ 20 ∧ bd w 1200) ∧ p.1.natAbs < 2 ^ 1200 ∧ p.2.natAbs < 2 ^ 1200
noncomputable def post_run_signs (d : PyData) (p : Fr) (e : PyData) : Prop := ∃ ws : List (List Int), d = .tuple (ws.map rowD) ∧ e = .list ((ws.map fun w => sgn (hor p.1 p.2 w)).map .int)
noncomputable abbrev sp_run_signs (K : PySem.W.Frag) : Sp := SpO K pre_run_signs post_run_signs
noncomputable def t_run_signs (K : PySem.W.Frag) : TS :=
  (tRet (tLc (iTup K (tVar 0)) (gName 2) tYes (tCall (sp_sign_at_place K) [] E0 (tCons (tVar 2) (tCons (tVar 1) tNil))) [2]))
theorem ok_run_signs (T : Tx K mg) : FnOk P w K mg base CX0 4 T.a_run_signs T.d_run_signs p_run_signs (sp_run_signs K) := by
  refine T.F_run_signs.ok sc_run_signs (fun vs H Q E h => ?_) (fun cdv A outer s H vs Q E hr h => ?_)
  · obtain ⟨M, v, a, d, p, rfl, _⟩ := h
    rfl
  refine ⟨t_run_signs K, (pss_one (ps_ret (pe_lc (own := [("polynomial", 2)]) (by rfl) sc_run_signs.nd (pi_tup (pv 0)) (blkOk_by (own := [("polynomial", 2)]) (N := N_run_signs) (sc := defScope s_run_signs) (by decide +kernel)) (fun _ _ _ _ _ => pg_name (i := 2) sc_run_signs.nd rfl (Or.inl rfl)) (fun _ _ _ _ _ => pts_nil) (fun _ _ _ _ _ => (pe_call (ok_sign_at_place T) (hr.mono (by decide)) rfl T.g_sign_at_place T.F_sign_at_place.kp (b_sign_at_place T) .nil pass0 (pa_cons (pv 2) (pa_cons (pv 1) pa_nil))))))), ?_⟩
  refine body_O (by decide) h fun B a d p hW pl hp => ?_
  obtain ⟨ws, rfl, hl, hw, ht, hb⟩ := hp
  unfold t_run_signs
  refine st_ret (ev_new (en_lcT (wipe1 2) (ev_var rfl ⟨_, rfl, by simp; omega, fun i acc => acc = (((ws.take i).map fun w => sgn (hor p.1 p.2 w)).map PyData.int), ⟨rfl, fun i D d' acc hi hJ hin => ?_⟩, fun acc hJ => ?_⟩)))
  · obtain ⟨u, hu, rfl⟩ : ∃ u, ws[i]? = some u ∧ d' = rowD u := map_getG hi
    obtain ⟨q1, q2⟩ := hw u (List.mem_of_getElem? hu)
    refine et_yes ⟨fun _ => ?_, fun z => nomatch z⟩
    refine ev_callO rfl (List.mem_singleton.mpr rfl) pl (ev_var rfl ⟨⟨u, rfl, q1, q2, ht, hb⟩, fun e ⟨u', e1, e2⟩ => ?_⟩)
    obtain rfl : u = u' := rowD_inj e1
    subst e2
    subst hJ
    rw [List.take_add_one, hu, List.map_append, List.map_append]
    rfl
  · refine ⟨ws, rfl, ?_⟩
    rw [hJ, List.length_map, List.take_length]
/-! ### is_row_of_fractions -/

noncomputable def pre_is_row_of_fractions : List PyData → Prop := fun ds => ∃ v, ∃ n : Int, ds = [v, .int n] ∧ 0 ≤ n ∧ n ≤ 1000
noncomputable def post_is_row_of_fractions : List PyData → PyData → Prop := fun ds d => ∃ v, ∃ n : Int, ds = [v, .int n] ∧ d = .bool (isRowD v n)
noncomputable abbrev sp_is_row_of_fractions (K : PySem.W.Frag) : Sp := SpP K pre_is_row_of_fractions post_is_row_of_fractions
theorem len_is_row_of_fractions (K : PySem.W.Frag) (vs : List V) (H : Hp) (Q : VK) (E : XK) (h : sp_is_row_of_fractions K vs H Q E) : vs.length = p_is_row_of_fractions.length := len_P (n := 2) h fun ds hp => by
  obtain ⟨v, n, e, hn0, hn1⟩ := hp
  rw [e]; rfl
noncomputable def t_is_row_of_fractions (K : PySem.W.Frag) : TS :=
  (tSeq (tIfS (tOr (tNot (tB (tCB (rIsi K) (tCons (tVar 0) (tCons (tC (.ty "tuple")) tNil))))) (tTest (tOp rNe (tCB (rLenQ K) (tCons (tVar 0) tNil)) (tVar 1)))) (tRet (tC (.bl false))) tNext)
  (tRet (tCB (rAll K) (tCons (tLc (iTup K (tVar 0)) (gName 2) tYes (tCall (sp_is_fraction_from_nought K) [] E0 (tCons (tVar 2) tNil)) [2]) tNil))))
theorem pure_is_row_of_fractions (K : PySem.W.Frag) (vs : List V) (H : Hp) (Q : VK) (E : XK) (h : sp_is_row_of_fractions K vs H Q E) : t_is_row_of_fractions K { nx := fun _ H' => Q .non H', rt := Q } (L2.start N_is_row_of_fractions vs) H := body_P h fun B ds hW hp => by
  obtain ⟨v, n, e, hn0, hn1⟩ := hp
  subst e
  unfold t_is_row_of_fractions
  refine st_seq (st_if (et_or (et_not (et_B (ev_isiTup (ev_var rfl ⟨_, rfl, fun hb => ?_, fun hb => ⟨fun _ => ?_, fun z => nomatch z⟩⟩))))))
  · obtain ⟨xs, rfl⟩ := isTupT_true (d := v) (by simpa using hb)
    refine et_test (ev_op (ev_cb (ea_cons (ev_var rfl (ea_nil (co_lenT (ev_var rfl (rok_neI ⟨_, rfl, fun hb => ?_, fun hb => ?_⟩))))))))
    · refine st_ret (ev_bl ⟨_, _, rfl, ?_⟩)
      have h2 : ¬ (xs.length : Int) = n := by
        simp at hb
        exact hb
      show _ = PyData.bool (decide ((xs.length : Int) = n) && xs.all isRowItem)
      rw [decide_eq_false h2]
      rfl
    · have hl : (xs.length : Int) = n := by
        simp at hb
        exact hb
      refine st_next (st_ret (ev_cb (ea_cons (ev_new (en_lcT (wipe1 2) (ev_var rfl ⟨xs, rfl, by omega, fun i acc => acc = ((xs.take i).map fun d => PyData.bool (isRowItem d)), ⟨rfl, fun i D d' acc hi hJ hin => ?_⟩, fun acc hJ => ?_⟩))) )))
      · refine et_yes ⟨fun _ => ?_, fun z => nomatch z⟩
        subst hJ
        refine ev_callP (ea_cons (ev_var rfl (ea_nil ⟨⟨_, rfl⟩, fun d ⟨v, ev, ed⟩ => ?_⟩)))
        cases ev
        subst ed
        show ((xs.take i).map fun d => PyData.bool (isRowItem d)) ++ [PyData.bool (isRowItem d')] = (xs.take (i + 1)).map fun d => PyData.bool (isRowItem d)
        rw [List.take_add_one, hi, List.map_append]
        rfl
      · refine ea_nil ?_
        subst hJ
        rw [List.take_length, show (xs.map fun d => PyData.bool (isRowItem d)) = (xs.map isRowItem).map PyData.bool by rw [List.map_map]; rfl]
        refine cok_all ⟨_, _, rfl, ?_⟩
        show _ = PyData.bool (decide ((xs.length : Int) = n) && xs.all isRowItem)
        rw [decide_eq_true hl, Bool.true_and, List.all_map]
        rfl
  · refine st_ret (ev_bl ⟨_, _, rfl, ?_⟩)
    cases v <;> first | rfl | cases hb
theorem ok_is_row_of_fractions (T : Tx K mg) : FnOk P w K mg base CX0 4 T.a_is_row_of_fractions T.d_is_row_of_fractions p_is_row_of_fractions (sp_is_row_of_fractions K) := by
  refine T.F_is_row_of_fractions.ok sc_is_row_of_fractions (fun vs H Q E h => len_is_row_of_fractions K vs H Q E h) (fun cdv A outer s H vs Q E hr h => ?_)
  exact ⟨t_is_row_of_fractions K, (pss_cons (ps_if (PW.pt (pw_or (pt_not (pt_val (pe_callB call_isi (by rfl) T.n_isinstance (by decide +kernel) (pa_cons (pv 0) (pa_cons (pe_bltn (v := .ty "tuple") (by rfl) T.n_tuple (by decide +kernel) rfl) pa_nil))))) (pw_or1 (pt_cmpR op_ne (pe_callB call_len_seq (by rfl) T.n_len (by decide +kernel) (pa_cons (pv 0) pa_nil)) (pv 1) (nomark _))))) (pss_one (ps_ret pe_bl)) pss_nil)
  (pss_one (ps_ret (pe_callB (cr_all rfl) (by rfl) T.n_all (by decide +kernel) (pa_cons (pe_lc (own := [("number", 2)]) (by rfl) sc_is_row_of_fractions.nd (pi_tup (pv 0)) (blkOk_by (own := [("number", 2)]) (N := N_is_row_of_fractions) (sc := defScope s_is_row_of_fractions) (by decide +kernel)) (fun _ _ _ _ _ => pg_name (i := 2) sc_is_row_of_fractions.nd rfl (Or.inl rfl)) (fun _ _ _ _ _ => pts_nil) (fun _ _ _ _ _ => (pe_call (ok_is_fraction_from_nought T) (hr.mono (by decide)) rfl T.g_is_fraction_from_nought T.F_is_fraction_from_nought.kp (b_is_fraction_from_nought T) .nil pass0 (pa_cons (pv 2) pa_nil)))) pa_nil))))), pure_is_row_of_fractions K vs H Q E h⟩
/-! ### is_line -/
noncomputable def isLine2 : PyData → PyData → Bool
  | .tuple ds, s => decide (1 ≤ ds.length ∧ ds.length ≤ 8) && (isRowD (.tuple ds) ds.length && (isRowD s ((ds.length : Int) + 1) && (match s with
    | .tuple ss => (ds ++ DL.cutD ss (some 1) (some (-1))).all fun d => decide (0 < numD d)
    | _ => false)))
  | _, _ => false
noncomputable def isLineL : List PyData → Bool
  | [d, s] => isLine2 d s
  | _ => false
noncomputable def isLineD : PyData → Bool
  | .tuple xs => isLineL xs
  | _ => false
theorem isLine_len {xs : List PyData} (h : xs.length ≠ 2) : isLineD (.tuple xs) = false := by
  match xs with
  | [] => rfl
  | [a] => rfl
  | [a, b] => exact absurd rfl h
  | a :: b :: c :: r => rfl
theorem isLine_disc {ds : List PyData} {b : PyData} (h : ¬ (1 ≤ ds.length ∧ ds.length ≤ 8)) : isLineD (.tuple [.tuple ds, b]) = false := by
  show (decide (1 ≤ ds.length ∧ ds.length ≤ 8) && _) = false
  rw [decide_eq_false h, Bool.false_and]
theorem isLine_row1 {ds : List PyData} {b : PyData} (h : isRowD (.tuple ds) ds.length = false) : isLineD (.tuple [.tuple ds, b]) = false := by
  show (_ && (isRowD (.tuple ds) ds.length && _)) = false
  rw [h, Bool.false_and, Bool.and_false]
theorem isLine_row2 {ds : List PyData} {b : PyData} (h : isRowD b ((ds.length : Int) + 1) = false) : isLineD (.tuple [.tuple ds, b]) = false := by
  show (_ && (_ && (isRowD b ((ds.length : Int) + 1) && _))) = false
  rw [h, Bool.false_and, Bool.and_false, Bool.and_false]
theorem isLine_in {ds ss : List PyData} (h1 : 1 ≤ ds.length) (h8 : ds.length ≤ 8) (r1 : isRowD (.tuple ds) ds.length = true) (r2 : isRowD (.tuple ss) ((ds.length : Int) + 1) = true) :
    isLineD (.tuple [.tuple ds, .tuple ss]) = (ds ++ DL.cutD ss (some 1) (some (-1))).all fun d => decide (0 < numD d) := by
  show (decide (1 ≤ ds.length ∧ ds.length ≤ 8) && (isRowD (.tuple ds) ds.length && (isRowD (.tuple ss) ((ds.length : Int) + 1) && _))) = _
  rw [decide_eq_true ⟨h1, h8⟩, r1, r2, Bool.true_and, Bool.true_and, Bool.true_and]
theorem isRowD_tup {v : PyData} {n : Int} (h : isRowD v n = true) : ∃ xs, v = .tuple xs ∧ (xs.length : Int) = n := by
  cases v with
  | tuple xs => exact ⟨xs, rfl, of_decide_eq_true (Bool.and_eq_true_iff.mp (show (decide ((xs.length : Int) = n) && xs.all isRowItem) = true from h)).1⟩
  | _ => cases h
theorem isRowD_mem {xs : List PyData} {n : Int} (h : isRowD (.tuple xs) n = true) {d : PyData} (hd : d ∈ xs) : isRowItem d = true :=
  List.all_eq_true.mp (Bool.and_eq_true_iff.mp (show (decide ((xs.length : Int) = n) && xs.all isRowItem) = true from h)).2 d hd
theorem cutD_le (ds : List PyData) (lo hi : Option Int) : (DL.cutD ds lo hi).length ≤ ds.length := by
  unfold DL.cutD
  rw [List.length_take, List.length_drop]
  omega
theorem cutD_mem {ds : List PyData} {lo hi : Option Int} {d : PyData} (h : d ∈ DL.cutD ds lo hi) : d ∈ ds := List.mem_of_mem_drop (List.mem_of_mem_take h)
noncomputable def pre_is_line : List PyData → Prop := fun ds => ∃ v, ds = [v]
noncomputable def post_is_line : List PyData → PyData → Prop := fun ds d => ∃ v, ds = [v] ∧ d = .bool (isLineD v)
noncomputable abbrev sp_is_line (K : PySem.W.Frag) : Sp := SpP K pre_is_line post_is_line
theorem len_is_line (K : PySem.W.Frag) (vs : List V) (H : Hp) (Q : VK) (E : XK) (h : sp_is_line K vs H Q E) : vs.length = p_is_line.length := len_P (n := 1) h fun ds hp => by
  obtain ⟨v, e⟩ := hp
  rw [e]; rfl
noncomputable def t_is_line (K : PySem.W.Frag) : TS :=
  (tSeq (tIfS (tOr (tNot (tB (tCB (rIsi K) (tCons (tVar 0) (tCons (tC (.ty "tuple")) tNil))))) (tTest (tOp rNe (tCB (rLenQ K) (tCons (tVar 0) tNil)) (tC (.int 2))))) (tRet (tC (.bl false))) tNext)
  (tSeq (tAsg (tVar 0) (gTup K 2 (gCons (gName 1) (gCons (gName 2) gNil))))
  (tSeq (tIfS (tOr (tNot (tB (tCB (rIsi K) (tCons (tVar 1) (tCons (tC (.ty "tuple")) tNil))))) (tNot (tTest (tChain (rI0 fun i j => .bl (decide (i ≤ j))) (rI0 fun i j => .bl (decide (i ≤ j))) (tC (.int 1)) (tCB (rLenQ K) (tCons (tVar 1) tNil)) (tC (.int 8)))))) (tRet (tC (.bl false))) tNext)
  (tSeq (tIfS (tOr (tNot (tB (tCall (sp_is_row_of_fractions K) [] E0 (tCons (tVar 1) (tCons (tCB (rLenQ K) (tCons (tVar 1) tNil)) tNil))))) (tNot (tB (tCall (sp_is_row_of_fractions K) [] E0 (tCons (tVar 2) (tCons (tOp (rAddA K) (tCB (rLenQ K) (tCons (tVar 1) tNil)) (tC (.int 1))) tNil)))))) (tRet (tC (.bl false))) tNext)
  (tRet (tCB (rAll K) (tCons (tLc (iTup K (tOp (rAddA K) (tVar 1) (tSl (rSlX2 K) (tVar 2) (tPart (tC (.int 1))) (tPart (tUn (rU fun i => .int (-i)) (tC (.int 1))))))) (gName 3) tYes (tOp (rI0 fun i j => .bl (decide (j < i))) (tOp (rIx K) (tVar 3) (tC (.int 0))) (tC (.int 0))) [3]) tNil)))))))
theorem pure_is_line (K : PySem.W.Frag) (vs : List V) (H : Hp) (Q : VK) (E : XK) (h : sp_is_line K vs H Q E) : t_is_line K { nx := fun _ H' => Q .non H', rt := Q } (L2.start N_is_line vs) H := body_P h fun B ds hW hp => by
  obtain ⟨v, e⟩ := hp
  subst e
  unfold t_is_line
  walk_at "dd"
  refine ⟨fun hb => ?_, fun hb => ⟨fun _ => ?_, fun z => nomatch z⟩⟩
  · obtain ⟨xs, rfl⟩ := isTupT_true (d := v) (by simpa using hb)
    walk_at "dd"
    refine ⟨fun hb => ?_, fun hb => ?_⟩
    · refine st_ret (ev_bl ⟨_, rfl, ?_⟩)
      have hl : xs.length ≠ 2 := by
        simp at hb
        omega
      rw [isLine_len hl]
    · have hl : xs.length = 2 := by
        simp at hb
        omega
      obtain ⟨a, b, rfl⟩ : ∃ a b, xs = [a, b] := by
        match xs, hl with
        | [a, b], _ => exact ⟨a, b, rfl⟩
      refine st_next (st_seq (st_unpack (ev_var rfl ⟨_, rfl, rfl, tg_cons (tg_cons (tg_nil ?_))⟩)))
      walk_at "dd"
      refine ⟨fun hb => ?_, fun hb => ⟨fun _ => ?_, fun z => nomatch z⟩⟩
      · obtain ⟨ds, rfl⟩ := isTupT_true (d := a) (by simpa using hb)
        walk_at "dd"
        refine ⟨fun hb => ?_, fun hb => ?_⟩
        · walk_at "dd"
          refine ⟨fun hb2 => ?_, fun hb2 => ?_⟩
          · refine st_ret (ev_bl ⟨_, rfl, ?_⟩)
            have h8 : ¬ ds.length ≤ 8 := by
              simp at hb2
              omega
            rw [isLine_disc (fun z => h8 z.2)]
          · have h1 : 1 ≤ ds.length := by
              have := of_decide_eq_true hb
              omega
            have h8 : ds.length ≤ 8 := by
              simp at hb2
              omega
            walk_at "dd"
            refine ev_callP ?_
            walk_at "dd"
            refine ⟨⟨_, _, rfl, by omega, by omega⟩, fun d ⟨v, n, ev, ed⟩ => ?_⟩
            cases ev
            refine ⟨_, ed, fun hb3 => ?_, fun hb3 => ⟨fun _ => ?_, fun z => nomatch z⟩⟩
            · have r1 : isRowD (.tuple ds) ds.length = true := by simpa using hb3
              refine et_not (et_B (ev_callP ?_))
              walk_at "dd"
              refine ⟨⟨_, _, rfl, by omega, by omega⟩, fun d ⟨v, n, ev, ed⟩ => ?_⟩
              cases ev
              refine ⟨_, ed, fun hb4 => ?_, fun hb4 => ?_⟩
              · refine st_ret (ev_bl ⟨_, rfl, ?_⟩)
                rw [isLine_row2 (by simpa using hb4)]
              · have r2 : isRowD b ((ds.length : Int) + 1) = true := by simpa using hb4
                obtain ⟨ss, rfl, hs⟩ := isRowD_tup r2
                refine st_next (st_ret (ev_cb (ea_cons (ev_new (en_lcT (wipe1 3) ?_)))))
                have hcl := cutD_le ss (some 1) (some (-1))
                have hz : (ds ++ DL.cutD ss (some 1) (some (-1))).length ≤ 100000 := by
                  rw [List.length_append]
                  omega
                have hit : ∀ d' ∈ ds ++ DL.cutD ss (some 1) (some (-1)), isRowItem d' = true := fun d' hd => by
                  rcases List.mem_append.mp hd with hd | hd
                  · exact isRowD_mem r1 hd
                  · exact isRowD_mem r2 (cutD_mem hd)
                walk_at "dd"
                refine ro_catT (by omega) ?_
                have hfin := isLine_in h1 h8 r1 r2
                revert hfin hz hit
                generalize ds ++ DL.cutD ss (some 1) (some (-1)) = xs
                intro hz hit hfin
                refine ⟨xs, rfl, hz, fun i acc => acc = ((xs.take i).map fun d => PyData.bool (decide (0 < numD d))), ⟨rfl, fun i D d' acc hi hJ hin => ?_⟩, fun acc hJ => ?_⟩
                · refine et_yes ⟨fun _ => ?_, fun z => nomatch z⟩
                  subst hJ
                  have hd' := hit d' (List.mem_of_getElem? hi)
                  have hf : isFracD d' = true := (Bool.and_eq_true_iff.mp hd').1
                  obtain ⟨p, q, rfl, hq, hg⟩ := isFracD_true hf
                  refine ev_op (ev_op (ev_var rfl (ev_int (rok_ixsT (d := .int p) rfl (ev_int (rok_b0 ?_))))))
                  show _ = List.map (fun d => PyData.bool (decide (0 < numD d))) (List.take (i + 1) xs)
                  rw [List.take_add_one, hi, List.map_append]
                  rfl
                · refine ea_nil ?_
                  subst hJ
                  rw [List.take_length, show (xs.map fun d => PyData.bool (decide (0 < numD d))) = (xs.map fun d => decide (0 < numD d)).map PyData.bool by rw [List.map_map]; rfl]
                  refine cok_all ⟨_, rfl, ?_⟩
                  rw [hfin, List.all_map]
                  rfl
            · refine st_ret (ev_bl ⟨_, rfl, ?_⟩)
              rw [isLine_row1 (by simpa using hb3)]
        · walk_at "dd"
          refine ⟨fun _ => ?_, fun z => nomatch z⟩
          refine st_ret (ev_bl ⟨_, rfl, ?_⟩)
          have h8 : ¬ 1 ≤ ds.length := by
            have := of_decide_eq_false hb
            omega
          rw [isLine_disc (fun z => h8 z.1)]
      · refine st_ret (ev_bl ⟨_, rfl, ?_⟩)
        cases a <;> first | rfl | cases hb
  · refine st_ret (ev_bl ⟨_, rfl, ?_⟩)
    cases v <;> first | rfl | cases hb
theorem ok_is_line (T : Tx K mg) : FnOk P w K mg base CX0 5 T.a_is_line T.d_is_line p_is_line (sp_is_line K) := by
  refine T.F_is_line.ok sc_is_line (fun vs H Q E h => len_is_line K vs H Q E h) (fun cdv A outer s H vs Q E hr h => ?_)
  exact ⟨t_is_line K, (pss_cons (ps_if (PW.pt (pw_or (pt_not (pt_val (pe_callB call_isi (by rfl) T.n_isinstance (by decide +kernel) (pa_cons (pv 0) (pa_cons (pe_bltn (v := .ty "tuple") (by rfl) T.n_tuple (by decide +kernel) rfl) pa_nil))))) (pw_or1 (pt_cmpR op_ne (pe_callB call_len_seq (by rfl) T.n_len (by decide +kernel) (pa_cons (pv 0) pa_nil)) pe_int (nomark _))))) (pss_one (ps_ret pe_bl)) pss_nil)
  (pss_cons (ps_asg (pv 0) (pg_tup (by rfl) (pgs_cons (pg_name (i := 1) sc_is_line.nd rfl (Or.inl rfl)) (pgs_cons (pg_name (i := 2) sc_is_line.nd rfl (Or.inl rfl)) pgs_nil))))
  (pss_cons (ps_if (PW.pt (pw_or (pt_not (pt_val (pe_callB call_isi (by rfl) T.n_isinstance (by decide +kernel) (pa_cons (pv 1) (pa_cons (pe_bltn (v := .ty "tuple") (by rfl) T.n_tuple (by decide +kernel) rfl) pa_nil))))) (pw_or1 (pt_not (pt_chain op_le op_le pe_int (pe_callB call_len_seq (by rfl) T.n_len (by decide +kernel) (pa_cons (pv 1) pa_nil)) (pe_glob rfl T.c_MOST_DISCS ⟨_, rfl⟩)))))) (pss_one (ps_ret pe_bl)) pss_nil)
  (pss_cons (ps_if (PW.pt (pw_or (pt_not (pt_val (pe_call (ok_is_row_of_fractions T) (hr.mono (by decide)) rfl T.g_is_row_of_fractions T.F_is_row_of_fractions.kp (b_is_row_of_fractions T) .nil pass0 (pa_cons (pv 1) (pa_cons (pe_callB call_len_seq (by rfl) T.n_len (by decide +kernel) (pa_cons (pv 1) pa_nil)) pa_nil))))) (pw_or1 (pt_not (pt_val (pe_call (ok_is_row_of_fractions T) (hr.mono (by decide)) rfl T.g_is_row_of_fractions T.F_is_row_of_fractions.kp (b_is_row_of_fractions T) .nil pass0 (pa_cons (pv 2) (pa_cons (pe_op op_addA (pe_callB call_len_seq (by rfl) T.n_len (by decide +kernel) (pa_cons (pv 1) pa_nil)) pe_int) pa_nil)))))))) (pss_one (ps_ret pe_bl)) pss_nil)
  (pss_one (ps_ret (pe_callB (cr_all rfl) (by rfl) T.n_all (by decide +kernel) (pa_cons (pe_lc (own := [("number", 3)]) (by rfl) sc_is_line.nd (pi_tup (pe_op op_addA (pv 1) (pe_slice sl_any (pv 2) (po_some pe_int) (po_some (pe_un un_neg pe_int))))) (blkOk_by (own := [("number", 3)]) (N := N_is_line) (sc := defScope s_is_line) (by decide +kernel)) (fun _ _ _ _ _ => pg_name (i := 3) sc_is_line.nd rfl (Or.inl rfl)) (fun _ _ _ _ _ => pts_nil) (fun _ _ _ _ _ => (pe_cmpR op_gt (pe_ix ix_seq (pv 3) pe_int (fun _ _ => rfl)) pe_int (nomark _)))) pa_nil)))))))), pure_is_line K vs H Q E h⟩
/-! ### check_line -/
theorem frD_item {x : Fr} (h : FOk x) (h0 : 0 ≤ x.1) : isRowItem (frD x) = true := by
  show (decide (0 < x.2) && decide (((Nat.gcd x.1.natAbs x.2.natAbs : Nat) : Int) = 1) && decide (0 ≤ x.1)) = true
  rw [decide_eq_true h.1, decide_eq_true h0, decide_eq_true (by rw [h.2]; rfl)]
  rfl
theorem lineD_is {dd ss : List Fr} (h : LN dd ss) : isLineD (lineD dd ss) = true := by
  have n1 := h.c1
  have n8 := h.c8
  show (decide (1 ≤ (dd.map frD).length ∧ (dd.map frD).length ≤ 8) && (isRowD (.tuple (dd.map frD)) (dd.map frD).length && (isRowD (.tuple (ss.map frD)) (((dd.map frD).length : Int) + 1) && ((dd.map frD ++ DL.cutD (ss.map frD) (some 1) (some (-1))).all fun d => decide (0 < numD d))))) = true
  have hr1 : isRowD (.tuple (dd.map frD)) (dd.map frD).length = true := by
    show (decide (((dd.map frD).length : Int) = ((dd.map frD).length : Int)) && (dd.map frD).all isRowItem) = true
    rw [decide_eq_true rfl, Bool.true_and, List.all_eq_true]
    intro d hd
    obtain ⟨x, hx, rfl⟩ := List.mem_map.mp hd
    obtain ⟨a, b, _⟩ := h.dok x hx
    exact frD_item a (by omega)
  have hr2 : isRowD (.tuple (ss.map frD)) (((dd.map frD).length : Int) + 1) = true := by
    show (decide (((ss.map frD).length : Int) = ((dd.map frD).length : Int) + 1) && (ss.map frD).all isRowItem) = true
    rw [decide_eq_true (by rw [List.length_map, List.length_map, h.len]; omega), Bool.true_and, List.all_eq_true]
    intro d hd
    obtain ⟨x, hx, rfl⟩ := List.mem_map.mp hd
    obtain ⟨a, b, _⟩ := h.sok x hx
    exact frD_item a b
  have hc : decide (1 ≤ (dd.map frD).length ∧ (dd.map frD).length ≤ 8) = true := decide_eq_true (by rw [List.length_map]; omega)
  rw [hr1, hr2, hc, Bool.true_and, Bool.true_and, Bool.true_and, List.all_eq_true]
  intro d hd
  apply decide_eq_true
  rcases List.mem_append.mp hd with hd | hd
  · obtain ⟨x, hx, rfl⟩ := List.mem_map.mp hd
    exact (h.dok x hx).2.1
  · obtain ⟨i, hi, e⟩ := List.getElem_of_mem hd
    have e2 : (DL.cutD (ss.map frD) (some 1) (some (-1)))[i]? = some d := by rw [List.getElem?_eq_getElem hi, e]
    unfold DL.cutD at e2
    rw [List.getElem?_take] at e2
    have s1 : HT.sIx (ss.map frD).length 0 (some 1) = 1 := by
      rw [show (1 : Int) = ((1 : Nat) : Int) by rfl, HT.sIx_nat, List.length_map, h.len]
      omega
    have s2 : HT.sIx (ss.map frD).length (ss.map frD).length (some (-1)) = dd.length := by
      show (if (-1 : Int) < 0 then (-1 + ((ss.map frD).length : Int)).toNat else min (-1 : Int).toNat (ss.map frD).length) = dd.length
      rw [if_pos (by decide), List.length_map, h.len]
      omega
    rw [s1, s2] at e2
    by_cases q : i < dd.length - 1
    · rw [if_pos q, List.getElem?_drop, List.getElem?_map] at e2
      cases e3 : ss[1 + i]? with
      | none => rw [e3] at e2; cases e2
      | some x =>
        rw [e3] at e2
        cases e2
        exact h.inn (1 + i) x (by omega) (by omega) e3
    · rw [if_neg q] at e2
      cases e2
noncomputable def pre_check_line : List PyData → Prop := fun ds => ∃ dd ss : List Fr, ds = [lineD dd ss] ∧ LN dd ss
noncomputable def post_check_line : List PyData → PyData → Prop := fun ds d => d = .none
noncomputable abbrev sp_check_line (K : PySem.W.Frag) : Sp := SpP K pre_check_line post_check_line
theorem len_check_line (K : PySem.W.Frag) (vs : List V) (H : Hp) (Q : VK) (E : XK) (h : sp_check_line K vs H Q E) : vs.length = p_check_line.length := len_P (n := 1) h fun ds hp => by
  obtain ⟨dd, ss, e, h⟩ := hp
  rw [e]; rfl
noncomputable def t_check_line (K : PySem.W.Frag) : TS :=
  (tIfS (tNot (tB (tCall (sp_is_line K) [] E0 (tCons (tVar 0) tNil)))) tNever tNext)
theorem pure_check_line (K : PySem.W.Frag) (vs : List V) (H : Hp) (Q : VK) (E : XK) (h : sp_check_line K vs H Q E) : t_check_line K { nx := fun _ H' => Q .non H', rt := Q } (L2.start N_check_line vs) H := body_P h fun B ds hW hp => by
  obtain ⟨dd, ss, e, h⟩ := hp
  subst e
  unfold t_check_line
  refine st_if (et_not (et_B (ev_callP (ea_cons (ev_var rfl (ea_nil ⟨⟨_, rfl⟩, fun d ⟨v, ev, ed⟩ => ?_⟩))))))
  cases ev
  rw [lineD_is h] at ed
  refine ⟨_, ed, (fun z => nomatch z), fun _ => ?_⟩
  exact st_next rfl
theorem ok_check_line (T : Tx K mg) : FnOk P w K mg base CX0 6 T.a_check_line T.d_check_line p_check_line (sp_check_line K) := by
  refine T.F_check_line.ok sc_check_line (fun vs H Q E h => len_check_line K vs H Q E h) (fun cdv A outer s H vs Q E hr h => ?_)
  exact ⟨t_check_line K, (pss_one (ps_if (pt_not (pt_val (pe_call (ok_is_line T) (hr.mono (by decide)) rfl T.g_is_line T.F_is_line.kp (b_is_line T) .nil pass0 (pa_cons (pv 0) pa_nil)))) (pss_one ps_never) pss_nil)), pure_check_line K vs H Q E h⟩
/-! ### check_index -/

noncomputable def pre_check_index : List PyData → Prop := fun ds => ∃ (dd ss : List Fr) (k : Nat), ds = [lineD dd ss, .int (k : Int)] ∧ k < dd.length
noncomputable def post_check_index : List PyData → PyData → Prop := fun ds d => d = .none
noncomputable abbrev sp_check_index (K : PySem.W.Frag) : Sp := SpP K pre_check_index post_check_index
theorem len_check_index (K : PySem.W.Frag) (vs : List V) (H : Hp) (Q : VK) (E : XK) (h : sp_check_index K vs H Q E) : vs.length = p_check_index.length := len_P (n := 2) h fun ds hp => by
  obtain ⟨dd, ss, k, e, hk⟩ := hp
  rw [e]; rfl
noncomputable def t_check_index (K : PySem.W.Frag) : TS :=
  (tIfS (tNot (tB (tCall (sp_is_index K) [] E0 (tCons (tVar 1) (tCons (tCB (rLenQ K) (tCons (tOp (rIx K) (tVar 0) (tC (.int 0))) tNil)) tNil))))) tNever tNext)
theorem pure_check_index (K : PySem.W.Frag) (vs : List V) (H : Hp) (Q : VK) (E : XK) (h : sp_check_index K vs H Q E) : t_check_index K { nx := fun _ H' => Q .non H', rt := Q } (L2.start N_check_index vs) H := body_P h fun B ds hW hp => by
  obtain ⟨dd, ss, k, e, hk⟩ := hp
  subst e
  unfold t_check_index
  refine st_if (et_not (et_B (ev_callP (ea_cons (ev_var rfl (ea_cons (ev_cb (ea_cons (ev_op (ev_var rfl (ev_int (rok_ixsT (d := .tuple (dd.map frD)) rfl (ea_nil (co_lenT (ea_nil ⟨⟨_, _, rfl⟩, fun d ⟨a, b, e, ed⟩ => ?_⟩)))))))))))))))
  simp only [List.cons.injEq, PyData.int.injEq, and_true] at e
  obtain ⟨rfl, rfl⟩ := e
  refine ⟨_, ed, fun hb => ?_, fun hb => st_next rfl⟩
  exfalso
  rw [List.length_map, decide_eq_true (show (0 : Int) ≤ (k : Int) by omega), decide_eq_true (show (k : Int) < (dd.length : Int) by omega)] at hb
  cases hb
theorem ok_check_index (T : Tx K mg) : FnOk P w K mg base CX0 3 T.a_check_index T.d_check_index p_check_index (sp_check_index K) := by
  refine T.F_check_index.ok sc_check_index (fun vs H Q E h => len_check_index K vs H Q E h) (fun cdv A outer s H vs Q E hr h => ?_)
  exact ⟨t_check_index K, (pss_one (ps_if (pt_not (pt_val (pe_call (ok_is_index T) (hr.mono (by decide)) rfl T.g_is_index T.F_is_index.kp (b_is_index T) .nil pass0 (pa_cons (pv 1) (pa_cons (pe_callB call_len_seq (by rfl) T.n_len (by decide +kernel) (pa_cons (pe_ix ix_seq (pv 0) pe_int (fun _ _ => rfl)) pa_nil)) pa_nil))))) (pss_one ps_never) pss_nil)), pure_check_index K vs H Q E h⟩
/-! ### check_pace -/

noncomputable def pre_check_pace : List PyData → Prop := fun ds => ∃ p : Fr, ds = [frD p] ∧ FOk p ∧ 0 ≤ p.1
noncomputable def post_check_pace : List PyData → PyData → Prop := fun ds d => d = .none
noncomputable abbrev sp_check_pace (K : PySem.W.Frag) : Sp := SpP K pre_check_pace post_check_pace
theorem len_check_pace (K : PySem.W.Frag) (vs : List V) (H : Hp) (Q : VK) (E : XK) (h : sp_check_pace K vs H Q E) : vs.length = p_check_pace.length := len_P (n := 1) h fun ds hp => by
  obtain ⟨p, e, fp, hp⟩ := hp
  rw [e]; rfl
noncomputable def t_check_pace (K : PySem.W.Frag) : TS :=
  (tIfS (tNot (tB (tCall (sp_is_fraction_from_nought K) [] E0 (tCons (tVar 0) tNil)))) tNever tNext)
theorem pure_check_pace (K : PySem.W.Frag) (vs : List V) (H : Hp) (Q : VK) (E : XK) (h : sp_check_pace K vs H Q E) : t_check_pace K { nx := fun _ H' => Q .non H', rt := Q } (L2.start N_check_pace vs) H := body_P h fun B ds hW hp => by
  obtain ⟨p, e, fp, hp⟩ := hp
  subst e
  unfold t_check_pace
  refine st_if (et_not (et_B (ev_callP (ea_cons (ev_var rfl (ea_nil ⟨⟨_, rfl⟩, fun d ⟨v, ev, ed⟩ => ?_⟩))))))
  cases ev
  rw [frD_item fp hp] at ed
  exact ⟨_, ed, (fun z => nomatch z), fun _ => st_next rfl⟩
theorem ok_check_pace (T : Tx K mg) : FnOk P w K mg base CX0 4 T.a_check_pace T.d_check_pace p_check_pace (sp_check_pace K) := by
  refine T.F_check_pace.ok sc_check_pace (fun vs H Q E h => len_check_pace K vs H Q E h) (fun cdv A outer s H vs Q E hr h => ?_)
  exact ⟨t_check_pace K, (pss_one (ps_if (pt_not (pt_val (pe_call (ok_is_fraction_from_nought T) (hr.mono (by decide)) rfl T.g_is_fraction_from_nought T.F_is_fraction_from_nought.kp (b_is_fraction_from_nought T) .nil pass0 (pa_cons (pv 0) pa_nil)))) (pss_one ps_never) pss_nil)), pure_check_pace K vs H Q E h⟩
/-! ### compare_pace -/

noncomputable def pre_compare_pace : List PyData → Prop := fun ds => ∃ (dd ss : List Fr) (k : Nat) (p : Fr), ds = [lineD dd ss, .int (k : Int), frD p] ∧ LN dd ss ∧ k < dd.length ∧ FOk p ∧ p.1.natAbs < 2 ^ 400 ∧ p.2.natAbs < 2 ^ 400
noncomputable def post_compare_pace : List PyData → PyData → Prop := fun ds d => ∃ (dd ss : List Fr) (k : Nat) (p : Fr), ds = [lineD dd ss, .int (k : Int), frD p] ∧ d = .int (cmpv (cnt (jv dd) (jv ss) (val p) (dd.length - 1)) (ea (jv dd) (jv ss) (val p) (dd.length - 1)) k)
noncomputable abbrev sp_compare_pace (K : PySem.W.Frag) : Sp := SpP K pre_compare_pace post_compare_pace
theorem len_compare_pace (K : PySem.W.Frag) (vs : List V) (H : Hp) (Q : VK) (E : XK) (h : sp_compare_pace K vs H Q E) : vs.length = p_compare_pace.length := len_P (n := 3) h fun ds hp => by
  obtain ⟨dd, ss, k, p, e, h, hk, fp, ht, hb⟩ := hp
  rw [e]; rfl
noncomputable def t_compare_pace (K : PySem.W.Frag) : TS :=
  (tSeq (tDrop (tCall (sp_check_line K) [] E0 (tCons (tVar 0) tNil)))
  (tSeq (tDrop (tCall (sp_check_index K) [] E0 (tCons (tVar 0) (tCons (tVar 1) tNil))))
  (tSeq (tAsg (tCall (sp_check_point K) [] E0 (tCons (tVar 2) (tCons tDNewK tNil))) (gName 3))
  (tSeq (tAsg (tCall (sp_run_signs K) [] E0 (tCons (tCall (sp_thinned_run K) [] E0 (tCons (tVar 0) tNil)) (tCons (tVar 3) tNil))) (gName 4))
  (tSeq (tAsg (tCall (sp_count_changes K) [] E0 (tCons (tVar 4) tNil)) (gName 5))
  (tSeq (tIfS (tTest (tOp (rI0 fun i j => .bl (decide (i < j))) (tVar 1) (tVar 5))) (tRet (tUn (rU fun i => .int (-i)) (tC (.int 1)))) tNext)
  (tSeq (tIfS (tAnd (tTest (tOp rEq (tVar 1) (tVar 5))) (tTest (tOp rEq (tOp (rIx K) (tVar 4) (tUn (rU fun i => .int (-i)) (tC (.int 1)))) (tC (.int 0))))) (tRet (tC (.int 0))) tNext)
  (tRet (tC (.int 1))))))))))
theorem pure_compare_pace (K : PySem.W.Frag) (vs : List V) (H : Hp) (Q : VK) (E : XK) (h : sp_compare_pace K vs H Q E) : t_compare_pace K { nx := fun _ H' => Q .non H', rt := Q } (L2.start N_compare_pace vs) H := body_P h fun B ds hW hp => by
  obtain ⟨dd, ss, k, p, e, h, hk, fp, ht, hb⟩ := hp
  subst e
  unfold t_compare_pace
  refine st_seq (st_drop (ev_callP (ea_cons (ev_var rfl (ea_nil ⟨⟨dd, ss, rfl, h⟩, fun d ed => ?_⟩)))))
  refine st_seq (st_drop (ev_callP (ea_cons (ev_var rfl (ea_cons (ev_var rfl (ea_nil ⟨⟨dd, ss, k, rfl, hk⟩, fun d ed => ?_⟩)))))))
  refine st_seqMk (ev_var rfl ⟨p, rfl, fp, fun a g pl => ?_⟩)
  refine st_seq (st_asg (ev_callO rfl (List.mem_cons_self ..) pl (ev_callP (ea_cons (ev_var rfl (ea_nil ⟨⟨dd, ss, rfl, h⟩, fun d ⟨dd', ss', el, rows, ed, hr⟩ => ?_⟩))))))
  obtain ⟨rfl, rfl⟩ := lineD_inj el
  subst ed
  have n8 := h.c8
  have n1 := h.c1
  have sh := hr.sh n8
  have hl := hr.len
  refine ⟨⟨rows, rfl, by omega, fun w hw => ⟨by have := (sh.row w hw).1; omega, fun x hx => pow_up ((sh.row w hw).2 x hx) (by decide)⟩, pow_up ht (by decide), pow_up hb (by decide)⟩, fun e ⟨ws, e1, e2⟩ => ?_⟩
  obtain rfl : rows = ws := rows_inj e1
  subst e2
  refine st_seq (st_asg (ev_callP (ea_cons (ev_var rfl (ea_nil ⟨⟨_, rfl, by simp; omega⟩, fun d ⟨l, e3, ed⟩ => ?_⟩)))))
  obtain rfl : _ = l := map_int_inj (by injection e3 with e3; injection e3)
  rw [signs_cnt hr h fp.1] at ed
  subst ed
  have se := signs_end hr h (p := p) fp.1
  have ls : (rows.map fun w => sgn (hor p.1 p.2 w)).length = dd.length + 1 := by simp [hl]
  generalize (rows.map fun w => sgn (hor p.1 p.2 w)) = signs at se ls ⊢
  generalize hc : cnt (jv dd) (jv ss) (val p) (dd.length - 1) = c
  generalize he : ea (jv dd) (jv ss) (val p) (dd.length - 1) = en at se ⊢
  have fin : ∀ z : Int, z = cmpv c en k → post_compare_pace [lineD dd ss, .int (k : Int), frD p] (.int z) := fun z hz => ⟨dd, ss, k, p, rfl, by rw [hc, he, hz]⟩
  refine st_seq (st_if ?_)
  walk_at "dd"
  refine ⟨fun hb2 => ?_, fun hb2 => ?_⟩
  · have q : k < c := by
      have := of_decide_eq_true hb2
      omega
    refine st_ret (ev_un (ev_int (uok_neg (fin _ ?_))))
    unfold cmpv
    rw [if_pos q]
  · have q : ¬ k < c := by
      have := of_decide_eq_false hb2
      omega
    refine st_next (st_seq (st_if (et_and ?_)))
    walk_at "dd"
    refine ⟨fun hb3 => ?_, fun hb3 => ?_⟩
    · have q3 : k = c := by
        have := of_decide_eq_true hb3
        omega
      refine et_test (ev_op (ev_op (ev_var rfl (ev_un (ev_int (uok_neg (rok_ixsL (d := .int (rsgn en)) ?_ (ev_int (rok_eqI ⟨_, rfl, fun hb4 => ?_, fun hb4 => ?_⟩)))))))))
      · rw [at_last _ (by rw [List.length_map]; exact ls), List.getElem?_map, se]
        rfl
      · have q4 : en = 0 := rsgn_zero.mp (of_decide_eq_true hb4)
        refine st_ret (ev_int (fin _ ?_))
        unfold cmpv
        rw [if_neg q, if_pos ⟨q3, q4⟩]
      · have q4 : ¬ en = 0 := fun z => of_decide_eq_false hb4 (rsgn_zero.mpr z)
        refine st_next (st_ret (ev_int (fin _ ?_)))
        unfold cmpv
        rw [if_neg q, if_neg fun z => q4 z.2]
    · have q3 : ¬ k = c := by
        have := of_decide_eq_false hb3
        omega
      refine ⟨(fun z => nomatch z), fun _ => st_next (st_ret (ev_int (fin _ ?_)))⟩
      unfold cmpv
      rw [if_neg q, if_neg fun z => q3 z.1]
theorem ok_compare_pace (T : Tx K mg) : FnOk P w K mg base CX0 7 T.a_compare_pace T.d_compare_pace p_compare_pace (sp_compare_pace K) := by
  refine T.F_compare_pace.ok sc_compare_pace (fun vs H Q E h => len_compare_pace K vs H Q E h) (fun cdv A outer s H vs Q E hr h => ?_)
  exact ⟨t_compare_pace K, (pss_cons (ps_expr (pe_call (ok_check_line T) (hr.mono (by decide)) rfl T.g_check_line T.F_check_line.kp (b_check_line T) .nil pass0 (pa_cons (pv 0) pa_nil)))
  (pss_cons (ps_expr (pe_call (ok_check_index T) (hr.mono (by decide)) rfl T.g_check_index T.F_check_index.kp (b_check_index T) .nil pass0 (pa_cons (pv 0) (pa_cons (pv 1) pa_nil))))
  (pss_cons (ps_set (i := 3) sc_compare_pace.nd rfl (Or.inl rfl) (pe_call (ok_check_point T) (hr.mono (by decide)) rfl T.g_check_point T.F_check_point.kp (b_check_point T) .nil pass0 (pa_cons (pv 2) (pa_cons pe_dnewK pa_nil))))
  (pss_cons (ps_set (i := 4) sc_compare_pace.nd rfl (Or.inl rfl) (pe_call (ok_run_signs T) (hr.mono (by decide)) rfl T.g_run_signs T.F_run_signs.kp (b_run_signs T) .nil pass0 (pa_cons (pe_call (ok_thinned_run T) (hr.mono (by decide)) rfl T.g_thinned_run T.F_thinned_run.kp (b_thinned_run T) .nil pass0 (pa_cons (pv 0) pa_nil)) (pa_cons (pv 3) pa_nil))))
  (pss_cons (ps_set (i := 5) sc_compare_pace.nd rfl (Or.inl rfl) (pe_call (ok_count_changes T) (hr.mono (by decide)) rfl T.g_count_changes T.F_count_changes.kp (b_count_changes T) .nil pass0 (pa_cons (pv 4) pa_nil)))
  (pss_cons (ps_if (pt_cmpR op_lt (pv 1) (pv 5) (nomark _)) (pss_one (ps_ret (pe_un un_neg pe_int))) pss_nil)
  (pss_cons (ps_if (PW.pt (pw_and (pt_cmpR op_eq (pv 1) (pv 5) (nomark _)) (pw_and1 (pt_cmpR op_eq (pe_ix ix_seq (pv 4) (pe_un un_neg pe_int) (fun _ _ => rfl)) pe_int (nomark _))))) (pss_one (ps_ret pe_int)) pss_nil)
  (pss_one (ps_ret pe_int))))))))), pure_compare_pace K vs H Q E h⟩
/-! ### is_shape -/

noncomputable def pre_is_shape : List PyData → Prop := fun ds => ∃ (dd ss : List Fr) (us : List Int), ds = [lineD dd ss, tupI us] ∧ us.length = dd.length ∧ us.length ≤ 100
noncomputable def post_is_shape : List PyData → PyData → Prop := fun ds d => d = .bool true
noncomputable abbrev sp_is_shape (K : PySem.W.Frag) : Sp := SpP K pre_is_shape post_is_shape
theorem len_is_shape (K : PySem.W.Frag) (vs : List V) (H : Hp) (Q : VK) (E : XK) (h : sp_is_shape K vs H Q E) : vs.length = p_is_shape.length := len_P (n := 2) h fun ds hp => by
  obtain ⟨dd, ss, us, e, hl, h100⟩ := hp
  rw [e]; rfl
noncomputable def t_is_shape (K : PySem.W.Frag) : TS :=
  (tSeq (tIfS (tOr (tNot (tB (tCB (rIsi K) (tCons (tVar 1) (tCons (tC (.ty "tuple")) tNil))))) (tTest (tOp rNe (tCB (rLenQ K) (tCons (tVar 1) tNil)) (tCB (rLenQ K) (tCons (tOp (rIx K) (tVar 0) (tC (.int 0))) tNil))))) (tRet (tC (.bl false))) tNext)
  (tRet (tCB (rAll K) (tCons (tLc (iTup K (tVar 1)) (gName 2) tYes (tCall (sp_is_whole K) [] E0 (tCons (tVar 2) tNil)) [2]) tNil))))
theorem pure_is_shape (K : PySem.W.Frag) (vs : List V) (H : Hp) (Q : VK) (E : XK) (h : sp_is_shape K vs H Q E) : t_is_shape K { nx := fun _ H' => Q .non H', rt := Q } (L2.start N_is_shape vs) H := body_P h fun B ds hW hp => by
  obtain ⟨dd, ss, us, e, hl, h100⟩ := hp
  subst e
  unfold t_is_shape
  refine st_seq (st_if (et_or (et_not (et_B (ev_isiTup (ev_var rfl ⟨_, rfl, fun hb => ?_, (fun z => nomatch z)⟩))))))
  refine et_test (ev_op (ev_cb (ea_cons (ev_var rfl (ea_nil (co_lenT (ev_cb (ea_cons (ev_op (ev_var rfl (ev_int (rok_ixsT (d := .tuple (dd.map frD)) rfl (ea_nil (co_lenT (rok_neI ⟨_, rfl, fun hb => ?_, fun _ => st_next ?_⟩)))))))))))))))
  · rw [List.length_map, List.length_map, hl] at hb
    simp at hb
  refine st_ret (ev_cb (ea_cons (ev_new (en_lcT (wipe1 2) (ev_var rfl ⟨_, rfl, by rw [List.length_map]; omega, fun i acc => acc = (List.replicate i true).map PyData.bool, ⟨rfl, fun i D d' acc hi hJ hin => ?_⟩, fun acc hJ => ?_⟩)))))
  · obtain ⟨z, hz, rfl⟩ : ∃ z, us[i]? = some z ∧ d' = .int z := map_get hi
    refine et_yes ⟨fun _ => ?_, fun z => nomatch z⟩
    refine ev_callP (ea_cons (ev_var rfl (ea_nil ⟨⟨_, rfl⟩, fun r ⟨v, e, er⟩ => ?_⟩)))
    cases e
    subst er
    show acc ++ [PyData.bool true] = (List.replicate (i + 1) true).map PyData.bool
    rw [hJ, List.replicate_succ', List.map_append]
    rfl
  · refine ea_nil ?_
    subst hJ
    refine cok_all ?_
    rw [show (List.replicate _ true).all id = true by simp]
    rfl
theorem ok_is_shape (T : Tx K mg) : FnOk P w K mg base CX0 2 T.a_is_shape T.d_is_shape p_is_shape (sp_is_shape K) := by
  refine T.F_is_shape.ok sc_is_shape (fun vs H Q E h => len_is_shape K vs H Q E h) (fun cdv A outer s H vs Q E hr h => ?_)
  exact ⟨t_is_shape K, (pss_cons (ps_if (PW.pt (pw_or (pt_not (pt_val (pe_callB call_isi (by rfl) T.n_isinstance (by decide +kernel) (pa_cons (pv 1) (pa_cons (pe_bltn (v := .ty "tuple") (by rfl) T.n_tuple (by decide +kernel) rfl) pa_nil))))) (pw_or1 (pt_cmpR op_ne (pe_callB call_len_seq (by rfl) T.n_len (by decide +kernel) (pa_cons (pv 1) pa_nil)) (pe_callB call_len_seq (by rfl) T.n_len (by decide +kernel) (pa_cons (pe_ix ix_seq (pv 0) pe_int (fun _ _ => rfl)) pa_nil)) (nomark _))))) (pss_one (ps_ret pe_bl)) pss_nil)
  (pss_one (ps_ret (pe_callB (cr_all rfl) (by rfl) T.n_all (by decide +kernel) (pa_cons (pe_lc (own := [("angle", 2)]) (by rfl) sc_is_shape.nd (pi_tup (pv 1)) (blkOk_by (own := [("angle", 2)]) (N := N_is_shape) (sc := defScope s_is_shape) (by decide +kernel)) (fun _ _ _ _ _ => pg_name (i := 2) sc_is_shape.nd rfl (Or.inl rfl)) (fun _ _ _ _ _ => pts_nil) (fun _ _ _ _ _ => (pe_call (ok_is_whole T) (hr.mono (by decide)) rfl T.g_is_whole T.F_is_whole.kp (b_is_whole T) .nil pass0 (pa_cons (pv 2) pa_nil)))) pa_nil))))), pure_is_shape K vs H Q E h⟩
/-! ### check_shape -/

noncomputable def pre_check_shape : List PyData → Prop := fun ds => ∃ (dd ss : List Fr) (us : List Int), ds = [lineD dd ss, tupI us] ∧ us.length = dd.length ∧ us.length ≤ 100
noncomputable def post_check_shape : List PyData → PyData → Prop := fun ds d => d = .none
noncomputable abbrev sp_check_shape (K : PySem.W.Frag) : Sp := SpP K pre_check_shape post_check_shape
theorem len_check_shape (K : PySem.W.Frag) (vs : List V) (H : Hp) (Q : VK) (E : XK) (h : sp_check_shape K vs H Q E) : vs.length = p_check_shape.length := len_P (n := 2) h fun ds hp => by
  obtain ⟨dd, ss, us, e, hl, h100⟩ := hp
  rw [e]; rfl
noncomputable def t_check_shape (K : PySem.W.Frag) : TS :=
  (tIfS (tNot (tB (tCall (sp_is_shape K) [] E0 (tCons (tVar 0) (tCons (tVar 1) tNil))))) tNever tNext)
theorem pure_check_shape (K : PySem.W.Frag) (vs : List V) (H : Hp) (Q : VK) (E : XK) (h : sp_check_shape K vs H Q E) : t_check_shape K { nx := fun _ H' => Q .non H', rt := Q } (L2.start N_check_shape vs) H := body_P h fun B ds hW hp => by
  obtain ⟨dd, ss, us, e, hl, h100⟩ := hp
  subst e
  unfold t_check_shape
  refine st_if (et_not (et_B (ev_callP (ea_cons (ev_var rfl (ea_cons (ev_var rfl (ea_nil ⟨⟨dd, ss, us, rfl, hl, h100⟩, fun r er => ?_⟩))))))))
  exact ⟨_, er, (fun z => nomatch z), fun _ => st_next rfl⟩
theorem ok_check_shape (T : Tx K mg) : FnOk P w K mg base CX0 3 T.a_check_shape T.d_check_shape p_check_shape (sp_check_shape K) := by
  refine T.F_check_shape.ok sc_check_shape (fun vs H Q E h => len_check_shape K vs H Q E h) (fun cdv A outer s H vs Q E hr h => ?_)
  exact ⟨t_check_shape K, (pss_one (ps_if (pt_not (pt_val (pe_call (ok_is_shape T) (hr.mono (by decide)) rfl T.g_is_shape T.F_is_shape.kp (b_is_shape T) .nil pass0 (pa_cons (pv 0) (pa_cons (pv 1) pa_nil))))) (pss_one ps_never) pss_nil)), pure_check_shape K vs H Q E h⟩
/-! ### twists_of -/

noncomputable def pre_twists_of : List PyData → Prop := fun ds => ∃ us : List Int, ds = [tupI us] ∧ us.length ≤ 8
noncomputable def post_twists_of : List PyData → PyData → Prop := fun ds d => ∃ us : List Int, ds = [tupI us] ∧ d = .list ((twl us (us.length + 1)).map .int)
noncomputable abbrev sp_twists_of (K : PySem.W.Frag) : Sp := SpP K pre_twists_of post_twists_of
theorem len_twists_of (K : PySem.W.Frag) (vs : List V) (H : Hp) (Q : VK) (E : XK) (h : sp_twists_of K vs H Q E) : vs.length = p_twists_of.length := len_P (n := 1) h fun ds hp => by
  obtain ⟨us, e, h8⟩ := hp
  rw [e]; rfl
noncomputable def t_twists_of (K : PySem.W.Frag) : TS :=
  (tSeq (tAsg (tOp (rAddA K) (tOp (rAddA K) (tLst (tCons (tC (.int 0)) tNil)) (tCB (rListQ K) (tCons (tVar 0) tNil))) (tLst (tCons (tC (.int 0)) tNil))) (gName 1))
  (tRet (tLc (iRng1 (tCons (tOp (rI0 fun i j => .int (i - j)) (tCB (rLenQ K) (tCons (tVar 1) tNil)) (tC (.int 1))) tNil)) (gName 2) tYes (tOp (rI0 fun i j => .int (i - j)) (tOp (rIx K) (tVar 1) (tOp (rAddA K) (tVar 2) (tC (.int 1)))) (tOp (rIx K) (tVar 1) (tVar 2))) [2])))
theorem pure_twists_of (K : PySem.W.Frag) (vs : List V) (H : Hp) (Q : VK) (E : XK) (h : sp_twists_of K vs H Q E) : t_twists_of K { nx := fun _ H' => Q .non H', rt := Q } (L2.start N_twists_of vs) H := body_P h fun B ds hW hp => by
  obtain ⟨us, e, h8⟩ := hp
  subst e
  unfold t_twists_of
  refine st_seq (st_asg (ev_op (ev_op (ev_lst (ea_cons (ev_int (ea_nil ⟨by simp, ev_new (en_listQ (ev_var rfl ⟨_, .inl rfl, ?_⟩))⟩)))))))
  refine ro_catL (by simp; omega) (ev_lst (ea_cons (ev_int (ea_nil ⟨by simp, ?_⟩))))
  refine ro_catL (by simp; omega) ?_
  rw [show [PyData.int 0] ++ us.map PyData.int ++ [PyData.int 0] = ((0 :: us) ++ [0]).map PyData.int by simp]
  have hlen : (((0 :: us) ++ [0]).map PyData.int).length = us.length + 2 := by simp
  refine st_ret (ev_new (en_lcR (wipe1 2) (ea_cons (ev_op (ev_cb (ea_cons (ev_var rfl (ea_nil (co_lenL (ev_int (rok_i0 (ea_nil ⟨_, rfl, by simp; omega, by simp; omega, fun i acc => acc = (twl us i).map .int, ⟨rfl, fun i D d' acc hd hJ hin => ?_⟩, fun acc hJ => ?_⟩))))))))))))
  · have hi : i < us.length + 1 := by
      rw [hlen] at hin
      omega
    subst hJ
    subst hd
    refine et_yes ⟨fun _ => ?_, fun z => nomatch z⟩
    refine ev_op (ev_op (ev_var rfl (ev_op (ev_var rfl (ev_int (ro_add (rok_ixsL (d := .int ((0 :: us).getD (i + 1) 0)) ?_ (ev_op (ev_var rfl (ev_var rfl (rok_ixsL (d := .int ((0 :: us).getD i 0)) ?_ (rok_i0 ?_))))))))))))
    · rw [show (i : Int) + 1 = ((i + 1 : Nat) : Int) by omega, atI_n, List.getElem?_map, whole_at us (by omega)]
      rfl
    · rw [atI_n, List.getElem?_map, whole_at us (by omega)]
      rfl
    · show _ = _
      rw [twl_succ, List.map_append]
      rfl
  · refine ⟨us, rfl, ?_⟩
    rw [hJ, hlen, show (((us.length + 2 : Nat) : Int) - 1).toNat = us.length + 1 by omega]
theorem ok_twists_of (T : Tx K mg) : FnOk P w K mg base CX0 1 T.a_twists_of T.d_twists_of p_twists_of (sp_twists_of K) := by
  refine T.F_twists_of.ok sc_twists_of (fun vs H Q E h => len_twists_of K vs H Q E h) (fun cdv A outer s H vs Q E hr h => ?_)
  exact ⟨t_twists_of K, (pss_cons (ps_set (i := 1) sc_twists_of.nd rfl (Or.inr rfl) (pe_op op_addA (pe_op op_addA (pe_lst (pa_cons pe_int pa_nil)) (pe_callTy call_list_of (by rfl) T.n_list (by decide +kernel) (pa_cons (pv 0) pa_nil))) (pe_lst (pa_cons pe_int pa_nil))))
  (pss_one (ps_ret (pe_lc (own := [("place", 2)]) (by rfl) sc_twists_of.nd (pi_range1 (by rfl) T.n_range (pa_cons (pe_op op_sub (pe_callB call_len_seq (by rfl) T.n_len (by decide +kernel) (pa_cons (pv 1) pa_nil)) pe_int) pa_nil)) (blkOk_by (own := [("place", 2)]) (N := N_twists_of) (sc := defScope s_twists_of) (by decide +kernel)) (fun _ _ _ _ _ => pg_name (i := 2) sc_twists_of.nd rfl (Or.inl rfl)) (fun _ _ _ _ _ => pts_nil) (fun _ _ _ _ _ => (pe_op op_sub (pe_ix ix_seq (pv 1) (pe_op op_addA (pv 2) pe_int) (fun _ _ => rfl)) (pe_ix ix_seq (pv 1) (pv 2) (fun _ _ => rfl)))))))), pure_twists_of K vs H Q E h⟩
/-! ### weighed -/
structure Wg (r : List Fr) (u v : List Int) : Prop where
  l1 : r.length = u.length
  l2 : r.length = v.length
  l9 : r.length ≤ 9
  ok : ∀ x ∈ r, FOk x ∧ 0 ≤ x.1 ∧ x.1 < 18446744073709551616 ∧ x.2 < 18446744073709551616
  bu : ∀ k, -400 ≤ u.getD k 0 ∧ u.getD k 0 ≤ 400
  bv : ∀ k, -400 ≤ v.getD k 0 ∧ v.getD k 0 ≤ 400
theorem pr400 {x y : Int} (hx : -400 ≤ x ∧ x ≤ 400) (hy : -400 ≤ y ∧ y ≤ 400) : (x * y).natAbs < 2 ^ 18 := by
  rw [Int.natAbs_mul]
  have := Nat.mul_le_mul (show x.natAbs ≤ 400 by omega) (show y.natAbs ≤ 400 by omega)
  omega
theorem wg_size {r : List Fr} {u v : List Int} (h : Wg r u v) : ∀ k, k ≤ r.length → GS (1 + 83 * k) (sf (jv r) (uv u) (uv v) k)
  | 0, _ => ⟨0, 1, by decide, (by show (0 : Rat) * 1 = 0; decide +kernel), by decide, by decide⟩
  | k + 1, hk => by
    have g := wg_size h k (by omega)
    have hx : r[k]? = some r[k] := List.getElem?_eq_getElem hk
    obtain ⟨f, a, b, c⟩ := h.ok _ (List.mem_of_getElem? hx)
    have g1 := gs_jw hx f a b c
    have g2 : GS 18 (uv u k * uv v k) := ⟨u.getD k 0 * v.getD k 0, 1, by decide, (by rw [Rat.intCast_mul]; show _ * 1 = _; unfold uv; grind), pr400 (h.bu k) (h.bv k), by decide⟩
    exact (g.add (g1.mul g2)).up (by omega)
theorem sf_tw {J : Nat → Rat} {us vs : List Int} {n : Nat} : ∀ k, k ≤ n → sf J (uv (twl us n)) (uv (twl vs n)) k = tf J (wv us) (wv vs) k
  | 0, _ => rfl
  | k + 1, hk => by
    have e : ∀ us : List Int, uv (twl us n) k = wv us (k + 1) - wv us k := fun us => by
      unfold uv wv
      rw [List.getD_eq_getElem?_getD, twl_get (by omega), ← Rat.intCast_sub]
      rfl
    show sf J (uv (twl us n)) (uv (twl vs n)) k + J k * (uv (twl us n) k * uv (twl vs n) k) = tf J (wv us) (wv vs) k + _
    rw [sf_tw k (by omega), e, e]
theorem twl_bd {us : List Int} {c : Nat} (h : Trn us c 200) (n k : Nat) : -400 ≤ (twl us n).getD k 0 ∧ (twl us n).getD k 0 ≤ 400 := by
  by_cases q : k < n
  · rw [List.getD_eq_getElem?_getD, twl_get q]
    have a := h.getW (k + 1)
    have b := h.getW k
    show -400 ≤ (0 :: us).getD (k + 1) 0 - (0 :: us).getD k 0 ∧ (0 :: us).getD (k + 1) 0 - (0 :: us).getD k 0 ≤ 400
    omega
  · rw [getD_out (by rw [twl_len]; omega)]
    omega
theorem Wg.line {dd ss : List Fr} {us vs : List Int} (h : LN dd ss) (T : Trn us dd.length 200) (U : Trn vs dd.length 200) : Wg dd us vs ∧ Wg ss (twl us (dd.length + 1)) (twl vs (dd.length + 1)) := by
  have n8 := h.c8
  have hl := h.len
  refine ⟨⟨T.len.symm, U.len.symm, by omega, fun x hx => ?_, fun k => ?_, fun k => ?_⟩, ⟨by rw [twl_len, hl], by rw [twl_len, hl], by omega, fun x hx => ?_, twl_bd T _, twl_bd U _⟩⟩
  · obtain ⟨k, hk, e⟩ := List.getElem_of_mem hx
    obtain ⟨J, hJ, eJ, ja, jb, jc, jd⟩ := h.d_get hk
    rw [List.getElem?_eq_getElem hk] at hJ
    rw [← e, Option.some.inj hJ]
    exact ⟨ja, by omega, by omega, by omega⟩
  · have := T.get k
    omega
  · have := U.get k
    omega
  · obtain ⟨k, hk, e⟩ := List.getElem_of_mem hx
    obtain ⟨C, hC, eC, ca, cb, cc, cd, cq⟩ := h.s_get (i := k) hk
    rw [List.getElem?_eq_getElem hk] at hC
    rw [← e, Option.some.inj hC]
    exact ⟨ca, by omega, by omega, by omega⟩
theorem wg_inj {b c : Bool} {r s : List Fr} {u v p q : List Int} (h : [PyData.tuple (r.map frD), rowB b (u.map .int), rowB b (v.map .int)] = [.tuple (s.map frD), rowB c (p.map .int), rowB c (q.map .int)]) : r = s ∧ u = p ∧ v = q := by
  simp only [List.cons.injEq, and_true, PyData.tuple.injEq] at h
  obtain ⟨h1, h2, h3⟩ := h
  have k : ∀ {u p : List Int}, rowB b (u.map PyData.int) = rowB c (p.map PyData.int) → u = p := fun {u p} h => by
    unfold rowB at h
    cases b <;> cases c <;> simp at h
    · exact map_int_inj h
    · exact map_int_inj h
  exact ⟨mapF_inj h1, k h2, k h3⟩

noncomputable def pre_weighed : List PyData → Prop := fun ds => ∃ (b : Bool) (r : List Fr) (u v : List Int), ds = [.tuple (r.map frD), rowB b (u.map .int), rowB b (v.map .int)] ∧ Wg r u v
noncomputable def post_weighed : List PyData → PyData → Prop := fun ds d => ∃ (b : Bool) (r : List Fr) (u v : List Int) (t : Fr), ds = [.tuple (r.map frD), rowB b (u.map .int), rowB b (v.map .int)] ∧ d = frD t ∧ FOk t ∧ val t = sf (jv r) (uv u) (uv v) r.length
noncomputable abbrev sp_weighed (K : PySem.W.Frag) : Sp := SpP K pre_weighed post_weighed
theorem len_weighed (K : PySem.W.Frag) (vs : List V) (H : Hp) (Q : VK) (E : XK) (h : sp_weighed K vs H Q E) : vs.length = p_weighed.length := len_P (n := 3) h fun ds hp => by
  obtain ⟨b, r, u, v, e, h⟩ := hp
  rw [e]; rfl
noncomputable def t_weighed (T : Tx K mg) : TS :=
  (tSeq (tAsg (tC (.ref T.k_NOUGHT)) (gName 3))
  (tSeq (tFor (iZip3 K (tCons (tVar 0) (tCons (tVar 1) (tCons (tVar 2) tNil)))) (gTup K 3 (gCons (gName 4) (gCons (gName 5) (gCons (gName 6) gNil)))) (tAsg (tCall (sp_added K) [] E0 (tCons (tVar 3) (tCons (tCall (sp_multiplied K) [] E0 (tCons (tVar 4) (tCons (tTup (tCons (tOp (rMulA K) (tVar 5) (tVar 6)) (tCons (tC (.int 1)) tNil))) tNil))) tNil))) (gName 3)))
  (tRet (tVar 3))))
theorem pure_weighed (T : Tx K mg) (vs : List V) (H : Hp) (Q : VK) (E : XK) (h : sp_weighed K vs H Q E) : t_weighed T { nx := fun _ H' => Q .non H', rt := Q } (L2.start N_weighed vs) H := body_P h fun B ds hW hp => by
  obtain ⟨b, r, u, v, e, h⟩ := hp
  subst e
  unfold t_weighed
  have l1 := h.l1
  have l2 := h.l2
  have l9 := h.l9
  refine st_seq (st_asg (ev_ct T.v_NOUGHT ?_))
  refine st_seq (st_forZ3 (ea_cons (ev_var rfl (ea_cons (ev_var rfl (ea_cons (ev_var rfl (ea_nil ⟨true, b, b, r.map frD, u.map .int, v.map .int, rfl, by rw [List.length_map, List.length_map]; exact l1, by rw [List.length_map, List.length_map]; exact l2, fun i L2 Γ2 => ∃ (t : Fr) (s4 s5 s6 : Sl), L2 = [] ∧ Γ2 = [.d (.tuple (r.map frD)), .d (rowB b (u.map .int)), .d (rowB b (v.map .int)), .d (frD t), s4, s5, s6] ∧ FOk t ∧ val t = sf (jv r) (uv u) (uv v) i, ⟨(0, 1), _, _, _, rfl, rfl, fok_zero, val_zero⟩, ?_, ?_⟩))))))))
  · rintro i d e f L2 Γ2 g h1 h2 h3 ⟨t, s4, s5, s6, rfl, rfl, ft, vt⟩
    obtain ⟨x, hx, rfl⟩ : ∃ x, r[i]? = some x ∧ d = frD x := map_getG h1
    obtain ⟨p, hp, rfl⟩ : ∃ p, u[i]? = some p ∧ e = .int p := map_get h2
    obtain ⟨q, hq, rfl⟩ : ∃ p, v[i]? = some p ∧ f = .int p := map_get h3
    have il := (List.getElem?_eq_some_iff.mp hx).1
    obtain ⟨fx, a, b1, c⟩ := h.ok x (List.mem_of_getElem? hx)
    have bp := h.bu i
    have bq := h.bv i
    have ep : u.getD i 0 = p := by rw [List.getD_eq_getElem?_getD, hp]; rfl
    have eq : v.getD i 0 = q := by rw [List.getD_eq_getElem?_getD, hq]; rfl
    rw [ep] at bp
    rw [eq] at bq
    have p18 := pr400 bp bq
    have gx := gs_jw hx fx a b1 c
    have vx : jv r i = val x := by unfold jv; rw [List.getD_eq_getElem?_getD, hx]; rfl
    have g0 := wg_size h i (by omega)
    have g1 := wg_size h (i + 1) (by omega)
    have x2 := fx.1
    refine st_asg (ev_callP (ea_cons (ev_var rfl (ea_cons (ev_callP (ea_cons (ev_var rfl (ea_cons (ev_tup (ea_cons (ev_op (ev_var rfl (ev_var rfl (ro_mul (.inl ⟨by omega, by omega⟩) (ea_cons (ev_int (ea_nil ⟨by simp, ea_nil ⟨⟨x, (p * q, 1), rfl, ⟨x2, pow_up (m := 64) (by omega) (by decide), pow_up (m := 64) (by omega) (by decide)⟩, ⟨by show (0 : Int) < 1; decide, pow_up p18 (by decide), by show (1 : Int).natAbs < 2 ^ 4000; exact Nat.one_lt_two_pow (by decide)⟩⟩, fun d ⟨x', y', r1, e1, ed, f1, v1, _, _⟩ => ?_⟩⟩)))))))))))))))))
    obtain ⟨rfl, rfl⟩ := frD2_inj (y := (p * q, 1)) e1
    subst ed
    have vr : val r1 = jv r i * (uv u i * uv v i) := by
      rw [v1, vx, val_int, Rat.intCast_mul]
      unfold uv
      rw [ep, eq]
    have gr : GS (64 + 18) (val r1) := by
      rw [vr]
      exact gx.mul ⟨p * q, 1, by decide, (by rw [Rat.intCast_mul]; show _ * 1 = _; unfold uv; rw [ep, eq]; grind), p18, by decide⟩
    refine ea_nil ⟨⟨t, r1, rfl, (vt ▸ g0).sm ft (by omega), gr.sm f1 (by decide)⟩, fun d ⟨x', y', r2, e1, ed, f2, v2⟩ => ?_⟩
    obtain ⟨rfl, rfl⟩ := frD2_inj e1
    subst ed
    refine ⟨r2, .d (frD x), .d (.int p), .d (.int q), rfl, rfl, f2, ?_⟩
    rw [v2, vt, vr]
    rfl
  · rintro L2 Γ2 ⟨t, s4, s5, s6, rfl, rfl, ft, vt⟩
    rw [List.length_map] at vt
    exact st_ret (ev_var rfl ⟨b, r, u, v, t, rfl, rfl, ft, vt⟩)
theorem ok_weighed (T : Tx K mg) : FnOk P w K mg base CX0 3 T.a_weighed T.d_weighed p_weighed (sp_weighed K) := by
  refine T.F_weighed.ok sc_weighed (fun vs H Q E h => len_weighed K vs H Q E h) (fun cdv A outer s H vs Q E hr h => ?_)
  exact ⟨t_weighed T, (pss_cons (ps_set (i := 3) sc_weighed.nd rfl (Or.inl rfl) (pe_glob rfl T.c_NOUGHT rfl))
  (pss_cons (ps_for PassesOwn.never rfl (pi_zip3 (by rfl) T.n_zip (pa_cons (pv 0) (pa_cons (pv 1) (pa_cons (pv 2) pa_nil)))) (pg_tup (by rfl) (pgs_cons (pg_name (i := 4) sc_weighed.nd rfl (Or.inl rfl)) (pgs_cons (pg_name (i := 5) sc_weighed.nd rfl (Or.inl rfl)) (pgs_cons (pg_name (i := 6) sc_weighed.nd rfl (Or.inl rfl)) pgs_nil)))) (pss_one (ps_set (i := 3) sc_weighed.nd rfl (Or.inl rfl) (pe_call (ok_added T) (hr.mono (by decide)) rfl T.g_added T.F_added.kp (b_added T) .nil pass0 (pa_cons (pv 3) (pa_cons (pe_call (ok_multiplied T) (hr.mono (by decide)) rfl T.g_multiplied T.F_multiplied.kp (b_multiplied T) .nil pass0 (pa_cons (pv 4) (pa_cons (pe_tup (pa_cons (pe_op op_mulA (pv 5) (pv 6)) (pa_cons pe_int pa_nil))) pa_nil))) pa_nil))))))
  (pss_one (ps_ret (pv 3))))), pure_weighed T vs H Q E h⟩
/-! ### twist_product -/

noncomputable def pre_twist_product : List PyData → Prop := fun ds => ∃ (dd ss : List Fr) (p : Fr) (us vs : List Int), ds = [lineD dd ss, frD p, tupI us, tupI vs] ∧ LN dd ss ∧ FOk p ∧ 0 ≤ p.1 ∧ p.1.natAbs < 2 ^ 1800 ∧ p.2.natAbs < 2 ^ 1800 ∧ Trn us dd.length 200 ∧ Trn vs dd.length 200
noncomputable def post_twist_product : List PyData → PyData → Prop := fun ds d => ∃ (dd ss : List Fr) (p : Fr) (us vs : List Int), ds = [lineD dd ss, frD p, tupI us, tupI vs] ∧ ∃ r : Fr, d = frD r ∧ FOk r ∧ val r = prd dd ss (val p) us vs
noncomputable abbrev sp_twist_product (K : PySem.W.Frag) : Sp := SpP K pre_twist_product post_twist_product
theorem len_twist_product (K : PySem.W.Frag) (vs : List V) (H : Hp) (Q : VK) (E : XK) (h : sp_twist_product K vs H Q E) : vs.length = p_twist_product.length := len_P (n := 4) h fun ds hp => by
  obtain ⟨dd, ss, p, us, vs, e, h, fp, p0, pa, pb, T, U⟩ := hp
  rw [e]; rfl
noncomputable def t_twist_product (K : PySem.W.Frag) : TS :=
  (tSeq (tDrop (tCall (sp_check_line K) [] E0 (tCons (tVar 0) tNil)))
  (tSeq (tDrop (tCall (sp_check_pace K) [] E0 (tCons (tVar 1) tNil)))
  (tSeq (tDrop (tCall (sp_check_shape K) [] E0 (tCons (tVar 0) (tCons (tVar 2) tNil))))
  (tSeq (tDrop (tCall (sp_check_shape K) [] E0 (tCons (tVar 0) (tCons (tVar 3) tNil))))
  (tSeq (tAsg (tCall (sp_weighed K) [] E0 (tCons (tOp (rIx K) (tVar 0) (tC (.int 1))) (tCons (tCall (sp_twists_of K) [] E0 (tCons (tVar 2) tNil)) (tCons (tCall (sp_twists_of K) [] E0 (tCons (tVar 3) tNil)) tNil)))) (gName 4))
  (tRet (tCall (sp_subtracted K) [] E0 (tCons (tVar 4) (tCons (tCall (sp_multiplied K) [] E0 (tCons (tVar 1) (tCons (tCall (sp_weighed K) [] E0 (tCons (tOp (rIx K) (tVar 0) (tC (.int 0))) (tCons (tVar 2) (tCons (tVar 3) tNil)))) tNil))) tNil)))))))))
theorem pure_twist_product (K : PySem.W.Frag) (vs : List V) (H : Hp) (Q : VK) (E : XK) (h : sp_twist_product K vs H Q E) : t_twist_product K { nx := fun _ H' => Q .non H', rt := Q } (L2.start N_twist_product vs) H := body_P h fun B ds hW hp => by
  obtain ⟨dd, ss, p, us, vs, e, h, fp, p0, pa, pb, T, U⟩ := hp
  subst e
  unfold t_twist_product
  have n8 := h.c8
  have hl := h.len
  have lu := T.len
  have lv := U.len
  obtain ⟨wd, ws⟩ := Wg.line h T U
  refine st_seq (st_drop (ev_callP (ea_cons (ev_var rfl (ea_nil ⟨⟨dd, ss, rfl, h⟩, fun d ed => ?_⟩)))))
  refine st_seq (st_drop (ev_callP (ea_cons (ev_var rfl (ea_nil ⟨⟨p, rfl, fp, p0⟩, fun d ed => ?_⟩)))))
  refine st_seq (st_drop (ev_callP (ea_cons (ev_var rfl (ea_cons (ev_var rfl (ea_nil ⟨⟨dd, ss, us, rfl, lu, by omega⟩, fun d ed => ?_⟩)))))))
  refine st_seq (st_drop (ev_callP (ea_cons (ev_var rfl (ea_cons (ev_var rfl (ea_nil ⟨⟨dd, ss, vs, rfl, lv, by omega⟩, fun d ed => ?_⟩)))))))
  refine st_seq (st_asg (ev_callP (ea_cons (ev_op (ev_var rfl (ev_int (rok_ixsT (d := .tuple (ss.map frD)) rfl (ea_cons (ev_callP (ea_cons (ev_var rfl (ea_nil ⟨⟨us, rfl, by omega⟩, fun d ⟨us', e, ed⟩ => ?_⟩))))))))))))
  obtain rfl := tupI_inj (List.cons.inj e).1
  subst ed
  refine ea_cons (ev_callP (ea_cons (ev_var rfl (ea_nil ⟨⟨vs, rfl, by omega⟩, fun d ⟨vs', e, ed⟩ => ?_⟩))))
  obtain rfl := tupI_inj (List.cons.inj e).1
  subst ed
  rw [lu, lv]
  refine ea_nil ⟨⟨false, ss, _, _, rfl, ws⟩, fun d ⟨b, r, u, v, t, e, ed, ft, vt⟩ => ?_⟩
  obtain ⟨rfl, rfl, rfl⟩ := wg_inj (b := false) e
  subst ed
  rw [hl, sf_tw _ (Nat.le_refl _)] at vt
  have g1 := wg_size ws ss.length (Nat.le_refl _)
  rw [hl, sf_tw _ (Nat.le_refl _), ← vt] at g1
  refine st_ret (ev_callP (ea_cons (ev_var rfl (ea_cons (ev_callP (ea_cons (ev_var rfl (ea_cons (ev_callP (ea_cons (ev_op (ev_var rfl (ev_int (rok_ixsT (d := .tuple (dd.map frD)) rfl (ea_cons (ev_var rfl (ea_cons (ev_var rfl (ea_nil ⟨⟨true, dd, us, vs, rfl, wd⟩, fun d ⟨b, r, u, v, y, e, ed, fy, vy⟩ => ?_⟩)))))))))))))))))))
  obtain ⟨rfl, rfl, rfl⟩ := wg_inj (b := true) e
  subst ed
  have g2 := wg_size wd dd.length (Nat.le_refl _)
  rw [← vy] at g2
  have gp : GS 1800 (val p) := GS.of fp.1 pa pb
  refine ea_nil ⟨⟨p, y, rfl, gp.sm fp (by decide), g2.sm fy (by omega)⟩, fun d ⟨x', y', r1, e, ed, f1, v1, _, _⟩ => ?_⟩
  obtain ⟨rfl, rfl⟩ := frD2_inj e
  subst ed
  have g3 := gp.mul g2
  rw [← v1] at g3
  refine ea_nil ⟨⟨t, r1, rfl, g1.sm ft (by omega), g3.sm f1 (by omega)⟩, fun d ⟨x', y', r2, e, ed, f2, v2⟩ => ?_⟩
  obtain ⟨rfl, rfl⟩ := frD2_inj e
  subst ed
  refine ⟨dd, ss, p, us, vs, rfl, r2, rfl, f2, ?_⟩
  rw [v2, v1, vt, vy]
  rfl
theorem ok_twist_product (T : Tx K mg) : FnOk P w K mg base CX0 7 T.a_twist_product T.d_twist_product p_twist_product (sp_twist_product K) := by
  refine T.F_twist_product.ok sc_twist_product (fun vs H Q E h => len_twist_product K vs H Q E h) (fun cdv A outer s H vs Q E hr h => ?_)
  exact ⟨t_twist_product K, (pss_cons (ps_expr (pe_call (ok_check_line T) (hr.mono (by decide)) rfl T.g_check_line T.F_check_line.kp (b_check_line T) .nil pass0 (pa_cons (pv 0) pa_nil)))
  (pss_cons (ps_expr (pe_call (ok_check_pace T) (hr.mono (by decide)) rfl T.g_check_pace T.F_check_pace.kp (b_check_pace T) .nil pass0 (pa_cons (pv 1) pa_nil)))
  (pss_cons (ps_expr (pe_call (ok_check_shape T) (hr.mono (by decide)) rfl T.g_check_shape T.F_check_shape.kp (b_check_shape T) .nil pass0 (pa_cons (pv 0) (pa_cons (pv 2) pa_nil))))
  (pss_cons (ps_expr (pe_call (ok_check_shape T) (hr.mono (by decide)) rfl T.g_check_shape T.F_check_shape.kp (b_check_shape T) .nil pass0 (pa_cons (pv 0) (pa_cons (pv 3) pa_nil))))
  (pss_cons (ps_set (i := 4) sc_twist_product.nd rfl (Or.inl rfl) (pe_call (ok_weighed T) (hr.mono (by decide)) rfl T.g_weighed T.F_weighed.kp (b_weighed T) .nil pass0 (pa_cons (pe_ix ix_seq (pv 0) pe_int (fun _ _ => rfl)) (pa_cons (pe_call (ok_twists_of T) (hr.mono (by decide)) rfl T.g_twists_of T.F_twists_of.kp (b_twists_of T) .nil pass0 (pa_cons (pv 2) pa_nil)) (pa_cons (pe_call (ok_twists_of T) (hr.mono (by decide)) rfl T.g_twists_of T.F_twists_of.kp (b_twists_of T) .nil pass0 (pa_cons (pv 3) pa_nil)) pa_nil)))))
  (pss_one (ps_ret (pe_call (ok_subtracted T) (hr.mono (by decide)) rfl T.g_subtracted T.F_subtracted.kp (b_subtracted T) .nil pass0 (pa_cons (pv 4) (pa_cons (pe_call (ok_multiplied T) (hr.mono (by decide)) rfl T.g_multiplied T.F_multiplied.kp (b_multiplied T) .nil pass0 (pa_cons (pv 1) (pa_cons (pe_call (ok_weighed T) (hr.mono (by decide)) rfl T.g_weighed T.F_weighed.kp (b_weighed T) .nil pass0 (pa_cons (pe_ix ix_seq (pv 0) pe_int (fun _ _ => rfl)) (pa_cons (pv 2) (pa_cons (pv 3) pa_nil)))) pa_nil))) pa_nil)))))))))), pure_twist_product K vs H Q E h⟩
/-! ### quotient_of -/

noncomputable def pre_quotient_of : List PyData → Prop := fun ds => ∃ (dd ss : List Fr) (us : List Int), ds = [lineD dd ss, tupI us] ∧ LN dd ss ∧ Trn us dd.length 200 ∧ ∃ j, j < us.length ∧ uv us j ≠ 0
noncomputable def post_quotient_of : List PyData → PyData → Prop := fun ds d => ∃ (dd ss : List Fr) (us : List Int), ds = [lineD dd ss, tupI us] ∧ ∃ r : Fr, d = frD r ∧ FOk r ∧ val r = quo dd ss us
noncomputable abbrev sp_quotient_of (K : PySem.W.Frag) : Sp := SpP K pre_quotient_of post_quotient_of
theorem len_quotient_of (K : PySem.W.Frag) (vs : List V) (H : Hp) (Q : VK) (E : XK) (h : sp_quotient_of K vs H Q E) : vs.length = p_quotient_of.length := len_P (n := 2) h fun ds hp => by
  obtain ⟨dd, ss, us, e, h, T, ne⟩ := hp
  rw [e]; rfl
noncomputable def t_quotient_of (K : PySem.W.Frag) : TS :=
  (tSeq (tDrop (tCall (sp_check_line K) [] E0 (tCons (tVar 0) tNil)))
  (tSeq (tDrop (tCall (sp_check_shape K) [] E0 (tCons (tVar 0) (tCons (tVar 1) tNil))))
  (tSeq (tIfS (tNot (tB (tCB (rAnyI K) (tCons (tVar 1) tNil)))) tNever tNext)
  (tSeq (tAsg (tCall (sp_twists_of K) [] E0 (tCons (tVar 1) tNil)) (gName 2))
  (tRet (tCall (sp_divided K) [] E0 (tCons (tCall (sp_weighed K) [] E0 (tCons (tOp (rIx K) (tVar 0) (tC (.int 1))) (tCons (tVar 2) (tCons (tVar 2) tNil)))) (tCons (tCall (sp_weighed K) [] E0 (tCons (tOp (rIx K) (tVar 0) (tC (.int 0))) (tCons (tVar 1) (tCons (tVar 1) tNil)))) tNil))))))))
theorem pure_quotient_of (K : PySem.W.Frag) (vs : List V) (H : Hp) (Q : VK) (E : XK) (h : sp_quotient_of K vs H Q E) : t_quotient_of K { nx := fun _ H' => Q .non H', rt := Q } (L2.start N_quotient_of vs) H := body_P h fun B ds hW hp => by
  obtain ⟨dd, ss, us, e, h, T, ne⟩ := hp
  subst e
  unfold t_quotient_of
  have n8 := h.c8
  have hl := h.len
  have lu := T.len
  obtain ⟨wd, ws⟩ := Wg.line h T T
  obtain ⟨jp, _⟩ := quo_facts h lu ne
  have an : (us.map PyData.int).any PyData.truthy = true := by
    obtain ⟨j, hj, hj0⟩ := ne
    refine any_true (n := us.getD j 0) ?_ (fun z => hj0 (by unfold uv; rw [z]; rfl))
    rw [List.getD_eq_getElem?_getD, List.getElem?_eq_getElem hj]
    exact List.getElem_mem hj
  refine st_seq (st_drop (ev_callP (ea_cons (ev_var rfl (ea_nil ⟨⟨dd, ss, rfl, h⟩, fun d ed => ?_⟩)))))
  refine st_seq (st_drop (ev_callP (ea_cons (ev_var rfl (ea_cons (ev_var rfl (ea_nil ⟨⟨dd, ss, us, rfl, lu, by omega⟩, fun d ed => ?_⟩)))))))
  refine st_seq (st_if (et_not (et_B (ev_cb (ea_cons (ev_var rfl (ea_nil (cok_anyI ⟨_, rfl, ?_⟩))))))))
  rw [an]
  refine ⟨(fun z => nomatch z), fun _ => st_next ?_⟩
  refine st_seq (st_asg (ev_callP (ea_cons (ev_var rfl (ea_nil ⟨⟨us, rfl, by omega⟩, fun d ⟨us', e, ed⟩ => ?_⟩)))))
  obtain rfl := tupI_inj (List.cons.inj e).1
  subst ed
  rw [lu]
  refine st_ret (ev_callP (ea_cons (ev_callP (ea_cons (ev_op (ev_var rfl (ev_int (rok_ixsT (d := .tuple (ss.map frD)) rfl (ea_cons (ev_var rfl (ea_cons (ev_var rfl (ea_nil ⟨⟨false, ss, _, _, rfl, ws⟩, fun d ⟨b, r, u, v, t, e, ed, ft, vt⟩ => ?_⟩)))))))))))))
  obtain ⟨rfl, rfl, rfl⟩ := wg_inj (b := false) e
  subst ed
  rw [hl, sf_tw _ (Nat.le_refl _)] at vt
  have g1 := wg_size ws ss.length (Nat.le_refl _)
  rw [hl, sf_tw _ (Nat.le_refl _), ← vt] at g1
  refine ea_cons (ev_callP (ea_cons (ev_op (ev_var rfl (ev_int (rok_ixsT (d := .tuple (dd.map frD)) rfl (ea_cons (ev_var rfl (ea_cons (ev_var rfl (ea_nil ⟨⟨true, dd, us, us, rfl, wd⟩, fun d ⟨b, r, u, v, y, e, ed, fy, vy⟩ => ?_⟩)))))))))))
  obtain ⟨rfl, rfl, rfl⟩ := wg_inj (b := true) e
  subst ed
  have g2 := wg_size wd dd.length (Nat.le_refl _)
  rw [← vy] at g2
  rw [tf_self] at vt
  rw [sf_self] at vy
  have y0 : y.1 ≠ 0 := fun z => by
    have := (val_pos fy.1).2.2.mpr z
    rw [vy] at this
    rw [this] at jp
    exact absurd jp (by decide)
  refine ea_nil ⟨⟨t, y, rfl, g1.sm ft (by omega), g2.sm fy (by omega), y0⟩, fun d ⟨x', y', r2, e, ed, f2, v2, _, _⟩ => ?_⟩
  obtain ⟨rfl, rfl⟩ := frD2_inj e
  subst ed
  refine ⟨dd, ss, us, rfl, r2, rfl, f2, ?_⟩
  rw [v2, vt, vy]
  rfl
theorem ok_quotient_of (T : Tx K mg) : FnOk P w K mg base CX0 7 T.a_quotient_of T.d_quotient_of p_quotient_of (sp_quotient_of K) := by
  refine T.F_quotient_of.ok sc_quotient_of (fun vs H Q E h => len_quotient_of K vs H Q E h) (fun cdv A outer s H vs Q E hr h => ?_)
  exact ⟨t_quotient_of K, (pss_cons (ps_expr (pe_call (ok_check_line T) (hr.mono (by decide)) rfl T.g_check_line T.F_check_line.kp (b_check_line T) .nil pass0 (pa_cons (pv 0) pa_nil)))
  (pss_cons (ps_expr (pe_call (ok_check_shape T) (hr.mono (by decide)) rfl T.g_check_shape T.F_check_shape.kp (b_check_shape T) .nil pass0 (pa_cons (pv 0) (pa_cons (pv 1) pa_nil))))
  (pss_cons (ps_if (pt_not (pt_val (pe_callB (cr_anyI rfl) (by rfl) T.n_any (by decide +kernel) (pa_cons (pv 1) pa_nil)))) (pss_one ps_never) pss_nil)
  (pss_cons (ps_set (i := 2) sc_quotient_of.nd rfl (Or.inl rfl) (pe_call (ok_twists_of T) (hr.mono (by decide)) rfl T.g_twists_of T.F_twists_of.kp (b_twists_of T) .nil pass0 (pa_cons (pv 1) pa_nil)))
  (pss_one (ps_ret (pe_call (ok_divided T) (hr.mono (by decide)) rfl T.g_divided T.F_divided.kp (b_divided T) .nil pass0 (pa_cons (pe_call (ok_weighed T) (hr.mono (by decide)) rfl T.g_weighed T.F_weighed.kp (b_weighed T) .nil pass0 (pa_cons (pe_ix ix_seq (pv 0) pe_int (fun _ _ => rfl)) (pa_cons (pv 2) (pa_cons (pv 2) pa_nil)))) (pa_cons (pe_call (ok_weighed T) (hr.mono (by decide)) rfl T.g_weighed T.F_weighed.kp (b_weighed T) .nil pass0 (pa_cons (pe_ix ix_seq (pv 0) pe_int (fun _ _ => rfl)) (pa_cons (pv 1) (pa_cons (pv 1) pa_nil)))) pa_nil))))))))), pure_quotient_of K vs H Q E h⟩
/-! ### _law_spool -/
noncomputable def sp__law_spool (K : PySem.W.Frag) : Sp := fun vs H Q _ => ∃ (a : Addr) (ns : List Int) (n : Nat), vs = [.ref a, .int (n : Int)] ∧ SqL K H a (ns.map V.int) ∧ ns.length ≤ 63 ∧ n ≤ 100 ∧ ∀ p H', Same H H' → H p = none → WellAt H' p → Q (.ref p) H'
theorem len__law_spool (K : PySem.W.Frag) (vs : List V) (H : Hp) (Q : VK) (E : XK) (h : sp__law_spool K vs H Q E) : vs.length = p__law_spool.length := by
  obtain ⟨a, ns, n, rfl, _⟩ := h
  rfl
theorem cutV_ints (ns : List Int) (lo hi : Option Int) : ∃ ms : List Int, cutV (ns.map V.int) lo hi = ms.map V.int ∧ ms.length ≤ ns.length := by
  refine ⟨(ns.drop (HT.sIx ns.length 0 lo)).take (HT.sIx ns.length ns.length hi - HT.sIx ns.length 0 lo), ?_, ?_⟩
  · unfold L2.cutV
    rw [List.length_map, List.map_take, List.map_drop]
  · rw [List.length_take, List.length_drop]
    omega
noncomputable def t__law_spool (K : PySem.W.Frag) : TS :=
  (tSeq (tAsg (tOp (rAddA K) (tC (.int 51287)) (tOp (rMulA K) (tC (.int 7919)) (tVar 1))) (gName 2))
  (tSeq (tFor (iList K (tSl (rSlX2 K) (tVar 0) tNoPart (tPart (tC (.int 63))))) (gName 3) (tAsg (tOp rModA (tCB rIntQ (tCons (tOp (rAddA K) (tOp (rAddA K) (tOp (rMulA K) (tVar 2) (tC (.int 28657))) (tOp rModA (tCB rIntQ (tCons (tVar 3) tNil)) (tC (.int 1610612741)))) (tC (.int 41))) tNil)) (tC (.int 2147483549))) (gName 2)))
  (tSeq (tAsg (tIf (tTest (tOp (rI0 fun i j => .bl (decide (i < j))) (tVar 1) (tCB (rLenQ K) (tCons (tVar 0) tNil)))) (tCB rIntQ (tCons (tOp (rIx K) (tVar 0) (tVar 1)) tNil)) (tC (.int 0))) (gName 3))
  (tSeq (tAsg (tIf (tTest (tOp (rI0 fun i j => .bl (decide (j ≤ i))) (tCB rAbsQ (tCons (tVar 3) tNil)) (tOp (rI CPow fun i j => .int (i ^ j.toNat)) (tC (.int 10)) (tC (.int 18))))) (tOp rFdA (tCB rAbsQ (tCons (tVar 3) tNil)) (tC (.int 2))) (tC (.int 0))) (gName 4))
  (tRet (tLst (tCons (tVar 4) (tCons (tOp (rAddA K) (tVar 2) (tOp (rMulA K) (tC (.int 17)) (tOp rModA (tCB rIntQ (tCons (tVar 3) tNil)) (tC (.int 120000007))))) (tCons (tC (.int 0)) tNil)))))))))
theorem pure__law_spool (K : PySem.W.Frag) (vs : List V) (H : Hp) (Q : VK) (E : XK) (h : sp__law_spool K vs H Q E) : t__law_spool K { nx := fun _ H' => Q .non H', rt := Q } (L2.start N__law_spool vs) H := by
  obtain ⟨a, ns, n, rfl, hS, hlen, hn, q⟩ := h
  unfold t__law_spool
  refine ⟨_, rfl, .inl ⟨_, _, rfl, rfl, .inl ⟨by decide, by decide⟩, .inl ⟨_, _, rfl, rfl, ?_⟩⟩⟩
  obtain ⟨ms, em, hm⟩ := cutV_ints ns none (some 63)
  refine ⟨_, rfl, 63, rfl, .inr ⟨a, _, rfl, hS, fun p hp => ?_⟩⟩
  rw [em]
  have s1 : Same H (upd H p (.lst (ms.map V.int))) := same_upd hp
  have e1 : (upd H p (.lst (ms.map V.int))) p = some (.lst (ms.map V.int)) := upd_same
  generalize upd H p (.lst (ms.map V.int)) = H1 at s1 e1 ⊢
  refine ⟨p, rfl, ⟨_, .inl (.inl e1)⟩, for_list (xs := ms.map V.int) (fun i σ H' => ∃ (m : Int) (v : Option V), σ = [some (.ref a), some (.int (n : Int)), some (.int m), v, none] ∧ 0 ≤ m ∧ m < 2147483549 ∧ Same H1 H')
    ⟨51287 + 7919 * (n : Int), none, rfl, by omega, by omega, Same.refl _⟩ (fun i σ H' _ ⟨m, v, _, _, _, s5⟩ => s5.seq (.inl (.inl e1))) (fun i x σ H' hi ⟨m, v, e, h0, h1, s5⟩ => ?_) (fun σ H' ⟨m, v, e, h0, h1, s5⟩ => ?_)⟩
  · subst e
    obtain ⟨z, rfl⟩ : ∃ z, x = V.int z := by
      rw [List.getElem?_map] at hi
      cases e : ms[i]? with
      | none => rw [e] at hi; cases hi
      | some z => rw [e] at hi; exact ⟨z, (Option.some.inj hi).symm⟩
    refine ⟨_, rfl, .inl ⟨_, _, rfl, rfl, .inl ⟨by omega, by omega⟩, _, rfl, .inl ⟨_, rfl, .inl ⟨_, _, rfl, rfl, (by show (0 : Int) < 1610612741; decide), .inl ⟨_, _, rfl, rfl, .inl ⟨_, _, rfl, rfl, .inl ⟨_, rfl, .inl ⟨_, _, rfl, rfl, (by show (0 : Int) < 2147483549; decide), ?_⟩⟩⟩⟩⟩⟩⟩⟩
    exact ⟨_, some (.int z), rfl, Int.emod_nonneg _ (by decide), Int.emod_lt_of_pos _ (by decide), s5⟩
  · subst e
    have hS' : SqL K H' a (ns.map V.int) := (s1.trans s5).seq hS
    have own : ∀ Q : VK, (∀ o : Int, Q (.int o) H') → (tIf (tTest (tOp (rI0 fun i j => .bl (decide (i < j))) (tVar 1) (tCB (rLenQ K) (tCons (tVar 0) tNil)))) (tCB rIntQ (tCons (tOp (rIx K) (tVar 0) (tVar 1)) tNil)) (tC (.int 0))) [some (.ref a), some (.int (n : Int)), some (.int m), v, none] H' Q := fun Q q => by
      refine ⟨_, rfl, _, rfl, a, _, rfl, .inl hS', _, _, rfl, rfl, _, rfl, ?_⟩
      refine ite2 (fun hb => ?_) (fun hb => ?_)
      · have hb' : n < ns.length := by
          have := of_decide_eq_true hb
          rw [List.length_map] at this
          omega
        exact ⟨_, rfl, _, rfl, .inl ⟨a, _, (n : Int), .int ns[n], rfl, rfl, hS', atI_nat (by rw [List.getElem?_map, List.getElem?_eq_getElem hb']; rfl), .inl ⟨_, rfl, q _⟩⟩⟩
      · exact q 0
    refine own _ fun o => ?_
    have hpow : (10 : Int) ^ (18 : Int).toNat = 1000000000000000000 := by decide
    have great : ∀ Q : VK, (∀ z : Int, 0 ≤ z → Q (.int z) H') → (tIf (tTest (tOp (rI0 fun i j => .bl (decide (j ≤ i))) (tCB rAbsQ (tCons (tVar 3) tNil)) (tOp (rI CPow fun i j => .int (i ^ j.toNat)) (tC (.int 10)) (tC (.int 18))))) (tOp rFdA (tCB rAbsQ (tCons (tVar 3) tNil)) (tC (.int 2))) (tC (.int 0))) [some (.ref a), some (.int (n : Int)), some (.int m), some (.int o), none] H' Q := fun Q q => by
      refine ⟨_, rfl, _, rfl, _, _, rfl, rfl, ⟨by decide, by decide, by decide⟩, _, _, rfl, rfl, _, rfl, ?_⟩
      refine ite2 (fun hb => ?_) (fun hb => ?_)
      · refine ⟨_, rfl, _, rfl, .inl ⟨_, _, rfl, rfl, ⟨by decide, by decide⟩, q _ ?_⟩⟩
        exact Int.ediv_nonneg (by split <;> omega) (by decide)
      · exact q 0 (Int.le_refl _)
    refine great _ fun z hz => ?_
    refine ⟨_, rfl, _, rfl, _, rfl, .inl ⟨_, rfl, .inl ⟨_, _, rfl, rfl, (by show (0 : Int) < 120000007; decide), .inl ⟨_, _, rfl, rfl, .inl ⟨by decide, by decide⟩, .inl ⟨_, _, rfl, rfl, (by show 3 ≤ sizeLine; decide), fun p5 hp5 => ?_⟩⟩⟩⟩⟩
    have o0 := Int.emod_nonneg o (show (120000007 : Int) ≠ 0 by decide)
    have o1 := Int.emod_lt_of_pos o (show (0 : Int) < 120000007 by decide)
    exact q p5 _ ((s1.trans s5).trans (same_upd hp5)) ((s1.trans s5).free hp5) ⟨z, m + 17 * (o % 120000007), 0, upd_same, hz, by omega, by omega⟩
theorem ok__law_spool (T : Tx K mg) : FnOk P w K mg base CX0 1 T.a__law_spool T.d__law_spool p__law_spool (sp__law_spool K) := by
  refine T.F__law_spool.ok sc__law_spool (fun vs H Q E h => len__law_spool K vs H Q E h) (fun cdv A outer s H vs Q E hr h => ?_)
  exact ⟨t__law_spool K, (pss_cons (ps_set (i := 2) sc__law_spool.nd rfl (Or.inl rfl) (pe_op op_addA pe_int (pe_op op_mulA pe_int (pv 1))))
  (pss_cons (ps_for PassesOwn.never rfl (pi_list (pe_slice sl_any (pv 0) po_none (po_some pe_int))) (pg_name (i := 3) sc__law_spool.nd rfl (Or.inl rfl)) (pss_one (ps_set (i := 2) sc__law_spool.nd rfl (Or.inl rfl) (pe_op op_modA (pe_callTy call_int1 (by rfl) T.n_int (by decide +kernel) (pa_cons (pe_op op_addA (pe_op op_addA (pe_op op_mulA (pv 2) pe_int) (pe_op op_modA (pe_callTy call_int1 (by rfl) T.n_int (by decide +kernel) (pa_cons (pv 3) pa_nil)) pe_int)) pe_int) pa_nil)) pe_int))))
  (pss_cons (ps_set (i := 3) sc__law_spool.nd rfl (Or.inl rfl) (pe_ifExp (pt_cmpR op_lt (pv 1) (pe_callB call_len_seq (by rfl) T.n_len (by decide +kernel) (pa_cons (pv 0) pa_nil)) (nomark _)) (pe_callTy call_int1 (by rfl) T.n_int (by decide +kernel) (pa_cons (pe_ix ix_seq (pv 0) (pv 1) (fun _ _ => rfl)) pa_nil)) pe_int))
  (pss_cons (ps_set (i := 4) sc__law_spool.nd rfl (Or.inl rfl) (pe_ifExp (pt_cmpR op_ge (pe_callB call_abs (by rfl) T.n_abs (by decide +kernel) (pa_cons (pv 3) pa_nil)) (pe_op op_pow pe_int pe_int) (nomark _)) (pe_op op_fdA (pe_callB call_abs (by rfl) T.n_abs (by decide +kernel) (pa_cons (pv 3) pa_nil)) pe_int) pe_int))
  (pss_one (ps_ret (pe_lst (pa_cons (pv 4) (pa_cons (pe_op op_addA (pv 2) (pe_op op_mulA pe_int (pe_op op_modA (pe_callTy call_int1 (by rfl) T.n_int (by decide +kernel) (pa_cons (pv 3) pa_nil)) pe_int))) (pa_cons pe_int pa_nil)))))))))), pure__law_spool K vs H Q E h⟩
/-! ### _law_wind -/

noncomputable def pre__law_wind : List PyData → Prop := fun ds => ∃ m : Int, ds = [.int m] ∧ 0 < m ∧ m < 1000001
noncomputable def post__law_wind : List PyData → PyData → Prop := fun ds d => ∃ m z : Int, ds = [.int m] ∧ d = .int z ∧ 0 ≤ z ∧ z < m
noncomputable abbrev sp__law_wind (K : PySem.W.Frag) : Sp := SpW K pre__law_wind post__law_wind
theorem len__law_wind (K : PySem.W.Frag) (vs : List V) (H : Hp) (Q : VK) (E : XK) (h : sp__law_wind K vs H Q E) : vs.length = p__law_wind.length := len_W (n := 1) h fun ds hp => by
  obtain ⟨m, e, hm0, hm1⟩ := hp
  rw [e]; rfl
noncomputable def t__law_wind (K : PySem.W.Frag) : TS :=
  (tSeq (tIfS (tTest (tOp (rI0 fun i j => .bl (decide (j < i))) (tOp (rIx K) (tVar 0) (tC (.int 0))) (tC (.int 0)))) (tSeq (tAsg (tCB rDivmodQ (tCons (tOp (rIx K) (tVar 0) (tC (.int 0))) (tCons (tVar 1) tNil))) (gTup K 2 (gCons (gSub (tVar 0) (tC (.int 0)) rSetL) (gCons (gName 2) gNil))))
  (tRet (tVar 2))) tNext)
  (tSeq (tAsg (tOp (rAddA K) (tOp (rIx K) (tVar 0) (tC (.int 2))) (tC (.int 1))) (gSub (tVar 0) (tC (.int 2)) rSetL))
  (tSeq (tAsg (tOp rModA (tCB rIntQ (tCons (tOp (rAddA K) (tOp (rAddA K) (tOp (rIx K) (tVar 0) (tC (.int 1))) (tOp (rMulA K) (tC (.int 60293)) (tOp (rIx K) (tVar 0) (tC (.int 2))))) (tC (.int 7))) tNil)) (tC (.int 2147483549))) (gName 3))
  (tSeq (tAsg (tOp rModA (tCB rIntQ (tCons (tOp (rAddA K) (tOp (rMulA K) (tVar 3) (tOp (rAddA K) (tOp rModA (tCB rIntQ (tCons (tVar 3) tNil)) (tC (.int 5059))) (tC (.int 17417)))) (tOp (rMulA K) (tC (.int 19)) (tOp (rIx K) (tVar 0) (tC (.int 2))))) tNil)) (tC (.int 2147483549))) (gSub (tVar 0) (tC (.int 1)) rSetL))
  (tRet (tOp rModA (tCB rIntQ (tCons (tOp rFdA (tOp (rIx K) (tVar 0) (tC (.int 1))) (tC (.int 127))) tNil)) (tVar 1)))))))
theorem pure__law_wind (K : PySem.W.Frag) (vs : List V) (H : Hp) (Q : VK) (E : XK) (h : sp__law_wind K vs H Q E) : t__law_wind K { nx := fun _ H' => Q .non H', rt := Q } (L2.start N__law_wind vs) H := body_W h (by decide) fun B w ds hp => by
  obtain ⟨m, e, hm0, hm1⟩ := hp
  subst e
  unfold t__law_wind
  refine st_seq (st_if (et_test (ev_op ?_)))
  refine ev_well rfl (ev_int ⟨0, rfl, .inl rfl, fun n hn _ => ?_⟩)
  refine ev_int (rok_b0 ⟨_, rfl, fun hb => ?_, fun hb => ?_⟩)
  · refine st_seq (st_dmWell rfl ?_)
    refine ea_cons (ev_well rfl (ev_int ⟨0, rfl, .inl rfl, fun n hn _ => ea_cons (ev_var rfl (ea_nil ⟨n, m, rfl, hn rfl, hm0, by omega, ?_⟩))⟩))
    refine st_ret (ev_var rfl ⟨m, _, rfl, rfl, Int.emod_nonneg _ (by omega), Int.emod_lt_of_pos _ hm0⟩)
  · refine st_next (st_seq (st_setWell rfl ?_))
    refine ev_op (ev_well rfl (ev_int ⟨2, rfl, .inr (.inr rfl), fun n _ _ => ?_⟩))
    refine ev_int (ro_add ?_)
    refine ev_int ⟨_, 2, rfl, rfl, .inr (.inr rfl), by omega, by omega, ?_⟩
    refine st_seq (st_asg ?_)
    refine ev_op (ev_cb (ea_cons (ev_op (ev_op (ev_well rfl (ev_int ⟨1, rfl, .inr (.inl rfl), fun b _ hb => ?_⟩))))))
    refine ev_op (ev_int (ev_well rfl (ev_int ⟨2, rfl, .inr (.inr rfl), fun c _ _ => ?_⟩)))
    refine ro_mul (.inl (by decide)) (ro_add ?_)
    refine ev_int (ro_add (ea_nil (co_int (ev_int (ro_mod (by decide) ?_)))))
    have t0 := Int.emod_nonneg (b + 60293 * c + 7) (show (2147483549 : Int) ≠ 0 by decide)
    have t1 := Int.emod_lt_of_pos (b + 60293 * c + 7) (show (0 : Int) < 2147483549 by decide)
    generalize (b + 60293 * c + 7) % 2147483549 = t at t0 t1 ⊢
    refine st_seq (st_setWell rfl ?_)
    refine ev_op (ev_cb (ea_cons (ev_op (ev_op (ev_var rfl (ev_op (ev_op (ev_cb (ea_cons (ev_var rfl (ea_nil (co_int (ev_int (ro_mod (by decide) ?_))))))))))))))
    refine ev_int (ro_add (ro_mul (.inl ⟨by omega, by omega⟩) ?_))
    refine ev_op (ev_int (ev_well rfl (ev_int ⟨2, rfl, .inr (.inr rfl), fun c2 _ _ => ?_⟩)))
    refine ro_mul (.inl (by decide)) (ro_add (ea_nil (co_int (ev_int (ro_mod (by decide) ?_)))))
    refine ev_int ⟨_, 1, rfl, rfl, .inr (.inl rfl), by omega, fun _ => ⟨Int.emod_nonneg _ (by decide), Int.lt_trans (Int.emod_lt_of_pos _ (by decide)) (by decide)⟩, ?_⟩
    refine st_ret (ev_op (ev_cb (ea_cons (ev_op (ev_well rfl (ev_int ⟨1, rfl, .inr (.inl rfl), fun b _ hb => ?_⟩))))))
    refine ev_int (ro_fd (by decide) (ea_nil (co_int (ev_var rfl (ro_mod hm0 ?_)))))
    exact ⟨m, _, rfl, rfl, Int.emod_nonneg _ (by omega), Int.emod_lt_of_pos _ hm0⟩
theorem ok__law_wind (T : Tx K mg) : FnOk P w K mg base CX0 1 T.a__law_wind T.d__law_wind p__law_wind (sp__law_wind K) := by
  refine T.F__law_wind.ok sc__law_wind (fun vs H Q E h => len__law_wind K vs H Q E h) (fun cdv A outer s H vs Q E hr h => ?_)
  exact ⟨t__law_wind K, (pss_cons (ps_if (pt_cmpR op_gt (pe_ix ix_seq (pv 0) pe_int (fun _ _ => rfl)) pe_int (nomark _)) (pss_cons (ps_asg (pe_callB call_divmodW (by rfl) T.n_divmod (by decide +kernel) (pa_cons (pe_ix ix_seq (pv 0) pe_int (fun _ _ => rfl)) (pa_cons (pv 1) pa_nil))) (pg_tup (by rfl) (pgs_cons (pg_sub (pv 0) pe_int set_list) (pgs_cons (pg_name (i := 2) sc__law_wind.nd rfl (Or.inl rfl)) pgs_nil))))
  (pss_one (ps_ret (pv 2)))) pss_nil)
  (pss_cons (ps_asg (pe_op op_addA (pe_ix ix_seq (pv 0) pe_int (fun _ _ => rfl)) pe_int) (pg_sub (pv 0) pe_int set_list))
  (pss_cons (ps_set (i := 3) sc__law_wind.nd rfl (Or.inl rfl) (pe_op op_modA (pe_callTy call_int1 (by rfl) T.n_int (by decide +kernel) (pa_cons (pe_op op_addA (pe_op op_addA (pe_ix ix_seq (pv 0) pe_int (fun _ _ => rfl)) (pe_op op_mulA pe_int (pe_ix ix_seq (pv 0) pe_int (fun _ _ => rfl)))) pe_int) pa_nil)) pe_int))
  (pss_cons (ps_asg (pe_op op_modA (pe_callTy call_int1 (by rfl) T.n_int (by decide +kernel) (pa_cons (pe_op op_addA (pe_op op_mulA (pv 3) (pe_op op_addA (pe_op op_modA (pe_callTy call_int1 (by rfl) T.n_int (by decide +kernel) (pa_cons (pv 3) pa_nil)) pe_int) pe_int)) (pe_op op_mulA pe_int (pe_ix ix_seq (pv 0) pe_int (fun _ _ => rfl)))) pa_nil)) pe_int) (pg_sub (pv 0) pe_int set_list))
  (pss_one (ps_ret (pe_op op_modA (pe_callTy call_int1 (by rfl) T.n_int (by decide +kernel) (pa_cons (pe_op op_fdA (pe_ix ix_seq (pv 0) pe_int (fun _ _ => rfl)) pe_int) pa_nil)) (pv 1)))))))), pure__law_wind K vs H Q E h⟩
/-! ### _law_any -/

noncomputable def pre__law_any : List PyData → Prop := fun ds => ∃ xs : List PyData, ds = [.list xs] ∧ 0 < xs.length ∧ xs.length < 1000
noncomputable def post__law_any : List PyData → PyData → Prop := fun ds d => ∃ xs : List PyData, ds = [.list xs] ∧ d ∈ xs
noncomputable abbrev sp__law_any (K : PySem.W.Frag) : Sp := SpW K pre__law_any post__law_any
theorem len__law_any (K : PySem.W.Frag) (vs : List V) (H : Hp) (Q : VK) (E : XK) (h : sp__law_any K vs H Q E) : vs.length = p__law_any.length := len_W (n := 1) h fun ds hp => by
  obtain ⟨xs, e, h0, h1⟩ := hp
  rw [e]; rfl
noncomputable def t__law_any (K : PySem.W.Frag) : TS :=
  (tRet (tOp (rIx K) (tVar 1) (tCall (sp__law_wind K) [] E0 (tCons (tVar 0) (tCons (tCB (rLenQ K) (tCons (tVar 1) tNil)) tNil)))))
theorem pure__law_any (K : PySem.W.Frag) (vs : List V) (H : Hp) (Q : VK) (E : XK) (h : sp__law_any K vs H Q E) : t__law_any K { nx := fun _ H' => Q .non H', rt := Q } (L2.start N__law_any vs) H := body_W h (by decide) fun B w ds hp => by
  obtain ⟨xs, e, h0, h1⟩ := hp
  subst e
  unfold t__law_any
  refine st_ret (ev_op (ev_var rfl (ev_callW rfl ?_)))
  walk_at "dd"
  refine ⟨⟨_, rfl, by omega, by omega⟩, fun d ⟨m, z, em, ed, hz0, hz1⟩ => ?_⟩
  cases em
  subst ed
  obtain ⟨j, rfl⟩ := Int.eq_ofNat_of_zero_le hz0
  have hj : j < xs.length := by omega
  exact rok_ixsL (d := xs[j]) (atI_nat (List.getElem?_eq_getElem hj)) ⟨xs, rfl, List.getElem_mem hj⟩
theorem ok__law_any (T : Tx K mg) : FnOk P w K mg base CX0 2 T.a__law_any T.d__law_any p__law_any (sp__law_any K) := by
  refine T.F__law_any.ok sc__law_any (fun vs H Q E h => len__law_any K vs H Q E h) (fun cdv A outer s H vs Q E hr h => ?_)
  exact ⟨t__law_any K, (pss_one (ps_ret (pe_ix ix_seq (pv 1) (pe_call (ok__law_wind T) (hr.mono (by decide)) rfl T.g__law_wind T.F__law_wind.kp (b__law_wind T) .nil pass0 (pa_cons (pv 0) (pa_cons (pe_callB call_len_seq (by rfl) T.n_len (by decide +kernel) (pa_cons (pv 1) pa_nil)) pa_nil))) (fun _ _ => rfl)))), pure__law_any K vs H Q E h⟩
/-! ### _law_measure -/

noncomputable def pre__law_measure : List PyData → Prop := fun ds => ∃ a b : Int, ds = [.int a, .int b]
noncomputable def post__law_measure : List PyData → PyData → Prop := fun ds d => ∃ a b : Int, ds = [.int a, .int b] ∧ d = .int ((Nat.gcd a.natAbs b.natAbs : Nat) : Int)
noncomputable abbrev sp__law_measure (K : PySem.W.Frag) : Sp := SpP K pre__law_measure post__law_measure
theorem len__law_measure (K : PySem.W.Frag) (vs : List V) (H : Hp) (Q : VK) (E : XK) (h : sp__law_measure K vs H Q E) : vs.length = p__law_measure.length := len_P (n := 2) h fun ds hp => by
  obtain ⟨a, b, e⟩ := hp
  rw [e]; rfl
noncomputable def t__law_measure (K : PySem.W.Frag) : TS :=
  (tSeq (tPar 0 1 (tCons (tCB rAbsQ (tCons (tVar 0) tNil)) (tCons (tCB rAbsQ (tCons (tVar 1) tNil)) tNil)))
  (tSeq (tWhile (tTest (tOp (rI0 fun i j => .bl (decide (j < i))) (tVar 1) (tC (.int 0)))) (tPar 0 1 (tCons (tVar 1) (tCons (tOp rModA (tCB rIntQ (tCons (tVar 0) tNil)) (tVar 1)) tNil))))
  (tRet (tVar 0))))
theorem pure__law_measure (K : PySem.W.Frag) (vs : List V) (H : Hp) (Q : VK) (E : XK) (h : sp__law_measure K vs H Q E) : t__law_measure K { nx := fun _ H' => Q .non H', rt := Q } (L2.start N__law_measure vs) H := body_P h fun B ds hW hp => by
  obtain ⟨a, b, e⟩ := hp
  subst e
  unfold t__law_measure
  refine st_seq (st_par ?_)
  walk_at "dd"
  refine ⟨_, _, rfl, ?_⟩
  refine st_seq (st_while (fun m L2 Γ2 => ∃ x y : Int, L2 = [] ∧ Γ2 = [.d (.int x), .d (.int y)] ∧ 0 ≤ x ∧ 0 ≤ y ∧ m = y.toNat ∧ Nat.gcd x.natAbs y.natAbs = Nat.gcd a.natAbs b.natAbs) b.natAbs ⟨_, _, rfl, rfl, ?_, ?_, ?_, ?_⟩ ?_)
  · split <;> omega
  · split <;> omega
  · split <;> omega
  · congr 1 <;> (split <;> omega)
  · rintro m L2 Γ2 ⟨x, y, rfl, rfl, hx, hy, rfl, hg⟩
    walk_at "dd"
    refine ⟨fun hb => ?_, fun hb => ?_⟩
    · have hy' : 0 < y := of_decide_eq_true hb
      refine st_par ?_
      walk_at "dd"
      refine ro_mod hy' (ea_nil ⟨_, _, rfl, (x % y).toNat, ?_, y, x % y, rfl, rfl, hy, Int.emod_nonneg _ (by omega), rfl, ?_⟩)
      · have h1 := Int.emod_lt_of_pos x hy'
        have h2 := Int.emod_nonneg x (show y ≠ 0 by omega)
        omega
      · rw [← hg]
        have e1 : (x % y).natAbs = x.natAbs % y.natAbs := by
          obtain ⟨p, rfl⟩ := Int.eq_ofNat_of_zero_le hx
          obtain ⟨q, rfl⟩ := Int.eq_ofNat_of_zero_le hy
          rw [← Int.natCast_emod]
          simp only [Int.natAbs_natCast]
        rw [e1, Nat.gcd_comm x.natAbs y.natAbs, Nat.gcd_comm y.natAbs (x.natAbs % y.natAbs), ← Nat.gcd_rec]
    · have hy' : y = 0 := by
        have := of_decide_eq_false hb
        omega
      subst hy'
      refine st_ret (ev_var rfl ⟨a, b, rfl, ?_⟩)
      rw [← hg]
      show PyData.int x = PyData.int ((Nat.gcd x.natAbs 0 : Nat) : Int)
      rw [Nat.gcd_zero_right]
      congr 1
      omega
theorem ok__law_measure (T : Tx K mg) : FnOk P w K mg base CX0 1 T.a__law_measure T.d__law_measure p__law_measure (sp__law_measure K) := by
  refine T.F__law_measure.ok sc__law_measure (fun vs H Q E h => len__law_measure K vs H Q E h) (fun cdv A outer s H vs Q E hr h => ?_)
  exact ⟨t__law_measure K, (pss_cons (ps_par (by rfl) sc__law_measure.nd rfl rfl (by decide) rfl rfl (pa_cons (pe_callB call_abs (by rfl) T.n_abs (by decide +kernel) (pa_cons (pv 0) pa_nil)) (pa_cons (pe_callB call_abs (by rfl) T.n_abs (by decide +kernel) (pa_cons (pv 1) pa_nil)) pa_nil)) (by rfl))
  (pss_cons (ps_while PassesOwn.never (pt_cmpR op_gt (pv 1) pe_int (nomark _)) (pss_one (ps_par (by rfl) sc__law_measure.nd rfl rfl (by decide) rfl rfl (pa_cons (pv 1) (pa_cons (pe_op op_modA (pe_callTy call_int1 (by rfl) T.n_int (by decide +kernel) (pa_cons (pv 0) pa_nil)) (pv 1)) pa_nil)) (by rfl))))
  (pss_one (ps_ret (pv 0))))), pure__law_measure K vs H Q E h⟩
/-! ### _law_frac -/

noncomputable def pre__law_frac : List PyData → Prop := fun ds => ∃ n m : Int, ds = [.int n, .int m] ∧ m ≠ 0 ∧ m.natAbs < 2 ^ 9000
noncomputable def post__law_frac : List PyData → PyData → Prop := fun ds d => ∃ n m : Int, ds = [.int n, .int m] ∧ ∃ x : Fr, d = frD x ∧ FOk x ∧ val x = (n : Rat) / (m : Rat) ∧ x.1.natAbs ≤ n.natAbs ∧ x.2.natAbs ≤ m.natAbs
noncomputable abbrev sp__law_frac (K : PySem.W.Frag) : Sp := SpP K pre__law_frac post__law_frac
theorem len__law_frac (K : PySem.W.Frag) (vs : List V) (H : Hp) (Q : VK) (E : XK) (h : sp__law_frac K vs H Q E) : vs.length = p__law_frac.length := len_P (n := 2) h fun ds hp => by
  obtain ⟨n, m, e, hm, hz⟩ := hp
  rw [e]; rfl
noncomputable def t__law_frac (K : PySem.W.Frag) : TS :=
  (tSeq (tAsg (tCall (sp__law_measure K) [] E0 (tCons (tVar 0) (tCons (tVar 1) tNil))) (gName 2))
  (tRet (tIf (tTest (tOp (rI0 fun i j => .bl (decide (j < i))) (tVar 1) (tC (.int 0)))) (tTup (tCons (tOp rFdA (tVar 0) (tVar 2)) (tCons (tOp rFdA (tVar 1) (tVar 2)) tNil))) (tTup (tCons (tOp (rI0 fun i j => .int (i - j)) (tC (.int 0)) (tOp rFdA (tVar 0) (tVar 2))) (tCons (tOp (rI0 fun i j => .int (i - j)) (tC (.int 0)) (tOp rFdA (tVar 1) (tVar 2))) tNil))))))
theorem pure__law_frac (K : PySem.W.Frag) (vs : List V) (H : Hp) (Q : VK) (E : XK) (h : sp__law_frac K vs H Q E) : t__law_frac K { nx := fun _ H' => Q .non H', rt := Q } (L2.start N__law_frac vs) H := body_P h fun B ds hW hp => by
  obtain ⟨n, m, e, hm, hz⟩ := hp
  subst e
  unfold t__law_frac
  refine st_seq (st_asg (ev_callP (ea_cons (ev_var rfl (ea_cons (ev_var rfl (ea_nil ⟨⟨_, _, rfl⟩, fun d ⟨a, b, eab, ed⟩ => ?_⟩)))))))
  cases eab
  subst ed
  have hg : 0 < Nat.gcd n.natAbs m.natAbs := Nat.gcd_pos_of_pos_right _ (by omega)
  have gl : Nat.gcd n.natAbs m.natAbs ≤ m.natAbs := Nat.le_of_dvd (by omega) (Nat.gcd_dvd_right _ _)
  obtain ⟨p, hp⟩ : ((Nat.gcd n.natAbs m.natAbs : Nat) : Int) ∣ n := Int.ofNat_dvd_left.mpr (Nat.gcd_dvd_left _ _)
  obtain ⟨r, hr⟩ : ((Nat.gcd n.natAbs m.natAbs : Nat) : Int) ∣ m := Int.ofNat_dvd_left.mpr (Nat.gcd_dvd_right _ _)
  have hc : Nat.gcd p.natAbs r.natAbs = 1 := by
    have e1 : n.natAbs = Nat.gcd n.natAbs m.natAbs * p.natAbs := by
      conv => lhs; rw [hp, Int.natAbs_mul, Int.natAbs_natCast]
    have e2 : m.natAbs = Nat.gcd n.natAbs m.natAbs * r.natAbs := by
      conv => lhs; rw [hr, Int.natAbs_mul, Int.natAbs_natCast]
    have e3 : Nat.gcd (Nat.gcd n.natAbs m.natAbs * p.natAbs) (Nat.gcd n.natAbs m.natAbs * r.natAbs) = Nat.gcd n.natAbs m.natAbs * Nat.gcd p.natAbs r.natAbs := Nat.gcd_mul_left ..
    rw [← e1, ← e2] at e3
    exact Nat.eq_of_mul_eq_mul_left hg (by rw [Nat.mul_one]; exact e3.symm)
  generalize Nat.gcd n.natAbs m.natAbs = g at *
  have hg0 : (0 : Int) < (g : Int) := by omega
  have dn : n / (g : Int) = p := by
    rw [hp]
    exact Int.mul_ediv_cancel_left _ (by omega)
  have dm : m / (g : Int) = r := by
    rw [hr]
    exact Int.mul_ediv_cancel_left _ (by omega)
  have cd : CDivW 0 (g : Int) := by
    refine ⟨hg0, ?_⟩
    have := lg (x := (g : Int)) (m := 9000) (by rw [Int.natAbs_natCast]; omega)
    rw [Int.natAbs_natCast] at this ⊢
    exact (Nat.log2_lt (by omega)).mpr (by omega)
  have cdn : CDivW n (g : Int) := cd
  have cdm : CDivW m (g : Int) := cd
  have rn := ratInt_ne hm
  have rg := ratInt_ne (a := (g : Int)) (by omega)
  have ln : p.natAbs ≤ n.natAbs := by
    rw [hp, Int.natAbs_mul, Int.natAbs_natCast]
    exact Nat.le_mul_of_pos_left _ hg
  have lm : r.natAbs ≤ m.natAbs := by
    rw [hr, Int.natAbs_mul, Int.natAbs_natCast]
    exact Nat.le_mul_of_pos_left _ hg
  have vp : (n : Rat) = (g : Int) * (p : Rat) := by
    conv => lhs; rw [hp]
    exact Rat.intCast_mul _ _
  have vr : (m : Rat) = (g : Int) * (r : Rat) := by
    conv => lhs; rw [hr]
    exact Rat.intCast_mul _ _
  refine st_ret (ev_if ?_)
  walk_at "dd"
  refine ⟨fun hb => ?_, fun hb => ?_⟩
  · have m0 := of_decide_eq_true hb
    have r0 : 0 < r := by
      rcases Int.lt_trichotomy r 0 with z | z | z
      · have := Int.mul_neg_of_pos_of_neg hg0 z
        omega
      · rw [z] at hr
        omega
      · exact z
    refine ev_tup (ea_cons (ev_op (ev_var rfl (ev_var rfl (ro_fdW cdn ?_)))))
    refine ea_cons (ev_op (ev_var rfl (ev_var rfl (ro_fdW cdm (ea_nil ⟨by simp, n, m, rfl, (p, r), ?_, ⟨r0, hc⟩, ?_, ln, lm⟩)))))
    · rw [dn, dm]
      rfl
    · have := ratInt_ne (a := r) (by omega)
      unfold val
      rw [vp, vr]
      grind
  · have m0 := of_decide_eq_false hb
    have r0 : r < 0 := by
      rcases Int.lt_trichotomy r 0 with z | z | z
      · exact z
      · rw [z] at hr
        omega
      · have := Int.mul_pos hg0 z
        omega
    refine ev_tup (ea_cons (ev_op (ev_int (ev_op (ev_var rfl (ev_var rfl (ro_fdW cdn (rok_i0 ?_))))))))
    refine ea_cons (ev_op (ev_int (ev_op (ev_var rfl (ev_var rfl (ro_fdW cdm (rok_i0 (ea_nil ⟨by simp, n, m, rfl, (-p, -r), ?_, ⟨by show 0 < -r; omega, ?_⟩, ?_, ?_, ?_⟩))))))))
    · rw [dn, dm, Int.zero_sub, Int.zero_sub]
      rfl
    · show Nat.gcd (-p).natAbs (-r).natAbs = 1
      rw [Int.natAbs_neg, Int.natAbs_neg]
      exact hc
    · have := ratInt_ne (a := r) (by omega)
      unfold val
      show ((-p : Int) : Rat) / ((-r : Int) : Rat) = _
      rw [vp, vr, Rat.intCast_neg, Rat.intCast_neg]
      grind
    · show (-p).natAbs ≤ _
      rw [Int.natAbs_neg]
      exact ln
    · show (-r).natAbs ≤ _
      rw [Int.natAbs_neg]
      exact lm
theorem ok__law_frac (T : Tx K mg) : FnOk P w K mg base CX0 2 T.a__law_frac T.d__law_frac p__law_frac (sp__law_frac K) := by
  refine T.F__law_frac.ok sc__law_frac (fun vs H Q E h => len__law_frac K vs H Q E h) (fun cdv A outer s H vs Q E hr h => ?_)
  exact ⟨t__law_frac K, (pss_cons (ps_set (i := 2) sc__law_frac.nd rfl (Or.inl rfl) (pe_call (ok__law_measure T) (hr.mono (by decide)) rfl T.g__law_measure T.F__law_measure.kp (b__law_measure T) .nil pass0 (pa_cons (pv 0) (pa_cons (pv 1) pa_nil))))
  (pss_one (ps_ret (pe_ifExp (pt_cmpR op_gt (pv 1) pe_int (nomark _)) (pe_tup (pa_cons (pe_op op_fdA (pv 0) (pv 2)) (pa_cons (pe_op op_fdA (pv 1) (pv 2)) pa_nil))) (pe_tup (pa_cons (pe_op op_sub pe_int (pe_op op_fdA (pv 0) (pv 2))) (pa_cons (pe_op op_sub pe_int (pe_op op_fdA (pv 1) (pv 2))) pa_nil))))))), pure__law_frac K vs H Q E h⟩
/-! ### _law_sum -/

noncomputable def pre__law_sum : List PyData → Prop := fun ds => ∃ x y : Fr, ds = [frD x, frD y] ∧ Sm x ∧ Sm y
noncomputable def post__law_sum : List PyData → PyData → Prop := fun ds d => ∃ x y r : Fr, ds = [frD x, frD y] ∧ d = frD r ∧ FOk r ∧ val r = val x + val y
noncomputable abbrev sp__law_sum (K : PySem.W.Frag) : Sp := SpP K pre__law_sum post__law_sum
theorem len__law_sum (K : PySem.W.Frag) (vs : List V) (H : Hp) (Q : VK) (E : XK) (h : sp__law_sum K vs H Q E) : vs.length = p__law_sum.length := len_P (n := 2) h fun ds hp => by
  obtain ⟨x, y, e, hx, hy⟩ := hp
  rw [e]; rfl
noncomputable def t__law_sum (K : PySem.W.Frag) : TS :=
  (tRet (tCall (sp__law_frac K) [] E0 (tCons (tOp (rAddA K) (tOp (rMulA K) (tOp (rIx K) (tVar 0) (tC (.int 0))) (tOp (rIx K) (tVar 1) (tC (.int 1)))) (tOp (rMulA K) (tOp (rIx K) (tVar 1) (tC (.int 0))) (tOp (rIx K) (tVar 0) (tC (.int 1))))) (tCons (tOp (rMulA K) (tOp (rIx K) (tVar 0) (tC (.int 1))) (tOp (rIx K) (tVar 1) (tC (.int 1)))) tNil))))
theorem pure__law_sum (K : PySem.W.Frag) (vs : List V) (H : Hp) (Q : VK) (E : XK) (h : sp__law_sum K vs H Q E) : t__law_sum K { nx := fun _ H' => Q .non H', rt := Q } (L2.start N__law_sum vs) H := body_P h fun B ds hW hp => by
  obtain ⟨x, y, e, hx, hy⟩ := hp
  subst e
  unfold t__law_sum
  obtain ⟨x1, x2, x3⟩ := hx
  obtain ⟨y1, y2, y3⟩ := hy
  have nx := ratInt_ne (a := x.2) (by omega)
  have ny := ratInt_ne (a := y.2) (by omega)
  refine st_ret (ev_callP ?_)
  walk_at "dd"
  refine ro_mulW (mulW_of x2 y3 (by decide)) ?_
  walk_at "dd"
  refine ro_mulW (mulW_of y2 x3 (by decide)) ?_
  walk_at "dd"
  refine ro_mulW (mulW_of x3 y3 (by decide)) ?_
  have hm : x.2 * y.2 ≠ 0 := Int.mul_ne_zero (by omega) (by omega)
  refine ea_nil ⟨⟨_, _, rfl, hm, pow_up (natAbs_mul_lt x3 y3) (by decide)⟩, fun d ⟨n', m', en, r, ed, f, v, _, _⟩ => ?_⟩
  simp only [List.cons.injEq, PyData.int.injEq, and_true] at en
  obtain ⟨rfl, rfl⟩ := en
  refine ⟨x, y, r, rfl, ed, f, ?_⟩
  rw [v]
  unfold val
  rw [Rat.intCast_add, Rat.intCast_mul, Rat.intCast_mul, Rat.intCast_mul]
  grind
theorem ok__law_sum (T : Tx K mg) : FnOk P w K mg base CX0 3 T.a__law_sum T.d__law_sum p__law_sum (sp__law_sum K) := by
  refine T.F__law_sum.ok sc__law_sum (fun vs H Q E h => len__law_sum K vs H Q E h) (fun cdv A outer s H vs Q E hr h => ?_)
  exact ⟨t__law_sum K, (pss_one (ps_ret (pe_call (ok__law_frac T) (hr.mono (by decide)) rfl T.g__law_frac T.F__law_frac.kp (b__law_frac T) .nil pass0 (pa_cons (pe_op op_addA (pe_op op_mulA (pe_ix ix_seq (pv 0) pe_int (fun _ _ => rfl)) (pe_ix ix_seq (pv 1) pe_int (fun _ _ => rfl))) (pe_op op_mulA (pe_ix ix_seq (pv 1) pe_int (fun _ _ => rfl)) (pe_ix ix_seq (pv 0) pe_int (fun _ _ => rfl)))) (pa_cons (pe_op op_mulA (pe_ix ix_seq (pv 0) pe_int (fun _ _ => rfl)) (pe_ix ix_seq (pv 1) pe_int (fun _ _ => rfl))) pa_nil))))), pure__law_sum K vs H Q E h⟩
/-! ### _law_gap -/

noncomputable def pre__law_gap : List PyData → Prop := fun ds => ∃ x y : Fr, ds = [frD x, frD y] ∧ Sm x ∧ Sm y
noncomputable def post__law_gap : List PyData → PyData → Prop := fun ds d => ∃ x y r : Fr, ds = [frD x, frD y] ∧ d = frD r ∧ FOk r ∧ val r = val x - val y
noncomputable abbrev sp__law_gap (K : PySem.W.Frag) : Sp := SpP K pre__law_gap post__law_gap
theorem len__law_gap (K : PySem.W.Frag) (vs : List V) (H : Hp) (Q : VK) (E : XK) (h : sp__law_gap K vs H Q E) : vs.length = p__law_gap.length := len_P (n := 2) h fun ds hp => by
  obtain ⟨x, y, e, hx, hy⟩ := hp
  rw [e]; rfl
noncomputable def t__law_gap (K : PySem.W.Frag) : TS :=
  (tRet (tCall (sp__law_frac K) [] E0 (tCons (tOp (rI0 fun i j => .int (i - j)) (tOp (rMulA K) (tOp (rIx K) (tVar 0) (tC (.int 0))) (tOp (rIx K) (tVar 1) (tC (.int 1)))) (tOp (rMulA K) (tOp (rIx K) (tVar 1) (tC (.int 0))) (tOp (rIx K) (tVar 0) (tC (.int 1))))) (tCons (tOp (rMulA K) (tOp (rIx K) (tVar 0) (tC (.int 1))) (tOp (rIx K) (tVar 1) (tC (.int 1)))) tNil))))
theorem pure__law_gap (K : PySem.W.Frag) (vs : List V) (H : Hp) (Q : VK) (E : XK) (h : sp__law_gap K vs H Q E) : t__law_gap K { nx := fun _ H' => Q .non H', rt := Q } (L2.start N__law_gap vs) H := body_P h fun B ds hW hp => by
  obtain ⟨x, y, e, hx, hy⟩ := hp
  subst e
  unfold t__law_gap
  obtain ⟨x1, x2, x3⟩ := hx
  obtain ⟨y1, y2, y3⟩ := hy
  have nx := ratInt_ne (a := x.2) (by omega)
  have ny := ratInt_ne (a := y.2) (by omega)
  refine st_ret (ev_callP ?_)
  walk_at "dd"
  refine ro_mulW (mulW_of x2 y3 (by decide)) ?_
  walk_at "dd"
  refine ro_mulW (mulW_of y2 x3 (by decide)) ?_
  walk_at "dd"
  refine ro_mulW (mulW_of x3 y3 (by decide)) ?_
  have hm : x.2 * y.2 ≠ 0 := Int.mul_ne_zero (by omega) (by omega)
  refine ea_nil ⟨⟨_, _, rfl, hm, pow_up (natAbs_mul_lt x3 y3) (by decide)⟩, fun d ⟨n', m', en, r, ed, f, v, _, _⟩ => ?_⟩
  simp only [List.cons.injEq, PyData.int.injEq, and_true] at en
  obtain ⟨rfl, rfl⟩ := en
  refine ⟨x, y, r, rfl, ed, f, ?_⟩
  rw [v]
  unfold val
  rw [Rat.intCast_sub, Rat.intCast_mul, Rat.intCast_mul, Rat.intCast_mul]
  grind
theorem ok__law_gap (T : Tx K mg) : FnOk P w K mg base CX0 3 T.a__law_gap T.d__law_gap p__law_gap (sp__law_gap K) := by
  refine T.F__law_gap.ok sc__law_gap (fun vs H Q E h => len__law_gap K vs H Q E h) (fun cdv A outer s H vs Q E hr h => ?_)
  exact ⟨t__law_gap K, (pss_one (ps_ret (pe_call (ok__law_frac T) (hr.mono (by decide)) rfl T.g__law_frac T.F__law_frac.kp (b__law_frac T) .nil pass0 (pa_cons (pe_op op_sub (pe_op op_mulA (pe_ix ix_seq (pv 0) pe_int (fun _ _ => rfl)) (pe_ix ix_seq (pv 1) pe_int (fun _ _ => rfl))) (pe_op op_mulA (pe_ix ix_seq (pv 1) pe_int (fun _ _ => rfl)) (pe_ix ix_seq (pv 0) pe_int (fun _ _ => rfl)))) (pa_cons (pe_op op_mulA (pe_ix ix_seq (pv 0) pe_int (fun _ _ => rfl)) (pe_ix ix_seq (pv 1) pe_int (fun _ _ => rfl))) pa_nil))))), pure__law_gap K vs H Q E h⟩
/-! ### _law_prod -/

noncomputable def pre__law_prod : List PyData → Prop := fun ds => ∃ x y : Fr, ds = [frD x, frD y] ∧ Sm x ∧ Sm y
noncomputable def post__law_prod : List PyData → PyData → Prop := fun ds d => ∃ x y r : Fr, ds = [frD x, frD y] ∧ d = frD r ∧ FOk r ∧ val r = val x * val y
noncomputable abbrev sp__law_prod (K : PySem.W.Frag) : Sp := SpP K pre__law_prod post__law_prod
theorem len__law_prod (K : PySem.W.Frag) (vs : List V) (H : Hp) (Q : VK) (E : XK) (h : sp__law_prod K vs H Q E) : vs.length = p__law_prod.length := len_P (n := 2) h fun ds hp => by
  obtain ⟨x, y, e, hx, hy⟩ := hp
  rw [e]; rfl
noncomputable def t__law_prod (K : PySem.W.Frag) : TS :=
  (tRet (tCall (sp__law_frac K) [] E0 (tCons (tOp (rMulA K) (tOp (rIx K) (tVar 0) (tC (.int 0))) (tOp (rIx K) (tVar 1) (tC (.int 0)))) (tCons (tOp (rMulA K) (tOp (rIx K) (tVar 0) (tC (.int 1))) (tOp (rIx K) (tVar 1) (tC (.int 1)))) tNil))))
theorem pure__law_prod (K : PySem.W.Frag) (vs : List V) (H : Hp) (Q : VK) (E : XK) (h : sp__law_prod K vs H Q E) : t__law_prod K { nx := fun _ H' => Q .non H', rt := Q } (L2.start N__law_prod vs) H := body_P h fun B ds hW hp => by
  obtain ⟨x, y, e, hx, hy⟩ := hp
  subst e
  unfold t__law_prod
  obtain ⟨x1, x2, x3⟩ := hx
  obtain ⟨y1, y2, y3⟩ := hy
  have nx := ratInt_ne (a := x.2) (by omega)
  have ny := ratInt_ne (a := y.2) (by omega)
  refine st_ret (ev_callP ?_)
  walk_at "dd"
  refine ro_mulW (mulW_of x2 y2 (by decide)) ?_
  walk_at "dd"
  refine ro_mulW (mulW_of x3 y3 (by decide)) ?_
  have hm : x.2 * y.2 ≠ 0 := Int.mul_ne_zero (by omega) (by omega)
  refine ea_nil ⟨⟨_, _, rfl, hm, pow_up (natAbs_mul_lt x3 y3) (by decide)⟩, fun d ⟨n', m', en, r, ed, f, v, _, _⟩ => ?_⟩
  simp only [List.cons.injEq, PyData.int.injEq, and_true] at en
  obtain ⟨rfl, rfl⟩ := en
  refine ⟨x, y, r, rfl, ed, f, ?_⟩
  rw [v]
  unfold val
  rw [Rat.intCast_mul, Rat.intCast_mul]
  grind
theorem ok__law_prod (T : Tx K mg) : FnOk P w K mg base CX0 3 T.a__law_prod T.d__law_prod p__law_prod (sp__law_prod K) := by
  refine T.F__law_prod.ok sc__law_prod (fun vs H Q E h => len__law_prod K vs H Q E h) (fun cdv A outer s H vs Q E hr h => ?_)
  exact ⟨t__law_prod K, (pss_one (ps_ret (pe_call (ok__law_frac T) (hr.mono (by decide)) rfl T.g__law_frac T.F__law_frac.kp (b__law_frac T) .nil pass0 (pa_cons (pe_op op_mulA (pe_ix ix_seq (pv 0) pe_int (fun _ _ => rfl)) (pe_ix ix_seq (pv 1) pe_int (fun _ _ => rfl))) (pa_cons (pe_op op_mulA (pe_ix ix_seq (pv 0) pe_int (fun _ _ => rfl)) (pe_ix ix_seq (pv 1) pe_int (fun _ _ => rfl))) pa_nil))))), pure__law_prod K vs H Q E h⟩
/-! ### _law_per -/

noncomputable def pre__law_per : List PyData → Prop := fun ds => ∃ x y : Fr, ds = [frD x, frD y] ∧ Sm x ∧ Sm y ∧ y.1 ≠ 0
noncomputable def post__law_per : List PyData → PyData → Prop := fun ds d => ∃ x y r : Fr, ds = [frD x, frD y] ∧ d = frD r ∧ FOk r ∧ val r = val x / val y
noncomputable abbrev sp__law_per (K : PySem.W.Frag) : Sp := SpP K pre__law_per post__law_per
theorem len__law_per (K : PySem.W.Frag) (vs : List V) (H : Hp) (Q : VK) (E : XK) (h : sp__law_per K vs H Q E) : vs.length = p__law_per.length := len_P (n := 2) h fun ds hp => by
  obtain ⟨x, y, e, hx, hy, y0⟩ := hp
  rw [e]; rfl
noncomputable def t__law_per (K : PySem.W.Frag) : TS :=
  (tRet (tCall (sp__law_frac K) [] E0 (tCons (tOp (rMulA K) (tOp (rIx K) (tVar 0) (tC (.int 0))) (tOp (rIx K) (tVar 1) (tC (.int 1)))) (tCons (tOp (rMulA K) (tOp (rIx K) (tVar 0) (tC (.int 1))) (tOp (rIx K) (tVar 1) (tC (.int 0)))) tNil))))
theorem pure__law_per (K : PySem.W.Frag) (vs : List V) (H : Hp) (Q : VK) (E : XK) (h : sp__law_per K vs H Q E) : t__law_per K { nx := fun _ H' => Q .non H', rt := Q } (L2.start N__law_per vs) H := body_P h fun B ds hW hp => by
  obtain ⟨x, y, e, hx, hy, y0⟩ := hp
  subst e
  unfold t__law_per
  obtain ⟨x1, x2, x3⟩ := hx
  obtain ⟨y1, y2, y3⟩ := hy
  have nx := ratInt_ne (a := x.2) (by omega)
  have ny := ratInt_ne (a := y.2) (by omega)
  refine st_ret (ev_callP ?_)
  walk_at "dd"
  refine ro_mulW (mulW_of x2 y3 (by decide)) ?_
  walk_at "dd"
  refine ro_mulW (mulW_of x3 y2 (by decide)) ?_
  have hm : x.2 * y.1 ≠ 0 := Int.mul_ne_zero (by omega) (by omega)
  refine ea_nil ⟨⟨_, _, rfl, hm, pow_up (natAbs_mul_lt x3 y2) (by decide)⟩, fun d ⟨n', m', en, r, ed, f, v, _, _⟩ => ?_⟩
  simp only [List.cons.injEq, PyData.int.injEq, and_true] at en
  obtain ⟨rfl, rfl⟩ := en
  refine ⟨x, y, r, rfl, ed, f, ?_⟩
  rw [v]
  have nz := ratInt_ne y0
  unfold val
  rw [Rat.intCast_mul, Rat.intCast_mul]
  grind
theorem ok__law_per (T : Tx K mg) : FnOk P w K mg base CX0 3 T.a__law_per T.d__law_per p__law_per (sp__law_per K) := by
  refine T.F__law_per.ok sc__law_per (fun vs H Q E h => len__law_per K vs H Q E h) (fun cdv A outer s H vs Q E hr h => ?_)
  exact ⟨t__law_per K, (pss_one (ps_ret (pe_call (ok__law_frac T) (hr.mono (by decide)) rfl T.g__law_frac T.F__law_frac.kp (b__law_frac T) .nil pass0 (pa_cons (pe_op op_mulA (pe_ix ix_seq (pv 0) pe_int (fun _ _ => rfl)) (pe_ix ix_seq (pv 1) pe_int (fun _ _ => rfl))) (pa_cons (pe_op op_mulA (pe_ix ix_seq (pv 0) pe_int (fun _ _ => rfl)) (pe_ix ix_seq (pv 1) pe_int (fun _ _ => rfl))) pa_nil))))), pure__law_per K vs H Q E h⟩
/-! ### _law_amount -/

noncomputable def pre__law_amount : List PyData → Prop := fun ds => True ∧ ds = []
noncomputable def post__law_amount : List PyData → PyData → Prop := fun ds d => ∃ x : Fr, d = frD x ∧ Am x
noncomputable abbrev sp__law_amount (K : PySem.W.Frag) : Sp := SpW K pre__law_amount post__law_amount
theorem len__law_amount (K : PySem.W.Frag) (vs : List V) (H : Hp) (Q : VK) (E : XK) (h : sp__law_amount K vs H Q E) : vs.length = p__law_amount.length := len_W (n := 0) h fun ds hp => by
  obtain ⟨_, e⟩ := hp
  rw [e]; rfl
noncomputable def t__law_amount (K : PySem.W.Frag) : TS :=
  (tSeq (tAsg (tCall (sp__law_any K) [] E0 (tCons (tVar 0) (tCons (tLst (tCons (tC (.int 2)) (tCons (tC (.int 2)) (tCons (tC (.int 3)) (tCons (tC (.int 4)) (tCons (tC (.int 9)) tNil)))))) tNil))) (gName 1))
  (tRet (tCall (sp__law_frac K) [] E0 (tCons (tOp (rAddA K) (tC (.int 1)) (tCall (sp__law_wind K) [] E0 (tCons (tVar 0) (tCons (tVar 1) tNil)))) (tCons (tOp (rAddA K) (tC (.int 1)) (tCall (sp__law_wind K) [] E0 (tCons (tVar 0) (tCons (tCall (sp__law_any K) [] E0 (tCons (tVar 0) (tCons (tLst (tCons (tC (.int 1)) (tCons (tC (.int 1)) (tCons (tC (.int 2)) (tCons (tC (.int 3)) (tCons (tVar 1) tNil)))))) tNil))) tNil)))) tNil)))))
theorem pure__law_amount (K : PySem.W.Frag) (vs : List V) (H : Hp) (Q : VK) (E : XK) (h : sp__law_amount K vs H Q E) : t__law_amount K { nx := fun _ H' => Q .non H', rt := Q } (L2.start N__law_amount vs) H := body_W h (by decide) fun B w ds hp => by
  obtain ⟨_, e⟩ := hp
  subst e
  unfold t__law_amount
  have pick : ∀ (ks : List Int) (d : PyData), d ∈ ks.map PyData.int → (∀ k ∈ ks, 1 ≤ k ∧ k ≤ 9) → ∃ k : Int, d = .int k ∧ 1 ≤ k ∧ k ≤ 9 := fun ks d hd hk => by
    obtain ⟨k, h1, rfl⟩ := List.mem_map.mp hd
    exact ⟨k, rfl, hk k h1⟩
  refine st_seq (st_asg (ev_callW rfl ?_))
  walk_at "dd"
  refine ⟨⟨_, rfl, by simp, by simp⟩, fun d ⟨xs, ex, hd⟩ => ?_⟩
  cases ex
  obtain ⟨wide, rfl, w0, w1⟩ := pick [2, 2, 3, 4, 9] d hd (by decide)
  refine st_ret (ev_callP (ea_cons (ev_op (ev_int (ev_callW rfl (ea_cons (ev_var rfl (ea_nil ⟨⟨_, rfl, by omega, by omega⟩, fun d ⟨m, a, em, ed, a0, a1⟩ => ?_⟩))))))))
  cases em
  subst ed
  refine ro_add (ea_cons (ev_op (ev_int (ev_callW rfl (ea_cons (ev_callW rfl (ea_cons (ev_lst ?_))))))))
  walk_at "dd"
  refine ⟨⟨_, rfl, by simp, by simp⟩, fun d ⟨xs, ex, hd⟩ => ?_⟩
  cases ex
  obtain ⟨k, rfl, k0, k1⟩ := pick [1, 1, 2, 3, wide] d hd (by
    intro k hk
    simp only [List.mem_cons, List.not_mem_nil, or_false] at hk
    omega)
  refine ea_nil ⟨⟨_, rfl, by omega, by omega⟩, fun d ⟨m, b, em, ed, b0, b1⟩ => ?_⟩
  cases em
  subst ed
  refine ro_add (ea_nil ⟨⟨_, _, rfl, by omega, pow_up (m := 6) (by omega) (by decide)⟩, fun d ⟨n', m', en, x, ed, f, v, l1, l2⟩ => ?_⟩)
  simp only [List.cons.injEq, PyData.int.injEq, and_true] at en
  obtain ⟨rfl, rfl⟩ := en
  have q0 : (0 : Rat) < val x := by
    rw [v, Rat.div_def]
    exact Rat.mul_pos (ratInt_pos (by omega)) (Rat.inv_pos.mpr (ratInt_pos (by omega)))
  have x0 := (val_pos f.1).1.mp q0
  have x2 := f.1
  exact ⟨x, ed, f, x0, by omega, by omega⟩
theorem ok__law_amount (T : Tx K mg) : FnOk P w K mg base CX0 3 T.a__law_amount T.d__law_amount p__law_amount (sp__law_amount K) := by
  refine T.F__law_amount.ok sc__law_amount (fun vs H Q E h => len__law_amount K vs H Q E h) (fun cdv A outer s H vs Q E hr h => ?_)
  exact ⟨t__law_amount K, (pss_cons (ps_set (i := 1) sc__law_amount.nd rfl (Or.inl rfl) (pe_call (ok__law_any T) (hr.mono (by decide)) rfl T.g__law_any T.F__law_any.kp (b__law_any T) .nil pass0 (pa_cons (pv 0) (pa_cons (pe_lst (pa_cons pe_int (pa_cons pe_int (pa_cons pe_int (pa_cons pe_int (pa_cons pe_int pa_nil)))))) pa_nil))))
  (pss_one (ps_ret (pe_call (ok__law_frac T) (hr.mono (by decide)) rfl T.g__law_frac T.F__law_frac.kp (b__law_frac T) .nil pass0 (pa_cons (pe_op op_addA pe_int (pe_call (ok__law_wind T) (hr.mono (by decide)) rfl T.g__law_wind T.F__law_wind.kp (b__law_wind T) .nil pass0 (pa_cons (pv 0) (pa_cons (pv 1) pa_nil)))) (pa_cons (pe_op op_addA pe_int (pe_call (ok__law_wind T) (hr.mono (by decide)) rfl T.g__law_wind T.F__law_wind.kp (b__law_wind T) .nil pass0 (pa_cons (pv 0) (pa_cons (pe_call (ok__law_any T) (hr.mono (by decide)) rfl T.g__law_any T.F__law_any.kp (b__law_any T) .nil pass0 (pa_cons (pv 0) (pa_cons (pe_lst (pa_cons pe_int (pa_cons pe_int (pa_cons pe_int (pa_cons pe_int (pa_cons (pv 1) pa_nil)))))) pa_nil))) pa_nil)))) pa_nil)))))), pure__law_amount K vs H Q E h⟩
/-! ### _law_end -/

noncomputable def pre__law_end : List PyData → Prop := fun ds => True ∧ ds = []
noncomputable def post__law_end : List PyData → PyData → Prop := fun ds d => ∃ x : Fr, d = frD x ∧ Am0 x
noncomputable abbrev sp__law_end (K : PySem.W.Frag) : Sp := SpW K pre__law_end post__law_end
theorem len__law_end (K : PySem.W.Frag) (vs : List V) (H : Hp) (Q : VK) (E : XK) (h : sp__law_end K vs H Q E) : vs.length = p__law_end.length := len_W (n := 0) h fun ds hp => by
  obtain ⟨_, e⟩ := hp
  rw [e]; rfl
noncomputable def t__law_end (K : PySem.W.Frag) : TS :=
  (tRet (tIf (tTest (tOp rEq (tCall (sp__law_wind K) [] E0 (tCons (tVar 0) (tCons (tC (.int 2)) tNil))) (tC (.int 0)))) (tTup (tCons (tC (.int 0)) (tCons (tC (.int 1)) tNil))) (tCall (sp__law_amount K) [] E0 (tCons (tVar 0) tNil))))
theorem pure__law_end (K : PySem.W.Frag) (vs : List V) (H : Hp) (Q : VK) (E : XK) (h : sp__law_end K vs H Q E) : t__law_end K { nx := fun _ H' => Q .non H', rt := Q } (L2.start N__law_end vs) H := body_W h (by decide) fun B w ds hp => by
  obtain ⟨_, e⟩ := hp
  subst e
  unfold t__law_end
  refine st_ret (ev_if (et_test (ev_op (ev_callW rfl (ea_cons (ev_int (ea_nil ⟨⟨_, rfl, by decide, by decide⟩, fun d ⟨m, wy, em, ed, _, _⟩ => ?_⟩)))))))
  subst ed
  refine ev_int (rok_eqI ⟨_, rfl, fun hb => ?_, fun hb => ?_⟩)
  · exact ev_tup (ea_cons (ev_int (ea_cons (ev_int (ea_nil ⟨by simp, (0, 1), rfl, am00⟩)))))
  · exact ev_callW rfl (ea_nil ⟨⟨trivial, rfl⟩, fun X ⟨x, ex, hx⟩ => ⟨x, ex, hx.to0⟩⟩)
theorem ok__law_end (T : Tx K mg) : FnOk P w K mg base CX0 4 T.a__law_end T.d__law_end p__law_end (sp__law_end K) := by
  refine T.F__law_end.ok sc__law_end (fun vs H Q E h => len__law_end K vs H Q E h) (fun cdv A outer s H vs Q E hr h => ?_)
  exact ⟨t__law_end K, (pss_one (ps_ret (pe_ifExp (pt_cmpR op_eq (pe_call (ok__law_wind T) (hr.mono (by decide)) rfl T.g__law_wind T.F__law_wind.kp (b__law_wind T) .nil pass0 (pa_cons (pv 0) (pa_cons pe_int pa_nil))) pe_int (nomark _)) (pe_tup (pa_cons pe_int (pa_cons pe_int pa_nil))) (pe_call (ok__law_amount T) (hr.mono (by decide)) rfl T.g__law_amount T.F__law_amount.kp (b__law_amount T) .nil pass0 (pa_cons (pv 0) pa_nil))))), pure__law_end K vs H Q E h⟩
/-! ### _law_line -/

noncomputable def pre__law_line : List PyData → Prop := fun ds => True ∧ ds = []
noncomputable def post__law_line : List PyData → PyData → Prop := fun ds d => ∃ dd ss : List Fr, d = lineD dd ss ∧ LineS dd ss
noncomputable abbrev sp__law_line (K : PySem.W.Frag) : Sp := SpW K pre__law_line post__law_line
theorem len__law_line (K : PySem.W.Frag) (vs : List V) (H : Hp) (Q : VK) (E : XK) (h : sp__law_line K vs H Q E) : vs.length = p__law_line.length := len_W (n := 0) h fun ds hp => by
  obtain ⟨_, e⟩ := hp
  rw [e]; rfl
noncomputable def t__law_line (K : PySem.W.Frag) : TS :=
  (tSeq (tAsg (tCall (sp__law_any K) [] E0 (tCons (tVar 0) (tCons (tLst (tCons (tC (.int 1)) (tCons (tC (.int 2)) (tCons (tC (.int 2)) (tCons (tC (.int 2)) (tCons (tC (.int 3)) (tCons (tC (.int 3)) (tCons (tC (.int 3)) (tCons (tC (.int 3)) (tCons (tC (.int 4)) (tCons (tC (.int 4)) (tCons (tC (.int 5)) tNil)))))))))))) tNil))) (gName 1))
  (tSeq (tAsg (tTup (tCons (tLc (iRng1 (tCons (tVar 1) tNil)) (gName 4) tYes (tCall (sp__law_amount K) [] E0 (tCons (tVar 0) tNil)) [4]) (tCons (tLc (iRng1 (tCons (tOp (rAddA K) (tVar 1) (tC (.int 1))) tNil)) (gName 4) tYes (tCall (sp__law_amount K) [] E0 (tCons (tVar 0) tNil)) [4]) tNil))) (gTup K 2 (gCons (gName 2) (gCons (gName 3) gNil))))
  (tSeq (tAsg (tTup (tCons (tCall (sp__law_end K) [] E0 (tCons (tVar 0) tNil)) (tCons (tCall (sp__law_end K) [] E0 (tCons (tVar 0) tNil)) tNil))) (gTup K 2 (gCons (gSub (tVar 3) (tC (.int 0)) rSetL) (gCons (gSub (tVar 3) (tVar 1) rSetL) gNil))))
  (tSeq (tIfS (tTest (tOp rEq (tCall (sp__law_wind K) [] E0 (tCons (tVar 0) (tCons (tC (.int 4)) tNil))) (tC (.int 0)))) (tSeq (tAsg (tLc (iRng1 (tCons (tVar 1) tNil)) (gName 4) tYes (tOp (rIx K) (tVar 2) (tCB rMin2Q (tCons (tVar 4) (tCons (tOp (rI0 fun i j => .int (i - j)) (tOp (rI0 fun i j => .int (i - j)) (tVar 1) (tC (.int 1))) (tVar 4)) tNil)))) [4]) (gName 2))
  (tAsg (tLc (iRng1 (tCons (tOp (rAddA K) (tVar 1) (tC (.int 1))) tNil)) (gName 4) tYes (tOp (rIx K) (tVar 3) (tCB rMin2Q (tCons (tVar 4) (tCons (tOp (rI0 fun i j => .int (i - j)) (tVar 1) (tVar 4)) tNil)))) [4]) (gName 3))) tNext)
  (tRet (tTup (tCons (tCB (rTupleQ K) (tCons (tVar 2) tNil)) (tCons (tCB (rTupleQ K) (tCons (tVar 3) tNil)) tNil))))))))
theorem pure__law_line (K : PySem.W.Frag) (vs : List V) (H : Hp) (Q : VK) (E : XK) (h : sp__law_line K vs H Q E) : t__law_line K { nx := fun _ H' => Q .non H', rt := Q } (L2.start N__law_line vs) H := body_W h (by decide) fun B w ds hp => by
  obtain ⟨_, e⟩ := hp
  subst e
  unfold t__law_line
  refine st_seq (st_asg (ev_callW rfl ?_))
  walk_at "dd"
  refine ⟨⟨_, rfl, by simp, by simp⟩, fun d ⟨xs, ex, hd⟩ => ?_⟩
  cases ex
  obtain ⟨c, rfl, c1, c5⟩ : ∃ c : Nat, d = .int (c : Int) ∧ 1 ≤ c ∧ c ≤ 5 := by
    have hd2 : d ∈ ([1, 2, 2, 2, 3, 3, 3, 3, 4, 4, 5] : List Nat).map fun c : Nat => PyData.int (c : Int) := hd
    obtain ⟨c, h1, rfl⟩ := List.mem_map.mp hd2
    have h2 : ∀ k ∈ ([1, 2, 2, 2, 3, 3, 3, 3, 4, 4, 5] : List Nat), 1 ≤ k ∧ k ≤ 5 := by decide
    exact ⟨c, rfl, (h2 c h1).1, (h2 c h1).2⟩
  have row : ∀ (i : Nat) (acc : List PyData) (x : Fr), (∃ r : List Fr, acc = r.map frD ∧ r.length = i ∧ ∀ y ∈ r, Am y) → Am x → ∃ r : List Fr, acc ++ [frD x] = r.map frD ∧ r.length = i + 1 ∧ ∀ y ∈ r, Am y := fun i acc x ⟨r, ea, lr, hr⟩ hx => by
    refine ⟨r ++ [x], by rw [ea, List.map_append]; rfl, by simp [lr], fun y hy => ?_⟩
    rcases List.mem_append.mp hy with q | q
    · exact hr y q
    · rw [List.mem_singleton.mp q]
      exact hx
  refine st_seq (st_unpOO (en_lcR (wipe1 4) (ea_cons (ev_var rfl (ea_nil ⟨_, rfl, by omega, by omega, fun i acc => ∃ r : List Fr, acc = r.map frD ∧ r.length = i ∧ ∀ y ∈ r, Am y, ⟨⟨[], rfl, rfl, by simp⟩, fun i D d' acc hi hJ hin => ?_⟩, fun acc1 hJ1 l1 => ?_⟩)))))
  · refine et_yes ⟨fun _ => ?_, fun z => nomatch z⟩
    exact ev_callW rfl (ea_nil ⟨⟨trivial, rfl⟩, fun X ⟨x, ex, hx⟩ => by rw [ex]; exact row i acc x hJ hx⟩)
  refine en_lcR (wipe1 4) (ea_cons (ev_op (ev_var rfl (ev_int (ro_add (ea_nil ⟨_, rfl, by omega, by omega, fun i acc => ∃ r : List Fr, acc = r.map frD ∧ r.length = i ∧ ∀ y ∈ r, Am y, ⟨⟨[], rfl, rfl, by simp⟩, fun i D d' acc hi hJ hin => ?_⟩, fun acc2 hJ2 l2 hne => ?_⟩))))))
  · refine et_yes ⟨fun _ => ?_, fun z => nomatch z⟩
    exact ev_callW rfl (ea_nil ⟨⟨trivial, rfl⟩, fun X ⟨x, ex, hx⟩ => by rw [ex]; exact row i acc x hJ hx⟩)
  obtain ⟨dd, rfl, ld, ad⟩ := hJ1
  obtain ⟨ss, rfl, ls, as⟩ := hJ2
  rw [Int.toNat_natCast] at ld
  rw [show ((c : Int) + 1).toNat = c + 1 by omega] at ls
  refine st_seq (st_setTwo rfl (ea_cons (ev_callW rfl (ea_nil ⟨⟨trivial, rfl⟩, fun X ⟨x, ex, hx⟩ => ea_cons (ev_callW rfl (ea_nil ⟨⟨trivial, rfl⟩, fun Y ⟨y, ey, hy⟩ => ea_nil ⟨X, Y, rfl, ev_int ⟨0, rfl, by simp; omega, ev_var rfl ⟨c, rfl, by simp; omega, ?_⟩⟩⟩⟩))⟩))))
  subst ex
  subst ey
  rw [← List.map_set, ← List.map_set]
  -- the ends are amounts or 0
  have hs : ∀ z ∈ (ss.set 0 x).set c y, Am0 z := fun z hz => by
    rcases List.mem_or_eq_of_mem_set hz with q | q
    · rcases List.mem_or_eq_of_mem_set q with q2 | q2
      · exact (as z q2).to0
      · rw [q2]
        exact hx
    · rw [q]
      exact hy
  have hi : ∀ i z, 0 < i → i < c → ((ss.set 0 x).set c y)[i]? = some z → Am z := fun i z h0 h1 hz => by
    rw [List.getElem?_set_ne (by omega), List.getElem?_set_ne (by omega)] at hz
    exact as z (List.mem_of_getElem? hz)
  have lt : ((ss.set 0 x).set c y).length = c + 1 := by simp [ls]
  generalize (ss.set 0 x).set c y = tt at hs hi lt ⊢
  have mk : ∀ (dd tt : List Fr), dd.length = c → tt.length = c + 1 → (∀ z ∈ dd, Am z) → (∀ z ∈ tt, Am0 z) → (∀ i z, 0 < i → i < c → tt[i]? = some z → Am z) → LineS dd tt := fun dd tt h1 h2 h3 h4 h5 => by
    refine ⟨⟨by omega, by omega, by omega, fun z hz => ?_, fun z hz => ?_, fun i z a b hz => (h5 i z a (by omega) hz).2.1⟩, fun z hz => ⟨(h3 z hz).2.2.1, (h3 z hz).2.2.2⟩, fun z hz => ⟨(h4 z hz).2.2.1, (h4 z hz).2.2.2⟩, by omega⟩
    · obtain ⟨a, b, c, d⟩ := h3 z hz
      exact ⟨a, b, by omega, by omega⟩
    · obtain ⟨a, b, c, d⟩ := h4 z hz
      exact ⟨a, b, by omega, by omega⟩
  refine st_freeze 3 rfl (by simp [hne, Ne.symm hne]) (st_freeze 2 rfl (by simp) ?_)
  have fin : ∀ (L : List Addr) (s4 : Sl) (dd tt : List Fr), LineS dd tt → StP K B [] L [.well w, .d (.int (c : Int)), .d (.list (dd.map frD)), .d (.list (tt.map frD)), s4] (tRet (tTup (tCons (tCB (rTupleQ K) (tCons (tVar 2) tNil)) (tCons (tCB (rTupleQ K) (tCons (tVar 3) tNil)) tNil)))) { nx := fun _ _ => post__law_line [] .none, rt := post__law_line [] } := fun L s4 dd tt h =>
    st_ret (ev_tup (ea_cons (ev_cb (ea_cons (ev_var rfl (ea_nil (co_tupL (ea_cons (ev_cb (ea_cons (ev_var rfl (ea_nil (co_tupL (ea_nil ⟨by simp, dd, tt, rfl, h⟩))))))))))))))
  refine st_seq (st_if (et_test (ev_op (ev_callW rfl (ea_cons (ev_int (ea_nil ⟨⟨4, rfl, by decide, by decide⟩, fun d ⟨m, z, em, ed, z0, z1⟩ => ?_⟩)))))))
  subst ed
  refine ev_int (rok_eqI ⟨_, rfl, fun _ => ?_, fun _ => st_next (fin _ _ dd tt (mk dd tt ld lt ad hs hi))⟩)
  refine st_seq (st_asg (ev_new (en_lcR (wipe1 4) (ea_cons (ev_var rfl (ea_nil ⟨_, rfl, by omega, by omega, fun i acc => acc = (List.range i).map fun j => frD (dd.getD (min j (c - 1 - j)) (0, 1)), ⟨rfl, fun i D d' acc hi2 hJ hin => ?_⟩, fun acc hJ => ?_⟩))))))
  · subst hi2
    refine et_yes ⟨fun _ => ?_, fun z => nomatch z⟩
    refine ev_op (ev_var rfl (ev_cb (ea_cons (ev_var rfl (ea_cons (ev_op (ev_op (ev_var rfl (ev_int (rok_i0 (ev_var rfl (rok_i0 (ea_nil (co_min ?_))))))))))))))
    have em : (if (c : Int) - 1 - (i : Int) < (i : Int) then (c : Int) - 1 - (i : Int) else (i : Int)) = ((min i (c - 1 - i) : Nat) : Int) := by
      rw [Int.toNat_natCast] at hin
      split <;> omega
    rw [em]
    refine rok_ixsL (d := frD (dd.getD (min i (c - 1 - i)) (0, 1))) ?_ ?_
    · rw [Int.toNat_natCast] at hin
      rw [atI_n, List.getElem?_map, List.getD_eq_getElem?_getD, List.getElem?_eq_getElem (by omega)]
      rfl
    · show _ = (List.range (i + 1)).map _
      rw [hJ, List.range_succ, List.map_append]
      rfl
  rw [Int.toNat_natCast] at hJ
  refine st_asg (ev_new (en_lcR (wipe1 4) (ea_cons (ev_op (ev_var rfl (ev_int (ro_add (ea_nil ⟨_, rfl, by omega, by omega, fun i acc => acc = (List.range i).map fun j => frD (tt.getD (min j (c - j)) (0, 1)), ⟨rfl, fun i D d' acc2 hi2 hJ2 hin => ?_⟩, fun acc2 hJ2 => ?_⟩))))))))
  · subst hi2
    refine et_yes ⟨fun _ => ?_, fun z => nomatch z⟩
    refine ev_op (ev_var rfl (ev_cb (ea_cons (ev_var rfl (ea_cons (ev_op (ev_var rfl (ev_var rfl (rok_i0 (ea_nil (co_min ?_)))))))))))
    rw [show ((c : Int) + 1).toNat = c + 1 by omega] at hin
    have em : (if (c : Int) - (i : Int) < (i : Int) then (c : Int) - (i : Int) else (i : Int)) = ((min i (c - i) : Nat) : Int) := by
      split <;> omega
    rw [em]
    refine rok_ixsL (d := frD (tt.getD (min i (c - i)) (0, 1))) ?_ ?_
    · rw [atI_n, List.getElem?_map, List.getD_eq_getElem?_getD, List.getElem?_eq_getElem (by omega)]
      rfl
    · show _ = (List.range (i + 1)).map _
      rw [hJ2, List.range_succ, List.map_append]
      rfl
  rw [show ((c : Int) + 1).toNat = c + 1 by omega] at hJ2
  have e1 : acc = ((List.range c).map fun j => dd.getD (min j (c - 1 - j)) (0, 1)).map frD := by
    rw [hJ, List.map_map]
    rfl
  have e2 : acc2 = ((List.range (c + 1)).map fun j => tt.getD (min j (c - j)) (0, 1)).map frD := by
    rw [hJ2, List.map_map]
    rfl
  rw [e1, e2]
  have gd : ∀ j, j < c → dd[j]? = some (dd.getD j (0, 1)) := fun j hj => by
    rw [List.getD_eq_getElem?_getD, List.getElem?_eq_getElem (by omega)]
    rfl
  have gt : ∀ j, j ≤ c → tt[j]? = some (tt.getD j (0, 1)) := fun j hj => by
    rw [List.getD_eq_getElem?_getD, List.getElem?_eq_getElem (by omega)]
    rfl
  refine fin _ _ _ _ (mk _ _ (by simp) (by simp) (fun z hz => ?_) (fun z hz => ?_) fun i z h0 h1 hz => ?_)
  · obtain ⟨j, hj, rfl⟩ := List.mem_map.mp hz
    have := List.mem_range.mp hj
    exact ad _ (List.mem_of_getElem? (gd (min j (c - 1 - j)) (by omega)))
  · obtain ⟨j, hj, rfl⟩ := List.mem_map.mp hz
    have := List.mem_range.mp hj
    exact hs _ (List.mem_of_getElem? (gt (min j (c - j)) (by omega)))
  · rw [List.getElem?_map, List.getElem?_range (by omega)] at hz
    cases hz
    exact hi (min i (c - i)) _ (by omega) (by omega) (gt _ (by omega))
theorem ok__law_line (T : Tx K mg) : FnOk P w K mg base CX0 5 T.a__law_line T.d__law_line p__law_line (sp__law_line K) := by
  refine T.F__law_line.ok sc__law_line (fun vs H Q E h => len__law_line K vs H Q E h) (fun cdv A outer s H vs Q E hr h => ?_)
  exact ⟨t__law_line K, (pss_cons (ps_set (i := 1) sc__law_line.nd rfl (Or.inr rfl) (pe_call (ok__law_any T) (hr.mono (by decide)) rfl T.g__law_any T.F__law_any.kp (b__law_any T) .nil pass0 (pa_cons (pv 0) (pa_cons (pe_lst (pa_cons pe_int (pa_cons pe_int (pa_cons pe_int (pa_cons pe_int (pa_cons pe_int (pa_cons pe_int (pa_cons pe_int (pa_cons pe_int (pa_cons pe_int (pa_cons pe_int (pa_cons pe_int pa_nil)))))))))))) pa_nil))))
  (pss_cons (ps_asg (pe_tup (pa_cons (pe_lc (own := [("_law_at", 4)]) (by rfl) sc__law_line.nd (pi_range1 (by rfl) T.n_range (pa_cons (pv 1) pa_nil)) (blkOk_by (own := [("_law_at", 4)]) (N := N__law_line) (sc := defScope s__law_line) (by decide +kernel)) (fun _ _ _ _ _ => pg_name (i := 4) sc__law_line.nd rfl (Or.inl rfl)) (fun _ _ _ _ _ => pts_nil) (fun _ _ _ _ _ => (pe_call (ok__law_amount T) (hr.mono (by decide)) rfl T.g__law_amount T.F__law_amount.kp (b__law_amount T) .nil pass0 (pa_cons (pv 0) pa_nil)))) (pa_cons (pe_lc (own := [("_law_at", 4)]) (by rfl) sc__law_line.nd (pi_range1 (by rfl) T.n_range (pa_cons (pe_op op_addA (pv 1) pe_int) pa_nil)) (blkOk_by (own := [("_law_at", 4)]) (N := N__law_line) (sc := defScope s__law_line) (by decide +kernel)) (fun _ _ _ _ _ => pg_name (i := 4) sc__law_line.nd rfl (Or.inl rfl)) (fun _ _ _ _ _ => pts_nil) (fun _ _ _ _ _ => (pe_call (ok__law_amount T) (hr.mono (by decide)) rfl T.g__law_amount T.F__law_amount.kp (b__law_amount T) .nil pass0 (pa_cons (pv 0) pa_nil)))) pa_nil))) (pg_tup (by rfl) (pgs_cons (pg_name (i := 2) sc__law_line.nd rfl (Or.inr rfl)) (pgs_cons (pg_name (i := 3) sc__law_line.nd rfl (Or.inr rfl)) pgs_nil))))
  (pss_cons (ps_asg (pe_tup (pa_cons (pe_call (ok__law_end T) (hr.mono (by decide)) rfl T.g__law_end T.F__law_end.kp (b__law_end T) .nil pass0 (pa_cons (pv 0) pa_nil)) (pa_cons (pe_call (ok__law_end T) (hr.mono (by decide)) rfl T.g__law_end T.F__law_end.kp (b__law_end T) .nil pass0 (pa_cons (pv 0) pa_nil)) pa_nil))) (pg_tup (by rfl) (pgs_cons (pg_sub (pv 3) pe_int set_list) (pgs_cons (pg_sub (pv 3) (pv 1) set_list) pgs_nil))))
  (pss_cons (ps_if (pt_cmpR op_eq (pe_call (ok__law_wind T) (hr.mono (by decide)) rfl T.g__law_wind T.F__law_wind.kp (b__law_wind T) .nil pass0 (pa_cons (pv 0) (pa_cons pe_int pa_nil))) pe_int (nomark _)) (pss_cons (ps_set (i := 2) sc__law_line.nd rfl (Or.inr rfl) (pe_lc (own := [("_law_at", 4)]) (by rfl) sc__law_line.nd (pi_range1 (by rfl) T.n_range (pa_cons (pv 1) pa_nil)) (blkOk_by (own := [("_law_at", 4)]) (N := N__law_line) (sc := defScope s__law_line) (by decide +kernel)) (fun _ _ _ _ _ => pg_name (i := 4) sc__law_line.nd rfl (Or.inl rfl)) (fun _ _ _ _ _ => pts_nil) (fun _ _ _ _ _ => (pe_ix ix_seq (pv 2) (pe_callB (call_min2 rfl) (by rfl) T.n_min (by decide +kernel) (pa_cons (pv 4) (pa_cons (pe_op op_sub (pe_op op_sub (pv 1) pe_int) (pv 4)) pa_nil))) (fun _ _ => rfl)))))
  (pss_one (ps_set (i := 3) sc__law_line.nd rfl (Or.inr rfl) (pe_lc (own := [("_law_at", 4)]) (by rfl) sc__law_line.nd (pi_range1 (by rfl) T.n_range (pa_cons (pe_op op_addA (pv 1) pe_int) pa_nil)) (blkOk_by (own := [("_law_at", 4)]) (N := N__law_line) (sc := defScope s__law_line) (by decide +kernel)) (fun _ _ _ _ _ => pg_name (i := 4) sc__law_line.nd rfl (Or.inl rfl)) (fun _ _ _ _ _ => pts_nil) (fun _ _ _ _ _ => (pe_ix ix_seq (pv 3) (pe_callB (call_min2 rfl) (by rfl) T.n_min (by decide +kernel) (pa_cons (pv 4) (pa_cons (pe_op op_sub (pv 1) (pv 4)) pa_nil))) (fun _ _ => rfl))))))) pss_nil)
  (pss_one (ps_ret (pe_tup (pa_cons (pe_callTy call_tuple_of (by rfl) T.n_tuple (by decide +kernel) (pa_cons (pv 2) pa_nil)) (pa_cons (pe_callTy call_tuple_of (by rfl) T.n_tuple (by decide +kernel) (pa_cons (pv 3) pa_nil)) pa_nil))))))))), pure__law_line K vs H Q E h⟩
/-! ### _law_pace -/

noncomputable def pre__law_pace : List PyData → Prop := fun ds => True ∧ ds = []
noncomputable def post__law_pace : List PyData → PyData → Prop := fun ds d => ∃ x : Fr, d = frD x ∧ Am0 x
noncomputable abbrev sp__law_pace (K : PySem.W.Frag) : Sp := SpW K pre__law_pace post__law_pace
theorem len__law_pace (K : PySem.W.Frag) (vs : List V) (H : Hp) (Q : VK) (E : XK) (h : sp__law_pace K vs H Q E) : vs.length = p__law_pace.length := len_W (n := 0) h fun ds hp => by
  obtain ⟨_, e⟩ := hp
  rw [e]; rfl
noncomputable def t__law_pace (K : PySem.W.Frag) : TS :=
  (tSeq (tAsg (tCall (sp__law_wind K) [] E0 (tCons (tVar 0) (tCons (tC (.int 6)) tNil))) (gName 1))
  (tSeq (tIfS (tTest (tOp rEq (tVar 1) (tC (.int 0)))) (tRet (tTup (tCons (tC (.int 0)) (tCons (tC (.int 1)) tNil)))) tNext)
  (tSeq (tIfS (tTest (tOp (rI0 fun i j => .bl (decide (i < j))) (tVar 1) (tC (.int 4)))) (tRet (tCall (sp__law_frac K) [] E0 (tCons (tCall (sp__law_wind K) [] E0 (tCons (tVar 0) (tCons (tC (.int 40)) tNil))) (tCons (tC (.int 4)) tNil)))) tNext)
  (tRet (tCall (sp__law_frac K) [] E0 (tCons (tOp (rAddA K) (tC (.int 1)) (tCall (sp__law_wind K) [] E0 (tCons (tVar 0) (tCons (tC (.int 60)) tNil)))) (tCons (tOp (rAddA K) (tC (.int 1)) (tCall (sp__law_wind K) [] E0 (tCons (tVar 0) (tCons (tC (.int 30)) tNil)))) tNil)))))))
theorem pure__law_pace (K : PySem.W.Frag) (vs : List V) (H : Hp) (Q : VK) (E : XK) (h : sp__law_pace K vs H Q E) : t__law_pace K { nx := fun _ H' => Q .non H', rt := Q } (L2.start N__law_pace vs) H := body_W h (by decide) fun B w ds hp => by
  obtain ⟨_, e⟩ := hp
  subst e
  unfold t__law_pace
  have fin : ∀ (n m : Int) (d : PyData), 0 ≤ n → n < 64 → 0 < m → m < 64 → post__law_frac [.int n, .int m] d → ∃ x : Fr, d = frD x ∧ Am0 x := fun n m d n0 n1 m0 m1 ⟨n', m', en, x, ed, f, v, l1, l2⟩ => by
    simp only [List.cons.injEq, PyData.int.injEq, and_true] at en
    obtain ⟨rfl, rfl⟩ := en
    have q0 : (0 : Rat) ≤ val x := by
      rw [v, Rat.div_def]
      have h1 := Rat.inv_pos.mpr (ratInt_pos m0)
      have h2 : (0 : Rat) ≤ (n : Rat) := Rat.intCast_nonneg.mpr n0
      exact Rat.mul_nonneg h2 (Rat.le_of_lt h1)
    have x0 := (val_pos f.1).2.1.mp q0
    have x2 := f.1
    exact ⟨x, ed, f, x0, by omega, by omega⟩
  refine st_seq (st_asg (ev_callW rfl (ea_cons (ev_int (ea_nil ⟨⟨_, rfl, by decide, by decide⟩, fun d ⟨m, way, em, ed, _, _⟩ => ?_⟩)))))
  subst ed
  refine st_seq (st_if ?_)
  walk_at "dd"
  refine ⟨fun hb => ?_, fun hb => st_next (st_seq (st_if ?_))⟩
  · exact st_ret (ev_tup (ea_cons (ev_int (ea_cons (ev_int (ea_nil ⟨by simp, (0, 1), rfl, am00⟩))))))
  · walk_at "dd"
    refine ⟨fun hb2 => ?_, fun hb2 => st_next ?_⟩
    · refine st_ret (ev_callP (ea_cons (ev_callW rfl (ea_cons (ev_int (ea_nil ⟨⟨_, rfl, by decide, by decide⟩, fun d ⟨m, n, em, ed, n0, n1⟩ => ?_⟩))))))
      simp only [List.cons.injEq, PyData.int.injEq, and_true] at em
      subst em
      subst ed
      exact ea_cons (ev_int (ea_nil ⟨⟨_, _, rfl, by decide, by decide +kernel⟩, fun d hd => fin n 4 d n0 (by omega) (by decide) (by decide) hd⟩))
    · refine st_ret (ev_callP (ea_cons (ev_op (ev_int (ev_callW rfl (ea_cons (ev_int (ea_nil ⟨⟨_, rfl, by decide, by decide⟩, fun d ⟨m, n, em, ed, n0, n1⟩ => ?_⟩))))))))
      simp only [List.cons.injEq, PyData.int.injEq, and_true] at em
      subst em
      subst ed
      refine ro_add (ea_cons (ev_op (ev_int (ev_callW rfl (ea_cons (ev_int (ea_nil ⟨⟨_, rfl, by decide, by decide⟩, fun d ⟨m, k, em, ed, k0, k1⟩ => ?_⟩)))))))
      simp only [List.cons.injEq, PyData.int.injEq, and_true] at em
      subst em
      subst ed
      exact ro_add (ea_nil ⟨⟨_, _, rfl, by omega, pow_up (m := 6) (by omega) (by decide)⟩, fun d hd => fin _ _ d (by omega) (by omega) (by omega) (by omega) hd⟩)
theorem ok__law_pace (T : Tx K mg) : FnOk P w K mg base CX0 3 T.a__law_pace T.d__law_pace p__law_pace (sp__law_pace K) := by
  refine T.F__law_pace.ok sc__law_pace (fun vs H Q E h => len__law_pace K vs H Q E h) (fun cdv A outer s H vs Q E hr h => ?_)
  exact ⟨t__law_pace K, (pss_cons (ps_set (i := 1) sc__law_pace.nd rfl (Or.inl rfl) (pe_call (ok__law_wind T) (hr.mono (by decide)) rfl T.g__law_wind T.F__law_wind.kp (b__law_wind T) .nil pass0 (pa_cons (pv 0) (pa_cons pe_int pa_nil))))
  (pss_cons (ps_if (pt_cmpR op_eq (pv 1) pe_int (nomark _)) (pss_one (ps_ret (pe_tup (pa_cons pe_int (pa_cons pe_int pa_nil))))) pss_nil)
  (pss_cons (ps_if (pt_cmpR op_lt (pv 1) pe_int (nomark _)) (pss_one (ps_ret (pe_call (ok__law_frac T) (hr.mono (by decide)) rfl T.g__law_frac T.F__law_frac.kp (b__law_frac T) .nil pass0 (pa_cons (pe_call (ok__law_wind T) (hr.mono (by decide)) rfl T.g__law_wind T.F__law_wind.kp (b__law_wind T) .nil pass0 (pa_cons (pv 0) (pa_cons pe_int pa_nil))) (pa_cons pe_int pa_nil))))) pss_nil)
  (pss_one (ps_ret (pe_call (ok__law_frac T) (hr.mono (by decide)) rfl T.g__law_frac T.F__law_frac.kp (b__law_frac T) .nil pass0 (pa_cons (pe_op op_addA pe_int (pe_call (ok__law_wind T) (hr.mono (by decide)) rfl T.g__law_wind T.F__law_wind.kp (b__law_wind T) .nil pass0 (pa_cons (pv 0) (pa_cons pe_int pa_nil)))) (pa_cons (pe_op op_addA pe_int (pe_call (ok__law_wind T) (hr.mono (by decide)) rfl T.g__law_wind T.F__law_wind.kp (b__law_wind T) .nil pass0 (pa_cons (pv 0) (pa_cons pe_int pa_nil)))) pa_nil)))))))), pure__law_pace K vs H Q E h⟩
/-! ### _law_laps -/
noncomputable def sp__law_laps (K : PySem.W.Frag) : Sp := fun vs H Q _ => ∃ (a : Addr) (ns : List Int) (m : Nat), vs = [.ref a, .int (m : Int)] ∧ SqL K H a (ns.map V.int) ∧ ns.length ≤ 63 ∧ 1 ≤ m ∧ m ≤ 100 ∧ ∀ p H' (k : Nat), Same H H' → H p = none → 1 ≤ k → k ≤ 100 → H' p = some (.lst (((List.range k).map fun i : Nat => (i : Int)).map V.int)) → Q (.ref p) H'
theorem len__law_laps (K : PySem.W.Frag) (vs : List V) (H : Hp) (Q : VK) (E : XK) (h : sp__law_laps K vs H Q E) : vs.length = p__law_laps.length := by
  obtain ⟨a, ns, n, rfl, _⟩ := h
  rfl
noncomputable def t__law_laps (K : PySem.W.Frag) : TS :=
  (tRet (tLstRg (tRg1 (tCB rMax2Q (tCons (tC (.int 1)) (tCons (tCB rMin2Q (tCons (tCB (rLenQ K) (tCons (tVar 0) tNil)) (tCons (tVar 1) tNil))) tNil))))))
theorem pure__law_laps (K : PySem.W.Frag) (vs : List V) (H : Hp) (Q : VK) (E : XK) (h : sp__law_laps K vs H Q E) : t__law_laps K { nx := fun _ H' => Q .non H', rt := Q } (L2.start N__law_laps vs) H := by
  obtain ⟨a, ns, m, rfl, hS, hlen, m1, m2, q⟩ := h
  unfold t__law_laps
  refine ⟨_, rfl, a, _, rfl, .inl hS, _, rfl, _, _, rfl, _, _, rfl, _, rfl, ?_, fun p hp => ?_⟩
  · refine RgOk.of_le (by omega) ?_ (by omega) ?_
    · rw [List.length_map]
      split <;> (split <;> omega)
    · split <;> (split <;> omega)
  · generalize hk : (if (if (m : Int) < (((ns.map V.int).length : Nat) : Int) then (m : Int) else (((ns.map V.int).length : Nat) : Int)) > 1 then (if (m : Int) < (((ns.map V.int).length : Nat) : Int) then (m : Int) else (((ns.map V.int).length : Nat) : Int)) else (1 : Int)) = kk
    have b1 : 1 ≤ kk ∧ kk ≤ 100 := by
      rw [← hk, List.length_map]
      split <;> (split <;> omega)
    obtain ⟨k, rfl⟩ : ∃ k : Nat, kk = (k : Int) := ⟨kk.toNat, by omega⟩
    have e : rgV 0 (k : Int) = ((List.range k).map fun i : Nat => (i : Int)).map V.int := by
      unfold rgV
      rw [show ((k : Int) - 0).toNat = k by omega, List.map_map]
      apply List.map_congr_left
      intro i _
      show V.int (0 + (i : Int)) = V.int (i : Int)
      rw [Int.zero_add]
    rw [e]
    exact q p _ k (same_upd hp) hp (by omega) (by omega) upd_same
theorem ok__law_laps (T : Tx K mg) : FnOk P w K mg base CX0 1 T.a__law_laps T.d__law_laps p__law_laps (sp__law_laps K) := by
  refine T.F__law_laps.ok sc__law_laps (fun vs H Q E h => len__law_laps K vs H Q E h) (fun cdv A outer s H vs Q E hr h => ?_)
  exact ⟨t__law_laps K, (pss_one (ps_ret (pe_listRg rfl (by rfl) T.n_list (prg_1 (by rfl) T.n_range (pe_callB (call_max2 rfl) (by rfl) T.n_max (by decide +kernel) (pa_cons pe_int (pa_cons (pe_callB (call_min2 rfl) (by rfl) T.n_min (by decide +kernel) (pa_cons (pe_callB call_len_seq (by rfl) T.n_len (by decide +kernel) (pa_cons (pv 0) pa_nil)) (pa_cons (pv 1) pa_nil))) pa_nil))))))), pure__law_laps K vs H Q E h⟩
/-! ### _law_twists -/

noncomputable def pre__law_twists : List PyData → Prop := fun ds => ∃ (dd ss : List Fr) (us : List Int), ds = [lineD dd ss, tupI us] ∧ us.length ≤ 8
noncomputable def post__law_twists : List PyData → PyData → Prop := fun ds d => ∃ (dd ss : List Fr) (us : List Int), ds = [lineD dd ss, tupI us] ∧ d = .list ((twl us (us.length + 1)).map .int)
noncomputable abbrev sp__law_twists (K : PySem.W.Frag) : Sp := SpP K pre__law_twists post__law_twists
theorem len__law_twists (K : PySem.W.Frag) (vs : List V) (H : Hp) (Q : VK) (E : XK) (h : sp__law_twists K vs H Q E) : vs.length = p__law_twists.length := len_P (n := 2) h fun ds hp => by
  obtain ⟨dd, ss, us, e, h8⟩ := hp
  rw [e]; rfl
noncomputable def t__law_twists (K : PySem.W.Frag) : TS :=
  (tSeq (tAsg (tOp (rAddA K) (tOp (rAddA K) (tTup (tCons (tC (.int 0)) tNil)) (tCB (rTupleQ K) (tCons (tVar 1) tNil))) (tTup (tCons (tC (.int 0)) tNil))) (gName 2))
  (tRet (tLc (iRng1 (tCons (tOp (rI0 fun i j => .int (i - j)) (tCB (rLenQ K) (tCons (tVar 2) tNil)) (tC (.int 1))) tNil)) (gName 3) tYes (tOp (rI0 fun i j => .int (i - j)) (tOp (rIx K) (tVar 2) (tOp (rAddA K) (tVar 3) (tC (.int 1)))) (tOp (rIx K) (tVar 2) (tVar 3))) [3])))
theorem pure__law_twists (K : PySem.W.Frag) (vs : List V) (H : Hp) (Q : VK) (E : XK) (h : sp__law_twists K vs H Q E) : t__law_twists K { nx := fun _ H' => Q .non H', rt := Q } (L2.start N__law_twists vs) H := body_P h fun B ds hW hp => by
  obtain ⟨dd, ss, us, e, h8⟩ := hp
  subst e
  unfold t__law_twists
  refine st_seq (st_asg (ev_op (ev_op (ev_tup (ea_cons (ev_int (ea_nil ⟨by simp, ev_cb (ea_cons (ev_var rfl (ea_nil (co_tupT ?_))))⟩)))))))
  refine ro_catT (by simp; omega) (ev_tup (ea_cons (ev_int (ea_nil ⟨by simp, ?_⟩))))
  refine ro_catT (by simp; omega) ?_
  rw [show [PyData.int 0] ++ us.map PyData.int ++ [PyData.int 0] = ((0 :: us) ++ [0]).map PyData.int by simp]
  have hlen : (((0 :: us) ++ [0]).map PyData.int).length = us.length + 2 := by simp
  refine st_ret (ev_new (en_lcR (wipe1 3) (ea_cons (ev_op (ev_cb (ea_cons (ev_var rfl (ea_nil (co_lenT (ev_int (rok_i0 (ea_nil ⟨_, rfl, by simp; omega, by simp; omega, fun i acc => acc = (twl us i).map .int, ⟨rfl, fun i D d' acc hd hJ hin => ?_⟩, fun acc hJ => ?_⟩))))))))))))
  · have hi : i < us.length + 1 := by
      rw [hlen] at hin
      omega
    subst hJ
    subst hd
    refine et_yes ⟨fun _ => ?_, fun z => nomatch z⟩
    refine ev_op (ev_op (ev_var rfl (ev_op (ev_var rfl (ev_int (ro_add (rok_ixsT (d := .int ((0 :: us).getD (i + 1) 0)) ?_ (ev_op (ev_var rfl (ev_var rfl (rok_ixsT (d := .int ((0 :: us).getD i 0)) ?_ (rok_i0 ?_))))))))))))
    · rw [show (i : Int) + 1 = ((i + 1 : Nat) : Int) by omega, atI_n, List.getElem?_map, whole_at us (by omega)]
      rfl
    · rw [atI_n, List.getElem?_map, whole_at us (by omega)]
      rfl
    · show _ = _
      rw [twl_succ, List.map_append]
      rfl
  · refine ⟨dd, ss, us, rfl, ?_⟩
    rw [hJ, hlen, show (((us.length + 2 : Nat) : Int) - 1).toNat = us.length + 1 by omega]
theorem ok__law_twists (T : Tx K mg) : FnOk P w K mg base CX0 1 T.a__law_twists T.d__law_twists p__law_twists (sp__law_twists K) := by
  refine T.F__law_twists.ok sc__law_twists (fun vs H Q E h => len__law_twists K vs H Q E h) (fun cdv A outer s H vs Q E hr h => ?_)
  exact ⟨t__law_twists K, (pss_cons (ps_set (i := 2) sc__law_twists.nd rfl (Or.inr rfl) (pe_op op_addA (pe_op op_addA (pe_tup (pa_cons pe_int pa_nil)) (pe_callTy call_tuple_of (by rfl) T.n_tuple (by decide +kernel) (pa_cons (pv 1) pa_nil))) (pe_tup (pa_cons pe_int pa_nil))))
  (pss_one (ps_ret (pe_lc (own := [("_law_at", 3)]) (by rfl) sc__law_twists.nd (pi_range1 (by rfl) T.n_range (pa_cons (pe_op op_sub (pe_callB call_len_seq (by rfl) T.n_len (by decide +kernel) (pa_cons (pv 2) pa_nil)) pe_int) pa_nil)) (blkOk_by (own := [("_law_at", 3)]) (N := N__law_twists) (sc := defScope s__law_twists) (by decide +kernel)) (fun _ _ _ _ _ => pg_name (i := 3) sc__law_twists.nd rfl (Or.inl rfl)) (fun _ _ _ _ _ => pts_nil) (fun _ _ _ _ _ => (pe_op op_sub (pe_ix ix_seq (pv 2) (pe_op op_addA (pv 3) pe_int) (fun _ _ => rfl)) (pe_ix ix_seq (pv 2) (pv 3) (fun _ _ => rfl)))))))), pure__law_twists K vs H Q E h⟩
/-! ### _law_product -/

noncomputable def pre__law_product : List PyData → Prop := fun ds => ∃ (dd ss : List Fr) (p : Fr) (us vs : List Int), ds = [lineD dd ss, frD p, tupI us, tupI vs] ∧ LineS dd ss ∧ Am0 p ∧ Trn us dd.length 40 ∧ Trn vs dd.length 40
noncomputable def post__law_product : List PyData → PyData → Prop := fun ds d => ∃ (dd ss : List Fr) (p : Fr) (us vs : List Int), ds = [lineD dd ss, frD p, tupI us, tupI vs] ∧ ∃ r : Fr, d = frD r ∧ FOk r ∧ val r = prd dd ss (val p) us vs
noncomputable abbrev sp__law_product (K : PySem.W.Frag) : Sp := SpP K pre__law_product post__law_product
theorem len__law_product (K : PySem.W.Frag) (vs : List V) (H : Hp) (Q : VK) (E : XK) (h : sp__law_product K vs H Q E) : vs.length = p__law_product.length := len_P (n := 4) h fun ds hp => by
  obtain ⟨dd, ss, p, us, vs, e, hL, ap, T, U⟩ := hp
  rw [e]; rfl
noncomputable def t__law_product (K : PySem.W.Frag) : TS :=
  (tSeq (tPar3 4 5 6 (tCons (tCall (sp__law_twists K) [] E0 (tCons (tVar 0) (tCons (tVar 2) tNil))) (tCons (tCall (sp__law_twists K) [] E0 (tCons (tVar 0) (tCons (tVar 3) tNil))) (tCons (tTup (tCons (tC (.int 0)) (tCons (tC (.int 1)) tNil))) tNil))))
  (tSeq (tFor (iRng1 (tCons (tCB (rLenQ K) (tCons (tVar 4) tNil)) tNil)) (gName 7) (tAsg (tCall (sp__law_sum K) [] E0 (tCons (tVar 6) (tCons (tCall (sp__law_prod K) [] E0 (tCons (tOp (rIx K) (tOp (rIx K) (tVar 0) (tC (.int 1))) (tVar 7)) (tCons (tTup (tCons (tOp (rMulA K) (tOp (rIx K) (tVar 4) (tVar 7)) (tOp (rIx K) (tVar 5) (tVar 7))) (tCons (tC (.int 1)) tNil))) tNil))) tNil))) (gName 6)))
  (tSeq (tFor (iRng1 (tCons (tCB (rLenQ K) (tCons (tVar 2) tNil)) tNil)) (gName 7) (tAsg (tCall (sp__law_gap K) [] E0 (tCons (tVar 6) (tCons (tCall (sp__law_prod K) [] E0 (tCons (tVar 1) (tCons (tCall (sp__law_prod K) [] E0 (tCons (tOp (rIx K) (tOp (rIx K) (tVar 0) (tC (.int 0))) (tVar 7)) (tCons (tTup (tCons (tOp (rMulA K) (tOp (rIx K) (tVar 2) (tVar 7)) (tOp (rIx K) (tVar 3) (tVar 7))) (tCons (tC (.int 1)) tNil))) tNil))) tNil))) tNil))) (gName 6)))
  (tRet (tVar 6)))))
theorem pure__law_product (K : PySem.W.Frag) (vs : List V) (H : Hp) (Q : VK) (E : XK) (h : sp__law_product K vs H Q E) : t__law_product K { nx := fun _ H' => Q .non H', rt := Q } (L2.start N__law_product vs) H := body_P h fun B ds hW hp => by
  obtain ⟨dd, ss, p, us, vs, e, hL, ap, T, U⟩ := hp
  subst e
  unfold t__law_product
  obtain ⟨h, sd, sq, c5⟩ := hL
  have n1 := h.c1
  have hl := h.len
  have lu := T.len
  have lv := U.len
  have gp := am0_gs ap
  refine st_seq (st_par3 (ea_cons (ev_callP (ea_cons (ev_var rfl (ea_cons (ev_var rfl (ea_nil ⟨⟨dd, ss, us, rfl, by omega⟩, fun d ⟨dd', ss', us', el, ed⟩ => ?_⟩))))))))
  obtain ⟨rfl, rfl, rfl⟩ := lineI_inj el
  subst ed
  refine ea_cons (ev_callP (ea_cons (ev_var rfl (ea_cons (ev_var rfl (ea_nil ⟨⟨dd, ss, vs, rfl, by omega⟩, fun d ⟨dd', ss', us', el, ed⟩ => ?_⟩))))))
  obtain ⟨rfl, rfl, rfl⟩ := lineI_inj el
  subst ed
  refine ea_cons (ev_tup (ea_cons (ev_int (ea_cons (ev_int (ea_nil ⟨by simp, ea_nil ⟨_, _, _, rfl, ?_⟩⟩))))))
  rw [lu, lv]
  refine st_seq (st_forR (ea_cons (ev_cb (ea_cons (ev_var rfl (ea_nil (co_lenL (ea_nil ⟨_, rfl, by simp [twl_len]; omega, by simp [twl_len]; omega, fun i L2 Γ2 => ∃ (o : Fr) (s7 : Sl), L2 = [] ∧ Γ2 = [.d (lineD dd ss), .d (frD p), .d (tupI us), .d (tupI vs), .d (.list ((twl us (dd.length + 1)).map .int)), .d (.list ((twl vs (dd.length + 1)).map .int)), .d (frD o), s7] ∧ FOk o ∧ val o = tf (jv ss) (wv us) (wv vs) i, ⟨(0, 1), _, rfl, rfl, fok_zero, val_zero⟩, ?_, ?_⟩))))))))
  · rintro i L2 Γ2 hi ⟨o, s7, rfl, rfl, fo, vo⟩
    have hi : i < dd.length + 1 := by
      rw [List.length_map, twl_len] at hi
      omega
    obtain ⟨C, hC, eC, ca, cb, cc, cd, cq⟩ := h.s_get (i := i) (by omega)
    have gC := gs_j hC sq ca cb
    have vC : jv ss i = val C := by unfold jv; rw [eC]
    rw [vC] at gC
    have t1 := T.getW (i + 1)
    have t2 := T.getW i
    have u1 := U.getW (i + 1)
    have u2 := U.getW i
    have at1 : atI ((twl us (dd.length + 1)).map PyData.int) (i : Int) = some (.int ((0 :: us).getD (i + 1) 0 - (0 :: us).getD i 0)) := by
      rw [atI_n, List.getElem?_map, twl_get hi]
      rfl
    have at2 : atI ((twl vs (dd.length + 1)).map PyData.int) (i : Int) = some (.int ((0 :: vs).getD (i + 1) 0 - (0 :: vs).getD i 0)) := by
      rw [atI_n, List.getElem?_map, twl_get hi]
      rfl
    have vt : ∀ us : List Int, wv us (i + 1) - wv us i = (((0 :: us).getD (i + 1) 0 - (0 :: us).getD i 0 : Int) : Rat) := fun us => by
      rw [Rat.intCast_sub]
      rfl
    have vt1 := vt us
    have vt2 := vt vs
    have bt : -80 ≤ (0 :: us).getD (i + 1) 0 - (0 :: us).getD i 0 ∧ (0 :: us).getD (i + 1) 0 - (0 :: us).getD i 0 ≤ 80 := by omega
    have bu : -80 ≤ (0 :: vs).getD (i + 1) 0 - (0 :: vs).getD i 0 ∧ (0 :: vs).getD (i + 1) 0 - (0 :: vs).getD i 0 ≤ 80 := by omega
    generalize (0 :: us).getD (i + 1) 0 - (0 :: us).getD i 0 = t at at1 vt1 bt
    generalize (0 :: vs).getD (i + 1) 0 - (0 :: vs).getD i 0 = u at at2 vt2 bu
    refine st_asg (ev_callP (ea_cons (ev_var rfl (ea_cons (ev_callP (ea_cons (ev_op (ev_op (ev_var rfl (ev_int (rok_ixsT (d := .tuple (ss.map frD)) rfl (ev_var rfl (rok_ixsT (d := frD C) ?_ ?_)))))))))))))
    · rw [atI_n, List.getElem?_map, hC]
      rfl
    refine ea_cons (ev_tup (ea_cons (ev_op (ev_op (ev_var rfl (ev_var rfl (rok_ixsL (d := .int t) at1 (ev_op (ev_var rfl (ev_var rfl (rok_ixsL (d := .int u) at2 (ro_mulL (by omega) (by omega) (ea_cons (ev_int (ea_nil ⟨by simp, ?_⟩)))))))))))))))
    have p13 := pr_small bt bu
    refine ea_nil ⟨⟨C, (t * u, 1), rfl, gC.sm ca (by decide), ⟨by show (0 : Int) < 1; decide, pow_up p13 (by decide), by show (1 : Int).natAbs < 2 ^ 4000; decide +kernel⟩⟩, fun d ⟨x', y', r1, e1, ed, f1, v1⟩ => ?_⟩
    obtain ⟨rfl, rfl⟩ := frD2_inj (y := (t * u, 1)) e1
    subst ed
    have go : GS (1 + 20 * i) (val o) := by rw [vo]; exact tf_size h sq T U i (by omega)
    have ev : val r1 = jv ss i * ((wv us (i + 1) - wv us i) * (wv vs (i + 1) - wv vs i)) := by
      rw [v1, val_int, vC, vt1, vt2, Rat.intCast_mul]
    have g1 : GS (6 + 13) (val r1) := by rw [ev, vC, vt1, vt2]; exact gC.mul (gs_pr bt bu)
    refine ea_nil ⟨⟨o, r1, rfl, go.sm fo (by omega), g1.sm f1 (by decide)⟩, fun d ⟨x', y', r2, e1, ed, f2, v2⟩ => ?_⟩
    obtain ⟨rfl, rfl⟩ := frD2_inj e1
    subst ed
    refine ⟨r2, .d (.int (i : Int)), rfl, rfl, f2, ?_⟩
    rw [v2, vo, ev]
    rfl
  · rintro L2 Γ2 ⟨o, s7, rfl, rfl, fo, vo⟩
    rw [List.length_map, twl_len, show ((dd.length + 1 : Nat) : Int).toNat = dd.length + 1 by omega] at vo
    have go : GS 200 (val o) := by rw [vo]; exact (tf_size h sq T U _ (Nat.le_refl _)).up (by omega)
    refine st_seq (st_forR (ea_cons (ev_cb (ea_cons (ev_var rfl (ea_nil (co_lenT (ea_nil ⟨_, rfl, by omega, by simp; omega, fun i L2 Γ2 => ∃ (u : Fr) (s7 : Sl), L2 = [] ∧ Γ2 = [.d (lineD dd ss), .d (frD p), .d (tupI us), .d (tupI vs), .d (.list ((twl us (dd.length + 1)).map .int)), .d (.list ((twl vs (dd.length + 1)).map .int)), .d (frD u), s7] ∧ FOk u ∧ val u = val o - val p * sf (jv dd) (uv us) (uv vs) i, ⟨o, _, rfl, rfl, fo, ?_⟩, ?_, ?_⟩))))))))
    · show val o = val o - val p * 0
      grind
    · rintro i L2 Γ2 hi ⟨u, s7, rfl, rfl, fu, vu⟩
      have hi : i < dd.length := by
        rw [List.length_map] at hi
        omega
      obtain ⟨J, hJ, eJ, ja, jb, _⟩ := h.d_get hi
      have gJ := gs_j hJ sd ja (by omega)
      have vJ : jv dd i = val J := by unfold jv; rw [eJ]
      rw [vJ] at gJ
      have b1 := T.get i
      have b2 := U.get i
      have at1 : atI (us.map PyData.int) (i : Int) = some (.int (us.getD i 0)) := by
        rw [atI_n, List.getElem?_map, List.getD_eq_getElem?_getD, List.getElem?_eq_getElem (by omega)]
        rfl
      have at2 : atI (vs.map PyData.int) (i : Int) = some (.int (vs.getD i 0)) := by
        rw [atI_n, List.getElem?_map, List.getD_eq_getElem?_getD, List.getElem?_eq_getElem (by omega)]
        rfl
      have vt1 : uv us i = ((us.getD i 0 : Int) : Rat) := rfl
      have vt2 : uv vs i = ((vs.getD i 0 : Int) : Rat) := rfl
      generalize us.getD i 0 = t at b1 at1 vt1
      generalize vs.getD i 0 = x at b2 at2 vt2
      have bt : -80 ≤ t ∧ t ≤ 80 := by omega
      have bx : -80 ≤ x ∧ x ≤ 80 := by omega
      refine st_asg (ev_callP (ea_cons (ev_var rfl (ea_cons (ev_callP (ea_cons (ev_var rfl (ea_cons (ev_callP (ea_cons (ev_op (ev_op (ev_var rfl (ev_int (rok_ixsT (d := .tuple (dd.map frD)) rfl (ev_var rfl (rok_ixsT (d := frD J) ?_ ?_)))))))))))))))))
      · rw [atI_n, List.getElem?_map, hJ]
        rfl
      refine ea_cons (ev_tup (ea_cons (ev_op (ev_op (ev_var rfl (ev_var rfl (rok_ixsT (d := .int t) at1 (ev_op (ev_var rfl (ev_var rfl (rok_ixsT (d := .int x) at2 (ro_mulL (by omega) (by omega) (ea_cons (ev_int (ea_nil ⟨by simp, ?_⟩)))))))))))))))
      have p13 := pr_small bt bx
      refine ea_nil ⟨⟨J, (t * x, 1), rfl, gJ.sm ja (by decide), ⟨by show (0 : Int) < 1; decide, pow_up p13 (by decide), by show (1 : Int).natAbs < 2 ^ 4000; decide +kernel⟩⟩, fun d ⟨x', y', r1, e1, ed, f1, v1⟩ => ?_⟩
      obtain ⟨rfl, rfl⟩ := frD2_inj (y := (t * x, 1)) e1
      subst ed
      have ev : val r1 = jv dd i * (uv us i * uv vs i) := by
        rw [v1, val_int, vJ, vt1, vt2, Rat.intCast_mul]
      have g1 : GS (6 + 13) (val r1) := by rw [ev, vJ, vt1, vt2]; exact gJ.mul (gs_pr bt bx)
      refine ea_nil ⟨⟨p, r1, rfl, gp.sm ap.1 (by decide), g1.sm f1 (by decide)⟩, fun d ⟨x', y', r2, e1, ed, f2, v2⟩ => ?_⟩
      obtain ⟨rfl, rfl⟩ := frD2_inj e1
      subst ed
      have g2 : GS 25 (val r2) := by rw [v2]; exact gp.mul g1
      have gu : GS 400 (val u) := by
        rw [vu]
        exact (go.sub (gp.mul (sf_size h sd T U i (by omega)))).up (by omega)
      refine ea_nil ⟨⟨u, r2, rfl, gu.sm fu (by decide), g2.sm f2 (by decide)⟩, fun d ⟨x', y', r3, e1, ed, f3, v3⟩ => ?_⟩
      obtain ⟨rfl, rfl⟩ := frD2_inj e1
      subst ed
      refine ⟨r3, .d (.int (i : Int)), rfl, rfl, f3, ?_⟩
      rw [v3, vu, v2, ev]
      show _ = val o - val p * (sf (jv dd) (uv us) (uv vs) i + jv dd i * (uv us i * uv vs i))
      grind
    · rintro L2 Γ2 ⟨u, s7, rfl, rfl, fu, vu⟩
      have hs : ((us.map PyData.int).length : Int).toNat = dd.length := by simp; omega
      rw [hs, vo] at vu
      exact st_ret (ev_var rfl ⟨dd, ss, p, us, vs, rfl, u, rfl, fu, vu⟩)
theorem ok__law_product (T : Tx K mg) : FnOk P w K mg base CX0 4 T.a__law_product T.d__law_product p__law_product (sp__law_product K) := by
  refine T.F__law_product.ok sc__law_product (fun vs H Q E h => len__law_product K vs H Q E h) (fun cdv A outer s H vs Q E hr h => ?_)
  exact ⟨t__law_product K, (pss_cons (ps_par3 (by rfl) sc__law_product.nd rfl rfl rfl (by decide) (by decide) (by decide) rfl rfl rfl (pa_cons (pe_call (ok__law_twists T) (hr.mono (by decide)) rfl T.g__law_twists T.F__law_twists.kp (b__law_twists T) .nil pass0 (pa_cons (pv 0) (pa_cons (pv 2) pa_nil))) (pa_cons (pe_call (ok__law_twists T) (hr.mono (by decide)) rfl T.g__law_twists T.F__law_twists.kp (b__law_twists T) .nil pass0 (pa_cons (pv 0) (pa_cons (pv 3) pa_nil))) (pa_cons (pe_tup (pa_cons pe_int (pa_cons pe_int pa_nil))) pa_nil))) (by rfl))
  (pss_cons (ps_for PassesOwn.never rfl (pi_range1 (by rfl) T.n_range (pa_cons (pe_callB call_len_seq (by rfl) T.n_len (by decide +kernel) (pa_cons (pv 4) pa_nil)) pa_nil)) (pg_name (i := 7) sc__law_product.nd rfl (Or.inl rfl)) (pss_one (ps_set (i := 6) sc__law_product.nd rfl (Or.inl rfl) (pe_call (ok__law_sum T) (hr.mono (by decide)) rfl T.g__law_sum T.F__law_sum.kp (b__law_sum T) .nil pass0 (pa_cons (pv 6) (pa_cons (pe_call (ok__law_prod T) (hr.mono (by decide)) rfl T.g__law_prod T.F__law_prod.kp (b__law_prod T) .nil pass0 (pa_cons (pe_ix ix_seq (pe_ix ix_seq (pv 0) pe_int (fun _ _ => rfl)) (pv 7) (fun _ _ => rfl)) (pa_cons (pe_tup (pa_cons (pe_op op_mulA (pe_ix ix_seq (pv 4) (pv 7) (fun _ _ => rfl)) (pe_ix ix_seq (pv 5) (pv 7) (fun _ _ => rfl))) (pa_cons pe_int pa_nil))) pa_nil))) pa_nil))))))
  (pss_cons (ps_for PassesOwn.never rfl (pi_range1 (by rfl) T.n_range (pa_cons (pe_callB call_len_seq (by rfl) T.n_len (by decide +kernel) (pa_cons (pv 2) pa_nil)) pa_nil)) (pg_name (i := 7) sc__law_product.nd rfl (Or.inl rfl)) (pss_one (ps_set (i := 6) sc__law_product.nd rfl (Or.inl rfl) (pe_call (ok__law_gap T) (hr.mono (by decide)) rfl T.g__law_gap T.F__law_gap.kp (b__law_gap T) .nil pass0 (pa_cons (pv 6) (pa_cons (pe_call (ok__law_prod T) (hr.mono (by decide)) rfl T.g__law_prod T.F__law_prod.kp (b__law_prod T) .nil pass0 (pa_cons (pv 1) (pa_cons (pe_call (ok__law_prod T) (hr.mono (by decide)) rfl T.g__law_prod T.F__law_prod.kp (b__law_prod T) .nil pass0 (pa_cons (pe_ix ix_seq (pe_ix ix_seq (pv 0) pe_int (fun _ _ => rfl)) (pv 7) (fun _ _ => rfl)) (pa_cons (pe_tup (pa_cons (pe_op op_mulA (pe_ix ix_seq (pv 2) (pv 7) (fun _ _ => rfl)) (pe_ix ix_seq (pv 3) (pv 7) (fun _ _ => rfl))) (pa_cons pe_int pa_nil))) pa_nil))) pa_nil))) pa_nil))))))
  (pss_one (ps_ret (pv 6)))))), pure__law_product K vs H Q E h⟩
/-! ### _law_shape -/

noncomputable def pre__law_shape : List PyData → Prop := fun ds => ∃ c : Nat, ds = [.int (c : Int)] ∧ 1 ≤ c ∧ c ≤ 8
noncomputable def post__law_shape : List PyData → PyData → Prop := fun ds d => ∃ (c : Nat) (us : List Int), ds = [.int (c : Int)] ∧ d = tupI us ∧ Trn us c 40
noncomputable abbrev sp__law_shape (K : PySem.W.Frag) : Sp := SpW K pre__law_shape post__law_shape
theorem len__law_shape (K : PySem.W.Frag) (vs : List V) (H : Hp) (Q : VK) (E : XK) (h : sp__law_shape K vs H Q E) : vs.length = p__law_shape.length := len_W (n := 1) h fun ds hp => by
  obtain ⟨c, e, hc1, hc8⟩ := hp
  rw [e]; rfl
noncomputable def t__law_shape (K : PySem.W.Frag) : TS :=
  (tSeq (tAsg (tCall (sp__law_any K) [] E0 (tCons (tVar 0) (tCons (tLst (tCons (tC (.int 1)) (tCons (tC (.int 2)) (tCons (tC (.int 5)) (tCons (tC (.int 40)) tNil))))) tNil))) (gName 2))
  (tRet (tCB (rTupleQ K) (tCons (tLc (iRng1 (tCons (tVar 1) tNil)) (gName 3) tYes (tOp (rI0 fun i j => .int (i - j)) (tCall (sp__law_wind K) [] E0 (tCons (tVar 0) (tCons (tOp (rAddA K) (tOp (rMulA K) (tC (.int 2)) (tVar 2)) (tC (.int 1))) tNil))) (tVar 2)) [3]) tNil))))
theorem pure__law_shape (K : PySem.W.Frag) (vs : List V) (H : Hp) (Q : VK) (E : XK) (h : sp__law_shape K vs H Q E) : t__law_shape K { nx := fun _ H' => Q .non H', rt := Q } (L2.start N__law_shape vs) H := body_W h (by decide) fun B w ds hp => by
  obtain ⟨c, e, hc1, hc8⟩ := hp
  subst e
  unfold t__law_shape
  refine st_seq (st_asg (ev_callW rfl ?_))
  walk_at "dd"
  refine ⟨⟨_, rfl, by simp, by simp⟩, fun d ⟨xs, ex, hd⟩ => ?_⟩
  cases ex
  obtain ⟨k, rfl, k1, k2⟩ : ∃ k : Nat, d = .int (k : Int) ∧ 1 ≤ k ∧ k ≤ 40 := by
    have hd2 : d ∈ ([1, 2, 5, 40] : List Nat).map fun c : Nat => PyData.int (c : Int) := hd
    obtain ⟨c, h1, rfl⟩ := List.mem_map.mp hd2
    have h2 : ∀ k ∈ ([1, 2, 5, 40] : List Nat), 1 ≤ k ∧ k ≤ 40 := by decide
    exact ⟨c, rfl, (h2 c h1).1, (h2 c h1).2⟩
  refine st_ret (ev_cb (ea_cons (ev_new (en_lcR (wipe1 3) (ea_cons (ev_var rfl (ea_nil ⟨_, rfl, by omega, by omega, fun i acc => ∃ us : List Int, acc = us.map .int ∧ us.length = i ∧ ∀ x ∈ us, -40 ≤ x ∧ x ≤ 40, ⟨⟨[], rfl, rfl, by simp⟩, fun i D d' acc hi hJ hin => ?_⟩, fun acc hJ => ?_⟩)))))))
  · obtain ⟨us, rfl, lu, hu⟩ := hJ
    refine et_yes ⟨fun _ => ?_, fun z => nomatch z⟩
    refine ev_op (ev_callW rfl (ea_cons (ev_op (ev_op (ev_int (ev_var rfl (ro_mulL (by omega) (by omega) (ev_int (ro_add (ea_nil ⟨⟨_, rfl, by omega, by omega⟩, fun d ⟨m, z, em, ed, z0, z1⟩ => ?_⟩))))))))))
    simp only [List.cons.injEq, PyData.int.injEq, and_true] at em
    subst em
    subst ed
    refine ev_var rfl (rok_i0 ⟨us ++ [z - (k : Int)], by rw [List.map_append]; rfl, by simp [lu], fun x hx => ?_⟩)
    rcases List.mem_append.mp hx with q | q
    · exact hu x q
    · rw [List.mem_singleton.mp q]
      omega
  · obtain ⟨us, rfl, lu, hu⟩ := hJ
    rw [Int.toNat_natCast] at lu
    exact ea_nil (co_tupL ⟨c, us, rfl, rfl, lu, hu, by decide⟩)
theorem ok__law_shape (T : Tx K mg) : FnOk P w K mg base CX0 3 T.a__law_shape T.d__law_shape p__law_shape (sp__law_shape K) := by
  refine T.F__law_shape.ok sc__law_shape (fun vs H Q E h => len__law_shape K vs H Q E h) (fun cdv A outer s H vs Q E hr h => ?_)
  exact ⟨t__law_shape K, (pss_cons (ps_set (i := 2) sc__law_shape.nd rfl (Or.inr rfl) (pe_call (ok__law_any T) (hr.mono (by decide)) rfl T.g__law_any T.F__law_any.kp (b__law_any T) .nil pass0 (pa_cons (pv 0) (pa_cons (pe_lst (pa_cons pe_int (pa_cons pe_int (pa_cons pe_int (pa_cons pe_int pa_nil))))) pa_nil))))
  (pss_one (ps_ret (pe_callTy call_tuple_of (by rfl) T.n_tuple (by decide +kernel) (pa_cons (pe_lc (own := [("_law_at", 3)]) (by rfl) sc__law_shape.nd (pi_range1 (by rfl) T.n_range (pa_cons (pv 1) pa_nil)) (blkOk_by (own := [("_law_at", 3)]) (N := N__law_shape) (sc := defScope s__law_shape) (by decide +kernel)) (fun _ _ _ _ _ => pg_name (i := 3) sc__law_shape.nd rfl (Or.inl rfl)) (fun _ _ _ _ _ => pts_nil) (fun _ _ _ _ _ => (pe_op op_sub (pe_call (ok__law_wind T) (hr.mono (by decide)) rfl T.g__law_wind T.F__law_wind.kp (b__law_wind T) .nil pass0 (pa_cons (pv 0) (pa_cons (pe_op op_addA (pe_op op_mulA pe_int (pv 2)) pe_int) pa_nil))) (pv 2)))) pa_nil))))), pure__law_shape K vs H Q E h⟩
/-! ### _law_right -/
theorem no_ne {a b : Str} (e : a = b) (hb : (!decide (a = b)) = true) : False := by
  rw [decide_eq_true e] at hb
  cases hb

noncomputable def pre__law_right : List PyData → Prop := fun ds => True ∧ ds = []
noncomputable def post__law_right : List PyData → PyData → Prop := fun ds d => d = .bool true
noncomputable abbrev sp__law_right (K : PySem.W.Frag) : Sp := SpW K pre__law_right post__law_right
theorem len__law_right (K : PySem.W.Frag) (vs : List V) (H : Hp) (Q : VK) (E : XK) (h : sp__law_right K vs H Q E) : vs.length = p__law_right.length := len_W (n := 0) h fun ds hp => by
  obtain ⟨_, e⟩ := hp
  rw [e]; rfl
noncomputable def t__law_right (K : PySem.W.Frag) : TS :=
  (tSeq (tPar 1 2 (tCons (tCall (sp__law_line K) [] E0 (tCons (tVar 0) tNil)) (tCons (tCall (sp__law_pace K) [] E0 (tCons (tVar 0) tNil)) tNil)))
  (tSeq (tAsg (tCB (rLenQ K) (tCons (tOp (rIx K) (tVar 1) (tC (.int 0))) tNil)) (gName 3))
  (tSeq (tAsg (tTup (tCons (tCall (sp__law_shape K) [] E0 (tCons (tVar 0) (tCons (tVar 3) tNil))) (tCons (tCall (sp__law_shape K) [] E0 (tCons (tVar 0) (tCons (tVar 3) tNil))) (tCons (tOp (rI0 fun i j => .int (i - j)) (tCall (sp__law_wind K) [] E0 (tCons (tVar 0) (tCons (tC (.int 9)) tNil))) (tC (.int 4))) tNil)))) (gTup K 3 (gCons (gName 4) (gCons (gName 5) (gCons (gName 6) gNil)))))
  (tSeq (tAsg (tCall (sp__law_product K) [] E0 (tCons (tVar 1) (tCons (tVar 2) (tCons (tVar 4) (tCons (tVar 5) tNil))))) (gName 7))
  (tSeq (tAsg (tLst (tCons (tCall (sp_twist_product K) [] E0 (tCons (tVar 1) (tCons (tVar 2) (tCons (tVar 4) (tCons (tVar 5) tNil))))) (tCons (L2.tCallK (sp_twist_product K) (gPV 3 1 [0]) E0 (tCons (tVar 1) (tCons (tVar 2) (tCons (tVar 5) tNil))) (tCons (tVar 4) tNil)) tNil))) (gName 8))
  (tSeq (tIfS (tTest (tOp rNe (tCB (rReprD K) (tCons (tVar 8) tNil)) (tCB (rReprD K) (tCons (tLst (tCons (tVar 7) (tCons (tVar 7) tNil))) tNil)))) (tRet (tC (.bl false))) tNext)
  (tSeq (tAsg (tCB (rTupleQ K) (tCons (tLc (iRng1 (tCons (tVar 3) tNil)) (gName 15) tYes (tOp (rAddA K) (tOp (rIx K) (tVar 4) (tVar 15)) (tOp (rMulA K) (tVar 6) (tOp (rIx K) (tVar 5) (tVar 15)))) [15]) tNil)) (gName 9))
  (tSeq (tAsg (tCall (sp__law_sum K) [] E0 (tCons (tCall (sp__law_product K) [] E0 (tCons (tVar 1) (tCons (tVar 2) (tCons (tVar 4) (tCons (tVar 4) tNil))))) (tCons (tCall (sp__law_prod K) [] E0 (tCons (tVar 7) (tCons (tTup (tCons (tVar 6) (tCons (tC (.int 1)) tNil))) tNil))) tNil))) (gName 10))
  (tSeq (tIfS (tTest (tOp rNe (tCB (rReprD K) (tCons (tCall (sp_twist_product K) [] E0 (tCons (tVar 1) (tCons (tVar 2) (tCons (tVar 4) (tCons (tVar 9) tNil))))) tNil)) (tCB (rReprD K) (tCons (tVar 10) tNil)))) (tRet (tC (.bl false))) tNext)
  (tSeq (tIfS (tTest (tOp (rEqD K) (tVar 4) (tOp (rMulB K) (tTup (tCons (tC (.int 0)) tNil)) (tVar 3)))) (tRet (tOp rEq (tCB (rReprD K) (tCons (tCall (sp_twist_product K) [] E0 (tCons (tVar 1) (tCons (tVar 2) (tCons (tVar 4) (tCons (tVar 4) tNil))))) tNil)) (tCB (rReprD K) (tCons (tTup (tCons (tC (.int 0)) (tCons (tC (.int 1)) tNil))) tNil)))) tNext)
  (tSeq (tPar 11 12 (tCons (tCall (sp__law_product K) [] E0 (tCons (tVar 1) (tCons (tTup (tCons (tC (.int 0)) (tCons (tC (.int 1)) tNil))) (tCons (tVar 4) (tCons (tVar 4) tNil))))) (tCons (tCall (sp__law_product K) [] E0 (tCons (tVar 1) (tCons (tTup (tCons (tC (.int 1)) (tCons (tC (.int 1)) tNil))) (tCons (tVar 4) (tCons (tVar 4) tNil))))) tNil)))
  (tSeq (tAsg (tCall (sp__law_per K) [] E0 (tCons (tVar 11) (tCons (tCall (sp__law_gap K) [] E0 (tCons (tVar 11) (tCons (tVar 12) tNil))) tNil))) (gName 13))
  (tSeq (tIfS (tTest (tOp rNe (tCB (rReprD K) (tCons (tLst (tCons (tCall (sp_quotient_of K) [] E0 (tCons (tVar 1) (tCons (tVar 4) tNil))) (tCons (tCallN (sp_quotient_of K) (gPV 0 2 [1, 0]) E0 (tCons (tVar 4) (tCons (tVar 1) tNil))) tNil))) tNil)) (tCB (rReprD K) (tCons (tLst (tCons (tVar 13) (tCons (tVar 13) tNil))) tNil)))) (tRet (tC (.bl false))) tNext)
  (tSeq (tIfS (tTest (tOp rNe (tCB (rReprD K) (tCons (tCall (sp_twist_product K) [] E0 (tCons (tVar 1) (tCons (tVar 13) (tCons (tVar 4) (tCons (tVar 4) tNil))))) tNil)) (tCB (rReprD K) (tCons (tTup (tCons (tC (.int 0)) (tCons (tC (.int 1)) tNil))) tNil)))) (tRet (tC (.bl false))) tNext)
  (tSeq (tAsg (tCall (sp_twist_product K) [] E0 (tCons (tVar 1) (tCons (tCall (sp__law_sum K) [] E0 (tCons (tVar 13) (tCons (tTup (tCons (tC (.int 1)) (tCons (tC (.int 1000)) tNil))) tNil))) (tCons (tVar 4) (tCons (tVar 4) tNil))))) (gName 14))
  (tRet (tAndV (tOp (rI0 fun i j => .bl (decide (i < j))) (tOp (rIx K) (tVar 14) (tC (.int 0))) (tC (.int 0))) (tAndV (tOp (rI0 fun i j => .bl (decide (i ≤ j))) (tCall (sp_compare_pace K) [] E0 (tCons (tVar 1) (tCons (tC (.int 0)) (tCons (tVar 13) tNil)))) (tC (.int 0))) (tOp (rI0 fun i j => .bl (decide (j ≤ i))) (tCall (sp_compare_pace K) [] E0 (tCons (tVar 1) (tCons (tOp (rI0 fun i j => .int (i - j)) (tVar 3) (tC (.int 1))) (tCons (tVar 13) tNil)))) (tC (.int 0)))))))))))))))))))))
theorem pure__law_right (K : PySem.W.Frag) (vs : List V) (H : Hp) (Q : VK) (E : XK) (h : sp__law_right K vs H Q E) : t__law_right K { nx := fun _ H' => Q .non H', rt := Q } (L2.start N__law_right vs) H := body_W h (by decide) fun B w ds hp => by
  obtain ⟨_, e⟩ := hp
  subst e
  unfold t__law_right
  refine st_seq (st_par (ea_cons (ev_callW rfl (ea_nil ⟨⟨trivial, rfl⟩, fun X ⟨dd, ss, ed, hL⟩ => ?_⟩))))
  subst ed
  refine ea_cons (ev_callW rfl (ea_nil ⟨⟨trivial, rfl⟩, fun X ⟨p, ep, ap⟩ => ea_nil ⟨_, _, rfl, ?_⟩⟩))
  subst ep
  have h := hL.ln
  have sd := hL.sd
  have sq := hL.sq
  have c5 := hL.c5
  have n1 := h.c1
  have n8 := h.c8
  have hl := h.len
  have gp := am0_gs ap
  have pb := gp.fr ap.1
  refine st_seq (st_asg (ev_cb (ea_cons (ev_op (ev_var rfl (ev_int (rok_ixsT (d := .tuple (dd.map frD)) rfl (ea_nil (co_lenT ?_)))))))))
  rw [List.length_map]
  refine st_seq (st_unpack (ev_tup (ea_cons (ev_callW rfl (ea_cons (ev_var rfl (ea_nil ⟨⟨dd.length, rfl, n1, n8⟩, fun d ⟨c', us, ec, ed, T⟩ => ?_⟩)))))))
  obtain rfl : dd.length = c' := by
    simp only [List.cons.injEq, PyData.int.injEq, and_true] at ec
    omega
  subst ed
  refine ea_cons (ev_callW rfl (ea_cons (ev_var rfl (ea_nil ⟨⟨dd.length, rfl, n1, n8⟩, fun d ⟨c', vs, ec, ed, U⟩ => ?_⟩))))
  obtain rfl : dd.length = c' := by
    simp only [List.cons.injEq, PyData.int.injEq, and_true] at ec
    omega
  subst ed
  refine ea_cons (ev_op (ev_callW rfl (ea_cons (ev_int (ea_nil ⟨⟨9, rfl, by decide, by decide⟩, fun d ⟨m, z, em, ed, z0, z1⟩ => ?_⟩)))))
  simp only [List.cons.injEq, PyData.int.injEq, and_true] at em
  subst em
  subst ed
  refine ev_int (rok_i0 (ea_nil ⟨by simp, _, rfl, rfl, tg_cons (tg_cons (tg_cons (tg_nil ?_)))⟩))
  have zb : -4 ≤ z - 4 ∧ z - 4 ≤ 4 := by omega
  generalize z - 4 = b at zb
  have T2 := T.up (e := 200) (by decide)
  have U2 := U.up (e := 200) (by decide)
  have lu := T.len
  have lv := U.len
  -- the product
  refine st_seq (st_asg (ev_callP (ea_cons (ev_var rfl (ea_cons (ev_var rfl (ea_cons (ev_var rfl (ea_cons (ev_var rfl (ea_nil ⟨⟨dd, ss, p, us, vs, rfl, hL, ap, T, U⟩, fun d ⟨dd', ss', p', us', vs', el, due, ed, fd, vd⟩ => ?_⟩)))))))))))
  obtain ⟨rfl, rfl, rfl, rfl, rfl⟩ := lineII_inj el
  subst ed
  have gd : GS 406 (val due) := by
    rw [vd]
    exact (prd_size h sd sq T U gp).up (by omega)
  have bd := gd.fr fd
  have q4 : p.1.natAbs < 2 ^ 1800 ∧ p.2.natAbs < 2 ^ 1800 := ⟨pow_up pb.1 (by decide), pow_up pb.2 (by decide)⟩
  refine st_seq (st_asg (ev_lst (ea_cons (ev_callP (ea_cons (ev_var rfl (ea_cons (ev_var rfl (ea_cons (ev_var rfl (ea_cons (ev_var rfl (ea_nil ⟨⟨dd, ss, p, us, vs, rfl, h, ap.1, ap.2.1, q4.1, q4.2, T2, U2⟩, fun d ⟨dd', ss', p', us', vs', el, r1, ed, f1, v1⟩ => ?_⟩)))))))))))))
  obtain ⟨rfl, rfl, rfl, rfl, rfl⟩ := lineII_inj el
  subst ed
  obtain rfl : r1 = due := f1.inj fd (by rw [v1, vd])
  refine ea_cons (ev_callKP (ea_cons (ev_var rfl (ea_cons (ev_var rfl (ea_cons (ev_var rfl (ea_nil (ea_cons (ev_var rfl (ea_nil ⟨⟨dd, ss, p, vs, us, rfl, h, ap.1, ap.2.1, q4.1, q4.2, U2, T2⟩, fun d ⟨dd', ss', p', us', vs', el, r2, ed, f2, v2⟩ => ?_⟩)))))))))))
  obtain ⟨rfl, rfl, rfl, rfl, rfl⟩ := lineII_inj (a := dd) (b := ss) (p := p) (u := vs) (x := us) el
  subst ed
  obtain rfl : r2 = r1 := f2.inj fd (by rw [v2, vd, prd_comm])
  refine ea_nil ⟨by simp, ?_⟩
  have sho1 : ∀ {r : Fr} {e : Nat}, FOk r → GS e (val r) → e ≤ 1900 → Sho 1 3849 (frD r) := fun f g he => sho_fr (pow_up (g.fr f).1 he) (pow_up (g.fr f).2 he)
  have sho2 : ∀ {r : Fr} {e : Nat}, FOk r → GS e (val r) → e ≤ 1900 → Sho 2 7705 (.list [frD r, frD r]) := fun f g he => by
    refine sho_lst (e := 1) (c := 3849) fun d hd => ?_
    simp only [List.mem_cons, List.not_mem_nil, or_false, or_self] at hd
    rw [hd]
    exact sho1 f g he
  have S1 := sho2 fd gd (by decide)
  refine st_seq (st_if (et_test (ev_op (ev_cb (ea_cons (ev_var rfl (ea_nil (cok_show S1 rfl (by decide) (by decide) (ev_cb (ea_cons (ev_lst (ea_cons (ev_var rfl (ea_cons (ev_var rfl (ea_nil ⟨by simp, ea_nil (cok_show S1 rfl (by decide) (by decide) (rok_neS ⟨_, rfl, fun hb => (no_ne rfl hb).elim, fun _ => st_next ?_⟩))⟩))))))))))))))))
  -- the mixed one
  refine st_seq (st_asg (ev_cb (ea_cons (ev_new (en_lcR (wipe1 15) (ea_cons (ev_var rfl (ea_nil ⟨_, rfl, by omega, by omega, fun i acc => acc = (mixd i us vs b).map .int, ⟨rfl, fun i D d' acc hd hJ hin => ?_⟩, fun acc hJ => ?_⟩))))))))
  · have hin : i < dd.length := by
      simpa using hin
    subst hJ
    subst hd
    refine et_yes ⟨fun _ => ?_, fun z => nomatch z⟩
    refine ev_op (ev_op (ev_var rfl (ev_var rfl (rok_ixsT (d := .int (us.getD i 0)) ?_ (ev_op (ev_var rfl (ev_op (ev_var rfl (ev_var rfl (rok_ixsT (d := .int (vs.getD i 0)) ?_ (ro_mulL (by omega) (by omega) (ro_add ?_))))))))))))
    · rw [atI_n, List.getElem?_map, List.getD_eq_getElem?_getD, List.getElem?_eq_getElem (by omega)]
      rfl
    · rw [atI_n, List.getElem?_map, List.getD_eq_getElem?_getD, List.getElem?_eq_getElem (by omega)]
      rfl
    · show _ = _
      rw [mixd_succ, List.map_append]
      rfl
  rw [Int.toNat_natCast] at hJ
  subst hJ
  refine ea_nil (co_tupL ?_)
  have M := mixd_trn T U zb
  -- the total
  refine st_seq (st_asg (ev_callP (ea_cons (ev_callP (ea_cons (ev_var rfl (ea_cons (ev_var rfl (ea_cons (ev_var rfl (ea_cons (ev_var rfl (ea_nil ⟨⟨dd, ss, p, us, us, rfl, hL, ap, T, T⟩, fun d ⟨dd', ss', p', us', vs', el, self, ed, fs, vs2⟩ => ?_⟩)))))))))))))
  obtain ⟨rfl, rfl, rfl, rfl, e5⟩ := lineII_inj el
  subst e5
  subst ed
  have gs : GS 406 (val self) := by
    rw [vs2]
    exact (prd_size h sd sq T T gp).up (by omega)
  refine ea_cons (ev_callP (ea_cons (ev_var rfl (ea_cons (ev_tup (ea_cons (ev_var rfl (ea_cons (ev_int (ea_nil ⟨by simp, ea_nil ⟨⟨r2, (b, 1), rfl, gd.sm fd (by decide), ⟨by show (0 : Int) < 1; decide, pow_up (m := 6) (by show b.natAbs < 64; omega) (by decide), by show (1 : Int).natAbs < 2 ^ 4000; decide +kernel⟩⟩, fun d ⟨x', y', r3, e1, ed, f3, v3⟩ => ?_⟩⟩))))))))))
  obtain ⟨rfl, rfl⟩ := frD2_inj (y := (b, 1)) e1
  subst ed
  have gb : GS 6 (val (b, 1)) := GS.of (x := (b, 1)) (by show (0 : Int) < 1; decide) (by show b.natAbs < 64; omega) (by show (1 : Int).natAbs < 2 ^ 6; decide)
  have g3 : GS 412 (val r3) := by
    rw [v3]
    exact gd.mul gb
  refine ea_nil ⟨⟨self, r3, rfl, gs.sm fs (by decide), g3.sm f3 (by decide)⟩, fun d ⟨x', y', tot, e1, ed, ft, vt⟩ => ?_⟩
  obtain ⟨rfl, rfl⟩ := frD2_inj e1
  subst ed
  have gt : GS 819 (val tot) := by
    rw [vt]
    exact gs.add g3
  have vt2 : val tot = prd dd ss (val p) us (mixd dd.length us vs b) := by
    rw [vt, v3, vs2, vd, prd_mix lu lv, val_int]
  have St := sho1 ft gt (by decide)
  refine st_seq (st_if (et_test (ev_op (ev_cb (ea_cons (ev_callP (ea_cons (ev_var rfl (ea_cons (ev_var rfl (ea_cons (ev_var rfl (ea_cons (ev_var rfl (ea_nil ⟨⟨dd, ss, p, us, mixd dd.length us vs b, rfl, h, ap.1, ap.2.1, q4.1, q4.2, T2, M⟩, fun d ⟨dd', ss', p', us', vs', el, r4, ed, f4, v4⟩ => ?_⟩)))))))))))))))
  obtain ⟨rfl, rfl, rfl, rfl, e5⟩ := lineII_inj (a := dd) (b := ss) (p := p) (u := us) (x := mixd dd.length us vs b) el
  subst e5
  subst ed
  obtain rfl : r4 = tot := f4.inj ft (by rw [v4, vt2])
  refine ea_nil (cok_show St rfl (by decide) (by decide) (ev_cb (ea_cons (ev_var rfl (ea_nil (cok_show St rfl (by decide) (by decide) (rok_neS ⟨_, rfl, fun hb => (no_ne rfl hb).elim, fun _ => st_next ?_⟩)))))))
  -- all noughts
  refine st_seq (st_if (et_test (ev_op (ev_var rfl (ev_op (ev_tup (ea_cons (ev_int (ea_nil ⟨by simp, ev_var rfl (rb_repT (by simp) n1 (by omega) (by simp) ?_)⟩)))))))))
  have er : (List.replicate dd.length [PyData.int 0]).flatten = (List.replicate us.length (0 : Int)).map PyData.int := by
    rw [List.flatten_replicate_singleton, List.map_replicate, lu]
  rw [er]
  have su := ints_shaped us
  have sn := ints_shaped (List.replicate us.length (0 : Int))
  refine rok_eqD su.2 sn.2 su.1 sn.1 ⟨_, rfl, fun hb => ?_, fun hb => st_next ?_⟩
  · have z : ∀ x ∈ us, x = 0 := (eqv_noughts us).mp hb
    have S0 : Sho 1 3849 (frD (0, 1)) := sho_fr (by decide +kernel) (by decide +kernel)
    refine st_ret (ev_op (ev_cb (ea_cons (ev_callP (ea_cons (ev_var rfl (ea_cons (ev_var rfl (ea_cons (ev_var rfl (ea_cons (ev_var rfl (ea_nil ⟨⟨dd, ss, p, us, us, rfl, h, ap.1, ap.2.1, q4.1, q4.2, T2, T2⟩, fun d ⟨dd', ss', p', us', vs', el, r5, ed, f5, v5⟩ => ?_⟩))))))))))))) 
    obtain ⟨rfl, rfl, rfl, rfl, e5⟩ := lineII_inj el
    subst e5
    subst ed
    obtain rfl : r5 = (0, 1) := f5.inj fok_zero (by rw [v5, prd_nil z, val_zero])
    refine ea_nil (cok_show S0 rfl (by decide) (by decide) (ev_cb (ea_cons (ev_tup (ea_cons (ev_int (ea_cons (ev_int (ea_nil ⟨by simp, ea_nil (cok_show S0 rfl (by decide) (by decide) (rok_eqS ?_))⟩)))))))))
    exact congrArg PyData.bool (decide_eq_true (p := (frD (0, 1)).shown = (frD (0, 1)).shown) rfl)
  have some := some_turn fun z => by
    have := (eqv_noughts us).mpr z
    have hb2 : PyData.eqvAll (us.map .int) ((List.replicate us.length (0 : Int)).map .int) = false := hb
    rw [this] at hb2
    cases hb2
  obtain ⟨jp, qn, qz, qneg, qc0, qc1⟩ := quo_facts h lu some
  -- the quotient
  refine st_seq (st_par (ea_cons (ev_callP (ea_cons (ev_var rfl (ea_cons (ev_tup (ea_cons (ev_int (ea_cons (ev_int (ea_nil ⟨by simp, ea_cons (ev_var rfl (ea_cons (ev_var rfl (ea_nil ⟨⟨dd, ss, (0, 1), us, us, rfl, hL, am00, T, T⟩, fun d ⟨dd', ss', p', us', vs', el, top, ed, ftop, vtop⟩ => ?_⟩))))⟩))))))))))))
  obtain ⟨rfl, rfl, rfl, rfl, e5⟩ := lineII_inj (p := (0, 1)) el
  subst e5
  subst ed
  refine ea_cons (ev_callP (ea_cons (ev_var rfl (ea_cons (ev_tup (ea_cons (ev_int (ea_cons (ev_int (ea_nil ⟨by simp, ea_cons (ev_var rfl (ea_cons (ev_var rfl (ea_nil ⟨⟨dd, ss, (1, 1), us, us, rfl, hL, am11, T, T⟩, fun d ⟨dd', ss', p', us', vs', el, low, ed, flow, vlow⟩ => ?_⟩))))⟩))))))))))
  obtain ⟨rfl, rfl, rfl, rfl, e5⟩ := lineII_inj (p := (1, 1)) el
  subst e5
  subst ed
  refine ea_nil ⟨_, _, rfl, ?_⟩
  rw [val_zero] at vtop
  rw [val_oneF] at vlow
  have gtop : GS 401 (val top) := by
    rw [vtop]
    exact (prd_size h sd sq T T gs_00).up (by omega)
  have glow : GS 401 (val low) := by
    rw [vlow]
    exact (prd_size h sd sq T T gs_11).up (by omega)
  refine st_seq (st_asg (ev_callP (ea_cons (ev_var rfl (ea_cons (ev_callP (ea_cons (ev_var rfl (ea_cons (ev_var rfl (ea_nil ⟨⟨top, low, rfl, gtop.sm ftop (by decide), glow.sm flow (by decide)⟩, fun d ⟨x', y', gap, e1, ed, fg, vg⟩ => ?_⟩)))))))))))
  obtain ⟨rfl, rfl⟩ := frD2_inj e1
  subst ed
  have ggap : GS 803 (val gap) := by
    rw [vg]
    exact gtop.sub glow
  have vgap : val gap = jf (jv dd) (uv us) dd.length := by
    rw [vg, vtop, vlow, prd_gap]
  have gap0 : gap.1 ≠ 0 := by
    have := (val_pos fg.1).1.mp (by rw [vgap]; exact jp)
    omega
  refine ea_nil ⟨⟨top, gap, rfl, gtop.sm ftop (by decide), ggap.sm fg (by decide), gap0⟩, fun d ⟨x', y', qu, e1, ed, fq, vq⟩ => ?_⟩
  obtain ⟨rfl, rfl⟩ := frD2_inj e1
  subst ed
  have vqu : val qu = quo dd ss us := by
    rw [vq, vg, vtop, vlow, prd_top]
  have gq : GS 350 (val qu) := by
    rw [vqu]
    exact quo_size h sd sq T jp
  have bq := gq.fr fq
  have q0 : 0 ≤ qu.1 := (val_pos fq.1).2.1.mp (by rw [vqu]; exact qn)
  have Sq := sho2 fq gq (by decide)
  refine st_seq (st_if (et_test (ev_op (ev_cb (ea_cons (ev_lst (ea_cons (ev_callP (ea_cons (ev_var rfl (ea_cons (ev_var rfl (ea_nil ⟨⟨dd, ss, us, rfl, h, T2, some⟩, fun d ⟨dd', ss', us', el, r6, ed, f6, v6⟩ => ?_⟩)))))))))))) )
  obtain ⟨rfl, rfl, rfl⟩ := lineI_inj el
  subst ed
  obtain rfl : r6 = qu := f6.inj fq (by rw [v6, vqu])
  refine ea_cons (ev_callN (ea_cons (ev_var rfl (ea_cons (ev_var rfl (ea_nil ⟨⟨dd, ss, us, rfl, h, T2, some⟩, fun d ⟨dd', ss', us', el, r7, ed, f7, v7⟩ => ?_⟩))))))
  obtain ⟨rfl, rfl, rfl⟩ := lineI_inj (a := dd) (b := ss) (u := us) el
  subst ed
  obtain rfl : r7 = r6 := f7.inj fq (by rw [v7, vqu])
  refine ea_nil ⟨by simp, ea_nil (cok_show Sq rfl (by decide) (by decide) (ev_cb (ea_cons (ev_lst (ea_cons (ev_var rfl (ea_cons (ev_var rfl (ea_nil ⟨by simp, ea_nil (cok_show Sq rfl (by decide) (by decide) (rok_neS ⟨_, rfl, fun hb => (no_ne rfl hb).elim, fun _ => st_next ?_⟩))⟩)))))))))⟩
  -- nought there
  have S0 : Sho 1 3849 (frD (0, 1)) := sho_fr (by decide +kernel) (by decide +kernel)
  have q5 : r7.1.natAbs < 2 ^ 1800 ∧ r7.2.natAbs < 2 ^ 1800 := ⟨pow_up bq.1 (by decide), pow_up bq.2 (by decide)⟩
  refine st_seq (st_if (et_test (ev_op (ev_cb (ea_cons (ev_callP (ea_cons (ev_var rfl (ea_cons (ev_var rfl (ea_cons (ev_var rfl (ea_cons (ev_var rfl (ea_nil ⟨⟨dd, ss, r7, us, us, rfl, h, fq, q0, q5.1, q5.2, T2, T2⟩, fun d ⟨dd', ss', p', us', vs', el, r8, ed, f8, v8⟩ => ?_⟩)))))))))))))))
  obtain ⟨rfl, rfl, rfl, rfl, e5⟩ := lineII_inj el
  subst e5
  subst ed
  obtain rfl : r8 = (0, 1) := f8.inj fok_zero (by rw [v8, vqu, qz, val_zero])
  refine ea_nil (cok_show S0 rfl (by decide) (by decide) (ev_cb (ea_cons (ev_tup (ea_cons (ev_int (ea_cons (ev_int (ea_nil ⟨by simp, ea_nil (cok_show S0 rfl (by decide) (by decide) (rok_neS ⟨_, rfl, fun hb => (no_ne rfl hb).elim, fun _ => st_next ?_⟩))⟩)))))))))
  -- beyond
  refine st_seq (st_asg (ev_callP (ea_cons (ev_var rfl (ea_cons (ev_callP (ea_cons (ev_var rfl (ea_cons (ev_tup (ea_cons (ev_int (ea_cons (ev_int (ea_nil ⟨by simp, ea_nil ⟨⟨r7, (1, 1000), rfl, gq.sm fq (by decide), ⟨by show (0 : Int) < 1000; decide, by show (1 : Int).natAbs < 2 ^ 4000; decide +kernel, by show (1000 : Int).natAbs < 2 ^ 4000; decide +kernel⟩⟩, fun d ⟨x', y', far, e1, ed, ff, vf⟩ => ?_⟩⟩)))))))))))))))
  obtain ⟨rfl, rfl⟩ := frD2_inj (y := (1, 1000)) e1
  subst ed
  have v1000 : val (1, 1000) = 1 / 1000 := by
    unfold val
    decide +kernel
  have g1000 : GS 10 (val (1, 1000)) := GS.of (x := (1, 1000)) (by decide) (by decide) (by decide)
  have gf : GS 361 (val far) := by
    rw [vf]
    exact gq.add g1000
  have vfar : val far = quo dd ss us + 1 / 1000 := by
    rw [vf, vqu, v1000]
  have f0 : 0 ≤ far.1 := (val_pos ff.1).2.1.mp (by rw [vfar]; have := qn; have : (0 : Rat) < 1 / 1000 := (by decide +kernel); grind)
  have bf := gf.fr ff
  refine ea_cons (ev_var rfl (ea_cons (ev_var rfl (ea_nil ⟨⟨dd, ss, far, us, us, rfl, h, ff, f0, pow_up bf.1 (by decide), pow_up bf.2 (by decide), T2, T2⟩, fun d ⟨dd', ss', p', us', vs', el, r9, ed, f9, v9⟩ => ?_⟩))))
  obtain ⟨rfl, rfl, rfl, rfl, e5⟩ := lineII_inj el
  subst e5
  subst ed
  have neg : r9.1 < 0 := by
    have : ¬ 0 ≤ val r9 := by
      rw [v9, vfar]
      grind
    have := mt (val_pos f9.1).2.1.mpr this
    omega
  generalize hc : cnt (jv dd) (jv ss) (quo dd ss us) (dd.length - 1) = c0 at qc0 qc1
  generalize he : ea (jv dd) (jv ss) (quo dd ss us) (dd.length - 1) = e0 at qc0
  have told0 : cmpv c0 e0 0 ≤ 0 := by
    unfold cmpv
    by_cases q : 0 < c0
    · rw [if_pos q]
      decide
    · have q2 : c0 = 0 := by omega
      rw [if_neg q, if_pos ⟨q2.symm, qc0 q2⟩]
      decide
  have told1 : 0 ≤ cmpv c0 e0 (dd.length - 1) := by
    unfold cmpv
    rw [if_neg (by omega)]
    split <;> decide
  refine st_ret (ev_andV (ev_op (ev_op (ev_var rfl (ev_int (ixf0 (ev_int (rok_b0 ⟨_, rfl, fun _ => ?_, fun hb => ?_⟩))))))))
  · refine ev_andV (ev_op (ev_callP (ea_cons (ev_var rfl (ea_cons (ev_int (ea_cons (ev_var rfl (ea_nil ⟨⟨dd, ss, 0, r7, rfl, h, by omega, fq, pow_up bq.1 (by decide), pow_up bq.2 (by decide)⟩, fun d ⟨dd', ss', k', p', el, ed⟩ => ?_⟩)))))))))
    obtain ⟨rfl, rfl, rfl, rfl⟩ := cmp_inj (k := 0) el
    rw [vqu, hc, he] at ed
    subst ed
    refine ev_int (rok_b0 ⟨_, rfl, fun _ => ?_, fun hb => ?_⟩)
    · refine ev_op (ev_callP (ea_cons (ev_var rfl (ea_cons (ev_op (ev_var rfl (ev_int (rok_i0 ?_))))))))
      rw [show (dd.length : Int) - 1 = ((dd.length - 1 : Nat) : Int) by omega]
      refine ea_cons (ev_var rfl (ea_nil ⟨⟨dd, ss, dd.length - 1, r7, rfl, h, by omega, fq, pow_up bq.1 (by decide), pow_up bq.2 (by decide)⟩, fun d ⟨dd', ss', k', p', el, ed⟩ => ?_⟩))
      obtain ⟨rfl, rfl, rfl, rfl⟩ := cmp_inj (k := dd.length - 1) el
      rw [vqu, hc, he] at ed
      subst ed
      refine ev_int (rok_b0 ?_)
      show PyData.bool _ = PyData.bool true
      rw [decide_eq_true told1]
    · exact absurd told0 (of_decide_eq_false hb)
  · exact absurd neg (of_decide_eq_false hb)
theorem ok__law_right (T : Tx K mg) : FnG P w K mg base 8 T.a__law_right T.d__law_right p__law_right (sp__law_right K) := by
  refine Fun.okG T.F__law_right sc__law_right (fun vs H Q E h => len__law_right K vs H Q E h) (fun cdv A outer s H vs Q E gd hr h => ?_)
  have hu := hr.units
  exact ⟨t__law_right K, (pss_cons (ps_par (by rfl) sc__law_right.nd rfl rfl (by decide) rfl rfl (pa_cons (pe_call (ok__law_line T) (hr.mono (by decide)) rfl T.g__law_line T.F__law_line.kp (b__law_line T) .nil pass0 (pa_cons (pv 0) pa_nil)) (pa_cons (pe_call (ok__law_pace T) (hr.mono (by decide)) rfl T.g__law_pace T.F__law_pace.kp (b__law_pace T) .nil pass0 (pa_cons (pv 0) pa_nil)) pa_nil)) (by rfl))
  (pss_cons (ps_set (i := 3) sc__law_right.nd rfl (Or.inl rfl) (pe_callB call_len_seq (by rfl) T.n_len (by decide +kernel) (pa_cons (pe_ix ix_seq (pv 1) pe_int (fun _ _ => rfl)) pa_nil)))
  (pss_cons (ps_asg (pe_tup (pa_cons (pe_call (ok__law_shape T) (hr.mono (by decide)) rfl T.g__law_shape T.F__law_shape.kp (b__law_shape T) .nil pass0 (pa_cons (pv 0) (pa_cons (pv 3) pa_nil))) (pa_cons (pe_call (ok__law_shape T) (hr.mono (by decide)) rfl T.g__law_shape T.F__law_shape.kp (b__law_shape T) .nil pass0 (pa_cons (pv 0) (pa_cons (pv 3) pa_nil))) (pa_cons (pe_op op_sub (pe_call (ok__law_wind T) (hr.mono (by decide)) rfl T.g__law_wind T.F__law_wind.kp (b__law_wind T) .nil pass0 (pa_cons (pv 0) (pa_cons pe_int pa_nil))) pe_int) pa_nil)))) (pg_tup (by rfl) (pgs_cons (pg_name (i := 4) sc__law_right.nd rfl (Or.inr rfl)) (pgs_cons (pg_name (i := 5) sc__law_right.nd rfl (Or.inr rfl)) (pgs_cons (pg_name (i := 6) sc__law_right.nd rfl (Or.inr rfl)) pgs_nil)))))
  (pss_cons (ps_set (i := 7) sc__law_right.nd rfl (Or.inl rfl) (pe_call (ok__law_product T) (hr.mono (by decide)) rfl T.g__law_product T.F__law_product.kp (b__law_product T) .nil pass0 (pa_cons (pv 1) (pa_cons (pv 2) (pa_cons (pv 4) (pa_cons (pv 5) pa_nil))))))
  (pss_cons (ps_set (i := 8) sc__law_right.nd rfl (Or.inl rfl) (pe_lst (pa_cons (pe_call (ok_twist_product T) (hr.mono (by decide)) rfl T.g_twist_product T.F_twist_product.kp (b_twist_product T) .nil pass0 (pa_cons (pv 1) (pa_cons (pv 2) (pa_cons (pv 4) (pa_cons (pv 5) pa_nil))))) (pa_cons (pe_callK (ok_twist_product T) (hr.mono (by decide)) rfl T.g_twist_product T.F_twist_product.kp (kb_twist_product_0 T) pass0 (pa_cons (pv 1) (pa_cons (pv 2) (pa_cons (pv 5) pa_nil))) (pk_cons (pv 4) pk_nil)) pa_nil))))
  (pss_cons (ps_if (pt_cmpR op_ne (pe_callB (call_reprD hu gd) (by rfl) T.n_repr (by decide +kernel) (pa_cons (pv 8) pa_nil)) (pe_callB (call_reprD hu gd) (by rfl) T.n_repr (by decide +kernel) (pa_cons (pe_lst (pa_cons (pv 7) (pa_cons (pv 7) pa_nil))) pa_nil)) (nomark _)) (pss_one (ps_ret pe_bl)) pss_nil)
  (pss_cons (ps_set (i := 9) sc__law_right.nd rfl (Or.inl rfl) (pe_callTy call_tuple_of (by rfl) T.n_tuple (by decide +kernel) (pa_cons (pe_lc (own := [("_law_at", 15)]) (by rfl) sc__law_right.nd (pi_range1 (by rfl) T.n_range (pa_cons (pv 3) pa_nil)) (blkOk_by (own := [("_law_at", 15)]) (N := N__law_right) (sc := defScope s__law_right) (by decide +kernel)) (fun _ _ _ _ _ => pg_name (i := 15) sc__law_right.nd rfl (Or.inl rfl)) (fun _ _ _ _ _ => pts_nil) (fun _ _ _ _ _ => (pe_op op_addA (pe_ix ix_seq (pv 4) (pv 15) (fun _ _ => rfl)) (pe_op op_mulA (pv 6) (pe_ix ix_seq (pv 5) (pv 15) (fun _ _ => rfl)))))) pa_nil)))
  (pss_cons (ps_set (i := 10) sc__law_right.nd rfl (Or.inl rfl) (pe_call (ok__law_sum T) (hr.mono (by decide)) rfl T.g__law_sum T.F__law_sum.kp (b__law_sum T) .nil pass0 (pa_cons (pe_call (ok__law_product T) (hr.mono (by decide)) rfl T.g__law_product T.F__law_product.kp (b__law_product T) .nil pass0 (pa_cons (pv 1) (pa_cons (pv 2) (pa_cons (pv 4) (pa_cons (pv 4) pa_nil))))) (pa_cons (pe_call (ok__law_prod T) (hr.mono (by decide)) rfl T.g__law_prod T.F__law_prod.kp (b__law_prod T) .nil pass0 (pa_cons (pv 7) (pa_cons (pe_tup (pa_cons (pv 6) (pa_cons pe_int pa_nil))) pa_nil))) pa_nil))))
  (pss_cons (ps_if (pt_cmpR op_ne (pe_callB (call_reprD hu gd) (by rfl) T.n_repr (by decide +kernel) (pa_cons (pe_call (ok_twist_product T) (hr.mono (by decide)) rfl T.g_twist_product T.F_twist_product.kp (b_twist_product T) .nil pass0 (pa_cons (pv 1) (pa_cons (pv 2) (pa_cons (pv 4) (pa_cons (pv 9) pa_nil))))) pa_nil)) (pe_callB (call_reprD hu gd) (by rfl) T.n_repr (by decide +kernel) (pa_cons (pv 10) pa_nil)) (nomark _)) (pss_one (ps_ret pe_bl)) pss_nil)
  (pss_cons (ps_if (pt_cmpR (op_eqD hu) (pv 4) (pe_op op_mulB (pe_tup (pa_cons pe_int pa_nil)) (pv 3)) (nomark _)) (pss_one (ps_ret (pe_cmpR op_eq (pe_callB (call_reprD hu gd) (by rfl) T.n_repr (by decide +kernel) (pa_cons (pe_call (ok_twist_product T) (hr.mono (by decide)) rfl T.g_twist_product T.F_twist_product.kp (b_twist_product T) .nil pass0 (pa_cons (pv 1) (pa_cons (pv 2) (pa_cons (pv 4) (pa_cons (pv 4) pa_nil))))) pa_nil)) (pe_callB (call_reprD hu gd) (by rfl) T.n_repr (by decide +kernel) (pa_cons (pe_tup (pa_cons pe_int (pa_cons pe_int pa_nil))) pa_nil)) (nomark _)))) pss_nil)
  (pss_cons (ps_par (by rfl) sc__law_right.nd rfl rfl (by decide) rfl rfl (pa_cons (pe_call (ok__law_product T) (hr.mono (by decide)) rfl T.g__law_product T.F__law_product.kp (b__law_product T) .nil pass0 (pa_cons (pv 1) (pa_cons (pe_tup (pa_cons pe_int (pa_cons pe_int pa_nil))) (pa_cons (pv 4) (pa_cons (pv 4) pa_nil))))) (pa_cons (pe_call (ok__law_product T) (hr.mono (by decide)) rfl T.g__law_product T.F__law_product.kp (b__law_product T) .nil pass0 (pa_cons (pv 1) (pa_cons (pe_tup (pa_cons pe_int (pa_cons pe_int pa_nil))) (pa_cons (pv 4) (pa_cons (pv 4) pa_nil))))) pa_nil)) (by rfl))
  (pss_cons (ps_set (i := 13) sc__law_right.nd rfl (Or.inl rfl) (pe_call (ok__law_per T) (hr.mono (by decide)) rfl T.g__law_per T.F__law_per.kp (b__law_per T) .nil pass0 (pa_cons (pv 11) (pa_cons (pe_call (ok__law_gap T) (hr.mono (by decide)) rfl T.g__law_gap T.F__law_gap.kp (b__law_gap T) .nil pass0 (pa_cons (pv 11) (pa_cons (pv 12) pa_nil))) pa_nil))))
  (pss_cons (ps_if (pt_cmpR op_ne (pe_callB (call_reprD hu gd) (by rfl) T.n_repr (by decide +kernel) (pa_cons (pe_lst (pa_cons (pe_call (ok_quotient_of T) (hr.mono (by decide)) rfl T.g_quotient_of T.F_quotient_of.kp (b_quotient_of T) .nil pass0 (pa_cons (pv 1) (pa_cons (pv 4) pa_nil))) (pa_cons (pe_callN (ok_quotient_of T) (hr.mono (by decide)) rfl T.g_quotient_of T.F_quotient_of.kp (kb_quotient_of_1 T) pass0 (pk_cons (pv 4) (pk_cons (pv 1) pk_nil))) pa_nil))) pa_nil)) (pe_callB (call_reprD hu gd) (by rfl) T.n_repr (by decide +kernel) (pa_cons (pe_lst (pa_cons (pv 13) (pa_cons (pv 13) pa_nil))) pa_nil)) (nomark _)) (pss_one (ps_ret pe_bl)) pss_nil)
  (pss_cons (ps_if (pt_cmpR op_ne (pe_callB (call_reprD hu gd) (by rfl) T.n_repr (by decide +kernel) (pa_cons (pe_call (ok_twist_product T) (hr.mono (by decide)) rfl T.g_twist_product T.F_twist_product.kp (b_twist_product T) .nil pass0 (pa_cons (pv 1) (pa_cons (pv 13) (pa_cons (pv 4) (pa_cons (pv 4) pa_nil))))) pa_nil)) (pe_callB (call_reprD hu gd) (by rfl) T.n_repr (by decide +kernel) (pa_cons (pe_tup (pa_cons pe_int (pa_cons pe_int pa_nil))) pa_nil)) (nomark _)) (pss_one (ps_ret pe_bl)) pss_nil)
  (pss_cons (ps_set (i := 14) sc__law_right.nd rfl (Or.inl rfl) (pe_call (ok_twist_product T) (hr.mono (by decide)) rfl T.g_twist_product T.F_twist_product.kp (b_twist_product T) .nil pass0 (pa_cons (pv 1) (pa_cons (pe_call (ok__law_sum T) (hr.mono (by decide)) rfl T.g__law_sum T.F__law_sum.kp (b__law_sum T) .nil pass0 (pa_cons (pv 13) (pa_cons (pe_tup (pa_cons pe_int (pa_cons pe_int pa_nil))) pa_nil))) (pa_cons (pv 4) (pa_cons (pv 4) pa_nil))))))
  (pss_one (ps_ret (pe_and (pe_cmpR op_lt (pe_ix ix_seq (pv 14) pe_int (fun _ _ => rfl)) pe_int (nomark _)) (pe_and (pe_cmpR op_le (pe_call (ok_compare_pace T) (hr.mono (by decide)) rfl T.g_compare_pace T.F_compare_pace.kp (b_compare_pace T) .nil pass0 (pa_cons (pv 1) (pa_cons pe_int (pa_cons (pv 13) pa_nil)))) pe_int (nomark _)) (pe_one (pe_cmpR op_ge (pe_call (ok_compare_pace T) (hr.mono (by decide)) rfl T.g_compare_pace T.F_compare_pace.kp (b_compare_pace T) .nil pass0 (pa_cons (pv 1) (pa_cons (pe_op op_sub (pv 3) pe_int) (pa_cons (pv 13) pa_nil)))) pe_int (nomark _)))))))))))))))))))))), pure__law_right K vs H Q E h⟩
/-! ### law -/
noncomputable def sp_law (K : PySem.W.Frag) : Sp := fun vs H Q _ => ∃ (a : Addr) (ns : List Int), vs = [.ref a] ∧ SqL K H a (ns.map V.int) ∧ ns.length ≤ 63 ∧ ∀ H', Q (.bl true) H'
theorem len_law (K : PySem.W.Frag) (vs : List V) (H : Hp) (Q : VK) (E : XK) (h : sp_law K vs H Q E) : vs.length = p_law.length := by
  obtain ⟨a, ns, rfl, _⟩ := h
  rfl
noncomputable def t_law (K : PySem.W.Frag) : TS :=
  (tRet (tCB (rAll K) (tCons (tLc (iList K (tCall (sp__law_laps K) [] E0 (tCons (tVar 0) (tCons (tC (.int 4)) tNil)))) (gName 1) tYes (tCall (sp__law_right K) [] E0 (tCons (tCall (sp__law_spool K) [] E0 (tCons (tVar 0) (tCons (tVar 1) tNil))) tNil)) [1]) tNil)))
theorem pure_law (K : PySem.W.Frag) (vs : List V) (H : Hp) (Q : VK) (E : XK) (h : sp_law K vs H Q E) : t_law K { nx := fun _ H' => Q .non H', rt := Q } (L2.start N_law vs) H := by
  obtain ⟨a, ns, rfl, hS, hlen, q⟩ := h
  unfold t_law
  refine ⟨_, rfl, ?_⟩
  unfold tNil
  have key : ∀ R : VK, (∀ p H' (k : Nat), Same H H' → H p = none → 1 ≤ k → k ≤ 100 → H' p = some (.lst (((List.range k).map fun i : Nat => (i : Int)).map V.int)) → R (.ref p) H') → sp__law_laps K [.ref a, .int 4] H R E0 := fun R hR => ⟨a, ns, 4, rfl, hS, hlen, by decide, by decide, hR⟩
  simp only [tCons, tC, List.append_nil]
  refine key _ fun p H1 k s1 hp k1 k2 e1 => ?_
  have hS1 := s1.seq hS
  refine ⟨p, rfl, ⟨_, .inl (.inl e1)⟩, fun D hD => lc_list (xs := ((List.range k).map fun i : Nat => (i : Int)).map V.int) (fun i H' => Same H1 H' ∧ H' D = some (.lst (List.replicate i (V.bl true))))
    ⟨same_upd hD, upd_same⟩ (fun i H' _ S => .inl (.inl (S.1 _ _ e1))) (fun i x H' hi S => ?_) (fun H' S => ?_)⟩
  · obtain ⟨s2, hDl⟩ := S
    have hx : ∃ j : Nat, x = V.int (j : Int) ∧ j < 100 := by
      rw [List.getElem?_map, List.getElem?_map] at hi
      cases e : (List.range k)[i]? with
      | none => rw [e] at hi; cases hi
      | some j =>
        rw [e] at hi
        have := List.mem_range.mp (List.mem_of_getElem? e)
        exact ⟨j, (Option.some.inj hi).symm, by omega⟩
    obtain ⟨j, rfl, hj⟩ := hx
    refine ⟨rfl, ?_⟩
    refine iteT (B := Same H1 H' ∧ H' D = some (.lst (List.replicate (i + 1) (V.bl true)))) ?_
    refine ⟨_, rfl, _, rfl, ?_⟩
    show sp__law_spool K [.ref a, .int (j : Int)] H' _ E0
    refine ⟨a, ns, j, rfl, s2.seq hS1, hlen, by omega, fun w H3 s3 hw hwell => ?_⟩
    show sp__law_right K [.ref w] H3 _ E0
    refine ⟨[w], w, [], [], rfl, List.mem_singleton.mpr rfl, hwell, fun m hm => ?_, .nil, ⟨trivial, rfl⟩, fun v d H4 hk _ dn hd => ?_⟩
    · rw [List.mem_singleton.mp hm]
      obtain ⟨n, b, c, e, _⟩ := hwell
      exact ⟨_, e⟩
    · rw [show d = .bool true from hd] at dn
      rw [dn_bool dn]
      have Dw : D ≠ w := fun z => by
        rw [z, hw] at hDl
        cases hDl
      refine ⟨_, hk D _ Dw (s3 _ _ hDl), ?_, fun b o e => ?_, ?_⟩
      · rw [List.length_replicate]
        have hi2 := (List.getElem?_eq_some_iff.mp hi).1
        rw [List.length_map, List.length_map, List.length_range] at hi2
        exact Nat.lt_of_lt_of_le (show i < 1000 by omega) (by decide)
      · have bD : b ≠ D := fun z => by
          rw [z, hD] at e
          cases e
        have bw : b ≠ w := fun z => by
          have := s2 _ _ e
          rw [z, hw] at this
          cases this
        rw [upd_ne bD]
        exact hk b o bw (s3 _ _ (s2 _ _ e))
      · rw [upd_same, List.replicate_succ']
  · refine ⟨D, List.replicate k true, rfl, .inl (.inl ?_), ?_⟩
    · rw [S.2, List.length_map, List.length_map, List.length_range, List.map_replicate]
    · rw [show (List.replicate k true).all id = true by simp]
      exact q H'
theorem ok_law (T : Tx K mg) : FnG P w K mg base 9 T.a_law T.d_law p_law (sp_law K) := by
  refine Fun.okG T.F_law sc_law (fun vs H Q E h => len_law K vs H Q E h) (fun cdv A outer s H vs Q E gd hr h => ?_)
  exact ⟨t_law K, (pss_one (ps_ret (pe_callB (cr_all rfl) (by rfl) T.n_all (by decide +kernel) (pa_cons (pe_lc (own := [("_law_lap", 1)]) (by rfl) sc_law.nd (pi_list (pe_call (ok__law_laps T) (hr.mono (by decide)) rfl T.g__law_laps T.F__law_laps.kp (b__law_laps T) .nil pass0 (pa_cons (pv 0) (pa_cons pe_int pa_nil)))) (blkOk_by (own := [("_law_lap", 1)]) (N := N_law) (sc := defScope s_law) (by decide +kernel)) (fun _ _ _ _ _ => pg_name (i := 1) sc_law.nd rfl (Or.inl rfl)) (fun _ _ _ _ _ => pts_nil) (fun _ _ _ _ _ => (pe_callG (ok__law_right T) (hr.mono (by decide)) gd rfl T.g__law_right T.F__law_right.kp (b__law_right T) (pa_cons (pe_call (ok__law_spool T) (hr.mono (by decide)) rfl T.g__law_spool T.F__law_spool.kp (b__law_spool T) .nil pass0 (pa_cons (pv 0) (pa_cons (pv 1) pa_nil))) pa_nil)))) pa_nil)))), pure_law K vs H Q E h⟩
end
theorem all_mk {l : PySem.W.OpenLaw} {w : World} {K : PySem.W.Frag} {h : Heap} {mg : Str → Option Value} {fa : Addr} (X : K.In h) (G : h.Ns mainGlobals mg) (hfa : mg "law" = some (.ref fa))
    {f_is_whole f_is_fraction f_lowest f_sign_of f_count_changes f_added f_subtracted f_multiplied f_divided f_is_fraction_from_nought f_is_index f_trimmed f_blend f_raised f_content f_shrunk f_thinned f_scaled_value f_dyadic_value f_fraction_sign f_Place___init__ f_fraction_place f_sign_at_place f_read_point f_check_point f_run_parts f_thinned_run f_run_signs f_is_row_of_fractions f_is_line f_check_line f_check_index f_check_pace f_compare_pace f_is_shape f_check_shape f_twists_of f_weighed f_twist_product f_quotient_of f__law_spool f__law_wind f__law_any f__law_measure f__law_frac f__law_sum f__law_gap f__law_prod f__law_per f__law_amount f__law_end f__law_line f__law_pace f__law_laps f__law_twists f__law_product f__law_shape f__law_right f_law C_Place : Addr} {od_is_whole an_is_whole od_is_fraction an_is_fraction od_lowest an_lowest od_sign_of an_sign_of od_count_changes an_count_changes od_added an_added od_subtracted an_subtracted od_multiplied an_multiplied od_divided an_divided od_is_fraction_from_nought an_is_fraction_from_nought od_is_index an_is_index od_trimmed an_trimmed od_blend an_blend od_raised an_raised od_content an_content od_shrunk an_shrunk od_thinned an_thinned od_scaled_value an_scaled_value od_dyadic_value an_dyadic_value od_fraction_sign an_fraction_sign od_Place___init__ an_Place___init__ od_fraction_place an_fraction_place od_sign_at_place an_sign_at_place od_read_point an_read_point od_check_point an_check_point od_run_parts an_run_parts od_thinned_run an_thinned_run od_run_signs an_run_signs od_is_row_of_fractions an_is_row_of_fractions od_is_line an_is_line od_check_line an_check_line od_check_index an_check_index od_check_pace an_check_pace od_compare_pace an_compare_pace od_is_shape an_is_shape od_check_shape an_check_shape od_twists_of an_twists_of od_weighed an_weighed od_twist_product an_twist_product od_quotient_of an_quotient_of od__law_spool an__law_spool od__law_wind an__law_wind od__law_any an__law_any od__law_measure an__law_measure od__law_frac an__law_frac od__law_sum an__law_sum od__law_gap an__law_gap od__law_prod an__law_prod od__law_per an__law_per od__law_amount an__law_amount od__law_end an__law_end od__law_line an__law_line od__law_pace an__law_pace od__law_laps an__law_laps od__law_twists an__law_twists od__law_product an__law_product od__law_shape an__law_shape od__law_right an__law_right od_law an_law : Option Addr} {sl_is_whole sl_is_fraction sl_lowest sl_sign_of sl_count_changes sl_added sl_subtracted sl_multiplied sl_divided sl_is_fraction_from_nought sl_is_index sl_trimmed sl_blend sl_raised sl_content sl_shrunk sl_thinned sl_scaled_value sl_dyadic_value sl_fraction_sign sl_Place___init__ sl_fraction_place sl_sign_at_place sl_read_point sl_check_point sl_run_parts sl_thinned_run sl_run_signs sl_is_row_of_fractions sl_is_line sl_check_line sl_check_index sl_check_pace sl_compare_pace sl_is_shape sl_check_shape sl_twists_of sl_weighed sl_twist_product sl_quotient_of sl__law_spool sl__law_wind sl__law_any sl__law_measure sl__law_frac sl__law_sum sl__law_gap sl__law_prod sl__law_per sl__law_amount sl__law_end sl__law_line sl__law_pace sl__law_laps sl__law_twists sl__law_product sl__law_shape sl__law_right sl_law : Array (Option Value)} {oc_is_whole kV_is_whole dc_is_whole pm_is_whole cd_is_whole ct_is_whole oc_is_fraction kV_is_fraction dc_is_fraction pm_is_fraction cd_is_fraction ct_is_fraction oc_lowest kV_lowest dc_lowest pm_lowest cd_lowest ct_lowest oc_sign_of kV_sign_of dc_sign_of pm_sign_of cd_sign_of ct_sign_of oc_count_changes kV_count_changes dc_count_changes pm_count_changes cd_count_changes ct_count_changes oc_added kV_added dc_added pm_added cd_added ct_added oc_subtracted kV_subtracted dc_subtracted pm_subtracted cd_subtracted ct_subtracted oc_multiplied kV_multiplied dc_multiplied pm_multiplied cd_multiplied ct_multiplied oc_divided kV_divided dc_divided pm_divided cd_divided ct_divided oc_is_fraction_from_nought kV_is_fraction_from_nought dc_is_fraction_from_nought pm_is_fraction_from_nought cd_is_fraction_from_nought ct_is_fraction_from_nought oc_is_index kV_is_index dc_is_index pm_is_index cd_is_index ct_is_index oc_trimmed kV_trimmed dc_trimmed pm_trimmed cd_trimmed ct_trimmed oc_blend kV_blend dc_blend pm_blend cd_blend ct_blend oc_raised kV_raised dc_raised pm_raised cd_raised ct_raised oc_content kV_content dc_content pm_content cd_content ct_content oc_shrunk kV_shrunk dc_shrunk pm_shrunk cd_shrunk ct_shrunk oc_thinned kV_thinned dc_thinned pm_thinned cd_thinned ct_thinned oc_scaled_value kV_scaled_value dc_scaled_value pm_scaled_value cd_scaled_value ct_scaled_value oc_dyadic_value kV_dyadic_value dc_dyadic_value pm_dyadic_value cd_dyadic_value ct_dyadic_value oc_fraction_sign kV_fraction_sign dc_fraction_sign pm_fraction_sign cd_fraction_sign ct_fraction_sign oc_Place___init__ kV_Place___init__ dc_Place___init__ pm_Place___init__ cd_Place___init__ ct_Place___init__ oc_fraction_place kV_fraction_place dc_fraction_place pm_fraction_place cd_fraction_place ct_fraction_place oc_sign_at_place kV_sign_at_place dc_sign_at_place pm_sign_at_place cd_sign_at_place ct_sign_at_place oc_read_point kV_read_point dc_read_point pm_read_point cd_read_point ct_read_point oc_check_point kV_check_point dc_check_point pm_check_point cd_check_point ct_check_point oc_run_parts kV_run_parts dc_run_parts pm_run_parts cd_run_parts ct_run_parts oc_thinned_run kV_thinned_run dc_thinned_run pm_thinned_run cd_thinned_run ct_thinned_run oc_run_signs kV_run_signs dc_run_signs pm_run_signs cd_run_signs ct_run_signs oc_is_row_of_fractions kV_is_row_of_fractions dc_is_row_of_fractions pm_is_row_of_fractions cd_is_row_of_fractions ct_is_row_of_fractions oc_is_line kV_is_line dc_is_line pm_is_line cd_is_line ct_is_line oc_check_line kV_check_line dc_check_line pm_check_line cd_check_line ct_check_line oc_check_index kV_check_index dc_check_index pm_check_index cd_check_index ct_check_index oc_check_pace kV_check_pace dc_check_pace pm_check_pace cd_check_pace ct_check_pace oc_compare_pace kV_compare_pace dc_compare_pace pm_compare_pace cd_compare_pace ct_compare_pace oc_is_shape kV_is_shape dc_is_shape pm_is_shape cd_is_shape ct_is_shape oc_check_shape kV_check_shape dc_check_shape pm_check_shape cd_check_shape ct_check_shape oc_twists_of kV_twists_of dc_twists_of pm_twists_of cd_twists_of ct_twists_of oc_weighed kV_weighed dc_weighed pm_weighed cd_weighed ct_weighed oc_twist_product kV_twist_product dc_twist_product pm_twist_product cd_twist_product ct_twist_product oc_quotient_of kV_quotient_of dc_quotient_of pm_quotient_of cd_quotient_of ct_quotient_of oc__law_spool kV__law_spool dc__law_spool pm__law_spool cd__law_spool ct__law_spool oc__law_wind kV__law_wind dc__law_wind pm__law_wind cd__law_wind ct__law_wind oc__law_any kV__law_any dc__law_any pm__law_any cd__law_any ct__law_any oc__law_measure kV__law_measure dc__law_measure pm__law_measure cd__law_measure ct__law_measure oc__law_frac kV__law_frac dc__law_frac pm__law_frac cd__law_frac ct__law_frac oc__law_sum kV__law_sum dc__law_sum pm__law_sum cd__law_sum ct__law_sum oc__law_gap kV__law_gap dc__law_gap pm__law_gap cd__law_gap ct__law_gap oc__law_prod kV__law_prod dc__law_prod pm__law_prod cd__law_prod ct__law_prod oc__law_per kV__law_per dc__law_per pm__law_per cd__law_per ct__law_per oc__law_amount kV__law_amount dc__law_amount pm__law_amount cd__law_amount ct__law_amount oc__law_end kV__law_end dc__law_end pm__law_end cd__law_end ct__law_end oc__law_line kV__law_line dc__law_line pm__law_line cd__law_line ct__law_line oc__law_pace kV__law_pace dc__law_pace pm__law_pace cd__law_pace ct__law_pace oc__law_laps kV__law_laps dc__law_laps pm__law_laps cd__law_laps ct__law_laps oc__law_twists kV__law_twists dc__law_twists pm__law_twists cd__law_twists ct__law_twists oc__law_product kV__law_product dc__law_product pm__law_product cd__law_product ct__law_product oc__law_shape kV__law_shape dc__law_shape pm__law_shape cd__law_shape ct__law_shape oc__law_right kV__law_right dc__law_right pm__law_right cd__law_right ct__law_right oc_law kV_law dc_law pm_law cd_law ct_law : Value} {k_NOUGHT : Addr} {od_NOUGHT : Option Addr} {t0_NOUGHT t1_NOUGHT : Tok} {n_NOUGHT : Nat} {sl_NOUGHT : Array (Option Value)} {t_MOST_DISCS : Tok}
    (a_is_whole : PySem.W.nsIn K mainGlobals "is_whole" = some (some (.ref f_is_whole)))
    (l_is_whole : K.lookup f_is_whole = some ⟨oc_is_whole, od_is_whole, .func (PySem.W.fnOf "is_whole" "is_whole" (defArgs s_is_whole) (defBody s_is_whole) (defScope s_is_whole) .none kV_is_whole dc_is_whole pm_is_whole an_is_whole cd_is_whole ct_is_whole), sl_is_whole⟩)
    (c_is_whole : PySem.W.codeIn K cd_is_whole "is_whole" = true)
    (k_is_whole : PySem.W.keepIn K (.ref f_is_whole) = true)
    (a_is_fraction : PySem.W.nsIn K mainGlobals "is_fraction" = some (some (.ref f_is_fraction)))
    (l_is_fraction : K.lookup f_is_fraction = some ⟨oc_is_fraction, od_is_fraction, .func (PySem.W.fnOf "is_fraction" "is_fraction" (defArgs s_is_fraction) (defBody s_is_fraction) (defScope s_is_fraction) .none kV_is_fraction dc_is_fraction pm_is_fraction an_is_fraction cd_is_fraction ct_is_fraction), sl_is_fraction⟩)
    (c_is_fraction : PySem.W.codeIn K cd_is_fraction "is_fraction" = true)
    (k_is_fraction : PySem.W.keepIn K (.ref f_is_fraction) = true)
    (a_lowest : PySem.W.nsIn K mainGlobals "lowest" = some (some (.ref f_lowest)))
    (l_lowest : K.lookup f_lowest = some ⟨oc_lowest, od_lowest, .func (PySem.W.fnOf "lowest" "lowest" (defArgs s_lowest) (defBody s_lowest) (defScope s_lowest) .none kV_lowest dc_lowest pm_lowest an_lowest cd_lowest ct_lowest), sl_lowest⟩)
    (c_lowest : PySem.W.codeIn K cd_lowest "lowest" = true)
    (k_lowest : PySem.W.keepIn K (.ref f_lowest) = true)
    (a_sign_of : PySem.W.nsIn K mainGlobals "sign_of" = some (some (.ref f_sign_of)))
    (l_sign_of : K.lookup f_sign_of = some ⟨oc_sign_of, od_sign_of, .func (PySem.W.fnOf "sign_of" "sign_of" (defArgs s_sign_of) (defBody s_sign_of) (defScope s_sign_of) .none kV_sign_of dc_sign_of pm_sign_of an_sign_of cd_sign_of ct_sign_of), sl_sign_of⟩)
    (c_sign_of : PySem.W.codeIn K cd_sign_of "sign_of" = true)
    (k_sign_of : PySem.W.keepIn K (.ref f_sign_of) = true)
    (a_count_changes : PySem.W.nsIn K mainGlobals "count_changes" = some (some (.ref f_count_changes)))
    (l_count_changes : K.lookup f_count_changes = some ⟨oc_count_changes, od_count_changes, .func (PySem.W.fnOf "count_changes" "count_changes" (defArgs s_count_changes) (defBody s_count_changes) (defScope s_count_changes) .none kV_count_changes dc_count_changes pm_count_changes an_count_changes cd_count_changes ct_count_changes), sl_count_changes⟩)
    (c_count_changes : PySem.W.codeIn K cd_count_changes "count_changes" = true)
    (k_count_changes : PySem.W.keepIn K (.ref f_count_changes) = true)
    (a_added : PySem.W.nsIn K mainGlobals "added" = some (some (.ref f_added)))
    (l_added : K.lookup f_added = some ⟨oc_added, od_added, .func (PySem.W.fnOf "added" "added" (defArgs s_added) (defBody s_added) (defScope s_added) .none kV_added dc_added pm_added an_added cd_added ct_added), sl_added⟩)
    (c_added : PySem.W.codeIn K cd_added "added" = true)
    (k_added : PySem.W.keepIn K (.ref f_added) = true)
    (a_subtracted : PySem.W.nsIn K mainGlobals "subtracted" = some (some (.ref f_subtracted)))
    (l_subtracted : K.lookup f_subtracted = some ⟨oc_subtracted, od_subtracted, .func (PySem.W.fnOf "subtracted" "subtracted" (defArgs s_subtracted) (defBody s_subtracted) (defScope s_subtracted) .none kV_subtracted dc_subtracted pm_subtracted an_subtracted cd_subtracted ct_subtracted), sl_subtracted⟩)
    (c_subtracted : PySem.W.codeIn K cd_subtracted "subtracted" = true)
    (k_subtracted : PySem.W.keepIn K (.ref f_subtracted) = true)
    (a_multiplied : PySem.W.nsIn K mainGlobals "multiplied" = some (some (.ref f_multiplied)))
    (l_multiplied : K.lookup f_multiplied = some ⟨oc_multiplied, od_multiplied, .func (PySem.W.fnOf "multiplied" "multiplied" (defArgs s_multiplied) (defBody s_multiplied) (defScope s_multiplied) .none kV_multiplied dc_multiplied pm_multiplied an_multiplied cd_multiplied ct_multiplied), sl_multiplied⟩)
    (c_multiplied : PySem.W.codeIn K cd_multiplied "multiplied" = true)
    (k_multiplied : PySem.W.keepIn K (.ref f_multiplied) = true)
    (a_divided : PySem.W.nsIn K mainGlobals "divided" = some (some (.ref f_divided)))
    (l_divided : K.lookup f_divided = some ⟨oc_divided, od_divided, .func (PySem.W.fnOf "divided" "divided" (defArgs s_divided) (defBody s_divided) (defScope s_divided) .none kV_divided dc_divided pm_divided an_divided cd_divided ct_divided), sl_divided⟩)
    (c_divided : PySem.W.codeIn K cd_divided "divided" = true)
    (k_divided : PySem.W.keepIn K (.ref f_divided) = true)
    (a_is_fraction_from_nought : PySem.W.nsIn K mainGlobals "is_fraction_from_nought" = some (some (.ref f_is_fraction_from_nought)))
    (l_is_fraction_from_nought : K.lookup f_is_fraction_from_nought = some ⟨oc_is_fraction_from_nought, od_is_fraction_from_nought, .func (PySem.W.fnOf "is_fraction_from_nought" "is_fraction_from_nought" (defArgs s_is_fraction_from_nought) (defBody s_is_fraction_from_nought) (defScope s_is_fraction_from_nought) .none kV_is_fraction_from_nought dc_is_fraction_from_nought pm_is_fraction_from_nought an_is_fraction_from_nought cd_is_fraction_from_nought ct_is_fraction_from_nought), sl_is_fraction_from_nought⟩)
    (c_is_fraction_from_nought : PySem.W.codeIn K cd_is_fraction_from_nought "is_fraction_from_nought" = true)
    (k_is_fraction_from_nought : PySem.W.keepIn K (.ref f_is_fraction_from_nought) = true)
    (a_is_index : PySem.W.nsIn K mainGlobals "is_index" = some (some (.ref f_is_index)))
    (l_is_index : K.lookup f_is_index = some ⟨oc_is_index, od_is_index, .func (PySem.W.fnOf "is_index" "is_index" (defArgs s_is_index) (defBody s_is_index) (defScope s_is_index) .none kV_is_index dc_is_index pm_is_index an_is_index cd_is_index ct_is_index), sl_is_index⟩)
    (c_is_index : PySem.W.codeIn K cd_is_index "is_index" = true)
    (k_is_index : PySem.W.keepIn K (.ref f_is_index) = true)
    (a_trimmed : PySem.W.nsIn K mainGlobals "trimmed" = some (some (.ref f_trimmed)))
    (l_trimmed : K.lookup f_trimmed = some ⟨oc_trimmed, od_trimmed, .func (PySem.W.fnOf "trimmed" "trimmed" (defArgs s_trimmed) (defBody s_trimmed) (defScope s_trimmed) .none kV_trimmed dc_trimmed pm_trimmed an_trimmed cd_trimmed ct_trimmed), sl_trimmed⟩)
    (c_trimmed : PySem.W.codeIn K cd_trimmed "trimmed" = true)
    (k_trimmed : PySem.W.keepIn K (.ref f_trimmed) = true)
    (a_blend : PySem.W.nsIn K mainGlobals "blend" = some (some (.ref f_blend)))
    (l_blend : K.lookup f_blend = some ⟨oc_blend, od_blend, .func (PySem.W.fnOf "blend" "blend" (defArgs s_blend) (defBody s_blend) (defScope s_blend) .none kV_blend dc_blend pm_blend an_blend cd_blend ct_blend), sl_blend⟩)
    (c_blend : PySem.W.codeIn K cd_blend "blend" = true)
    (k_blend : PySem.W.keepIn K (.ref f_blend) = true)
    (a_raised : PySem.W.nsIn K mainGlobals "raised" = some (some (.ref f_raised)))
    (l_raised : K.lookup f_raised = some ⟨oc_raised, od_raised, .func (PySem.W.fnOf "raised" "raised" (defArgs s_raised) (defBody s_raised) (defScope s_raised) .none kV_raised dc_raised pm_raised an_raised cd_raised ct_raised), sl_raised⟩)
    (c_raised : PySem.W.codeIn K cd_raised "raised" = true)
    (k_raised : PySem.W.keepIn K (.ref f_raised) = true)
    (a_content : PySem.W.nsIn K mainGlobals "content" = some (some (.ref f_content)))
    (l_content : K.lookup f_content = some ⟨oc_content, od_content, .func (PySem.W.fnOf "content" "content" (defArgs s_content) (defBody s_content) (defScope s_content) .none kV_content dc_content pm_content an_content cd_content ct_content), sl_content⟩)
    (c_content : PySem.W.codeIn K cd_content "content" = true)
    (k_content : PySem.W.keepIn K (.ref f_content) = true)
    (a_shrunk : PySem.W.nsIn K mainGlobals "shrunk" = some (some (.ref f_shrunk)))
    (l_shrunk : K.lookup f_shrunk = some ⟨oc_shrunk, od_shrunk, .func (PySem.W.fnOf "shrunk" "shrunk" (defArgs s_shrunk) (defBody s_shrunk) (defScope s_shrunk) .none kV_shrunk dc_shrunk pm_shrunk an_shrunk cd_shrunk ct_shrunk), sl_shrunk⟩)
    (c_shrunk : PySem.W.codeIn K cd_shrunk "shrunk" = true)
    (k_shrunk : PySem.W.keepIn K (.ref f_shrunk) = true)
    (a_thinned : PySem.W.nsIn K mainGlobals "thinned" = some (some (.ref f_thinned)))
    (l_thinned : K.lookup f_thinned = some ⟨oc_thinned, od_thinned, .func (PySem.W.fnOf "thinned" "thinned" (defArgs s_thinned) (defBody s_thinned) (defScope s_thinned) .none kV_thinned dc_thinned pm_thinned an_thinned cd_thinned ct_thinned), sl_thinned⟩)
    (c_thinned : PySem.W.codeIn K cd_thinned "thinned" = true)
    (k_thinned : PySem.W.keepIn K (.ref f_thinned) = true)
    (a_scaled_value : PySem.W.nsIn K mainGlobals "scaled_value" = some (some (.ref f_scaled_value)))
    (l_scaled_value : K.lookup f_scaled_value = some ⟨oc_scaled_value, od_scaled_value, .func (PySem.W.fnOf "scaled_value" "scaled_value" (defArgs s_scaled_value) (defBody s_scaled_value) (defScope s_scaled_value) .none kV_scaled_value dc_scaled_value pm_scaled_value an_scaled_value cd_scaled_value ct_scaled_value), sl_scaled_value⟩)
    (c_scaled_value : PySem.W.codeIn K cd_scaled_value "scaled_value" = true)
    (k_scaled_value : PySem.W.keepIn K (.ref f_scaled_value) = true)
    (a_dyadic_value : PySem.W.nsIn K mainGlobals "dyadic_value" = some (some (.ref f_dyadic_value)))
    (l_dyadic_value : K.lookup f_dyadic_value = some ⟨oc_dyadic_value, od_dyadic_value, .func (PySem.W.fnOf "dyadic_value" "dyadic_value" (defArgs s_dyadic_value) (defBody s_dyadic_value) (defScope s_dyadic_value) .none kV_dyadic_value dc_dyadic_value pm_dyadic_value an_dyadic_value cd_dyadic_value ct_dyadic_value), sl_dyadic_value⟩)
    (c_dyadic_value : PySem.W.codeIn K cd_dyadic_value "dyadic_value" = true)
    (k_dyadic_value : PySem.W.keepIn K (.ref f_dyadic_value) = true)
    (a_fraction_sign : PySem.W.nsIn K mainGlobals "fraction_sign" = some (some (.ref f_fraction_sign)))
    (l_fraction_sign : K.lookup f_fraction_sign = some ⟨oc_fraction_sign, od_fraction_sign, .func (PySem.W.fnOf "fraction_sign" "fraction_sign" (defArgs s_fraction_sign) (defBody s_fraction_sign) (defScope s_fraction_sign) .none kV_fraction_sign dc_fraction_sign pm_fraction_sign an_fraction_sign cd_fraction_sign ct_fraction_sign), sl_fraction_sign⟩)
    (c_fraction_sign : PySem.W.codeIn K cd_fraction_sign "fraction_sign" = true)
    (k_fraction_sign : PySem.W.keepIn K (.ref f_fraction_sign) = true)
    (aC_Place : PySem.W.nsIn K mainGlobals "Place" = some (some (.ref C_Place)))
    (a_Place___init__ : PySem.W.findIn K (.ref C_Place) "__init__" = some (some (.ref f_Place___init__))) (i_Place___init__ : PySem.W.isFn K (.ref f_Place___init__) = true)
    (l_Place___init__ : K.lookup f_Place___init__ = some ⟨oc_Place___init__, od_Place___init__, .func (PySem.W.fnOf "__init__" "Place.__init__" (defArgs s_Place___init__) (defBody s_Place___init__) (defScope s_Place___init__) .none kV_Place___init__ dc_Place___init__ pm_Place___init__ an_Place___init__ cd_Place___init__ ct_Place___init__), sl_Place___init__⟩)
    (c_Place___init__ : PySem.W.codeIn K cd_Place___init__ "Place.__init__" = true)
    (k_Place___init__ : PySem.W.keepIn K (.ref f_Place___init__) = true)
    (pg_Place : PySem.W.plainGet K C_Place Str.empty = true) (hd_Place : PySem.W.hasDictIn K C_Place = true) (po_Place : PySem.W.plainOver K C_Place = true) (sa_Place : PySem.W.findIn K (.ref C_Place) "__setattr__" = some (some (.builtin "object.__setattr__"))) (mk_Place : PySem.W.makesIn K C_Place = true) (kc_Place : PySem.W.keepIn K (.ref C_Place) = true)
    (na_Place_told : PySem.W.findIn K (.ref C_Place) "told" = some none)
    (na_Place_polynomial : PySem.W.findIn K (.ref C_Place) "polynomial" = some none)
    (na_Place_start : PySem.W.findIn K (.ref C_Place) "start" = some none)
    (na_Place_leap : PySem.W.findIn K (.ref C_Place) "leap" = some none)
    (na_Place_rounds : PySem.W.findIn K (.ref C_Place) "rounds" = some none)
    (na_Place_low : PySem.W.findIn K (.ref C_Place) "low" = some none)
    (na_Place_high : PySem.W.findIn K (.ref C_Place) "high" = some none)
    (na_Place_bits : PySem.W.findIn K (.ref C_Place) "bits" = some none)
    (a_fraction_place : PySem.W.nsIn K mainGlobals "fraction_place" = some (some (.ref f_fraction_place)))
    (l_fraction_place : K.lookup f_fraction_place = some ⟨oc_fraction_place, od_fraction_place, .func (PySem.W.fnOf "fraction_place" "fraction_place" (defArgs s_fraction_place) (defBody s_fraction_place) (defScope s_fraction_place) .none kV_fraction_place dc_fraction_place pm_fraction_place an_fraction_place cd_fraction_place ct_fraction_place), sl_fraction_place⟩)
    (c_fraction_place : PySem.W.codeIn K cd_fraction_place "fraction_place" = true)
    (k_fraction_place : PySem.W.keepIn K (.ref f_fraction_place) = true)
    (a_sign_at_place : PySem.W.nsIn K mainGlobals "sign_at_place" = some (some (.ref f_sign_at_place)))
    (l_sign_at_place : K.lookup f_sign_at_place = some ⟨oc_sign_at_place, od_sign_at_place, .func (PySem.W.fnOf "sign_at_place" "sign_at_place" (defArgs s_sign_at_place) (defBody s_sign_at_place) (defScope s_sign_at_place) .none kV_sign_at_place dc_sign_at_place pm_sign_at_place an_sign_at_place cd_sign_at_place ct_sign_at_place), sl_sign_at_place⟩)
    (c_sign_at_place : PySem.W.codeIn K cd_sign_at_place "sign_at_place" = true)
    (k_sign_at_place : PySem.W.keepIn K (.ref f_sign_at_place) = true)
    (a_read_point : PySem.W.nsIn K mainGlobals "read_point" = some (some (.ref f_read_point)))
    (l_read_point : K.lookup f_read_point = some ⟨oc_read_point, od_read_point, .func (PySem.W.fnOf "read_point" "read_point" (defArgs s_read_point) (defBody s_read_point) (defScope s_read_point) .none kV_read_point dc_read_point pm_read_point an_read_point cd_read_point ct_read_point), sl_read_point⟩)
    (c_read_point : PySem.W.codeIn K cd_read_point "read_point" = true)
    (k_read_point : PySem.W.keepIn K (.ref f_read_point) = true)
    (a_check_point : PySem.W.nsIn K mainGlobals "check_point" = some (some (.ref f_check_point)))
    (l_check_point : K.lookup f_check_point = some ⟨oc_check_point, od_check_point, .func (PySem.W.fnOf "check_point" "check_point" (defArgs s_check_point) (defBody s_check_point) (defScope s_check_point) .none kV_check_point dc_check_point pm_check_point an_check_point cd_check_point ct_check_point), sl_check_point⟩)
    (c_check_point : PySem.W.codeIn K cd_check_point "check_point" = true)
    (k_check_point : PySem.W.keepIn K (.ref f_check_point) = true)
    (a_run_parts : PySem.W.nsIn K mainGlobals "run_parts" = some (some (.ref f_run_parts)))
    (l_run_parts : K.lookup f_run_parts = some ⟨oc_run_parts, od_run_parts, .func (PySem.W.fnOf "run_parts" "run_parts" (defArgs s_run_parts) (defBody s_run_parts) (defScope s_run_parts) .none kV_run_parts dc_run_parts pm_run_parts an_run_parts cd_run_parts ct_run_parts), sl_run_parts⟩)
    (c_run_parts : PySem.W.codeIn K cd_run_parts "run_parts" = true)
    (k_run_parts : PySem.W.keepIn K (.ref f_run_parts) = true)
    (a_thinned_run : PySem.W.nsIn K mainGlobals "thinned_run" = some (some (.ref f_thinned_run)))
    (l_thinned_run : K.lookup f_thinned_run = some ⟨oc_thinned_run, od_thinned_run, .func (PySem.W.fnOf "thinned_run" "thinned_run" (defArgs s_thinned_run) (defBody s_thinned_run) (defScope s_thinned_run) .none kV_thinned_run dc_thinned_run pm_thinned_run an_thinned_run cd_thinned_run ct_thinned_run), sl_thinned_run⟩)
    (c_thinned_run : PySem.W.codeIn K cd_thinned_run "thinned_run" = true)
    (k_thinned_run : PySem.W.keepIn K (.ref f_thinned_run) = true)
    (a_run_signs : PySem.W.nsIn K mainGlobals "run_signs" = some (some (.ref f_run_signs)))
    (l_run_signs : K.lookup f_run_signs = some ⟨oc_run_signs, od_run_signs, .func (PySem.W.fnOf "run_signs" "run_signs" (defArgs s_run_signs) (defBody s_run_signs) (defScope s_run_signs) .none kV_run_signs dc_run_signs pm_run_signs an_run_signs cd_run_signs ct_run_signs), sl_run_signs⟩)
    (c_run_signs : PySem.W.codeIn K cd_run_signs "run_signs" = true)
    (k_run_signs : PySem.W.keepIn K (.ref f_run_signs) = true)
    (a_is_row_of_fractions : PySem.W.nsIn K mainGlobals "is_row_of_fractions" = some (some (.ref f_is_row_of_fractions)))
    (l_is_row_of_fractions : K.lookup f_is_row_of_fractions = some ⟨oc_is_row_of_fractions, od_is_row_of_fractions, .func (PySem.W.fnOf "is_row_of_fractions" "is_row_of_fractions" (defArgs s_is_row_of_fractions) (defBody s_is_row_of_fractions) (defScope s_is_row_of_fractions) .none kV_is_row_of_fractions dc_is_row_of_fractions pm_is_row_of_fractions an_is_row_of_fractions cd_is_row_of_fractions ct_is_row_of_fractions), sl_is_row_of_fractions⟩)
    (c_is_row_of_fractions : PySem.W.codeIn K cd_is_row_of_fractions "is_row_of_fractions" = true)
    (k_is_row_of_fractions : PySem.W.keepIn K (.ref f_is_row_of_fractions) = true)
    (a_is_line : PySem.W.nsIn K mainGlobals "is_line" = some (some (.ref f_is_line)))
    (l_is_line : K.lookup f_is_line = some ⟨oc_is_line, od_is_line, .func (PySem.W.fnOf "is_line" "is_line" (defArgs s_is_line) (defBody s_is_line) (defScope s_is_line) .none kV_is_line dc_is_line pm_is_line an_is_line cd_is_line ct_is_line), sl_is_line⟩)
    (c_is_line : PySem.W.codeIn K cd_is_line "is_line" = true)
    (k_is_line : PySem.W.keepIn K (.ref f_is_line) = true)
    (a_check_line : PySem.W.nsIn K mainGlobals "check_line" = some (some (.ref f_check_line)))
    (l_check_line : K.lookup f_check_line = some ⟨oc_check_line, od_check_line, .func (PySem.W.fnOf "check_line" "check_line" (defArgs s_check_line) (defBody s_check_line) (defScope s_check_line) .none kV_check_line dc_check_line pm_check_line an_check_line cd_check_line ct_check_line), sl_check_line⟩)
    (c_check_line : PySem.W.codeIn K cd_check_line "check_line" = true)
    (k_check_line : PySem.W.keepIn K (.ref f_check_line) = true)
    (a_check_index : PySem.W.nsIn K mainGlobals "check_index" = some (some (.ref f_check_index)))
    (l_check_index : K.lookup f_check_index = some ⟨oc_check_index, od_check_index, .func (PySem.W.fnOf "check_index" "check_index" (defArgs s_check_index) (defBody s_check_index) (defScope s_check_index) .none kV_check_index dc_check_index pm_check_index an_check_index cd_check_index ct_check_index), sl_check_index⟩)
    (c_check_index : PySem.W.codeIn K cd_check_index "check_index" = true)
    (k_check_index : PySem.W.keepIn K (.ref f_check_index) = true)
    (a_check_pace : PySem.W.nsIn K mainGlobals "check_pace" = some (some (.ref f_check_pace)))
    (l_check_pace : K.lookup f_check_pace = some ⟨oc_check_pace, od_check_pace, .func (PySem.W.fnOf "check_pace" "check_pace" (defArgs s_check_pace) (defBody s_check_pace) (defScope s_check_pace) .none kV_check_pace dc_check_pace pm_check_pace an_check_pace cd_check_pace ct_check_pace), sl_check_pace⟩)
    (c_check_pace : PySem.W.codeIn K cd_check_pace "check_pace" = true)
    (k_check_pace : PySem.W.keepIn K (.ref f_check_pace) = true)
    (a_compare_pace : PySem.W.nsIn K mainGlobals "compare_pace" = some (some (.ref f_compare_pace)))
    (l_compare_pace : K.lookup f_compare_pace = some ⟨oc_compare_pace, od_compare_pace, .func (PySem.W.fnOf "compare_pace" "compare_pace" (defArgs s_compare_pace) (defBody s_compare_pace) (defScope s_compare_pace) .none kV_compare_pace dc_compare_pace pm_compare_pace an_compare_pace cd_compare_pace ct_compare_pace), sl_compare_pace⟩)
    (c_compare_pace : PySem.W.codeIn K cd_compare_pace "compare_pace" = true)
    (k_compare_pace : PySem.W.keepIn K (.ref f_compare_pace) = true)
    (a_is_shape : PySem.W.nsIn K mainGlobals "is_shape" = some (some (.ref f_is_shape)))
    (l_is_shape : K.lookup f_is_shape = some ⟨oc_is_shape, od_is_shape, .func (PySem.W.fnOf "is_shape" "is_shape" (defArgs s_is_shape) (defBody s_is_shape) (defScope s_is_shape) .none kV_is_shape dc_is_shape pm_is_shape an_is_shape cd_is_shape ct_is_shape), sl_is_shape⟩)
    (c_is_shape : PySem.W.codeIn K cd_is_shape "is_shape" = true)
    (k_is_shape : PySem.W.keepIn K (.ref f_is_shape) = true)
    (a_check_shape : PySem.W.nsIn K mainGlobals "check_shape" = some (some (.ref f_check_shape)))
    (l_check_shape : K.lookup f_check_shape = some ⟨oc_check_shape, od_check_shape, .func (PySem.W.fnOf "check_shape" "check_shape" (defArgs s_check_shape) (defBody s_check_shape) (defScope s_check_shape) .none kV_check_shape dc_check_shape pm_check_shape an_check_shape cd_check_shape ct_check_shape), sl_check_shape⟩)
    (c_check_shape : PySem.W.codeIn K cd_check_shape "check_shape" = true)
    (k_check_shape : PySem.W.keepIn K (.ref f_check_shape) = true)
    (a_twists_of : PySem.W.nsIn K mainGlobals "twists_of" = some (some (.ref f_twists_of)))
    (l_twists_of : K.lookup f_twists_of = some ⟨oc_twists_of, od_twists_of, .func (PySem.W.fnOf "twists_of" "twists_of" (defArgs s_twists_of) (defBody s_twists_of) (defScope s_twists_of) .none kV_twists_of dc_twists_of pm_twists_of an_twists_of cd_twists_of ct_twists_of), sl_twists_of⟩)
    (c_twists_of : PySem.W.codeIn K cd_twists_of "twists_of" = true)
    (k_twists_of : PySem.W.keepIn K (.ref f_twists_of) = true)
    (a_weighed : PySem.W.nsIn K mainGlobals "weighed" = some (some (.ref f_weighed)))
    (l_weighed : K.lookup f_weighed = some ⟨oc_weighed, od_weighed, .func (PySem.W.fnOf "weighed" "weighed" (defArgs s_weighed) (defBody s_weighed) (defScope s_weighed) .none kV_weighed dc_weighed pm_weighed an_weighed cd_weighed ct_weighed), sl_weighed⟩)
    (c_weighed : PySem.W.codeIn K cd_weighed "weighed" = true)
    (k_weighed : PySem.W.keepIn K (.ref f_weighed) = true)
    (a_twist_product : PySem.W.nsIn K mainGlobals "twist_product" = some (some (.ref f_twist_product)))
    (l_twist_product : K.lookup f_twist_product = some ⟨oc_twist_product, od_twist_product, .func (PySem.W.fnOf "twist_product" "twist_product" (defArgs s_twist_product) (defBody s_twist_product) (defScope s_twist_product) .none kV_twist_product dc_twist_product pm_twist_product an_twist_product cd_twist_product ct_twist_product), sl_twist_product⟩)
    (c_twist_product : PySem.W.codeIn K cd_twist_product "twist_product" = true)
    (k_twist_product : PySem.W.keepIn K (.ref f_twist_product) = true)
    (a_quotient_of : PySem.W.nsIn K mainGlobals "quotient_of" = some (some (.ref f_quotient_of)))
    (l_quotient_of : K.lookup f_quotient_of = some ⟨oc_quotient_of, od_quotient_of, .func (PySem.W.fnOf "quotient_of" "quotient_of" (defArgs s_quotient_of) (defBody s_quotient_of) (defScope s_quotient_of) .none kV_quotient_of dc_quotient_of pm_quotient_of an_quotient_of cd_quotient_of ct_quotient_of), sl_quotient_of⟩)
    (c_quotient_of : PySem.W.codeIn K cd_quotient_of "quotient_of" = true)
    (k_quotient_of : PySem.W.keepIn K (.ref f_quotient_of) = true)
    (a__law_spool : PySem.W.nsIn K mainGlobals "_law_spool" = some (some (.ref f__law_spool)))
    (l__law_spool : K.lookup f__law_spool = some ⟨oc__law_spool, od__law_spool, .func (PySem.W.fnOf "_law_spool" "_law_spool" (defArgs s__law_spool) (defBody s__law_spool) (defScope s__law_spool) .none kV__law_spool dc__law_spool pm__law_spool an__law_spool cd__law_spool ct__law_spool), sl__law_spool⟩)
    (c__law_spool : PySem.W.codeIn K cd__law_spool "_law_spool" = true)
    (k__law_spool : PySem.W.keepIn K (.ref f__law_spool) = true)
    (a__law_wind : PySem.W.nsIn K mainGlobals "_law_wind" = some (some (.ref f__law_wind)))
    (l__law_wind : K.lookup f__law_wind = some ⟨oc__law_wind, od__law_wind, .func (PySem.W.fnOf "_law_wind" "_law_wind" (defArgs s__law_wind) (defBody s__law_wind) (defScope s__law_wind) .none kV__law_wind dc__law_wind pm__law_wind an__law_wind cd__law_wind ct__law_wind), sl__law_wind⟩)
    (c__law_wind : PySem.W.codeIn K cd__law_wind "_law_wind" = true)
    (k__law_wind : PySem.W.keepIn K (.ref f__law_wind) = true)
    (a__law_any : PySem.W.nsIn K mainGlobals "_law_any" = some (some (.ref f__law_any)))
    (l__law_any : K.lookup f__law_any = some ⟨oc__law_any, od__law_any, .func (PySem.W.fnOf "_law_any" "_law_any" (defArgs s__law_any) (defBody s__law_any) (defScope s__law_any) .none kV__law_any dc__law_any pm__law_any an__law_any cd__law_any ct__law_any), sl__law_any⟩)
    (c__law_any : PySem.W.codeIn K cd__law_any "_law_any" = true)
    (k__law_any : PySem.W.keepIn K (.ref f__law_any) = true)
    (a__law_measure : PySem.W.nsIn K mainGlobals "_law_measure" = some (some (.ref f__law_measure)))
    (l__law_measure : K.lookup f__law_measure = some ⟨oc__law_measure, od__law_measure, .func (PySem.W.fnOf "_law_measure" "_law_measure" (defArgs s__law_measure) (defBody s__law_measure) (defScope s__law_measure) .none kV__law_measure dc__law_measure pm__law_measure an__law_measure cd__law_measure ct__law_measure), sl__law_measure⟩)
    (c__law_measure : PySem.W.codeIn K cd__law_measure "_law_measure" = true)
    (k__law_measure : PySem.W.keepIn K (.ref f__law_measure) = true)
    (a__law_frac : PySem.W.nsIn K mainGlobals "_law_frac" = some (some (.ref f__law_frac)))
    (l__law_frac : K.lookup f__law_frac = some ⟨oc__law_frac, od__law_frac, .func (PySem.W.fnOf "_law_frac" "_law_frac" (defArgs s__law_frac) (defBody s__law_frac) (defScope s__law_frac) .none kV__law_frac dc__law_frac pm__law_frac an__law_frac cd__law_frac ct__law_frac), sl__law_frac⟩)
    (c__law_frac : PySem.W.codeIn K cd__law_frac "_law_frac" = true)
    (k__law_frac : PySem.W.keepIn K (.ref f__law_frac) = true)
    (a__law_sum : PySem.W.nsIn K mainGlobals "_law_sum" = some (some (.ref f__law_sum)))
    (l__law_sum : K.lookup f__law_sum = some ⟨oc__law_sum, od__law_sum, .func (PySem.W.fnOf "_law_sum" "_law_sum" (defArgs s__law_sum) (defBody s__law_sum) (defScope s__law_sum) .none kV__law_sum dc__law_sum pm__law_sum an__law_sum cd__law_sum ct__law_sum), sl__law_sum⟩)
    (c__law_sum : PySem.W.codeIn K cd__law_sum "_law_sum" = true)
    (k__law_sum : PySem.W.keepIn K (.ref f__law_sum) = true)
    (a__law_gap : PySem.W.nsIn K mainGlobals "_law_gap" = some (some (.ref f__law_gap)))
    (l__law_gap : K.lookup f__law_gap = some ⟨oc__law_gap, od__law_gap, .func (PySem.W.fnOf "_law_gap" "_law_gap" (defArgs s__law_gap) (defBody s__law_gap) (defScope s__law_gap) .none kV__law_gap dc__law_gap pm__law_gap an__law_gap cd__law_gap ct__law_gap), sl__law_gap⟩)
    (c__law_gap : PySem.W.codeIn K cd__law_gap "_law_gap" = true)
    (k__law_gap : PySem.W.keepIn K (.ref f__law_gap) = true)
    (a__law_prod : PySem.W.nsIn K mainGlobals "_law_prod" = some (some (.ref f__law_prod)))
    (l__law_prod : K.lookup f__law_prod = some ⟨oc__law_prod, od__law_prod, .func (PySem.W.fnOf "_law_prod" "_law_prod" (defArgs s__law_prod) (defBody s__law_prod) (defScope s__law_prod) .none kV__law_prod dc__law_prod pm__law_prod an__law_prod cd__law_prod ct__law_prod), sl__law_prod⟩)
    (c__law_prod : PySem.W.codeIn K cd__law_prod "_law_prod" = true)
    (k__law_prod : PySem.W.keepIn K (.ref f__law_prod) = true)
    (a__law_per : PySem.W.nsIn K mainGlobals "_law_per" = some (some (.ref f__law_per)))
    (l__law_per : K.lookup f__law_per = some ⟨oc__law_per, od__law_per, .func (PySem.W.fnOf "_law_per" "_law_per" (defArgs s__law_per) (defBody s__law_per) (defScope s__law_per) .none kV__law_per dc__law_per pm__law_per an__law_per cd__law_per ct__law_per), sl__law_per⟩)
    (c__law_per : PySem.W.codeIn K cd__law_per "_law_per" = true)
    (k__law_per : PySem.W.keepIn K (.ref f__law_per) = true)
    (a__law_amount : PySem.W.nsIn K mainGlobals "_law_amount" = some (some (.ref f__law_amount)))
    (l__law_amount : K.lookup f__law_amount = some ⟨oc__law_amount, od__law_amount, .func (PySem.W.fnOf "_law_amount" "_law_amount" (defArgs s__law_amount) (defBody s__law_amount) (defScope s__law_amount) .none kV__law_amount dc__law_amount pm__law_amount an__law_amount cd__law_amount ct__law_amount), sl__law_amount⟩)
    (c__law_amount : PySem.W.codeIn K cd__law_amount "_law_amount" = true)
    (k__law_amount : PySem.W.keepIn K (.ref f__law_amount) = true)
    (a__law_end : PySem.W.nsIn K mainGlobals "_law_end" = some (some (.ref f__law_end)))
    (l__law_end : K.lookup f__law_end = some ⟨oc__law_end, od__law_end, .func (PySem.W.fnOf "_law_end" "_law_end" (defArgs s__law_end) (defBody s__law_end) (defScope s__law_end) .none kV__law_end dc__law_end pm__law_end an__law_end cd__law_end ct__law_end), sl__law_end⟩)
    (c__law_end : PySem.W.codeIn K cd__law_end "_law_end" = true)
    (k__law_end : PySem.W.keepIn K (.ref f__law_end) = true)
    (a__law_line : PySem.W.nsIn K mainGlobals "_law_line" = some (some (.ref f__law_line)))
    (l__law_line : K.lookup f__law_line = some ⟨oc__law_line, od__law_line, .func (PySem.W.fnOf "_law_line" "_law_line" (defArgs s__law_line) (defBody s__law_line) (defScope s__law_line) .none kV__law_line dc__law_line pm__law_line an__law_line cd__law_line ct__law_line), sl__law_line⟩)
    (c__law_line : PySem.W.codeIn K cd__law_line "_law_line" = true)
    (k__law_line : PySem.W.keepIn K (.ref f__law_line) = true)
    (a__law_pace : PySem.W.nsIn K mainGlobals "_law_pace" = some (some (.ref f__law_pace)))
    (l__law_pace : K.lookup f__law_pace = some ⟨oc__law_pace, od__law_pace, .func (PySem.W.fnOf "_law_pace" "_law_pace" (defArgs s__law_pace) (defBody s__law_pace) (defScope s__law_pace) .none kV__law_pace dc__law_pace pm__law_pace an__law_pace cd__law_pace ct__law_pace), sl__law_pace⟩)
    (c__law_pace : PySem.W.codeIn K cd__law_pace "_law_pace" = true)
    (k__law_pace : PySem.W.keepIn K (.ref f__law_pace) = true)
    (a__law_laps : PySem.W.nsIn K mainGlobals "_law_laps" = some (some (.ref f__law_laps)))
    (l__law_laps : K.lookup f__law_laps = some ⟨oc__law_laps, od__law_laps, .func (PySem.W.fnOf "_law_laps" "_law_laps" (defArgs s__law_laps) (defBody s__law_laps) (defScope s__law_laps) .none kV__law_laps dc__law_laps pm__law_laps an__law_laps cd__law_laps ct__law_laps), sl__law_laps⟩)
    (c__law_laps : PySem.W.codeIn K cd__law_laps "_law_laps" = true)
    (k__law_laps : PySem.W.keepIn K (.ref f__law_laps) = true)
    (a__law_twists : PySem.W.nsIn K mainGlobals "_law_twists" = some (some (.ref f__law_twists)))
    (l__law_twists : K.lookup f__law_twists = some ⟨oc__law_twists, od__law_twists, .func (PySem.W.fnOf "_law_twists" "_law_twists" (defArgs s__law_twists) (defBody s__law_twists) (defScope s__law_twists) .none kV__law_twists dc__law_twists pm__law_twists an__law_twists cd__law_twists ct__law_twists), sl__law_twists⟩)
    (c__law_twists : PySem.W.codeIn K cd__law_twists "_law_twists" = true)
    (k__law_twists : PySem.W.keepIn K (.ref f__law_twists) = true)
    (a__law_product : PySem.W.nsIn K mainGlobals "_law_product" = some (some (.ref f__law_product)))
    (l__law_product : K.lookup f__law_product = some ⟨oc__law_product, od__law_product, .func (PySem.W.fnOf "_law_product" "_law_product" (defArgs s__law_product) (defBody s__law_product) (defScope s__law_product) .none kV__law_product dc__law_product pm__law_product an__law_product cd__law_product ct__law_product), sl__law_product⟩)
    (c__law_product : PySem.W.codeIn K cd__law_product "_law_product" = true)
    (k__law_product : PySem.W.keepIn K (.ref f__law_product) = true)
    (a__law_shape : PySem.W.nsIn K mainGlobals "_law_shape" = some (some (.ref f__law_shape)))
    (l__law_shape : K.lookup f__law_shape = some ⟨oc__law_shape, od__law_shape, .func (PySem.W.fnOf "_law_shape" "_law_shape" (defArgs s__law_shape) (defBody s__law_shape) (defScope s__law_shape) .none kV__law_shape dc__law_shape pm__law_shape an__law_shape cd__law_shape ct__law_shape), sl__law_shape⟩)
    (c__law_shape : PySem.W.codeIn K cd__law_shape "_law_shape" = true)
    (k__law_shape : PySem.W.keepIn K (.ref f__law_shape) = true)
    (a__law_right : PySem.W.nsIn K mainGlobals "_law_right" = some (some (.ref f__law_right)))
    (l__law_right : K.lookup f__law_right = some ⟨oc__law_right, od__law_right, .func (PySem.W.fnOf "_law_right" "_law_right" (defArgs s__law_right) (defBody s__law_right) (defScope s__law_right) .none kV__law_right dc__law_right pm__law_right an__law_right cd__law_right ct__law_right), sl__law_right⟩)
    (c__law_right : PySem.W.codeIn K cd__law_right "_law_right" = true)
    (k__law_right : PySem.W.keepIn K (.ref f__law_right) = true)
    (a_law : PySem.W.nsIn K mainGlobals "law" = some (some (.ref f_law)))
    (l_law : K.lookup f_law = some ⟨oc_law, od_law, .func (PySem.W.fnOf "law" "law" (defArgs s_law) (defBody s_law) (defScope s_law) .none kV_law dc_law pm_law an_law cd_law ct_law), sl_law⟩)
    (c_law : PySem.W.codeIn K cd_law "law" = true)
    (k_law : PySem.W.keepIn K (.ref f_law) = true)
    (q_MOST_DISCS : PySem.W.nsIn K mainGlobals "MOST_DISCS" = some (some (.int 8 t_MOST_DISCS)))
    (q_NOUGHT : PySem.W.nsIn K mainGlobals "NOUGHT" = some (some (.ref k_NOUGHT))) (l_NOUGHT : K.lookup k_NOUGHT = some ⟨.type "tuple", od_NOUGHT, .seq #[.int 0 t0_NOUGHT, .int 1 t1_NOUGHT] n_NOUGHT, sl_NOUGHT⟩)
    (q_abs : PySem.W.nsIn K mainGlobals "abs" = some none)
    (q_all : PySem.W.nsIn K mainGlobals "all" = some none)
    (q_any : PySem.W.nsIn K mainGlobals "any" = some none)
    (q_bool : PySem.W.nsIn K mainGlobals "bool" = some none)
    (q_divmod : PySem.W.nsIn K mainGlobals "divmod" = some none)
    (q_enumerate : PySem.W.nsIn K mainGlobals "enumerate" = some none)
    (q_gcd : PySem.W.nsIn K mainGlobals "gcd" = some (some (.builtin "math.gcd")))
    (q_int : PySem.W.nsIn K mainGlobals "int" = some none)
    (q_isinstance : PySem.W.nsIn K mainGlobals "isinstance" = some none)
    (q_len : PySem.W.nsIn K mainGlobals "len" = some none)
    (q_list : PySem.W.nsIn K mainGlobals "list" = some none)
    (q_max : PySem.W.nsIn K mainGlobals "max" = some none)
    (q_min : PySem.W.nsIn K mainGlobals "min" = some none)
    (q_range : PySem.W.nsIn K mainGlobals "range" = some none)
    (q_repr : PySem.W.nsIn K mainGlobals "repr" = some none)
    (q_reversed : PySem.W.nsIn K mainGlobals "reversed" = some none)
    (q_tuple : PySem.W.nsIn K mainGlobals "tuple" = some none)
    (q_zip : PySem.W.nsIn K mainGlobals "zip" = some none) :
    ∃ fd : FuncData, (∀ (s : Shared) (v : Value), BindsTo s fd ⟨[v], []⟩ [("_law_script", v)]) ∧ ∀ base : Heap, K.In base → base.Ns mainGlobals mg → FnG l.prog w K mg base 9 fa fd ["_law_script"] (sp_law K) := by
  have e := hfa.symm.trans (PySem.W.mg_of X G a_law)
  cases e
  have T : { T : Tx K mg // T.a_law = fa ∧ T.d_law = PySem.W.fnOf "law" "law" (defArgs s_law) (defBody s_law) (defScope s_law) .none kV_law dc_law pm_law an_law cd_law ct_law } := ⟨{ a_is_whole := f_is_whole, d_is_whole := _, F_is_whole := fun_mk l_is_whole c_is_whole k_is_whole, g_is_whole := PySem.W.mg_of X G a_is_whole, a_is_fraction := f_is_fraction, d_is_fraction := _, F_is_fraction := fun_mk l_is_fraction c_is_fraction k_is_fraction, g_is_fraction := PySem.W.mg_of X G a_is_fraction, a_lowest := f_lowest, d_lowest := _, F_lowest := fun_mk l_lowest c_lowest k_lowest, g_lowest := PySem.W.mg_of X G a_lowest, a_sign_of := f_sign_of, d_sign_of := _, F_sign_of := fun_mk l_sign_of c_sign_of k_sign_of, g_sign_of := PySem.W.mg_of X G a_sign_of, a_count_changes := f_count_changes, d_count_changes := _, F_count_changes := fun_mk l_count_changes c_count_changes k_count_changes, g_count_changes := PySem.W.mg_of X G a_count_changes, a_added := f_added, d_added := _, F_added := fun_mk l_added c_added k_added, g_added := PySem.W.mg_of X G a_added, a_subtracted := f_subtracted, d_subtracted := _, F_subtracted := fun_mk l_subtracted c_subtracted k_subtracted, g_subtracted := PySem.W.mg_of X G a_subtracted, a_multiplied := f_multiplied, d_multiplied := _, F_multiplied := fun_mk l_multiplied c_multiplied k_multiplied, g_multiplied := PySem.W.mg_of X G a_multiplied, a_divided := f_divided, d_divided := _, F_divided := fun_mk l_divided c_divided k_divided, g_divided := PySem.W.mg_of X G a_divided, a_is_fraction_from_nought := f_is_fraction_from_nought, d_is_fraction_from_nought := _, F_is_fraction_from_nought := fun_mk l_is_fraction_from_nought c_is_fraction_from_nought k_is_fraction_from_nought, g_is_fraction_from_nought := PySem.W.mg_of X G a_is_fraction_from_nought, a_is_index := f_is_index, d_is_index := _, F_is_index := fun_mk l_is_index c_is_index k_is_index, g_is_index := PySem.W.mg_of X G a_is_index, a_trimmed := f_trimmed, d_trimmed := _, F_trimmed := fun_mk l_trimmed c_trimmed k_trimmed, g_trimmed := PySem.W.mg_of X G a_trimmed, a_blend := f_blend, d_blend := _, F_blend := fun_mk l_blend c_blend k_blend, g_blend := PySem.W.mg_of X G a_blend, a_raised := f_raised, d_raised := _, F_raised := fun_mk l_raised c_raised k_raised, g_raised := PySem.W.mg_of X G a_raised, a_content := f_content, d_content := _, F_content := fun_mk l_content c_content k_content, g_content := PySem.W.mg_of X G a_content, a_shrunk := f_shrunk, d_shrunk := _, F_shrunk := fun_mk l_shrunk c_shrunk k_shrunk, g_shrunk := PySem.W.mg_of X G a_shrunk, a_thinned := f_thinned, d_thinned := _, F_thinned := fun_mk l_thinned c_thinned k_thinned, g_thinned := PySem.W.mg_of X G a_thinned, a_scaled_value := f_scaled_value, d_scaled_value := _, F_scaled_value := fun_mk l_scaled_value c_scaled_value k_scaled_value, g_scaled_value := PySem.W.mg_of X G a_scaled_value, a_dyadic_value := f_dyadic_value, d_dyadic_value := _, F_dyadic_value := fun_mk l_dyadic_value c_dyadic_value k_dyadic_value, g_dyadic_value := PySem.W.mg_of X G a_dyadic_value, a_fraction_sign := f_fraction_sign, d_fraction_sign := _, F_fraction_sign := fun_mk l_fraction_sign c_fraction_sign k_fraction_sign, g_fraction_sign := PySem.W.mg_of X G a_fraction_sign, a_Place___init__ := f_Place___init__, d_Place___init__ := _, F_Place___init__ := fun_mk l_Place___init__ c_Place___init__ k_Place___init__, c_Place := C_Place, g_Place := PySem.W.mg_of X G aC_Place, cl_Place := ⟨pg_Place, hd_Place, po_Place, sa_Place⟩, mk_Place := ⟨mk_Place, a_Place___init__, i_Place___init__, kc_Place⟩, na_Place_told := na_Place_told, na_Place_polynomial := na_Place_polynomial, na_Place_start := na_Place_start, na_Place_leap := na_Place_leap, na_Place_rounds := na_Place_rounds, na_Place_low := na_Place_low, na_Place_high := na_Place_high, na_Place_bits := na_Place_bits, a_fraction_place := f_fraction_place, d_fraction_place := _, F_fraction_place := fun_mk l_fraction_place c_fraction_place k_fraction_place, g_fraction_place := PySem.W.mg_of X G a_fraction_place, a_sign_at_place := f_sign_at_place, d_sign_at_place := _, F_sign_at_place := fun_mk l_sign_at_place c_sign_at_place k_sign_at_place, g_sign_at_place := PySem.W.mg_of X G a_sign_at_place, a_read_point := f_read_point, d_read_point := _, F_read_point := fun_mk l_read_point c_read_point k_read_point, g_read_point := PySem.W.mg_of X G a_read_point, a_check_point := f_check_point, d_check_point := _, F_check_point := fun_mk l_check_point c_check_point k_check_point, g_check_point := PySem.W.mg_of X G a_check_point, a_run_parts := f_run_parts, d_run_parts := _, F_run_parts := fun_mk l_run_parts c_run_parts k_run_parts, g_run_parts := PySem.W.mg_of X G a_run_parts, a_thinned_run := f_thinned_run, d_thinned_run := _, F_thinned_run := fun_mk l_thinned_run c_thinned_run k_thinned_run, g_thinned_run := PySem.W.mg_of X G a_thinned_run, a_run_signs := f_run_signs, d_run_signs := _, F_run_signs := fun_mk l_run_signs c_run_signs k_run_signs, g_run_signs := PySem.W.mg_of X G a_run_signs, a_is_row_of_fractions := f_is_row_of_fractions, d_is_row_of_fractions := _, F_is_row_of_fractions := fun_mk l_is_row_of_fractions c_is_row_of_fractions k_is_row_of_fractions, g_is_row_of_fractions := PySem.W.mg_of X G a_is_row_of_fractions, a_is_line := f_is_line, d_is_line := _, F_is_line := fun_mk l_is_line c_is_line k_is_line, g_is_line := PySem.W.mg_of X G a_is_line, a_check_line := f_check_line, d_check_line := _, F_check_line := fun_mk l_check_line c_check_line k_check_line, g_check_line := PySem.W.mg_of X G a_check_line, a_check_index := f_check_index, d_check_index := _, F_check_index := fun_mk l_check_index c_check_index k_check_index, g_check_index := PySem.W.mg_of X G a_check_index, a_check_pace := f_check_pace, d_check_pace := _, F_check_pace := fun_mk l_check_pace c_check_pace k_check_pace, g_check_pace := PySem.W.mg_of X G a_check_pace, a_compare_pace := f_compare_pace, d_compare_pace := _, F_compare_pace := fun_mk l_compare_pace c_compare_pace k_compare_pace, g_compare_pace := PySem.W.mg_of X G a_compare_pace, a_is_shape := f_is_shape, d_is_shape := _, F_is_shape := fun_mk l_is_shape c_is_shape k_is_shape, g_is_shape := PySem.W.mg_of X G a_is_shape, a_check_shape := f_check_shape, d_check_shape := _, F_check_shape := fun_mk l_check_shape c_check_shape k_check_shape, g_check_shape := PySem.W.mg_of X G a_check_shape, a_twists_of := f_twists_of, d_twists_of := _, F_twists_of := fun_mk l_twists_of c_twists_of k_twists_of, g_twists_of := PySem.W.mg_of X G a_twists_of, a_weighed := f_weighed, d_weighed := _, F_weighed := fun_mk l_weighed c_weighed k_weighed, g_weighed := PySem.W.mg_of X G a_weighed, a_twist_product := f_twist_product, d_twist_product := _, F_twist_product := fun_mk l_twist_product c_twist_product k_twist_product, g_twist_product := PySem.W.mg_of X G a_twist_product, a_quotient_of := f_quotient_of, d_quotient_of := _, F_quotient_of := fun_mk l_quotient_of c_quotient_of k_quotient_of, g_quotient_of := PySem.W.mg_of X G a_quotient_of, a__law_spool := f__law_spool, d__law_spool := _, F__law_spool := fun_mk l__law_spool c__law_spool k__law_spool, g__law_spool := PySem.W.mg_of X G a__law_spool, a__law_wind := f__law_wind, d__law_wind := _, F__law_wind := fun_mk l__law_wind c__law_wind k__law_wind, g__law_wind := PySem.W.mg_of X G a__law_wind, a__law_any := f__law_any, d__law_any := _, F__law_any := fun_mk l__law_any c__law_any k__law_any, g__law_any := PySem.W.mg_of X G a__law_any, a__law_measure := f__law_measure, d__law_measure := _, F__law_measure := fun_mk l__law_measure c__law_measure k__law_measure, g__law_measure := PySem.W.mg_of X G a__law_measure, a__law_frac := f__law_frac, d__law_frac := _, F__law_frac := fun_mk l__law_frac c__law_frac k__law_frac, g__law_frac := PySem.W.mg_of X G a__law_frac, a__law_sum := f__law_sum, d__law_sum := _, F__law_sum := fun_mk l__law_sum c__law_sum k__law_sum, g__law_sum := PySem.W.mg_of X G a__law_sum, a__law_gap := f__law_gap, d__law_gap := _, F__law_gap := fun_mk l__law_gap c__law_gap k__law_gap, g__law_gap := PySem.W.mg_of X G a__law_gap, a__law_prod := f__law_prod, d__law_prod := _, F__law_prod := fun_mk l__law_prod c__law_prod k__law_prod, g__law_prod := PySem.W.mg_of X G a__law_prod, a__law_per := f__law_per, d__law_per := _, F__law_per := fun_mk l__law_per c__law_per k__law_per, g__law_per := PySem.W.mg_of X G a__law_per, a__law_amount := f__law_amount, d__law_amount := _, F__law_amount := fun_mk l__law_amount c__law_amount k__law_amount, g__law_amount := PySem.W.mg_of X G a__law_amount, a__law_end := f__law_end, d__law_end := _, F__law_end := fun_mk l__law_end c__law_end k__law_end, g__law_end := PySem.W.mg_of X G a__law_end, a__law_line := f__law_line, d__law_line := _, F__law_line := fun_mk l__law_line c__law_line k__law_line, g__law_line := PySem.W.mg_of X G a__law_line, a__law_pace := f__law_pace, d__law_pace := _, F__law_pace := fun_mk l__law_pace c__law_pace k__law_pace, g__law_pace := PySem.W.mg_of X G a__law_pace, a__law_laps := f__law_laps, d__law_laps := _, F__law_laps := fun_mk l__law_laps c__law_laps k__law_laps, g__law_laps := PySem.W.mg_of X G a__law_laps, a__law_twists := f__law_twists, d__law_twists := _, F__law_twists := fun_mk l__law_twists c__law_twists k__law_twists, g__law_twists := PySem.W.mg_of X G a__law_twists, a__law_product := f__law_product, d__law_product := _, F__law_product := fun_mk l__law_product c__law_product k__law_product, g__law_product := PySem.W.mg_of X G a__law_product, a__law_shape := f__law_shape, d__law_shape := _, F__law_shape := fun_mk l__law_shape c__law_shape k__law_shape, g__law_shape := PySem.W.mg_of X G a__law_shape, a__law_right := f__law_right, d__law_right := _, F__law_right := fun_mk l__law_right c__law_right k__law_right, g__law_right := PySem.W.mg_of X G a__law_right, a_law := fa, d_law := _, F_law := fun_mk l_law c_law k_law, g_law := PySem.W.mg_of X G a_law, t_MOST_DISCS := t_MOST_DISCS, c_MOST_DISCS := PySem.W.mg_of X G q_MOST_DISCS, k_NOUGHT := k_NOUGHT, c_NOUGHT := PySem.W.mg_of X G q_NOUGHT, v_NOUGHT := ct_pair l_NOUGHT, n_abs := PySem.W.mg_none_of X G q_abs, n_all := PySem.W.mg_none_of X G q_all, n_any := PySem.W.mg_none_of X G q_any, n_bool := PySem.W.mg_none_of X G q_bool, n_divmod := PySem.W.mg_none_of X G q_divmod, n_enumerate := PySem.W.mg_none_of X G q_enumerate, l_gcd := PySem.W.mg_of X G q_gcd, n_int := PySem.W.mg_none_of X G q_int, n_isinstance := PySem.W.mg_none_of X G q_isinstance, n_len := PySem.W.mg_none_of X G q_len, n_list := PySem.W.mg_none_of X G q_list, n_max := PySem.W.mg_none_of X G q_max, n_min := PySem.W.mg_none_of X G q_min, n_range := PySem.W.mg_none_of X G q_range, n_repr := PySem.W.mg_none_of X G q_repr, n_reversed := PySem.W.mg_none_of X G q_reversed, n_tuple := PySem.W.mg_none_of X G q_tuple, n_zip := PySem.W.mg_none_of X G q_zip }, rfl, rfl⟩
  obtain ⟨T, e1, e2⟩ := T
  refine ⟨T.d_law, fun s v => by rw [e2]; exact .of_eq rfl, fun base _ _ => ?_⟩
  have := ok_law (P := l.prog) (w := w) (base := base) T
  rw [e1] at this
  exact this
theorem walk {l : PySem.W.OpenLaw} {q : Program} {loose : List Str} {XP : (Str → Option Value) → Heap → Prop} {YP : World → Heap → Prop} {d : DefRec} {K : Params → PySem.W.Frag} (hn : l.most = some 63) (hdf : d.params.defaults = [])
    (hY : ∀ (w : World) (h : Heap), YP w h → (K w.params).In h)
    (F : ∀ (w : World) (mg : Str → Option Value) (fa : Addr) (h : Heap), (K w.params).In h → h.Ns mainGlobals mg → mg d.name = some (.ref fa) →
      ∃ fd : FuncData, (∀ (s : Shared) (u : Value), BindsTo s fd ⟨[u], []⟩ [("_law_script", u)]) ∧ ∀ base : Heap, (K w.params).In base → base.Ns mainGlobals mg → FnG l.prog w (K w.params) mg base 9 fa fd ["_law_script"] (sp_law (K w.params))) :
    PySem.W.WalkO q loose XP YP l.row.toRowW d [] (fun f vs => PySem.call f vs) :=
  DL.walk_ofG (n := 63) (k := 9) (x := "_law_script") (sp := sp_law) hn (by decide) hdf ⟨rfl, by decide, by decide⟩ hY F (fun _ _ a ns hl hS => ⟨a, ns, rfl, hS, hl, fun _ => rfl⟩)
end Law
open PySem PySem.W PyProof.Rows
set_option maxRecDepth 100000 in
set_option maxHeartbeats 0 in
theorem PySem.Challenge.cw_shaftshakes_k64_whole_products_and_quoti_holds : PySem.Challenge.rw_shaftshakes_k64_whole_products_and_quoti.Holds := by
  w_on; o_law; k_head; (case hw => w_witness2)
  k_fill
  refine Law.walk (l := PySem.Challenge.rw_shaftshakes_k64_whole_products_and_quoti) rfl rfl (fun w h Y => PySem.W.kIn_of Y) ?F
  case F =>
    intro w mg fa h KX G hmg
    refine' Law.all_mk KX G hmg ?a_is_whole ?l_is_whole ?c_is_whole ?k_is_whole ?a_is_fraction ?l_is_fraction ?c_is_fraction ?k_is_fraction ?a_lowest ?l_lowest ?c_lowest ?k_lowest ?a_sign_of ?l_sign_of ?c_sign_of ?k_sign_of ?a_count_changes ?l_count_changes ?c_count_changes ?k_count_changes ?a_added ?l_added ?c_added ?k_added ?a_subtracted ?l_subtracted ?c_subtracted ?k_subtracted ?a_multiplied ?l_multiplied ?c_multiplied ?k_multiplied ?a_divided ?l_divided ?c_divided ?k_divided ?a_is_fraction_from_nought ?l_is_fraction_from_nought ?c_is_fraction_from_nought ?k_is_fraction_from_nought ?a_is_index ?l_is_index ?c_is_index ?k_is_index ?a_trimmed ?l_trimmed ?c_trimmed ?k_trimmed ?a_blend ?l_blend ?c_blend ?k_blend ?a_raised ?l_raised ?c_raised ?k_raised ?a_content ?l_content ?c_content ?k_content ?a_shrunk ?l_shrunk ?c_shrunk ?k_shrunk ?a_thinned ?l_thinned ?c_thinned ?k_thinned ?a_scaled_value ?l_scaled_value ?c_scaled_value ?k_scaled_value ?a_dyadic_value ?l_dyadic_value ?c_dyadic_value ?k_dyadic_value ?a_fraction_sign ?l_fraction_sign ?c_fraction_sign ?k_fraction_sign ?aC_Place ?a_Place___init__ ?i_Place___init__ ?l_Place___init__ ?c_Place___init__ ?k_Place___init__ ?pg_Place ?hd_Place ?po_Place ?sa_Place ?mk_Place ?kc_Place ?na_Place_told ?na_Place_polynomial ?na_Place_start ?na_Place_leap ?na_Place_rounds ?na_Place_low ?na_Place_high ?na_Place_bits ?a_fraction_place ?l_fraction_place ?c_fraction_place ?k_fraction_place ?a_sign_at_place ?l_sign_at_place ?c_sign_at_place ?k_sign_at_place ?a_read_point ?l_read_point ?c_read_point ?k_read_point ?a_check_point ?l_check_point ?c_check_point ?k_check_point ?a_run_parts ?l_run_parts ?c_run_parts ?k_run_parts ?a_thinned_run ?l_thinned_run ?c_thinned_run ?k_thinned_run ?a_run_signs ?l_run_signs ?c_run_signs ?k_run_signs ?a_is_row_of_fractions ?l_is_row_of_fractions ?c_is_row_of_fractions ?k_is_row_of_fractions ?a_is_line ?l_is_line ?c_is_line ?k_is_line ?a_check_line ?l_check_line ?c_check_line ?k_check_line ?a_check_index ?l_check_index ?c_check_index ?k_check_index ?a_check_pace ?l_check_pace ?c_check_pace ?k_check_pace ?a_compare_pace ?l_compare_pace ?c_compare_pace ?k_compare_pace ?a_is_shape ?l_is_shape ?c_is_shape ?k_is_shape ?a_check_shape ?l_check_shape ?c_check_shape ?k_check_shape ?a_twists_of ?l_twists_of ?c_twists_of ?k_twists_of ?a_weighed ?l_weighed ?c_weighed ?k_weighed ?a_twist_product ?l_twist_product ?c_twist_product ?k_twist_product ?a_quotient_of ?l_quotient_of ?c_quotient_of ?k_quotient_of ?a__law_spool ?l__law_spool ?c__law_spool ?k__law_spool ?a__law_wind ?l__law_wind ?c__law_wind ?k__law_wind ?a__law_any ?l__law_any ?c__law_any ?k__law_any ?a__law_measure ?l__law_measure ?c__law_measure ?k__law_measure ?a__law_frac ?l__law_frac ?c__law_frac ?k__law_frac ?a__law_sum ?l__law_sum ?c__law_sum ?k__law_sum ?a__law_gap ?l__law_gap ?c__law_gap ?k__law_gap ?a__law_prod ?l__law_prod ?c__law_prod ?k__law_prod ?a__law_per ?l__law_per ?c__law_per ?k__law_per ?a__law_amount ?l__law_amount ?c__law_amount ?k__law_amount ?a__law_end ?l__law_end ?c__law_end ?k__law_end ?a__law_line ?l__law_line ?c__law_line ?k__law_line ?a__law_pace ?l__law_pace ?c__law_pace ?k__law_pace ?a__law_laps ?l__law_laps ?c__law_laps ?k__law_laps ?a__law_twists ?l__law_twists ?c__law_twists ?k__law_twists ?a__law_product ?l__law_product ?c__law_product ?k__law_product ?a__law_shape ?l__law_shape ?c__law_shape ?k__law_shape ?a__law_right ?l__law_right ?c__law_right ?k__law_right ?a_law ?l_law ?c_law ?k_law ?q_MOST_DISCS ?q_NOUGHT ?l_NOUGHT ?q_abs ?q_all ?q_any ?q_bool ?q_divmod ?q_enumerate ?q_gcd ?q_int ?q_isinstance ?q_len ?q_list ?q_max ?q_min ?q_range ?q_repr ?q_reversed ?q_tuple ?q_zip
    (case a_is_whole => k_is)
    (case l_is_whole => k_is)
    (case c_is_whole => k_is)
    (case k_is_whole => k_is)
    (case a_is_fraction => k_is)
    (case l_is_fraction => k_is)
    (case c_is_fraction => k_is)
    (case k_is_fraction => k_is)
    (case a_lowest => k_is)
    (case l_lowest => k_is)
    (case c_lowest => k_is)
    (case k_lowest => k_is)
    (case a_sign_of => k_is)
    (case l_sign_of => k_is)
    (case c_sign_of => k_is)
    (case k_sign_of => k_is)
    (case a_count_changes => k_is)
    (case l_count_changes => k_is)
    (case c_count_changes => k_is)
    (case k_count_changes => k_is)
    (case a_added => k_is)
    (case l_added => k_is)
    (case c_added => k_is)
    (case k_added => k_is)
    (case a_subtracted => k_is)
    (case l_subtracted => k_is)
    (case c_subtracted => k_is)
    (case k_subtracted => k_is)
    (case a_multiplied => k_is)
    (case l_multiplied => k_is)
    (case c_multiplied => k_is)
    (case k_multiplied => k_is)
    (case a_divided => k_is)
    (case l_divided => k_is)
    (case c_divided => k_is)
    (case k_divided => k_is)
    (case a_is_fraction_from_nought => k_is)
    (case l_is_fraction_from_nought => k_is)
    (case c_is_fraction_from_nought => k_is)
    (case k_is_fraction_from_nought => k_is)
    (case a_is_index => k_is)
    (case l_is_index => k_is)
    (case c_is_index => k_is)
    (case k_is_index => k_is)
    (case a_trimmed => k_is)
    (case l_trimmed => k_is)
    (case c_trimmed => k_is)
    (case k_trimmed => k_is)
    (case a_blend => k_is)
    (case l_blend => k_is)
    (case c_blend => k_is)
    (case k_blend => k_is)
    (case a_raised => k_is)
    (case l_raised => k_is)
    (case c_raised => k_is)
    (case k_raised => k_is)
    (case a_content => k_is)
    (case l_content => k_is)
    (case c_content => k_is)
    (case k_content => k_is)
    (case a_shrunk => k_is)
    (case l_shrunk => k_is)
    (case c_shrunk => k_is)
    (case k_shrunk => k_is)
    (case a_thinned => k_is)
    (case l_thinned => k_is)
    (case c_thinned => k_is)
    (case k_thinned => k_is)
    (case a_scaled_value => k_is)
    (case l_scaled_value => k_is)
    (case c_scaled_value => k_is)
    (case k_scaled_value => k_is)
    (case a_dyadic_value => k_is)
    (case l_dyadic_value => k_is)
    (case c_dyadic_value => k_is)
    (case k_dyadic_value => k_is)
    (case a_fraction_sign => k_is)
    (case l_fraction_sign => k_is)
    (case c_fraction_sign => k_is)
    (case k_fraction_sign => k_is)
    (case aC_Place => k_is)
    (case a_Place___init__ => k_is)
    (case i_Place___init__ => k_is)
    (case l_Place___init__ => k_is)
    (case c_Place___init__ => k_is)
    (case k_Place___init__ => k_is)
    (case pg_Place => k_is)
    (case hd_Place => k_is)
    (case po_Place => k_is)
    (case sa_Place => k_is)
    (case mk_Place => k_is)
    (case kc_Place => k_is)
    (case na_Place_told => k_is)
    (case na_Place_polynomial => k_is)
    (case na_Place_start => k_is)
    (case na_Place_leap => k_is)
    (case na_Place_rounds => k_is)
    (case na_Place_low => k_is)
    (case na_Place_high => k_is)
    (case na_Place_bits => k_is)
    (case a_fraction_place => k_is)
    (case l_fraction_place => k_is)
    (case c_fraction_place => k_is)
    (case k_fraction_place => k_is)
    (case a_sign_at_place => k_is)
    (case l_sign_at_place => k_is)
    (case c_sign_at_place => k_is)
    (case k_sign_at_place => k_is)
    (case a_read_point => k_is)
    (case l_read_point => k_is)
    (case c_read_point => k_is)
    (case k_read_point => k_is)
    (case a_check_point => k_is)
    (case l_check_point => k_is)
    (case c_check_point => k_is)
    (case k_check_point => k_is)
    (case a_run_parts => k_is)
    (case l_run_parts => k_is)
    (case c_run_parts => k_is)
    (case k_run_parts => k_is)
    (case a_thinned_run => k_is)
    (case l_thinned_run => k_is)
    (case c_thinned_run => k_is)
    (case k_thinned_run => k_is)
    (case a_run_signs => k_is)
    (case l_run_signs => k_is)
    (case c_run_signs => k_is)
    (case k_run_signs => k_is)
    (case a_is_row_of_fractions => k_is)
    (case l_is_row_of_fractions => k_is)
    (case c_is_row_of_fractions => k_is)
    (case k_is_row_of_fractions => k_is)
    (case a_is_line => k_is)
    (case l_is_line => k_is)
    (case c_is_line => k_is)
    (case k_is_line => k_is)
    (case a_check_line => k_is)
    (case l_check_line => k_is)
    (case c_check_line => k_is)
    (case k_check_line => k_is)
    (case a_check_index => k_is)
    (case l_check_index => k_is)
    (case c_check_index => k_is)
    (case k_check_index => k_is)
    (case a_check_pace => k_is)
    (case l_check_pace => k_is)
    (case c_check_pace => k_is)
    (case k_check_pace => k_is)
    (case a_compare_pace => k_is)
    (case l_compare_pace => k_is)
    (case c_compare_pace => k_is)
    (case k_compare_pace => k_is)
    (case a_is_shape => k_is)
    (case l_is_shape => k_is)
    (case c_is_shape => k_is)
    (case k_is_shape => k_is)
    (case a_check_shape => k_is)
    (case l_check_shape => k_is)
    (case c_check_shape => k_is)
    (case k_check_shape => k_is)
    (case a_twists_of => k_is)
    (case l_twists_of => k_is)
    (case c_twists_of => k_is)
    (case k_twists_of => k_is)
    (case a_weighed => k_is)
    (case l_weighed => k_is)
    (case c_weighed => k_is)
    (case k_weighed => k_is)
    (case a_twist_product => k_is)
    (case l_twist_product => k_is)
    (case c_twist_product => k_is)
    (case k_twist_product => k_is)
    (case a_quotient_of => k_is)
    (case l_quotient_of => k_is)
    (case c_quotient_of => k_is)
    (case k_quotient_of => k_is)
    (case a__law_spool => k_is)
    (case l__law_spool => k_is)
    (case c__law_spool => k_is)
    (case k__law_spool => k_is)
    (case a__law_wind => k_is)
    (case l__law_wind => k_is)
    (case c__law_wind => k_is)
    (case k__law_wind => k_is)
    (case a__law_any => k_is)
    (case l__law_any => k_is)
    (case c__law_any => k_is)
    (case k__law_any => k_is)
    (case a__law_measure => k_is)
    (case l__law_measure => k_is)
    (case c__law_measure => k_is)
    (case k__law_measure => k_is)
    (case a__law_frac => k_is)
    (case l__law_frac => k_is)
    (case c__law_frac => k_is)
    (case k__law_frac => k_is)
    (case a__law_sum => k_is)
    (case l__law_sum => k_is)
    (case c__law_sum => k_is)
    (case k__law_sum => k_is)
    (case a__law_gap => k_is)
    (case l__law_gap => k_is)
    (case c__law_gap => k_is)
    (case k__law_gap => k_is)
    (case a__law_prod => k_is)
    (case l__law_prod => k_is)
    (case c__law_prod => k_is)
    (case k__law_prod => k_is)
    (case a__law_per => k_is)
    (case l__law_per => k_is)
    (case c__law_per => k_is)
    (case k__law_per => k_is)
    (case a__law_amount => k_is)
    (case l__law_amount => k_is)
    (case c__law_amount => k_is)
    (case k__law_amount => k_is)
    (case a__law_end => k_is)
    (case l__law_end => k_is)
    (case c__law_end => k_is)
    (case k__law_end => k_is)
    (case a__law_line => k_is)
    (case l__law_line => k_is)
    (case c__law_line => k_is)
    (case k__law_line => k_is)
    (case a__law_pace => k_is)
    (case l__law_pace => k_is)
    (case c__law_pace => k_is)
    (case k__law_pace => k_is)
    (case a__law_laps => k_is)
    (case l__law_laps => k_is)
    (case c__law_laps => k_is)
    (case k__law_laps => k_is)
    (case a__law_twists => k_is)
    (case l__law_twists => k_is)
    (case c__law_twists => k_is)
    (case k__law_twists => k_is)
    (case a__law_product => k_is)
    (case l__law_product => k_is)
    (case c__law_product => k_is)
    (case k__law_product => k_is)
    (case a__law_shape => k_is)
    (case l__law_shape => k_is)
    (case c__law_shape => k_is)
    (case k__law_shape => k_is)
    (case a__law_right => k_is)
    (case l__law_right => k_is)
    (case c__law_right => k_is)
    (case k__law_right => k_is)
    (case a_law => k_is)
    (case l_law => k_is)
    (case c_law => k_is)
    (case k_law => k_is)
    (case q_MOST_DISCS => k_is)
    (case q_NOUGHT => k_is)
    (case l_NOUGHT => k_is)
    (case q_abs => k_is)
    (case q_all => k_is)
    (case q_any => k_is)
    (case q_bool => k_is)
    (case q_divmod => k_is)
    (case q_enumerate => k_is)
    (case q_gcd => k_is)
    (case q_int => k_is)
    (case q_isinstance => k_is)
    (case q_len => k_is)
    (case q_list => k_is)
    (case q_max => k_is)
    (case q_min => k_is)
    (case q_range => k_is)
    (case q_repr => k_is)
    (case q_reversed => k_is)
    (case q_tuple => k_is)
    (case q_zip => k_is)
