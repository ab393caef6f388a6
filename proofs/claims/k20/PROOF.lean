import PyProof.Rows.All
import Wide.All
import OpenK.AllK
import Wide.FinOn
import HandS.ForMost
import HandS.IsInst
import HandS.Style
import HandS.TupAny
import HandS.TupMul
import HandS.Gcd
import HandS.Wide
import HandS.WideBits
import HandS.Conv
import HandS.Exc
import HandS.Zip0
import KE.GoesMore
import PyProof.Draws
import PyProof.EnumMake
import PyProof.ReprRoads
import PyProof.ReprLen
import PyProof.Rows.RegStrFacts
import HandS.RaiseMore
import HandS.TryOnly
import KE.KMathGC
import PySem.Challenge.RW_shaftshakes_k20_whole_lines_told_of_anyt
set_option Elab.async false
set_option linter.all false
set_option maxRecDepth 100000
set_option maxHeartbeats 4000000
/-! A layer over HandS: values are told as data, one mutable list (the well) and local lists apart. -/
namespace DL
open PySem PySem.Spec PyProof.Rows L2

/-! ### data -/
mutual
inductive Dn (K : PySem.W.Frag) (H : Hp) : V → PyData → Prop
  | non : Dn K H .non .none
  | bl (b : Bool) : Dn K H (.bl b) (.bool b)
  | int (i : Int) : Dn K H (.int i) (.int i)
  | str (x : Str) : Dn K H (.str x) (.str x)
  | lst {a : Addr} {xs : List V} {ds : List PyData} : H a = some (.lst xs) → DnA K H xs ds → Dn K H (.ref a) (.list ds)
  | tup {a : Addr} {xs : List V} {ds : List PyData} : SqT K H a xs → DnA K H xs ds → Dn K H (.ref a) (.tuple ds)
  | emp {a : Addr} : H a = some (.dK []) → Dn K H (.ref a) (.dict [])
inductive DnA (K : PySem.W.Frag) (H : Hp) : List V → List PyData → Prop
  | nil : DnA K H [] []
  | cons {v : V} {vs : List V} {d : PyData} {ds : List PyData} : Dn K H v d → DnA K H vs ds → DnA K H (v :: vs) (d :: ds)
end

theorem Same.sqt {K : PySem.W.Frag} {H H' : Hp} {a : Addr} {xs : List V} (e : Same H H') (h : SqT K H a xs) : SqT K H' a xs := by
  rcases h with (h | ⟨o, h⟩) | h
  · exact .inl (.inl (e _ _ h))
  · exact .inl (.inr ⟨o, e _ _ h⟩)
  · exact .inr h

section
variable {K : PySem.W.Frag} {H H' : Hp}
mutual
theorem Dn.mono (e : Same H H') : ∀ {v : V} {d : PyData}, Dn K H v d → Dn K H' v d
  | _, _, .non => .non
  | _, _, .bl b => .bl b
  | _, _, .int i => .int i
  | _, _, .str x => .str x
  | _, _, .lst h1 h2 => .lst (e _ _ h1) (DnA.mono e h2)
  | _, _, .tup h1 h2 => .tup (Same.sqt e h1) (DnA.mono e h2)
  | _, _, .emp h => .emp (e _ _ h)
theorem DnA.mono (e : Same H H') : ∀ {vs : List V} {ds : List PyData}, DnA K H vs ds → DnA K H' vs ds
  | _, _, .nil => .nil
  | _, _, .cons h1 h2 => .cons (Dn.mono e h1) (DnA.mono e h2)
end
theorem DnA.length : ∀ {vs : List V} {ds : List PyData}, DnA K H vs ds → vs.length = ds.length
  | _, _, .nil => rfl
  | _, _, .cons _ h => by
    show _ + 1 = _ + 1
    rw [DnA.length h]
theorem DnA.get : ∀ {vs : List V} {ds : List PyData} {i : Nat} {d : PyData}, DnA K H vs ds → ds[i]? = some d → ∃ v, vs[i]? = some v ∧ Dn K H v d
  | _, _, i, _, .nil, e => by simp at e
  | _, _, 0, _, .cons h _, e => by
    simp at e
    subst e
    exact ⟨_, rfl, h⟩
  | _, _, i + 1, _, .cons _ h, e => by
    obtain ⟨v, q, r⟩ := DnA.get (i := i) h (by simpa using e)
    exact ⟨v, by simpa using q, r⟩
theorem DnA.getV : ∀ {vs : List V} {ds : List PyData} {i : Nat} {v : V}, DnA K H vs ds → vs[i]? = some v → ∃ d, ds[i]? = some d ∧ Dn K H v d
  | _, _, i, _, .nil, e => by simp at e
  | _, _, 0, _, .cons h _, e => by
    simp at e
    subst e
    exact ⟨_, rfl, h⟩
  | _, _, i + 1, _, .cons _ h, e => by
    obtain ⟨v, q, r⟩ := DnA.getV (i := i) h (by simpa using e)
    exact ⟨v, by simpa using q, r⟩
theorem DnA.append : ∀ {vs ws : List V} {ds es : List PyData}, DnA K H vs ds → DnA K H ws es → DnA K H (vs ++ ws) (ds ++ es)
  | _, _, _, _, .nil, h => h
  | _, _, _, _, .cons h1 h2, h => .cons h1 (DnA.append h2 h)
theorem DnA.take : ∀ {vs : List V} {ds : List PyData} (n : Nat), DnA K H vs ds → DnA K H (vs.take n) (ds.take n)
  | _, _, 0, _ => .nil
  | _, _, _ + 1, .nil => .nil
  | _, _, n + 1, .cons h1 h2 => .cons h1 (DnA.take n h2)
theorem DnA.drop : ∀ {vs : List V} {ds : List PyData} (n : Nat), DnA K H vs ds → DnA K H (vs.drop n) (ds.drop n)
  | _, _, 0, h => h
  | _, _, _ + 1, .nil => .nil
  | _, _, n + 1, .cons h1 h2 => DnA.drop n h2
theorem DnA.set : ∀ {vs : List V} {ds : List PyData} (i : Nat) {v : V} {d : PyData}, DnA K H vs ds → Dn K H v d → DnA K H (vs.set i v) (ds.set i d)
  | _, _, _, _, _, .nil, _ => .nil
  | _, _, 0, _, _, .cons _ h2, h => .cons h h2
  | _, _, i + 1, _, _, .cons h1 h2, h => .cons h1 (DnA.set i h2 h)
theorem DnA.rev : ∀ {vs : List V} {ds : List PyData}, DnA K H vs ds → DnA K H vs.reverse ds.reverse
  | _, _, .nil => .nil
  | _, _, .cons h1 h2 => by
    rw [List.reverse_cons, List.reverse_cons]
    exact DnA.append (DnA.rev h2) (.cons h1 .nil)
theorem DnA.ints : ∀ {vs : List V} {ns : List Int}, DnA K H vs (ns.map PyData.int) → vs = ns.map V.int
  | _, [], .nil => rfl
  | _, n :: ns, .cons h1 h2 => by
    cases h1
    rw [DnA.ints h2]
    rfl
theorem DnA.of_ints : ∀ (ns : List Int), DnA K H (ns.map V.int) (ns.map PyData.int)
  | [] => .nil
  | n :: ns => .cons (.int n) (DnA.of_ints ns)
theorem DnA.bools : ∀ {vs : List V} {ns : List Bool}, DnA K H vs (ns.map PyData.bool) → vs = ns.map V.bl
  | _, [], .nil => rfl
  | _, n :: ns, .cons h1 h2 => by
    cases h1
    rw [DnA.bools h2]
    rfl
theorem DnA.rep {v : V} {d : PyData} (h : Dn K H v d) : ∀ n : Nat, DnA K H (List.replicate n v) (List.replicate n d)
  | 0 => .nil
  | n + 1 => .cons h (DnA.rep h n)
end

/-! ### what is hidden -/
def hid (M : List Addr) (H : Hp) : Hp := fun a => if a ∈ M then none else H a
theorem hid_out {M : List Addr} {H : Hp} {a : Addr} (h : a ∉ M) : hid M H a = H a := by unfold hid; rw [if_neg h]
theorem hid_some {M : List Addr} {H : Hp} {a : Addr} {o : HO} (h : hid M H a = some o) : a ∉ M ∧ H a = some o := by
  unfold hid at h
  by_cases q : a ∈ M
  · rw [if_pos q] at h; cases h
  · rw [if_neg q] at h; exact ⟨q, h⟩
theorem hid_sub (M : List Addr) (H : Hp) : Same (hid M H) H := fun a o h => (hid_some h).2
theorem hid_less {M N : List Addr} (H : Hp) (h : ∀ a ∈ N, a ∈ M) : Same (hid M H) (hid N H) := fun a o e => by
  obtain ⟨q, e⟩ := hid_some e
  rw [hid_out (fun z => q (h a z))]
  exact e
theorem hid_same {M : List Addr} {H H' : Hp} (h : ∀ a o, a ∉ M → H a = some o → H' a = some o) : Same (hid M H) (hid M H') := fun a o e => by
  obtain ⟨q, e⟩ := hid_some e
  rw [hid_out q]
  exact h a o q e

/-! ### slots -/
inductive Sl where
  | un
  | d (x : PyData)
  | own (l : Addr) (xs : List PyData)
  | well (w : Addr)
  | raw (v : V)

def WellAt (H : Hp) (w : Addr) : Prop := ∃ n b c : Int, H w = some (.lst [.int n, .int b, .int c]) ∧ 0 ≤ n ∧ 0 ≤ b ∧ b < 1099511627776

def SlotOk (K : PySem.W.Frag) (M : List Addr) (H : Hp) (ov : Option V) : Sl → Prop
  | .un => True
  | .d x => ∃ v, ov = some v ∧ Dn K (hid M H) v x
  | .own l xs => ov = some (.ref l) ∧ ∃ vs, H l = some (.lst vs) ∧ DnA K (hid M H) vs xs
  | .well w => ov = some (.ref w)
  | .raw v => ov = some v

structure Bs where
  M : List Addr
  Ws : List Addr
  H : Hp

structure Env (K : PySem.W.Frag) (B : Bs) (G : List Hp) (L : List Addr) (H : Hp) (σ : L2.St) (Γ : List Sl) : Prop where
  fr : ∀ a o, a ∉ B.Ws → B.H a = some o → H a = some o
  ws : ∀ w ∈ B.Ws, WellAt H w
  wm : ∀ w ∈ B.Ws, w ∈ B.M
  lm : ∀ m ∈ B.M, ∃ o, B.H m = some o
  lo : ∀ l ∈ L, B.H l = none ∧ ∃ xs, H l = some (.lst xs)
  len : σ.length = Γ.length
  sl : ∀ (i : Nat) (s : Sl), Γ[i]? = some s → SlotOk K (L ++ B.M) H (σ[i]?.join) s
  gh : ∀ g ∈ G, Same g (hid (L ++ B.M) H)
  ow : ∀ (i : Nat) (l : Addr) (xs : List PyData), Γ[i]? = some (.own l xs) → l ∈ L
  ou : ∀ (i j : Nat) (l : Addr) (xs ys : List PyData), Γ[i]? = some (.own l xs) → Γ[j]? = some (.own l ys) → i = j
  we : ∀ (i : Nat) (w : Addr), Γ[i]? = some (.well w) → w ∈ B.Ws

section
variable {K : PySem.W.Frag} {B : Bs} {G : List Hp} {L : List Addr} {H H' : Hp} {σ : L2.St} {Γ : List Sl}

theorem WellAt.ne {w a : Addr} (h : WellAt H w) (n : H a = none) : a ≠ w := by
  rintro rfl
  obtain ⟨_, _, _, e, _⟩ := h
  rw [n] at e; cases e
theorem Env.alive (E : Env K B G L H σ Γ) : ∀ a ∈ L ++ B.M, ∃ o, H a = some o := fun a ha => by
  rcases List.mem_append.mp ha with h | h
  · obtain ⟨_, xs, e⟩ := E.lo a h
    exact ⟨_, e⟩
  · by_cases w : a ∈ B.Ws
    · obtain ⟨n, b, c, e, _⟩ := E.ws a w
      exact ⟨_, e⟩
    · obtain ⟨o, e⟩ := E.lm a h
      exact ⟨o, E.fr a o w e⟩
theorem Env.newM (E : Env K B G L H σ Γ) {p : Addr} (h : H p = none) : p ∉ L ++ B.M := fun q => by
  obtain ⟨o, e⟩ := E.alive p q
  rw [h] at e; cases e
theorem Env.lW (E : Env K B G L H σ Γ) {l : Addr} (h : l ∈ L) : l ∉ B.Ws := fun w => by
  obtain ⟨o, e⟩ := E.lm l (E.wm l w)
  rw [(E.lo l h).1] at e; cases e
/-- all but the wells is kept -/
theorem Env.step (E : Env K B G L H σ Γ) (h1 : ∀ a o, a ∉ B.Ws → H a = some o → H' a = some o) (h2 : ∀ w ∈ B.Ws, WellAt H' w) :
    Env K B G L H' σ Γ ∧ Same (hid (L ++ B.M) H) (hid (L ++ B.M) H') := by
  have hs : Same (hid (L ++ B.M) H) (hid (L ++ B.M) H') := hid_same fun a o q e => h1 a o (fun w => q (List.mem_append_right _ (E.wm a w))) e
  refine ⟨⟨fun a o w e => h1 a o w (E.fr a o w e), h2, E.wm, E.lm, fun l hl => ?_, E.len, fun i s hi => ?_, fun p hp => (E.gh p hp).trans hs, E.ow, E.ou, E.we⟩, hs⟩
  · obtain ⟨e, xs, q⟩ := E.lo l hl
    exact ⟨e, xs, h1 l _ (E.lW hl) q⟩
  · have q := E.sl i s hi
    cases s with
    | un => trivial
    | d x =>
      obtain ⟨v, e, dn⟩ := q
      exact ⟨v, e, dn.mono hs⟩
    | own l xs =>
      obtain ⟨e, vs, hl, dn⟩ := q
      exact ⟨e, vs, h1 l _ (E.lW (E.ow i l xs hi)) hl, dn.mono hs⟩
    | well w => exact q
    | raw v => exact q
theorem Env.ext (E : Env K B G L H σ Γ) (h : Same H H') : Env K B G L H' σ Γ ∧ Same (hid (L ++ B.M) H) (hid (L ++ B.M) H') :=
  E.step (fun a o _ e => h a o e) fun w hw => by
    obtain ⟨n, b, c, e, q⟩ := E.ws w hw
    exact ⟨n, b, c, h _ _ e, q⟩
theorem same_upd {H : Hp} {p : Addr} {o : HO} (h : H p = none) : Same H (upd H p o) := fun b x e => by
  rw [upd_ne (ne_of_none e h)]
  exact e
theorem hid_new {M : List Addr} {H : Hp} {p : Addr} {o : HO} (h : p ∉ M) : hid M (upd H p o) p = some o := by
  rw [hid_out h]
  exact upd_same
theorem Env.get (E : Env K B G L H σ Γ) {i : Nat} {x : PyData} (h : Γ[i]? = some (.d x)) : ∃ v, σ[i]? = some (some v) ∧ Dn K (hid (L ++ B.M) H) v x := by
  obtain ⟨v, e, dn⟩ := E.sl i _ h
  refine ⟨v, ?_, dn⟩
  cases q : σ[i]? with
  | none => rw [q] at e; cases e
  | some ov =>
    rw [q] at e
    rw [show ov = some v from e]
theorem Env.getW (E : Env K B G L H σ Γ) {i : Nat} {w : Addr} (h : Γ[i]? = some (.well w)) : σ[i]? = some (some (.ref w)) := by
  have e := E.sl i _ h
  cases q : σ[i]? with
  | none => rw [q] at e; cases e
  | some ov =>
    rw [q] at e
    rw [show ov = some (.ref w) from e]
theorem Env.getO (E : Env K B G L H σ Γ) {i : Nat} {l : Addr} {xs : List PyData} (h : Γ[i]? = some (.own l xs)) : σ[i]? = some (some (.ref l)) ∧ ∃ vs, H l = some (.lst vs) ∧ DnA K (hid (L ++ B.M) H) vs xs := by
  have e := E.sl i _ h
  obtain ⟨e, r⟩ := e
  refine ⟨?_, r⟩
  cases q : σ[i]? with
  | none => rw [q] at e; cases e
  | some ov =>
    rw [q] at e
    rw [show ov = some (.ref l) from e]
/-- a slot gets data -/
theorem Env.put (E : Env K B G L H σ Γ) (i : Nat) {v : V} {x : PyData} (h : Dn K (hid (L ++ B.M) H) v x) : Env K B G L H (σ.set i (some v)) (Γ.set i (.d x)) := by
  have g : ∀ (j : Nat) (s : Sl), (Γ.set i (.d x))[j]? = some s → (j = i ∧ s = .d x ∧ j < Γ.length) ∨ (j ≠ i ∧ Γ[j]? = some s) := fun j s hj => by
    by_cases e : j = i
    · subst e
      refine .inl ⟨rfl, ?_⟩
      by_cases hl : j < Γ.length
      · rw [List.getElem?_set_self hl] at hj
        exact ⟨(Option.some.inj hj).symm, hl⟩
      · rw [List.getElem?_eq_none (by rw [List.length_set]; omega)] at hj
        cases hj
    · rw [List.getElem?_set_ne (Ne.symm e)] at hj
      exact .inr ⟨e, hj⟩
  refine ⟨E.fr, E.ws, E.wm, E.lm, E.lo, by rw [List.length_set, List.length_set]; exact E.len, fun j s hj => ?_, E.gh, fun j l xs hj => ?_, fun j k l xs ys hj hk => ?_, fun j w hj => ?_⟩
  · rcases g j s hj with ⟨rfl, rfl, hl⟩ | ⟨e, hj⟩
    · refine ⟨v, ?_, h⟩
      rw [List.getElem?_set_self (by rw [E.len]; exact hl)]
      rfl
    · rw [List.getElem?_set_ne (Ne.symm e)]
      exact E.sl j s hj
  · rcases g j _ hj with ⟨_, e, _⟩ | ⟨_, hj⟩
    · cases e
    · exact E.ow j l xs hj
  · rcases g j _ hj with ⟨_, e, _⟩ | ⟨_, hj⟩
    · cases e
    · rcases g k _ hk with ⟨_, e, _⟩ | ⟨_, hk⟩
      · cases e
      · exact E.ou j k l xs ys hj hk
  · rcases g j _ hj with ⟨_, e, _⟩ | ⟨_, hj⟩
    · cases e
    · exact E.we j w hj
end

/-! ### what evaluates to what -/
section
variable (K : PySem.W.Frag) (B : Bs) (G : List Hp) (L : List Addr) (Γ : List Sl)
/-- the step that an evaluation may take -/
structure Go (H H' : Hp) (σ : L2.St) : Prop where
  env : Env K B G L H' σ Γ
  sm : Same (hid (L ++ B.M) H) (hid (L ++ B.M) H')
  kp : ∀ l ∈ L, ∀ o, H l = some o → H' l = some o
  rl : ∀ a o, a ∉ B.Ws → H a = some o → H' a = some o
def EvP (te : TE) (k : PyData → Prop) : Prop := ∀ (σ : L2.St) (H : Hp) (Q : VK), Env K B G L H σ Γ →
  (∀ v d H', Go K B G L Γ H H' σ → Dn K (hid (L ++ B.M) H') v d → k d → Q v H') → te σ H Q
/-- a new list -/
def EvN (te : TE) (k : List PyData → Prop) : Prop := ∀ (σ : L2.St) (H : Hp) (Q : VK), Env K B G L H σ Γ →
  (∀ p vs ds H', Go K B G L Γ H H' σ → H p = none → H' p = some (.lst vs) → DnA K (hid (p :: (L ++ B.M)) H') vs ds → k ds → Q (.ref p) H') → te σ H Q
def EvA (ta : TA) (k : List PyData → Prop) : Prop := ∀ (σ : L2.St) (H : Hp) (Q : List V → Hp → Prop), Env K B G L H σ Γ →
  (∀ vs ds H', Go K B G L Γ H H' σ → DnA K (hid (L ++ B.M) H') vs ds → k ds → Q vs H') → ta σ H Q
def EvT (tt : TT) (k : Bool → Prop) : Prop := ∀ (σ : L2.St) (H : Hp) (Q : Bool → Hp → Prop), Env K B G L H σ Γ →
  (∀ b H', Go K B G L Γ H H' σ → k b → Q b H') → tt σ H Q
/-- an operation on values -/
def ROk (r : R2) (x y : PyData) (k : PyData → Prop) : Prop := ∀ (σ : L2.St) (H : Hp) (Q : VK) (v u : V), Env K B G L H σ Γ → Dn K (hid (L ++ B.M) H) v x → Dn K (hid (L ++ B.M) H) u y →
  (∀ z d H', Go K B G L Γ H H' σ → Dn K (hid (L ++ B.M) H') z d → k d → Q z H') → r v u H Q
def UOk (r : V → Hp → VK → Prop) (x : PyData) (k : PyData → Prop) : Prop := ∀ (σ : L2.St) (H : Hp) (Q : VK) (v : V), Env K B G L H σ Γ → Dn K (hid (L ++ B.M) H) v x →
  (∀ z d H', Go K B G L Γ H H' σ → Dn K (hid (L ++ B.M) H') z d → k d → Q z H') → r v H Q
def COk (r : List V → Hp → VK → Prop) (ds : List PyData) (k : PyData → Prop) : Prop := ∀ (σ : L2.St) (H : Hp) (Q : VK) (vs : List V), Env K B G L H σ Γ → DnA K (hid (L ++ B.M) H) vs ds →
  (∀ z d H', Go K B G L Γ H H' σ → Dn K (hid (L ++ B.M) H') z d → k d → Q z H') → r vs H Q
end

section
variable {K : PySem.W.Frag} {B : Bs} {G : List Hp} {L : List Addr} {Γ : List Sl} {H H' H2 : Hp} {σ : L2.St}
theorem Go.refl (E : Env K B G L H σ Γ) : Go K B G L Γ H H σ := ⟨E, Same.refl _, fun _ _ _ e => e, fun _ _ _ e => e⟩
theorem Go.trans (a : Go K B G L Γ H H' σ) (b : Go K B G L Γ H' H2 σ) : Go K B G L Γ H H2 σ := ⟨b.env, a.sm.trans b.sm, fun l hl o e => b.kp l hl o (a.kp l hl o e), fun c o w e => b.rl c o w (a.rl c o w e)⟩
/-- all but the wells is kept -/
theorem Go.step (E : Env K B G L H σ Γ) (h1 : ∀ a o, a ∉ B.Ws → H a = some o → H' a = some o) (h2 : ∀ w ∈ B.Ws, WellAt H' w) : Go K B G L Γ H H' σ := by
  obtain ⟨a, b⟩ := E.step h1 h2
  exact ⟨a, b, fun l hl o e => h1 l o (E.lW hl) e, h1⟩
theorem Go.new (E : Env K B G L H σ Γ) {p : Addr} {o : HO} (h : H p = none) : Go K B G L Γ H (upd H p o) σ := by
  obtain ⟨a, b⟩ := E.ext (same_upd (o := o) h)
  exact ⟨a, b, fun l hl o e => same_upd h l o e, fun c o _ e => same_upd h c o e⟩

variable {te ta tb tc : TE} {tt tu : TT} {tr : TA} {k : PyData → Prop} {x y : PyData}
theorem EvP.mono {k' : PyData → Prop} (h : EvP K B G L Γ te k) (f : ∀ d, k d → k' d) : EvP K B G L Γ te k' := fun σ H Q E q => h σ H Q E fun v d H' g dn hk => q v d H' g dn (f d hk)
theorem ev_var {i : Nat} (h : Γ[i]? = some (.d x)) (hk : k x) : EvP K B G L Γ (tVar i) k := fun σ H Q E q => by
  obtain ⟨v, e, dn⟩ := E.get h
  exact ⟨v, e, q v x H (Go.refl E) dn hk⟩
theorem ev_int {i : Int} (hk : k (.int i)) : EvP K B G L Γ (tC (.int i)) k := fun σ H Q E q => q _ _ H (Go.refl E) (.int i) hk
theorem ev_bl {b : Bool} (hk : k (.bool b)) : EvP K B G L Γ (tC (.bl b)) k := fun σ H Q E q => q _ _ H (Go.refl E) (.bl b) hk
theorem ev_non (hk : k .none) : EvP K B G L Γ (tC .non) k := fun σ H Q E q => q _ _ H (Go.refl E) .non hk
theorem ev_str {s : Str} (hk : k (.str s)) : EvP K B G L Γ (tC (.str s)) k := fun σ H Q E q => q _ _ H (Go.refl E) (.str s) hk
theorem ev_op {r : R2} (h : EvP K B G L Γ ta fun x => EvP K B G L Γ tb fun y => ROk K B G L Γ r x y k) : EvP K B G L Γ (tOp r ta tb) k := fun σ H Q E q =>
  h σ H _ E fun v x H1 g1 dn1 h1 => h1 σ H1 _ g1.env fun u y H2 g2 dn2 h2 => h2 σ H2 Q v u g2.env (dn1.mono g2.sm) dn2 fun z d H3 g3 dn3 hk => q z d H3 ((g1.trans g2).trans g3) dn3 hk
theorem ev_un {r : V → Hp → VK → Prop} (h : EvP K B G L Γ ta fun x => UOk K B G L Γ r x k) : EvP K B G L Γ (tUn r ta) k := fun σ H Q E q =>
  h σ H _ E fun v x H1 g1 dn1 h1 => h1 σ H1 Q v g1.env dn1 fun z d H3 g3 dn3 hk => q z d H3 (g1.trans g3) dn3 hk
theorem ev_cb {r : List V → Hp → VK → Prop} (h : EvA K B G L Γ tr fun ds => COk K B G L Γ r ds k) : EvP K B G L Γ (tCB r tr) k := fun σ H Q E q =>
  h σ H _ E fun vs ds H1 g1 dn1 h1 => h1 σ H1 Q vs g1.env dn1 fun z d H3 g3 dn3 hk => q z d H3 (g1.trans g3) dn3 hk
theorem ev_if (h : EvT K B G L Γ tt fun b => (b = true → EvP K B G L Γ ta k) ∧ (b = false → EvP K B G L Γ tb k)) : EvP K B G L Γ (tIf tt ta tb) k := fun σ H Q E q =>
  h σ H _ E fun b H1 g1 ⟨h1, h2⟩ => by
    cases b with
    | true => exact iteT (h1 rfl σ H1 Q g1.env fun v d H3 g3 dn hk => q v d H3 (g1.trans g3) dn hk)
    | false => exact iteF (h2 rfl σ H1 Q g1.env fun v d H3 g3 dn hk => q v d H3 (g1.trans g3) dn hk)
theorem dn_bool {v : V} {b : Bool} (h : Dn K H v (.bool b)) : v = .bl b := by cases h; rfl
theorem dn_int {v : V} {i : Int} (h : Dn K H v (.int i)) : v = .int i := by cases h; rfl
theorem dn_str {v : V} {i : Str} (h : Dn K H v (.str i)) : v = .str i := by cases h; rfl
theorem dn_non {v : V} (h : Dn K H v .none) : v = .non := by cases h; rfl
theorem ev_andV (h : EvP K B G L Γ ta fun x => ∃ b, x = .bool b ∧ (b = true → EvP K B G L Γ tb k) ∧ (b = false → k (.bool false))) : EvP K B G L Γ (tAndV ta tb) k := fun σ H Q E q =>
  h σ H _ E fun v x H1 g1 dn1 ⟨b, e, h1, h2⟩ => by
    subst e
    refine ⟨b, dn_bool dn1, ?_⟩
    cases b with
    | true => exact iteT (h1 rfl σ H1 Q g1.env fun v d H3 g3 dn hk => q v d H3 (g1.trans g3) dn hk)
    | false => exact iteF (q _ _ H1 g1 (.bl false) (h2 rfl))
theorem ev_orV (h : EvP K B G L Γ ta fun x => ∃ b, x = .bool b ∧ (b = false → EvP K B G L Γ tb k) ∧ (b = true → k (.bool true))) : EvP K B G L Γ (tOrV ta tb) k := fun σ H Q E q =>
  h σ H _ E fun v x H1 g1 dn1 ⟨b, e, h1, h2⟩ => by
    subst e
    refine ⟨b, dn_bool dn1, ?_⟩
    cases b with
    | false => exact iteF (h1 rfl σ H1 Q g1.env fun v d H3 g3 dn hk => q v d H3 (g1.trans g3) dn hk)
    | true => exact iteT (q _ _ H1 g1 (.bl true) (h2 rfl))
theorem ev_notV (h : EvP K B G L Γ ta fun x => ∃ b, x = .bool b ∧ k (.bool (!b))) : EvP K B G L Γ (tNotV ta) k := fun σ H Q E q =>
  h σ H _ E fun v x H1 g1 dn1 ⟨b, e, h1⟩ => by
    subst e
    exact ⟨b, dn_bool dn1, q _ _ H1 g1 (.bl _) h1⟩
/-! tests -/
theorem et_test {kb : Bool → Prop} (h : EvP K B G L Γ te fun x => ∃ b, x = .bool b ∧ kb b) : EvT K B G L Γ (tTest te) kb := fun σ H Q E q =>
  h σ H _ E fun v x H1 g1 dn1 ⟨b, e, h1⟩ => by
    subst e
    exact ⟨b, dn_bool dn1, q b H1 g1 h1⟩
theorem et_B {kb : Bool → Prop} (h : EvP K B G L Γ te fun x => ∃ b, x = .bool b ∧ kb b) : EvT K B G L Γ (tB te) kb := et_test h
theorem et_and {kb : Bool → Prop} (h : EvT K B G L Γ tt fun b => (b = true → EvT K B G L Γ tu kb) ∧ (b = false → kb false)) : EvT K B G L Γ (tAnd tt tu) kb := fun σ H Q E q =>
  h σ H _ E fun b H1 g1 ⟨h1, h2⟩ => by
    cases b with
    | true => exact iteT (h1 rfl σ H1 Q g1.env fun b H3 g3 hk => q b H3 (g1.trans g3) hk)
    | false => exact iteF (q false H1 g1 (h2 rfl))
theorem et_or {kb : Bool → Prop} (h : EvT K B G L Γ tt fun b => (b = false → EvT K B G L Γ tu kb) ∧ (b = true → kb true)) : EvT K B G L Γ (tOr tt tu) kb := fun σ H Q E q =>
  h σ H _ E fun b H1 g1 ⟨h1, h2⟩ => by
    cases b with
    | false => exact iteF (h1 rfl σ H1 Q g1.env fun b H3 g3 hk => q b H3 (g1.trans g3) hk)
    | true => exact iteT (q true H1 g1 (h2 rfl))
theorem et_not {kb : Bool → Prop} (h : EvT K B G L Γ tt fun b => kb (!b)) : EvT K B G L Γ (tNot tt) kb := fun σ H Q E q =>
  h σ H _ E fun b H1 g1 h1 => q (!b) H1 g1 h1
theorem EvT.mono {kb kb' : Bool → Prop} (h : EvT K B G L Γ tt kb) (f : ∀ b, kb b → kb' b) : EvT K B G L Γ tt kb' := fun σ H Q E q => h σ H Q E fun b H' g hk => q b H' g (f b hk)
/-! arguments -/
theorem ea_nil {kl : List PyData → Prop} (h : kl []) : EvA K B G L Γ tNil kl := fun σ H Q E q => q [] [] H (Go.refl E) .nil h
theorem ea_cons {kl : List PyData → Prop} (h : EvP K B G L Γ te fun d => EvA K B G L Γ tr fun ds => kl (d :: ds)) : EvA K B G L Γ (tCons te tr) kl := fun σ H Q E q =>
  h σ H _ E fun v d H1 g1 dn1 h1 => h1 σ H1 _ g1.env fun vs ds H2 g2 dn2 hk => q (v :: vs) (d :: ds) H2 (g1.trans g2) (.cons (dn1.mono g2.sm) dn2) hk
theorem sz_ok {n : Nat} (h : n ≤ 1000000) : n ≤ sizeLine := Nat.le_trans h (by decide)
theorem ev_tup (h : EvA K B G L Γ tr fun ds => ds.length ≤ 1000000 ∧ k (.tuple ds)) : EvP K B G L Γ (tTup tr) k := fun σ H Q E q =>
  h σ H _ E fun vs ds H1 g1 dn1 ⟨hl, hk⟩ => ⟨by rw [dn1.length]; exact sz_ok hl, fun p hp => by
    have g2 := Go.new (o := .tup vs) g1.env hp
    exact q _ _ _ (g1.trans g2) (.tup (.inl (.inl (hid_new (g1.env.newM hp)))) (dn1.mono g2.sm)) hk⟩
theorem hid_none {M : List Addr} {H : Hp} {p : Addr} (h : H p = none) : hid M H p = none := by
  unfold hid
  split
  · rfl
  · exact h
theorem hid_keep {M : List Addr} {H H' : Hp} {p : Addr} (hp : H p = none) (h : Same H H') : Same (hid M H) (hid (p :: M) H') := fun a o e => by
  obtain ⟨q, e⟩ := hid_some e
  rw [hid_out (fun z => by
    rcases List.mem_cons.mp z with z | z
    · rw [z, hp] at e; cases e
    · exact q z)]
  exact h a o e
theorem en_lst {kl : List PyData → Prop} (h : EvA K B G L Γ tr fun ds => ds.length ≤ 1000000 ∧ kl ds) : EvN K B G L Γ (tLst tr) kl := fun σ H Q E q =>
  h σ H _ E fun vs ds H1 g1 dn1 ⟨hl, hk⟩ => ⟨by rw [dn1.length]; exact sz_ok hl, fun p hp => by
    have g2 := Go.new (o := .lst vs) g1.env hp
    refine q p vs ds _ (g1.trans g2) ?_ upd_same (dn1.mono (hid_keep hp (same_upd hp))) hk
    cases e : H p with
    | none => rfl
    | some o =>
      exfalso
      by_cases w : p ∈ L ++ B.M
      · obtain ⟨o', e'⟩ := g1.env.alive p w
        rw [hp] at e'; cases e'
      · have := g1.sm p o (by rw [hid_out w]; exact e)
        rw [hid_none hp] at this; cases this⟩
theorem ev_new (h : EvN K B G L Γ te fun ds => k (.list ds)) : EvP K B G L Γ te k := fun σ H Q E q =>
  h σ H Q E fun p vs ds H' g hp e dn hk => q _ _ H' g (.lst (by rw [hid_out (E.newM hp)]; exact e) (dn.mono (hid_less _ fun a ha => List.mem_cons_of_mem _ ha))) hk
theorem ev_lst (h : EvA K B G L Γ tr fun ds => ds.length ≤ 1000000 ∧ k (.list ds)) : EvP K B G L Γ (tLst tr) k := ev_new (en_lst h)
end
end DL
namespace DL
open PySem PySem.Spec PyProof.Rows L2
section
variable {K : PySem.W.Frag} {B : Bs} {G : List Hp} {L : List Addr} {Γ : List Sl} {H H' H2 : Hp} {σ : L2.St}
variable {te ta tb tc : TE} {tt tu : TT} {tr : TA} {k : PyData → Prop} {x y : PyData}

/-! ### operators -/
theorem rok_i0 {f : Int → Int → Int} {i j : Int} (hk : k (.int (f i j))) : ROk K B G L Γ (rI0 fun i j => .int (f i j)) (.int i) (.int j) k := fun σ H Q v u E d1 d2 q =>
  ⟨i, j, dn_int d1, dn_int d2, q _ _ H (Go.refl E) (.int _) hk⟩
theorem rok_b0 {f : Int → Int → Bool} {i j : Int} (hk : k (.bool (f i j))) : ROk K B G L Γ (rI0 fun i j => .bl (f i j)) (.int i) (.int j) k := fun σ H Q v u E d1 d2 q =>
  ⟨i, j, dn_int d1, dn_int d2, q _ _ H (Go.refl E) (.bl _) hk⟩
theorem rok_i {C : Int → Int → Prop} {f : Int → Int → Int} {i j : Int} (hc : C i j) (hk : k (.int (f i j))) : ROk K B G L Γ (rI C fun i j => .int (f i j)) (.int i) (.int j) k := fun σ H Q v u E d1 d2 q =>
  ⟨i, j, dn_int d1, dn_int d2, hc, q _ _ H (Go.refl E) (.int _) hk⟩
theorem rok_eqI {i j : Int} (hk : k (.bool (decide (i = j)))) : ROk K B G L Γ rEq (.int i) (.int j) k := fun σ H Q v u E d1 d2 q => by
  rw [dn_int d1, dn_int d2]
  refine ⟨rfl, ?_⟩
  have e : decide ((V.int i) = V.int j) = decide (i = j) := by
    by_cases h : i = j
    · subst h; simp
    · rw [decide_eq_false h, decide_eq_false (fun z => h (V.int.inj z))]
  rw [e]
  exact q _ _ H (Go.refl E) (.bl _) hk
theorem rok_neI {i j : Int} (hk : k (.bool (!decide (i = j)))) : ROk K B G L Γ rNe (.int i) (.int j) k := fun σ H Q v u E d1 d2 q => by
  rw [dn_int d1, dn_int d2]
  refine ⟨rfl, ?_⟩
  have e : decide ((V.int i) = V.int j) = decide (i = j) := by
    by_cases h : i = j
    · subst h; simp
    · rw [decide_eq_false h, decide_eq_false (fun z => h (V.int.inj z))]
  rw [e]
  exact q _ _ H (Go.refl E) (.bl _) hk
theorem rok_neS {i j : Str} (hk : k (.bool (!decide (i = j)))) : ROk K B G L Γ rNe (.str i) (.str j) k := fun σ H Q v u E d1 d2 q => by
  rw [dn_str d1, dn_str d2]
  refine ⟨rfl, ?_⟩
  have e : decide ((V.str i) = V.str j) = decide (i = j) := by
    by_cases h : i = j
    · subst h; simp
    · rw [decide_eq_false h, decide_eq_false (fun z => h (V.str.inj z))]
  rw [e]
  exact q _ _ H (Go.refl E) (.bl _) hk
theorem rok_eqS {i j : Str} (hk : k (.bool (decide (i = j)))) : ROk K B G L Γ rEq (.str i) (.str j) k := fun σ H Q v u E d1 d2 q => by
  rw [dn_str d1, dn_str d2]
  refine ⟨rfl, ?_⟩
  have e : decide ((V.str i) = V.str j) = decide (i = j) := by
    by_cases h : i = j
    · subst h; simp
    · rw [decide_eq_false h, decide_eq_false (fun z => h (V.str.inj z))]
  rw [e]
  exact q _ _ H (Go.refl E) (.bl _) hk
theorem rok_isB {i j : Bool} (hk : k (.bool (decide (i = j)))) : ROk K B G L Γ rIsB (.bool i) (.bool j) k := fun σ H Q v u E d1 d2 q =>
  ⟨i, j, dn_bool d1, dn_bool d2, q _ _ H (Go.refl E) (.bl _) hk⟩
theorem rok_notB {i j : Bool} (hk : k (.bool (!decide (i = j)))) : ROk K B G L Γ rNotB (.bool i) (.bool j) k := fun σ H Q v u E d1 d2 q =>
  ⟨i, j, dn_bool d1, dn_bool d2, q _ _ H (Go.refl E) (.bl _) hk⟩
/-- an item -/
def atD (ds : List PyData) (i : Int) : Option PyData := atI ds i
theorem dna_at {vs : List V} {ds : List PyData} (h : DnA K H vs ds) {i : Int} {d : PyData} (e : atI ds i = some d) : ∃ v, atI vs i = some v ∧ Dn K H v d := by
  unfold atI at e ⊢
  rw [h.length]
  cases q : ixN ds.length i with
  | none => rw [q] at e; cases e
  | some j =>
    rw [q] at e
    exact h.get e
theorem rok_ixT {ds : List PyData} {i : Int} {d : PyData} (e : atI ds i = some d) (hk : k d) : ROk K B G L Γ (rIxT K) (.tuple ds) (.int i) k := fun σ H Q v u E d1 d2 q => by
  cases d1 with
  | tup h1 h2 =>
    obtain ⟨w, e2, dn⟩ := dna_at h2 e
    exact ⟨_, _, i, w, rfl, dn_int d2, Same.sqt (hid_sub _ _) h1, e2, q _ _ H (Go.refl E) dn hk⟩
theorem rok_ixL {ds : List PyData} {i : Int} {d : PyData} (e : atI ds i = some d) (hk : k d) : ROk K B G L Γ (rIxL K) (.list ds) (.int i) k := fun σ H Q v u E d1 d2 q => by
  cases d1 with
  | lst h1 h2 =>
    obtain ⟨w, e2, dn⟩ := dna_at h2 e
    exact ⟨_, _, i, w, rfl, dn_int d2, .inl (.inl (hid_sub _ _ _ _ h1)), e2, q _ _ H (Go.refl E) dn hk⟩
theorem rok_ixsT {ds : List PyData} {i : Int} {d : PyData} (e : atI ds i = some d) (hk : k d) : ROk K B G L Γ (rIx K) (.tuple ds) (.int i) k := fun σ H Q v u E d1 d2 q =>
  .inr (.inl (rok_ixT e hk σ H Q v u E d1 d2 q))
theorem rok_ixsL {ds : List PyData} {i : Int} {d : PyData} (e : atI ds i = some d) (hk : k d) : ROk K B G L Γ (rIx K) (.list ds) (.int i) k := fun σ H Q v u E d1 d2 q =>
  .inl (rok_ixL e hk σ H Q v u E d1 d2 q)
/-- tuple + tuple -/
theorem rok_catT {ds es : List PyData} (hl : ds.length + es.length ≤ 1000000) (hk : k (.tuple (ds ++ es))) : ROk K B G L Γ (rCatA K) (.tuple ds) (.tuple es) k := fun σ H Q v u E d1 d2 q => by
  cases d1 with
  | @tup a xs _ h1 h2 =>
    cases d2 with
    | @tup b ys _ h3 h4 =>
      refine ⟨a, b, xs, ys, rfl, rfl, Same.sqt (hid_sub _ _) h1, Same.sqt (hid_sub _ _) h3, by rw [h2.length, h4.length]; exact sz_ok hl, fun e => ?_, fun _ e => ?_, fun _ _ p hp => ?_⟩
      · subst e
        have z : ds = [] := List.eq_nil_of_length_eq_zero h2.length.symm
        subst z
        exact q _ _ H (Go.refl E) (.tup h3 h4) hk
      · subst e
        have z : es = [] := List.eq_nil_of_length_eq_zero h4.length.symm
        subst z
        rw [List.append_nil] at hk
        exact q _ _ H (Go.refl E) (.tup h1 h2) hk
      · have g := Go.new (o := .tup (xs ++ ys)) E hp
        exact q _ _ _ g (.tup (.inl (.inl (hid_new (E.newM hp)))) (DnA.append (h2.mono g.sm) (h4.mono g.sm))) hk
/-- list + list -/
theorem rok_catL {ds es : List PyData} (hl : ds.length + es.length ≤ 1000000) (hk : k (.list (ds ++ es))) : ROk K B G L Γ rCat (.list ds) (.list es) k := fun σ H Q v u E d1 d2 q => by
  cases d1 with
  | @lst a xs _ h1 h2 =>
    cases d2 with
    | @lst b ys _ h3 h4 =>
      refine ⟨a, b, xs, ys, rfl, rfl, hid_sub _ _ _ _ h1, hid_sub _ _ _ _ h3, by rw [h2.length, h4.length]; exact sz_ok hl, fun p hp => ?_⟩
      have g := Go.new (o := .lst (xs ++ ys)) E hp
      exact q _ _ _ g (.lst (hid_new (E.newM hp)) (DnA.append (h2.mono g.sm) (h4.mono g.sm))) hk
theorem DnA.reps {vs : List V} {ds : List PyData} (h : DnA K H vs ds) : ∀ n : Nat, DnA K H (List.replicate n vs).flatten (List.replicate n ds).flatten
  | 0 => .nil
  | n + 1 => by
    rw [List.replicate_succ, List.replicate_succ, List.flatten_cons, List.flatten_cons]
    exact DnA.append h (DnA.reps h n)
/-- list * int -/
theorem rok_repL {ds : List PyData} {n : Int} (h0 : 0 ≤ n) (h1 : n ≤ 100000) (hl : ds.length * n.toNat ≤ 1000000) (hk : k (.list (List.replicate n.toNat ds).flatten)) : ROk K B G L Γ rRep (.list ds) (.int n) k := fun σ H Q v u E d1 d2 q => by
  cases d1 with
  | @lst a xs _ e1 h2 =>
    refine ⟨a, n, xs, rfl, dn_int d2, hid_sub _ _ _ _ e1, by omega, by omega, by rw [h2.length]; exact sz_ok hl, fun p hp => ?_⟩
    have g := Go.new (o := .lst (List.replicate n.toNat xs).flatten) E hp
    exact q _ _ _ g (.lst (hid_new (E.newM hp)) ((h2.mono g.sm).reps _)) hk
/-- tuple * int -/
theorem rok_repT {ds : List PyData} {n : Int} (hne : ds ≠ []) (h0 : 2 ≤ n) (h1 : n ≤ 1000) (hl : ds.length ≤ 1000) (hk : k (.tuple (List.replicate n.toNat ds).flatten)) : ROk K B G L Γ (rRepT K) (.tuple ds) (.int n) k := fun σ H Q v u E d1 d2 q => by
  cases d1 with
  | @tup a xs _ e1 h2 =>
    refine ⟨a, n, xs, rfl, dn_int d2, Same.sqt (hid_sub _ _) e1, fun z => hne ?_, h0, h1, by rw [h2.length]; exact hl, fun p hp => ?_⟩
    · subst z
      exact List.eq_nil_of_length_eq_zero h2.length.symm
    · have g := Go.new (o := .tup (List.replicate n.toNat xs).flatten) E hp
      exact q _ _ _ g (.tup (.inl (.inl (hid_new (E.newM hp)))) ((h2.mono g.sm).reps _)) hk
/-! unary -/
theorem uok_neg {i : Int} (hk : k (.int (-i))) : UOk K B G L Γ (rU fun i => .int (-i)) (.int i) k := fun σ H Q v E d1 q => ⟨i, dn_int d1, q _ _ H (Go.refl E) (.int _) hk⟩

/-! ### slices -/
def EvO (K : PySem.W.Frag) (B : Bs) (G : List Hp) (L : List Addr) (Γ : List Sl) (to : TO) (ko : Option Int → Prop) : Prop := ∀ (σ : L2.St) (H : Hp) (Q : Option Int → Hp → Prop), Env K B G L H σ Γ →
  (∀ o H', Go K B G L Γ H H' σ → ko o → Q o H') → to σ H Q
theorem eo_no {ko : Option Int → Prop} (h : ko none) : EvO K B G L Γ tNoPart ko := fun σ H Q E q => q none H (Go.refl E) h
theorem eo_some {ko : Option Int → Prop} (h : EvP K B G L Γ te fun d => ∃ i, d = .int i ∧ ko (some i)) : EvO K B G L Γ (tPart te) ko := fun σ H Q E q =>
  h σ H _ E fun v d H1 g1 dn ⟨i, e, hk⟩ => by
    subst e
    exact ⟨i, dn_int dn, q _ H1 g1 hk⟩
def cutD (ds : List PyData) (lo hi : Option Int) : List PyData := (ds.drop (HT.sIx ds.length 0 lo)).take (HT.sIx ds.length ds.length hi - HT.sIx ds.length 0 lo)
theorem dna_cut {vs : List V} {ds : List PyData} (h : DnA K H vs ds) (lo hi : Option Int) : DnA K H (cutV vs lo hi) (cutD ds lo hi) := by
  unfold cutV cutD
  rw [h.length]
  exact (h.drop _).take _
def SOk (K : PySem.W.Frag) (B : Bs) (G : List Hp) (L : List Addr) (Γ : List Sl) (r : V → Option Int → Option Int → Hp → VK → Prop) (x : PyData) (lo hi : Option Int) (k : PyData → Prop) : Prop :=
  ∀ (σ : L2.St) (H : Hp) (Q : VK) (v : V), Env K B G L H σ Γ → Dn K (hid (L ++ B.M) H) v x → (∀ z d H', Go K B G L Γ H H' σ → Dn K (hid (L ++ B.M) H') z d → k d → Q z H') → r v lo hi H Q
theorem ev_sl {r : V → Option Int → Option Int → Hp → VK → Prop} {tl th : TO} (h : EvP K B G L Γ te fun x => EvO K B G L Γ tl fun lo => EvO K B G L Γ th fun hi => SOk K B G L Γ r x lo hi k) : EvP K B G L Γ (tSl r te tl th) k := fun σ H Q E q =>
  h σ H _ E fun v x H1 g1 dn1 h1 => h1 σ H1 _ g1.env fun lo H2 g2 h2 => h2 σ H2 _ g2.env fun hi H3 g3 h3 => h3 σ H3 Q v g3.env ((dn1.mono g2.sm).mono g3.sm) fun z d H4 g4 dn4 hk => q z d H4 (((g1.trans g2).trans g3).trans g4) dn4 hk
theorem sok_tup {ds : List PyData} {lo hi : Option Int} (hk : k (.tuple (cutD ds lo hi))) : SOk K B G L Γ (rSlA K) (.tuple ds) lo hi k := fun σ H Q v E d1 q => by
  cases d1 with
  | @tup a xs _ e1 h2 =>
    refine ⟨a, xs, rfl, Same.sqt (hid_sub _ _) e1, fun e => ?_, fun _ p hp => ?_⟩
    · have z : cutD ds lo hi = ds := by
        unfold cutD
        rw [← h2.length, e.1, e.2, h2.length]
        simp
      rw [z] at hk
      exact q _ _ H (Go.refl E) (.tup e1 h2) hk
    · have g := Go.new (o := .tup (cutV xs lo hi)) E hp
      exact q _ _ _ g (.tup (.inl (.inl (hid_new (E.newM hp)))) (dna_cut (h2.mono g.sm) lo hi)) hk
theorem sok_lst {ds : List PyData} {lo hi : Option Int} (hk : k (.list (cutD ds lo hi))) : SOk K B G L Γ (rSlL K) (.list ds) lo hi k := fun σ H Q v E d1 q => by
  cases d1 with
  | @lst a xs _ e1 h2 =>
    refine ⟨a, xs, rfl, .inl (.inl (hid_sub _ _ _ _ e1)), fun p hp => ?_⟩
    have g := Go.new (o := .lst (cutV xs lo hi)) E hp
    exact q _ _ _ g (.lst (hid_new (E.newM hp)) (dna_cut (h2.mono g.sm) lo hi)) hk

/-! ### calls of built-ins -/
def rLenQ (K : PySem.W.Frag) : List V → Hp → VK → Prop := fun xs H Q => ∃ p ys, xs = [.ref p] ∧ (SqL K H p ys ∨ SqT K H p ys) ∧ Q (.int ys.length) H
theorem cok_lenT {ds : List PyData} (hk : k (.int ds.length)) : COk K B G L Γ (fun xs H Q => ∃ p ys, xs = [.ref p] ∧ (SqL K H p ys ∨ SqT K H p ys) ∧ Q (.int ys.length) H) [.tuple ds] k := fun σ H Q vs E d1 q => by
  cases d1 with
  | cons h1 h2 =>
    cases h2
    cases h1 with
    | @tup a xs _ e1 h2 =>
      refine ⟨a, xs, rfl, .inr (Same.sqt (hid_sub _ _) e1), ?_⟩
      rw [h2.length]
      exact q _ _ H (Go.refl E) (.int _) hk
theorem cok_lenL {ds : List PyData} (hk : k (.int ds.length)) : COk K B G L Γ (fun xs H Q => ∃ p ys, xs = [.ref p] ∧ (SqL K H p ys ∨ SqT K H p ys) ∧ Q (.int ys.length) H) [.list ds] k := fun σ H Q vs E d1 q => by
  cases d1 with
  | cons h1 h2 =>
    cases h2
    cases h1 with
    | @lst a xs _ e1 h2 =>
      refine ⟨a, xs, rfl, .inl (.inl (.inl (hid_sub _ _ _ _ e1))), ?_⟩
      rw [h2.length]
      exact q _ _ H (Go.refl E) (.int _) hk
theorem cok_abs {i : Int} (hk : k (.int (if i < 0 then -i else i))) : COk K B G L Γ (fun xs H Q => ∃ i, xs = [.int i] ∧ Q (.int (if i < 0 then -i else i)) H) [.int i] k := fun σ H Q vs E d1 q => by
  cases d1 with
  | cons h1 h2 =>
    cases h2
    cases h1
    exact ⟨i, rfl, q _ _ H (Go.refl E) (.int _) hk⟩
theorem cok_intI {i : Int} (hk : k (.int i)) : COk K B G L Γ (fun xs H Q => (∃ i, xs = [.int i] ∧ Q (.int i) H) ∨ ∃ k, xs = [.bl k] ∧ Q (.int (if k then 1 else 0)) H) [.int i] k := fun σ H Q vs E d1 q => by
  cases d1 with
  | cons h1 h2 =>
    cases h2
    cases h1
    exact .inl ⟨i, rfl, q _ _ H (Go.refl E) (.int _) hk⟩
theorem cok_gcd {i j : Int} (hk : k (.int (Nat.gcd i.natAbs j.natAbs : Nat))) : COk K B G L Γ rGcd [.int i, .int j] k := fun σ H Q vs E d1 q => by
  cases d1 with
  | cons h1 h2 =>
    cases h2 with
    | cons h2 h3 =>
      cases h3
      cases h1
      cases h2
      exact ⟨i, j, rfl, q _ _ H (Go.refl E) (.int _) hk⟩
theorem cok_str {i : Int} (hz : i.natAbs.log2 < 1920) (hk : k (.str (toString i))) : COk K B G L Γ (fun xs H Q => ∃ i, xs = [.int i] ∧ i.natAbs.log2 < 1920 ∧ Q (.str (toString i)) H) [.int i] k := fun σ H Q vs E d1 q => by
  cases d1 with
  | cons h1 h2 =>
    cases h2
    cases h1
    exact ⟨i, rfl, hz, q _ _ H (Go.refl E) (.str _) hk⟩
theorem cok_all {bs : List Bool} (hk : k (.bool (bs.all id))) : COk K B G L Γ (rAll K) [.list (bs.map .bool)] k := fun σ H Q vs E d1 q => by
  cases d1 with
  | cons h1 h2 =>
    cases h2
    cases h1 with
    | @lst a xs _ e1 h2 =>
      have e := h2.bools
      subst e
      exact ⟨a, bs, rfl, .inl (.inl (hid_sub _ _ _ _ e1)), q _ _ H (Go.refl E) (.bl _) hk⟩
/-- list(x) of a tuple or a list: a new list -/
def rListOf (K : PySem.W.Frag) : List V → Hp → VK → Prop := fun xs H Q => ∃ p ys, xs = [.ref p] ∧ (SqL K H p ys ∨ SqT K H p ys) ∧ ∀ l, H l = none → Q (.ref l) (upd H l (.lst ys))
theorem Go.fresh (E : Env K B G L H σ Γ) (g : Go K B G L Γ H H' σ) {p : Addr} (hp : H' p = none) : H p = none := by
  cases e : H p with
  | none => rfl
  | some o =>
    exfalso
    by_cases w : p ∈ L ++ B.M
    · obtain ⟨o', e'⟩ := g.env.alive p w
      rw [hp] at e'; cases e'
    · have := g.sm p o (by rw [hid_out w]; exact e)
      rw [hid_none hp] at this; cases this
theorem en_list {kl : List PyData → Prop} (h : EvP K B G L Γ te fun d => ∃ ds, (d = .tuple ds ∨ d = .list ds) ∧ kl ds) :
    EvN K B G L Γ (tCB (fun xs H Q => ∃ p ys, xs = [.ref p] ∧ (SqL K H p ys ∨ SqT K H p ys) ∧ ∀ l, H l = none → Q (.ref l) (upd H l (.lst ys))) (tCons te tNil)) kl := fun σ H Q E q =>
  h σ H _ E fun v d H1 g1 dn ⟨ds, e, hk⟩ => by
    rcases e with rfl | rfl
    · cases dn with
      | @tup a xs _ e1 h2 =>
        refine ⟨a, xs, rfl, .inr (Same.sqt (hid_sub _ _) e1), fun l hl => ?_⟩
        have g2 := Go.new (o := .lst xs) g1.env hl
        exact q l xs ds _ (g1.trans g2) (Go.fresh E g1 hl) upd_same (h2.mono (hid_keep hl (same_upd hl))) hk
    · cases dn with
      | @lst a xs _ e1 h2 =>
        refine ⟨a, xs, rfl, .inl (.inl (.inl (hid_sub _ _ _ _ e1))), fun l hl => ?_⟩
        have g2 := Go.new (o := .lst xs) g1.env hl
        exact q l xs ds _ (g1.trans g2) (Go.fresh E g1 hl) upd_same (h2.mono (hid_keep hl (same_upd hl))) hk
/-- tuple(x) of a list (data) -/
theorem cok_tupL {ds : List PyData} (hk : k (.tuple ds)) : COk K B G L Γ (fun xs H Q => ∃ p ys, xs = [.ref p] ∧ ((SqL K H p ys ∧ ∀ l, H l = none → Q (.ref l) (upd H l (.tup ys))) ∨ (SqT K H p ys ∧ Q (.ref p) H))) [.list ds] k := fun σ H Q vs E d1 q => by
  cases d1 with
  | cons h1 h2 =>
    cases h2
    cases h1 with
    | @lst a xs _ e1 h2 =>
      refine ⟨a, xs, rfl, .inl ⟨.inl (.inl (hid_sub _ _ _ _ e1)), fun l hl => ?_⟩⟩
      have g2 := Go.new (o := .tup xs) E hl
      exact q _ _ _ g2 (.tup (.inl (.inl (hid_new (E.newM hl)))) (h2.mono g2.sm)) hk
theorem cok_tupT {ds : List PyData} (hk : k (.tuple ds)) : COk K B G L Γ (fun xs H Q => ∃ p ys, xs = [.ref p] ∧ ((SqL K H p ys ∧ ∀ l, H l = none → Q (.ref l) (upd H l (.tup ys))) ∨ (SqT K H p ys ∧ Q (.ref p) H))) [.tuple ds] k := fun σ H Q vs E d1 q => by
  cases d1 with
  | cons h1 h2 =>
    cases h2
    cases h1 with
    | @tup a xs _ e1 h2 =>
      exact ⟨a, xs, rfl, .inr ⟨Same.sqt (hid_sub _ _) e1, q _ _ H (Go.refl E) (.tup e1 h2) hk⟩⟩

/-! ### isinstance -/
def tyD : PyData → String
  | .none => "NoneType"
  | .bool _ => "bool"
  | .int _ => "int"
  | .str _ => "str"
  | .list _ => "list"
  | .tuple _ => "tuple"
  | .dict _ => "dict"
theorem sqt_ty {a : Addr} {xs : List V} (h : SqT K H a xs) : TyX K H (.ref a) (.type "tuple") := by
  rcases h with (h | ⟨o, h⟩) | ⟨o, its, n, h1, h2, _⟩
  · exact .base (.tup h)
  · exact .fTuple h
  · exact .kTuple h1 h2
theorem dn_ty {v : V} {d : PyData} (h : Dn K H v d) : TyX K H v (.type (tyD d)) := by
  cases h with
  | non => exact .base .non
  | bl b => exact .base (.bl b)
  | int i => exact .base (.int i)
  | str x => exact .base (.str x)
  | lst h1 h2 => exact .base (.lst h1)
  | tup h1 h2 => exact sqt_ty h1
  | emp h => exact .base (.dK h)
theorem ev_isi {n : String} (h : EvP K B G L Γ te fun d => ∃ b, kitB (tyD d) n = some b ∧ k (.bool b)) : EvP K B G L Γ (tCB (rIsi K) (tCons te (tCons (tC (.ty n)) tNil))) k := fun σ H Q E q =>
  h σ H _ E fun v d H1 g1 dn ⟨b, e, hk⟩ => ⟨v, .ty n, .type (tyD d), .type n, b, rfl, .ty n, dn_ty (dn.mono (hid_sub _ _)), kit_ty e, q _ _ H1 g1 (.bl b) hk⟩
end
end DL
namespace DL
open PySem PySem.Spec PyProof.Rows L2

/-! ### statements -/
structure PD where
  nx : List Addr → List Sl → Prop
  rt : PyData → Prop
  bk : List Addr → List Sl → Prop := fun _ _ => False
  ct : List Addr → List Sl → Prop := fun _ _ => False
/-- the heap at a def's end -/
structure Out (B : Bs) (H : Hp) : Prop where
  fr : ∀ a o, a ∉ B.Ws → B.H a = some o → H a = some o
  ws : ∀ w ∈ B.Ws, WellAt H w
structure Mt (K : PySem.W.Frag) (B : Bs) (G : List Hp) (P : PD) (D : Ends) : Prop where
  nx : ∀ L Γ σ H, P.nx L Γ → Env K B G L H σ Γ → D.nx σ H
  rt : ∀ v d H, P.rt d → Out B H → Dn K (hid B.M H) v d → D.rt v H
  bk : ∀ L Γ σ H, P.bk L Γ → Env K B G L H σ Γ → D.bk σ H
  ct : ∀ L Γ σ H, P.ct L Γ → Env K B G L H σ Γ → D.ct σ H
def StP (K : PySem.W.Frag) (B : Bs) (G : List Hp) (L : List Addr) (Γ : List Sl) (ts : TS) (P : PD) : Prop := ∀ (σ : L2.St) (H : Hp) (D : Ends), Env K B G L H σ Γ → Mt K B G P D → ts D σ H
section
variable {K : PySem.W.Frag} {B : Bs} {G : List Hp} {L : List Addr} {Γ : List Sl} {H H' H2 : Hp} {σ : L2.St}
variable {te ta tb tc : TE} {tt tu : TT} {tr : TA} {k : PyData → Prop} {x y : PyData} {P P' : PD} {t u : TS}
theorem Env.out (E : Env K B G L H σ Γ) : Out B H := ⟨E.fr, E.ws⟩
theorem hid_M (L M : List Addr) (H : Hp) : Same (hid (L ++ M) H) (hid M H) := hid_less H fun a h => List.mem_append_right _ h
theorem st_seq (h : StP K B G L Γ t { P with nx := fun L' Γ' => StP K B G L' Γ' u P }) : StP K B G L Γ (tSeq t u) P := fun σ H D E M =>
  h σ H { D with nx := u D } E ⟨fun L' Γ' σ' H' hs E' => hs σ' H' D E' M, M.rt, M.bk, M.ct⟩
theorem st_next (h : P.nx L Γ) : StP K B G L Γ tNext P := fun σ H D E M => M.nx L Γ σ H h E
theorem st_asg {i : Nat} (h : EvP K B G L Γ te fun d => P.nx L (Γ.set i (.d d))) : StP K B G L Γ (tAsg te (gName i)) P := fun σ H D E M =>
  h σ H _ E fun v d H1 g1 dn hk => M.nx _ _ _ _ hk (g1.env.put i dn)
theorem st_drop (h : EvP K B G L Γ te fun d => P.nx L Γ) : StP K B G L Γ (tDrop te) P := fun σ H D E M =>
  h σ H _ E fun v d H1 g1 dn hk => M.nx _ _ _ _ hk g1.env
theorem st_ret (h : EvP K B G L Γ te P.rt) : StP K B G L Γ (tRet te) P := fun σ H D E M =>
  h σ H _ E fun v d H1 g1 dn hk => M.rt _ _ _ hk g1.env.out (dn.mono (hid_M _ _ _))
theorem st_retN (h : P.rt .none) : StP K B G L Γ tRetN P := fun σ H D E M => M.rt _ _ _ h E.out .non
theorem st_if (h : EvT K B G L Γ tt fun b => (b = true → StP K B G L Γ t P) ∧ (b = false → StP K B G L Γ u P)) : StP K B G L Γ (tIfS tt t u) P := fun σ H D E M =>
  h σ H _ E fun b H1 g1 ⟨h1, h2⟩ => by
    cases b with
    | true => exact iteT (h1 rfl σ H1 D g1.env M)
    | false => exact iteF (h2 rfl σ H1 D g1.env M)
theorem st_break (h : P.bk L Γ) : StP K B G L Γ tBreak P := fun σ H D E M => M.bk L Γ σ H h E
theorem st_cont (h : P.ct L Γ) : StP K B G L Γ tCont P := fun σ H D E M => M.ct L Γ σ H h E
/-- what is known of a slot is forgotten -/
theorem Env.weak (E : Env K B G L H σ Γ) (i : Nat) : Env K B G L H σ (Γ.set i .un) := by
  have g : ∀ (j : Nat) (s : Sl), (Γ.set i .un)[j]? = some s → s = .un ∨ Γ[j]? = some s := fun j s hj => by
    by_cases e : j = i
    · subst e
      by_cases hl : j < Γ.length
      · rw [List.getElem?_set_self hl] at hj
        exact .inl (Option.some.inj hj).symm
      · rw [List.getElem?_eq_none (by rw [List.length_set]; omega)] at hj
        cases hj
    · rw [List.getElem?_set_ne (Ne.symm e)] at hj
      exact .inr hj
  refine ⟨E.fr, E.ws, E.wm, E.lm, E.lo, by rw [List.length_set]; exact E.len, fun j s hj => ?_, E.gh, fun j l xs hj => ?_, fun j k l xs ys hj hk => ?_, fun j w hj => ?_⟩
  · rcases g j s hj with rfl | hj
    · trivial
    · exact E.sl j s hj
  · rcases g j _ hj with e | hj
    · cases e
    · exact E.ow j l xs hj
  · rcases g j _ hj with e | hj
    · cases e
    · rcases g k _ hk with e | hk
      · cases e
      · exact E.ou j k l xs ys hj hk
  · rcases g j _ hj with e | hj
    · cases e
    · exact E.we j w hj
/-- several targets -/
def TgP (K : PySem.W.Frag) (B : Bs) (G : List Hp) (L : List Addr) (Γ : List Sl) (tg : TGs) (ds : List PyData) (kx : List Sl → Prop) : Prop :=
  ∀ (σ : L2.St) (H : Hp) (vs : List V) (Q : L2.St → Hp → Prop), Env K B G L H σ Γ → DnA K (hid (L ++ B.M) H) vs ds → (∀ Γ' σ' , Env K B G L H σ' Γ' → kx Γ' → Q σ' H) → tg vs σ H Q
theorem tg_nil {kx : List Sl → Prop} (h : kx Γ) : TgP K B G L Γ gNil [] kx := fun σ H vs Q E d q => by
  cases d
  exact ⟨rfl, q Γ σ E h⟩
theorem tg_cons {i : Nat} {tg : TGs} {d : PyData} {ds : List PyData} {kx : List Sl → Prop} (h : TgP K B G L (Γ.set i (.d d)) tg ds kx) : TgP K B G L Γ (gCons (gName i) tg) (d :: ds) kx := fun σ H vs Q E dn q => by
  cases dn with
  | cons h1 h2 => exact ⟨_, _, rfl, h _ H _ Q (E.put i h1) h2 q⟩
theorem st_unpack {n : Nat} {tg : TGs} (h : EvP K B G L Γ te fun d => ∃ ds, d = .tuple ds ∧ ds.length = n ∧ TgP K B G L Γ tg ds fun Γ' => P.nx L Γ') : StP K B G L Γ (tAsg te (gTup K n tg)) P := fun σ H D E M =>
  h σ H _ E fun v d H1 g1 dn ⟨ds, e, hn, ht⟩ => by
    subst e
    cases dn with
    | @tup a xs _ e1 h2 =>
      exact ⟨a, xs, rfl, Same.sqt (hid_sub _ _) e1, by rw [h2.length]; exact hn, ht σ H1 xs _ g1.env h2 fun Γ' σ' E' hk => M.nx _ _ _ _ hk E'⟩
theorem st_par {i j : Nat} (h : EvA K B G L Γ tr fun ds => ∃ x y, ds = [x, y] ∧ P.nx L ((Γ.set i (.d x)).set j (.d y))) : StP K B G L Γ (tPar i j tr) P := fun σ H D E M =>
  h σ H _ E fun vs ds H1 g1 dn ⟨x, y, e, hk⟩ => by
    subst e
    cases dn with
    | cons h1 h2 =>
      cases h2 with
      | cons h2 h3 =>
        cases h3
        exact ⟨_, _, rfl, M.nx _ _ _ _ hk ((g1.env.put i h1).put j h2)⟩
theorem st_par3 {i j l : Nat} (h : EvA K B G L Γ tr fun ds => ∃ x y z, ds = [x, y, z] ∧ P.nx L (((Γ.set i (.d x)).set j (.d y)).set l (.d z))) : StP K B G L Γ (tPar3 i j l tr) P := fun σ H D E M =>
  h σ H _ E fun vs ds H1 g1 dn ⟨x, y, z, e, hk⟩ => by
    subst e
    cases dn with
    | cons h1 h2 =>
      cases h2 with
      | cons h2 h3 =>
        cases h3 with
        | cons h3 h4 =>
          cases h4
          exact ⟨_, _, _, rfl, M.nx _ _ _ _ hk (((g1.env.put i h1).put j h2).put l h3)⟩
theorem st_augI {i : Nat} {f : Int → Int → Int} {a : Int} (h0 : Γ[i]? = some (.d (.int a))) (h : EvP K B G L Γ te fun d => ∃ b, d = .int b ∧ P.nx L (Γ.set i (.d (.int (f a b))))) : StP K B G L Γ (tAug i te (ipI f)) P := fun σ H D E M => by
  obtain ⟨v, e, dn⟩ := E.get h0
  refine ⟨v, e, h σ H _ E fun u d H1 g1 dn1 ⟨b, e1, hk⟩ => ?_⟩
  subst e1
  exact ⟨a, b, dn_int dn, dn_int dn1, M.nx _ _ _ _ hk (g1.env.put i (.int _))⟩

/-! ### local lists -/
theorem Go.keepL {l : Addr} (E : Env K B G L H σ Γ) (g : Go K B G L Γ H H' σ) (hl : H l = none) : Same (hid (L ++ B.M) H) (hid (l :: L ++ B.M) H') := fun a o e => by
  obtain ⟨q, e1⟩ := hid_some e
  have q2 : a ∉ l :: L ++ B.M := fun z => by
    rcases List.mem_cons.mp z with z | z
    · rw [z, hl] at e1; cases e1
    · exact q z
  rw [hid_out q2]
  exact (hid_some (g.sm a o e)).2
/-- a fresh list becomes a slot's own -/
theorem Env.take {l : Addr} {vs : List V} {ds : List PyData} (E : Env K B G L H σ Γ) (g : Go K B G L Γ H H' σ) (hl : H l = none) (h : H' l = some (.lst vs)) (i : Nat)
    (hself : DnA K (hid (l :: (L ++ B.M)) H') vs ds) : Env K B G (l :: L) H' (σ.set i (some (.ref l))) (Γ.set i (.own l ds)) := by
  have E' := g.env
  have hkeep := g.keepL E hl
  have nL : l ∉ L := fun q => by
    obtain ⟨_, xs, e⟩ := E.lo l q
    rw [hl] at e; cases e
  have gt : ∀ (j : Nat) (s : Sl), (Γ.set i (.own l ds))[j]? = some s → (j = i ∧ s = .own l ds ∧ j < Γ.length) ∨ (j ≠ i ∧ Γ[j]? = some s) := fun j s hj => by
    by_cases e : j = i
    · subst e
      refine .inl ⟨rfl, ?_⟩
      by_cases hl : j < Γ.length
      · rw [List.getElem?_set_self hl] at hj
        exact ⟨(Option.some.inj hj).symm, hl⟩
      · rw [List.getElem?_eq_none (by rw [List.length_set]; omega)] at hj
        cases hj
    · rw [List.getElem?_set_ne (Ne.symm e)] at hj
      exact .inr ⟨e, hj⟩
  refine ⟨E'.fr, E'.ws, E'.wm, E'.lm, fun m hm => ?_, by rw [List.length_set, List.length_set]; exact E'.len, fun j s hj => ?_, fun p hp => (E.gh p hp).trans hkeep, fun j m xs hj => ?_, fun j k m xs ys hj hk => ?_, fun j w hj => ?_⟩
  · rcases List.mem_cons.mp hm with rfl | hm
    · refine ⟨?_, _, h⟩
      cases e : B.H m with
      | none => rfl
      | some o =>
        exfalso
        by_cases w : m ∈ B.Ws
        · obtain ⟨_, _, _, q, _⟩ := E.ws m w
          rw [hl] at q; cases q
        · have q := E.fr m o w e
          rw [hl] at q; cases q
    · exact E'.lo m hm
  · rcases gt j s hj with ⟨rfl, rfl, hj'⟩ | ⟨ne, hj'⟩
    · refine ⟨?_, vs, h, hself⟩
      rw [List.getElem?_set_self (by rw [E'.len]; exact hj')]
      rfl
    · rw [List.getElem?_set_ne (Ne.symm ne)]
      have q := E.sl j s hj'
      cases s with
      | un => trivial
      | d x =>
        obtain ⟨v, e, dn⟩ := q
        exact ⟨v, e, dn.mono hkeep⟩
      | own m xs =>
        obtain ⟨e, ws, hm, dnm⟩ := q
        exact ⟨e, ws, g.kp m (E.ow j m xs hj') _ hm, dnm.mono hkeep⟩
      | well w => exact q
      | raw v => exact q
  · rcases gt j _ hj with ⟨_, e, _⟩ | ⟨_, hj⟩
    · cases e
      exact List.mem_cons_self ..
    · exact List.mem_cons_of_mem _ (E'.ow j m xs hj)
  · rcases gt j _ hj with ⟨ej, e, _⟩ | ⟨_, hj⟩
    · rcases gt k _ hk with ⟨ek, e', _⟩ | ⟨_, hk⟩
      · rw [ej, ek]
      · exfalso
        cases e
        exact nL (E'.ow k _ _ hk)
    · rcases gt k _ hk with ⟨ek, e', _⟩ | ⟨_, hk⟩
      · exfalso
        cases e'
        exact nL (E'.ow j _ _ hj)
      · exact E'.ou j k m xs ys hj hk
  · rcases gt j _ hj with ⟨_, e, _⟩ | ⟨_, hj⟩
    · cases e
    · exact E'.we j w hj
/-- x = a new list, kept as the name's own -/
theorem st_own {i : Nat} (h : EvN K B G L Γ te fun ds => ∀ l, P.nx (l :: L) (Γ.set i (.own l ds))) : StP K B G L Γ (tAsg te (gName i)) P := fun σ H D E M =>
  h σ H _ E fun p vs ds H' g hp e dn hk => M.nx _ _ _ _ (hk p) (Env.take E g hp e i dn)
/-- an own list's new content -/
theorem Env.write {i : Nat} {l : Addr} {xs ys : List PyData} {vs : List V} (E : Env K B G L H σ Γ) (hi : Γ[i]? = some (.own l xs)) (dn : DnA K (hid (L ++ B.M) H) vs ys) :
    Env K B G L (upd H l (.lst vs)) σ (Γ.set i (.own l ys)) := by
  have hl := E.ow i l xs hi
  have lM : l ∈ L ++ B.M := List.mem_append_left _ hl
  have hs : Same (hid (L ++ B.M) H) (hid (L ++ B.M) (upd H l (.lst vs))) := fun a o e => by
    obtain ⟨q, e⟩ := hid_some e
    rw [hid_out q, upd_ne (fun (z : a = l) => q (by rw [z]; exact lM))]
    exact e
  have gt : ∀ (j : Nat) (s : Sl), (Γ.set i (.own l ys))[j]? = some s → (j = i ∧ s = .own l ys ∧ j < Γ.length) ∨ (j ≠ i ∧ Γ[j]? = some s) := fun j s hj => by
    by_cases e : j = i
    · subst e
      refine .inl ⟨rfl, ?_⟩
      by_cases hl : j < Γ.length
      · rw [List.getElem?_set_self hl] at hj
        exact ⟨(Option.some.inj hj).symm, hl⟩
      · rw [List.getElem?_eq_none (by rw [List.length_set]; omega)] at hj
        cases hj
    · rw [List.getElem?_set_ne (Ne.symm e)] at hj
      exact .inr ⟨e, hj⟩
  refine ⟨fun a o w e => ?_, fun w hw => ?_, E.wm, E.lm, fun m hm => ?_, by rw [List.length_set]; exact E.len, fun j s hj => ?_, fun p hp => (E.gh p hp).trans hs, fun j m zs hj => ?_, fun j k m zs ws hj hk => ?_, fun j w hj => ?_⟩
  · rw [upd_ne]
    · exact E.fr a o w e
    · rintro rfl
      rw [(E.lo a hl).1] at e; cases e
  · obtain ⟨n, b, c, e, q⟩ := E.ws w hw
    refine ⟨n, b, c, ?_, q⟩
    rw [upd_ne (fun (z : w = l) => E.lW hl (by rw [← z]; exact hw))]
    exact e
  · refine ⟨(E.lo m hm).1, ?_⟩
    by_cases z : m = l
    · exact ⟨vs, by rw [z]; exact upd_same⟩
    · rw [upd_ne z]
      exact (E.lo m hm).2
  · rcases gt j s hj with ⟨rfl, rfl, hj'⟩ | ⟨ne, hj'⟩
    · obtain ⟨e, _⟩ := E.sl j _ hi
      exact ⟨e, vs, upd_same, dn.mono hs⟩
    · have q := E.sl j s hj'
      cases s with
      | un => trivial
      | d x =>
        obtain ⟨v, e, dn⟩ := q
        exact ⟨v, e, dn.mono hs⟩
      | own m zs =>
        obtain ⟨e, ws, hm, dnm⟩ := q
        refine ⟨e, ws, ?_, dnm.mono hs⟩
        rw [upd_ne (fun (z : m = l) => ne (E.ou j i m zs xs hj' (by rw [z]; exact hi)))]
        exact hm
      | well w => exact q
      | raw v => exact q
  · rcases gt j _ hj with ⟨_, e, _⟩ | ⟨_, hj⟩
    · cases e
      exact hl
    · exact E.ow j m zs hj
  · rcases gt j _ hj with ⟨ej, e, _⟩ | ⟨nj, hj⟩
    · rcases gt k _ hk with ⟨ek, e', _⟩ | ⟨_, hk⟩
      · rw [ej, ek]
      · cases e
        rw [ej]
        exact E.ou i k _ _ _ hi hk
    · rcases gt k _ hk with ⟨ek, e', _⟩ | ⟨_, hk⟩
      · cases e'
        rw [ek]
        exact E.ou j i _ _ _ hj hi
      · exact E.ou j k m zs ws hj hk
  · rcases gt j _ hj with ⟨_, e, _⟩ | ⟨_, hj⟩
    · cases e
    · exact E.we j w hj
/-- xs.append(e), xs an own list -/
theorem st_append {i : Nat} {l : Addr} {xs : List PyData} (hi : Γ[i]? = some (.own l xs)) (hz : xs.length < 100000) (h : EvP K B G L Γ te fun d => P.nx L (Γ.set i (.own l (xs ++ [d])))) :
    StP K B G L Γ (tDrop (tBM K "list" rAppend (tVar i) (tCons te tNil))) P := fun σ H D E M => by
  obtain ⟨e, vs, hl, dn⟩ := E.getO hi
  refine ⟨_, e, .inl ⟨rfl, vs, .inl (.inl hl)⟩, h σ H _ E fun v d H1 g1 dn1 hk => ?_⟩
  obtain ⟨e1, ws, hl1, dn2⟩ := g1.env.getO hi
  refine ⟨l, ws, v, rfl, rfl, hl1, ?_, M.nx _ _ _ _ hk (Env.write g1.env hi (dn2.append (.cons dn1 .nil)))⟩
  rw [dn2.length]
  exact Nat.lt_of_lt_of_le hz (by decide)
/-- xs[i] = e, xs an own list -/
theorem st_setOwn {i : Nat} {l : Addr} {xs : List PyData} (hi : Γ[i]? = some (.own l xs)) (h : EvP K B G L Γ te fun d => EvP K B G L Γ tb fun n => ∃ j : Nat, n = .int (j : Int) ∧ j < xs.length ∧ P.nx L (Γ.set i (.own l (xs.set j d)))) :
    StP K B G L Γ (tAsg te (gSub (tVar i) tb rSetL)) P := fun σ H D E M =>
  h σ H _ E fun v d H1 g1 dn1 h2 => by
    obtain ⟨e, vs, hl, dn⟩ := g1.env.getO hi
    refine ⟨_, e, h2 σ H1 _ g1.env fun u n H2 g2 dn2 ⟨j, en, hj, hk⟩ => ?_⟩
    subst en
    obtain ⟨e, ws, hl2, dn3⟩ := g2.env.getO hi
    refine ⟨l, ws, (j : Int), j, rfl, dn_int dn2, hl2, ?_, M.nx _ _ _ _ hk (Env.write g2.env hi (dn3.set j (dn1.mono g2.sm)))⟩
    rw [dn3.length]
    unfold ixN
    rw [if_pos (by omega), if_pos (by omega)]
    simp
/-- reading an own list -/
theorem ev_lenO {i : Nat} {l : Addr} {xs : List PyData} (hi : Γ[i]? = some (.own l xs)) (hk : k (.int xs.length)) : EvP K B G L Γ (tCB (fun xs H Q => ∃ p ys, xs = [.ref p] ∧ (SqL K H p ys ∨ SqT K H p ys) ∧ Q (.int ys.length) H) (tCons (tVar i) tNil)) k := fun σ H Q E q => by
  obtain ⟨e, vs, hl, dn⟩ := E.getO hi
  refine ⟨_, e, l, vs, rfl, .inl (.inl (.inl hl)), ?_⟩
  rw [dn.length]
  exact q _ _ H (Go.refl E) (.int _) hk
theorem ev_ixO {i : Nat} {l : Addr} {xs : List PyData} (hi : Γ[i]? = some (.own l xs)) (h : EvP K B G L Γ tb fun n => ∃ j d, n = .int j ∧ atI xs j = some d ∧ k d) : EvP K B G L Γ (tOp (rIxL K) (tVar i) tb) k := fun σ H Q E q => by
  obtain ⟨e, vs, hl, dn⟩ := E.getO hi
  refine ⟨_, e, h σ H _ E fun u n H2 g2 dn2 ⟨j, d, en, ed, hk⟩ => ?_⟩
  subst en
  obtain ⟨e, ws, hl2, dn3⟩ := g2.env.getO hi
  obtain ⟨w, e2, dn4⟩ := dna_at dn3 ed
  exact ⟨l, ws, j, w, rfl, dn_int dn2, .inl (.inl hl2), e2, q _ _ H2 g2 dn4 hk⟩
theorem ev_tupO {i : Nat} {l : Addr} {xs : List PyData} (hi : Γ[i]? = some (.own l xs)) (hk : k (.tuple xs)) :
    EvP K B G L Γ (tCB (fun xs H Q => ∃ p ys, xs = [.ref p] ∧ ((SqL K H p ys ∧ ∀ l, H l = none → Q (.ref l) (upd H l (.tup ys))) ∨ (SqT K H p ys ∧ Q (.ref p) H))) (tCons (tVar i) tNil)) k := fun σ H Q E q => by
  obtain ⟨e, vs, hl, dn⟩ := E.getO hi
  refine ⟨_, e, l, vs, rfl, .inl ⟨.inl (.inl hl), fun p hp => ?_⟩⟩
  have g2 := Go.new (o := .tup vs) E hp
  exact q _ _ _ g2 (.tup (.inl (.inl (hid_new (E.newM hp)))) (dn.mono g2.sm)) hk
/-- an own list is data from here on -/
theorem Env.freeze {i : Nat} {l : Addr} {L' : List Addr} {xs : List PyData} (E : Env K B G (l :: L') H σ Γ) (hn : l ∉ L') (hi : Γ[i]? = some (.own l xs)) : Env K B G L' H σ (Γ.set i (.d (.list xs))) := by
  have hs : Same (hid (l :: L' ++ B.M) H) (hid (L' ++ B.M) H) := hid_less H fun a h => List.mem_cons_of_mem _ h
  have lM : l ∉ L' ++ B.M := fun z => by
    rcases List.mem_append.mp z with z | z
    · exact hn z
    · obtain ⟨o, e⟩ := E.lm l z
      rw [(E.lo l (List.mem_cons_self ..)).1] at e; cases e
  have gt : ∀ (j : Nat) (s : Sl), (Γ.set i (.d (.list xs)))[j]? = some s → (j = i ∧ s = .d (.list xs) ∧ j < Γ.length) ∨ (j ≠ i ∧ Γ[j]? = some s) := fun j s hj => by
    by_cases e : j = i
    · subst e
      refine .inl ⟨rfl, ?_⟩
      by_cases hl : j < Γ.length
      · rw [List.getElem?_set_self hl] at hj
        exact ⟨(Option.some.inj hj).symm, hl⟩
      · rw [List.getElem?_eq_none (by rw [List.length_set]; omega)] at hj
        cases hj
    · rw [List.getElem?_set_ne (Ne.symm e)] at hj
      exact .inr ⟨e, hj⟩
  refine ⟨E.fr, E.ws, E.wm, E.lm, fun m hm => E.lo m (List.mem_cons_of_mem _ hm), by rw [List.length_set]; exact E.len, fun j s hj => ?_, fun p hp => (E.gh p hp).trans hs, fun j m zs hj => ?_, fun j k m zs ws hj hk => ?_, fun j w hj => ?_⟩
  · rcases gt j s hj with ⟨rfl, rfl, hj'⟩ | ⟨ne, hj'⟩
    · obtain ⟨e, vs, hl, dn⟩ := E.sl j _ hi
      exact ⟨_, e, .lst (by rw [hid_out lM]; exact hl) (dn.mono hs)⟩
    · have q := E.sl j s hj'
      cases s with
      | un => trivial
      | d x =>
        obtain ⟨v, e, dn⟩ := q
        exact ⟨v, e, dn.mono hs⟩
      | own m zs =>
        obtain ⟨e, ws, hm, dnm⟩ := q
        exact ⟨e, ws, hm, dnm.mono hs⟩
      | well w => exact q
      | raw v => exact q
  · rcases gt j _ hj with ⟨_, e, _⟩ | ⟨nj, hj⟩
    · cases e
    · rcases List.mem_cons.mp (E.ow j m zs hj) with z | z
      · subst z
        exact absurd (E.ou j i m zs xs hj hi) nj
      · exact z
  · rcases gt j _ hj with ⟨ej, e, _⟩ | ⟨nj, hj⟩
    · cases e
    · rcases gt k _ hk with ⟨ek, e', _⟩ | ⟨_, hk⟩
      · cases e'
      · exact E.ou j k m zs ws hj hk
  · rcases gt j _ hj with ⟨_, e, _⟩ | ⟨_, hj⟩
    · cases e
    · exact E.we j w hj
theorem st_freeze (i : Nat) {l : Addr} {L' : List Addr} {xs : List PyData} (hi : Γ[i]? = some (.own l xs)) (hn : l ∉ L') (h : StP K B G L' (Γ.set i (.d (.list xs))) t P) : StP K B G (l :: L') Γ t P := fun σ H D E M => h σ H D (E.freeze hn hi) M
end
end DL
namespace DL
open PySem PySem.Spec PyProof.Rows L2
section
variable {K : PySem.W.Frag} {B : Bs} {G : List Hp} {L : List Addr} {Γ : List Sl} {H H' H2 : Hp} {σ : L2.St}
variable {te ta tb tc tl : TE} {tt tu : TT} {tr : TA} {k : PyData → Prop} {x y : PyData} {P P' : PD} {t u : TS}

/-! ### loops -/
theorem Env.gpush (E : Env K B G L H σ Γ) : Env K B (hid (L ++ B.M) H :: G) L H σ Γ := ⟨E.fr, E.ws, E.wm, E.lm, E.lo, E.len, E.sl, fun g hg => by
  rcases List.mem_cons.mp hg with rfl | hg
  · exact Same.refl _
  · exact E.gh g hg, E.ow, E.ou, E.we⟩
theorem Env.gpop {g : Hp} (E : Env K B (g :: G) L H σ Γ) : Env K B G L H σ Γ := ⟨E.fr, E.ws, E.wm, E.lm, E.lo, E.len, E.sl, fun g' hg => E.gh g' (List.mem_cons_of_mem _ hg), E.ow, E.ou, E.we⟩
def PD.inLoop (P : PD) (I : List Addr → List Sl → Prop) : PD := { nx := I, ct := I, bk := P.nx, rt := P.rt }
/-- for x in (a list that is data | a tuple) -/
theorem st_forL {j : Nat} (h : EvP K B G L Γ tl fun d => ∃ ds, d = .list ds ∧ ∃ I : Nat → List Addr → List Sl → Prop, I 0 L Γ ∧
    (∀ i d' L' Γ' g, ds[i]? = some d' → I i L' Γ' → StP K B (g :: G) L' (Γ'.set j (.d d')) t (P.inLoop (I (i + 1)))) ∧ ∀ L' Γ', I ds.length L' Γ' → P.nx L' Γ') :
    StP K B G L Γ (tFor (iList K tl) (gName j) t) P := fun σ H D E M =>
  h σ H _ E fun v d H1 g1 dn ⟨ds, e, I, h0, hs, hd⟩ => by
    subst e
    cases dn with
    | @lst a xs _ e1 h2 =>
      have E1 := g1.env.gpush
      refine ⟨a, rfl, ⟨xs, .inl (.inl (hid_sub _ _ _ _ e1))⟩, for_list (xs := xs) (fun i σ' H' => ∃ L' Γ', I i L' Γ' ∧ Env K B (hid (L ++ B.M) H1 :: G) L' H' σ' Γ') ⟨L, Γ, h0, E1⟩ (fun i σ' H' _ ⟨L', Γ', _, E'⟩ => ?_) (fun i x σ' H' hi ⟨L', Γ', hI, E'⟩ => ?_) (fun σ' H' ⟨L', Γ', hI, E'⟩ => ?_)⟩
      · exact .inl (.inl (hid_sub _ _ _ _ (E'.gh _ (List.mem_cons_self ..) _ _ e1)))
      · obtain ⟨d', e', dn'⟩ := h2.getV hi
        refine hs i d' L' Γ' _ e' hI _ H' _ (E'.put j (dn'.mono (E'.gh _ (List.mem_cons_self ..)))) ⟨fun L2 Γ2 σ2 H2 q E2 => ⟨L2, Γ2, q, E2⟩, M.rt, fun L2 Γ2 σ2 H2 q E2 => M.nx _ _ _ _ q E2.gpop, fun L2 Γ2 σ2 H2 q E2 => ⟨L2, Γ2, q, E2⟩⟩
      · rw [h2.length] at hI
        exact M.nx _ _ _ _ (hd L' Γ' hI) E'.gpop
theorem st_forT {j : Nat} (h : EvP K B G L Γ tl fun d => ∃ ds, d = .tuple ds ∧ ∃ I : Nat → List Addr → List Sl → Prop, I 0 L Γ ∧
    (∀ i d' L' Γ' g, ds[i]? = some d' → I i L' Γ' → StP K B (g :: G) L' (Γ'.set j (.d d')) t (P.inLoop (I (i + 1)))) ∧ ∀ L' Γ', I ds.length L' Γ' → P.nx L' Γ') :
    StP K B G L Γ (tFor (iTup K tl) (gName j) t) P := fun σ H D E M =>
  h σ H _ E fun v d H1 g1 dn ⟨ds, e, I, h0, hs, hd⟩ => by
    subst e
    cases dn with
    | @tup a xs _ e1 h2 =>
      have E1 := g1.env.gpush
      refine ⟨a, rfl, ⟨xs, Same.sqt (hid_sub _ _) e1⟩, for_tup (xs := xs) (fun i σ' H' => ∃ L' Γ', I i L' Γ' ∧ Env K B (hid (L ++ B.M) H1 :: G) L' H' σ' Γ') ⟨L, Γ, h0, E1⟩ (fun i σ' H' _ ⟨L', Γ', _, E'⟩ => ?_) (fun i x σ' H' hi ⟨L', Γ', hI, E'⟩ => ?_) (fun σ' H' ⟨L', Γ', hI, E'⟩ => ?_)⟩
      · exact Same.sqt (hid_sub _ _) (Same.sqt (E'.gh _ (List.mem_cons_self ..)) e1)
      · obtain ⟨d', e', dn'⟩ := h2.getV hi
        refine hs i d' L' Γ' _ e' hI _ H' _ (E'.put j (dn'.mono (E'.gh _ (List.mem_cons_self ..)))) ⟨fun L2 Γ2 σ2 H2 q E2 => ⟨L2, Γ2, q, E2⟩, M.rt, fun L2 Γ2 σ2 H2 q E2 => M.nx _ _ _ _ q E2.gpop, fun L2 Γ2 σ2 H2 q E2 => ⟨L2, Γ2, q, E2⟩⟩
      · rw [h2.length] at hI
        exact M.nx _ _ _ _ (hd L' Γ' hI) E'.gpop
/-- for k in range(n) -/
theorem st_forR {j : Nat} (h : EvA K B G L Γ tr fun vs => ∃ n : Int, vs = [.int n] ∧ -1000000 ≤ n ∧ n ≤ 1000000 ∧ ∃ I : Nat → List Addr → List Sl → Prop, I 0 L Γ ∧
    (∀ i L' Γ', i < n.toNat → I i L' Γ' → StP K B G L' (Γ'.set j (.d (.int (i : Int)))) t (P.inLoop (I (i + 1)))) ∧ ∀ L' Γ', I n.toNat L' Γ' → P.nx L' Γ') :
    StP K B G L Γ (tFor (iRng1 tr) (gName j) t) P := fun σ H D E M =>
  h σ H _ E fun vs ds H1 g1 dn ⟨n, e, hn0, hn, I, h0, hs, hd⟩ => by
    subst e
    cases dn with
    | cons d1 d2 =>
      cases d2
      cases d1
      refine ⟨n, rfl, by omega, by omega, for_range (lo := 0) (n := n.toNat) (fun i σ' H' => ∃ L' Γ', I i L' Γ' ∧ Env K B G L' H' σ' Γ') ⟨L, Γ, h0, g1.env⟩ (fun i σ' H' hi ⟨L', Γ', hI, E'⟩ => ?_) (fun σ' H' ⟨L', Γ', hI, E'⟩ => M.nx _ _ _ _ (hd L' Γ' hI) E')⟩
      have e0 : (0 : Int) + (i : Int) = (i : Int) := Int.zero_add _
      rw [e0]
      exact hs i L' Γ' hi hI _ H' _ (E'.put j (.int _)) ⟨fun L2 Γ2 σ2 H2 q E2 => ⟨L2, Γ2, q, E2⟩, M.rt, M.nx, fun L2 Γ2 σ2 H2 q E2 => ⟨L2, Γ2, q, E2⟩⟩
/-- while -/
theorem st_while (I : Nat → List Addr → List Sl → Prop) (m0 : Nat) (h0 : I m0 L Γ)
    (hs : ∀ m L' Γ', I m L' Γ' → EvT K B G L' Γ' tt fun b => (b = true → StP K B G L' Γ' t (P.inLoop fun L2 Γ2 => ∃ m', m' < m ∧ I m' L2 Γ2)) ∧ (b = false → P.nx L' Γ')) : StP K B G L Γ (tWhile tt t) P := fun σ H D E M =>
  ⟨fun m σ' H' => ∃ L' Γ', I m L' Γ' ∧ Env K B G L' H' σ' Γ', ⟨m0, L, Γ, h0, E⟩, fun m σ' H' ⟨L', Γ', hI, E'⟩ => hs m L' Γ' hI σ' H' _ E' fun b H1 g1 ⟨h1, h2⟩ => by
    cases b with
    | true =>
      refine iteT ⟨fun σ2 H2 => ∃ L2 Γ2, (∃ m', m' < m ∧ I m' L2 Γ2) ∧ Env K B G L2 H2 σ2 Γ2, fun σ2 H2 ⟨L2, Γ2, ⟨m', hm, hI2⟩, E2⟩ => ⟨m', hm, L2, Γ2, hI2, E2⟩, ?_⟩
      exact h1 rfl σ' H1 _ g1.env ⟨fun L2 Γ2 σ2 H2 q E2 => ⟨L2, Γ2, q, E2⟩, M.rt, M.nx, fun L2 Γ2 σ2 H2 q E2 => ⟨L2, Γ2, q, E2⟩⟩
    | false => exact iteF (M.nx _ _ _ _ (h2 rfl) g1.env)⟩

/-! ### comprehensions -/
/-- one more list of one's own, no name's -/
theorem Env.temp {l : Addr} {vs : List V} (E : Env K B G L H σ Γ) (g : Go K B G L Γ H H' σ) (hl : H l = none) (h : H' l = some (.lst vs)) : Env K B G (l :: L) H' σ Γ := by
  have E' := g.env
  have hkeep := g.keepL E hl
  refine ⟨E'.fr, E'.ws, E'.wm, E'.lm, fun m hm => ?_, E'.len, fun j s hj => ?_, fun p hp => (E.gh p hp).trans hkeep, fun j m xs hj => List.mem_cons_of_mem _ (E'.ow j m xs hj), E'.ou, E'.we⟩
  · rcases List.mem_cons.mp hm with rfl | hm
    · refine ⟨?_, _, h⟩
      cases e : B.H m with
      | none => rfl
      | some o =>
        exfalso
        by_cases w : m ∈ B.Ws
        · obtain ⟨_, _, _, q, _⟩ := E.ws m w
          rw [hl] at q; cases q
        · have q := E.fr m o w e
          rw [hl] at q; cases q
    · exact E'.lo m hm
  · have q := E.sl j s hj
    cases s with
    | un => trivial
    | d x =>
      obtain ⟨v, e, dn⟩ := q
      exact ⟨v, e, dn.mono hkeep⟩
    | own m xs =>
      obtain ⟨e, ws, hm, dnm⟩ := q
      exact ⟨e, ws, g.kp m (E.ow j m xs hj) _ hm, dnm.mono hkeep⟩
    | well w => exact q
    | raw v => exact q
def wipeG (Γ : List Sl) : List Nat → List Sl
  | [] => Γ
  | v :: vs => (wipeG Γ vs).set v .un
theorem Env.set_un (E : Env K B G L H σ Γ) (i : Nat) : Env K B G L H (σ.set i none) (Γ.set i .un) := by
  have E2 := E.weak i
  refine ⟨E2.fr, E2.ws, E2.wm, E2.lm, E2.lo, by rw [List.length_set]; exact E2.len, fun j s hj => ?_, E2.gh, E2.ow, E2.ou, E2.we⟩
  by_cases e : j = i
  · subst e
    have : s = .un := by
      by_cases hl : j < Γ.length
      · rw [List.getElem?_set_self hl] at hj
        exact (Option.some.inj hj).symm
      · rw [List.getElem?_eq_none (by rw [List.length_set]; omega)] at hj
        cases hj
    subst this
    trivial
  · rw [List.getElem?_set_ne (Ne.symm e)]
    exact E2.sl j s hj
theorem Env.wipe (E : Env K B G L H σ Γ) : ∀ vs : List Nat, Env K B G L H (L2.wipe σ vs) (wipeG Γ vs)
  | [] => E
  | v :: vs => (Env.wipe E vs).set_un v
/-- a comprehension's turns: J says what is made of the first turns -/
def CompOk (K : PySem.W.Frag) (B : Bs) (G : List Hp) (L : List Addr) (Γ : List Sl) (j : Nat) (tt : TT) (te : TE) (vs : List Nat) (n : Nat) (item : Nat → PyData → Prop) (J : Nat → List PyData → Prop) : Prop :=
  J 0 [] ∧ ∀ i D d' acc, item i d' → J i acc → i < n → EvT K B G (D :: L) ((wipeG Γ vs).set j (.d d')) tt fun b =>
    (b = true → EvP K B G (D :: L) ((wipeG Γ vs).set j (.d d')) te fun y => J (i + 1) (acc ++ [y])) ∧ (b = false → J (i + 1) acc)
/-- the heap and the list so far -/
structure Sofar (K : PySem.W.Frag) (B : Bs) (L : List Addr) (H1 H' : Hp) (D : Addr) (i : Nat) (J : Nat → List PyData → Prop) : Prop where
  rl : ∀ a o, a ∉ B.Ws → H1 a = some o → H' a = some o
  ws : ∀ w ∈ B.Ws, WellAt H' w
  it : ∃ accV acc, J i acc ∧ acc.length ≤ i ∧ H' D = some (.lst accV) ∧ DnA K (hid (D :: (L ++ B.M)) H') accV acc
theorem Go.of_rel (E : Env K B G L H σ Γ) (h1 : ∀ a o, a ∉ B.Ws → H a = some o → H' a = some o) (h2 : ∀ w ∈ B.Ws, WellAt H' w) : Go K B G L Γ H H' σ := Go.step E h1 h2
theorem comp_turn {j n : Nat} {vs : List Nat} {item : Nat → PyData → Prop} {J : Nat → List PyData → Prop} {H1 : Hp} {D : Addr} {i : Nat} {x : V} {d' : PyData} (E1 : Env K B G L H1 σ Γ) (hD : H1 D = none) (C : CompOk K B G L Γ j tt te vs n item J) (hn : n ≤ 100000)
    (S : Sofar K B L H1 H' D i J) (hi : item i d') (hin : i < n) (dn : Dn K (hid (L ++ B.M) H1) x d') :
    tt ((L2.wipe σ vs).set j (some x)) H' fun b H3 => if b = true then te ((L2.wipe σ vs).set j (some x)) H3 fun y H4 => ∃ acc, H4 D = some (.lst acc) ∧ acc.length < sizeLine ∧ Sofar K B L H1 (upd H4 D (.lst (acc ++ [y]))) D (i + 1) J else Sofar K B L H1 H3 D (i + 1) J := by
  obtain ⟨rl, ws, accV, acc, hJ, hlen, hDl, dA⟩ := S
  have g0 : Go K B G L Γ H1 H' σ := Go.of_rel E1 rl ws
  have ET := Env.temp E1 g0 hD hDl
  have hk0 : Same (hid (L ++ B.M) H1) (hid (D :: L ++ B.M) H') := g0.keepL E1 hD
  have EW := (ET.wipe vs).put j (dn.mono hk0)
  refine C.2 i D d' acc hi hJ hin _ H' _ EW fun b H3 g3 ⟨c1, c2⟩ => ?_
  have D3 : H3 D = some (.lst accV) := g3.kp D (List.mem_cons_self ..) _ hDl
  cases b with
  | false =>
    refine iteF ⟨fun a o w e => g3.rl a o w (rl a o w e), g3.env.ws, accV, acc, c2 rfl, by omega, D3, dA.mono g3.sm⟩
  | true =>
    refine iteT (c1 rfl _ H3 _ g3.env fun y d H4 g4 dy hJ' => ?_)
    have D4 : H4 D = some (.lst accV) := g4.kp D (List.mem_cons_self ..) _ D3
    refine ⟨accV, D4, ?_, ?_⟩
    · rw [dA.length]
      exact Nat.lt_of_le_of_lt hlen (Nat.lt_of_lt_of_le (Nat.lt_of_lt_of_le hin hn) (by decide))
    · have hs : Same (hid (D :: (L ++ B.M)) H4) (hid (D :: (L ++ B.M)) (upd H4 D (.lst (accV ++ [y])))) := fun a o e => by
        obtain ⟨q, e⟩ := hid_some e
        rw [hid_out q, upd_ne (fun z => q (by rw [z]; exact List.mem_cons_self ..))]
        exact e
      have dW : D ∉ B.Ws := fun w => by
        obtain ⟨_, _, _, q, _⟩ := E1.ws D w
        rw [hD] at q; cases q
      refine ⟨fun a o w e => ?_, fun w hw => ?_, accV ++ [y], acc ++ [d], hJ', by rw [List.length_append]; exact Nat.succ_le_succ hlen, upd_same, ?_⟩
      · rw [upd_ne (ne_of_none e hD)]
        exact g4.rl a o w (g3.rl a o w (rl a o w e))
      · obtain ⟨n, b, c, e, q⟩ := g4.env.ws w hw
        exact ⟨n, b, c, by rw [upd_ne (fun (z : w = D) => dW (by rw [← z]; exact hw))]; exact e, q⟩
      · exact ((dA.mono g3.sm).mono g4.sm |>.append (.cons dy .nil)).mono hs
theorem en_lcT {j : Nat} {vs : List Nat} {kl : List PyData → Prop} (hw : ∀ (σ : L2.St) x, L2.wipe ((L2.wipe σ vs).set j (some x)) vs = L2.wipe σ vs)
    (h : EvP K B G L Γ tl fun d => ∃ ds, d = .tuple ds ∧ ds.length ≤ 100000 ∧ ∃ J, CompOk K B G L Γ j tt te vs ds.length (fun i d' => ds[i]? = some d') J ∧ ∀ acc, J ds.length acc → kl acc) :
    EvN K B G L Γ (tLc (iTup K tl) (gName j) tt te vs) kl := fun σ H Q E q =>
  h σ H _ E fun v d H1 g1 dn ⟨ds, e, hl, J, C, hk⟩ => by
    subst e
    cases dn with
    | @tup a xs _ e1 h2 =>
      refine ⟨a, rfl, ⟨xs, Same.sqt (hid_sub _ _) e1⟩, fun D hD => lc_tup (xs := xs) (fun i H' => Sofar K B L H1 H' D i J)
        ⟨fun a o w e => same_upd hD a o e, fun w hw => ?_, [], [], C.1, Nat.le_refl _, upd_same, .nil⟩ (fun i H' _ S => ?_) (fun i x H' hi S => ?_) (fun H' S => ?_)⟩
      · obtain ⟨n, b, c, e, q⟩ := g1.env.ws w hw
        exact ⟨n, b, c, same_upd hD _ _ e, q⟩
      · have g0 : Go K B G L Γ H1 H' σ := Go.of_rel g1.env S.rl S.ws
        exact Same.sqt (hid_sub _ _) (Same.sqt g0.sm e1)
      · obtain ⟨d', e', dn'⟩ := h2.getV hi
        exact ⟨hw σ x, comp_turn g1.env hD C hl S e' (List.getElem?_eq_some_iff.mp e').1 dn'⟩
      · have g0 : Go K B G L Γ H1 H' σ := Go.of_rel g1.env S.rl S.ws
        obtain ⟨accV, acc, hJ, _, e, dA⟩ := S.it
        rw [h2.length] at hJ
        exact q D accV acc H' (g1.trans g0) (Go.fresh E g1 hD) e dA (hk acc hJ)
theorem en_lcL {j : Nat} {vs : List Nat} {kl : List PyData → Prop} (hw : ∀ (σ : L2.St) x, L2.wipe ((L2.wipe σ vs).set j (some x)) vs = L2.wipe σ vs)
    (h : EvP K B G L Γ tl fun d => ∃ ds, d = .list ds ∧ ds.length ≤ 100000 ∧ ∃ J, CompOk K B G L Γ j tt te vs ds.length (fun i d' => ds[i]? = some d') J ∧ ∀ acc, J ds.length acc → kl acc) :
    EvN K B G L Γ (tLc (iList K tl) (gName j) tt te vs) kl := fun σ H Q E q =>
  h σ H _ E fun v d H1 g1 dn ⟨ds, e, hl, J, C, hk⟩ => by
    subst e
    cases dn with
    | @lst a xs _ e1 h2 =>
      refine ⟨a, rfl, ⟨xs, .inl (.inl (hid_sub _ _ _ _ e1))⟩, fun D hD => lc_list (xs := xs) (fun i H' => Sofar K B L H1 H' D i J)
        ⟨fun a o w e => same_upd hD a o e, fun w hw => ?_, [], [], C.1, Nat.le_refl _, upd_same, .nil⟩ (fun i H' _ S => ?_) (fun i x H' hi S => ?_) (fun H' S => ?_)⟩
      · obtain ⟨n, b, c, e, q⟩ := g1.env.ws w hw
        exact ⟨n, b, c, same_upd hD _ _ e, q⟩
      · have g0 : Go K B G L Γ H1 H' σ := Go.of_rel g1.env S.rl S.ws
        exact .inl (.inl (hid_sub _ _ _ _ (g0.sm _ _ e1)))
      · obtain ⟨d', e', dn'⟩ := h2.getV hi
        exact ⟨hw σ x, comp_turn g1.env hD C hl S e' (List.getElem?_eq_some_iff.mp e').1 dn'⟩
      · have g0 : Go K B G L Γ H1 H' σ := Go.of_rel g1.env S.rl S.ws
        obtain ⟨accV, acc, hJ, _, e, dA⟩ := S.it
        rw [h2.length] at hJ
        exact q D accV acc H' (g1.trans g0) (Go.fresh E g1 hD) e dA (hk acc hJ)
theorem et_yes {kb : Bool → Prop} (h : kb true) : EvT K B G L Γ tYes kb := fun σ H Q E q => q true H (Go.refl E) h

/-! ### defs -/
/-- a def that changes nothing -/
def SpP (K : PySem.W.Frag) (pre : List PyData → Prop) (post : List PyData → PyData → Prop) : Sp := fun vs H Q _ => ∃ M ds, (∀ m ∈ M, ∃ o, H m = some o) ∧ DnA K (hid M H) vs ds ∧ pre ds ∧
  ∀ v d H', Same H H' → Dn K (hid M H') v d → post ds d → Q v H'
/-- a def that draws from the well, its first argument -/
def SpW (K : PySem.W.Frag) (pre : List PyData → Prop) (post : List PyData → PyData → Prop) : Sp := fun vs H Q _ => ∃ M w vs' ds, vs = .ref w :: vs' ∧ w ∈ M ∧ WellAt H w ∧ (∀ m ∈ M, ∃ o, H m = some o) ∧ DnA K (hid M H) vs' ds ∧ pre ds ∧
  ∀ v d H', (∀ a o, a ≠ w → H a = some o → H' a = some o) → WellAt H' w → Dn K (hid M H') v d → post ds d → Q v H'
theorem ev_callP {pre : List PyData → Prop} {post : List PyData → PyData → Prop} {E0 : XK} (h : EvA K B G L Γ tr fun ds => pre ds ∧ ∀ d, post ds d → k d) : EvP K B G L Γ (tCall (SpP K pre post) [] E0 tr) k := fun σ H Q E q =>
  h σ H _ E fun vs ds H1 g1 dn ⟨hp, hk⟩ => by
    rw [List.append_nil]
    refine ⟨L ++ B.M, ds, g1.env.alive, dn, hp, fun v d H' hs dv hpost => ?_⟩
    have g2 := Go.step g1.env (H' := H') (fun a o _ e => hs a o e) fun w hw => by
      obtain ⟨n, b, c, e, q⟩ := g1.env.ws w hw
      exact ⟨n, b, c, hs _ _ e, q⟩
    exact q v d H' (g1.trans g2) dv (hk d hpost)
theorem ev_callW {i : Nat} {w : Addr} {pre : List PyData → Prop} {post : List PyData → PyData → Prop} {E0 : XK} (hi : Γ[i]? = some (.well w)) (h : EvA K B G L Γ tr fun ds => pre ds ∧ ∀ d, post ds d → k d) : EvP K B G L Γ (tCall (SpW K pre post) [] E0 (tCons (tVar i) tr)) k := fun σ H Q E q =>
  ⟨_, E.getW hi, h σ H _ E fun vs ds H1 g1 dn ⟨hp, hk⟩ => by
    show SpW K pre post ((V.ref w :: vs) ++ []) H1 Q E0
    rw [List.append_nil]
    have hw := g1.env.we i w hi
    refine ⟨L ++ B.M, w, vs, ds, rfl, List.mem_append_right _ (g1.env.wm w hw), g1.env.ws w hw, g1.env.alive, dn, hp, fun v d H' hs hW dv hpost => ?_⟩
    have g2 := Go.step g1.env (H' := H') (fun a o wn e => hs a o (fun z => wn (by rw [z]; exact hw)) e) fun w' hw' => by
      by_cases z : w' = w
      · rw [z]; exact hW
      · obtain ⟨n, b, c, e, q⟩ := g1.env.ws w' hw'
        exact ⟨n, b, c, hs _ _ z e, q⟩
    exact q v d H' (g1.trans g2) dv (hk d hpost)⟩
def slots (N : List Str) (ds : List PyData) : List Sl := ds.map Sl.d ++ List.replicate (N.length - ds.length) .un
theorem slotok_start (K : PySem.W.Frag) (M : List Addr) (H : Hp) (r : Nat) {vs : List V} {ds : List PyData} (dn : DnA K (hid M H) vs ds) : ∀ (i : Nat) (s : Sl), (ds.map Sl.d ++ List.replicate r Sl.un)[i]? = some s → SlotOk K M H ((vs.map some ++ List.replicate r none)[i]?.join) s := fun i s hi => by
  have hl := dn.length
  by_cases h : i < ds.length
  · rw [List.getElem?_append_left (by simpa using h)] at hi
    rw [List.getElem?_append_left (by simpa [hl] using h)]
    rw [List.getElem?_map, List.getElem?_eq_getElem h] at hi
    obtain ⟨v, e, dv⟩ := dn.get (List.getElem?_eq_getElem h)
    rw [List.getElem?_map, e]
    cases hi
    exact ⟨v, rfl, dv⟩
  · rw [List.getElem?_append_right (by simpa using h), List.getElem?_replicate] at hi
    split at hi
    · cases hi
      trivial
    · cases hi
/-- from a promise to its body -/
theorem body_P {pre : List PyData → Prop} {post : List PyData → PyData → Prop} {N : List Str} {vs : List V} {Q : VK} {E : XK} (h : SpP K pre post vs H Q E)
    (hb : ∀ (B : Bs) (ds : List PyData), B.Ws = [] → pre ds → StP K B [] [] (slots N ds) t { nx := fun _ _ => post ds .none, rt := post ds }) : t { nx := fun _ H' => Q .non H', rt := Q } (L2.start N vs) H := by
  obtain ⟨M, ds, lm, dn, hp, q⟩ := h
  have E0 : Env K ⟨M, [], H⟩ [] [] H (L2.start N vs) (slots N ds) := by
    refine ⟨fun _ _ _ e => e, fun w hw => (by cases hw), fun w hw => (by cases hw), lm, fun l hl => (by cases hl), ?_, ?_, fun g hg => (by cases hg), ?_, ?_, ?_⟩
    · unfold L2.start slots
      simp [dn.length]
    · unfold L2.start slots
      rw [dn.length]
      exact slotok_start K _ H _ dn
    · intro i l xs hi
      exfalso
      unfold slots at hi
      rcases List.mem_append.mp (List.mem_of_getElem? hi) with z | z
      · obtain ⟨d, _, e⟩ := List.mem_map.mp z
        cases e
      · cases (List.eq_of_mem_replicate z)
    · intro i j l xs ys hi hj
      exfalso
      unfold slots at hi
      rcases List.mem_append.mp (List.mem_of_getElem? hi) with z | z
      · obtain ⟨d, _, e⟩ := List.mem_map.mp z
        cases e
      · cases (List.eq_of_mem_replicate z)
    · intro i w hi
      exfalso
      unfold slots at hi
      rcases List.mem_append.mp (List.mem_of_getElem? hi) with z | z
      · obtain ⟨d, _, e⟩ := List.mem_map.mp z
        cases e
      · cases (List.eq_of_mem_replicate z)
  exact hb _ ds rfl hp _ _ _ E0 ⟨fun L Γ σ H' hq E' => q _ _ H' (fun a o e => E'.fr a o (by simp) e) .non hq, fun v d H' hq o dn => q v d H' (fun a o' e => o.fr a o' (by simp) e) dn hq, fun _ _ _ _ z => z.elim, fun _ _ _ _ z => z.elim⟩
theorem body_W {pre : List PyData → Prop} {post : List PyData → PyData → Prop} {N : List Str} {vs : List V} {Q : VK} {E : XK} (h : SpW K pre post vs H Q E) (hN : N ≠ [])
    (hb : ∀ (B : Bs) (w : Addr) (ds : List PyData), pre ds → StP K B [] [] (.well w :: slots N.tail ds) t { nx := fun _ _ => post ds .none, rt := post ds }) : t { nx := fun _ H' => Q .non H', rt := Q } (L2.start N vs) H := by
  obtain ⟨M, w, vs', ds, rfl, wM, hW, lm, dn, hp, q⟩ := h
  obtain ⟨n0, N', rfl⟩ : ∃ n0 N', N = n0 :: N' := by
    cases N with
    | nil => exact absurd rfl hN
    | cons a b => exact ⟨a, b, rfl⟩
  have e0 : L2.start (n0 :: N') (.ref w :: vs') = some (.ref w) :: (vs'.map some ++ List.replicate (N'.length - vs'.length) none) := by
    unfold L2.start
    simp
  have E0 : Env K ⟨M, [w], H⟩ [] [] H (L2.start (n0 :: N') (.ref w :: vs')) (.well w :: slots N' ds) := by
    rw [e0]
    refine ⟨fun _ _ _ e => e, fun w' hw => ?_, fun w' hw => ?_, lm, fun l hl => (by cases hl), ?_, ?_, fun g hg => (by cases hg), ?_, ?_, ?_⟩
    · rw [List.mem_singleton.mp hw]; exact hW
    · rw [List.mem_singleton.mp hw]; exact wM
    · unfold slots
      simp [dn.length]
    · intro i s hi
      cases i with
      | zero =>
        cases hi
        rfl
      | succ i =>
        have hi' : (slots N' ds)[i]? = some s := by simpa using hi
        have := slotok_start K ([] ++ M) H (N'.length - ds.length) dn i s hi'
        rw [← dn.length] at this
        simpa using this
    · intro i l xs hi
      exfalso
      cases i with
      | zero => cases hi
      | succ i =>
        have hi' : (slots N' ds)[i]? = some (.own l xs) := by simpa using hi
        unfold slots at hi'
        rcases List.mem_append.mp (List.mem_of_getElem? hi') with z | z
        · obtain ⟨d, _, e⟩ := List.mem_map.mp z
          cases e
        · cases (List.eq_of_mem_replicate z)
    · intro i j l xs ys hi hj
      exfalso
      cases i with
      | zero => cases hi
      | succ i =>
        have hi' : (slots N' ds)[i]? = some (.own l xs) := by simpa using hi
        unfold slots at hi'
        rcases List.mem_append.mp (List.mem_of_getElem? hi') with z | z
        · obtain ⟨d, _, e⟩ := List.mem_map.mp z
          cases e
        · cases (List.eq_of_mem_replicate z)
    · intro i w' hi
      cases i with
      | zero =>
        cases hi
        exact List.mem_singleton.mpr rfl
      | succ i =>
        exfalso
        have hi' : (slots N' ds)[i]? = some (.well w') := by simpa using hi
        unfold slots at hi'
        rcases List.mem_append.mp (List.mem_of_getElem? hi') with z | z
        · obtain ⟨d, _, e⟩ := List.mem_map.mp z
          cases e
        · cases (List.eq_of_mem_replicate z)
  exact hb _ w ds hp _ _ _ E0 ⟨fun L Γ σ H' hq E' => q _ _ H' (fun a o ne e => E'.fr a o (fun z => ne (List.mem_singleton.mp z)) e) (E'.ws w (List.mem_singleton.mpr rfl)) .non hq,
    fun v d H' hq o dn => q v d H' (fun a o' ne e => o.fr a o' (fun z => ne (List.mem_singleton.mp z)) e) (o.ws w (List.mem_singleton.mpr rfl)) dn hq, fun _ _ _ _ z => z.elim, fun _ _ _ _ z => z.elim⟩
end
end DL
namespace PySem.HT
open PySem PySem.Spec PyProof.Rows
section
variable {prog : Program} {w : World} {A : Around} {E : Value → Shared → Prop} {s : Shared}
theorem filterMap_congr' {α β : Type} {f g : α → Option β} : ∀ {l : List α}, (∀ m ∈ l, f m = g m) → l.filterMap f = l.filterMap g
  | [], _ => rfl
  | a :: l, h => by
    rw [List.filterMap_cons, List.filterMap_cons, h a (List.mem_cons_self ..), filterMap_congr' fun m hm => h m (List.mem_cons_of_mem _ hm)]
theorem pick_rev (xs : Array Value) (n : Nat) (h : n = xs.size) (h1 : 1 ≤ n) : ((List.range n).filterMap fun (m : Nat) => xs[(((n : Int) - 1) + (m : Int) * (-1)).toNat]?).toArray = xs.toList.reverse.toArray := by
  congr 1
  have e : ∀ m ∈ List.range n, (fun (m : Nat) => xs[(((n : Int) - 1) + (m : Int) * (-1)).toNat]?) m = (fun m => xs.toList.reverse[m]?) m := fun m hm => by
    have hm' := List.mem_range.mp hm
    have q : (((n : Int) - 1) + (m : Int) * (-1)).toNat = n - 1 - m := by omega
    show xs[(((n : Int) - 1) + (m : Int) * (-1)).toNat]? = xs.toList.reverse[m]?
    rw [q, List.getElem?_reverse (by rw [Array.length_toList]; omega), Array.length_toList, Array.getElem?_toList, h]
  rw [filterMap_congr' e]
  have hl : n = xs.toList.reverse.length := by rw [List.length_reverse, Array.length_toList, h]
  rw [hl]
  exact List.ext_getElem? (fun i => by
    have : ∀ (l : List Value), (List.range l.length).filterMap (fun m => l[m]?) = l := fun l => by
      induction l with
      | nil => rfl
      | cons a l ih =>
        rw [List.length_cons, List.range_succ_eq_map, List.filterMap_cons, List.filterMap_map]
        simp only [List.getElem?_cons_zero]
        congr 1
    rw [this])
theorem getItem_tuple_rev {t sl : Addr} {items : Array Value} {vl vu vs : Value} {Q : Value → Shared → Prop} (ht : IsTup s.heap t items) (hs : s.heap.IsSliceOf sl vl vu vs) (pl : IsPart vl none) (pu : IsPart vu none) (ps : IsPart vs (some (-1)))
    (h1 : 1 ≤ items.size)
    (h : Q (.ref s.heap.objs.size) { s with heap := s.heap.push { cls := .type "tuple", data := .seq items.toList.reverse.toArray } })
    (hsz : items.size ≤ sizeLine) : wpAny (model prog w) A (getItem (.ref t) (.ref sl)) Q E s := by
  have htake : sizeOk (.seq items.toList.reverse.toArray) := by
    show items.toList.reverse.toArray.size ≤ sizeLine
    rw [List.size_toArray, List.length_reverse, Array.length_toList]
    exact hsz
  obtain ⟨os, hos, hcs, hds⟩ := id hs
  have hTs : s.TypeIs (.ref sl) "slice" := ⟨os, hos, hcs⟩
  unfold getItem
  try with_reducible refine wpAny_holding ?_
  first | refine wpAny_bind (wpAny_pure ?_) | skip
  refine wpAny_bind (wpAny_sequenceKey ht.typeIs (by decide) ?_)
  refine wpAny_bind (wpAny_callSpecial?_slot (name := Str.ofString "__getitem__") ht.typeIs PyProof.Rows.slot_tuple_getitem
    (wpAny_call_entry PyProof.Rows.slot_tuple_getitem ht.typeIs entry_tuple_getitem ?_ (args_tuple_getitem _ _)))
  show wpAny _ _ (Builtin.Tuple.tupleItemsOf (.ref t) >>= _) _ _ s
  refine wpAny_bind (tupleItemsOf_ ht ?_)
  refine wpAny_bind (wpAny_typeOf hTs ?_)
  rw [if_pos (by decide)]
  have hadj : Builtin.Slice.sliceAdjust none none (-1) (items.size : Int) = ((items.size : Int) - 1, -1) := by
    unfold Builtin.Slice.sliceAdjust
    rfl
  have hpl : Builtin.Slice.slicePlaces ((items.size : Int) - 1) (-1) (-1) = items.size := by
    unfold Builtin.Slice.slicePlaces
    rw [if_neg (by decide), if_pos (by omega)]
    have : ((items.size : Int) - 1 - -1 - 1) / (- -1) + 1 = items.size := by
      rw [show (- -1 : Int) = 1 by decide, Int.ediv_one]
      omega
    rw [this]
    exact Int.toNat_natCast _
  refine wpAny_bind ?_
  unfold Builtin.Slice.sliceApplied Builtin.Slice.sliceFields
  refine wpAny_bind (wpAny_bind (wpAny_field hos hds (x := vl) rfl (wpAny_bind (wpAny_field hos hds (x := vu) rfl (wpAny_bind (wpAny_field hos hds (x := vs) rfl (wpAny_pure ?_)))))))
  refine wpAny_bind (HT.slicePart_ ps ?_)
  show wpAny _ _ (if ((-1 : Int) == 0) = true then _ else _) _ _ s
  rw [if_neg (by decide)]
  refine wpAny_bind (HT.slicePart_ pl (wpAny_bind (HT.slicePart_ pu (wpAny_bind (wpAny_pure ?_)))))
  show wpAny _ _ (match Builtin.Slice.sliceAdjust none none (-1) (items.size : Int) with | (lo, hi) => pure (lo, (-1 : Int), Builtin.Slice.slicePlaces lo hi (-1))) _ _ s
  rw [hadj]
  show wpAny _ _ (pure ((items.size : Int) - 1, (-1 : Int), Builtin.Slice.slicePlaces ((items.size : Int) - 1) (-1) (-1))) _ _ s
  rw [hpl]
  refine wpAny_pure ?_
  have hno : ¬ ((((items.size : Int) - 1) == 0 && (-1 : Int) == 1 && items.size == items.size) = true) := by
    intro q
    rw [Bool.and_eq_true, Bool.and_eq_true] at q
    exact absurd q.1.2 (by decide)
  show wpAny _ _ (if (((items.size : Int) - 1) == 0 && (-1 : Int) == 1 && items.size == items.size) = true then _ else _) _ _ s
  rw [if_neg hno, pick_rev _ _ rfl h1]
  first
    | exact wpAny_bind (m := Builtin.Tuple.tupleExact _) (wpAny_newObj_type (wpAny_pure ⟨_, rfl, wpAny_pure h⟩) htake)
    | exact wpAny_bind (m := Builtin.Tuple.tupleExact _) (wpAny_newObj_type (wpAny_bind (wpAny_pure (wpAny_pure ⟨_, rfl, wpAny_pure h⟩))) htake)
    | exact wpAny_bind (wpAny_bind (m := Builtin.Tuple.tupleExact _) (wpAny_newObj_type (wpAny_pure (wpAny_pure ⟨_, rfl, wpAny_pure h⟩)) htake))
    | exact wpAny_bind (wpAny_bind (m := Builtin.Tuple.tupleExact _) (wpAny_newObj_type (wpAny_pure ⟨_, rfl, wpAny_pure h⟩) htake))
end
end PySem.HT
namespace DL
open PySem PySem.Spec PyProof.Rows L2
section
variable {X : Cx}
/-! ### more rules -/
theorem op_or {f : Value → Value → Sem Value} {r r' : R2} (h : OpR X f r) (h' : OpR X f r') : OpR X f (fun x y H Q => r x y H Q ∨ r' x y H Q) := fun pins s σ H x y v u Q I rx ry q => by
  rcases q with q | q
  · exact h pins s σ H x y v u Q I rx ry q
  · exact h' pins s σ H x y v u Q I rx ry q
def rAddA (K : PySem.W.Frag) : R2 := fun x y H Q => rI0 (fun i j => .int (i + j)) x y H Q ∨ (rCatA K x y H Q ∨ rCat x y H Q)
theorem op_addA : OpR X (binaryOp .Add) (rAddA X.K) := op_or op_add (op_or op_catA op_cat)
def rMulA (K : PySem.W.Frag) : R2 := fun x y H Q => rI CMul (fun i j => .int (i * j)) x y H Q ∨ (rI CMulW (fun i j => .int (i * j)) x y H Q ∨ (rRep x y H Q ∨ rRepT K x y H Q))
theorem op_mulA : OpR X (binaryOp .Mult) (rMulA X.K) := op_or op_mul (op_or op_mulW (op_or op_rep op_repT))
def rFdA : R2 := fun x y H Q => rI CDiv (fun i j => .int (i / j)) x y H Q ∨ (rI CDivW (fun i j => .int (i / j)) x y H Q ∨ rI CDivN (fun i j => .int (i.fdiv j)) x y H Q)
theorem op_fdA : OpR X (binaryOp .FloorDiv) rFdA := op_or op_fdiv (op_or op_fdivW op_fdivN)
def rModA : R2 := fun x y H Q => rI (fun _ j => 0 < j) (fun i j => .int (i % j)) x y H Q ∨ rI (fun _ j => j ≠ 0) (fun i j => .int (i.fmod j)) x y H Q
theorem op_modA : OpR X (binaryOp .Mod) rModA := op_or op_mod op_modN
def rSlX2 (K : PySem.W.Frag) : V → Option Int → Option Int → Hp → VK → Prop := fun x lo hi H Q => rSlA K x lo hi H Q ∨ rSlL K x lo hi H Q
theorem sl_any : SlR X (rSlX2 X.K) := sl_tupA.or sl_list
/-- t[::-1] of a tuple that is not empty -/
def tRevT (K : PySem.W.Frag) (te : TE) : TE := fun σ H Q => te σ H fun x H1 => ∃ a xs, x = .ref a ∧ SqT K H1 a xs ∧ xs ≠ [] ∧ ∀ p, H1 p = none → Q (.ref p) (upd H1 p (.tup xs.reverse))
theorem pe_revT {e : Expr} {te : TE} {k : Nat} {p1 p2 p3 pos : Pos} (he : PE X e te) : PE X (.Subscript e (.Slice none none (some (.UnaryOp .USub (.Constant (.int 1) k p1) p2)) p3) pos) (tRevT X.K te) := by
  refine ⟨fun pins s σ H Q I h => ?_⟩
  refine Subscript_ (thn (he.run pins s σ H _ I h) fun v s1 ⟨x, H1, I1, r1, q1⟩ => ?_)
  obtain ⟨a, xs, ex, hx, hne, q⟩ := q1
  subst ex
  cases r1
  have hst : PO X (some (.UnaryOp .USub (.Constant (.int 1) k p1) p2)) (tPart (tUn (rU fun i => .int (-i)) (tC (.int 1)))) := po_some (pe_un un_neg pe_int)
  refine wpAny_Slice (thn (po_none.run pins s1 σ H1 (fun o H2 => o = none ∧ H2 = H1) I1 ⟨rfl, rfl⟩) fun vl s2 ⟨l, H2, I2, pl, el, e2⟩ => ?_)
  subst el e2
  refine thn (po_none.run pins s2 σ H2 (fun o H3 => o = none ∧ H3 = H2) I2 ⟨rfl, rfl⟩) fun vu s3 ⟨u, H3, I3, pu, eu, e3⟩ => ?_
  subst eu e3
  refine thn (hst.run pins s3 σ H3 (fun o H4 => o = some (-1) ∧ H4 = H3) I3 ⟨1, rfl, -1, rfl, rfl, rfl⟩) fun vs s4 ⟨o, H4, I4, ps, eo, e4⟩ => ?_
  subst eo e4
  have I5 : Inv X pins σ H4 { s4 with heap := s4.heap.push { cls := .type "slice", data := .fields #[vl, vu, vs] } } := I4.kept (t' := s4.toks) fun b ob q => Heap.get?_push_of_some _ q
  obtain ⟨its, r, ht, hz⟩ := I5.tuple hx
  have hlen := r.length
  have h1 : 1 ≤ its.toArray.size := by
    rw [List.size_toArray, ← hlen]
    cases xs with
    | nil => exact absurd rfl hne
    | cons a b => exact Nat.succ_le_succ (Nat.zero_le _)
  show wpAny (model X.prog X.w) X.A (subscriptTail e (.Slice none none (some (.UnaryOp .USub (.Constant (.int 1) k p1) p2)) p3) (.ref a) (.ref s4.heap.objs.size)) (EP X pins σ Q) X.xe { s4 with heap := s4.heap.push { cls := .type "slice", data := .fields #[vl, vu, vs] } }
  refine tail_any (ops := [.ref a, .ref s4.heap.objs.size]) ht.typeIs (PyProof.Rows.slot_tuple_getitem.lookup) ?_ (by with_unfolding_all rfl)
  refine PySem.HT.getItem_tuple_rev ht (Heap.IsSliceOf.new _ vl vu vs) pl pu ps h1 ?_ (by rw [List.size_toArray]; omega)
  refine ⟨.ref _, _, I5.laid (t' := s4.toks) (o := .tup xs.reverse) (fun b ob q => Heap.get?_push_of_some _ q) (Nat.le_refl _) ?_, rfl, q _ (I5.hok.fresh (Nat.le_refl _))⟩
  exact ⟨by rw [List.length_reverse]; exact hz, _, r.reverse, IsTup.new _ _⟩
/-! f(k = v, ..), all parameters by name, in their order -/
def gK (us ws : List Value) : List Value := match us with
  | [] => ws
  | _ => []
def gKV (vs zs : List V) : List V := match vs with
  | [] => zs
  | _ => []
def tCallK0 (sp : Sp) (E : XK) (tk : TA) : TE := fun σ H Q => tk σ H fun zs H1 => sp zs H1 Q E
variable {x : Str} {p pos : Pos} {k : Nat} {f : Addr} {fd : FuncData} {ps ks : List Str} {sp : Sp} {CX : CXT} {E : XK} {tk : TA} {kws : List Keyword}
theorem pe_callK0 (F : FnOk X.prog X.w X.K X.mg X.base CX k f fd ps sp) (hr : Room k X.A) (hg : Gl X x) (hm : X.mg x = some (.ref f)) (hk : PySem.W.keepIn X.K (.ref f) = true) (hb : KBinds X.K fd ps ks gK gKV) (hx : Passes CX X E)
    (hkw : PK X kws tk) (hall : (backToKw pos (keywordEach kws X.env)).all (·.1.isSome) = true := by rfl) (hks : (backToKw pos (keywordEach kws X.env)).filterMap (·.1) = ks := by rfl)
    (hdb : (x == ("__debug__" : Str)) = false := by decide)
    (hpl : ((backTo pos (starEach [] X.env)).any (·.1) || (backToKw pos (keywordEach kws X.env)).any (·.1.isNone)) = false := by rfl) :
    PE X (.Call (.Name x p) [] kws pos) (tCallK0 sp E tk) := by
  refine ⟨fun pins s σ H Q I h => ?_⟩
  refine wpAny_Call_Name_kw (ld_glob I hg hm ?_ hdb)
  refine PySem.W.callWith_KW0 (h₀ := X.base) I.ok.mod.kin hk hall ?_ hpl
  refine thn (hkw.run pos pins s σ H _ I h) fun ws s2 ⟨zs, H2, I2, rz, q2⟩ => ⟨I2.kIn, ?_⟩
  rw [hks]
  exact run_fnk (us := []) (vs := []) F hr hb hx I2 .nil rz q2
end
theorem Fun.kbinds {K : PySem.W.Frag} {x qual : Str} {st : Stmt} {f : Addr} {fd : FuncData} {ps : List Str} (F : Fun K x qual st f fd) (hne : ps ≠ [])
    (h : ∀ (kV doc pm : Value) (an : Option Addr) (cdv ct : Value) (ws : List Value), ws.length = ps.length → bindArgs (PySem.W.fnOf x qual (defArgs st) (defBody st) (defScope st) .none kV doc pm an cdv ct) ⟨[], ps.zip ws⟩ = pure (ps.zip ws)) : KBinds K fd ps ps gK gKV := by
  obtain ⟨oc, od, kV, doc, pm, an, cdv, ct, osl, rfl, lk, hcd⟩ := F.ex
  refine ⟨fun s us ws _ hl => ?_, fun {vs us zs ws} r rz => ?_⟩
  · cases us with
    | nil => exact BindsTo.of_eq (h kV doc pm an cdv ct ws hl)
    | cons a b =>
      exfalso
      cases ps with
      | nil => exact hne rfl
      | cons c d => cases hl
  · cases r with
    | nil => exact rz
    | cons a b => exact .nil

section
variable {K : PySem.W.Frag} {B : Bs} {G : List Hp} {L : List Addr} {Γ : List Sl} {H H' H2 : Hp} {σ : L2.St}
variable {te ta tb tc tl : TE} {tt tu : TT} {tr : TA} {k : PyData → Prop} {x y : PyData} {P P' : PD} {t u : TS}
theorem ev_callK0 {pre : List PyData → Prop} {post : List PyData → PyData → Prop} {E0 : XK} (h : EvA K B G L Γ tr fun ds => pre ds ∧ ∀ d, post ds d → k d) : EvP K B G L Γ (tCallK0 (SpP K pre post) E0 tr) k := fun σ H Q E q =>
  h σ H _ E fun vs ds H1 g1 dn ⟨hp, hk⟩ => by
    refine ⟨L ++ B.M, ds, g1.env.alive, dn, hp, fun v d H' hs dv hpost => ?_⟩
    have g2 := Go.step g1.env (H' := H') (fun a o _ e => hs a o e) fun w hw => by
      obtain ⟨n, b, c, e, q⟩ := g1.env.ws w hw
      exact ⟨n, b, c, hs _ _ e, q⟩
    exact q v d H' (g1.trans g2) dv (hk d hpost)
theorem ROk.l {r r' : R2} (h : ROk K B G L Γ r x y k) : ROk K B G L Γ (fun x y H Q => r x y H Q ∨ r' x y H Q) x y k := fun σ H Q v u E d1 d2 q => .inl (h σ H Q v u E d1 d2 q)
theorem ROk.r {r r' : R2} (h : ROk K B G L Γ r' x y k) : ROk K B G L Γ (fun x y H Q => r x y H Q ∨ r' x y H Q) x y k := fun σ H Q v u E d1 d2 q => .inr (h σ H Q v u E d1 d2 q)
theorem ro_add {i j : Int} (hk : k (.int (i + j))) : ROk K B G L Γ (rAddA K) (.int i) (.int j) k := ROk.l (rok_i0 hk)
theorem ro_catT {ds es : List PyData} (hl : ds.length + es.length ≤ 1000000) (hk : k (.tuple (ds ++ es))) : ROk K B G L Γ (rAddA K) (.tuple ds) (.tuple es) k := ROk.r (ROk.l (rok_catT hl hk))
theorem ro_catL {ds es : List PyData} (hl : ds.length + es.length ≤ 1000000) (hk : k (.list (ds ++ es))) : ROk K B G L Γ (rAddA K) (.list ds) (.list es) k := ROk.r (ROk.r (rok_catL hl hk))
theorem ro_mul {i j : Int} (hc : CMul i j) (hk : k (.int (i * j))) : ROk K B G L Γ (rMulA K) (.int i) (.int j) k := ROk.l (rok_i hc hk)
theorem ro_mulW {i j : Int} (hc : CMulW i j) (hk : k (.int (i * j))) : ROk K B G L Γ (rMulA K) (.int i) (.int j) k := ROk.r (ROk.l (rok_i hc hk))
theorem ro_repL {ds : List PyData} {n : Int} (h0 : 0 ≤ n) (h1 : n ≤ 100000) (hl : ds.length * n.toNat ≤ 1000000) (hk : k (.list (List.replicate n.toNat ds).flatten)) : ROk K B G L Γ (rMulA K) (.list ds) (.int n) k := ROk.r (ROk.r (ROk.l (rok_repL h0 h1 hl hk)))
theorem ro_repT {ds : List PyData} {n : Int} (hne : ds ≠ []) (h0 : 2 ≤ n) (h1 : n ≤ 1000) (hl : ds.length ≤ 1000) (hk : k (.tuple (List.replicate n.toNat ds).flatten)) : ROk K B G L Γ (rMulA K) (.tuple ds) (.int n) k := ROk.r (ROk.r (ROk.r (rok_repT hne h0 h1 hl hk)))
theorem ro_fd {i j : Int} (hc : 0 < j ∧ j < 1073741824) (hk : k (.int (i / j))) : ROk K B G L Γ rFdA (.int i) (.int j) k := ROk.l (rok_i hc hk)
theorem ro_fdW {i j : Int} (hc : CDivW i j) (hk : k (.int (i / j))) : ROk K B G L Γ rFdA (.int i) (.int j) k := ROk.r (ROk.l (rok_i hc hk))
theorem ro_mod {i j : Int} (hc : 0 < j) (hk : k (.int (i % j))) : ROk K B G L Γ rModA (.int i) (.int j) k := ROk.l (rok_i (C := fun _ j => 0 < j) hc hk)
theorem so_tup {ds : List PyData} {lo hi : Option Int} (hk : k (.tuple (cutD ds lo hi))) : SOk K B G L Γ (rSlX2 K) (.tuple ds) lo hi k := fun σ H Q v E d1 q => .inl (sok_tup hk σ H Q v E d1 q)
theorem so_lst {ds : List PyData} {lo hi : Option Int} (hk : k (.list (cutD ds lo hi))) : SOk K B G L Γ (rSlX2 K) (.list ds) lo hi k := fun σ H Q v E d1 q => .inr (sok_lst hk σ H Q v E d1 q)
theorem ev_revT (h : EvP K B G L Γ te fun d => ∃ ds, d = .tuple ds ∧ ds ≠ [] ∧ k (.tuple ds.reverse)) : EvP K B G L Γ (tRevT K te) k := fun σ H Q E q =>
  h σ H _ E fun v d H1 g1 dn ⟨ds, e, hne, hk⟩ => by
    subst e
    cases dn with
    | @tup a xs _ e1 h2 =>
      refine ⟨a, xs, rfl, Same.sqt (hid_sub _ _) e1, fun z => hne ?_, fun p hp => ?_⟩
      · subst z
        exact List.eq_nil_of_length_eq_zero h2.length.symm
      · have g2 := Go.new (o := .tup xs.reverse) g1.env hp
        exact q _ _ _ (g1.trans g2) (.tup (.inl (.inl (hid_new (g1.env.newM hp)))) ((h2.mono g2.sm).rev)) hk
/-- divmod, its pair unpacked into a place of the well and a name: not general -/
theorem ev_dict (hk : k (.dict [])) : EvP K B G L Γ (fun (_ : L2.St) H Q => ∀ d, H d = none → Q (.ref d) (upd H d (.dK []))) k := fun σ H Q E q d hd => by
  have g := Go.new (o := .dK []) E hd
  exact q _ _ _ g (.emp (hid_new (E.newM hd))) hk
/-- a test by None -/
def isNoneD : PyData → Bool
  | .none => true
  | _ => false
theorem ev_isN (h : EvP K B G L Γ te fun d => k (.bool (isNoneD d))) : EvP K B G L Γ (tIsN te) k := fun σ H Q E q =>
  h σ H _ E fun v d H1 g1 dn hk => by
    have e : decide (v = V.non) = isNoneD d := by cases dn <;> simp [isNoneD]
    show Q (.bl (decide (v = V.non))) H1
    rw [e]
    exact q _ _ H1 g1 (.bl _) hk
/-- the truth of data -/
def truD : PyData → Bool
  | .none => false
  | .bool b => b
  | .int i => i != 0
  | .str s => s.length != 0
  | .list ds => !ds.isEmpty
  | .tuple ds => !ds.isEmpty
  | .dict ds => !ds.isEmpty
end
end DL
namespace DL
open PySem PySem.Spec PyProof.Rows L2
/-! ### names for the built-ins' readings -/
def rAbsQ : List V → Hp → VK → Prop := fun xs H Q => ∃ i, xs = [.int i] ∧ Q (.int (if i < 0 then -i else i)) H
def rIntQ : List V → Hp → VK → Prop := fun xs H Q => (∃ i, xs = [.int i] ∧ Q (.int i) H) ∨ ∃ k, xs = [.bl k] ∧ Q (.int (if k then 1 else 0)) H
def rStrQ : List V → Hp → VK → Prop := fun xs H Q => ∃ i, xs = [.int i] ∧ i.natAbs.log2 < 1920 ∧ Q (.str (toString i)) H
def rListQ (K : PySem.W.Frag) : List V → Hp → VK → Prop := fun xs H Q => ∃ p ys, xs = [.ref p] ∧ (SqL K H p ys ∨ SqT K H p ys) ∧ ∀ l, H l = none → Q (.ref l) (upd H l (.lst ys))
def rTupleQ (K : PySem.W.Frag) : List V → Hp → VK → Prop := fun xs H Q => ∃ p ys, xs = [.ref p] ∧ ((SqL K H p ys ∧ ∀ l, H l = none → Q (.ref l) (upd H l (.tup ys))) ∨ (SqT K H p ys ∧ Q (.ref p) H))
def rDivmodQ : List V → Hp → VK → Prop := fun xs H Q => ∃ i j, xs = [.int i, .int j] ∧ CDivP i j ∧ ∀ p, H p = none → Q (.ref p) (upd H p (.tup [.int (i / j), .int (i % j)]))
def rMax2Q : List V → Hp → VK → Prop := fun xs H Q => ∃ i j, xs = [.int i, .int j] ∧ Q (.int (if j > i then j else i)) H
def rMin2Q : List V → Hp → VK → Prop := fun xs H Q => ∃ i j, xs = [.int i, .int j] ∧ Q (.int (if j < i then j else i)) H
def tTru (K : PySem.W.Frag) (te : TE) : TT := fun σ H Q => te σ H fun x H' => ∃ k, TruV K x H' k ∧ Q k H'
section
variable {K : PySem.W.Frag} {B : Bs} {G : List Hp} {L : List Addr} {Γ : List Sl} {H H' H2 : Hp} {σ : L2.St}
variable {te ta tb tc tl : TE} {tt tu : TT} {tr : TA} {k : PyData → Prop} {x y : PyData} {P P' : PD} {t u : TS}
theorem co_lenT {ds : List PyData} (hk : k (.int ds.length)) : COk K B G L Γ (rLenQ K) [.tuple ds] k := cok_lenT hk
theorem co_lenL {ds : List PyData} (hk : k (.int ds.length)) : COk K B G L Γ (rLenQ K) [.list ds] k := cok_lenL hk
theorem co_abs {i : Int} (hk : k (.int (if i < 0 then -i else i))) : COk K B G L Γ rAbsQ [.int i] k := cok_abs hk
theorem co_int {i : Int} (hk : k (.int i)) : COk K B G L Γ rIntQ [.int i] k := cok_intI hk
theorem co_str {i : Int} (hz : i.natAbs.log2 < 1920) (hk : k (.str (toString i))) : COk K B G L Γ rStrQ [.int i] k := cok_str hz hk
theorem co_tupL {ds : List PyData} (hk : k (.tuple ds)) : COk K B G L Γ (rTupleQ K) [.list ds] k := cok_tupL hk
theorem co_tupT {ds : List PyData} (hk : k (.tuple ds)) : COk K B G L Γ (rTupleQ K) [.tuple ds] k := cok_tupT hk
theorem ev_tupOwn {i : Nat} {l : Addr} {xs : List PyData} (hi : Γ[i]? = some (.own l xs)) (hk : k (.tuple xs)) : EvP K B G L Γ (tCB (rTupleQ K) (tCons (tVar i) tNil)) k := ev_tupO hi hk
theorem ev_lenOwn {i : Nat} {l : Addr} {xs : List PyData} (hi : Γ[i]? = some (.own l xs)) (hk : k (.int xs.length)) : EvP K B G L Γ (tCB (rLenQ K) (tCons (tVar i) tNil)) k := ev_lenO hi hk
theorem ev_ixOwn {i : Nat} {l : Addr} {xs : List PyData} (hi : Γ[i]? = some (.own l xs)) (h : EvP K B G L Γ tb fun n => ∃ j d, n = .int j ∧ atI xs j = some d ∧ k d) : EvP K B G L Γ (tOp (rIx K) (tVar i) tb) k := fun σ H Q E q => by
  obtain ⟨v, e, h2⟩ := ev_ixO hi h σ H Q E q
  refine ⟨v, e, ?_⟩
  obtain ⟨e', ws, hl, _⟩ := E.getO hi
  exact h σ H _ E fun u n H2 g2 dn2 ⟨j, d, en, ed, hk⟩ => by
    subst en
    obtain ⟨e3, ws, hl2, dn3⟩ := g2.env.getO hi
    obtain ⟨w, e2, dn4⟩ := dna_at dn3 ed
    rw [e] at e3
    have : v = .ref l := Option.some.inj (Option.some.inj e3)
    exact .inl ⟨l, ws, j, w, this, dn_int dn2, .inl (.inl hl2), e2, q _ _ H2 g2 dn4 hk⟩
theorem en_listQ {kl : List PyData → Prop} (h : EvP K B G L Γ te fun d => ∃ ds, (d = .tuple ds ∨ d = .list ds) ∧ kl ds) : EvN K B G L Γ (tCB (rListQ K) (tCons te tNil)) kl := en_list h
/-- an item of the well -/
theorem ev_well {i : Nat} {w : Addr} (hi : Γ[i]? = some (.well w)) (h : EvP K B G L Γ tb fun n => ∃ j, n = .int j ∧ (j = 0 ∨ j = 1 ∨ j = 2) ∧ ∀ n : Int, (j = 0 → 0 ≤ n) → (j = 1 → 0 ≤ n ∧ n < 1099511627776) → k (.int n)) : EvP K B G L Γ (tOp (rIx K) (tVar i) tb) k := fun σ H Q E q =>
  ⟨_, E.getW hi, h σ H _ E fun u n H2 g2 dn2 ⟨j, en, hj, hk⟩ => by
    subst en
    obtain ⟨a, b, c, e, h0, h1, h2⟩ := g2.env.ws w (g2.env.we i w hi)
    have z : u = .int j := dn_int dn2
    rcases hj with rfl | rfl | rfl
    · exact .inl ⟨w, _, 0, .int a, rfl, z, .inl (.inl e), rfl, q _ _ H2 g2 (.int a) (hk a (fun _ => h0) (by omega))⟩
    · exact .inl ⟨w, _, 1, .int b, rfl, z, .inl (.inl e), rfl, q _ _ H2 g2 (.int b) (hk b (by omega) (fun _ => ⟨h1, h2⟩))⟩
    · exact .inl ⟨w, _, 2, .int c, rfl, z, .inl (.inl e), rfl, q _ _ H2 g2 (.int c) (hk c (by omega) (by omega))⟩⟩
/-- the well changed in one place -/
theorem Env.stir {w : Addr} {vs : List V} (E : Env K B G L H σ Γ) (hw : w ∈ B.Ws) (h : WellAt (upd H w (.lst vs)) w) : Env K B G L (upd H w (.lst vs)) σ Γ := by
  refine (E.step (fun a o wn e => ?_) fun w' hw' => ?_).1
  · rw [upd_ne (fun (z : a = w) => wn (by rw [z]; exact hw))]
    exact e
  · by_cases z : w' = w
    · rw [z]; exact h
    · obtain ⟨n, b, c, e, q⟩ := E.ws w' hw'
      exact ⟨n, b, c, by rw [upd_ne z]; exact e, q⟩
/-- well[j] = e -/
theorem st_setWell {i : Nat} {w : Addr} (hi : Γ[i]? = some (.well w)) (h : EvP K B G L Γ te fun d => EvP K B G L Γ tb fun n => ∃ z j : Int, d = .int z ∧ n = .int j ∧ (j = 0 ∨ j = 1 ∨ j = 2) ∧ (j = 0 → 0 ≤ z) ∧ (j = 1 → 0 ≤ z ∧ z < 1099511627776) ∧ P.nx L Γ) :
    StP K B G L Γ (tAsg te (gSub (tVar i) tb rSetL)) P := fun σ H D E M =>
  h σ H _ E fun v d H1 g1 dn1 h2 => ⟨_, g1.env.getW hi, h2 σ H1 _ g1.env fun u n H2 g2 dn2 ⟨z, j, ed, en, hj, hz0, hz1, hk⟩ => by
    subst ed en
    have ev : v = .int z := dn_int dn1
    have eu : u = .int j := dn_int dn2
    have hw := g2.env.we i w hi
    obtain ⟨a, b, c, e, h0, h1, h2⟩ := g2.env.ws w hw
    rcases hj with rfl | rfl | rfl
    · refine ⟨w, _, 0, 0, rfl, eu, e, rfl, M.nx _ _ _ _ hk (g2.env.stir hw ?_)⟩
      subst ev
      exact ⟨z, b, c, upd_same, hz0 rfl, h1, h2⟩
    · refine ⟨w, _, 1, 1, rfl, eu, e, rfl, M.nx _ _ _ _ hk (g2.env.stir hw ?_)⟩
      subst ev
      exact ⟨a, z, c, upd_same, h0, (hz1 rfl).1, (hz1 rfl).2⟩
    · refine ⟨w, _, 2, 2, rfl, eu, e, rfl, M.nx _ _ _ _ hk (g2.env.stir hw ?_)⟩
      subst ev
      exact ⟨a, b, z, upd_same, h0, h1, h2⟩⟩
/-- well[0], x = divmod(well[0], m) -/
theorem st_dmWell {i n : Nat} {w : Addr} (hi : Γ[i]? = some (.well w)) (h : EvA K B G L Γ tr fun ds => ∃ z m : Int, ds = [.int z, .int m] ∧ 0 ≤ z ∧ 0 < m ∧ m < 1073741824 ∧ P.nx L (Γ.set n (.d (.int (z % m))))) :
    StP K B G L Γ (tAsg (tCB rDivmodQ tr) (gTup K 2 (gCons (gSub (tVar i) (tC (.int 0)) rSetL) (gCons (gName n) gNil)))) P := fun σ H D E M =>
  h σ H _ E fun vs ds H1 g1 dn ⟨z, m, e, hz, hm, hm2, hk⟩ => by
    subst e
    cases dn with
    | cons d1 d2 =>
      cases d2 with
      | cons d2 d3 =>
        cases d3
        cases d1
        cases d2
        refine ⟨z, m, rfl, ⟨hm, PyProof.noPylong_small (by omega)⟩, fun p hp => ?_⟩
        have g2 := Go.new (o := .tup [.int (z / m), .int (z % m)]) g1.env hp
        have hw := g2.env.we i w hi
        obtain ⟨a, b, c, e, h0, h1, h2⟩ := g2.env.ws w hw
        refine ⟨p, _, rfl, .inl (.inl upd_same), rfl, _, _, rfl, ⟨_, g2.env.getW hi, w, _, 0, 0, rfl, rfl, e, rfl, _, _, rfl, rfl, ?_⟩⟩
        refine M.nx _ _ _ _ hk ((g2.env.stir hw ⟨z / m, b, c, upd_same, Int.ediv_nonneg hz (Int.le_of_lt hm), h1, h2⟩).put n (.int _))
/-- a test of data by its truth -/
theorem et_tru {kb : Bool → Prop} (h : EvP K B G L Γ te fun d => (match d with | .str s => s.length ≤ 1000000 | _ => True) ∧ kb (truD d)) : EvT K B G L Γ (tTru K te) kb := fun σ H Q E q =>
  h σ H _ E fun v d H1 g1 dn ⟨hs, hk⟩ => by
    refine ⟨truD d, ?_, q _ H1 g1 hk⟩
    cases dn with
    | non => rfl
    | bl b => rfl
    | int i => rfl
    | str x =>
      refine ⟨sz_ok hs, ?_⟩
      show (x.length != 0) = ((x.length : Int) != 0)
      rcases Nat.eq_zero_or_pos x.length with h | h
      · rw [h]; rfl
      · have a : (x.length != 0) = true := by simp; omega
        have b : ((x.length : Int) != 0) = true := by simp; omega
        rw [a, b]
    | @lst a xs ds e h2 =>
      refine .inl ⟨xs, .inl (.inl (hid_sub _ _ _ _ e)), ?_⟩
      have := h2.length
      cases xs <;> cases ds <;> simp_all [truD]
    | @tup a xs ds e h2 =>
      refine .inr (.inl ⟨xs, Same.sqt (hid_sub _ _) e, ?_⟩)
      have := h2.length
      cases xs <;> cases ds <;> simp_all [truD]
    | emp e => exact .inr (.inr ⟨[], hid_sub _ _ _ _ e, rfl⟩)
/-- a < b < c -/
theorem ev_chain {r r' : R2} (h : EvP K B G L Γ ta fun x => EvP K B G L Γ tb fun y => ROk K B G L Γ r x y fun z => ∃ b, z = .bool b ∧ (b = true → EvP K B G L Γ tc fun w => ROk K B G L Γ r' y w k) ∧ (b = false → k (.bool false))) : EvP K B G L Γ (tChain r r' ta tb tc) k := fun σ H Q E q =>
  h σ H _ E fun v x H1 g1 dn1 h1 => h1 σ H1 _ g1.env fun u y H2 g2 dn2 h2 => h2 σ H2 _ v u g2.env (dn1.mono g2.sm) dn2 fun z d H3 g3 dn3 ⟨b, e, c1, c2⟩ => by
    subst e
    refine ⟨b, dn_bool dn3, ?_⟩
    cases b with
    | true => exact iteT (c1 rfl σ H3 _ g3.env fun w' d4 H4 g4 dn4 h4 => h4 σ H4 Q u w' g4.env ((dn2.mono g3.sm).mono g4.sm) dn4 fun z d H5 g5 dn5 hk => q z d H5 ((((g1.trans g2).trans g3).trans g4).trans g5) dn5 hk)
    | false => exact iteF (q _ _ H3 ((g1.trans g2).trans g3) (.bl false) (c2 rfl))
theorem ev_dictD (hk : k (.dict [])) : EvP K B G L Γ tDNewK k := ev_dict hk
end
end DL
namespace DL
open PySem PySem.Spec PyProof.Rows L2
theorem len_P {K : PySem.W.Frag} {pre : List PyData → Prop} {post : List PyData → PyData → Prop} {vs : List V} {H : Hp} {Q : VK} {E : XK} (h : SpP K pre post vs H Q E) {n : Nat} (hn : ∀ ds, pre ds → ds.length = n) : vs.length = n := by
  obtain ⟨M, ds, _, dn, hp, _⟩ := h
  rw [dn.length, hn ds hp]
theorem len_W {K : PySem.W.Frag} {pre : List PyData → Prop} {post : List PyData → PyData → Prop} {vs : List V} {H : Hp} {Q : VK} {E : XK} (h : SpW K pre post vs H Q E) {n : Nat} (hn : ∀ ds, pre ds → ds.length = n) : vs.length = n + 1 := by
  obtain ⟨M, w, vs', ds, rfl, _, _, _, dn, hp, _⟩ := h
  rw [List.length_cons, dn.length, hn ds hp]
theorem wipe1 (i : Nat) : ∀ (σ : L2.St) (x : V), L2.wipe ((L2.wipe σ [i]).set i (some x)) [i] = L2.wipe σ [i] := fun σ x => by
  show (((σ.set i none).set i (some x)).set i none) = σ.set i none
  rw [List.set_set, List.set_set]
end DL
namespace DL
open PySem PySem.Spec PyProof.Rows L2
def isIntT : PyData → Bool
  | .int _ => true
  | .bool _ => true
  | _ => false
def isBoolT : PyData → Bool
  | .bool _ => true
  | _ => false
def isTupT : PyData → Bool
  | .tuple _ => true
  | _ => false
theorem kit_int (d : PyData) : kitB (tyD d) "int" = some (isIntT d) := by
  cases d <;> (simp only [tyD, isIntT]; decide +kernel)
theorem kit_bool (d : PyData) : kitB (tyD d) "bool" = some (isBoolT d) := by
  cases d <;> (simp only [tyD, isBoolT]; decide +kernel)
theorem kit_tup (d : PyData) : kitB (tyD d) "tuple" = some (isTupT d) := by
  cases d <;> (simp only [tyD, isTupT]; decide +kernel)
section
variable {K : PySem.W.Frag} {B : Bs} {G : List Hp} {L : List Addr} {Γ : List Sl} {te : TE} {k : PyData → Prop}
theorem ev_isiInt (h : EvP K B G L Γ te fun d => k (.bool (isIntT d))) : EvP K B G L Γ (tCB (rIsi K) (tCons te (tCons (tC (.ty "int")) tNil))) k := ev_isi (h.mono fun d hk => ⟨_, kit_int d, hk⟩)
theorem ev_isiBool (h : EvP K B G L Γ te fun d => k (.bool (isBoolT d))) : EvP K B G L Γ (tCB (rIsi K) (tCons te (tCons (tC (.ty "bool")) tNil))) k := ev_isi (h.mono fun d hk => ⟨_, kit_bool d, hk⟩)
theorem ev_isiTup (h : EvP K B G L Γ te fun d => k (.bool (isTupT d))) : EvP K B G L Γ (tCB (rIsi K) (tCons te (tCons (tC (.ty "tuple")) tNil))) k := ev_isi (h.mono fun d hk => ⟨_, kit_tup d, hk⟩)
theorem isTupT_true {d : PyData} (h : isTupT d = true) : ∃ xs, d = .tuple xs := by
  cases d <;> simp [isTupT] at h
  exact ⟨_, rfl⟩
end
end DL
namespace DL
open PySem PySem.Spec PyProof.Rows L2
section
variable {K : PySem.W.Frag} {B : Bs} {G : List Hp} {L : List Addr} {Γ : List Sl} {te : TE} {P : PD}
/-- a, b, c = e, [], [] -/
theorem st_par3L {i j l : Nat} (h : EvP K B G L Γ te fun d => ∀ l1 l2 : Addr, l1 ≠ l2 → P.nx (l2 :: l1 :: L) (((Γ.set i (.d d)).set j (.own l1 [])).set l (.own l2 []))) : StP K B G L Γ (tPar3 i j l (tCons te (tCons (tLst tNil) (tCons (tLst tNil) tNil)))) P := fun σ H D E M =>
  h σ H _ E fun v d H1 g1 dn hk => ⟨Nat.zero_le _, fun p1 hp1 => ⟨Nat.zero_le _, fun p2 hp2 => ⟨v, .ref p1, .ref p2, rfl, by
    have hne : p1 ≠ p2 := ne_of_none (upd_same (o := .lst []) (H := H1)) hp2
    have E1 := g1.env.put i dn
    have ga := Go.new (o := .lst []) E1 hp1
    have E2 := Env.take E1 ga hp1 upd_same j .nil
    have gb := Go.new (o := .lst []) E2 hp2
    have E3 := Env.take E2 gb hp2 upd_same l .nil
    exact M.nx _ _ _ _ (hk p1 p2 hne) E3⟩⟩⟩
end
end DL

namespace DL
open PySem
theorem sz_and {n : Nat} {p : Prop} (h : n ≤ 1000000) (hp : p) : n ≤ 1000000 ∧ p := ⟨h, hp⟩
theorem log2_small {i : Int} (h0 : 0 ≤ i) (h : i < 1000000) : i.natAbs.log2 < 1920 := Nat.lt_of_lt_of_le (Flt.log2_lt_of (k := 20) (by decide) (Nat.lt_of_lt_of_le (show i.natAbs < 1000000 by omega) (by decide))) (by decide)
end DL

namespace DL
open PySem L2
section
variable {K : PySem.W.Frag} {B : Bs} {G : List Hp} {L : List Addr} {Γ : List Sl} {k : PyData → Prop}
theorem ro_mulL {i j : Int} (h0 : -18446744073709551616 < i) (h1 : i < 18446744073709551616) (hk : k (.int (i * j))) : ROk K B G L Γ (rMulA K) (.int i) (.int j) k := ro_mul (Or.inl ⟨h0, h1⟩) hk
end
end DL
/-! enumerate over a tuple -/
namespace PySem
open Sem (wp)
open AutoSeq1 (wpAny_loadPart')
namespace EnT
theorem draws_tuple {prog : Program} {w : World} {A : Around} (hh : A.handled = none) (it t : Addr) (hne : t ≠ it) (items : Array Value) :
    Draws prog w A it [it, t] items.size (fun i v => items[i]? = some v) (fun i h => h.IsTupleIter it t i ∧ h.IsTuple t items) where
  live := fun _ _ st => let ⟨o, ho, _⟩ := st.1; ⟨o, ho⟩
  frame := fun _ _ _ st hk => ⟨st.1.at fun o e => hk it (by simp) o e, let ⟨o, ho, r⟩ := st.2; ⟨o, hk t (by simp) o ho, r⟩⟩
  item := fun i s Q E hi st hQ => by
    refine wpAny_nextOf_tuple_item st.1 st.2 (x := items[i]) (by simp [hi]) fun h' hit' hs' => ?_
    exact hQ _ h' s.toks (by simp [hi]) ⟨hit', let ⟨o, ho, r⟩ := st.2; ⟨o, hs'.extBut t o hne ho, r⟩⟩ hs'
  done := fun s Q E st hE => wpAny_nextOf_tuple_end hh st.1 st.2 (by simp) hE
theorem meets_new (l : Addr) (items : Array Value) :
    Meets (Builtin.«enumerate.__new__» ⟨[.type "enumerate", .ref l], []⟩) (fun _ R s => s.heap.IsTuple l items ∧
      R (.ok (.ret (.ref (s.heap.push { cls := .type "tuple_iterator", data := .fields #[.ref l, .int 0 0] }).objs.size)))
        { s with heap := (s.heap.push { cls := .type "tuple_iterator", data := .fields #[.ref l, .int 0 0] }).push { cls := .type "enumerate", data := .fields #[.none, .bool false, .ref s.heap.objs.size, rawInt 0, .none, .none] } }) :=
  .of_wp fun prog w A R s h => by
    obtain ⟨hp, g, d, tk, os⟩ := s; obtain ⟨hL, h⟩ := h
    have hsub := sub_enumerate
    wp_walk
    refine wpAny_stack_any fun st => wpAny_pure ?_
    split
    · rename_i c _ _ _ _ _
      cases (c == Value.type "enumerate")
      · wp_walk using wpAny_pyIter_tuple hL
        exact ⟨_, rfl, h⟩
      · wp_walk using wpAny_pyIter_tuple hL
        exact ⟨_, rfl, h⟩
    · wp_walk using wpAny_pyIter_tuple hL
      exact ⟨_, rfl, h⟩
section
variable {prog : Program} {w : World} {A : Around} {E : Value → Shared → Prop} {s : Shared}
theorem call_enum {l : Addr} {items : Array Value} {Q : Value → Shared → Prop} (hL : s.heap.IsTuple l items)
    (h : ∀ h', IsEnum h' (s.heap.objs.size + 1) s.heap.objs.size 0 .none → h'.IsTupleIter s.heap.objs.size l 0 → h'.objs.size = s.heap.objs.size + 2 →
      (∀ b o, s.heap.get? b = some o → h'.get? b = some o) → Q (.ref (s.heap.objs.size + 1)) { s with heap := h' }) :
    wpAny (model prog w) A (call (.type "enumerate") [.ref l]) Q E s := by
  refine callType_new F.called_enumerate (by decide) (F.typeCall_enumerate_1 _) (F.newCall_enumerate_1 _) (fun obj => F.args_object_init_2 obj _) F.entry_enumerate_new
    (meets_new l items) ⟨hL, ?_⟩
  have hz : (s.heap.push { cls := .type "tuple_iterator", data := .fields #[.ref l, .int 0 0] }).objs.size = s.heap.objs.size + 1 := Heap.size_push ..
  show _ ∧ _
  rw [hz]
  have he : IsEnum ((s.heap.push { cls := .type "tuple_iterator", data := .fields #[.ref l, .int 0 0] }).push
      { cls := .type "enumerate", data := .fields #[.none, .bool false, .ref s.heap.objs.size, rawInt 0, .none, .none] }) (s.heap.objs.size + 1) s.heap.objs.size 0 .none := by
    have := Heap.get?_push_size (s.heap.push { cls := .type "tuple_iterator", data := .fields #[.ref l, .int 0 0] })
      (o := { cls := .type "enumerate", data := .fields #[.none, .bool false, .ref s.heap.objs.size, rawInt 0, .none, .none] }) rfl
    rw [hz] at this; exact this
  refine ⟨⟨_, he, rfl⟩, h _ he ⟨_, Heap.get?_push_of_some _ (Heap.get?_push_size _ rfl), rfl, rfl⟩ (by rw [Heap.size_push, hz]) fun b o x => Heap.get?_push_of_some _ (Heap.get?_push_of_some _ x)⟩
theorem next_end {e it l : Addr} {i : Nat} {j : Int} {items : Array Value} {old : Value} {Q : Option Value → Shared → Prop} (hh : A.handled = none)
    (he : IsEnum s.heap e it j old) (hit : s.heap.IsTupleIter it l i) (hl : s.heap.IsTuple l items) (hx : items[i]? = none)
    (hQ : ∀ h', Heap.ExtBut it s.heap h' → Q none { s with heap := h' }) : wpAny (model prog w) A (pyNext (.ref e)) Q E s := by
  have hT : s.TypeIs (.ref e) "enumerate" := ⟨_, he, rfl⟩
  unfold pyNext
  refine wpAny_bind (wpAny_attempt (wpAny_callSpecial?_slot (name := Str.ofString "__next__") hT F.slot_enumerate_next
    (wpAny_call_entry F.slot_enumerate_next hT F.entry_enumerate_next ?_ (F.args_enumerate_next_1 _))))
  show wpAny _ _ (field (.ref e) 2 >>= _) _ _ _
  refine wpAny_bind (wpAny_field he rfl (x := .ref it) rfl ?_)
  refine wpAny_bind (wpAny_nextOf_tuple_end hh hit hl hx fun h' x he' hx' => ?_)
  obtain ⟨o, ho, hc⟩ := hx'
  refine wpAny_bind (wpAny_isInstance (T := "StopIteration") (b := true) ⟨o, ho, hc⟩ isSubtype_stop ?_)
  exact wpAny_pure (hQ _ he')
end
end EnT
end PySem
namespace DL
open PySem PySem.Spec PyProof.Rows L2
/-- the tuple at a, each item in a new pair with its place -/
def IteT (K : PySem.W.Frag) (a : Addr) : It :=
  ⟨fun i H => ∃ (xs : List V) (x : V), SqT K H a xs ∧ xs[i]? = some x, fun i H v H' => ∃ T x, v = .ref T ∧ H T = none ∧ H' = upd H T (.tup [.int (i : Nat), x]) ∧ ∀ xs, SqT K H a xs → xs[i]? = some x, fun i H => ∃ xs : List V, SqT K H a xs ∧ xs.length ≤ i⟩
theorem turn_enumT {P : Program} {w : World} {K : PySem.W.Frag} {elts : List Expr} {kk : Nat} {tpos : Pos} (a e it : Addr) (ha : a ≠ it) (hae : a ≠ e) :
    Turn P w K (.Tuple elts kk tpos) (IteT K a) [e, it] e (fun i h => (∃ old, IsEnum h e it ((i : Nat) : Int) old) ∧ h.IsTupleIter it a i ∧ e ≠ it) where
  mem := by simp
  obj := fun i h st b hb => by
    obtain ⟨⟨old, he⟩, ⟨o, ho, hc, hd⟩, _⟩ := st
    have e' : b = e ∨ b = it := by simpa using hb
    rcases e' with z | z
    · rw [z]; exact ⟨_, he, fun v q => nomatch q⟩
    · rw [z]; exact ⟨o, ho, fun v q => by rw [hd] at q; cases q⟩
  keep := fun i h h' st k => let ⟨⟨old, he⟩, hi, hne⟩ := st; ⟨⟨old, k e (by simp) _ he⟩, hi.at fun o q => k it (by simp) o q, hne⟩
  item := by
    intro X hP hw hK hc i pins s σ H E I hf st hg
    subst hP hw hK
    obtain ⟨⟨old, he⟩, hit, hne⟩ := st
    obtain ⟨xs, x, hq, hx⟩ := hg
    obtain ⟨its, rv, p, hz⟩ := I.tuple hq
    obtain ⟨u, hu, ru⟩ := rv.get hx
    have hel : e < s.heap.objs.size := Heap.lt_size he
    have hil : it < s.heap.objs.size := by obtain ⟨_, q, _⟩ := hit; exact Heap.lt_size q
    have hT0 : s.heap.IsTuple a its.toArray := p
    have D := PySem.EnT.draws_tuple (prog := X.prog) (w := X.w) (A := X.A.in1) (I.ok.hd hc) it a ha its.toArray
    have hi' : i < its.toArray.size := by
      have := (List.getElem?_eq_some_iff.mp hu).1
      rw [List.size_toArray]; exact this
    refine wpAny_pyNext_enum_itemD D he ⟨hit, hT0⟩ hi' hne (by simp [hne, Ne.symm hae]) fun y h' tk hy ho hit' hT hsz hk => ?_
    have ey : y = u := by
      have : (its.toArray)[i]? = some u := by simpa using hu
      rw [this] at hy
      exact (Option.some.inj hy).symm
    subst ey
    refine ⟨_, rfl, wpAny_letOwnedTupleGo_enum (s := { s with heap := h', toks := tk + 1 }) ho fun h'' he' sb => ?_⟩
    have hT2 : h''.get? s.heap.objs.size = some { cls := .type "tuple", data := .seq #[.int i tk, y] } := (sb.2 _ (Nat.ne_of_gt hel)).trans hT
    have new : ObjOk X.prog X.w (upd H s.heap.objs.size (.tup [.int (i : Nat), x])) h'' s.heap.objs.size (.tup [.int (i : Nat), x]) :=
      ⟨by show 2 ≤ sizeLine; decide, [.int i tk, y], .cons ⟨_, rfl⟩ (.cons ru .nil), ⟨_, hT2, rfl, _, rfl⟩⟩
    have I1 : Inv X pins σ (upd H s.heap.objs.size (.tup [.int (i : Nat), x])) { s with heap := h'', toks := tk + 1 } :=
      I.turnedNew (ch := [e, it]) (fun b ob hb q => (sb.2 b (fun z => hb (by simp [z]))).trans (hk b ob (fun z => hb (by simp [z])) (fun z => hb (by simp [z])) q)) hf (Nat.le_refl _) new
    refine ⟨.ref s.heap.objs.size, _, I1, rfl, ⟨_, x, rfl, I.hok.fresh (Nat.le_refl _), rfl, fun ys hy => by rw [I.tuple_inj hy hq]; exact hx⟩, ⟨⟨y, ?_⟩, hit'.1.at fun o q => (sb.2 it (Ne.symm hne)).trans q, hne⟩, fun b hb => ?_⟩
    · have e1 : ((i + 1 : Nat) : Int) = (i : Int) + 1 := by omega
      rw [e1]; exact he'
    · have hb' : b < s.heap.objs.size := by
        have e' : b = e ∨ b = it := by simpa using hb
        rcases e' with z | z
        · rw [z]; exact hel
        · rw [z]; exact hil
      rw [upd_ne (Nat.ne_of_lt hb')]
      exact (hf b hb).1
  done := by
    intro X hP hw hK hc i pins s σ H E I hf st hg
    subst hP hw hK
    obtain ⟨⟨old, he⟩, hit, hne⟩ := st
    obtain ⟨xs, hq, hx⟩ := hg
    obtain ⟨its, rv, p, hz⟩ := I.tuple hq
    obtain ⟨f0, f1, f2, f3, f4, f5⟩ := hf it (by simp)
    have hl := rv.length
    have hT0 : s.heap.IsTuple a its.toArray := p
    exact PySem.EnT.next_end (I.ok.hd hc) he hit hT0 (by simp; omega) fun h' eb => ⟨rfl, I.turned (t' := s.toks) (fun b o hb q => eb b o hb q) f0 f1 f3 f4 f5⟩
  self := fun A i s Q E st h => let ⟨⟨_, he⟩, _⟩ := st; wpAny_pyIter_enum he h

def iEnumT (K : PySem.W.Frag) (ta : TA) : TI := fun σ H R => ta σ H fun vs H1 => ∃ a xs, vs = [.ref a] ∧ SqT K H1 a xs ∧ R (IteT K a) H1
theorem pi_enumT {X : Cx} {e : Expr} {ta : TA} {p pos tpos : Pos} {elts : List Expr} {kk : Nat} (hg : Gl X "enumerate") (hm : X.mg "enumerate" = none) (ha : PA X [e] ta) (hs : starEach [e] X.env = [(false, eval e X.env)] := by rfl) :
    PI X (.Tuple elts kk tpos) (.Call (.Name "enumerate" p) [e] [] pos) (iEnumT X.K ta) := by
  refine ⟨fun pins s σ H R I h => ?_⟩
  refine Call_ (ld_blt I hg hm boot_enumerate (PyProof.Rows.callWith_type1 (thn (ha.run pos pins s σ H _ I h) fun us s1 ⟨vs, H1, I1, r1, q1⟩ => ?_) hs rfl))
  obtain ⟨a, xs, ex, hq, q⟩ := q1
  subst ex
  cases r1 with
  | cons r rr =>
    cases rr
    cases r
    obtain ⟨its, rv, p', hz⟩ := I1.tuple hq
    have hal : a < s1.heap.objs.size := by
      obtain ⟨o, ho, _⟩ := p'
      exact Heap.lt_size ho
    refine PySem.EnT.call_enum (show s1.heap.IsTuple a its.toArray from p') fun h' he hit hsz hk => wpAny_pyIter_enum he ?_
    have I2 : Inv X pins σ H1 { s1 with heap := h' } := I1.kept (t' := s1.toks) hk
    refine ⟨s1.heap.objs.size + 1, [s1.heap.objs.size + 1, s1.heap.objs.size], _, _, H1, rfl, I2, turn_enumT a (s1.heap.objs.size + 1) s1.heap.objs.size (Nat.ne_of_lt hal) (Nat.ne_of_lt (Nat.lt_succ_of_lt hal)), ⟨⟨.none, he⟩, hit, Nat.succ_ne_self _⟩, fun b hb => ?_, q⟩
    have e' : b = s1.heap.objs.size + 1 ∨ b = s1.heap.objs.size := by simpa using hb
    have hle : s1.heap.objs.size ≤ b := by
      rcases e' with z | z
      · rw [z]; exact Nat.le_add_right _ _
      · rw [z]; exact Nat.le_refl _
    exact I1.fpOk hle (I1.hok.fresh hle)
section
variable {K : PySem.W.Frag} {B : Bs} {G : List Hp} {L : List Addr} {Γ : List Sl} {H : Hp} {σ : L2.St} {ta : TA} {P : PD} {t : TS}
theorem for_enumT {a : Addr} {xs : List V} {g : TG} {tb : TS} {D : Ends} {σ : L2.St} {H : Hp} (Pv : Nat → L2.St → Hp → Prop) (h0 : Pv 0 σ H) (hl : ∀ i σ H, i ≤ xs.length → Pv i σ H → SqT K H a xs)
    (hs : ∀ i x T σ H, xs[i]? = some x → Pv i σ H → H T = none → g (.ref T) σ (upd H T (.tup [.int (i : Nat), x])) fun σ2 H2 => tb { D with nx := Pv (i + 1), ct := Pv (i + 1), bk := D.nx } σ2 H2) (hd : ∀ σ H, Pv xs.length σ H → D.nx σ H) :
    ∃ W : Nat → Nat → L2.St → Hp → Prop, (∃ m, W 0 m σ H) ∧ ∀ i m σ H, W i m σ H →
      ((IteT K a).stop i H ∧ D.nx σ H) ∨ ((IteT K a).go i H ∧ ∃ N : L2.St → Hp → Prop, (∀ σ' H', N σ' H' → ∃ m', m' < m ∧ W (i + 1) m' σ' H') ∧ ∀ x H', (IteT K a).yld i H x H' → g x σ H' fun σ2 H2 => tb { D with nx := N, ct := N, bk := D.nx } σ2 H2) := by
  refine ⟨fun i m σ H => m = xs.length - i ∧ i ≤ xs.length ∧ Pv i σ H, ⟨xs.length, by simp, Nat.zero_le _, h0⟩, ?_⟩
  rintro i m σ H ⟨rfl, hi, p⟩
  have q := hl i σ H hi p
  by_cases hlt : i < xs.length
  · refine .inr ⟨⟨xs, xs[i], q, by simp [hlt]⟩, Pv (i + 1), fun σ' H' p' => ⟨xs.length - (i + 1), by omega, rfl, hlt, p'⟩, fun v H' y => ?_⟩
    obtain ⟨T, x, rfl, hT, rfl, hx⟩ := y
    exact hs i x T σ H (hx xs q) p hT
  · have e : i = xs.length := by omega
    subst e
    exact .inl ⟨⟨xs, q, Nat.le_refl _⟩, hd σ H p⟩
/-- for i, x in enumerate(a tuple) -/
theorem st_forE {j1 j2 : Nat} (h : EvA K B G L Γ ta fun vs => ∃ ds, vs = [.tuple ds] ∧ ∃ I : Nat → List Addr → List Sl → Prop, I 0 L Γ ∧
    (∀ i d' L' Γ' g, ds[i]? = some d' → I i L' Γ' → StP K B (g :: G) L' ((Γ'.set j1 (.d (.int (i : Int)))).set j2 (.d d')) t (P.inLoop (I (i + 1)))) ∧ ∀ L' Γ', I ds.length L' Γ' → P.nx L' Γ') :
    StP K B G L Γ (tFor (iEnumT K ta) (gTup K 2 (gCons (gName j1) (gCons (gName j2) gNil))) t) P := fun σ H D E M =>
  h σ H _ E fun vs dd H1 g1 dn ⟨ds, e, I, h0, hs, hd⟩ => by
    subst e
    cases dn with
    | cons dn dn2 =>
      cases dn2
      cases dn with
      | @tup a xs _ e1 h2 =>
        have E1 := g1.env.gpush
        refine ⟨a, xs, rfl, Same.sqt (hid_sub _ _) e1, for_enumT (xs := xs) (fun i σ' H' => ∃ L' Γ', I i L' Γ' ∧ Env K B (hid (L ++ B.M) H1 :: G) L' H' σ' Γ') ⟨L, Γ, h0, E1⟩ (fun i σ' H' _ ⟨L', Γ', _, E'⟩ => ?_) (fun i x T σ' H' hi ⟨L', Γ', hI, E'⟩ hT => ?_) (fun σ' H' ⟨L', Γ', hI, E'⟩ => ?_)⟩
        · exact Same.sqt (hid_sub _ _) (Same.sqt (E'.gh _ (List.mem_cons_self ..)) e1)
        · obtain ⟨d', e', dn'⟩ := h2.getV hi
          have gn := Go.new (o := .tup [.int (i : Nat), x]) E' hT
          have E2 := gn.env
          have dx := dn'.mono (E2.gh _ (List.mem_cons_self ..))
          refine ⟨T, _, rfl, .inl (.inl upd_same), rfl, _, _, rfl, _, _, rfl, rfl, ?_⟩
          refine hs i d' L' Γ' _ e' hI _ _ _ ((E2.put j1 (.int _)).put j2 dx) ⟨fun L2 Γ2 σ2 H2 q E2 => ⟨L2, Γ2, q, E2⟩, M.rt, fun L2 Γ2 σ2 H2 q E2 => M.nx _ _ _ _ q E2.gpop, fun L2 Γ2 σ2 H2 q E2 => ⟨L2, Γ2, q, E2⟩⟩
        · rw [h2.length] at hI
          exact M.nx _ _ _ _ (hd L' Γ' hI) E'.gpop
end
end DL
/-! Defs that show values by repr: where they run, nothing else is being shown. -/
namespace DL
open PySem PySem.Spec PyProof.Rows L2

/-- a def's promise where no container is being shown -/
structure FnG (P : Program) (w : World) (K : PySem.W.Frag) (mg : Str → Option Value) (base : Heap) (k : Nat) (f : Addr) (fd : FuncData) (ps : List Str) (sp : Sp) : Prop where
  len : ∀ vs H Q E, sp vs H Q E → vs.length = ps.length
  go : ∀ (B : Around) (fs : List PySem.Env) (t : Shared) (H : Hp) (gs : Args) (us : List Value) (vs : List V) (Q : VK) (E : XK),
    B.guards = some [] → Room k B → Env0 P w K mg base B fs t H → BindsTo t fd gs (ps.zip us) → Vals vs us → sp vs H Q E →
      codeAny (model P w) B (.call (.ref f) gs) (CR CX0 fs P w H t Q E) t

section
variable {P : Program} {w : World} {K : PySem.W.Frag} {mg : Str → Option Value} {base : Heap}

theorem Fun.okG {x qual : Str} {st : Stmt} {f : Addr} {fd : FuncData} {N ps : List Str} {k : Nat} {sp : Sp} (F : Fun K x qual st f fd) (S : FnScope N ps (defScope st))
    (len : ∀ vs H Q E, sp vs H Q E → vs.length = ps.length)
    (body : ∀ (cd : Value) (B : Around) (fs : List PySem.Env) (t : Shared) (H : Hp) (vs : List V) (Q : VK) (E : XK),
      (B.deeper (envOfC qual (defScope st) t.heap.objs.size f cd)).guards = some [] →
      Room k (B.deeper (envOfC qual (defScope st) t.heap.objs.size f cd)) → sp vs H Q E →
      ∃ r, PSs (cxOf CX0 P w K mg base N qual (defScope st) f cd B fs t H E).nox (defBody st) r ∧ r { nx := fun _ H' => Q .non H', rt := Q } (start N vs) H) :
    FnG P w K mg base (k + 1) f fd ps sp := by
  obtain ⟨oc, od, kV, doc, pm, an, cd, ct, osl, rfl, lk, hcd⟩ := F.ex
  refine ⟨len, ?_⟩
  intro B fs t H gs us vs Q E hg room e0 bt rv hsp
  have hl : vs.length = ps.length := len _ _ _ _ hsp
  have KT : K.In t.heap := e0.mod.kin.keeps fun b o e => (e0.bs b o e).1
  have nl : t.heap.NoLimit := e0.mod.nolimit.keeps fun b o e => (e0.bs b o e).1
  refine codeAny_call_function room.depth (KT _ _ lk) rfl S.co S.gen rfl (PySem.W.codeRec_of KT hcd) (bt _ _ _ _ ?_)
  refine wpAny_newFunctionEnv_cells S.kind (fun ⟨n, v⟩ hy => (S.par n (List.of_mem_zip hy).1).imp id fun q => ⟨q, PySem.W.cellsFrom_some _ _ _ (.inl q)⟩) ?_
  rintro env rfl t1 ic
  refine ⟨nl.keeps ic.toInCall.keep, codeAny_func ?_⟩
  obtain ⟨r, hr, hq⟩ := body cd B fs t H vs Q E hg (room.deeper _) hsp
  have I1 := inv_start (CX := CX0) (E := E) S room.hd e0 hl rv ic
  have go := hr.nox.run [] t1 (start N vs) H _ I1 hq
  refine wpAny_mono go ?_ fun _ _ z => z
  intro fl t2 ends
  rcases fl with _ | _ | _ | u
  · obtain ⟨σ2, H2, J, q⟩ := ends
    exact ⟨.non, H2, J.os, J.bare, J.base, J.hok, rfl, q⟩
  · obtain ⟨_, _, _, z⟩ := ends
    exact z.elim
  · obtain ⟨_, _, _, z⟩ := ends
    exact z.elim
  · obtain ⟨v, σ2, H2, J, ru, q⟩ := ends
    exact ⟨v, H2, J.os, J.bare, J.base, J.hok, ru, q⟩
end

/-! ### calls of such defs -/
section
variable {X : Cx} {k : Nat} {f : Addr} {fd : FuncData} {ps : List Str} {sp : Sp} {E : XK} {x : Str} {p pos : Pos} {e : Expr} {es : List Expr} {t : TA}
theorem pe_callG (F : FnG X.prog X.w X.K X.mg X.base k f fd ps sp) (room : Room k X.A) (gd : X.A.guards = some []) (gx : Gl X x) (mx : X.mg x = some (.ref f)) (kf : PySem.W.keepIn X.K (.ref f) = true) (bd : Binds X.K fd ps [])
    (ea : PA X (e :: es) t) (nd : (x == ("__debug__" : Str)) = false := by decide) (st : starEach (e :: es) X.env = (false, eval e X.env) :: starEach es X.env := by rfl)
    (pl : (backTo pos (starEach es X.env)).any (·.1) = false := by rfl) : PE X (.Call (.Name x p) (e :: es) [] pos) (tCall sp [] E t) := by
  constructor
  intro pins s σ H Q I tq
  refine wpAny_Call_Name_kw (ld_glob I gx mx (PySem.W.callWith_K (h₀ := X.base) I.ok.mod.kin kf (thn (ea.run pos pins s σ H _ I tq) ?_) st pl) nd)
  rintro us s1 ⟨vs, H1, I1, rv, q⟩
  refine ⟨I1.kIn, ?_⟩
  rw [List.append_nil] at q
  have hl : (us ++ []).length = ps.length := by
    rw [List.append_nil, ← rv.length]
    exact F.len _ _ _ _ q
  have bt := bd s1 us I1.kIn hl
  rw [List.append_nil] at bt
  refine wpAny_call (codeAny_mono (F.go X.A X.stack s1 H1 ⟨us, []⟩ us vs Q E gd room I1.env0 bt rv q) ?_)
  intro r s2 hr
  match r, hr with
  | .error _, hr => exact hr.elim
  | .ok (.ret u), hr => exact I1.after hr
  | .ok .next, hr => exact hr.elim
  | .ok .brk, hr => exact hr.elim
  | .ok .cont, hr => exact hr.elim
end

/-! ### repr -/
mutual
/-- how long a text can be -/
def cost : PyData → Nat
  | .list xs => costAll xs + 3
  | .tuple xs => costAll xs + 3
  | .str x => (reprText x).length
  | .dict _ => 0
  | _ => 1921
def costAll : List PyData → Nat
  | [] => 0
  | x :: xs => cost x + 2 + costAll xs
end
mutual
theorem shown_le : ∀ {d : PyData}, d.showable = true → d.hasDict = false → d.shown.length ≤ cost d
  | .none, _, _ => by decide
  | .bool true, _, _ => by decide
  | .bool false, _, _ => by decide
  | .int i, h, _ => by
    simp only [PyData.showable, decide_eq_true_eq] at h
    simp only [PyData.shown, cost]
    exact int_text_len_1921 h
  | .str x, _, _ => by simp only [PyData.shown, cost]; exact Nat.le_refl _
  | .list xs, h, h2 => by
    simp only [PyData.showable] at h
    simp only [PyData.hasDict] at h2
    have := shownAll_le h h2
    simp only [PyData.shown, cost]
    have := listText_len_le (PyData.shownAll xs)
    omega
  | .tuple xs, h, h2 => by
    simp only [PyData.showable] at h
    simp only [PyData.hasDict] at h2
    have := shownAll_le h h2
    simp only [PyData.shown, cost]
    have := tupleText_len_le (PyData.shownAll xs)
    omega
  | .dict _, _, h => by simp [PyData.hasDict] at h
theorem shownAll_le : ∀ {ds : List PyData}, PyData.showableAll ds = true → PyData.hasDictAll ds = false → ((PyData.shownAll ds).map (·.length)).sum + 2 * (PyData.shownAll ds).length ≤ costAll ds
  | [], _, _ => by simp [PyData.shownAll, costAll]
  | d :: ds, h, h2 => by
    simp only [PyData.showableAll, Bool.and_eq_true] at h
    simp only [PyData.hasDictAll, Bool.or_eq_false_iff] at h2
    have a := shown_le h.1 h2.1
    have b := shownAll_le h.2 h2.2
    simp only [PyData.shownAll, costAll, List.map_cons, List.sum_cons, List.length_cons]
    omega
end
mutual
theorem Dn.dp {K : PySem.W.Frag} {H : Hp} : ∀ {v : V} {d : PyData}, Dn K H v d → d.hasDict = false → Dp K H v d
  | _, _, .non, _ => .non
  | _, _, .bl b, _ => .bl b
  | _, _, .int i, _ => .int i
  | _, _, .str x, _ => .str x
  | _, _, .lst h1 h2, h => .lst (.inl (.inl h1)) (DnA.dp h2 (by simpa only [PyData.hasDict] using h))
  | _, _, .tup h1 h2, h => .tup h1 (DnA.dp h2 (by simpa only [PyData.hasDict] using h))
  | _, _, .emp _, h => by simp [PyData.hasDict] at h
theorem DnA.dp {K : PySem.W.Frag} {H : Hp} : ∀ {vs : List V} {ds : List PyData}, DnA K H vs ds → PyData.hasDictAll ds = false → DpAll K H vs ds
  | _, _, .nil, _ => .nil
  | _, _, .cons h1 h2, h => by
    simp only [PyData.hasDictAll, Bool.or_eq_false_iff] at h
    exact .cons (Dn.dp h1 h.1) (DnA.dp h2 h.2)
end
def rReprD (K : PySem.W.Frag) : List V → Hp → VK → Prop := fun xs H Q => ∃ (a : Addr) (d : PyData), xs = [.ref a] ∧ Dp K H (.ref a) d ∧ d.showable = true ∧ d.hasDict = false ∧ d.depth < 64 ∧ cost d ≤ sizeLine ∧ Q (.str d.shown) H
theorem call_reprD {X : Cx} (hu : X.A.units + 64 < cLine) (gd : X.A.guards = some []) : CallR X (.builtin "repr") (rReprD X.K) := by
  rintro pins s σ H xs us Q I r ⟨a, d, rfl, dp, sh, nd, dd, cz, q⟩
  obtain ⟨u, rfl, ru⟩ := vals1 r
  obtain rfl : u = Value.ref a := ru
  obtain ⟨as, rd⟩ := Dp.reads I d _ _ dp rfl
  refine repr_of_reads' rd sh (fun z => by rw [nd] at z; cases z) gd (by omega) (fun b o e => e) (fun h' u tk hk => ?_) (Nat.le_trans (shown_le sh nd) cz)
  exact ⟨.str d.shown, H, I.kept hk, ⟨_, rfl⟩, q⟩
section
variable {K : PySem.W.Frag} {B : Bs} {G : List Hp} {L : List Addr} {Γ : List Sl} {k : PyData → Prop}
def isBox : PyData → Bool
  | .list _ => true
  | .tuple _ => true
  | _ => false
theorem cok_repr {d : PyData} (hb : isBox d = true) (sh : d.showable = true) (nd : d.hasDict = false) (dd : d.depth < 64) (cz : cost d ≤ sizeLine) (hk : k (.str d.shown)) : COk K B G L Γ (rReprD K) [d] k := fun σ H Q vs E d1 q => by
  cases d1 with
  | cons h1 h2 =>
    cases h2
    have dp := Dn.dp (h1.mono (hid_sub _ _)) nd
    have go := q (.str d.shown) _ H (Go.refl E) (.str _) hk
    cases h1 with
    | lst _ _ => exact ⟨_, _, rfl, dp, sh, nd, dd, cz, go⟩
    | tup _ _ => exact ⟨_, _, rfl, dp, sh, nd, dd, cz, go⟩
    | _ => cases hb
end

/-! ### the head -/
/-- the script as the only thing that is tracked, where it is not the module's own -/
def scr (K : PySem.W.Frag) (a : Addr) (o : Obj) (xs : List V) : Hp := fun b => if b = a ∧ (K.lookup a).isNone = true then some (.frz o (.lst xs)) else none
theorem scr_some {K : PySem.W.Frag} {a b : Addr} {o : Obj} {xs : List V} {u : HO} (h : scr K a o xs b = some u) : b = a ∧ K.lookup a = none ∧ u = .frz o (.lst xs) := by
  unfold scr at h
  by_cases c : b = a ∧ (K.lookup a).isNone = true
  · rw [if_pos c] at h
    exact ⟨c.1, by simpa using c.2, (Option.some.inj h).symm⟩
  · rw [if_neg c] at h
    cases h
theorem scr_none {K : PySem.W.Frag} {a b : Addr} {o : Obj} {xs : List V} (h : b = a → K.lookup a ≠ none) : scr K a o xs b = none := by
  cases e : scr K a o xs b with
  | none => rfl
  | some u =>
    obtain ⟨h1, h2, _⟩ := scr_some e
    exact absurd h2 (h h1)

theorem law_callG {P : Program} {w : World} {K : PySem.W.Frag} {mg mb : Str → Option Value} {k : Nat} {f a : Addr} {fd : FuncData} {x : Str} {sp : Sp} {t : Shared} {vs : List Value} {ns : List Int}
    (inK : K.In t.heap) (gl : t.heap.Ns mainGlobals mg) (bl : t.heap.Ns builtinsNs mb) (bb : ∀ x : Str, x ≠ "__name__" → mb x = bootBuiltins x) (nl : t.heap.NoLimit) (ng : t.gens = #[])
    (at_ : t.heap.get? a = some { cls := .type "list", data := .seq vs.toArray }) (ia : IntsAre vs ns) (sz : ns.length ≤ sizeLine) (room : Room k callerA)
    (F : ∀ base : Heap, K.In base → base.Ns mainGlobals mg → FnG P w K mg base k f fd [x] sp) (bind : ∀ (s : Shared) (u : Value), BindsTo s fd ⟨[u], []⟩ [(x, u)])
    (hsp : ∀ H : Hp, SqL K H a (ns.map V.int) → sp [.ref a] H (fun v _ => v = .bl true) fun _ _ _ => False) :
    codeAny (model P w) callerA (.call (.ref f) ⟨[.ref a], []⟩) (fun r s' => r = .ok (.ret (.bool true)) ∧ OldK t.heap s'.heap ∧ s'.os = t.os ∧ AllBare s'.gens) t := by
  have rv : Vals (ns.map V.int) vs := vals_ints ia
  have zs : (ns.map V.int).length ≤ sizeLine := by rw [List.length_map]; exact sz
  let o : Obj := { cls := .type "list", data := .seq vs.toArray }
  let H : Hp := scr K a o (ns.map V.int)
  have onlyA : ∀ {b : Addr} {u : HO}, H b = some u → b = a ∧ K.lookup a = none ∧ u = .frz o (.lst (ns.map V.int)) := fun e => scr_some e
  have ok : HOk P w H t.heap := by
    intro b u e
    obtain ⟨e1, _, e2⟩ := onlyA e
    rw [e1, e2]
    exact ⟨at_, zs, vs, _, rv, at_⟩
  have sq : SqL K H a (ns.map V.int) := by
    cases q : K.lookup a with
    | none => exact .inl (.inr ⟨o, if_pos ⟨rfl, by rw [q]; rfl⟩⟩)
    | some o1 =>
      have e1 := inK a o1 q
      rw [at_] at e1
      cases e1
      exact .inr ⟨_, vs.toArray, _, q, rfl, rfl, rfl, by rw [List.size_toArray, ia.length]; exact sz, by simpa using rv⟩
  have kept : ∀ {b : Addr} {ob : Obj}, t.heap.get? b = some ob → H b = none → (hidT t.heap H).get? b = some ob := fun e n => hidT_get e n
  have nsB : ∀ {b : Addr} {m : Str → Option Value}, t.heap.Ns b m → (hidT t.heap H).Ns b m := by
    rintro b m ⟨ob, es, ep, e, d, r⟩
    refine ⟨ob, es, ep, kept e (scr_none fun z => ?_), d, r⟩
    subst z
    rw [at_] at e
    cases e
    cases d
  have kB : K.In (hidT t.heap H) := fun b ob e => kept (inK b ob e) (scr_none fun z => by
    subst z
    rw [show K.lookup b = some ob from e]
    exact fun z => nomatch z)
  obtain ⟨mc, l1, l2⟩ := nl
  have M : Mod K mg (hidT t.heap H) := ⟨kB, nsB gl, ⟨mb, nsB bl, bb⟩, ⟨mc, nsB l1, l2⟩⟩
  have e0 : Env0 P w K mg (hidT t.heap H) callerA [] t H :=
    ⟨rfl, M, fun b ob e => of_hidT e, Nat.le_of_eq (hidT_size _ _), trivial, fun b hb => absurd (show b ∈ ([] : List Addr) from hb) (by simp), ok, .of_eq ng⟩
  have run := (F _ kB (nsB gl)).go callerA [] t H ⟨[.ref a], []⟩ [.ref a] [.ref a] _ _ rfl room e0 (bind t (.ref a)) (.cons rfl .nil) (hsp H sq)
  refine codeAny_mono run ?_
  intro r s2 hr
  match r, hr with
  | .error _, hr => exact hr.elim
  | .ok .next, hr => exact hr.elim
  | .ok .brk, hr => exact hr.elim
  | .ok .cont, hr => exact hr.elim
  | .ok (.ret u), hr =>
    obtain ⟨v, H2, os, bare, un, ok2, ru, q⟩ := hr
    obtain rfl : v = V.bl true := q
    obtain rfl : u = Value.bool true := ru
    refine ⟨rfl, OldK.of_keep ?_, os, bare⟩
    intro b ob e
    cases c : H b with
    | none => exact un.keep b ob e c (by intro z; exact absurd (show b ∈ ([] : List Addr) from z) (by simp)) (by simp)
    | some u =>
      obtain ⟨e1, _, e2⟩ := onlyA c
      rw [e2] at c
      obtain ⟨g, _⟩ := ok2 b _ (un.frzs b o _ c)
      rw [e1] at e g
      rw [at_] at e
      cases e
      rw [e1]
      exact g
theorem walk_ofG {l : PySem.W.OpenLaw} {n k : Nat} {q : Program} {loose : List Str} {XP : (Str → Option Value) → Heap → Prop} {YP : World → Heap → Prop} {d : DefRec} {K : Params → PySem.W.Frag} {sp : PySem.W.Frag → Sp} {x : Str}
    (hn : l.most = some n) (small : n ≤ sizeLine) (nodf : d.params.defaults = []) (room : Room k callerA) (hY : ∀ (w : World) (h : Heap), YP w h → (K w.params).In h)
    (F : ∀ (w : World) (mg : Str → Option Value) (f : Addr) (h : Heap), (K w.params).In h → h.Ns mainGlobals mg → mg d.name = some (.ref f) →
      ∃ fd : FuncData, (∀ (s : Shared) (u : Value), BindsTo s fd ⟨[u], []⟩ [(x, u)]) ∧ ∀ base : Heap, (K w.params).In base → base.Ns mainGlobals mg → FnG l.prog w (K w.params) mg base k f fd [x] (sp (K w.params)))
    (hsp : ∀ (K : PySem.W.Frag) (H : Hp) (a : Addr) (ns : List Int), ns.length ≤ n → SqL K H a (ns.map V.int) → sp K [.ref a] H (fun v _ => v = .bl true) fun _ _ _ => False) :
    PySem.W.WalkO q loose XP YP l.row.toRowW d [] (fun f vs => PySem.call f vs) := by
  refine Att.attach_call hn nodf ?_
  intro w s₀ t mg mb f o pm cd doc a vs ns G Y ho hd hcd hmg hobj hints hlen ng
  have inK : (K w.params).In t.heap := hY w _ Y
  obtain ⟨fd, bind, FG⟩ := F w mg f _ inK G.T.g hmg
  exact law_callG inK G.T.g G.T.b G.T.builtins G.T.nolimit ng hobj hints (Nat.le_trans hlen small) room FG bind fun H hS => hsp _ H a ns hlen hS
end DL
/-! More words over data: xs[i] op= e, extend, pop, several new lists at once, max, comparing rows. -/
namespace DL
open PySem PySem.Spec PyProof.Rows L2

/-! ### a list's item, by value -/
def rGetL (K : PySem.W.Frag) : V → V → Hp → VK → Prop := fun o i H Q => ∃ (p : Addr) (xs : List V) (n : Nat) (x : V), o = .ref p ∧ i = .int n ∧ SqL K H p xs ∧ xs[n]? = some x ∧ Q x H
theorem get_list {X : Cx} : PGet X (rGetL X.K) := by
  rintro pins s σ H o i ov iv Q I ro ri ⟨p, xs, n, x, rfl, rfl, hp, hx, q⟩
  obtain rfl : ov = .ref p := ro
  obtain ⟨t, rfl⟩ := ri
  obtain ⟨its, r, pl, hz⟩ := I.list hp
  obtain ⟨w, ew, rw'⟩ := r.get hx
  have hn : n < xs.length := (List.getElem?_eq_some_iff.mp hx).1
  have big := line63
  exact wpAny_getItem_list pl.isList (by omega) (by omega) (by simpa using ew) ⟨x, H, I, rw', q⟩
def ipM : TIp := fun x y H Q => ∃ i j : Int, x = .int i ∧ y = .int j ∧ CMulW i j ∧ Q (.int (i * j)) H
theorem ip_mul {X : Cx} : PIp X .Mult ipM := by
  rintro pins s σ H x y v u Q I r1 r2 ⟨i, j, rfl, rfl, c, q⟩
  obtain ⟨t, rfl⟩ := r1
  obtain ⟨t', rfl⟩ := r2
  exact PySem.P.imul_int ⟨.int _, H, I.tok _, ⟨_, rfl⟩, q⟩ c.ok

section
variable {K : PySem.W.Frag} {B : Bs} {G : List Hp} {L : List Addr} {Γ : List Sl} {H H' H2 : Hp} {σ : L2.St}
variable {te ta tb tc : TE} {tt tu : TT} {tr : TA} {k : PyData → Prop} {x y : PyData} {P P' : PD} {t u : TS}
theorem st_augM {i : Nat} {a : Int} (h0 : Γ[i]? = some (.d (.int a))) (h : EvP K B G L Γ te fun d => ∃ b, d = .int b ∧ CMulW a b ∧ P.nx L (Γ.set i (.d (.int (a * b))))) : StP K B G L Γ (tAug i te ipM) P := fun σ H D E M => by
  obtain ⟨v, e, dn⟩ := E.get h0
  refine ⟨v, e, h σ H _ E fun w d H1 g1 dn1 ⟨b, e1, c, hk⟩ => ?_⟩
  subst e1
  exact ⟨a, b, dn_int dn, dn_int dn1, c, M.nx _ _ _ _ hk (g1.env.put i (.int _))⟩
/-- xs[j] += e, xs an own list of numbers -/
theorem st_addOwn {i : Nat} {l : Addr} {xs : List PyData} (hi : Γ[i]? = some (.own l xs)) (h : EvP K B G L Γ tb fun n => ∃ (j : Nat) (a : Int), n = .int (j : Int) ∧ xs[j]? = some (.int a) ∧
      EvP K B G L Γ te fun d => ∃ b : Int, d = .int b ∧ P.nx L (Γ.set i (.own l (xs.set j (.int (a + b)))))) :
    StP K B G L Γ (tAugS (tVar i) tb te (rGetL K) (ipI fun a b => a + b) rSetL) P := fun σ H D E M => by
  obtain ⟨e, vs, hl, dn⟩ := E.getO hi
  refine ⟨_, e, h σ H _ E fun u n H1 g1 dn1 ⟨j, a, en, hj, h2⟩ => ?_⟩
  subst en
  obtain ⟨_, ws, hl1, dn2⟩ := g1.env.getO hi
  obtain ⟨w, ew, dw⟩ := dn2.get hj
  refine ⟨l, ws, j, w, rfl, dn_int dn1, .inl (.inl hl1), ew, h2 σ H1 _ g1.env fun v d H2 g2 dn3 ⟨b, ed, hk⟩ => ?_⟩
  subst ed
  obtain ⟨_, zs, hl2, dn4⟩ := g2.env.getO hi
  refine ⟨a, b, dn_int dw, dn_int dn3, l, zs, (j : Int), j, rfl, dn_int dn1, hl2, ?_, M.nx _ _ _ _ hk (Env.write g2.env hi (dn4.set j (.int _)))⟩
  have : j < xs.length := (List.getElem?_eq_some_iff.mp hj).1
  rw [dn4.length]
  unfold ixN
  rw [if_pos (by omega), if_pos (by omega)]
  simp
/-- xs.extend(ys) -/
theorem st_extend {i : Nat} {l : Addr} {xs : List PyData} (hi : Γ[i]? = some (.own l xs)) (h : EvP K B G L Γ te fun d => ∃ ys, d = .list ys ∧ xs.length + ys.length ≤ 1000000 ∧ P.nx L (Γ.set i (.own l (xs ++ ys)))) :
    StP K B G L Γ (tDrop (tBM K "list" rExtend (tVar i) (tCons te tNil))) P := fun σ H D E M => by
  obtain ⟨e, vs, hl, dn⟩ := E.getO hi
  refine ⟨_, e, .inl ⟨rfl, vs, .inl (.inl hl)⟩, h σ H _ E fun v d H1 g1 dn1 ⟨ys, ed, hz, hk⟩ => ?_⟩
  subst ed
  obtain ⟨e1, ws, hl1, dn2⟩ := g1.env.getO hi
  cases dn1 with
  | @lst b zs _ hb dz =>
    refine ⟨l, b, ws, zs, rfl, rfl, hl1, hid_sub _ _ _ _ hb, ?_, M.nx _ _ _ _ hk (Env.write g1.env hi (dn2.append dz))⟩
    rw [dn2.length, dz.length]
    exact sz_ok hz
/-- xs.pop() as a statement -/
theorem st_pop {i : Nat} {l : Addr} {xs : List PyData} (hi : Γ[i]? = some (.own l xs)) (hne : xs ≠ []) (hk : P.nx L (Γ.set i (.own l xs.dropLast))) :
    StP K B G L Γ (tDrop (tBM0 K "list" rPop (tVar i))) P := fun σ H D E M => by
  obtain ⟨e, vs, hl, dn⟩ := E.getO hi
  have hp : 0 < xs.length := List.length_pos_iff.mpr hne
  have hv : vs.length = xs.length := dn.length
  obtain ⟨y, hy⟩ : ∃ y, vs[vs.length - 1]? = some y := ⟨_, List.getElem?_eq_getElem (by omega)⟩
  refine ⟨_, e, .inl ⟨rfl, vs, .inl (.inl hl)⟩, l, vs, y, rfl, rfl, hl, hy, M.nx _ _ _ _ hk (Env.write E hi ?_)⟩
  rw [List.dropLast_eq_take, List.dropLast_eq_take, hv]
  exact dn.take _
/-- a, b = two new lists -/
theorem st_parOO {i j : Nat} (h : EvN K B G L Γ ta fun xs => ∀ l1 : Addr, EvN K B G (l1 :: L) Γ tb fun ys => ∀ l2 : Addr, l1 ≠ l2 → P.nx (l2 :: l1 :: L) ((Γ.set i (.own l1 xs)).set j (.own l2 ys))) : StP K B G L Γ (tPar i j (tCons ta (tCons tb tNil))) P := fun σ H D E M =>
  h σ H _ E fun p vs xs H1 g1 hp hv dv h2 => h2 p σ H1 _ (Env.temp E g1 hp hv) fun q ws ys H2 g2 hq hw dw hk => by
    have hpq : p ≠ q := ne_of_none hv hq
    have E1 := Env.take E g1 hp hv i dv
    have g3 := Go.step E1 g2.rl g2.env.ws
    have E2 := Env.take E1 g3 hq hw j dw
    exact ⟨_, _, rfl, M.nx _ _ _ _ (hk q hpq) E2⟩
/-- a, b, c = e, e, a new list -/
theorem st_par3O {i j m : Nat} (h : EvP K B G L Γ ta fun x => EvP K B G L Γ tb fun y => EvN K B G L Γ tc fun zs => ∀ l : Addr, P.nx (l :: L) (((Γ.set i (.d x)).set j (.d y)).set m (.own l zs))) : StP K B G L Γ (tPar3 i j m (tCons ta (tCons tb (tCons tc tNil)))) P := fun σ H D E M =>
  h σ H _ E fun v x H1 g1 dx h2 => h2 σ H1 _ g1.env fun w y H2 g2 dy h3 => h3 σ H2 _ g2.env fun p vs zs H3 g3 hp hv dv hk => by
    have E1 := (g2.env.put i (dx.mono g2.sm)).put j dy
    have g4 := Go.step E1 g3.rl g3.env.ws
    have E2 := Env.take E1 g4 hp hv m dv
    exact ⟨_, _, _, rfl, M.nx _ _ _ _ (hk p) E2⟩
theorem co_max {i j : Int} (hk : k (.int (if j > i then j else i))) : COk K B G L Γ rMax2Q [.int i, .int j] k := fun σ H Q vs E d1 q => by
  cases d1 with
  | cons h1 h2 =>
    cases h2 with
    | cons h2 h3 =>
      cases h3
      cases h1
      cases h2
      exact ⟨i, j, rfl, q _ _ H (Go.refl E) (.int _) hk⟩
theorem co_min {i j : Int} (hk : k (.int (if j < i then j else i))) : COk K B G L Γ rMin2Q [.int i, .int j] k := fun σ H Q vs E d1 q => by
  cases d1 with
  | cons h1 h2 =>
    cases h2 with
    | cons h2 h3 =>
      cases h3
      cases h1
      cases h2
      exact ⟨i, j, rfl, q _ _ H (Go.refl E) (.int _) hk⟩
/-- comparing rows of numbers and tuples of such -/
theorem rok_eqD {x y : PyData} (nx : x.hasDict = false) (ny : y.hasDict = false) (sx : SeqAt.shaped x = true) (sy : SeqAt.shaped y = true) (hk : k (.bool (PyData.eqv x y))) : ROk K B G L Γ (rEqD K) x y k := fun σ H Q v u E d1 d2 q =>
  ⟨x, y, Dn.dp (d1.mono (hid_sub _ _)) nx, Dn.dp (d2.mono (hid_sub _ _)) ny, sx, sy, q _ _ H (Go.refl E) (.bl _) hk⟩
theorem rok_neD {x y : PyData} (nx : x.hasDict = false) (ny : y.hasDict = false) (sx : SeqAt.shaped x = true) (sy : SeqAt.shaped y = true) (hk : k (.bool (!PyData.eqv x y))) : ROk K B G L Γ (rNeD K) x y k := fun σ H Q v u E d1 d2 q =>
  ⟨x, y, Dn.dp (d1.mono (hid_sub _ _)) nx, Dn.dp (d2.mono (hid_sub _ _)) ny, sx, sy, q _ _ H (Go.refl E) (.bl _) hk⟩
def rAndQ : R2 := rI0 fun i j => .int (Builtin.bitAnd i j)
theorem ro_and {i j : Int} (hk : k (.int (Builtin.bitAnd i j))) : ROk K B G L Γ rAndQ (.int i) (.int j) k := rok_i0 hk
end
end DL
/-! a tuple times 1 is itself -/
namespace DL
open PySem PySem.Spec PyProof.Rows L2
theorem tup_once (l : Addr) (o : Obj) (items : Array Value) (n : Nat) (u : Tok) (hc : o.cls = .type "tuple") (hd : o.data = .seq items n) :
    Meets (Builtin.«tuple.__mul__» ⟨[.ref l, .int 1 u], []⟩) (fun _ R s => s.heap.get? l = some o ∧ R (.ok (.ret (.ref l))) s) := by
  obtain ⟨cls, dd, data, sl⟩ := o
  simp only at hc hd
  subst hc hd
  apply Meets.of_wp
  rintro prog w A R ⟨hp, g, d, tk, os⟩ ⟨hl, hr⟩
  have big : (decide ((1 : Int) < -(2 ^ 63)) || decide ((1 : Int) ≥ 2 ^ 63)) = false := by decide
  have one : (items.isEmpty || (1 : Int) == 1) = true := by simp
  have f1 := AutoSeq1.idx_int
  wp_walk using wpAny_loadPart' hl
  repeat (first
    | (refine wpAny_ite_false (decide_eq_false (by rw [big]; exact Bool.false_ne_true)) ?_; wp_walk using wpAny_loadPart' hl)
    | (refine wpAny_ite_true (decide_eq_true one) ?_; wp_walk using wpAny_loadPart' hl))
  all_goals exact ⟨_, rfl, hr⟩
def rRepT1 (K : PySem.W.Frag) : R2 := fun x y H Q => ∃ (l : Addr) (xs : List V), x = .ref l ∧ y = .int 1 ∧ SqT K H l xs ∧ Q (.ref l) H
theorem op_repT1 {X : Cx} : OpR X (binaryOp .Mult) (rRepT1 X.K) := by
  rintro pins s σ H x y v u Q I rx ry ⟨l, xs, rfl, rfl, hT, q⟩
  obtain rfl : v = .ref l := rx
  obtain ⟨t, rfl⟩ := ry
  obtain ⟨its, r, ⟨⟨c, dd, dat, sl⟩, ho, hc, n, hd⟩, hs⟩ := I.tuple hT
  obtain rfl : c = .type "tuple" := hc
  obtain rfl : dat = .seq its.toArray n := hd
  have asInt := fun s' => typeIs_int s' 1 t
  refine wpAny_binaryOp_repeat_ref (T := "tuple") (U := "int") (by decide) ⟨_, ho, rfl⟩ asInt noFill_tuple_mul F.fills_int_mul F.slot_int_rmul repeat_tuple F.slot_int_index.lookup ?_
  refine call_meets F.slot_int_rmul (asInt s) F.entry_int_rmul (F.args_int_rmul_2 _ _) (int_rmul_tuple 1 t l its.toArray n dd sl) ⟨ho, rfl, ⟨_, ho, rfl⟩, ?_⟩
  refine call_meets F.slot_tuple_mul ⟨_, ho, rfl⟩ F.entry_tuple_mul (F.args_tuple_mul_2 _ _) (tup_once l _ its.toArray n t rfl rfl) ⟨ho, ?_⟩
  exact ⟨.ref l, H, I, rfl, q⟩
/-- + or * of all that is met here -/
def rMulB (K : PySem.W.Frag) : R2 := fun x y H Q => rMulA K x y H Q ∨ rRepT1 K x y H Q
theorem op_mulB {X : Cx} : OpR X (binaryOp .Mult) (rMulB X.K) := op_or op_mulA op_repT1
section
variable {K : PySem.W.Frag} {B : Bs} {G : List Hp} {L : List Addr} {Γ : List Sl} {k : PyData → Prop}
theorem rb_repT1 {ds : List PyData} (hk : k (.tuple ds)) : ROk K B G L Γ (rMulB K) (.tuple ds) (.int 1) k := fun σ H Q v u E d1 d2 q => by
  cases d2
  have d1' := d1
  cases d1 with
  | @tup a xs _ e1 h2 => exact .inr ⟨a, xs, rfl, rfl, Same.sqt (hid_sub _ _) e1, q _ _ H (Go.refl E) d1' hk⟩
theorem rb_mul {x y : PyData} (h : ROk K B G L Γ (rMulA K) x y k) : ROk K B G L Γ (rMulB K) x y k := h.l
/-- a tuple times a count above 0 -/
theorem rb_repT {ds : List PyData} {n : Nat} (hne : ds ≠ []) (h0 : 1 ≤ n) (h1 : n ≤ 1000) (hl : ds.length ≤ 1000) (hk : k (.tuple (List.replicate n ds).flatten)) : ROk K B G L Γ (rMulB K) (.tuple ds) (.int (n : Int)) k := by
  rcases Nat.lt_or_ge n 2 with h | h
  · obtain rfl : n = 1 := by omega
    exact rb_repT1 (by simpa using hk)
  · exact (ro_repT hne (by omega) (by omega) hl (by simpa using hk)).l
/-- a list times a count that may be below 0 -/
theorem ro_repN {ds : List PyData} {n : Int} (h0 : -100000 ≤ n) (h1 : n ≤ 100000) (hl : ds.length * n.toNat ≤ 1000000) (hk : k (.list (List.replicate n.toNat ds).flatten)) : ROk K B G L Γ (rMulA K) (.list ds) (.int n) k := by
  refine ROk.r (ROk.r (ROk.l ?_))
  rintro σ H Q v u E d1 d2 q
  cases d2
  cases d1 with
  | @lst a xs _ e1 h2 =>
    refine ⟨a, n, xs, rfl, rfl, hid_sub _ _ _ _ e1, by omega, by omega, ?_, fun p hp => ?_⟩
    · rw [h2.length]
      exact sz_ok hl
    · have g := Go.new (o := .lst (List.replicate n.toNat xs).flatten) E hp
      exact q _ _ _ g (.lst (hid_new (E.newM hp)) ((DnA.reps h2 n.toNat).mono g.sm)) hk
end
end DL
/-! Calls with some arguments by name, in any order. -/
namespace DL
open PySem PySem.Spec PyProof.Rows L2
def gP (m n : Nat) (js : List Nat) (us ws : List Value) : List Value := if us.length = m ∧ ws.length = n then us ++ js.map (fun j => ws.getD j .none) else []
def gPV (m n : Nat) (js : List Nat) (vs zs : List V) : List V := if vs.length = m ∧ zs.length = n then vs ++ js.map (fun j => zs.getD j .non) else []
def gPD (m n : Nat) (js : List Nat) (ds es : List PyData) : List PyData := if ds.length = m ∧ es.length = n then ds ++ js.map (fun j => es.getD j .none) else []
theorem vals_app {vs ws : List V} {us zs : List Value} : Vals vs us → Vals ws zs → Vals (vs ++ ws) (us ++ zs)
  | .nil, h => h
  | .cons a b, h => .cons a (vals_app b h)
theorem vals_getD : ∀ {zs : List V} {ws : List Value} (j : Nat), Vals zs ws → RelV (zs.getD j .non) (ws.getD j .none)
  | [], [], _, _ => rfl
  | _ :: _, _ :: _, 0, .cons a _ => a
  | _ :: _, _ :: _, j + 1, .cons _ b => vals_getD j b
theorem vals_pick {zs : List V} {ws : List Value} (h : Vals zs ws) : ∀ js : List Nat, Vals (js.map fun j => zs.getD j .non) (js.map fun j => ws.getD j .none)
  | [] => .nil
  | j :: js => .cons (vals_getD j h) (vals_pick h js)
theorem dna_getD {K : PySem.W.Frag} {H : Hp} : ∀ {zs : List V} {es : List PyData} (j : Nat), DnA K H zs es → Dn K H (zs.getD j .non) (es.getD j .none)
  | [], [], _, _ => .non
  | _ :: _, _ :: _, 0, .cons a _ => a
  | _ :: _, _ :: _, j + 1, .cons _ b => dna_getD j b
theorem dna_pick {K : PySem.W.Frag} {H : Hp} {zs : List V} {es : List PyData} (h : DnA K H zs es) : ∀ js : List Nat, DnA K H (js.map fun j => zs.getD j .non) (js.map fun j => es.getD j .none)
  | [] => .nil
  | j :: js => .cons (dna_getD j h) (dna_pick h js)
theorem dna_gP {K : PySem.W.Frag} {H : Hp} {vs zs : List V} {ds es : List PyData} (h1 : DnA K H vs ds) (h2 : DnA K H zs es) (m n : Nat) (js : List Nat) : DnA K H (gPV m n js vs zs) (gPD m n js ds es) := by
  unfold gPV gPD
  rw [h1.length, h2.length]
  split
  · exact h1.append (dna_pick h2 js)
  · exact .nil
theorem Fun.kbindsP {K : PySem.W.Frag} {x qual : Str} {st : Stmt} {f : Addr} {fd : FuncData} {ps ks : List Str} (F : Fun K x qual st f fd) (hne : ps ≠ []) (m n : Nat) (js : List Nat)
    (h : ∀ (kV doc pm : Value) (an : Option Addr) (cdv ct : Value) (us ws : List Value), us.length = m → ws.length = n → bindArgs (PySem.W.fnOf x qual (defArgs st) (defBody st) (defScope st) .none kV doc pm an cdv ct) ⟨us, ks.zip ws⟩ = pure (ps.zip (us ++ js.map fun j => ws.getD j .none))) : KBinds K fd ps ks (gP m n js) (gPV m n js) := by
  obtain ⟨oc, od, kV, doc, pm, an, cdv, ct, osl, rfl, lk, hcd⟩ := F.ex
  refine ⟨fun s us ws _ hl => ?_, fun {vs us zs ws} r rz => ?_⟩
  · unfold gP at hl ⊢
    split at hl
    · rename_i hc
      rw [if_pos hc]
      exact BindsTo.of_eq (h kV doc pm an cdv ct us ws hc.1 hc.2)
    · cases ps with
      | nil => exact absurd rfl hne
      | cons c d => cases hl
  · unfold gP gPV
    rw [r.length, rz.length]
    split
    · exact vals_app r (vals_pick rz js)
    · exact .nil
section
variable {X : Cx} {x : Str} {p pos : Pos} {k : Nat} {f : Addr} {fd : FuncData} {ps ks : List Str} {sp : Sp} {CX : CXT} {E : XK} {tk : TA} {kws : List Keyword} {g : List Value → List Value → List Value} {gV : List V → List V → List V}
def tCallN (sp : Sp) (gV : List V → List V → List V) (E : XK) (tk : TA) : TE := fun σ H Q => tk σ H fun zs H1 => sp (gV [] zs) H1 Q E
theorem pe_callN (F : FnOk X.prog X.w X.K X.mg X.base CX k f fd ps sp) (hr : Room k X.A) (hg : Gl X x) (hm : X.mg x = some (.ref f)) (hk : PySem.W.keepIn X.K (.ref f) = true) (hb : KBinds X.K fd ps ks g gV) (hx : Passes CX X E)
    (hkw : PK X kws tk) (hall : (backToKw pos (keywordEach kws X.env)).all (·.1.isSome) = true := by rfl) (hks : (backToKw pos (keywordEach kws X.env)).filterMap (·.1) = ks := by rfl)
    (hdb : (x == ("__debug__" : Str)) = false := by decide)
    (hpl : ((backTo pos (starEach [] X.env)).any (·.1) || (backToKw pos (keywordEach kws X.env)).any (·.1.isNone)) = false := by rfl) :
    PE X (.Call (.Name x p) [] kws pos) (tCallN sp gV E tk) := by
  refine ⟨fun pins s σ H Q I h => ?_⟩
  refine wpAny_Call_Name_kw (ld_glob I hg hm ?_ hdb)
  refine PySem.W.callWith_KW0 (h₀ := X.base) I.ok.mod.kin hk hall ?_ hpl
  refine thn (hkw.run pos pins s σ H _ I h) fun ws s2 ⟨zs, H2, I2, rz, q2⟩ => ⟨I2.kIn, ?_⟩
  rw [hks]
  exact run_fnk (us := []) (vs := []) F hr hb hx I2 .nil rz q2
end
section
variable {K : PySem.W.Frag} {B : Bs} {G : List Hp} {L : List Addr} {Γ : List Sl} {tr tk : TA} {k : PyData → Prop}
theorem ev_callN {pre : List PyData → Prop} {post : List PyData → PyData → Prop} {E0 : XK} {m n : Nat} {js : List Nat} (h : EvA K B G L Γ tk fun es => pre (gPD m n js [] es) ∧ ∀ d, post (gPD m n js [] es) d → k d) : EvP K B G L Γ (tCallN (SpP K pre post) (gPV m n js) E0 tk) k := fun σ H Q E q =>
  h σ H _ E fun zs es H1 g1 dn ⟨hp, hk⟩ => by
    refine ⟨L ++ B.M, gPD m n js [] es, g1.env.alive, dna_gP .nil dn m n js, hp, fun v d H' hs dv hpost => ?_⟩
    have g2 := Go.step g1.env (H' := H') (fun a o _ e => hs a o e) fun w hw => by
      obtain ⟨n, b, c, e, q⟩ := g1.env.ws w hw
      exact ⟨n, b, c, hs _ _ e, q⟩
    exact q v d H' (g1.trans g2) dv (hk d hpost)
theorem ev_callKP {pre : List PyData → Prop} {post : List PyData → PyData → Prop} {E0 : XK} {m n : Nat} {js : List Nat} (h : EvA K B G L Γ tr fun ds => EvA K B G L Γ tk fun es => pre (gPD m n js ds es) ∧ ∀ d, post (gPD m n js ds es) d → k d) : EvP K B G L Γ (L2.tCallK (SpP K pre post) (gPV m n js) E0 tr tk) k := fun σ H Q E q =>
  h σ H _ E fun vs ds H1 g1 dn1 h2 => h2 σ H1 _ g1.env fun zs es H2 g2 dn ⟨hp, hk⟩ => by
    have g12 := g1.trans g2
    refine ⟨L ++ B.M, gPD m n js ds es, g12.env.alive, dna_gP (dn1.mono g2.sm) dn m n js, hp, fun v d H' hs dv hpost => ?_⟩
    have g3 := Go.step g12.env (H' := H') (fun a o _ e => hs a o e) fun w hw => by
      obtain ⟨n, b, c, e, q⟩ := g12.env.ws w hw
      exact ⟨n, b, c, hs _ _ e, q⟩
    exact q v d H' (g12.trans g3) dv (hk d hpost)
end
end DL
/-! More of lists: list(range(n)), two lists at once, two places at once, xs[::-1], unpacking. -/
namespace DL
open PySem PySem.Spec PyProof.Rows L2
def rReprI : List V → Hp → VK → Prop := fun xs H Q => ∃ i, xs = [.int i] ∧ i.natAbs.log2 < 1920 ∧ Q (.str (toString i)) H
section
variable {K : PySem.W.Frag} {B : Bs} {G : List Hp} {L : List Addr} {Γ : List Sl} {H H' H2 : Hp} {σ : L2.St}
variable {te tf ta tb : TE} {k : PyData → Prop} {P : PD}
theorem en_listRg {kl : List PyData → Prop} (h : EvP K B G L Γ te fun d => ∃ n : Int, d = .int n ∧ 0 ≤ n ∧ n ≤ 100000 ∧ kl ((List.range n.toNat).map fun i : Nat => PyData.int (i : Int))) : EvN K B G L Γ (tLstRg (tRg1 te)) kl := fun σ H Q E q =>
  h σ H _ E fun v d H1 g1 dn ⟨n, e, h0, h1, hk⟩ => by
    subst e
    cases dn
    refine ⟨n, rfl, RgOk.of_le (by omega) (by omega) (by omega) (by omega), fun p hp => ?_⟩
    have g2 := Go.new (o := .lst (rgV 0 n)) g1.env hp
    refine q p _ _ _ (g1.trans g2) (Go.fresh E g1 hp) upd_same ?_ hk
    have e : rgV 0 n = ((List.range n.toNat).map fun i => ((i : Nat) : Int)).map V.int := by
      unfold rgV
      rw [show (n - 0).toNat = n.toNat by omega, List.map_map]
      apply List.map_congr_left
      intro i _
      show V.int (0 + (i : Int)) = V.int (i : Int)
      rw [Int.zero_add]
    have e2 : (List.range n.toNat).map (fun i : Nat => PyData.int (i : Int)) = ((List.range n.toNat).map fun i => ((i : Nat) : Int)).map PyData.int := by
      rw [List.map_map]
      rfl
    rw [e, e2]
    exact DnA.of_ints _
theorem co_intB {b : Bool} (hk : k (.int (if b then 1 else 0))) : COk K B G L Γ rIntQ [.bool b] k := fun σ H Q vs E d1 q => by
  cases d1 with
  | cons h1 h2 =>
    cases h2
    obtain rfl := dn_bool h1
    exact .inr ⟨b, rfl, q _ _ H (Go.refl E) (.int _) hk⟩
theorem cok_reprI {i : Int} (hz : i.natAbs.log2 < 1920) (hk : k (.str (toString i))) : COk K B G L Γ rReprI [.int i] k := fun σ H Q vs E d1 q => by
  cases d1 with
  | cons h1 h2 =>
    cases h2
    obtain rfl := dn_int h1
    exact ⟨i, rfl, hz, q _ _ H (Go.refl E) (.str _) hk⟩
theorem ev_revL (h : EvP K B G L Γ te fun d => ∃ ds, d = .list ds ∧ k (.list ds.reverse)) : EvP K B G L Γ (tRevL K te) k := fun σ H Q E q =>
  h σ H _ E fun v d H1 g1 dn ⟨ds, e, hk⟩ => by
    subst e
    cases dn with
    | @lst a xs _ e1 h2 =>
      refine ⟨a, xs, rfl, .inl (.inl (hid_sub _ _ _ _ e1)), fun p hp => ?_⟩
      have g2 := Go.new (o := .lst xs.reverse) g1.env hp
      exact q _ _ _ (g1.trans g2) (.lst (hid_new (g1.env.newM hp)) ((h2.mono g2.sm).rev)) hk
theorem st_unpackL {n : Nat} {tg : TGs} (h : EvP K B G L Γ te fun d => ∃ ds, d = .list ds ∧ ds.length = n ∧ TgP K B G L Γ tg ds fun Γ' => P.nx L Γ') : StP K B G L Γ (tAsg te (gLst K n tg)) P := fun σ H D E M =>
  h σ H _ E fun v d H1 g1 dn ⟨ds, e, hn, ht⟩ => by
    subst e
    cases dn with
    | @lst a xs _ e1 h2 =>
      exact ⟨a, xs, rfl, .inl (.inl (hid_sub _ _ _ _ e1)), by rw [h2.length]; exact hn, ht σ H1 xs _ g1.env h2 fun Γ' σ' E' hk => M.nx _ _ _ _ hk E'⟩
/-- a, b = a new list, a new list, by a tuple -/
theorem st_unpOO {i j : Nat} (h : EvN K B G L Γ ta fun xs => ∀ l1 : Addr, EvN K B G (l1 :: L) Γ tb fun ys => ∀ l2 : Addr, l1 ≠ l2 → P.nx (l2 :: l1 :: L) ((Γ.set i (.own l1 xs)).set j (.own l2 ys))) : StP K B G L Γ (tAsg (tTup (tCons ta (tCons tb tNil))) (gTup K 2 (gCons (gName i) (gCons (gName j) gNil)))) P := fun σ H D E M =>
  h σ H _ E fun p vs xs H1 g1 hp hv dv h2 => h2 p σ H1 _ (Env.temp E g1 hp hv) fun q ws ys H2 g2 hq hw dw hk => by
    have hpq : p ≠ q := ne_of_none hv hq
    refine ⟨by show 2 ≤ sizeLine; decide, fun t ht => ?_⟩
    have s3 : Same H2 (upd H2 t (.tup [.ref p, .ref q])) := same_upd ht
    have E1 := Env.take E g1 hp hv i dv
    have g3 := Go.step E1 g2.rl g2.env.ws
    have E2 := Env.take E1 g3 hq hw j dw
    have g4 := Go.new (o := .tup [.ref p, .ref q]) E2 ht
    exact ⟨t, [.ref p, .ref q], rfl, .inl (.inl upd_same), rfl, _, _, rfl, _, _, rfl, rfl, M.nx _ _ _ _ (hk q hpq) g4.env⟩
/-- xs[a], xs[b] = e, f -/
theorem st_setTwo {tr : TA} {i : Nat} {l : Addr} {xs : List PyData} (hi : Γ[i]? = some (.own l xs)) (h : EvA K B G L Γ tr fun ds => ∃ x y, ds = [x, y] ∧ EvP K B G L Γ ta fun m => ∃ j : Nat, m = .int (j : Int) ∧ j < xs.length ∧
    EvP K B G L (Γ.set i (.own l (xs.set j x))) tb fun n => ∃ j2 : Nat, n = .int (j2 : Int) ∧ j2 < xs.length ∧ P.nx L (Γ.set i (.own l ((xs.set j x).set j2 y)))) :
    StP K B G L Γ (tAsg (tTup tr) (gTup K 2 (gCons (gSub (tVar i) ta rSetL) (gCons (gSub (tVar i) tb rSetL) gNil)))) P := fun σ H D E M =>
  h σ H _ E fun vs ds H1 g1 dn ⟨x, y, e, h2⟩ => by
    subst e
    cases dn with
    | cons d1 d2 =>
      cases d2 with
      | cons d2 d3 =>
        cases d3
        rename_i v u
        refine ⟨by show 2 ≤ sizeLine; decide, fun t ht => ?_⟩
        have g2 := Go.new (o := .tup [v, u]) g1.env ht
        refine ⟨t, [v, u], rfl, .inl (.inl upd_same), rfl, _, _, rfl, ?_⟩
        obtain ⟨e1, ws0, hl0, dn0⟩ := g2.env.getO hi
        refine ⟨_, e1, h2 σ _ _ g2.env fun m dm H3 g3 dm1 ⟨j, ej, hj, h3⟩ => ?_⟩
        subst ej
        obtain ⟨e2, ws, hl2, dn3⟩ := g3.env.getO hi
        have d1' := (d1.mono g2.sm).mono g3.sm
        have d2' := (d2.mono g2.sm).mono g3.sm
        refine ⟨l, ws, (j : Int), j, rfl, dn_int dm1, hl2, ?_, ?_⟩
        · rw [dn3.length]
          unfold ixN
          rw [if_pos (by omega), if_pos (by omega)]
          simp
        · have E4 := Env.write g3.env hi (dn3.set j d1')
          have s4 : Same (hid (L ++ B.M) H3) (hid (L ++ B.M) (upd H3 l (.lst (ws.set j v)))) := fun a o e => by
            obtain ⟨q, e⟩ := hid_some e
            have lM : l ∈ L ++ B.M := List.mem_append_left _ (g3.env.ow i l xs hi)
            rw [hid_out q, upd_ne (fun (z : a = l) => q (by rw [z]; exact lM))]
            exact e
          have hi4 : (Γ.set i (.own l (xs.set j x)))[i]? = some (.own l (xs.set j x)) := List.getElem?_set_self (List.getElem?_eq_some_iff.mp hi).1
          obtain ⟨e5, ws5, hl5, dn5⟩ := E4.getO hi4
          refine ⟨_, _, rfl, _, e5, h3 σ _ _ E4 fun n dn' H5 g5 dm2 ⟨j2, ej2, hj2, hk⟩ => ?_⟩
          subst ej2
          obtain ⟨e6, ws6, hl6, dn6⟩ := g5.env.getO hi4
          have d2'' := (d2'.mono s4).mono g5.sm
          refine ⟨l, ws6, (j2 : Int), j2, rfl, dn_int dm2, hl6, ?_, ?_⟩
          · rw [dn6.length, List.length_set]
            unfold ixN
            rw [if_pos (by omega), if_pos (by omega)]
            simp
          · have E7 := Env.write g5.env hi4 (dn6.set j2 d2'')
            rw [List.set_set] at E7
            exact ⟨rfl, M.nx _ _ _ _ hk E7⟩
/-- a, b = a new list, e -/
theorem st_parOD {i j : Nat} (h : EvN K B G L Γ ta fun xs => ∀ l1 : Addr, EvP K B G (l1 :: L) Γ tb fun y => P.nx (l1 :: L) ((Γ.set i (.own l1 xs)).set j (.d y))) : StP K B G L Γ (tPar i j (tCons ta (tCons tb tNil))) P := fun σ H D E M =>
  h σ H _ E fun p vs xs H1 g1 hp hv dv h2 => h2 p σ H1 _ (Env.temp E g1 hp hv) fun v y H2 g2 dy hk => by
    have E1 := Env.take E g1 hp hv i dv
    have g3 := Go.step E1 g2.rl g2.env.ws
    exact ⟨_, _, rfl, M.nx _ _ _ _ hk (g3.env.put j dy)⟩
end
end DL
/-! A text among texts, isinstance of a text, the least common multiple. -/
namespace DL
open PySem PySem.Spec PyProof.Rows L2
def isStrT : PyData → Bool
  | .str _ => true
  | _ => false
theorem kit_str (d : PyData) : kitB (tyD d) "str" = some (isStrT d) := by
  cases d <;> (simp only [tyD, isStrT]; decide +kernel)
theorem dna_strs {K : PySem.W.Frag} {H : Hp} : ∀ {vs : List V} {ys : List Str}, DnA K H vs (ys.map .str) → vs = ys.map V.str
  | _, [], h => by
    cases h
    rfl
  | _, y :: ys, h => by
    cases h with
    | cons a b =>
      rw [dn_str a, dna_strs b]
      rfl
theorem flat_strs (ys : List Str) : (ys.map V.str).all flatV = true := by
  induction ys with
  | nil => rfl
  | cons y ys ih => simpa [flatV] using ih
theorem in_strs (x : Str) (ys : List Str) : inV (V.str x) (ys.map V.str) = ys.contains x := by
  unfold inV
  induction ys with
  | nil => rfl
  | cons y ys ih =>
    simp only [List.map_cons, List.any_cons, List.contains_cons]
    rw [ih]
    congr 1
    show (y == x) = (x == y)
    exact Bool.beq_comm
section
variable {K : PySem.W.Frag} {B : Bs} {G : List Hp} {L : List Addr} {Γ : List Sl} {te : TE} {k : PyData → Prop}
theorem ev_isiStr (h : EvP K B G L Γ te fun d => k (.bool (isStrT d))) : EvP K B G L Γ (tCB (rIsi K) (tCons te (tCons (tC (.ty "str")) tNil))) k := ev_isi (h.mono fun d hk => ⟨_, kit_str d, hk⟩)
theorem rok_inS {x : Str} {ys : List Str} (hk : k (.bool (ys.contains x))) : ROk K B G L Γ (rIn K false) (.str x) (.tuple (ys.map .str)) k := fun σ H Q v u E d1 d2 q => by
  rw [dn_str d1]
  cases d2 with
  | tup h1 h2 =>
    rw [dna_strs h2] at h1
    refine ⟨_, _, rfl, .inr (Same.sqt (hid_sub _ _) h1), rfl, flat_strs ys, ?_⟩
    rw [in_strs]
    exact q _ _ H (Go.refl E) (.bl _) hk
theorem rok_notInS {x : Str} {ys : List Str} (hk : k (.bool (!ys.contains x))) : ROk K B G L Γ (rIn K true) (.str x) (.tuple (ys.map .str)) k := fun σ H Q v u E d1 d2 q => by
  rw [dn_str d1]
  cases d2 with
  | tup h1 h2 =>
    rw [dna_strs h2] at h1
    refine ⟨_, _, rfl, .inr (Same.sqt (hid_sub _ _) h1), rfl, flat_strs ys, ?_⟩
    rw [in_strs]
    exact q _ _ H (Go.refl E) (.bl _) hk
end
end DL
/-! The least common multiple of two or three numbers; a module's constant tuple. -/
namespace DL
open PySem PySem.Spec PyProof.Rows L2
section
open PySem.W
theorem args_lcm3 (a b c : Value) : argsOk "math.lcm" ⟨[a, b, c], []⟩ := by unfold argsOk; kernel_rfl
theorem run_lcm3 (a : Int) (t : Tok) (b : Int) (u : Tok) (c : Int) (v : Tok) (hc0 : ¬(max 1 a.natAbs).log2 / 30 + 1 > 450) (hc1 : ¬(max a.natAbs b.natAbs).log2 / 30 + 1 > 450)
    (hc2 : ¬(max (a.natAbs.lcm b.natAbs) c.natAbs).log2 / 30 + 1 > 450) (hsz : (((((Nat.lcm 1 a.natAbs).lcm b.natAbs).lcm c.natAbs : Nat) : Int)).natAbs.log2 < bitsLine) :
    Gives (Builtin.«math.lcm» ⟨[.int a t, .int b u, .int c v], []⟩) (.int (((((Nat.lcm 1 a.natAbs).lcm b.natAbs).lcm c.natAbs : Nat) : Int))) :=
  .of_wp fun M A E s Q h => by
    obtain ⟨hp, g, d, tk, os⟩ := s
    wp_walk
    refine wpAny_ite_false (decide_eq_false (Nat.not_le.mpr hsz)) ?_
    wp_walk
    exact ⟨_, rfl, h⟩
theorem call_lcm3 {prog : Program} {w : World} {A : Around} {E : Value → Shared → Prop} {s : Shared} {Q : Value → Shared → Prop} {a b c : Int} {t u v : Tok}
    (ha : a.natAbs < 2 ^ 1000) (hb : b.natAbs < 2 ^ 1000) (hc : c.natAbs < 2 ^ 1000) (h : Q (.int (((a.natAbs.lcm b.natAbs).lcm c.natAbs : Nat) : Int) s.toks) { s with toks := s.toks + 1 }) :
    wpAny (model prog w) A (call (.builtin "math.lcm") [.int a t, .int b u, .int c v]) Q E s := by
  have l1 : ∀ {n k : Nat}, n < 2 ^ k → 0 < k → n.log2 < k := fun {n k} h k0 => by
    by_cases h0 : n = 0
    · subst h0
      rw [Nat.log2_zero]
      exact k0
    · exact (Nat.log2_lt h0).mpr h
  have e1 : Nat.lcm 1 a.natAbs = a.natAbs := by simp [Nat.lcm]
  have mx : ∀ {m n k : Nat}, m < 2 ^ k → n < 2 ^ k → max m n < 2 ^ k := fun {m n k} h1 h2 => by
    rcases Nat.le_total m n with q | q
    · rw [Nat.max_eq_right q]; exact h2
    · rw [Nat.max_eq_left q]; exact h1
  have one : 1 < 2 ^ 1000 := Nat.one_lt_two_pow (by decide)
  have up : ∀ {m j k : Nat}, m < 2 ^ j → j ≤ k → m < 2 ^ k := fun h1 h2 => Nat.lt_of_lt_of_le h1 (Nat.pow_le_pow_right (by decide) h2)
  have lb : a.natAbs.lcm b.natAbs < 2 ^ 2000 := by
    refine Nat.lt_of_le_of_lt (mc_lcm_le _ _) ?_
    rw [show 2000 = 1000 + 1000 by rfl, Nat.pow_add]
    exact Nat.mul_lt_mul'' ha hb
  have lc : (a.natAbs.lcm b.natAbs).lcm c.natAbs < 2 ^ 3000 := by
    refine Nat.lt_of_le_of_lt (mc_lcm_le _ _) ?_
    rw [show 3000 = 2000 + 1000 by rfl, Nat.pow_add]
    exact Nat.mul_lt_mul'' lb hc
  have q0 := l1 (mx one ha) (by decide)
  have q1 := l1 (mx ha hb) (by decide)
  have q2 := l1 (mx lb (up hc (by decide))) (by decide)
  have q3 := l1 lc (by decide)
  have g := run_lcm3 a t b u c v (by omega) (by omega) (by omega) (by
    rw [e1, Int.natAbs_natCast]
    exact Nat.lt_of_lt_of_le q3 (by decide))
  rw [e1] at g
  exact call_function_meets MGF.kind_lcm MGF.plain_lcm MGF.entry_lcm (args_lcm3 _ _ _) g.meets h
end
def rLcm3 : List V → Hp → VK → Prop := fun vs H Q => ∃ a b c : Int, vs = [.int a, .int b, .int c] ∧ a.natAbs < 2 ^ 1000 ∧ b.natAbs < 2 ^ 1000 ∧ c.natAbs < 2 ^ 1000 ∧ Q (.int (((a.natAbs.lcm b.natAbs).lcm c.natAbs : Nat) : Int)) H
theorem cr_lcm3 {X : Cx} : CallR X (.builtin "math.lcm") rLcm3 := by
  intro pins s σ H vs us Q I r h
  obtain ⟨a, b, c, rfl, ha, hb, hc, q⟩ := h
  cases r with
  | cons r1 r =>
    cases r with
    | cons r2 r =>
      cases r with
      | cons r3 r =>
        cases r
        obtain ⟨t, rfl⟩ := r1
        obtain ⟨u, rfl⟩ := r2
        obtain ⟨v, rfl⟩ := r3
        exact call_lcm3 ha hb hc ⟨.int _, H, I.tok _, ⟨_, rfl⟩, q⟩
section
variable {K : PySem.W.Frag} {B : Bs} {G : List Hp} {L : List Addr} {Γ : List Sl} {te : TE} {k : PyData → Prop}
theorem cok_lcm3 {a b c : Int} (ha : a.natAbs < 2 ^ 1000) (hb : b.natAbs < 2 ^ 1000) (hc : c.natAbs < 2 ^ 1000) (hk : k (.int (((a.natAbs.lcm b.natAbs).lcm c.natAbs : Nat) : Int))) : COk K B G L Γ rLcm3 [.int a, .int b, .int c] k := fun σ H Q vs E d1 q => by
  cases d1 with
  | cons h1 h2 =>
    cases h2 with
    | cons h2 h3 =>
      cases h3 with
      | cons h3 h4 =>
        cases h4
        cases h1
        cases h2
        cases h3
        exact ⟨a, b, c, rfl, ha, hb, hc, q _ _ H (Go.refl E) (.int _) hk⟩
/-- a module's constant row -/
def CT (K : PySem.W.Frag) (a : Addr) (d : PyData) : Prop := ∀ H : Hp, Dn K H (.ref a) d
theorem ev_ct {a : Addr} {d : PyData} (h : CT K a d) (hk : k d) : EvP K B G L Γ (tC (.ref a)) k := fun σ H Q E q => q _ _ H (Go.refl E) (h _) hk
end
theorem ct_pair {K : PySem.W.Frag} {a : Addr} {od : Option Addr} {n : Nat} {sl : Array (Option Value)} {i j : Int} {t u : Tok} (h : K.lookup a = some ⟨.type "tuple", od, .seq #[.int i t, .int j u] n, sl⟩) : CT K a (.tuple [.int i, .int j]) := fun H =>
  .tup (xs := [.int i, .int j]) (.inr ⟨_, _, _, h, rfl, rfl, by show 2 ≤ sizeLine; decide, .cons ⟨t, rfl⟩ (.cons ⟨u, rfl⟩ .nil)⟩) (.cons (.int i) (.cons (.int j) .nil))
end DL
/-! Comprehensions whose turns are pairs: [.. for x, y in rows]. -/
namespace DL
open PySem PySem.Spec PyProof.Rows L2
section
variable {K : PySem.W.Frag} {B : Bs} {G : List Hp} {L : List Addr} {Γ : List Sl} {H H' : Hp} {σ : L2.St} {tl te : TE} {tt : TT}
abbrev gTwo (K : PySem.W.Frag) (j m : Nat) : TG := gTup K 2 (gCons (gName j) (gCons (gName m) gNil))
def CompOk2 (K : PySem.W.Frag) (B : Bs) (G : List Hp) (L : List Addr) (Γ : List Sl) (j m : Nat) (tt : TT) (te : TE) (vs : List Nat) (n : Nat) (item : Nat → PyData → PyData → Prop) (J : Nat → List PyData → Prop) : Prop :=
  J 0 [] ∧ ∀ i D x y acc, item i x y → J i acc → i < n → EvT K B G (D :: L) (((wipeG Γ vs).set j (.d x)).set m (.d y)) tt fun b =>
    (b = true → EvP K B G (D :: L) (((wipeG Γ vs).set j (.d x)).set m (.d y)) te fun z => J (i + 1) (acc ++ [z])) ∧ (b = false → J (i + 1) acc)
theorem comp_turn2 {j m n : Nat} {vs : List Nat} {item : Nat → PyData → PyData → Prop} {J : Nat → List PyData → Prop} {H1 : Hp} {D : Addr} {i : Nat} {v : V} {x y : PyData} (E1 : Env K B G L H1 σ Γ) (hD : H1 D = none) (C : CompOk2 K B G L Γ j m tt te vs n item J) (hn : n ≤ 100000)
    (hw : ∀ (σ : L2.St) x y, L2.wipe (((L2.wipe σ vs).set j (some x)).set m (some y)) vs = L2.wipe σ vs)
    (S : Sofar K B L H1 H' D i J) (hi : item i x y) (hin : i < n) (dn : Dn K (hid (L ++ B.M) H1) v (.tuple [x, y])) :
    gTwo K j m v (L2.wipe σ vs) H' fun σ2 H2 => L2.wipe σ2 vs = L2.wipe σ vs ∧ tt σ2 H2 fun b H3 => if b = true then te σ2 H3 fun z H4 => ∃ acc, H4 D = some (.lst acc) ∧ acc.length < sizeLine ∧ Sofar K B L H1 (upd H4 D (.lst (acc ++ [z]))) D (i + 1) J else Sofar K B L H1 H3 D (i + 1) J := by
  obtain ⟨rl, ws, accV, acc, hJ, hlen, hDl, dA⟩ := S
  have g0 : Go K B G L Γ H1 H' σ := Go.of_rel E1 rl ws
  have ET := Env.temp E1 g0 hD hDl
  have hk0 : Same (hid (L ++ B.M) H1) (hid (D :: L ++ B.M) H') := g0.keepL E1 hD
  cases dn with
  | @tup a xs _ e1 h2 =>
    cases h2 with
    | @cons v1 _ _ _ d1 h2 =>
      cases h2 with
      | @cons v2 _ _ _ d2 h2 =>
        cases h2
        refine ⟨a, _, rfl, Same.sqt (hid_sub _ _) (Same.sqt hk0 e1), rfl, v1, _, rfl, v2, _, rfl, rfl, hw σ v1 v2, ?_⟩
        have EW := ((ET.wipe vs).put j (d1.mono hk0)).put m (d2.mono hk0)
        refine C.2 i D x y acc hi hJ hin _ H' _ EW fun b H3 g3 ⟨c1, c2⟩ => ?_
        have D3 : H3 D = some (.lst accV) := g3.kp D (List.mem_cons_self ..) _ hDl
        cases b with
        | false =>
          refine iteF ⟨fun a o w e => g3.rl a o w (rl a o w e), g3.env.ws, accV, acc, c2 rfl, by omega, D3, dA.mono g3.sm⟩
        | true =>
          refine iteT (c1 rfl _ H3 _ g3.env fun y d H4 g4 dy hJ' => ?_)
          have D4 : H4 D = some (.lst accV) := g4.kp D (List.mem_cons_self ..) _ D3
          refine ⟨accV, D4, ?_, ?_⟩
          · rw [dA.length]
            exact Nat.lt_of_le_of_lt hlen (Nat.lt_of_lt_of_le (Nat.lt_of_lt_of_le hin hn) (by decide))
          · have hs : Same (hid (D :: (L ++ B.M)) H4) (hid (D :: (L ++ B.M)) (upd H4 D (.lst (accV ++ [y])))) := fun a o e => by
              obtain ⟨q, e⟩ := hid_some e
              rw [hid_out q, upd_ne (fun z => q (by rw [z]; exact List.mem_cons_self ..))]
              exact e
            have dW : D ∉ B.Ws := fun w => by
              obtain ⟨_, _, _, q, _⟩ := E1.ws D w
              rw [hD] at q; cases q
            refine ⟨fun a o w e => ?_, fun w hw => ?_, accV ++ [y], acc ++ [d], hJ', by rw [List.length_append]; exact Nat.succ_le_succ hlen, upd_same, ?_⟩
            · rw [upd_ne (ne_of_none e hD)]
              exact g4.rl a o w (g3.rl a o w (rl a o w e))
            · obtain ⟨n, b, c, e, q⟩ := g4.env.ws w hw
              exact ⟨n, b, c, by rw [upd_ne (fun (z : w = D) => dW (by rw [← z]; exact hw))]; exact e, q⟩
            · exact ((dA.mono g3.sm).mono g4.sm |>.append (.cons dy .nil)).mono hs
theorem en_lcT2 {j m : Nat} {vs : List Nat} {kl : List PyData → Prop} (hw : ∀ (σ : L2.St) x y, L2.wipe (((L2.wipe σ vs).set j (some x)).set m (some y)) vs = L2.wipe σ vs)
    (h : EvP K B G L Γ tl fun d => ∃ ds : List (PyData × PyData), d = .tuple (ds.map fun p => .tuple [p.1, p.2]) ∧ ds.length ≤ 100000 ∧ ∃ J, CompOk2 K B G L Γ j m tt te vs ds.length (fun i x y => ds[i]? = some (x, y)) J ∧ ∀ acc, J ds.length acc → kl acc) :
    EvN K B G L Γ (tLc (iTup K tl) (gTwo K j m) tt te vs) kl := fun σ H Q E q =>
  h σ H _ E fun v d H1 g1 dn ⟨ds, e, hl, J, C, hk⟩ => by
    subst e
    cases dn with
    | @tup a xs _ e1 h2 =>
      refine ⟨a, rfl, ⟨xs, Same.sqt (hid_sub _ _) e1⟩, fun D hD => lc_tup (xs := xs) (fun i H' => Sofar K B L H1 H' D i J)
        ⟨fun a o w e => same_upd hD a o e, fun w hw => ?_, [], [], C.1, Nat.le_refl _, upd_same, .nil⟩ (fun i H' _ S => ?_) (fun i x H' hi S => ?_) (fun H' S => ?_)⟩
      · obtain ⟨n, b, c, e, q⟩ := g1.env.ws w hw
        exact ⟨n, b, c, same_upd hD _ _ e, q⟩
      · have g0 : Go K B G L Γ H1 H' σ := Go.of_rel g1.env S.rl S.ws
        exact Same.sqt (hid_sub _ _) (Same.sqt g0.sm e1)
      · obtain ⟨d', e', dn'⟩ := h2.getV hi
        rw [List.getElem?_map] at e'
        cases e2 : ds[i]? with
        | none => rw [e2] at e'; cases e'
        | some p =>
          rw [e2] at e'
          cases e'
          exact comp_turn2 g1.env hD C hl hw S e2 (List.getElem?_eq_some_iff.mp e2).1 dn'
      · have g0 : Go K B G L Γ H1 H' σ := Go.of_rel g1.env S.rl S.ws
        obtain ⟨accV, acc, hJ, _, e, dA⟩ := S.it
        rw [h2.length, List.length_map] at hJ
        exact q D accV acc H' (g1.trans g0) (Go.fresh E g1 hD) e dA (hk acc hJ)
theorem en_lcL2 {j m : Nat} {vs : List Nat} {kl : List PyData → Prop} (hw : ∀ (σ : L2.St) x y, L2.wipe (((L2.wipe σ vs).set j (some x)).set m (some y)) vs = L2.wipe σ vs)
    (h : EvP K B G L Γ tl fun d => ∃ ds : List (PyData × PyData), d = .list (ds.map fun p => .tuple [p.1, p.2]) ∧ ds.length ≤ 100000 ∧ ∃ J, CompOk2 K B G L Γ j m tt te vs ds.length (fun i x y => ds[i]? = some (x, y)) J ∧ ∀ acc, J ds.length acc → kl acc) :
    EvN K B G L Γ (tLc (iList K tl) (gTwo K j m) tt te vs) kl := fun σ H Q E q =>
  h σ H _ E fun v d H1 g1 dn ⟨ds, e, hl, J, C, hk⟩ => by
    subst e
    cases dn with
    | @lst a xs _ e1 h2 =>
      refine ⟨a, rfl, ⟨xs, .inl (.inl (hid_sub _ _ _ _ e1))⟩, fun D hD => lc_list (xs := xs) (fun i H' => Sofar K B L H1 H' D i J)
        ⟨fun a o w e => same_upd hD a o e, fun w hw => ?_, [], [], C.1, Nat.le_refl _, upd_same, .nil⟩ (fun i H' _ S => ?_) (fun i x H' hi S => ?_) (fun H' S => ?_)⟩
      · obtain ⟨n, b, c, e, q⟩ := g1.env.ws w hw
        exact ⟨n, b, c, same_upd hD _ _ e, q⟩
      · have g0 : Go K B G L Γ H1 H' σ := Go.of_rel g1.env S.rl S.ws
        exact .inl (.inl (hid_sub _ _ _ _ (g0.sm _ _ e1)))
      · obtain ⟨d', e', dn'⟩ := h2.getV hi
        rw [List.getElem?_map] at e'
        cases e2 : ds[i]? with
        | none => rw [e2] at e'; cases e'
        | some p =>
          rw [e2] at e'
          cases e'
          exact comp_turn2 g1.env hD C hl hw S e2 (List.getElem?_eq_some_iff.mp e2).1 dn'
      · have g0 : Go K B G L Γ H1 H' σ := Go.of_rel g1.env S.rl S.ws
        obtain ⟨accV, acc, hJ, _, e, dA⟩ := S.it
        rw [h2.length, List.length_map] at hJ
        exact q D accV acc H' (g1.trans g0) (Go.fresh E g1 hD) e dA (hk acc hJ)
theorem wipe2 (i j : Nat) : ∀ (σ : L2.St) (x y : V), L2.wipe (((L2.wipe σ [i, j]).set i (some x)).set j (some y)) [i, j] = L2.wipe σ [i, j] := fun σ x y => by
  show (((((σ.set j none).set i none).set i (some x)).set j (some y)).set j none).set i none = (σ.set j none).set i none
  by_cases e : i = j
  · subst e
    simp only [List.set_set]
  · rw [List.set_set, List.set_set, List.set_comm _ _ (Ne.symm e), List.set_set, List.set_comm _ _ e, List.set_set]
end
end DL
/-! Truth values compared. -/
namespace DL
open PySem PySem.Spec PyProof.Rows L2
section
variable {K : PySem.W.Frag} {B : Bs} {G : List Hp} {L : List Addr} {Γ : List Sl} {H H' H2 : Hp} {σ : L2.St}
variable {te ta tb tc : TE} {tt tu : TT} {tr : TA} {k : PyData → Prop} {x y : PyData}
theorem rok_neB {i j : Bool} (hk : k (.bool (!decide (i = j)))) : ROk K B G L Γ rNe (.bool i) (.bool j) k := fun σ H Q v u E d1 d2 q => by
  rw [dn_bool d1, dn_bool d2]
  refine ⟨rfl, ?_⟩
  have e : decide ((V.bl i) = V.bl j) = decide (i = j) := by
    by_cases h : i = j
    · subst h; simp
    · rw [decide_eq_false h, decide_eq_false (fun z => h (V.bl.inj z))]
  rw [e]
  exact q _ _ H (Go.refl E) (.bl _) hk
theorem rok_eqB {i j : Bool} (hk : k (.bool (decide (i = j)))) : ROk K B G L Γ rEq (.bool i) (.bool j) k := fun σ H Q v u E d1 d2 q => by
  rw [dn_bool d1, dn_bool d2]
  refine ⟨rfl, ?_⟩
  have e : decide ((V.bl i) = V.bl j) = decide (i = j) := by
    by_cases h : i = j
    · subst h; simp
    · rw [decide_eq_false h, decide_eq_false (fun z => h (V.bl.inj z))]
  rw [e]
  exact q _ _ H (Go.refl E) (.bl _) hk
end
end DL
/-! Fractions, rows, the run of a line: what they are, apart from any program. -/
namespace Mx
open PySem

abbrev Fr := Int × Int
def frD (x : Fr) : PyData := .tuple [.int x.1, .int x.2]
def FOk (x : Fr) : Prop := 0 < x.2 ∧ Nat.gcd x.1.natAbs x.2.natAbs = 1
def val (x : Fr) : Rat := (x.1 : Rat) / (x.2 : Rat)

theorem ratInt_ne {a : Int} (h : a ≠ 0) : (a : Rat) ≠ 0 := fun z => h (Rat.intCast_inj.mp (z.trans (by rfl)))
theorem ratInt_pos {a : Int} (h : 0 < a) : (0 : Rat) < (a : Rat) := by
  have := Rat.intCast_lt_intCast.mpr h
  exact this
theorem val_eq {x : Fr} {n d : Int} (hx : 0 < x.2) (hd : 0 < d) : val x = (n : Rat) / (d : Rat) ↔ x.1 * d = n * x.2 := by
  have h1 : (x.2 : Rat) ≠ 0 := ratInt_ne (by omega)
  have h2 : (d : Rat) ≠ 0 := ratInt_ne (by omega)
  constructor
  · intro h
    have h3 : (x.1 : Rat) * d = n * x.2 := by
      unfold val at h
      grind
    have h4 : ((x.1 * d : Int) : Rat) = ((n * x.2 : Int) : Rat) := by
      rw [Rat.intCast_mul, Rat.intCast_mul]
      exact h3
    exact Rat.intCast_inj.mp h4
  · intro h
    have h4 : ((x.1 * d : Int) : Rat) = ((n * x.2 : Int) : Rat) := by rw [h]
    rw [Rat.intCast_mul, Rat.intCast_mul] at h4
    unfold val
    grind
/-- a reduced fraction that is u / S is no longer than these -/
theorem FOk.small {x : Fr} {u S : Int} (h : FOk x) (hS : 0 < S) (e : val x * (S : Rat) = (u : Rat)) : x.1.natAbs ≤ u.natAbs ∧ x.2.natAbs ≤ S.natAbs ∧ ∃ c : Int, 0 < c ∧ S = x.2 * c ∧ u = x.1 * c := by
  obtain ⟨h1, h2⟩ := h
  have hs : (S : Rat) ≠ 0 := ratInt_ne (by omega)
  have e2 : val x = (u : Rat) / (S : Rat) := by grind
  have e3 := (val_eq h1 hS).mp e2
  have d1 : x.2.natAbs ∣ S.natAbs := by
    have : x.2 ∣ x.1 * S := ⟨u, by rw [e3]; exact Int.mul_comm _ _⟩
    have h3 : x.2.natAbs ∣ x.1.natAbs * S.natAbs := by
      rw [← Int.natAbs_mul]
      exact Int.natAbs_dvd_natAbs.mpr this
    exact (Nat.Coprime.dvd_of_dvd_mul_left (show Nat.Coprime x.2.natAbs x.1.natAbs by
      unfold Nat.Coprime
      rw [Nat.gcd_comm]
      exact h2) h3)
  obtain ⟨c, hc⟩ := Int.natAbs_dvd_natAbs.mp d1
  have hc0 : 0 < c := by
    rcases Int.lt_trichotomy c 0 with q | q | q
    · have := Int.mul_neg_of_pos_of_neg h1 q
      omega
    · rw [q] at hc
      omega
    · exact q
  have e4 : u = x.1 * c := by
    rw [hc] at e3
    have : x.2 * (x.1 * c) = x.2 * u := by rw [Int.mul_comm x.2 u, ← e3]; grind
    exact (Int.eq_of_mul_eq_mul_left (by omega) this).symm
  refine ⟨?_, ?_, c, hc0, hc, e4⟩
  · rw [e4, Int.natAbs_mul]
    exact Nat.le_mul_of_pos_right _ (by omega)
  · rw [hc, Int.natAbs_mul]
    exact Nat.le_mul_of_pos_right _ (by omega)
theorem FOk.inj {x y : Fr} (hx : FOk x) (hy : FOk y) (e : val x = val y) : x = y := by
  have e1 := (val_eq (n := y.1) hx.1 hy.1).mp (by rw [e]; rfl)
  obtain ⟨_, h2, c, hc, e3, e4⟩ := hx.small (u := y.1) hy.1 (by
    rw [e]
    have := ratInt_ne (a := y.2) (by have := hy.1; omega)
    unfold val
    grind)
  obtain ⟨_, h5, _⟩ := hy.small (u := x.1) hx.1 (by
    rw [← e]
    have := ratInt_ne (a := x.2) (by have := hx.1; omega)
    unfold val
    grind)
  have h1 := hx.1
  have h3 := hy.1
  have : x.2 = y.2 := by omega
  rw [this] at e1
  have : x.1 = y.1 := Int.eq_of_mul_eq_mul_right (by omega) e1
  exact Prod.ext this (by assumption)

/-! ### rows of whole numbers -/
def gcdL : List Int → Nat
  | [] => 0
  | x :: xs => Nat.gcd x.natAbs (gcdL xs)
def prim (u : List Int) : List Int := u.map fun x => x / (gcdL u : Int)
theorem gcdL_dvd : ∀ {u : List Int} {x : Int}, x ∈ u → ((gcdL u : Nat) : Int) ∣ x
  | y :: ys, x, h => by
    rcases List.mem_cons.mp h with rfl | h
    · exact Int.ofNat_dvd_left.mpr (Nat.gcd_dvd_left _ _)
    · exact Int.dvd_trans (Int.ofNat_dvd.mpr (Nat.gcd_dvd_right _ _)) (gcdL_dvd h)
theorem gcdL_pos {u : List Int} (h : ∃ x ∈ u, x ≠ 0) : 0 < gcdL u := by
  obtain ⟨x, hx, hn⟩ := h
  rcases Nat.eq_zero_or_pos (gcdL u) with z | z
  · have := gcdL_dvd hx
    rw [z] at this
    exact absurd (Int.zero_dvd.mp this) hn
  · exact z
theorem gcdL_mul (a : Nat) : ∀ u : List Int, gcdL (u.map fun x => (a : Int) * x) = a * gcdL u
  | [] => by simp [gcdL]
  | x :: xs => by
    simp only [List.map_cons, gcdL]
    rw [gcdL_mul a xs, Int.natAbs_mul, Int.natAbs_natCast, Nat.gcd_mul_left]
theorem prim_mul {a : Nat} (h : 0 < a) (u : List Int) : prim (u.map fun x => (a : Int) * x) = prim u := by
  unfold prim
  rw [gcdL_mul, List.map_map]
  apply List.map_congr_left
  intro x _
  simp only [Function.comp]
  rw [Int.natCast_mul, Int.mul_ediv_mul_of_pos _ _ (by omega)]
/-- rows that are one another times numbers above 0 -/
theorem prim_eq {u v : List Int} {a b : Int} (ha : 0 < a) (hb : 0 < b) (hl : u.length = v.length) (h : ∀ k : Nat, a * u.getD k 0 = b * v.getD k 0) : prim u = prim v := by
  obtain ⟨m, rfl⟩ := Int.eq_ofNat_of_zero_le (Int.le_of_lt ha)
  obtain ⟨n, rfl⟩ := Int.eq_ofNat_of_zero_le (Int.le_of_lt hb)
  rw [← prim_mul (a := m) (by omega) u, ← prim_mul (a := n) (by omega) v]
  congr 1
  apply List.ext_getElem
  · simp [hl]
  · intro k h1 h2
    have h1' : k < u.length := by simpa using h1
    have h2' : k < v.length := by simpa using h2
    have := h k
    simp only [List.getElem_map]
    rw [List.getD_eq_getElem?_getD, List.getD_eq_getElem?_getD, List.getElem?_eq_getElem h1', List.getElem?_eq_getElem h2'] at this
    simpa using this
theorem prim_len (u : List Int) : (prim u).length = u.length := by simp [prim]
theorem prim_get (u : List Int) (k : Nat) : (prim u).getD k 0 = u.getD k 0 / (gcdL u : Int) := by
  unfold prim
  by_cases h : k < u.length
  · simp [List.getD_eq_getElem?_getD, h]
  · simp [List.getD_eq_getElem?_getD, h]
theorem mem_getD {u : List Int} {k : Nat} (h : u.getD k 0 ≠ 0) : u.getD k 0 ∈ u := by
  by_cases q : k < u.length
  · rw [List.getD_eq_getElem?_getD, List.getElem?_eq_getElem q]
    simp
  · exfalso
    apply h
    rw [List.getD_eq_getElem?_getD, List.getElem?_eq_none (by omega)]
    rfl
/-- signs stay -/
theorem prim_sign (u : List Int) (k : Nat) : (0 < (prim u).getD k 0 ↔ 0 < u.getD k 0) ∧ ((prim u).getD k 0 < 0 ↔ u.getD k 0 < 0) := by
  rw [prim_get]
  by_cases h : u.getD k 0 = 0
  · rw [h]
    simp
  · have hm := mem_getD h
    have hp := gcdL_pos ⟨_, hm, h⟩
    obtain ⟨c, hc⟩ := gcdL_dvd hm
    generalize u.getD k 0 = x at *
    subst hc
    rw [Int.mul_ediv_cancel_left _ (by omega)]
    refine ⟨⟨fun h => Int.mul_pos (by omega) h, fun h => ?_⟩, ⟨fun h => Int.mul_neg_of_pos_of_neg (by omega) h, fun h => ?_⟩⟩
    · exact Int.pos_of_mul_pos_right h (by omega)
    · exact Int.neg_of_mul_neg_right h (by omega)
theorem prim_abs (u : List Int) (k : Nat) : ((prim u).getD k 0).natAbs ≤ (u.getD k 0).natAbs := by
  rw [prim_get]
  by_cases h : u.getD k 0 = 0
  · rw [h]; simp
  · have hm := mem_getD h
    have hp := gcdL_pos ⟨_, hm, h⟩
    rw [Int.natAbs_ediv_of_dvd (gcdL_dvd hm)]
    exact Nat.div_le_self _ _

/-! ### trimming -/
def trim (u : List Int) : List Int := (u.reverse.dropWhile (· == 0)).reverse
theorem trim_id {u : List Int} (h : u.getLast? ≠ some 0) : trim u = u := by
  unfold trim
  cases e : u.reverse with
  | nil => simp [List.reverse_eq_nil_iff.mp e]
  | cons x xs =>
    have : u = (x :: xs).reverse := by rw [← e, List.reverse_reverse]
    have hx : x ≠ 0 := by
      intro z
      apply h
      rw [this, z]
      simp
    rw [List.dropWhile_cons]
    rw [if_neg (by simpa using hx)]
    exact this.symm

/-! ### the run -/
def sh (t : Nat → Rat) : Nat → Rat
  | 0 => 0
  | k + 1 => t k
/-- the torque behind shaft i and the angle of disc i, by powers of the pace -/
def run (J K : Nat → Rat) : Nat → (Nat → Rat) × (Nat → Rat)
  | 0 => (fun k => if k = 0 then K 0 else 0, fun k => if k = 0 then 1 else 0)
  | i + 1 => (fun k => (run J K i).1 k - J i * sh (run J K i).2 k, fun k => (run J K i).2 k + ((run J K i).1 k - J i * sh (run J K i).2 k) / K (i + 1))
def tq (J K : Nat → Rat) (i : Nat) : Nat → Rat := (run J K i).1
def tn (J K : Nat → Rat) (i : Nat) : Nat → Rat := (run J K i).2
theorem tq_succ (J K : Nat → Rat) (i k : Nat) : tq J K (i + 1) k = tq J K i k - J i * sh (tn J K i) k := rfl
theorem tn_succ (J K : Nat → Rat) (i k : Nat) : tn J K (i + 1) k = tn J K i k + tq J K (i + 1) k / K (i + 1) := rfl
/-- the end of a line of n + 1 discs -/
def en (J K : Nat → Rat) (n : Nat) : Nat → Rat := fun k => tq J K (n + 1) k + K (n + 1) * tn J K n k
theorem run_scale {J K : Nat → Rat} {x : Rat} (hx : x ≠ 0) : ∀ (i k : Nat), (∀ j, 0 < j → j ≤ i → K j ≠ 0) → tq (fun i => x * J i) (fun i => x * K i) i k = x * tq J K i k ∧ tn (fun i => x * J i) (fun i => x * K i) i k = tn J K i k
  | 0, k, _ => by
    unfold tq tn run
    constructor
    · by_cases h : k = 0
      · simp [h]
      · simp [h]
    · rfl
  | i + 1, k, hK => by
    have ih := fun k => run_scale (J := J) hx i k fun j h1 h2 => hK j h1 (by omega)
    have hs : sh (tn (fun i => x * J i) (fun i => x * K i) i) k = sh (tn J K i) k := by
      cases k with
      | zero => rfl
      | succ k => exact (ih k).2
    have hk := hK (i + 1) (by omega) (by omega)
    rw [tn_succ, tn_succ, tq_succ, tq_succ, hs, (ih k).1, (ih k).2]
    constructor
    · grind
    · grind
theorem en_scale {J K : Nat → Rat} {x : Rat} (hx : x ≠ 0) (n k : Nat) (hK : ∀ j, 0 < j → j ≤ n → K j ≠ 0) : en (fun i => x * J i) (fun i => x * K i) n k = x * en J K n k := by
  have a := fun k => run_scale (J := J) hx n k hK
  have hs : sh (tn (fun i => x * J i) (fun i => x * K i) n) k = sh (tn J K n) k := by
    cases k with
    | zero => rfl
    | succ k => exact (a k).2
  unfold en
  rw [tq_succ, tq_succ, hs, (a k).1, (a k).2]
  grind

/-- what is beyond the degree, the lead, and what stands at 0 -/
def alt (i : Nat) : Rat := if i % 2 = 0 then 1 else -1
theorem alt_succ (i : Nat) : alt (i + 1) = - alt i := by
  unfold alt
  rcases Nat.mod_two_eq_zero_or_one i with h | h
  · rw [if_neg (by omega), if_pos h]
  · rw [if_pos (by omega), if_neg (by omega)]
    rfl
theorem run_shape {J K : Nat → Rat} : ∀ i : Nat, (∀ j, j < i → 0 < J j) → (∀ j, 0 < j → j ≤ i → 0 < K j) →
    (∀ k, i < k → tq J K i k = 0 ∧ tn J K i k = 0) ∧ 0 < alt i * tn J K i i ∧ tq J K i 0 = K 0 ∧ (0 ≤ K 0 → 0 < tn J K i 0)
  | 0, _, _ => by
    refine ⟨fun k hk => ?_, ?_, rfl, fun _ => ?_⟩
    · unfold tq tn run
      simp [show ¬ k = 0 by omega]
    · show (0 : Rat) < 1 * 1
      decide +kernel
    · show (0 : Rat) < 1
      decide +kernel
  | i + 1, hJ, hK => by
    obtain ⟨h1, h2, h3, h4⟩ := run_shape i (fun j h => hJ j (by omega)) (fun j a b => hK j a (by omega))
    have hk := hK (i + 1) (by omega) (by omega)
    have hj := hJ i (by omega)
    have t1 : tq J K (i + 1) (i + 1) = - (J i * tn J K i i) := by
      rw [tq_succ, (h1 (i + 1) (by omega)).1]
      show 0 - J i * tn J K i i = _
      grind
    refine ⟨fun k h => ?_, ?_, ?_, fun h0 => ?_⟩
    · have a : tq J K (i + 1) k = 0 := by
        rw [tq_succ, (h1 k (by omega)).1]
        match k, h with
        | k + 1, h =>
          show 0 - J i * tn J K i k = 0
          rw [(h1 k (by omega)).2]
          grind
      refine ⟨a, ?_⟩
      rw [tn_succ, a, (h1 k (by omega)).2]
      grind
    · rw [tn_succ, t1, (h1 (i + 1) (by omega)).2, alt_succ]
      have : -alt i * (0 + -(J i * tn J K i i) / K (i + 1)) = J i * (alt i * tn J K i i) / K (i + 1) := by grind
      rw [this, Rat.div_def]
      exact Rat.mul_pos (Rat.mul_pos hj h2) (Rat.inv_pos.mpr hk)
    · rw [tq_succ, h3]
      show K 0 - J i * 0 = K 0
      grind
    · rw [tn_succ, tq_succ, h3]
      show 0 < tn J K i 0 + (K 0 - J i * 0) / K (i + 1)
      have h5 := h4 h0
      have h6 : 0 ≤ K 0 / K (i + 1) := by
        rw [Rat.div_def]
        exact Rat.mul_nonneg h0 (Rat.le_of_lt (Rat.inv_pos.mpr hk))
      grind
theorem tq_lead {J K : Nat → Rat} (i : Nat) (hJ : ∀ j, j < i + 1 → 0 < J j) (hK : ∀ j, 0 < j → j ≤ i → 0 < K j) : (∀ k, i + 1 < k → tq J K (i + 1) k = 0) ∧ 0 < alt (i + 1) * tq J K (i + 1) (i + 1) ∧ tq J K (i + 1) 0 = K 0 := by
  obtain ⟨h1, h2, h3, h4⟩ := run_shape i (fun j h => hJ j (by omega)) hK
  have hj := hJ i (by omega)
  refine ⟨fun k h => ?_, ?_, ?_⟩
  · rw [tq_succ, (h1 k (by omega)).1]
    match k, h with
    | k + 1, h =>
      show 0 - J i * tn J K i k = 0
      rw [(h1 k (by omega)).2]
      grind
  · rw [tq_succ, (h1 (i + 1) (by omega)).1, alt_succ]
    show 0 < -alt i * (0 - J i * tn J K i i)
    have : -alt i * (0 - J i * tn J K i i) = J i * (alt i * tn J K i i) := by grind
    rw [this]
    exact Rat.mul_pos hj h2
  · rw [tq_succ, h3]
    show K 0 - J i * 0 = K 0
    grind
theorem en_shape {J K : Nat → Rat} (n : Nat) (hJ : ∀ j, j < n + 1 → 0 < J j) (hK : ∀ j, 0 < j → j ≤ n → 0 < K j) (h0 : 0 ≤ K 0) (hn : 0 ≤ K (n + 1)) :
    (∀ k, n + 1 < k → en J K n k = 0) ∧ 0 < alt (n + 1) * en J K n (n + 1) ∧ (K 0 = 0 → K (n + 1) = 0 → en J K n 0 = 0) ∧ (0 < K 0 ∨ 0 < K (n + 1) → 0 < en J K n 0) := by
  obtain ⟨h1, h2, h3, h4⟩ := run_shape n (fun j h => hJ j (by omega)) hK
  obtain ⟨g1, g2, g3⟩ := tq_lead n hJ hK
  unfold en
  refine ⟨fun k h => ?_, ?_, fun a b => ?_, fun h => ?_⟩
  · rw [g1 k h, (h1 k (by omega)).2]
    grind
  · rw [(h1 (n + 1) (by omega)).2]
    have : alt (n + 1) * (tq J K (n + 1) (n + 1) + K (n + 1) * 0) = alt (n + 1) * tq J K (n + 1) (n + 1) := by grind
    rw [this]
    exact g2
  · rw [g3, a, b]
    grind
  · rw [g3]
    have h5 := h4 h0
    have h6 := Rat.mul_nonneg hn (Rat.le_of_lt h5)
    rcases h with h | h
    · grind
    · have := Rat.mul_pos h h5
      grind
end Mx
namespace Mx
open PySem

/-! ### rows that are a number times a polynomial -/
structure Rel (S : Int) (u : List Int) (f : Nat → Rat) : Prop where
  pos : 0 < S
  at_ : ∀ k, ((u.getD k 0 : Int) : Rat) = (S : Rat) * f k
def comb (a : Int) (u : List Int) (b : Int) (v : List Int) : List Int := (List.range (max u.length v.length)).map fun k => a * u.getD k 0 + b * v.getD k 0
theorem comb_len (a : Int) (u : List Int) (b : Int) (v : List Int) : (comb a u b v).length = max u.length v.length := by simp [comb]
theorem getD_out {u : List Int} {k : Nat} (h : u.length ≤ k) : u.getD k 0 = 0 := by
  rw [List.getD_eq_getElem?_getD, List.getElem?_eq_none h]
  rfl
theorem comb_get (a : Int) (u : List Int) (b : Int) (v : List Int) (k : Nat) : (comb a u b v).getD k 0 = a * u.getD k 0 + b * v.getD k 0 := by
  by_cases h : k < max u.length v.length
  · rw [List.getD_eq_getElem?_getD, List.getElem?_eq_getElem (by rw [comb_len]; exact h)]
    simp [comb]
  · rw [getD_out (by rw [comb_len]; omega), getD_out (u := u) (by omega), getD_out (u := v) (by omega)]
    omega
theorem last_ne {u : List Int} {n : Nat} (hl : u.length = n + 1) (h : u.getD n 0 ≠ 0) : u.getLast? ≠ some 0 := by
  rw [List.getLast?_eq_getElem?, hl]
  intro z
  apply h
  rw [List.getD_eq_getElem?_getD]
  rw [show n + 1 - 1 = n by omega] at z
  rw [z]
  rfl
theorem Rel.ne {S : Int} {u : List Int} {f : Nat → Rat} (r : Rel S u f) {k : Nat} (h : f k ≠ 0) : u.getD k 0 ≠ 0 := by
  intro z
  have := r.at_ k
  rw [z] at this
  have hs := ratInt_ne (a := S) (by have := r.pos; omega)
  have h0 : ((0 : Int) : Rat) = 0 := rfl
  rw [h0] at this
  grind
theorem alt_ne (i : Nat) : alt i ≠ 0 := by
  unfold alt
  split <;> decide +kernel
theorem ne_of_alt {i : Nat} {x : Rat} (h : 0 < alt i * x) : x ≠ 0 := by
  intro z
  rw [z] at h
  have : alt i * 0 = 0 := by grind
  rw [this] at h
  exact absurd h (by decide +kernel)

/-! ### a step of the run in whole numbers -/
structure LN (ds ss : List Fr) : Prop where
  c1 : 1 ≤ ds.length
  c8 : ds.length ≤ 8
  len : ss.length = ds.length + 1
  dok : ∀ x ∈ ds, FOk x ∧ 0 < x.1 ∧ x.1 < 18446744073709551616 ∧ x.2 < 18446744073709551616
  sok : ∀ x ∈ ss, FOk x ∧ 0 ≤ x.1 ∧ x.1 < 18446744073709551616 ∧ x.2 < 18446744073709551616
  inn : ∀ i x, 0 < i → i < ds.length → ss[i]? = some x → 0 < x.1
def jv (ds : List Fr) (i : Nat) : Rat := val (ds.getD i (0, 1))
theorem val_pos {x : Fr} (h2 : 0 < x.2) : (0 < val x ↔ 0 < x.1) ∧ (0 ≤ val x ↔ 0 ≤ x.1) ∧ (val x = 0 ↔ x.1 = 0) := by
  have h := ratInt_pos h2
  have hi := Rat.inv_pos.mpr h
  have e : val x = (x.1 : Rat) * (x.2 : Rat)⁻¹ := Rat.div_def _ _
  have e0 : val x = 0 ↔ x.1 = 0 := by
    constructor
    · intro z
      have : (x.1 : Rat) = 0 := by
        have hn := ratInt_ne (a := x.2) (by omega)
        unfold val at z
        grind
      exact Rat.intCast_inj.mp (this.trans rfl)
    · intro z
      rw [e, z]
      show (0 : Rat) * _ = 0
      grind
  have p1 : 0 < x.1 → 0 < val x := fun q => by
    rw [e]
    exact Rat.mul_pos (ratInt_pos q) hi
  have n1 : x.1 < 0 → val x < 0 := fun q => by
    have q2 : 0 < (-x.1 : Int) := by omega
    have q3 := Rat.mul_pos (ratInt_pos q2) hi
    rw [e]
    rw [Rat.intCast_neg] at q3
    grind
  refine ⟨⟨fun q => ?_, p1⟩, ⟨fun q => ?_, fun q => ?_⟩, e0⟩
  · rcases Int.lt_trichotomy x.1 0 with z | z | z
    · have := n1 z
      grind
    · rw [e0.mpr z] at q
      exact absurd q (by decide +kernel)
    · exact z
  · rcases Int.lt_trichotomy x.1 0 with z | z | z
    · have := n1 z
      grind
    · omega
    · omega
  · rcases Int.lt_trichotomy x.1 0 with z | z | z
    · omega
    · rw [e0.mpr z]
      decide +kernel
    · exact Rat.le_of_lt (p1 z)
section
variable {ds ss : List Fr} (h : LN ds ss)
include h
theorem LN.d_get {i : Nat} (hi : i < ds.length) : ∃ x, ds[i]? = some x ∧ ds.getD i (0, 1) = x ∧ FOk x ∧ 0 < x.1 ∧ x.1 < 18446744073709551616 ∧ x.2 < 18446744073709551616 := by
  refine ⟨ds[i], List.getElem?_eq_getElem hi, ?_, h.dok _ (List.getElem_mem hi)⟩
  rw [List.getD_eq_getElem?_getD, List.getElem?_eq_getElem hi]
  rfl
theorem LN.s_get {i : Nat} (hi : i < ss.length) : ∃ x, ss[i]? = some x ∧ ss.getD i (0, 1) = x ∧ FOk x ∧ 0 ≤ x.1 ∧ x.1 < 18446744073709551616 ∧ x.2 < 18446744073709551616 ∧ (0 < i → i < ds.length → 0 < x.1) := by
  obtain ⟨a, b, c, d⟩ := h.sok _ (List.getElem_mem hi)
  refine ⟨ss[i], List.getElem?_eq_getElem hi, ?_, a, b, c, d, fun p q => h.inn i _ p q (List.getElem?_eq_getElem hi)⟩
  rw [List.getD_eq_getElem?_getD, List.getElem?_eq_getElem hi]
  rfl
theorem LN.jpos {i : Nat} (hi : i < ds.length) : 0 < jv ds i := by
  obtain ⟨x, _, e, a, b, _⟩ := h.d_get hi
  unfold jv
  rw [e]
  exact (val_pos a.1).1.mpr b
theorem LN.kpos {i : Nat} (h0 : 0 < i) (hi : i < ds.length) : 0 < jv ss i := by
  obtain ⟨x, _, e, a, b, _, _, q⟩ := h.s_get (i := i) (by rw [h.len]; omega)
  unfold jv
  rw [e]
  exact (val_pos a.1).1.mpr (q h0 hi)
theorem LN.knn {i : Nat} (hi : i < ss.length) : 0 ≤ jv ss i := by
  obtain ⟨x, _, e, a, b, _⟩ := h.s_get hi
  unfold jv
  rw [e]
  exact (val_pos a.1).2.1.mpr b
end

abbrev bd (u : List Int) (e : Nat) : Prop := ∀ x ∈ u, x.natAbs < 2 ^ e
theorem bd.get {u : List Int} {e : Nat} (h : bd u e) (k : Nat) : (u.getD k 0).natAbs < 2 ^ e := by
  by_cases q : u.getD k 0 = 0
  · rw [q]
    exact Nat.pow_pos (by decide)
  · exact h _ (mem_getD q)
theorem bd.of_get {u : List Int} {e : Nat} (h : ∀ k, (u.getD k 0).natAbs < 2 ^ e) : bd u e := fun x hx => by
  obtain ⟨k, hk, e1⟩ := List.getElem_of_mem hx
  have := h k
  rw [List.getD_eq_getElem?_getD, List.getElem?_eq_getElem hk] at this
  rw [← e1]
  simpa using this
theorem natAbs_mul_lt {a b : Int} {m n : Nat} (ha : a.natAbs < 2 ^ m) (hb : b.natAbs < 2 ^ n) : (a * b).natAbs < 2 ^ (m + n) := by
  rw [Int.natAbs_mul, Nat.pow_add]
  rcases Nat.eq_zero_or_pos a.natAbs with z | z
  · rw [z, Nat.zero_mul]
    exact Nat.mul_pos (Nat.pow_pos (by decide)) (Nat.pow_pos (by decide))
  · exact Nat.lt_of_lt_of_le (Nat.mul_lt_mul_of_pos_left hb z) (Nat.mul_le_mul_right _ (Nat.le_of_lt ha))
theorem natAbs_add_lt {a b : Int} {m : Nat} (ha : a.natAbs < 2 ^ m) (hb : b.natAbs < 2 ^ m) : (a + b).natAbs < 2 ^ (m + 1) := by
  have := Int.natAbs_add_le a b
  rw [Nat.pow_succ]
  omega
theorem pow_up {a m n : Nat} (h : a < 2 ^ m) (hn : m ≤ n) : a < 2 ^ n := Nat.lt_of_lt_of_le h (Nat.pow_le_pow_right (by decide) hn)
theorem comb_bd {a b : Int} {u v : List Int} {m n : Nat} {e f : Nat} (ha : a.natAbs < 2 ^ m) (hb : b.natAbs < 2 ^ n) (hu : bd u e) (hv : bd v f) {g : Nat} (h1 : m + e ≤ g) (h2 : n + f ≤ g) : bd (comb a u b v) (g + 1) := by
  apply bd.of_get
  intro k
  rw [comb_get]
  exact natAbs_add_lt (pow_up (natAbs_mul_lt ha (hu.get k)) h1) (pow_up (natAbs_mul_lt hb (hv.get k)) h2)
theorem shift_get (u : List Int) (f : Nat → Rat) (S : Rat) (h : ∀ k, ((u.getD k 0 : Int) : Rat) = S * f k) (k : Nat) : ((((0 : Int) :: u).getD k 0 : Int) : Rat) = S * sh f k := by
  cases k with
  | zero =>
    show ((0 : Int) : Rat) = S * 0
    have : ((0 : Int) : Rat) = 0 := rfl
    grind
  | succ k =>
    rw [List.getD_cons_succ]
    exact h k

/-- the state ahead of disc i -/
structure Sta (ds ss : List Fr) (i : Nat) (S : Int) (turn torque : List Int) : Prop where
  tu : Rel S turn (tn (jv ds) (jv ss) i)
  to : Rel S torque (tq (jv ds) (jv ss) i)
  tl : turn.length = i + 1
  ol : torque.length ≤ i + 1
  bS : S.natAbs < 2 ^ (64 + 130 * i)
  bt : bd turn (64 + 130 * i)
  bo : bd torque (64 + 130 * i)
theorem step1 {ds ss : List Fr} {i : Nat} {S : Int} {turn torque : List Int} (h : LN ds ss) (hi : i < ds.length) (st : Sta ds ss i S turn torque) {J : Fr} (hJ : ds[i]? = some J) :
    ∃ to', trim (comb J.2 torque (-J.1) (0 :: turn)) = to' ∧ Rel (S * J.2) to' (tq (jv ds) (jv ss) (i + 1)) ∧ to'.length = i + 2 ∧ bd to' (64 + 130 * i + 65) := by
  obtain ⟨J', e1, e2, a, b, c, d⟩ := h.d_get hi
  rw [hJ] at e1
  cases e1
  have hl : (comb J.2 torque (-J.1) (0 :: turn)).length = i + 2 := by
    rw [comb_len, List.length_cons, st.tl]
    have := st.ol
    omega
  have hr : Rel (S * J.2) (comb J.2 torque (-J.1) (0 :: turn)) (tq (jv ds) (jv ss) (i + 1)) := by
    refine ⟨Int.mul_pos st.to.pos a.1, fun k => ?_⟩
    rw [comb_get, tq_succ, Rat.intCast_add, Rat.intCast_mul, Rat.intCast_mul, Rat.intCast_mul, st.to.at_ k, shift_get turn _ _ st.tu.at_ k, Rat.intCast_neg]
    have hj : jv ds i = (J.1 : Rat) / (J.2 : Rat) := by
      unfold jv
      rw [e2]
      rfl
    have hn := ratInt_ne (a := J.2) (by have := a.1; omega)
    rw [hj]
    grind
  have hld := (tq_lead (J := jv ds) (K := jv ss) i (fun j hj => h.jpos (by omega)) (fun j p q => h.kpos p (by omega))).2.1
  have hid : trim (comb J.2 torque (-J.1) (0 :: turn)) = comb J.2 torque (-J.1) (0 :: turn) := trim_id (last_ne hl (hr.ne (ne_of_alt hld)))
  refine ⟨_, hid, hr, hl, ?_⟩
  have p1 : J.2.natAbs < 2 ^ 64 := by have := a.1; omega
  have p2 : (-J.1).natAbs < 2 ^ 64 := by omega
  refine comb_bd p1 p2 st.bo (f := 64 + 130 * i) (fun x hx => ?_) (by omega) (by omega)
  rcases List.mem_cons.mp hx with rfl | hx
  · exact Nat.pow_pos (by decide)
  · exact st.bt x hx
theorem step2 {ds ss : List Fr} {i : Nat} {S : Int} {turn torque to' : List Int} (h : LN ds ss) (hi : i + 1 < ds.length) (st : Sta ds ss i S turn torque) {J C : Fr} (hJ : ds[i]? = some J) (hC : ss[i + 1]? = some C)
    (hr : Rel (S * J.2) to' (tq (jv ds) (jv ss) (i + 1))) (hl : to'.length = i + 2) (hb : bd to' (64 + 130 * i + 65)) :
    Sta ds ss (i + 1) (S * (J.2 * C.1)) (trim (comb (J.2 * C.1) turn C.2 to')) (trim (comb C.1 to' 0 [])) := by
  obtain ⟨J', e1, e2, a, b, c, d⟩ := h.d_get (i := i) (by omega)
  rw [hJ] at e1
  cases e1
  obtain ⟨C', g1, g2, a', b', c', d', q'⟩ := h.s_get (i := i + 1) (by rw [h.len]; omega)
  rw [hC] at g1
  cases g1
  have hC0 := q' (by omega) hi
  have hk : jv ss (i + 1) = (C.1 : Rat) / (C.2 : Rat) := by
    unfold jv
    rw [g2]
    rfl
  have n1 := ratInt_ne (a := J.2) (by have := a.1; omega)
  have n2 := ratInt_ne (a := C.1) (by omega)
  have n3 := ratInt_ne (a := C.2) (by have := a'.1; omega)
  have hS : 0 < S * (J.2 * C.1) := Int.mul_pos st.tu.pos (Int.mul_pos a.1 hC0)
  have sh1 := run_shape (J := jv ds) (K := jv ss) (i + 1) (fun j hj => h.jpos (by omega)) (fun j p q => h.kpos p (by omega))
  have ld := (tq_lead (J := jv ds) (K := jv ss) i (fun j hj => h.jpos (by omega)) (fun j p q => h.kpos p (by omega))).2.1
  have l1 : (comb (J.2 * C.1) turn C.2 to').length = i + 2 := by
    rw [comb_len, st.tl, hl]
    omega
  have r1 : Rel (S * (J.2 * C.1)) (comb (J.2 * C.1) turn C.2 to') (tn (jv ds) (jv ss) (i + 1)) := by
    refine ⟨hS, fun k => ?_⟩
    rw [comb_get, tn_succ, Rat.intCast_add, Rat.intCast_mul, Rat.intCast_mul, Rat.intCast_mul, Rat.intCast_mul, Rat.intCast_mul, st.tu.at_ k, hr.at_ k, hk, Rat.intCast_mul]
    grind
  have l2 : (comb C.1 to' 0 []).length = i + 2 := by
    rw [comb_len, hl]
    simp
  have r2 : Rel (S * (J.2 * C.1)) (comb C.1 to' 0 []) (tq (jv ds) (jv ss) (i + 1)) := by
    refine ⟨hS, fun k => ?_⟩
    rw [comb_get, Int.zero_mul, Int.add_zero, Rat.intCast_mul, hr.at_ k, Rat.intCast_mul, Rat.intCast_mul, Rat.intCast_mul]
    grind
  rw [trim_id (last_ne l1 (r1.ne (ne_of_alt sh1.2.1))), trim_id (last_ne l2 (r2.ne (ne_of_alt ld)))]
  have p1 : J.2.natAbs < 2 ^ 64 := by have := a.1; omega
  have p2 : C.1.natAbs < 2 ^ 64 := by omega
  have p3 : C.2.natAbs < 2 ^ 64 := by have := a'.1; omega
  have p12 : (J.2 * C.1).natAbs < 2 ^ (64 + 64) := natAbs_mul_lt p1 p2
  have b1 : bd (comb (J.2 * C.1) turn C.2 to') (64 + 130 * i + 129 + 1) := comb_bd p12 p3 st.bt hb (by omega) (by omega)
  have b2 : bd (comb C.1 to' 0 []) (64 + 130 * i + 129 + 1) := comb_bd (n := 0) (f := 0) p2 (by decide) hb (fun x hx => by simp at hx) (by omega) (by omega)
  refine ⟨r1, r2, l1, by omega, ?_, ?_, ?_⟩
  · exact pow_up (natAbs_mul_lt st.bS p12) (by omega)
  · rw [show 64 + 130 * (i + 1) = 64 + 130 * i + 129 + 1 by omega]
    exact b1
  · rw [show 64 + 130 * (i + 1) = 64 + 130 * i + 129 + 1 by omega]
    exact b2
theorem stepE {ds ss : List Fr} {i : Nat} {S : Int} {turn torque to' : List Int} (h : LN ds ss) (hi : i + 1 = ds.length) (st : Sta ds ss i S turn torque) {J C : Fr} (hJ : ds[i]? = some J) (hC : ss[i + 1]? = some C)
    (hr : Rel (S * J.2) to' (tq (jv ds) (jv ss) (i + 1))) (hl : to'.length = i + 2) (hb : bd to' (64 + 130 * i + 65)) :
    Rel (S * (J.2 * C.2)) (trim (comb (J.2 * C.1) turn C.2 to')) (en (jv ds) (jv ss) i) ∧ (trim (comb (J.2 * C.1) turn C.2 to')).length = i + 2 ∧ bd (trim (comb (J.2 * C.1) turn C.2 to')) (64 + 130 * (i + 1)) := by
  obtain ⟨J', e1, e2, a, b, c, d⟩ := h.d_get (i := i) (by omega)
  rw [hJ] at e1
  cases e1
  obtain ⟨C', g1, g2, a', b', c', d', q'⟩ := h.s_get (i := i + 1) (by rw [h.len]; omega)
  rw [hC] at g1
  cases g1
  have hk : jv ss (i + 1) = (C.1 : Rat) / (C.2 : Rat) := by
    unfold jv
    rw [g2]
    rfl
  have n1 := ratInt_ne (a := J.2) (by have := a.1; omega)
  have n3 := ratInt_ne (a := C.2) (by have := a'.1; omega)
  have hS : 0 < S * (J.2 * C.2) := Int.mul_pos st.tu.pos (Int.mul_pos a.1 a'.1)
  have shp := en_shape (J := jv ds) (K := jv ss) i (fun j hj => h.jpos (by omega)) (fun j p q => h.kpos p (by omega)) (h.knn (by rw [h.len]; omega)) (h.knn (by rw [h.len]; omega))
  have l1 : (comb (J.2 * C.1) turn C.2 to').length = i + 2 := by
    rw [comb_len, st.tl, hl]
    omega
  have r1 : Rel (S * (J.2 * C.2)) (comb (J.2 * C.1) turn C.2 to') (en (jv ds) (jv ss) i) := by
    refine ⟨hS, fun k => ?_⟩
    unfold en
    rw [comb_get, Rat.intCast_add, Rat.intCast_mul, Rat.intCast_mul, Rat.intCast_mul, Rat.intCast_mul, Rat.intCast_mul, st.tu.at_ k, hr.at_ k, hk, Rat.intCast_mul]
    grind
  rw [trim_id (last_ne l1 (r1.ne (ne_of_alt shp.2.1)))]
  have p1 : J.2.natAbs < 2 ^ 64 := by have := a.1; omega
  have p2 : C.1.natAbs < 2 ^ 64 := by omega
  have p3 : C.2.natAbs < 2 ^ 64 := by have := a'.1; omega
  refine ⟨r1, l1, ?_⟩
  rw [show 64 + 130 * (i + 1) = 64 + 130 * i + 129 + 1 by omega]
  exact comb_bd (natAbs_mul_lt p1 p2) p3 st.bt hb (by omega) (by omega)
theorem sta0 {ds ss : List Fr} (h : LN ds ss) {C : Fr} (hC : ss[0]? = some C) : Sta ds ss 0 C.2 [C.2] (if C.1 = 0 then [] else [C.1]) := by
  obtain ⟨C', g1, g2, a, b, c, d, q⟩ := h.s_get (i := 0) (by rw [h.len]; omega)
  rw [hC] at g1
  cases g1
  have hk : jv ss 0 = (C.1 : Rat) / (C.2 : Rat) := by
    unfold jv
    rw [g2]
    rfl
  have n := ratInt_ne (a := C.2) (by have := a.1; omega)
  have z0 : ((0 : Int) : Rat) = 0 := rfl
  have p2 : C.1.natAbs < 2 ^ 64 := by omega
  have p3 : C.2.natAbs < 2 ^ 64 := by have := a.1; omega
  refine ⟨⟨a.1, fun k => ?_⟩, ⟨a.1, fun k => ?_⟩, rfl, by split <;> simp, p3, ?_, ?_⟩
  · cases k with
    | zero =>
      show ((C.2 : Int) : Rat) = C.2 * 1
      grind
    | succ k =>
      show ((0 : Int) : Rat) = C.2 * 0
      grind
  · cases k with
    | zero =>
      show (((if C.1 = 0 then [] else [C.1]).getD 0 0 : Int) : Rat) = C.2 * jv ss 0
      rw [hk]
      by_cases z : C.1 = 0
      · rw [if_pos z, z]
        show ((0 : Int) : Rat) = C.2 * (((0 : Int) : Rat) / C.2)
        grind
      · rw [if_neg z]
        show ((C.1 : Int) : Rat) = C.2 * ((C.1 : Rat) / C.2)
        grind
    | succ k =>
      show (((if C.1 = 0 then [] else [C.1]).getD (k + 1) 0 : Int) : Rat) = C.2 * 0
      by_cases z : C.1 = 0
      · rw [if_pos z]
        show ((0 : Int) : Rat) = _
        grind
      · rw [if_neg z]
        show ((0 : Int) : Rat) = _
        grind
  · intro x hx
    rw [List.mem_singleton.mp hx]
    exact p3
  · intro x hx
    by_cases z : C.1 = 0
    · rw [if_pos z] at hx
      simp at hx
    · rw [if_neg z] at hx
      rw [List.mem_singleton.mp hx]
      exact p2
end Mx
namespace Mx
open PySem DL L2
section
variable {K : PySem.W.Frag} {B : Bs} {G : List Hp} {L : List Addr} {Γ : List Sl} {k : PyData → Prop}
theorem ixf0 {x : Fr} (hk : k (.int x.1)) : ROk K B G L Γ (rIx K) (frD x) (.int 0) k := rok_ixsT (d := .int x.1) rfl hk
theorem ixf1 {x : Fr} (hk : k (.int x.2)) : ROk K B G L Γ (rIx K) (frD x) (.int 1) k := rok_ixsT (d := .int x.2) rfl hk
end

section
variable {K : PySem.W.Frag} {B : Bs} {G : List Hp} {L : List Addr} {Γ : List Sl} {ta tb : TE}
/-- xs * n as a new list -/
theorem en_rep {kl : List PyData → Prop} (h : EvP K B G L Γ ta fun x => EvP K B G L Γ tb fun y => ∃ (ds : List PyData) (n : Int), x = .list ds ∧ y = .int n ∧ -100000 ≤ n ∧ n ≤ 100000 ∧ ds.length * n.toNat ≤ 1000000 ∧ kl (List.replicate n.toNat ds).flatten) :
    EvN K B G L Γ (tOp (rMulA K) ta tb) kl := fun σ H Q E q =>
  h σ H _ E fun v x H1 g1 dx h2 => h2 σ H1 _ g1.env fun u y H2 g2 dy ⟨ds, n, ex, ey, h0, h1, hl, hk⟩ => by
    subst ex
    subst ey
    cases dy
    have dx2 := dx.mono g2.sm
    cases dx2 with
    | @lst a xs _ e1 h3 =>
      refine .inr (.inr (.inl ⟨a, n, xs, rfl, rfl, hid_sub _ _ _ _ e1, by omega, by omega, ?_, fun p hp => ?_⟩))
      · rw [h3.length]
        exact sz_ok hl
      · have g3 := Go.new (o := .lst (List.replicate n.toNat xs).flatten) g2.env hp
        have g12 := g1.trans g2
        exact q p _ _ _ (g12.trans g3) (Go.fresh E g12 hp) upd_same ((DnA.reps h3 n.toNat).mono (hid_keep hp (same_upd hp))) hk
theorem en_lcR {j : Nat} {vs : List Nat} {tr : TA} {tt : TT} {te : TE} {kl : List PyData → Prop} (hw : ∀ (σ : L2.St) x, L2.wipe ((L2.wipe σ vs).set j (some x)) vs = L2.wipe σ vs)
    (h : EvA K B G L Γ tr fun es => ∃ n : Int, es = [.int n] ∧ -100000 ≤ n ∧ n ≤ 100000 ∧ ∃ J, CompOk K B G L Γ j tt te vs n.toNat (fun i d' => d' = .int (i : Int)) J ∧ ∀ acc, J n.toNat acc → kl acc) :
    EvN K B G L Γ (tLc (iRng1 tr) (gName j) tt te vs) kl := fun σ H Q E q =>
  h σ H _ E fun v es H1 g1 dn ⟨n, e, h0, h1, J, C, hk⟩ => by
    subst e
    cases dn with
    | cons d1 d2 =>
      cases d2
      cases d1
      refine ⟨n, rfl, by omega, by omega, fun D hD => lc_range (lo := 0) (n := n.toNat) (fun i H' => Sofar K B L H1 H' D i J)
        ⟨fun a o w e => same_upd hD a o e, fun w hw => ?_, [], [], C.1, Nat.le_refl _, upd_same, .nil⟩ (fun i H' hi S => ?_) (fun H' S => ?_)⟩
      · obtain ⟨m, b, c, e, q⟩ := g1.env.ws w hw
        exact ⟨m, b, c, same_upd hD _ _ e, q⟩
      · have e0 : (0 : Int) + (i : Int) = (i : Int) := Int.zero_add _
        rw [e0]
        exact ⟨hw σ _, comp_turn g1.env hD C (by omega) S rfl hi (.int _)⟩
      · have g0 : Go K B G L Γ H1 H' σ := Go.of_rel g1.env S.rl S.ws
        obtain ⟨accV, acc, hJ, _, e, dA⟩ := S.it
        exact q D accV acc H' (g1.trans g0) (Go.fresh E g1 hD) e dA (hk acc hJ)
end
end Mx
/-! How many swings are slower than a pace: the changes of sign in the run at it. -/
namespace Mx
open PySem

/-! ### the row at a pace -/
/-- the angle of disc i and the torque ahead of it, at the pace p -/
def rowAt (J K : Nat → Rat) (p : Rat) : Nat → Rat × Rat
  | 0 => (1, K 0)
  | i + 1 => ((rowAt J K p i).1 + ((rowAt J K p i).2 - p * J i * (rowAt J K p i).1) / K (i + 1), (rowAt J K p i).2 - p * J i * (rowAt J K p i).1)
def xa (J K : Nat → Rat) (p : Rat) (i : Nat) : Rat := (rowAt J K p i).1
def ya (J K : Nat → Rat) (p : Rat) (i : Nat) : Rat := (rowAt J K p i).2
theorem ya_succ (J K : Nat → Rat) (p : Rat) (i : Nat) : ya J K p (i + 1) = ya J K p i - p * J i * xa J K p i := rfl
theorem xa_succ (J K : Nat → Rat) (p : Rat) (i : Nat) : xa J K p (i + 1) = xa J K p i + ya J K p (i + 1) / K (i + 1) := rfl
/-- the end of n + 1 discs -/
def ea (J K : Nat → Rat) (p : Rat) (n : Nat) : Rat := ya J K p (n + 1) + K (n + 1) * xa J K p n

/-- a polynomial's first n powers at p -/
def fev (f : Nat → Rat) (p : Rat) : Nat → Rat
  | 0 => 0
  | n + 1 => fev f p n + f n * p ^ n
theorem fev_congr {f g : Nat → Rat} {p : Rat} (h : ∀ k, f k = g k) : ∀ n, fev f p n = fev g p n
  | 0 => rfl
  | n + 1 => by
    unfold fev
    rw [fev_congr h n, h n]
theorem fev_lin {f g : Nat → Rat} {p a b : Rat} : ∀ n, fev (fun k => a * f k + b * g k) p n = a * fev f p n + b * fev g p n
  | 0 => by
    unfold fev
    grind
  | n + 1 => by
    unfold fev
    rw [fev_lin n]
    grind
theorem fev_sh {g : Nat → Rat} {p : Rat} : ∀ n, fev (sh g) p (n + 1) = p * fev g p n
  | 0 => by
    show fev (sh g) p 0 + sh g 0 * p ^ 0 = p * fev g p 0
    show 0 + 0 * p ^ 0 = p * 0
    grind
  | n + 1 => by
    show fev (sh g) p (n + 1) + sh g (n + 1) * p ^ (n + 1) = p * (fev g p n + g n * p ^ n)
    rw [fev_sh n]
    show p * fev g p n + g n * p ^ (n + 1) = _
    rw [Rat.pow_succ]
    grind
theorem fev_more {f : Nat → Rat} {p : Rat} {n : Nat} (h : ∀ k, n ≤ k → f k = 0) : ∀ m, fev f p (n + m) = fev f p n
  | 0 => rfl
  | m + 1 => by
    show fev f p (n + m) + f (n + m) * p ^ (n + m) = _
    rw [fev_more h m, h (n + m) (by omega)]
    grind
theorem fev_head {f : Nat → Rat} {p : Rat} : ∀ n, fev f p (n + 1) = f 0 + p * fev (fun k => f (k + 1)) p n
  | 0 => by
    show fev f p 0 + f 0 * p ^ 0 = f 0 + p * 0
    show 0 + f 0 * p ^ 0 = f 0 + p * 0
    rw [Rat.pow_zero]
    grind
  | n + 1 => by
    show fev f p (n + 1) + f (n + 1) * p ^ (n + 1) = f 0 + p * (fev (fun k => f (k + 1)) p n + f (n + 1) * p ^ n)
    rw [fev_head n, Rat.pow_succ]
    grind
/-- the run's polynomials at p are the row at p -/
theorem fev_run {J K : Nat → Rat} {p : Rat} : ∀ i : Nat, (∀ j, j < i → 0 < J j) → (∀ j, 0 < j → j ≤ i → 0 < K j) → fev (tn J K i) p (i + 1) = xa J K p i ∧ fev (tq J K i) p (i + 1) = ya J K p i
  | 0, _, _ => by
    constructor
    · show 0 + tn J K 0 0 * p ^ 0 = 1
      rw [Rat.pow_zero]
      show 0 + 1 * 1 = (1 : Rat)
      grind
    · show 0 + tq J K 0 0 * p ^ 0 = K 0
      rw [Rat.pow_zero]
      show 0 + K 0 * 1 = K 0
      grind
  | i + 1, hJ, hK => by
    obtain ⟨h1, h2⟩ := fev_run (p := p) i (fun j h => hJ j (by omega)) (fun j a b => hK j a (by omega))
    have sh0 := run_shape (J := J) (K := K) i (fun j h => hJ j (by omega)) (fun j a b => hK j a (by omega))
    have hk := hK (i + 1) (by omega) (by omega)
    have e1 : fev (tq J K (i + 1)) p (i + 1 + 1) = ya J K p (i + 1) := by
      have a : ∀ k, tq J K (i + 1) k = 1 * tq J K i k + (- J i) * sh (tn J K i) k := fun k => by
        rw [tq_succ]
        grind
      rw [fev_congr a, fev_lin, fev_sh, h1, fev_more (n := i + 1) (fun k hk => (sh0.1 k (by omega)).1) 1, h2, ya_succ]
      grind
    refine ⟨?_, e1⟩
    have a : ∀ k, tn J K (i + 1) k = 1 * tn J K i k + (1 / K (i + 1)) * tq J K (i + 1) k := fun k => by
      rw [tn_succ]
      grind
    rw [fev_congr a, fev_lin, e1, fev_more (n := i + 1) (fun k hk => (sh0.1 k (by omega)).2) 1, h1, xa_succ]
    grind
theorem fev_en {J K : Nat → Rat} {p : Rat} (n : Nat) (hJ : ∀ j, j < n + 1 → 0 < J j) (hK : ∀ j, 0 < j → j ≤ n → 0 < K j) : fev (en J K n) p (n + 2) = ea J K p n := by
  obtain ⟨h1, h2⟩ := fev_run (p := p) n (fun j h => hJ j (by omega)) hK
  have sh0 := run_shape (J := J) (K := K) n (fun j h => hJ j (by omega)) hK
  have e1 : fev (tq J K (n + 1)) p (n + 1 + 1) = ya J K p (n + 1) := by
    have a : ∀ k, tq J K (n + 1) k = 1 * tq J K n k + (- J n) * sh (tn J K n) k := fun k => by
      rw [tq_succ]
      grind
    rw [fev_congr a, fev_lin, fev_sh, h1, fev_more (n := n + 1) (fun k hk => (sh0.1 k (by omega)).1) 1, h2, ya_succ]
    grind
  have a : ∀ k, en J K n k = 1 * tq J K (n + 1) k + K (n + 1) * tn J K n k := fun k => by
    unfold en
    grind
  rw [fev_congr a, fev_lin, e1, fev_more (n := n + 1) (fun k hk => (sh0.1 k (by omega)).2) 1, h1]
  unfold ea
  grind

/-! ### a row of whole numbers at a fraction, scaled -/
def hor (t b : Int) : List Int → Int
  | [] => 0
  | x :: xs => hor t b xs * t + x * b ^ xs.length
theorem hor_eq {t b : Int} (hb : b ≠ 0) : ∀ (u : List Int), (b : Rat) * (hor t b u : Int) = (b : Rat) ^ u.length * fev (fun k => ((u.getD k 0 : Int) : Rat)) ((t : Rat) / (b : Rat)) u.length
  | [] => by
    show (b : Rat) * ((0 : Int) : Rat) = _ * 0
    have : ((0 : Int) : Rat) = 0 := rfl
    grind
  | x :: xs => by
    have ih := hor_eq (t := t) hb xs
    have nb := ratInt_ne hb
    rw [List.length_cons, fev_head]
    show (b : Rat) * ((hor t b xs * t + x * b ^ xs.length : Int) : Rat) = _
    rw [Rat.intCast_add, Rat.intCast_mul, Rat.intCast_mul, Rat.intCast_pow, Rat.pow_succ]
    have e : fev (fun k => (((x :: xs).getD (k + 1) 0 : Int) : Rat)) ((t : Rat) / (b : Rat)) xs.length = fev (fun k => ((xs.getD k 0 : Int) : Rat)) ((t : Rat) / (b : Rat)) xs.length := fev_congr (fun k => by rw [List.getD_cons_succ]) _
    rw [e]
    show (b : Rat) * ((hor t b xs : Int) * (t : Rat) + x * (b : Rat) ^ xs.length) = (b : Rat) ^ xs.length * b * ((x : Rat) + _)
    grind
def sgn (n : Int) : Int := if 0 < n then 1 else if n < 0 then -1 else 0
def rsgn (x : Rat) : Int := if 0 < x then 1 else if x < 0 then -1 else 0
theorem rsgn_int (n : Int) : rsgn (n : Rat) = sgn n := by
  have z0 : ((0 : Int) : Rat) = 0 := rfl
  unfold rsgn sgn
  by_cases h : 0 < n
  · rw [if_pos h, if_pos (ratInt_pos h)]
  · rw [if_neg h, if_neg (fun q => h (Rat.intCast_lt_intCast.mp (by rw [z0]; exact q)))]
    by_cases h2 : n < 0
    · rw [if_pos h2, if_pos (by have := Rat.intCast_lt_intCast.mpr h2; rw [z0] at this; exact this)]
    · rw [if_neg h2, if_neg (fun q => h2 (Rat.intCast_lt_intCast.mp (by rw [z0]; exact q)))]
theorem rsgn_mul {a x : Rat} (h : 0 < a) : rsgn (a * x) = rsgn x := by
  unfold rsgn
  have ai := Rat.inv_pos.mpr h
  have e : a⁻¹ * (a * x) = x := by grind
  by_cases h1 : 0 < x
  · rw [if_pos h1, if_pos (Rat.mul_pos h h1)]
  · rw [if_neg h1, if_neg (fun q => h1 (by rw [← e]; exact Rat.mul_pos ai q))]
    by_cases h2 : x < 0
    · have : a * x < 0 := by
        have := Rat.mul_pos h (show 0 < -x by grind)
        grind
      rw [if_pos h2, if_pos this]
    · rw [if_neg h2, if_neg]
      intro q
      have := Rat.mul_pos ai (show 0 < -(a * x) by grind)
      grind
theorem pow_posQ {a : Rat} (h : 0 < a) : ∀ n : Nat, 0 < a ^ n
  | 0 => by
    rw [Rat.pow_zero]
    decide +kernel
  | n + 1 => by
    rw [Rat.pow_succ]
    exact Rat.mul_pos (pow_posQ h n) h
/-- the sign of a row at a fraction is that of the polynomial of which it is a multiple -/
theorem hor_sign {S : Int} {u : List Int} {f : Nat → Rat} (r : Rel S u f) {t b : Int} (hb : 0 < b) : sgn (hor t b u) = rsgn (fev f ((t : Rat) / (b : Rat)) u.length) := by
  have e := hor_eq (t := t) (show b ≠ 0 by omega) u
  have e2 : fev (fun k => ((u.getD k 0 : Int) : Rat)) ((t : Rat) / (b : Rat)) u.length = (S : Rat) * fev f ((t : Rat) / (b : Rat)) u.length := by
    rw [fev_congr (g := fun k => (S : Rat) * f k + 0 * f k) (fun k => by rw [r.at_ k]; grind), fev_lin]
    grind
  rw [e2] at e
  have pb := ratInt_pos hb
  have pS := ratInt_pos r.pos
  rw [← rsgn_int, ← rsgn_mul pb, e, rsgn_mul (pow_posQ pb _), rsgn_mul pS]
end Mx
set_option maxRecDepth 100000
set_option maxHeartbeats 4000000
namespace Law
open PySem PySem.Spec PyProof.Rows L2 DL Mx
local macro_rules | `(tactic| walk_at "d") => `(tactic| first
  | with_reducible refine st_seq ?_ | with_reducible refine st_if ?_ | with_reducible refine st_ret ?_ | with_reducible refine st_next ?_
  | with_reducible refine et_or ?_ | with_reducible refine et_and ?_ | with_reducible refine et_not ?_ | with_reducible refine et_test ?_ | with_reducible refine et_B ?_
  | with_reducible refine ev_int ?_ | with_reducible refine ev_bl ?_ | with_reducible refine ev_non ?_ | with_reducible refine ev_str ?_
  | with_reducible refine ev_isiInt ?_ | with_reducible refine ev_isiBool ?_ | with_reducible refine ev_isiTup ?_
  | with_reducible refine ev_andV ?_ | with_reducible refine ev_orV ?_ | with_reducible refine ev_notV ?_ | with_reducible refine ev_if ?_ | with_reducible refine ev_chain ?_ | with_reducible refine ev_tup ?_ | with_reducible refine ev_lst ?_ | refine sz_and (by simp) ?_
  | with_reducible refine ev_op ?_ | with_reducible refine ev_un ?_ | with_reducible refine ev_sl ?_ | refine ev_lenOwn rfl ?_ | with_reducible refine ev_new (en_listQ ?_) | with_reducible refine ev_cb ?_ | with_reducible refine ev_dictD ?_ | with_reducible refine ev_isN ?_
  | with_reducible refine ea_cons ?_ | with_reducible refine ea_nil ?_ | with_reducible refine eo_no ?_ | with_reducible refine eo_some ?_
  | with_reducible refine co_lenT ?_ | with_reducible refine co_lenL ?_ | with_reducible refine co_abs ?_ | with_reducible refine co_int ?_ | with_reducible refine cok_gcd ?_
  | with_reducible refine rok_b0 ?_ | with_reducible refine rok_i0 ?_ | with_reducible refine rok_eqI ?_ | with_reducible refine rok_neI ?_ | with_reducible refine ro_add ?_ | with_reducible refine rok_notB ?_ | with_reducible refine rok_isB ?_
  | with_reducible refine ro_mulL (by decide) (by decide) ?_ | with_reducible refine so_tup ?_ | with_reducible refine so_lst ?_ | with_reducible refine uok_neg ?_
  | with_reducible refine tg_cons ?_ | with_reducible refine tg_nil ?_
  | refine ev_var rfl ?_
  | with_reducible refine ⟨_, rfl, ?_⟩
  | with_reducible refine ⟨_, Or.inl rfl, ?_⟩)
local macro_rules | `(tactic| walk_at "dd") => `(tactic| repeat walk_at "d")
local macro_rules | `(tactic| walk_at "d") => `(tactic| first | with_reducible refine ixf0 ?_ | with_reducible refine ixf1 ?_)
def topS (i : Nat) : Stmt := PySem.Challenge.pw_shaftshakes_k20_whole_lines_told_of_anyt.main.body.getD i (.Pass ⟨0, 0, 0, 0⟩)
abbrev s_is_whole : Stmt := topS 2
abbrev N_is_whole : List Str := ["value"]
abbrev p_is_whole : List Str := ["value"]
theorem sc_is_whole : FnScope N_is_whole p_is_whole (defScope s_is_whole) := ⟨rfl, rfl, rfl, by decide +kernel, rfl, by decide +kernel, by decide +kernel⟩
abbrev s_is_fraction : Stmt := topS 3
abbrev N_is_fraction : List Str := ["value", "top", "bottom"]
abbrev p_is_fraction : List Str := ["value"]
theorem sc_is_fraction : FnScope N_is_fraction p_is_fraction (defScope s_is_fraction) := ⟨rfl, rfl, rfl, by decide +kernel, rfl, by decide +kernel, by decide +kernel⟩
abbrev s_is_fraction_from_nought : Stmt := topS 4
abbrev N_is_fraction_from_nought : List Str := ["value"]
abbrev p_is_fraction_from_nought : List Str := ["value"]
theorem sc_is_fraction_from_nought : FnScope N_is_fraction_from_nought p_is_fraction_from_nought (defScope s_is_fraction_from_nought) := ⟨rfl, rfl, rfl, by decide +kernel, rfl, by decide +kernel, by decide +kernel⟩
abbrev s_is_row_of_fractions : Stmt := topS 7
abbrev N_is_row_of_fractions : List Str := ["value", "size", "number"]
abbrev p_is_row_of_fractions : List Str := ["value", "size"]
theorem sc_is_row_of_fractions : FnScope N_is_row_of_fractions p_is_row_of_fractions (defScope s_is_row_of_fractions) := ⟨rfl, rfl, rfl, by decide +kernel, rfl, by decide +kernel, by decide +kernel⟩
abbrev s_is_line : Stmt := topS 8
abbrev N_is_line : List Str := ["value", "discs", "shafts", "number"]
abbrev p_is_line : List Str := ["value"]
theorem sc_is_line : FnScope N_is_line p_is_line (defScope s_is_line) := ⟨rfl, rfl, rfl, by decide +kernel, rfl, by decide +kernel, by decide +kernel⟩
abbrev s__law_well : Stmt := topS 10
abbrev N__law_well : List Str := ["_law_script", "_law_at", "_law_own", "_law_mixed", "_law_each"]
abbrev p__law_well : List Str := ["_law_script", "_law_at"]
theorem sc__law_well : FnScope N__law_well p__law_well (defScope s__law_well) := ⟨rfl, rfl, rfl, by decide +kernel, rfl, by decide +kernel, by decide +kernel⟩
abbrev s__law_pull : Stmt := topS 11
abbrev N__law_pull : List Str := ["_law_well_here", "_law_many2", "_law_digit", "_law_factor2"]
abbrev p__law_pull : List Str := ["_law_well_here", "_law_many2"]
theorem sc__law_pull : FnScope N__law_pull p__law_pull (defScope s__law_pull) := ⟨rfl, rfl, rfl, by decide +kernel, rfl, by decide +kernel, by decide +kernel⟩
abbrev s__law_one : Stmt := topS 12
abbrev N__law_one : List Str := ["_law_well_here", "_law_some"]
abbrev p__law_one : List Str := ["_law_well_here", "_law_some"]
theorem sc__law_one : FnScope N__law_one p__law_one (defScope s__law_one) := ⟨rfl, rfl, rfl, by decide +kernel, rfl, by decide +kernel, by decide +kernel⟩
abbrev s__law_gcd : Stmt := topS 13
abbrev N__law_gcd : List Str := ["_law_one_here", "_law_two"]
abbrev p__law_gcd : List Str := ["_law_one_here", "_law_two"]
theorem sc__law_gcd : FnScope N__law_gcd p__law_gcd (defScope s__law_gcd) := ⟨rfl, rfl, rfl, by decide +kernel, rfl, by decide +kernel, by decide +kernel⟩
abbrev s__law_cut : Stmt := topS 14
abbrev N__law_cut : List Str := ["_law_n", "_law_m", "_law_deep"]
abbrev p__law_cut : List Str := ["_law_n", "_law_m"]
theorem sc__law_cut : FnScope N__law_cut p__law_cut (defScope s__law_cut) := ⟨rfl, rfl, rfl, by decide +kernel, rfl, by decide +kernel, by decide +kernel⟩
abbrev s__law_amount : Stmt := topS 15
abbrev N__law_amount : List Str := ["_law_well_here", "_law_top", "_law_under"]
abbrev p__law_amount : List Str := ["_law_well_here"]
theorem sc__law_amount : FnScope N__law_amount p__law_amount (defScope s__law_amount) := ⟨rfl, rfl, rfl, by decide +kernel, rfl, by decide +kernel, by decide +kernel⟩
abbrev s__law_line : Stmt := topS 16
abbrev N__law_line : List Str := ["_law_well_here", "_law_count", "_law_way", "_law_discs2", "_law_shafts2", "_law_turn"]
abbrev p__law_line : List Str := ["_law_well_here", "_law_count"]
theorem sc__law_line : FnScope N__law_line p__law_line (defScope s__law_line) := ⟨rfl, rfl, rfl, by decide +kernel, rfl, by decide +kernel, by decide +kernel⟩
abbrev s__law_line_back : Stmt := topS 17
abbrev N__law_line_back : List Str := ["_law_line2"]
abbrev p__law_line_back : List Str := ["_law_line2"]
theorem sc__law_line_back : FnScope N__law_line_back p__law_line_back (defScope s__law_line_back) := ⟨rfl, rfl, rfl, by decide +kernel, rfl, by decide +kernel, by decide +kernel⟩
abbrev s__law_bad_fraction : Stmt := topS 18
abbrev N__law_bad_fraction : List Str := ["_law_well_here", "_law_x", "_law_n", "_law_m"]
abbrev p__law_bad_fraction : List Str := ["_law_well_here", "_law_x"]
theorem sc__law_bad_fraction : FnScope N__law_bad_fraction p__law_bad_fraction (defScope s__law_bad_fraction) := ⟨rfl, rfl, rfl, by decide +kernel, rfl, by decide +kernel, by decide +kernel⟩
abbrev s__law_bad_amount : Stmt := topS 19
abbrev N__law_bad_amount : List Str := ["_law_well_here", "_law_x"]
abbrev p__law_bad_amount : List Str := ["_law_well_here", "_law_x"]
theorem sc__law_bad_amount : FnScope N__law_bad_amount p__law_bad_amount (defScope s__law_bad_amount) := ⟨rfl, rfl, rfl, by decide +kernel, rfl, by decide +kernel, by decide +kernel⟩
abbrev s__law_bad_pace : Stmt := topS 20
abbrev N__law_bad_pace : List Str := ["_law_well_here", "_law_x"]
abbrev p__law_bad_pace : List Str := ["_law_well_here", "_law_x"]
theorem sc__law_bad_pace : FnScope N__law_bad_pace p__law_bad_pace (defScope s__law_bad_pace) := ⟨rfl, rfl, rfl, by decide +kernel, rfl, by decide +kernel, by decide +kernel⟩
abbrev s__law_bad_line : Stmt := topS 21
abbrev N__law_bad_line : List Str := ["_law_well_here", "_law_line2", "_law_discs2", "_law_shafts2", "_law_count", "_law_at", "_law_to", "_law_bent", "_law_loose", "_law_one_here", "_law_some"]
abbrev p__law_bad_line : List Str := ["_law_well_here", "_law_line2"]
theorem sc__law_bad_line : FnScope N__law_bad_line p__law_bad_line (defScope s__law_bad_line) := ⟨rfl, rfl, rfl, by decide +kernel, rfl, by decide +kernel, by decide +kernel⟩
abbrev s__law_right : Stmt := topS 22
abbrev N__law_right : List Str := ["_law_well_here", "_law_turn", "_law_line2", "_law_each", "_law_lap", "_law_eight", "_law_odd"]
abbrev p__law_right : List Str := ["_law_well_here"]
theorem sc__law_right : FnScope N__law_right p__law_right (defScope s__law_right) := ⟨rfl, rfl, rfl, by decide +kernel, rfl, by decide +kernel, by decide +kernel⟩
abbrev s_law : Stmt := topS 23
abbrev N_law : List Str := ["_law_script"]
abbrev p_law : List Str := ["_law_script"]
theorem sc_law : FnScope N_law p_law (defScope s_law) := ⟨rfl, rfl, rfl, by decide +kernel, rfl, by decide +kernel, by decide +kernel⟩
structure Tx (K : PySem.W.Frag) (mg : Str → Option Value) where
  a_is_whole : Addr
  d_is_whole : FuncData
  F_is_whole : Fun K "is_whole" "is_whole" s_is_whole a_is_whole d_is_whole
  g_is_whole : mg "is_whole" = some (.ref a_is_whole)
  a_is_fraction : Addr
  d_is_fraction : FuncData
  F_is_fraction : Fun K "is_fraction" "is_fraction" s_is_fraction a_is_fraction d_is_fraction
  g_is_fraction : mg "is_fraction" = some (.ref a_is_fraction)
  a_is_fraction_from_nought : Addr
  d_is_fraction_from_nought : FuncData
  F_is_fraction_from_nought : Fun K "is_fraction_from_nought" "is_fraction_from_nought" s_is_fraction_from_nought a_is_fraction_from_nought d_is_fraction_from_nought
  g_is_fraction_from_nought : mg "is_fraction_from_nought" = some (.ref a_is_fraction_from_nought)
  a_is_row_of_fractions : Addr
  d_is_row_of_fractions : FuncData
  F_is_row_of_fractions : Fun K "is_row_of_fractions" "is_row_of_fractions" s_is_row_of_fractions a_is_row_of_fractions d_is_row_of_fractions
  g_is_row_of_fractions : mg "is_row_of_fractions" = some (.ref a_is_row_of_fractions)
  a_is_line : Addr
  d_is_line : FuncData
  F_is_line : Fun K "is_line" "is_line" s_is_line a_is_line d_is_line
  g_is_line : mg "is_line" = some (.ref a_is_line)
  a__law_well : Addr
  d__law_well : FuncData
  F__law_well : Fun K "_law_well" "_law_well" s__law_well a__law_well d__law_well
  g__law_well : mg "_law_well" = some (.ref a__law_well)
  a__law_pull : Addr
  d__law_pull : FuncData
  F__law_pull : Fun K "_law_pull" "_law_pull" s__law_pull a__law_pull d__law_pull
  g__law_pull : mg "_law_pull" = some (.ref a__law_pull)
  a__law_one : Addr
  d__law_one : FuncData
  F__law_one : Fun K "_law_one" "_law_one" s__law_one a__law_one d__law_one
  g__law_one : mg "_law_one" = some (.ref a__law_one)
  a__law_gcd : Addr
  d__law_gcd : FuncData
  F__law_gcd : Fun K "_law_gcd" "_law_gcd" s__law_gcd a__law_gcd d__law_gcd
  g__law_gcd : mg "_law_gcd" = some (.ref a__law_gcd)
  a__law_cut : Addr
  d__law_cut : FuncData
  F__law_cut : Fun K "_law_cut" "_law_cut" s__law_cut a__law_cut d__law_cut
  g__law_cut : mg "_law_cut" = some (.ref a__law_cut)
  a__law_amount : Addr
  d__law_amount : FuncData
  F__law_amount : Fun K "_law_amount" "_law_amount" s__law_amount a__law_amount d__law_amount
  g__law_amount : mg "_law_amount" = some (.ref a__law_amount)
  a__law_line : Addr
  d__law_line : FuncData
  F__law_line : Fun K "_law_line" "_law_line" s__law_line a__law_line d__law_line
  g__law_line : mg "_law_line" = some (.ref a__law_line)
  a__law_line_back : Addr
  d__law_line_back : FuncData
  F__law_line_back : Fun K "_law_line_back" "_law_line_back" s__law_line_back a__law_line_back d__law_line_back
  g__law_line_back : mg "_law_line_back" = some (.ref a__law_line_back)
  a__law_bad_fraction : Addr
  d__law_bad_fraction : FuncData
  F__law_bad_fraction : Fun K "_law_bad_fraction" "_law_bad_fraction" s__law_bad_fraction a__law_bad_fraction d__law_bad_fraction
  g__law_bad_fraction : mg "_law_bad_fraction" = some (.ref a__law_bad_fraction)
  a__law_bad_amount : Addr
  d__law_bad_amount : FuncData
  F__law_bad_amount : Fun K "_law_bad_amount" "_law_bad_amount" s__law_bad_amount a__law_bad_amount d__law_bad_amount
  g__law_bad_amount : mg "_law_bad_amount" = some (.ref a__law_bad_amount)
  a__law_bad_pace : Addr
  d__law_bad_pace : FuncData
  F__law_bad_pace : Fun K "_law_bad_pace" "_law_bad_pace" s__law_bad_pace a__law_bad_pace d__law_bad_pace
  g__law_bad_pace : mg "_law_bad_pace" = some (.ref a__law_bad_pace)
  a__law_bad_line : Addr
  d__law_bad_line : FuncData
  F__law_bad_line : Fun K "_law_bad_line" "_law_bad_line" s__law_bad_line a__law_bad_line d__law_bad_line
  g__law_bad_line : mg "_law_bad_line" = some (.ref a__law_bad_line)
  a__law_right : Addr
  d__law_right : FuncData
  F__law_right : Fun K "_law_right" "_law_right" s__law_right a__law_right d__law_right
  g__law_right : mg "_law_right" = some (.ref a__law_right)
  a_law : Addr
  d_law : FuncData
  F_law : Fun K "law" "law" s_law a_law d_law
  g_law : mg "law" = some (.ref a_law)
  t_MOST_DISCS : Tok
  c_MOST_DISCS : mg "MOST_DISCS" = some (.int 8 t_MOST_DISCS)
  n_abs : mg "abs" = none
  n_all : mg "all" = none
  n_bool : mg "bool" = none
  n_divmod : mg "divmod" = none
  l_gcd : mg "gcd" = some (.builtin "math.gcd")
  n_int : mg "int" = none
  n_isinstance : mg "isinstance" = none
  n_len : mg "len" = none
  n_list : mg "list" = none
  n_range : mg "range" = none
  n_str : mg "str" = none
  n_sum : mg "sum" = none
  n_tuple : mg "tuple" = none
section
variable {P : Program} {w : World} {K : PySem.W.Frag} {mg : Str → Option Value} {base : Heap}
theorem b_is_whole (T : Tx K mg) : Binds K T.d_is_whole p_is_whole [] := T.F_is_whole.binds (ps := p_is_whole) fun _ _ _ _ _ _ us hl => match us, hl with | [_], _ => rfl
theorem b_is_fraction (T : Tx K mg) : Binds K T.d_is_fraction p_is_fraction [] := T.F_is_fraction.binds (ps := p_is_fraction) fun _ _ _ _ _ _ us hl => match us, hl with | [_], _ => rfl
theorem b_is_fraction_from_nought (T : Tx K mg) : Binds K T.d_is_fraction_from_nought p_is_fraction_from_nought [] := T.F_is_fraction_from_nought.binds (ps := p_is_fraction_from_nought) fun _ _ _ _ _ _ us hl => match us, hl with | [_], _ => rfl
theorem b_is_row_of_fractions (T : Tx K mg) : Binds K T.d_is_row_of_fractions p_is_row_of_fractions [] := T.F_is_row_of_fractions.binds (ps := p_is_row_of_fractions) fun _ _ _ _ _ _ us hl => match us, hl with | [_, _], _ => rfl
theorem b_is_line (T : Tx K mg) : Binds K T.d_is_line p_is_line [] := T.F_is_line.binds (ps := p_is_line) fun _ _ _ _ _ _ us hl => match us, hl with | [_], _ => rfl
theorem kb_is_line (T : Tx K mg) : KBinds K T.d_is_line p_is_line p_is_line gK gKV := Fun.kbinds T.F_is_line (by decide) fun _ _ _ _ _ _ us hl => match us, hl with | [_], _ => rfl
theorem b__law_well (T : Tx K mg) : Binds K T.d__law_well p__law_well [] := T.F__law_well.binds (ps := p__law_well) fun _ _ _ _ _ _ us hl => match us, hl with | [_, _], _ => rfl
theorem b__law_pull (T : Tx K mg) : Binds K T.d__law_pull p__law_pull [] := T.F__law_pull.binds (ps := p__law_pull) fun _ _ _ _ _ _ us hl => match us, hl with | [_, _], _ => rfl
theorem b__law_one (T : Tx K mg) : Binds K T.d__law_one p__law_one [] := T.F__law_one.binds (ps := p__law_one) fun _ _ _ _ _ _ us hl => match us, hl with | [_, _], _ => rfl
theorem b__law_gcd (T : Tx K mg) : Binds K T.d__law_gcd p__law_gcd [] := T.F__law_gcd.binds (ps := p__law_gcd) fun _ _ _ _ _ _ us hl => match us, hl with | [_, _], _ => rfl
theorem b__law_cut (T : Tx K mg) : Binds K T.d__law_cut p__law_cut [] := T.F__law_cut.binds (ps := p__law_cut) fun _ _ _ _ _ _ us hl => match us, hl with | [_, _], _ => rfl
theorem b__law_amount (T : Tx K mg) : Binds K T.d__law_amount p__law_amount [] := T.F__law_amount.binds (ps := p__law_amount) fun _ _ _ _ _ _ us hl => match us, hl with | [_], _ => rfl
theorem b__law_line (T : Tx K mg) : Binds K T.d__law_line p__law_line [] := T.F__law_line.binds (ps := p__law_line) fun _ _ _ _ _ _ us hl => match us, hl with | [_, _], _ => rfl
theorem b__law_line_back (T : Tx K mg) : Binds K T.d__law_line_back p__law_line_back [] := T.F__law_line_back.binds (ps := p__law_line_back) fun _ _ _ _ _ _ us hl => match us, hl with | [_], _ => rfl
theorem b__law_bad_fraction (T : Tx K mg) : Binds K T.d__law_bad_fraction p__law_bad_fraction [] := T.F__law_bad_fraction.binds (ps := p__law_bad_fraction) fun _ _ _ _ _ _ us hl => match us, hl with | [_, _], _ => rfl
theorem b__law_bad_amount (T : Tx K mg) : Binds K T.d__law_bad_amount p__law_bad_amount [] := T.F__law_bad_amount.binds (ps := p__law_bad_amount) fun _ _ _ _ _ _ us hl => match us, hl with | [_, _], _ => rfl
theorem b__law_bad_pace (T : Tx K mg) : Binds K T.d__law_bad_pace p__law_bad_pace [] := T.F__law_bad_pace.binds (ps := p__law_bad_pace) fun _ _ _ _ _ _ us hl => match us, hl with | [_, _], _ => rfl
theorem b__law_bad_line (T : Tx K mg) : Binds K T.d__law_bad_line p__law_bad_line [] := T.F__law_bad_line.binds (ps := p__law_bad_line) fun _ _ _ _ _ _ us hl => match us, hl with | [_, _], _ => rfl
theorem b__law_right (T : Tx K mg) : Binds K T.d__law_right p__law_right [] := T.F__law_right.binds (ps := p__law_right) fun _ _ _ _ _ _ us hl => match us, hl with | [_], _ => rfl
theorem b_law (T : Tx K mg) : Binds K T.d_law p_law [] := T.F_law.binds (ps := p_law) fun _ _ _ _ _ _ us hl => match us, hl with | [_], _ => rfl
/-! ### is_whole -/
def isWholeD : PyData → Bool
  | .int _ => true
  | _ => false
theorem isWholeD_true {d : PyData} (h : isWholeD d = true) : ∃ i, d = .int i := by
  cases d <;> simp [isWholeD] at h
  exact ⟨_, rfl⟩
def pre_is_whole : List PyData → Prop := fun ds => ∃ v, ds = [v]
def post_is_whole : List PyData → PyData → Prop := fun ds d => ∃ v, ds = [v] ∧ d = .bool (isWholeD v)
abbrev sp_is_whole (K : PySem.W.Frag) : Sp := SpP K pre_is_whole post_is_whole
theorem len_is_whole (K : PySem.W.Frag) (vs : List V) (H : Hp) (Q : VK) (E : XK) (h : sp_is_whole K vs H Q E) : vs.length = p_is_whole.length := len_P (n := 1) h fun ds hp => by
  obtain ⟨v, e⟩ := hp
  rw [e]; rfl
def t_is_whole (K : PySem.W.Frag) : TS :=
  (tRet (tAndV (tCB (rIsi K) (tCons (tVar 0) (tCons (tC (.ty "int")) tNil))) (tNotV (tCB (rIsi K) (tCons (tVar 0) (tCons (tC (.ty "bool")) tNil))))))
theorem pure_is_whole (K : PySem.W.Frag) (vs : List V) (H : Hp) (Q : VK) (E : XK) (h : sp_is_whole K vs H Q E) : t_is_whole K { nx := fun _ H' => Q .non H', rt := Q } (L2.start N_is_whole vs) H := body_P h fun B ds hW hp => by
  obtain ⟨v, e⟩ := hp
  subst e
  unfold t_is_whole
  refine st_ret (ev_andV (ev_isiInt (ev_var rfl ⟨_, rfl, fun hb => ?_, fun hb => ⟨_, rfl, ?_⟩⟩)))
  · refine ev_notV (ev_isiBool (ev_var rfl ⟨_, rfl, _, rfl, ?_⟩))
    cases v <;> simp_all [isIntT, isBoolT, isWholeD]
  · cases v <;> simp_all [isIntT, isBoolT, isWholeD]
theorem ok_is_whole (T : Tx K mg) : FnOk P w K mg base CX0 1 T.a_is_whole T.d_is_whole p_is_whole (sp_is_whole K) := by
  refine T.F_is_whole.ok sc_is_whole (fun vs H Q E h => len_is_whole K vs H Q E h) (fun cdv A outer s H vs Q E hr h => ?_)
  exact ⟨t_is_whole K, (pss_one (ps_ret (pe_and (pe_callB call_isi (by rfl) T.n_isinstance (by decide +kernel) (pa_cons (pv 0) (pa_cons (pe_bltn (v := .ty "int") (by rfl) T.n_int (by decide +kernel) rfl) pa_nil))) (pe_one (pe_not (pe_callB call_isi (by rfl) T.n_isinstance (by decide +kernel) (pa_cons (pv 0) (pa_cons (pe_bltn (v := .ty "bool") (by rfl) T.n_bool (by decide +kernel) rfl) pa_nil)))))))), pure_is_whole K vs H Q E h⟩
/-! ### is_fraction -/
def isPairD : PyData → PyData → Bool
  | .int n, .int m => decide (0 < m) && decide (((Nat.gcd n.natAbs m.natAbs : Nat) : Int) = 1)
  | _, _ => false
def isTwoD : List PyData → Bool
  | [x, y] => isPairD x y
  | _ => false
def isFracD : PyData → Bool
  | .tuple ds => isTwoD ds
  | _ => false
theorem isFrac_len {xs : List PyData} (h : xs.length ≠ 2) : isFracD (.tuple xs) = false := by
  match xs with
  | [] => rfl
  | [a] => rfl
  | [a, b] => exact absurd rfl h
  | a :: b :: c :: r => rfl
theorem isFracD_true {d : PyData} (h : isFracD d = true) : ∃ n m : Int, d = .tuple [.int n, .int m] ∧ 0 < m ∧ Nat.gcd n.natAbs m.natAbs = 1 := by
  cases d with
  | tuple ds =>
    match ds with
    | [] => cases h
    | [a] => cases h
    | a :: b :: c :: r => cases h
    | [a, b] =>
      cases a with
      | int n =>
        cases b with
        | int m =>
          have h2 : (decide (0 < m) && decide (((Nat.gcd n.natAbs m.natAbs : Nat) : Int) = 1)) = true := h
          rw [Bool.and_eq_true] at h2
          have h3 := of_decide_eq_true h2.1
          have h4 := of_decide_eq_true h2.2
          exact ⟨n, m, rfl, h3, by omega⟩
        | _ => cases h
      | _ => cases b <;> cases h
  | _ => cases h
theorem isFracD_of {n m : Int} (h : 0 < m) (h2 : Nat.gcd n.natAbs m.natAbs = 1) : isFracD (.tuple [.int n, .int m]) = true := by
  show (decide (0 < m) && decide (((Nat.gcd n.natAbs m.natAbs : Nat) : Int) = 1)) = true
  rw [h2, decide_eq_true h]
  rfl
def pre_is_fraction : List PyData → Prop := fun ds => ∃ v, ds = [v]
def post_is_fraction : List PyData → PyData → Prop := fun ds d => ∃ v, ds = [v] ∧ d = .bool (isFracD v)
abbrev sp_is_fraction (K : PySem.W.Frag) : Sp := SpP K pre_is_fraction post_is_fraction
theorem len_is_fraction (K : PySem.W.Frag) (vs : List V) (H : Hp) (Q : VK) (E : XK) (h : sp_is_fraction K vs H Q E) : vs.length = p_is_fraction.length := len_P (n := 1) h fun ds hp => by
  obtain ⟨v, e⟩ := hp
  rw [e]; rfl
def t_is_fraction (K : PySem.W.Frag) : TS :=
  (tSeq (tIfS (tOr (tNot (tB (tCB (rIsi K) (tCons (tVar 0) (tCons (tC (.ty "tuple")) tNil))))) (tTest (tOp rNe (tCB (rLenQ K) (tCons (tVar 0) tNil)) (tC (.int 2))))) (tRet (tC (.bl false))) tNext)
  (tSeq (tAsg (tVar 0) (gTup K 2 (gCons (gName 1) (gCons (gName 2) gNil))))
  (tSeq (tIfS (tOr (tNot (tB (tCall (sp_is_whole K) [] E0 (tCons (tVar 1) tNil)))) (tNot (tB (tCall (sp_is_whole K) [] E0 (tCons (tVar 2) tNil))))) (tRet (tC (.bl false))) tNext)
  (tRet (tAndV (tOp (rI0 fun i j => .bl (decide (j < i))) (tVar 2) (tC (.int 0))) (tOp rEq (tCB rGcd (tCons (tVar 1) (tCons (tVar 2) tNil))) (tC (.int 1))))))))
theorem pure_is_fraction (K : PySem.W.Frag) (vs : List V) (H : Hp) (Q : VK) (E : XK) (h : sp_is_fraction K vs H Q E) : t_is_fraction K { nx := fun _ H' => Q .non H', rt := Q } (L2.start N_is_fraction vs) H := body_P h fun B ds hW hp => by
  obtain ⟨v, e⟩ := hp
  subst e
  unfold t_is_fraction
  refine st_seq (st_if (et_or (et_not (et_B (ev_isiTup (ev_var rfl ⟨_, rfl, fun hb => ?_, fun hb => ⟨fun _ => ?_, fun z => nomatch z⟩⟩))))))
  · obtain ⟨xs, rfl⟩ := isTupT_true (d := v) (by simpa using hb)
    refine et_test (ev_op (ev_cb (ea_cons (ev_var rfl (ea_nil (co_lenT (ev_int (rok_neI ⟨_, rfl, fun hb => ?_, fun hb => ?_⟩))))))))
    · refine st_ret (ev_bl ⟨_, rfl, ?_⟩)
      rw [isFrac_len]
      intro z
      rw [z] at hb
      cases hb
    · have hl : xs.length = 2 := by
        simp at hb
        omega
      obtain ⟨a, b, rfl⟩ : ∃ a b, xs = [a, b] := by
        match xs, hl with
        | [a, b], _ => exact ⟨a, b, rfl⟩
      refine st_next (st_seq (st_unpack (ev_var rfl ⟨_, rfl, rfl, tg_cons (tg_cons (tg_nil ?_))⟩)))
      refine st_seq (st_if (et_or (et_not (et_B (ev_callP (ea_cons (ev_var rfl (ea_nil ⟨⟨_, rfl⟩, fun d ⟨v, ev, ed⟩ => ?_⟩))))))))
      cases ev
      refine ⟨_, ed, fun hb => ?_, fun hb => ⟨fun _ => ?_, fun z => nomatch z⟩⟩
      · obtain ⟨n, rfl⟩ := isWholeD_true (d := a) (by simpa using hb)
        refine et_not (et_B (ev_callP (ea_cons (ev_var rfl (ea_nil ⟨⟨_, rfl⟩, fun d ⟨v, ev, ed⟩ => ?_⟩)))))
        cases ev
        refine ⟨_, ed, fun hb2 => ?_, fun hb2 => ?_⟩
        · refine st_ret (ev_bl ⟨_, rfl, ?_⟩)
          cases b <;> first | rfl | cases hb2
        · obtain ⟨m, rfl⟩ := isWholeD_true (d := b) (by simpa using hb2)
          refine st_next (st_ret (ev_andV (ev_op (ev_var rfl (ev_int (rok_b0 ⟨_, rfl, fun hb3 => ?_, fun hb3 => ?_⟩))))))
          · refine ev_op (ev_cb (ea_cons (ev_var rfl (ea_cons (ev_var rfl (ea_nil (cok_gcd (ev_int (rok_eqI ⟨_, rfl, ?_⟩)))))))))
            show _ = PyData.bool (decide (0 < m) && decide (((Nat.gcd n.natAbs m.natAbs : Nat) : Int) = 1))
            rw [hb3, Bool.true_and]
          · refine ⟨_, rfl, ?_⟩
            show _ = PyData.bool (decide (0 < m) && decide (((Nat.gcd n.natAbs m.natAbs : Nat) : Int) = 1))
            rw [hb3, Bool.false_and]
      · refine st_ret (ev_bl ⟨_, rfl, ?_⟩)
        cases a <;> first | rfl | cases hb
  · refine st_ret (ev_bl ⟨_, rfl, ?_⟩)
    cases v <;> first | rfl | cases hb
theorem frD_is {x : Fr} (h : FOk x) : isFracD (frD x) = true := by
  show (decide (0 < x.2) && decide (((Nat.gcd x.1.natAbs x.2.natAbs : Nat) : Int) = 1)) = true
  rw [decide_eq_true h.1, decide_eq_true (by rw [h.2]; rfl)]
  rfl

theorem ok_is_fraction (T : Tx K mg) : FnOk P w K mg base CX0 2 T.a_is_fraction T.d_is_fraction p_is_fraction (sp_is_fraction K) := by
  refine T.F_is_fraction.ok sc_is_fraction (fun vs H Q E h => len_is_fraction K vs H Q E h) (fun cdv A outer s H vs Q E hr h => ?_)
  exact ⟨t_is_fraction K, (pss_cons (ps_if (PW.pt (pw_or (pt_not (pt_val (pe_callB call_isi (by rfl) T.n_isinstance (by decide +kernel) (pa_cons (pv 0) (pa_cons (pe_bltn (v := .ty "tuple") (by rfl) T.n_tuple (by decide +kernel) rfl) pa_nil))))) (pw_or1 (pt_cmpR op_ne (pe_callB call_len_seq (by rfl) T.n_len (by decide +kernel) (pa_cons (pv 0) pa_nil)) pe_int (nomark _))))) (pss_one (ps_ret pe_bl)) pss_nil)
  (pss_cons (ps_asg (pv 0) (pg_tup (by rfl) (pgs_cons (pg_name (i := 1) sc_is_fraction.nd rfl (Or.inl rfl)) (pgs_cons (pg_name (i := 2) sc_is_fraction.nd rfl (Or.inl rfl)) pgs_nil))))
  (pss_cons (ps_if (PW.pt (pw_or (pt_not (pt_val (pe_call (ok_is_whole T) (hr.mono (by decide)) rfl T.g_is_whole T.F_is_whole.kp (b_is_whole T) .nil pass0 (pa_cons (pv 1) pa_nil)))) (pw_or1 (pt_not (pt_val (pe_call (ok_is_whole T) (hr.mono (by decide)) rfl T.g_is_whole T.F_is_whole.kp (b_is_whole T) .nil pass0 (pa_cons (pv 2) pa_nil))))))) (pss_one (ps_ret pe_bl)) pss_nil)
  (pss_one (ps_ret (pe_and (pe_cmpR op_gt (pv 2) pe_int (nomark _)) (pe_one (pe_cmpR op_eq (pe_callBfun cr_gcd (by rfl) T.l_gcd (pa_cons (pv 1) (pa_cons (pv 2) pa_nil))) pe_int (nomark _))))))))), pure_is_fraction K vs H Q E h⟩
/-! ### is_fraction_from_nought -/
def numD : PyData → Int
  | .tuple (.int n :: _) => n
  | _ => 0
def isRowItem (d : PyData) : Bool := isFracD d && decide (0 ≤ numD d)
def isRowD (v : PyData) (n : Int) : Bool := match v with
  | .tuple xs => decide ((xs.length : Int) = n) && xs.all isRowItem
  | _ => false

def pre_is_fraction_from_nought : List PyData → Prop := fun ds => ∃ v, ds = [v]
def post_is_fraction_from_nought : List PyData → PyData → Prop := fun ds d => ∃ v, ds = [v] ∧ d = .bool (isRowItem v)
abbrev sp_is_fraction_from_nought (K : PySem.W.Frag) : Sp := SpP K pre_is_fraction_from_nought post_is_fraction_from_nought
theorem len_is_fraction_from_nought (K : PySem.W.Frag) (vs : List V) (H : Hp) (Q : VK) (E : XK) (h : sp_is_fraction_from_nought K vs H Q E) : vs.length = p_is_fraction_from_nought.length := len_P (n := 1) h fun ds hp => by
  obtain ⟨v, e⟩ := hp
  rw [e]; rfl
def t_is_fraction_from_nought (K : PySem.W.Frag) : TS :=
  (tRet (tAndV (tCall (sp_is_fraction K) [] E0 (tCons (tVar 0) tNil)) (tOp (rI0 fun i j => .bl (decide (j ≤ i))) (tOp (rIx K) (tVar 0) (tC (.int 0))) (tC (.int 0)))))
theorem pure_is_fraction_from_nought (K : PySem.W.Frag) (vs : List V) (H : Hp) (Q : VK) (E : XK) (h : sp_is_fraction_from_nought K vs H Q E) : t_is_fraction_from_nought K { nx := fun _ H' => Q .non H', rt := Q } (L2.start N_is_fraction_from_nought vs) H := body_P h fun B ds hW hp => by
  obtain ⟨v, e⟩ := hp
  subst e
  unfold t_is_fraction_from_nought
  refine st_ret (ev_andV (ev_callP (ea_cons (ev_var rfl (ea_nil ⟨⟨_, rfl⟩, fun d ⟨v', ev, ed⟩ => ?_⟩)))))
  cases ev
  refine ⟨_, ed, fun hb => ?_, fun hb => ⟨_, rfl, ?_⟩⟩
  · obtain ⟨p, q, rfl, hq, hg⟩ := isFracD_true hb
    refine ev_op (ev_op (ev_var rfl (ev_int (rok_ixsT (d := .int p) rfl (ev_int (rok_b0 ⟨_, rfl, ?_⟩))))))
    show _ = PyData.bool (isFracD (.tuple [.int p, .int q]) && decide (0 ≤ p))
    rw [hb, Bool.true_and]
  · show _ = PyData.bool (isFracD v && decide (0 ≤ numD v))
    rw [hb]
    rfl
theorem ok_is_fraction_from_nought (T : Tx K mg) : FnOk P w K mg base CX0 3 T.a_is_fraction_from_nought T.d_is_fraction_from_nought p_is_fraction_from_nought (sp_is_fraction_from_nought K) := by
  refine T.F_is_fraction_from_nought.ok sc_is_fraction_from_nought (fun vs H Q E h => len_is_fraction_from_nought K vs H Q E h) (fun cdv A outer s H vs Q E hr h => ?_)
  exact ⟨t_is_fraction_from_nought K, (pss_one (ps_ret (pe_and (pe_call (ok_is_fraction T) (hr.mono (by decide)) rfl T.g_is_fraction T.F_is_fraction.kp (b_is_fraction T) .nil pass0 (pa_cons (pv 0) pa_nil)) (pe_one (pe_cmpR op_ge (pe_ix ix_seq (pv 0) pe_int (fun _ _ => rfl)) pe_int (nomark _)))))), pure_is_fraction_from_nought K vs H Q E h⟩
/-! ### is_row_of_fractions -/

def pre_is_row_of_fractions : List PyData → Prop := fun ds => ∃ v, ∃ n : Int, ds = [v, .int n] ∧ 0 ≤ n ∧ n ≤ 1000
def post_is_row_of_fractions : List PyData → PyData → Prop := fun ds d => ∃ v, ∃ n : Int, ds = [v, .int n] ∧ d = .bool (isRowD v n)
abbrev sp_is_row_of_fractions (K : PySem.W.Frag) : Sp := SpP K pre_is_row_of_fractions post_is_row_of_fractions
theorem len_is_row_of_fractions (K : PySem.W.Frag) (vs : List V) (H : Hp) (Q : VK) (E : XK) (h : sp_is_row_of_fractions K vs H Q E) : vs.length = p_is_row_of_fractions.length := len_P (n := 2) h fun ds hp => by
  obtain ⟨v, n, e, hn0, hn1⟩ := hp
  rw [e]; rfl
def t_is_row_of_fractions (K : PySem.W.Frag) : TS :=
  (tSeq (tIfS (tOr (tNot (tB (tCB (rIsi K) (tCons (tVar 0) (tCons (tC (.ty "tuple")) tNil))))) (tTest (tOp rNe (tCB (rLenQ K) (tCons (tVar 0) tNil)) (tVar 1)))) (tRet (tC (.bl false))) tNext)
  (tRet (tCB (rAll K) (tCons (tLc (iTup K (tVar 0)) (gName 2) tYes (tCall (sp_is_fraction_from_nought K) [] E0 (tCons (tVar 2) tNil)) [2]) tNil))))
theorem pure_is_row_of_fractions (K : PySem.W.Frag) (vs : List V) (H : Hp) (Q : VK) (E : XK) (h : sp_is_row_of_fractions K vs H Q E) : t_is_row_of_fractions K { nx := fun _ H' => Q .non H', rt := Q } (L2.start N_is_row_of_fractions vs) H := body_P h fun B ds hW hp => by
  obtain ⟨v, n, e, hn0, hn1⟩ := hp
  subst e
  unfold t_is_row_of_fractions
  refine st_seq (st_if (et_or (et_not (et_B (ev_isiTup (ev_var rfl ⟨_, rfl, fun hb => ?_, fun hb => ⟨fun _ => ?_, fun z => nomatch z⟩⟩))))))
  · obtain ⟨xs, rfl⟩ := isTupT_true (d := v) (by simpa using hb)
    refine et_test (ev_op (ev_cb (ea_cons (ev_var rfl (ea_nil (co_lenT (ev_var rfl (rok_neI ⟨_, rfl, fun hb => ?_, fun hb => ?_⟩))))))))
    · refine st_ret (ev_bl ⟨_, _, rfl, ?_⟩)
      have h2 : ¬ (xs.length : Int) = n := by
        simp at hb
        exact hb
      show _ = PyData.bool (decide ((xs.length : Int) = n) && xs.all isRowItem)
      rw [decide_eq_false h2]
      rfl
    · have hl : (xs.length : Int) = n := by
        simp at hb
        exact hb
      refine st_next (st_ret (ev_cb (ea_cons (ev_new (en_lcT (wipe1 2) (ev_var rfl ⟨xs, rfl, by omega, fun i acc => acc = ((xs.take i).map fun d => PyData.bool (isRowItem d)), ⟨rfl, fun i D d' acc hi hJ hin => ?_⟩, fun acc hJ => ?_⟩))) )))
      · refine et_yes ⟨fun _ => ?_, fun z => nomatch z⟩
        subst hJ
        refine ev_callP (ea_cons (ev_var rfl (ea_nil ⟨⟨_, rfl⟩, fun d ⟨v, ev, ed⟩ => ?_⟩)))
        cases ev
        subst ed
        show ((xs.take i).map fun d => PyData.bool (isRowItem d)) ++ [PyData.bool (isRowItem d')] = (xs.take (i + 1)).map fun d => PyData.bool (isRowItem d)
        rw [List.take_add_one, hi, List.map_append]
        rfl
      · refine ea_nil ?_
        subst hJ
        rw [List.take_length, show (xs.map fun d => PyData.bool (isRowItem d)) = (xs.map isRowItem).map PyData.bool by rw [List.map_map]; rfl]
        refine cok_all ⟨_, _, rfl, ?_⟩
        show _ = PyData.bool (decide ((xs.length : Int) = n) && xs.all isRowItem)
        rw [decide_eq_true hl, Bool.true_and, List.all_map]
        rfl
  · refine st_ret (ev_bl ⟨_, _, rfl, ?_⟩)
    cases v <;> first | rfl | cases hb
theorem ok_is_row_of_fractions (T : Tx K mg) : FnOk P w K mg base CX0 4 T.a_is_row_of_fractions T.d_is_row_of_fractions p_is_row_of_fractions (sp_is_row_of_fractions K) := by
  refine T.F_is_row_of_fractions.ok sc_is_row_of_fractions (fun vs H Q E h => len_is_row_of_fractions K vs H Q E h) (fun cdv A outer s H vs Q E hr h => ?_)
  exact ⟨t_is_row_of_fractions K, (pss_cons (ps_if (PW.pt (pw_or (pt_not (pt_val (pe_callB call_isi (by rfl) T.n_isinstance (by decide +kernel) (pa_cons (pv 0) (pa_cons (pe_bltn (v := .ty "tuple") (by rfl) T.n_tuple (by decide +kernel) rfl) pa_nil))))) (pw_or1 (pt_cmpR op_ne (pe_callB call_len_seq (by rfl) T.n_len (by decide +kernel) (pa_cons (pv 0) pa_nil)) (pv 1) (nomark _))))) (pss_one (ps_ret pe_bl)) pss_nil)
  (pss_one (ps_ret (pe_callB (cr_all rfl) (by rfl) T.n_all (by decide +kernel) (pa_cons (pe_lc (own := [("number", 2)]) (by rfl) sc_is_row_of_fractions.nd (pi_tup (pv 0)) (blkOk_by (own := [("number", 2)]) (N := N_is_row_of_fractions) (sc := defScope s_is_row_of_fractions) (by decide +kernel)) (fun _ _ _ _ _ => pg_name (i := 2) sc_is_row_of_fractions.nd rfl (Or.inl rfl)) (fun _ _ _ _ _ => pts_nil) (fun _ _ _ _ _ => (pe_call (ok_is_fraction_from_nought T) (hr.mono (by decide)) rfl T.g_is_fraction_from_nought T.F_is_fraction_from_nought.kp (b_is_fraction_from_nought T) .nil pass0 (pa_cons (pv 2) pa_nil)))) pa_nil))))), pure_is_row_of_fractions K vs H Q E h⟩
/-! ### is_line -/
def isLine2 : PyData → PyData → Bool
  | .tuple ds, s => decide (1 ≤ ds.length ∧ ds.length ≤ 8) && (isRowD (.tuple ds) ds.length && (isRowD s ((ds.length : Int) + 1) && (match s with
    | .tuple ss => (ds ++ DL.cutD ss (some 1) (some (-1))).all fun d => decide (0 < numD d)
    | _ => false)))
  | _, _ => false
def isLineL : List PyData → Bool
  | [d, s] => isLine2 d s
  | _ => false
def isLineD : PyData → Bool
  | .tuple xs => isLineL xs
  | _ => false
theorem isLine_len {xs : List PyData} (h : xs.length ≠ 2) : isLineD (.tuple xs) = false := by
  match xs with
  | [] => rfl
  | [a] => rfl
  | [a, b] => exact absurd rfl h
  | a :: b :: c :: r => rfl
theorem isLine_disc {ds : List PyData} {b : PyData} (h : ¬ (1 ≤ ds.length ∧ ds.length ≤ 8)) : isLineD (.tuple [.tuple ds, b]) = false := by
  show (decide (1 ≤ ds.length ∧ ds.length ≤ 8) && _) = false
  rw [decide_eq_false h, Bool.false_and]
theorem isLine_row1 {ds : List PyData} {b : PyData} (h : isRowD (.tuple ds) ds.length = false) : isLineD (.tuple [.tuple ds, b]) = false := by
  show (_ && (isRowD (.tuple ds) ds.length && _)) = false
  rw [h, Bool.false_and, Bool.and_false]
theorem isLine_row2 {ds : List PyData} {b : PyData} (h : isRowD b ((ds.length : Int) + 1) = false) : isLineD (.tuple [.tuple ds, b]) = false := by
  show (_ && (_ && (isRowD b ((ds.length : Int) + 1) && _))) = false
  rw [h, Bool.false_and, Bool.and_false, Bool.and_false]
theorem isLine_in {ds ss : List PyData} (h1 : 1 ≤ ds.length) (h8 : ds.length ≤ 8) (r1 : isRowD (.tuple ds) ds.length = true) (r2 : isRowD (.tuple ss) ((ds.length : Int) + 1) = true) :
    isLineD (.tuple [.tuple ds, .tuple ss]) = (ds ++ DL.cutD ss (some 1) (some (-1))).all fun d => decide (0 < numD d) := by
  show (decide (1 ≤ ds.length ∧ ds.length ≤ 8) && (isRowD (.tuple ds) ds.length && (isRowD (.tuple ss) ((ds.length : Int) + 1) && _))) = _
  rw [decide_eq_true ⟨h1, h8⟩, r1, r2, Bool.true_and, Bool.true_and, Bool.true_and]
theorem isRowD_tup {v : PyData} {n : Int} (h : isRowD v n = true) : ∃ xs, v = .tuple xs ∧ (xs.length : Int) = n := by
  cases v with
  | tuple xs => exact ⟨xs, rfl, of_decide_eq_true (Bool.and_eq_true_iff.mp (show (decide ((xs.length : Int) = n) && xs.all isRowItem) = true from h)).1⟩
  | _ => cases h
theorem isRowD_mem {xs : List PyData} {n : Int} (h : isRowD (.tuple xs) n = true) {d : PyData} (hd : d ∈ xs) : isRowItem d = true :=
  List.all_eq_true.mp (Bool.and_eq_true_iff.mp (show (decide ((xs.length : Int) = n) && xs.all isRowItem) = true from h)).2 d hd
theorem cutD_le (ds : List PyData) (lo hi : Option Int) : (DL.cutD ds lo hi).length ≤ ds.length := by
  unfold DL.cutD
  rw [List.length_take, List.length_drop]
  omega
theorem cutD_mem {ds : List PyData} {lo hi : Option Int} {d : PyData} (h : d ∈ DL.cutD ds lo hi) : d ∈ ds := List.mem_of_mem_drop (List.mem_of_mem_take h)
def pre_is_line : List PyData → Prop := fun ds => ∃ v, ds = [v]
def post_is_line : List PyData → PyData → Prop := fun ds d => ∃ v, ds = [v] ∧ d = .bool (isLineD v)
abbrev sp_is_line (K : PySem.W.Frag) : Sp := SpP K pre_is_line post_is_line
theorem len_is_line (K : PySem.W.Frag) (vs : List V) (H : Hp) (Q : VK) (E : XK) (h : sp_is_line K vs H Q E) : vs.length = p_is_line.length := len_P (n := 1) h fun ds hp => by
  obtain ⟨v, e⟩ := hp
  rw [e]; rfl
def t_is_line (K : PySem.W.Frag) : TS :=
  (tSeq (tIfS (tOr (tNot (tB (tCB (rIsi K) (tCons (tVar 0) (tCons (tC (.ty "tuple")) tNil))))) (tTest (tOp rNe (tCB (rLenQ K) (tCons (tVar 0) tNil)) (tC (.int 2))))) (tRet (tC (.bl false))) tNext)
  (tSeq (tAsg (tVar 0) (gTup K 2 (gCons (gName 1) (gCons (gName 2) gNil))))
  (tSeq (tIfS (tOr (tNot (tB (tCB (rIsi K) (tCons (tVar 1) (tCons (tC (.ty "tuple")) tNil))))) (tNot (tTest (tChain (rI0 fun i j => .bl (decide (i ≤ j))) (rI0 fun i j => .bl (decide (i ≤ j))) (tC (.int 1)) (tCB (rLenQ K) (tCons (tVar 1) tNil)) (tC (.int 8)))))) (tRet (tC (.bl false))) tNext)
  (tSeq (tIfS (tOr (tNot (tB (tCall (sp_is_row_of_fractions K) [] E0 (tCons (tVar 1) (tCons (tCB (rLenQ K) (tCons (tVar 1) tNil)) tNil))))) (tNot (tB (tCall (sp_is_row_of_fractions K) [] E0 (tCons (tVar 2) (tCons (tOp (rAddA K) (tCB (rLenQ K) (tCons (tVar 1) tNil)) (tC (.int 1))) tNil)))))) (tRet (tC (.bl false))) tNext)
  (tRet (tCB (rAll K) (tCons (tLc (iTup K (tOp (rAddA K) (tVar 1) (tSl (rSlX2 K) (tVar 2) (tPart (tC (.int 1))) (tPart (tUn (rU fun i => .int (-i)) (tC (.int 1))))))) (gName 3) tYes (tOp (rI0 fun i j => .bl (decide (j < i))) (tOp (rIx K) (tVar 3) (tC (.int 0))) (tC (.int 0))) [3]) tNil)))))))
theorem pure_is_line (K : PySem.W.Frag) (vs : List V) (H : Hp) (Q : VK) (E : XK) (h : sp_is_line K vs H Q E) : t_is_line K { nx := fun _ H' => Q .non H', rt := Q } (L2.start N_is_line vs) H := body_P h fun B ds hW hp => by
  obtain ⟨v, e⟩ := hp
  subst e
  unfold t_is_line
  walk_at "dd"
  refine ⟨fun hb => ?_, fun hb => ⟨fun _ => ?_, fun z => nomatch z⟩⟩
  · obtain ⟨xs, rfl⟩ := isTupT_true (d := v) (by simpa using hb)
    walk_at "dd"
    refine ⟨fun hb => ?_, fun hb => ?_⟩
    · refine st_ret (ev_bl ⟨_, rfl, ?_⟩)
      have hl : xs.length ≠ 2 := by
        simp at hb
        omega
      rw [isLine_len hl]
    · have hl : xs.length = 2 := by
        simp at hb
        omega
      obtain ⟨a, b, rfl⟩ : ∃ a b, xs = [a, b] := by
        match xs, hl with
        | [a, b], _ => exact ⟨a, b, rfl⟩
      refine st_next (st_seq (st_unpack (ev_var rfl ⟨_, rfl, rfl, tg_cons (tg_cons (tg_nil ?_))⟩)))
      walk_at "dd"
      refine ⟨fun hb => ?_, fun hb => ⟨fun _ => ?_, fun z => nomatch z⟩⟩
      · obtain ⟨ds, rfl⟩ := isTupT_true (d := a) (by simpa using hb)
        walk_at "dd"
        refine ⟨fun hb => ?_, fun hb => ?_⟩
        · walk_at "dd"
          refine ⟨fun hb2 => ?_, fun hb2 => ?_⟩
          · refine st_ret (ev_bl ⟨_, rfl, ?_⟩)
            have h8 : ¬ ds.length ≤ 8 := by
              simp at hb2
              omega
            rw [isLine_disc (fun z => h8 z.2)]
          · have h1 : 1 ≤ ds.length := by
              have := of_decide_eq_true hb
              omega
            have h8 : ds.length ≤ 8 := by
              simp at hb2
              omega
            walk_at "dd"
            refine ev_callP ?_
            walk_at "dd"
            refine ⟨⟨_, _, rfl, by omega, by omega⟩, fun d ⟨v, n, ev, ed⟩ => ?_⟩
            cases ev
            refine ⟨_, ed, fun hb3 => ?_, fun hb3 => ⟨fun _ => ?_, fun z => nomatch z⟩⟩
            · have r1 : isRowD (.tuple ds) ds.length = true := by simpa using hb3
              refine et_not (et_B (ev_callP ?_))
              walk_at "dd"
              refine ⟨⟨_, _, rfl, by omega, by omega⟩, fun d ⟨v, n, ev, ed⟩ => ?_⟩
              cases ev
              refine ⟨_, ed, fun hb4 => ?_, fun hb4 => ?_⟩
              · refine st_ret (ev_bl ⟨_, rfl, ?_⟩)
                rw [isLine_row2 (by simpa using hb4)]
              · have r2 : isRowD b ((ds.length : Int) + 1) = true := by simpa using hb4
                obtain ⟨ss, rfl, hs⟩ := isRowD_tup r2
                refine st_next (st_ret (ev_cb (ea_cons (ev_new (en_lcT (wipe1 3) ?_)))))
                have hcl := cutD_le ss (some 1) (some (-1))
                have hz : (ds ++ DL.cutD ss (some 1) (some (-1))).length ≤ 100000 := by
                  rw [List.length_append]
                  omega
                have hit : ∀ d' ∈ ds ++ DL.cutD ss (some 1) (some (-1)), isRowItem d' = true := fun d' hd => by
                  rcases List.mem_append.mp hd with hd | hd
                  · exact isRowD_mem r1 hd
                  · exact isRowD_mem r2 (cutD_mem hd)
                walk_at "dd"
                refine ro_catT (by omega) ?_
                have hfin := isLine_in h1 h8 r1 r2
                revert hfin hz hit
                generalize ds ++ DL.cutD ss (some 1) (some (-1)) = xs
                intro hz hit hfin
                refine ⟨xs, rfl, hz, fun i acc => acc = ((xs.take i).map fun d => PyData.bool (decide (0 < numD d))), ⟨rfl, fun i D d' acc hi hJ hin => ?_⟩, fun acc hJ => ?_⟩
                · refine et_yes ⟨fun _ => ?_, fun z => nomatch z⟩
                  subst hJ
                  have hd' := hit d' (List.mem_of_getElem? hi)
                  have hf : isFracD d' = true := (Bool.and_eq_true_iff.mp hd').1
                  obtain ⟨p, q, rfl, hq, hg⟩ := isFracD_true hf
                  refine ev_op (ev_op (ev_var rfl (ev_int (rok_ixsT (d := .int p) rfl (ev_int (rok_b0 ?_))))))
                  show _ = List.map (fun d => PyData.bool (decide (0 < numD d))) (List.take (i + 1) xs)
                  rw [List.take_add_one, hi, List.map_append]
                  rfl
                · refine ea_nil ?_
                  subst hJ
                  rw [List.take_length, show (xs.map fun d => PyData.bool (decide (0 < numD d))) = (xs.map fun d => decide (0 < numD d)).map PyData.bool by rw [List.map_map]; rfl]
                  refine cok_all ⟨_, rfl, ?_⟩
                  rw [hfin, List.all_map]
                  rfl
            · refine st_ret (ev_bl ⟨_, rfl, ?_⟩)
              rw [isLine_row1 (by simpa using hb3)]
        · walk_at "dd"
          refine ⟨fun _ => ?_, fun z => nomatch z⟩
          refine st_ret (ev_bl ⟨_, rfl, ?_⟩)
          have h8 : ¬ 1 ≤ ds.length := by
            have := of_decide_eq_false hb
            omega
          rw [isLine_disc (fun z => h8 z.1)]
      · refine st_ret (ev_bl ⟨_, rfl, ?_⟩)
        cases a <;> first | rfl | cases hb
  · refine st_ret (ev_bl ⟨_, rfl, ?_⟩)
    cases v <;> first | rfl | cases hb
theorem ok_is_line (T : Tx K mg) : FnOk P w K mg base CX0 5 T.a_is_line T.d_is_line p_is_line (sp_is_line K) := by
  refine T.F_is_line.ok sc_is_line (fun vs H Q E h => len_is_line K vs H Q E h) (fun cdv A outer s H vs Q E hr h => ?_)
  exact ⟨t_is_line K, (pss_cons (ps_if (PW.pt (pw_or (pt_not (pt_val (pe_callB call_isi (by rfl) T.n_isinstance (by decide +kernel) (pa_cons (pv 0) (pa_cons (pe_bltn (v := .ty "tuple") (by rfl) T.n_tuple (by decide +kernel) rfl) pa_nil))))) (pw_or1 (pt_cmpR op_ne (pe_callB call_len_seq (by rfl) T.n_len (by decide +kernel) (pa_cons (pv 0) pa_nil)) pe_int (nomark _))))) (pss_one (ps_ret pe_bl)) pss_nil)
  (pss_cons (ps_asg (pv 0) (pg_tup (by rfl) (pgs_cons (pg_name (i := 1) sc_is_line.nd rfl (Or.inl rfl)) (pgs_cons (pg_name (i := 2) sc_is_line.nd rfl (Or.inl rfl)) pgs_nil))))
  (pss_cons (ps_if (PW.pt (pw_or (pt_not (pt_val (pe_callB call_isi (by rfl) T.n_isinstance (by decide +kernel) (pa_cons (pv 1) (pa_cons (pe_bltn (v := .ty "tuple") (by rfl) T.n_tuple (by decide +kernel) rfl) pa_nil))))) (pw_or1 (pt_not (pt_chain op_le op_le pe_int (pe_callB call_len_seq (by rfl) T.n_len (by decide +kernel) (pa_cons (pv 1) pa_nil)) (pe_glob rfl T.c_MOST_DISCS ⟨_, rfl⟩)))))) (pss_one (ps_ret pe_bl)) pss_nil)
  (pss_cons (ps_if (PW.pt (pw_or (pt_not (pt_val (pe_call (ok_is_row_of_fractions T) (hr.mono (by decide)) rfl T.g_is_row_of_fractions T.F_is_row_of_fractions.kp (b_is_row_of_fractions T) .nil pass0 (pa_cons (pv 1) (pa_cons (pe_callB call_len_seq (by rfl) T.n_len (by decide +kernel) (pa_cons (pv 1) pa_nil)) pa_nil))))) (pw_or1 (pt_not (pt_val (pe_call (ok_is_row_of_fractions T) (hr.mono (by decide)) rfl T.g_is_row_of_fractions T.F_is_row_of_fractions.kp (b_is_row_of_fractions T) .nil pass0 (pa_cons (pv 2) (pa_cons (pe_op op_addA (pe_callB call_len_seq (by rfl) T.n_len (by decide +kernel) (pa_cons (pv 1) pa_nil)) pe_int) pa_nil)))))))) (pss_one (ps_ret pe_bl)) pss_nil)
  (pss_one (ps_ret (pe_callB (cr_all rfl) (by rfl) T.n_all (by decide +kernel) (pa_cons (pe_lc (own := [("number", 3)]) (by rfl) sc_is_line.nd (pi_tup (pe_op op_addA (pv 1) (pe_slice sl_any (pv 2) (po_some pe_int) (po_some (pe_un un_neg pe_int))))) (blkOk_by (own := [("number", 3)]) (N := N_is_line) (sc := defScope s_is_line) (by decide +kernel)) (fun _ _ _ _ _ => pg_name (i := 3) sc_is_line.nd rfl (Or.inl rfl)) (fun _ _ _ _ _ => pts_nil) (fun _ _ _ _ _ => (pe_cmpR op_gt (pe_ix ix_seq (pv 3) pe_int (fun _ _ => rfl)) pe_int (nomark _)))) pa_nil)))))))), pure_is_line K vs H Q E h⟩
/-! ### _law_well -/
def sp__law_well (K : PySem.W.Frag) : Sp := fun vs H Q _ => ∃ (a : Addr) (ns : List Int) (n : Nat), vs = [.ref a, .int (n : Int)] ∧ SqL K H a (ns.map V.int) ∧ ns.length ≤ 63 ∧ n ≤ 100 ∧ ∀ p H', Same H H' → H p = none → WellAt H' p → Q (.ref p) H'
theorem len__law_well (K : PySem.W.Frag) (vs : List V) (H : Hp) (Q : VK) (E : XK) (h : sp__law_well K vs H Q E) : vs.length = p__law_well.length := by
  obtain ⟨a, ns, n, rfl, _⟩ := h
  rfl
theorem cutV_ints (ns : List Int) (lo hi : Option Int) : ∃ ms : List Int, cutV (ns.map V.int) lo hi = ms.map V.int ∧ ms.length ≤ ns.length := by
  refine ⟨(ns.drop (HT.sIx ns.length 0 lo)).take (HT.sIx ns.length ns.length hi - HT.sIx ns.length 0 lo), ?_, ?_⟩
  · unfold L2.cutV
    rw [List.length_map, List.map_take, List.map_drop]
  · rw [List.length_take, List.length_drop]
    omega
def t__law_well (K : PySem.W.Frag) : TS :=
  (tSeq (tAsg (tIf (tTest (tOp (rI0 fun i j => .bl (decide (i < j))) (tVar 1) (tCB (rLenQ K) (tCons (tVar 0) tNil)))) (tCB rIntQ (tCons (tOp (rIx K) (tVar 0) (tVar 1)) tNil)) (tOp (rAddA K) (tOp (rAddA K) (tOp (rMulA K) (tC (.int 6133)) (tVar 1)) (tC (.int 941))) (tOp rModA (tCB rIntQ (tCons (tCB (rSum K) (tCons (tSl (rSlX2 K) (tVar 0) tNoPart (tPart (tC (.int 3)))) tNil)) tNil)) (tC (.int 1000211))))) (gName 2))
  (tSeq (tAsg (tOp (rAddA K) (tC (.int 71993)) (tOp (rMulA K) (tC (.int 2213)) (tVar 1))) (gName 3))
  (tSeq (tFor (iList K (tOp (rAddA K) (tSl (rSlX2 K) (tVar 0) tNoPart (tPart (tC (.int 6)))) (tLst (tCons (tVar 2) tNil)))) (gName 4) (tAsg (tOp rModA (tCB rIntQ (tCons (tOp (rAddA K) (tOp (rAddA K) (tOp (rMulA K) (tVar 3) (tC (.int 39373))) (tOp rModA (tCB rIntQ (tCons (tVar 4) tNil)) (tC (.int 2147483549)))) (tC (.int 23))) tNil)) (tC (.int 2147483549))) (gName 3)))
  (tRet (tLst (tCons (tIf (tOr (tTest (tOp (rI0 fun i j => .bl (decide (i < j))) (tVar 2) (tC (.int 0)))) (tTest (tOp (rI0 fun i j => .bl (decide (j ≤ i))) (tVar 2) (tOp (rI CPow fun i j => .int (i ^ j.toNat)) (tC (.int 10)) (tC (.int 18)))))) (tCB rAbsQ (tCons (tVar 2) tNil)) (tC (.int 0))) (tCons (tVar 3) (tCons (tC (.int 0)) tNil))))))))
theorem pure__law_well (K : PySem.W.Frag) (vs : List V) (H : Hp) (Q : VK) (E : XK) (h : sp__law_well K vs H Q E) : t__law_well K { nx := fun _ H' => Q .non H', rt := Q } (L2.start N__law_well vs) H := by
  obtain ⟨a, ns, n, rfl, hS, hlen, hn, q⟩ := h
  unfold t__law_well
  have own : ∀ Q : VK, (∀ (o : Int) H1, Same H H1 → Q (.int o) H1) → (tIf (tTest (tOp (rI0 fun i j => .bl (decide (i < j))) (tVar 1) (tCB (rLenQ K) (tCons (tVar 0) tNil)))) (tCB rIntQ (tCons (tOp (rIx K) (tVar 0) (tVar 1)) tNil))
      (tOp (rAddA K) (tOp (rAddA K) (tOp (rMulA K) (tC (.int 6133)) (tVar 1)) (tC (.int 941))) (tOp rModA (tCB rIntQ (tCons (tCB (rSum K) (tCons (tSl (rSlX2 K) (tVar 0) tNoPart (tPart (tC (.int 3)))) tNil)) tNil)) (tC (.int 1000211))))) (L2.start N__law_well [.ref a, .int (n : Int)]) H Q := fun Q q => by
    refine ⟨_, rfl, _, rfl, a, _, rfl, .inl hS, _, _, rfl, rfl, _, rfl, ?_⟩
    refine ite2 (fun hb => ?_) (fun hb => ?_)
    · have hb' : n < ns.length := by
        have := of_decide_eq_true hb
        rw [List.length_map] at this
        omega
      exact ⟨_, rfl, _, rfl, .inl ⟨a, _, (n : Int), .int ns[n], rfl, rfl, hS, atI_nat (by rw [List.getElem?_map, List.getElem?_eq_getElem hb']; rfl), .inl ⟨_, rfl, q _ H (Same.refl H)⟩⟩⟩
    · obtain ⟨ms, em, hm⟩ := cutV_ints ns none (some 3)
      refine ⟨_, rfl, .inl ⟨_, _, rfl, rfl, .inl ⟨by decide, by decide⟩, .inl ⟨_, _, rfl, rfl, ?_⟩⟩⟩
      refine ⟨_, rfl, 3, rfl, .inr ⟨a, _, rfl, hS, fun p hp => ?_⟩⟩
      refine ⟨p, ms, rfl, .inl (.inl (by rw [upd_same, em])), .inl ⟨_, rfl, .inl ⟨_, _, rfl, rfl, (by show (0 : Int) < 1000211; decide), .inl ⟨_, _, rfl, rfl, q _ _ (same_upd hp)⟩⟩⟩⟩
  refine own _ fun o H1 s1 => ?_
  refine ⟨_, rfl, .inl ⟨_, _, rfl, rfl, .inl ⟨by decide, by decide⟩, .inl ⟨_, _, rfl, rfl, ?_⟩⟩⟩
  obtain ⟨ms, em, hm⟩ := cutV_ints ns none (some 6)
  refine ⟨_, rfl, 6, rfl, .inr ⟨a, _, rfl, s1.seq hS, fun p hp => ?_⟩⟩
  rw [em]
  have s2 : Same H1 (upd H1 p (.lst (ms.map V.int))) := same_upd hp
  refine ⟨_, rfl, (by show 1 ≤ sizeLine; decide), fun p2 hp2 => ?_⟩
  have s3 : Same (upd H1 p (.lst (ms.map V.int))) (upd (upd H1 p (.lst (ms.map V.int))) p2 (.lst [.int o])) := same_upd hp2
  refine .inr (.inr ⟨p, p2, ms.map V.int, [.int o], rfl, rfl, s3 _ _ upd_same, upd_same, (by rw [List.length_map]; show ms.length + 1 ≤ sizeLine; exact sz_ok (by omega)), fun p3 hp3 => ?_⟩)
  have s4 : Same (upd (upd H1 p (.lst (ms.map V.int))) p2 (.lst [.int o])) (upd (upd (upd H1 p (.lst (ms.map V.int))) p2 (.lst [.int o])) p3 (.lst (ms.map V.int ++ [.int o]))) := same_upd hp3
  generalize hH4 : (upd (upd (upd H1 p (.lst (ms.map V.int))) p2 (.lst [.int o])) p3 (.lst (ms.map V.int ++ [.int o]))) = H4 at s4 ⊢
  have s14 : Same H H4 := ((s1.trans s2).trans s3).trans s4
  have e4 : H4 p3 = some (.lst ((ms ++ [o]).map V.int)) := by
    rw [← hH4, upd_same, List.map_append]
    rfl
  refine ⟨p3, rfl, ⟨_, .inl (.inl e4)⟩, for_list (xs := (ms ++ [o]).map V.int) (fun i σ H' => ∃ (m : Int) (v : Option V), σ = [some (.ref a), some (.int (n : Int)), some (.int o), some (.int m), v] ∧ 0 ≤ m ∧ m < 2147483549 ∧ Same H4 H')
    ⟨71993 + 2213 * (n : Int), none, rfl, by omega, by omega, Same.refl _⟩ (fun i σ H' _ ⟨m, v, _, _, _, s5⟩ => s5.seq (.inl (.inl e4))) (fun i x σ H' hi ⟨m, v, e, h0, h1, s5⟩ => ?_) (fun σ H' ⟨m, v, e, h0, h1, s5⟩ => ?_)⟩
  · subst e
    obtain ⟨z, rfl⟩ : ∃ z, x = V.int z := by
      rw [List.getElem?_map] at hi
      cases e : (ms ++ [o])[i]? with
      | none => rw [e] at hi; cases hi
      | some z => rw [e] at hi; exact ⟨z, (Option.some.inj hi).symm⟩
    refine ⟨_, rfl, .inl ⟨_, _, rfl, rfl, .inl ⟨by omega, by omega⟩, _, rfl, .inl ⟨_, rfl, .inl ⟨_, _, rfl, rfl, (by show (0 : Int) < 2147483549; decide), .inl ⟨_, _, rfl, rfl, .inl ⟨_, _, rfl, rfl, .inl ⟨_, rfl, .inl ⟨_, _, rfl, rfl, (by show (0 : Int) < 2147483549; decide), ?_⟩⟩⟩⟩⟩⟩⟩⟩
    exact ⟨_, some (.int z), rfl, Int.emod_nonneg _ (by decide), Int.emod_lt_of_pos _ (by decide), s5⟩
  · subst e
    have fin : ∀ (z : Int) (H5 : Hp), 0 ≤ z → H5 = H' → (tCons (tVar 3) (tCons (tC (.int 0)) tNil)) [some (.ref a), some (.int (n : Int)), some (.int o), some (.int m), v] H5 (fun xs H2 => (V.int z :: xs).length ≤ sizeLine ∧ ∀ p, H2 p = none → Q (.ref p) (upd H2 p (.lst (V.int z :: xs)))) := fun z H5 hz e5 => by
      subst e5
      refine ⟨_, rfl, (by show 3 ≤ sizeLine; decide), fun p5 hp5 => q p5 _ ((s14.trans s5).trans (same_upd hp5)) ?_ ⟨z, m, 0, upd_same, hz, h0, Int.lt_trans h1 (by decide)⟩⟩
      exact (s14.trans s5).free hp5
    have hpow : (10 : Int) ^ (18 : Int).toNat = 1000000000000000000 := by decide
    refine ⟨_, rfl, _, _, rfl, rfl, _, rfl, ?_⟩
    refine ite2 (fun hb => ?_) (fun hb => ?_)
    · refine iteT ⟨_, rfl, _, rfl, fin _ _ ?_ rfl⟩
      split <;> omega
    · refine ⟨_, rfl, _, _, rfl, rfl, ⟨by decide, by decide, by decide⟩, _, _, rfl, rfl, _, rfl, ?_⟩
      refine ite2 (fun hb2 => ?_) (fun hb2 => ?_)
      · refine ⟨_, rfl, _, rfl, fin _ _ ?_ rfl⟩
        split <;> omega
      · exact fin 0 _ (Int.le_refl _) rfl
theorem ok__law_well (T : Tx K mg) : FnOk P w K mg base CX0 1 T.a__law_well T.d__law_well p__law_well (sp__law_well K) := by
  refine T.F__law_well.ok sc__law_well (fun vs H Q E h => len__law_well K vs H Q E h) (fun cdv A outer s H vs Q E hr h => ?_)
  exact ⟨t__law_well K, (pss_cons (ps_set (i := 2) sc__law_well.nd rfl (Or.inl rfl) (pe_ifExp (pt_cmpR op_lt (pv 1) (pe_callB call_len_seq (by rfl) T.n_len (by decide +kernel) (pa_cons (pv 0) pa_nil)) (nomark _)) (pe_callTy call_int1 (by rfl) T.n_int (by decide +kernel) (pa_cons (pe_ix ix_seq (pv 0) (pv 1) (fun _ _ => rfl)) pa_nil)) (pe_op op_addA (pe_op op_addA (pe_op op_mulA pe_int (pv 1)) pe_int) (pe_op op_modA (pe_callTy call_int1 (by rfl) T.n_int (by decide +kernel) (pa_cons (pe_callB (cr_sum rfl) (by rfl) T.n_sum (by decide +kernel) (pa_cons (pe_slice sl_any (pv 0) po_none (po_some pe_int)) pa_nil)) pa_nil)) pe_int))))
  (pss_cons (ps_set (i := 3) sc__law_well.nd rfl (Or.inl rfl) (pe_op op_addA pe_int (pe_op op_mulA pe_int (pv 1))))
  (pss_cons (ps_for PassesOwn.never rfl (pi_list (pe_op op_addA (pe_slice sl_any (pv 0) po_none (po_some pe_int)) (pe_lst (pa_cons (pv 2) pa_nil)))) (pg_name (i := 4) sc__law_well.nd rfl (Or.inl rfl)) (pss_one (ps_set (i := 3) sc__law_well.nd rfl (Or.inl rfl) (pe_op op_modA (pe_callTy call_int1 (by rfl) T.n_int (by decide +kernel) (pa_cons (pe_op op_addA (pe_op op_addA (pe_op op_mulA (pv 3) pe_int) (pe_op op_modA (pe_callTy call_int1 (by rfl) T.n_int (by decide +kernel) (pa_cons (pv 4) pa_nil)) pe_int)) pe_int) pa_nil)) pe_int))))
  (pss_one (ps_ret (pe_lst (pa_cons (pe_ifExp (PW.pt (pw_or (pt_cmpR op_lt (pv 2) pe_int (nomark _)) (pw_or1 (pt_cmpR op_ge (pv 2) (pe_op op_pow pe_int pe_int) (nomark _))))) (pe_callB call_abs (by rfl) T.n_abs (by decide +kernel) (pa_cons (pv 2) pa_nil)) pe_int) (pa_cons (pv 3) (pa_cons pe_int pa_nil))))))))), pure__law_well K vs H Q E h⟩
/-! ### _law_pull -/

def pre__law_pull : List PyData → Prop := fun ds => ∃ m : Int, ds = [.int m] ∧ 0 < m ∧ m < 1000001
def post__law_pull : List PyData → PyData → Prop := fun ds d => ∃ m z : Int, ds = [.int m] ∧ d = .int z ∧ 0 ≤ z ∧ z < m
abbrev sp__law_pull (K : PySem.W.Frag) : Sp := SpW K pre__law_pull post__law_pull
theorem len__law_pull (K : PySem.W.Frag) (vs : List V) (H : Hp) (Q : VK) (E : XK) (h : sp__law_pull K vs H Q E) : vs.length = p__law_pull.length := len_W (n := 1) h fun ds hp => by
  obtain ⟨m, e, hm0, hm1⟩ := hp
  rw [e]; rfl
def t__law_pull (K : PySem.W.Frag) : TS :=
  (tSeq (tIfS (tTest (tOp (rI0 fun i j => .bl (decide (j < i))) (tOp (rIx K) (tVar 0) (tC (.int 0))) (tC (.int 0)))) (tSeq (tAsg (tCB rDivmodQ (tCons (tOp (rIx K) (tVar 0) (tC (.int 0))) (tCons (tVar 1) tNil))) (gTup K 2 (gCons (gSub (tVar 0) (tC (.int 0)) rSetL) (gCons (gName 2) gNil))))
  (tRet (tVar 2))) tNext)
  (tSeq (tAsg (tOp (rAddA K) (tOp (rIx K) (tVar 0) (tC (.int 2))) (tC (.int 1))) (gSub (tVar 0) (tC (.int 2)) rSetL))
  (tSeq (tAsg (tOp (rAddA K) (tC (.int 31013)) (tOp (rMulA K) (tC (.int 6)) (tCB rIntQ (tCons (tOp (rIx K) (tVar 0) (tC (.int 2))) tNil)))) (gName 3))
  (tSeq (tAsg (tOp rModA (tCB rIntQ (tCons (tOp (rAddA K) (tOp (rAddA K) (tOp (rMulA K) (tOp (rIx K) (tVar 0) (tC (.int 1))) (tVar 3)) (tOp (rMulA K) (tC (.int 60077)) (tOp (rIx K) (tVar 0) (tC (.int 2))))) (tC (.int 31))) tNil)) (tC (.int 2147483549))) (gSub (tVar 0) (tC (.int 1)) rSetL))
  (tRet (tOp rModA (tCB rIntQ (tCons (tOp rFdA (tOp (rIx K) (tVar 0) (tC (.int 1))) (tC (.int 47))) tNil)) (tVar 1)))))))
theorem pure__law_pull (K : PySem.W.Frag) (vs : List V) (H : Hp) (Q : VK) (E : XK) (h : sp__law_pull K vs H Q E) : t__law_pull K { nx := fun _ H' => Q .non H', rt := Q } (L2.start N__law_pull vs) H := body_W h (by decide) fun B w ds hp => by
  obtain ⟨m, e, hm0, hm1⟩ := hp
  subst e
  unfold t__law_pull
  refine st_seq (st_if (et_test (ev_op ?_)))
  refine ev_well rfl (ev_int ⟨0, rfl, .inl rfl, fun n hn _ => ?_⟩)
  refine ev_int (rok_b0 ⟨_, rfl, fun hb => ?_, fun hb => ?_⟩)
  · refine st_seq (st_dmWell rfl ?_)
    refine ea_cons (ev_well rfl (ev_int ⟨0, rfl, .inl rfl, fun n hn _ => ea_cons (ev_var rfl (ea_nil ⟨n, m, rfl, hn rfl, hm0, by omega, ?_⟩))⟩))
    refine st_ret (ev_var rfl ⟨m, _, rfl, rfl, Int.emod_nonneg _ (by omega), Int.emod_lt_of_pos _ hm0⟩)
  · refine st_next (st_seq (st_setWell rfl ?_))
    refine ev_op (ev_well rfl (ev_int ⟨2, rfl, .inr (.inr rfl), fun n _ _ => ?_⟩))
    refine ev_int (ro_add ?_)
    refine ev_int ⟨_, 2, rfl, rfl, .inr (.inr rfl), by omega, by omega, ?_⟩
    refine st_seq (st_asg ?_)
    refine ev_op (ev_int (ev_op (ev_int (ev_cb (ea_cons (ev_well rfl (ev_int ⟨2, rfl, .inr (.inr rfl), fun n _ _ => ?_⟩)))))))
    refine ea_nil (co_int (ro_mul (.inl (by decide)) (ro_add ?_)))
    refine st_seq (st_setWell rfl ?_)
    refine ev_op (ev_cb (ea_cons (ev_op (ev_op (ev_op (ev_well rfl (ev_int ⟨1, rfl, .inr (.inl rfl), fun b _ hb => ?_⟩)))))))
    refine ev_var rfl (ro_mul (.inl ?_) ?_)
    · have := hb rfl
      omega
    refine ev_op (ev_int (ev_well rfl (ev_int ⟨2, rfl, .inr (.inr rfl), fun c _ _ => ?_⟩)))
    refine ro_mul (.inl (by decide)) (ro_add ?_)
    refine ev_int (ro_add (ea_nil (co_int (ev_int (ro_mod (by decide) ?_)))))
    refine ev_int ⟨_, 1, rfl, rfl, .inr (.inl rfl), by omega, fun _ => ⟨Int.emod_nonneg _ (by decide), Int.lt_trans (Int.emod_lt_of_pos _ (by decide)) (by decide)⟩, ?_⟩
    refine st_ret (ev_op (ev_cb (ea_cons (ev_op (ev_well rfl (ev_int ⟨1, rfl, .inr (.inl rfl), fun b _ hb => ?_⟩))))))
    refine ev_int (ro_fd (by decide) (ea_nil (co_int (ev_var rfl (ro_mod hm0 ?_)))))
    exact ⟨m, _, rfl, rfl, Int.emod_nonneg _ (by omega), Int.emod_lt_of_pos _ hm0⟩
theorem ok__law_pull (T : Tx K mg) : FnOk P w K mg base CX0 1 T.a__law_pull T.d__law_pull p__law_pull (sp__law_pull K) := by
  refine T.F__law_pull.ok sc__law_pull (fun vs H Q E h => len__law_pull K vs H Q E h) (fun cdv A outer s H vs Q E hr h => ?_)
  exact ⟨t__law_pull K, (pss_cons (ps_if (pt_cmpR op_gt (pe_ix ix_seq (pv 0) pe_int (fun _ _ => rfl)) pe_int (nomark _)) (pss_cons (ps_asg (pe_callB call_divmodW (by rfl) T.n_divmod (by decide +kernel) (pa_cons (pe_ix ix_seq (pv 0) pe_int (fun _ _ => rfl)) (pa_cons (pv 1) pa_nil))) (pg_tup (by rfl) (pgs_cons (pg_sub (pv 0) pe_int set_list) (pgs_cons (pg_name (i := 2) sc__law_pull.nd rfl (Or.inl rfl)) pgs_nil))))
  (pss_one (ps_ret (pv 2)))) pss_nil)
  (pss_cons (ps_asg (pe_op op_addA (pe_ix ix_seq (pv 0) pe_int (fun _ _ => rfl)) pe_int) (pg_sub (pv 0) pe_int set_list))
  (pss_cons (ps_set (i := 3) sc__law_pull.nd rfl (Or.inl rfl) (pe_op op_addA pe_int (pe_op op_mulA pe_int (pe_callTy call_int1 (by rfl) T.n_int (by decide +kernel) (pa_cons (pe_ix ix_seq (pv 0) pe_int (fun _ _ => rfl)) pa_nil)))))
  (pss_cons (ps_asg (pe_op op_modA (pe_callTy call_int1 (by rfl) T.n_int (by decide +kernel) (pa_cons (pe_op op_addA (pe_op op_addA (pe_op op_mulA (pe_ix ix_seq (pv 0) pe_int (fun _ _ => rfl)) (pv 3)) (pe_op op_mulA pe_int (pe_ix ix_seq (pv 0) pe_int (fun _ _ => rfl)))) pe_int) pa_nil)) pe_int) (pg_sub (pv 0) pe_int set_list))
  (pss_one (ps_ret (pe_op op_modA (pe_callTy call_int1 (by rfl) T.n_int (by decide +kernel) (pa_cons (pe_op op_fdA (pe_ix ix_seq (pv 0) pe_int (fun _ _ => rfl)) pe_int) pa_nil)) (pv 1)))))))), pure__law_pull K vs H Q E h⟩
/-! ### _law_one -/

def pre__law_one : List PyData → Prop := fun ds => ∃ xs : List PyData, ds = [.list xs] ∧ 0 < xs.length ∧ xs.length < 1000
def post__law_one : List PyData → PyData → Prop := fun ds d => ∃ xs : List PyData, ds = [.list xs] ∧ d ∈ xs
abbrev sp__law_one (K : PySem.W.Frag) : Sp := SpW K pre__law_one post__law_one
theorem len__law_one (K : PySem.W.Frag) (vs : List V) (H : Hp) (Q : VK) (E : XK) (h : sp__law_one K vs H Q E) : vs.length = p__law_one.length := len_W (n := 1) h fun ds hp => by
  obtain ⟨xs, e, h0, h1⟩ := hp
  rw [e]; rfl
def t__law_one (K : PySem.W.Frag) : TS :=
  (tRet (tOp (rIx K) (tVar 1) (tCall (sp__law_pull K) [] E0 (tCons (tVar 0) (tCons (tCB (rLenQ K) (tCons (tVar 1) tNil)) tNil)))))
theorem pure__law_one (K : PySem.W.Frag) (vs : List V) (H : Hp) (Q : VK) (E : XK) (h : sp__law_one K vs H Q E) : t__law_one K { nx := fun _ H' => Q .non H', rt := Q } (L2.start N__law_one vs) H := body_W h (by decide) fun B w ds hp => by
  obtain ⟨xs, e, h0, h1⟩ := hp
  subst e
  unfold t__law_one
  refine st_ret (ev_op (ev_var rfl (ev_callW rfl ?_)))
  walk_at "dd"
  refine ⟨⟨_, rfl, by omega, by omega⟩, fun d ⟨m, z, em, ed, hz0, hz1⟩ => ?_⟩
  cases em
  subst ed
  obtain ⟨j, rfl⟩ := Int.eq_ofNat_of_zero_le hz0
  have hj : j < xs.length := by omega
  exact rok_ixsL (d := xs[j]) (atI_nat (List.getElem?_eq_getElem hj)) ⟨xs, rfl, List.getElem_mem hj⟩
theorem ok__law_one (T : Tx K mg) : FnOk P w K mg base CX0 2 T.a__law_one T.d__law_one p__law_one (sp__law_one K) := by
  refine T.F__law_one.ok sc__law_one (fun vs H Q E h => len__law_one K vs H Q E h) (fun cdv A outer s H vs Q E hr h => ?_)
  exact ⟨t__law_one K, (pss_one (ps_ret (pe_ix ix_seq (pv 1) (pe_call (ok__law_pull T) (hr.mono (by decide)) rfl T.g__law_pull T.F__law_pull.kp (b__law_pull T) .nil pass0 (pa_cons (pv 0) (pa_cons (pe_callB call_len_seq (by rfl) T.n_len (by decide +kernel) (pa_cons (pv 1) pa_nil)) pa_nil))) (fun _ _ => rfl)))), pure__law_one K vs H Q E h⟩
/-! ### _law_gcd -/

def pre__law_gcd : List PyData → Prop := fun ds => ∃ a b : Int, ds = [.int a, .int b]
def post__law_gcd : List PyData → PyData → Prop := fun ds d => ∃ a b : Int, ds = [.int a, .int b] ∧ d = .int ((Nat.gcd a.natAbs b.natAbs : Nat) : Int)
abbrev sp__law_gcd (K : PySem.W.Frag) : Sp := SpP K pre__law_gcd post__law_gcd
theorem len__law_gcd (K : PySem.W.Frag) (vs : List V) (H : Hp) (Q : VK) (E : XK) (h : sp__law_gcd K vs H Q E) : vs.length = p__law_gcd.length := len_P (n := 2) h fun ds hp => by
  obtain ⟨a, b, e⟩ := hp
  rw [e]; rfl
def t__law_gcd (K : PySem.W.Frag) : TS :=
  (tSeq (tPar 0 1 (tCons (tCB rAbsQ (tCons (tVar 0) tNil)) (tCons (tCB rAbsQ (tCons (tVar 1) tNil)) tNil)))
  (tSeq (tWhile (tTest (tOp (rI0 fun i j => .bl (decide (j < i))) (tVar 1) (tC (.int 0)))) (tPar 0 1 (tCons (tVar 1) (tCons (tOp rModA (tCB rIntQ (tCons (tVar 0) tNil)) (tVar 1)) tNil))))
  (tRet (tVar 0))))
theorem pure__law_gcd (K : PySem.W.Frag) (vs : List V) (H : Hp) (Q : VK) (E : XK) (h : sp__law_gcd K vs H Q E) : t__law_gcd K { nx := fun _ H' => Q .non H', rt := Q } (L2.start N__law_gcd vs) H := body_P h fun B ds hW hp => by
  obtain ⟨a, b, e⟩ := hp
  subst e
  unfold t__law_gcd
  refine st_seq (st_par ?_)
  walk_at "dd"
  refine ⟨_, _, rfl, ?_⟩
  refine st_seq (st_while (fun m L2 Γ2 => ∃ x y : Int, L2 = [] ∧ Γ2 = [.d (.int x), .d (.int y)] ∧ 0 ≤ x ∧ 0 ≤ y ∧ m = y.toNat ∧ Nat.gcd x.natAbs y.natAbs = Nat.gcd a.natAbs b.natAbs) b.natAbs ⟨_, _, rfl, rfl, ?_, ?_, ?_, ?_⟩ ?_)
  · split <;> omega
  · split <;> omega
  · split <;> omega
  · congr 1 <;> (split <;> omega)
  · rintro m L2 Γ2 ⟨x, y, rfl, rfl, hx, hy, rfl, hg⟩
    walk_at "dd"
    refine ⟨fun hb => ?_, fun hb => ?_⟩
    · have hy' : 0 < y := of_decide_eq_true hb
      refine st_par ?_
      walk_at "dd"
      refine ro_mod hy' (ea_nil ⟨_, _, rfl, (x % y).toNat, ?_, y, x % y, rfl, rfl, hy, Int.emod_nonneg _ (by omega), rfl, ?_⟩)
      · have h1 := Int.emod_lt_of_pos x hy'
        have h2 := Int.emod_nonneg x (show y ≠ 0 by omega)
        omega
      · rw [← hg]
        have e1 : (x % y).natAbs = x.natAbs % y.natAbs := by
          obtain ⟨p, rfl⟩ := Int.eq_ofNat_of_zero_le hx
          obtain ⟨q, rfl⟩ := Int.eq_ofNat_of_zero_le hy
          rw [← Int.natCast_emod]
          simp only [Int.natAbs_natCast]
        rw [e1, Nat.gcd_comm x.natAbs y.natAbs, Nat.gcd_comm y.natAbs (x.natAbs % y.natAbs), ← Nat.gcd_rec]
    · have hy' : y = 0 := by
        have := of_decide_eq_false hb
        omega
      subst hy'
      refine st_ret (ev_var rfl ⟨a, b, rfl, ?_⟩)
      rw [← hg]
      show PyData.int x = PyData.int ((Nat.gcd x.natAbs 0 : Nat) : Int)
      rw [Nat.gcd_zero_right]
      congr 1
      omega
theorem ok__law_gcd (T : Tx K mg) : FnOk P w K mg base CX0 1 T.a__law_gcd T.d__law_gcd p__law_gcd (sp__law_gcd K) := by
  refine T.F__law_gcd.ok sc__law_gcd (fun vs H Q E h => len__law_gcd K vs H Q E h) (fun cdv A outer s H vs Q E hr h => ?_)
  exact ⟨t__law_gcd K, (pss_cons (ps_par (by rfl) sc__law_gcd.nd rfl rfl (by decide) rfl rfl (pa_cons (pe_callB call_abs (by rfl) T.n_abs (by decide +kernel) (pa_cons (pv 0) pa_nil)) (pa_cons (pe_callB call_abs (by rfl) T.n_abs (by decide +kernel) (pa_cons (pv 1) pa_nil)) pa_nil)) (by rfl))
  (pss_cons (ps_while PassesOwn.never (pt_cmpR op_gt (pv 1) pe_int (nomark _)) (pss_one (ps_par (by rfl) sc__law_gcd.nd rfl rfl (by decide) rfl rfl (pa_cons (pv 1) (pa_cons (pe_op op_modA (pe_callTy call_int1 (by rfl) T.n_int (by decide +kernel) (pa_cons (pv 0) pa_nil)) (pv 1)) pa_nil)) (by rfl))))
  (pss_one (ps_ret (pv 0))))), pure__law_gcd K vs H Q E h⟩
/-! ### _law_cut -/

def pre__law_cut : List PyData → Prop := fun ds => ∃ n m : Int, ds = [.int n, .int m] ∧ m ≠ 0 ∧ m.natAbs < 2 ^ 9000
def post__law_cut : List PyData → PyData → Prop := fun ds d => ∃ n m : Int, ds = [.int n, .int m] ∧ ∃ p q g : Int, d = .tuple [.int p, .int q] ∧ 0 < g ∧ 0 < q ∧ Nat.gcd p.natAbs q.natAbs = 1 ∧ ((n = p * g ∧ m = q * g) ∨ (m < 0 ∧ n = - (p * g) ∧ m = - (q * g)))
abbrev sp__law_cut (K : PySem.W.Frag) : Sp := SpP K pre__law_cut post__law_cut
theorem len__law_cut (K : PySem.W.Frag) (vs : List V) (H : Hp) (Q : VK) (E : XK) (h : sp__law_cut K vs H Q E) : vs.length = p__law_cut.length := len_P (n := 2) h fun ds hp => by
  obtain ⟨n, m, e, hm, hz⟩ := hp
  rw [e]; rfl
def t__law_cut (K : PySem.W.Frag) : TS :=
  (tSeq (tIfS (tTest (tOp (rI0 fun i j => .bl (decide (i < j))) (tVar 1) (tC (.int 0)))) (tPar 0 1 (tCons (tOp (rI0 fun i j => .int (i - j)) (tC (.int 0)) (tVar 0)) (tCons (tOp (rI0 fun i j => .int (i - j)) (tC (.int 0)) (tVar 1)) tNil))) tNext)
  (tSeq (tAsg (tCall (sp__law_gcd K) [] E0 (tCons (tVar 0) (tCons (tVar 1) tNil))) (gName 2))
  (tRet (tTup (tCons (tOp rFdA (tVar 0) (tVar 2)) (tCons (tOp rFdA (tVar 1) (tVar 2)) tNil))))))
theorem pure__law_cut (K : PySem.W.Frag) (vs : List V) (H : Hp) (Q : VK) (E : XK) (h : sp__law_cut K vs H Q E) : t__law_cut K { nx := fun _ H' => Q .non H', rt := Q } (L2.start N__law_cut vs) H := body_P h fun B ds hW hp => by
  obtain ⟨n, m, e, hm, hz⟩ := hp
  subst e
  unfold t__law_cut
  walk_at "dd"
  have main : ∀ (Γ : List Sl) (n' m' : Int), Γ[0]? = some (.d (.int n')) → Γ[1]? = some (.d (.int m')) → 2 < Γ.length → 0 < m' → m'.natAbs < 2 ^ 9000 → ((n = n' ∧ m = m') ∨ (m < 0 ∧ n = - n' ∧ m = - m')) → StP K B [] [] Γ
      (tSeq (tAsg (tCall (sp__law_gcd K) [] E0 (tCons (tVar 0) (tCons (tVar 1) tNil))) (gName 2)) (tRet (tTup (tCons (tOp rFdA (tVar 0) (tVar 2)) (tCons (tOp rFdA (tVar 1) (tVar 2)) tNil)))))
      { nx := fun _ _ => post__law_cut [.int n, .int m] .none, rt := post__law_cut [.int n, .int m] } := fun Γ n' m' h0 h1 hl hm' hz' hr => by
    refine st_seq (st_asg (ev_callP (ea_cons (ev_var h0 (ea_cons (ev_var h1 (ea_nil ⟨⟨_, _, rfl⟩, fun d ⟨a, b, eab, ed⟩ => ?_⟩)))))))
    cases eab
    subst ed
    have k0 : (Γ.set 2 (.d (.int ((Nat.gcd n'.natAbs m'.natAbs : Nat) : Int))))[0]? = some (.d (.int n')) := by rw [List.getElem?_set_ne (by decide)]; exact h0
    have k1 : (Γ.set 2 (.d (.int ((Nat.gcd n'.natAbs m'.natAbs : Nat) : Int))))[1]? = some (.d (.int m')) := by rw [List.getElem?_set_ne (by decide)]; exact h1
    have k2 : (Γ.set 2 (.d (.int ((Nat.gcd n'.natAbs m'.natAbs : Nat) : Int))))[2]? = some (.d (.int ((Nat.gcd n'.natAbs m'.natAbs : Nat) : Int))) := List.getElem?_set_self hl
    obtain ⟨g, hg⟩ : ∃ g : Nat, Nat.gcd n'.natAbs m'.natAbs = g := ⟨_, rfl⟩
    rw [hg] at k0 k1 k2 ⊢
    have hgp : 0 < g := by rw [← hg]; exact Nat.gcd_pos_of_pos_right _ (by omega)
    have hgm : g ≤ m'.natAbs := by rw [← hg]; exact Nat.gcd_le_right _ (by omega)
    have hgz : CDivW n' (g : Int) ∧ CDivW m' (g : Int) := by
      have : (g : Int).natAbs < 2 ^ 9000 := by
        rw [Int.natAbs_natCast]
        exact Nat.lt_of_le_of_lt hgm hz'
      exact ⟨wide_div (by omega) this (by decide) (Nat.le_refl _), wide_div (by omega) this (by decide) (Nat.le_refl _)⟩
    have d1 : (g : Int) ∣ n' := by
      rw [← hg]
      exact Int.ofNat_dvd_left.mpr (Nat.gcd_dvd_left _ _)
    have d2 : (g : Int) ∣ m' := by
      rw [← hg]
      exact Int.ofNat_dvd_left.mpr (Nat.gcd_dvd_right _ _)
    refine st_ret (ev_tup (ea_cons (ev_op (ev_var k0 (ev_var k2 (ro_fdW hgz.1 (ea_cons (ev_op (ev_var k1 (ev_var k2 (ro_fdW hgz.2 (ea_nil ⟨by simp, ?_⟩))))))))))))
    have e1 : n' / (g : Int) * g = n' := Int.ediv_mul_cancel d1
    have e2 : m' / (g : Int) * g = m' := Int.ediv_mul_cancel d2
    refine ⟨n, m, rfl, n' / g, m' / g, g, rfl, by omega, Int.ediv_pos_of_pos_of_dvd hm' (by omega) d2, ?_, ?_⟩
    · rw [Int.natAbs_ediv_of_dvd d1, Int.natAbs_ediv_of_dvd d2, Int.natAbs_natCast]
      rw [Nat.gcd_div (by rw [← hg]; exact Nat.gcd_dvd_left _ _) (by rw [← hg]; exact Nat.gcd_dvd_right _ _), hg]
      exact Nat.div_self hgp
    · rw [e1, e2]
      exact hr
  refine ⟨fun hb => ?_, fun hb => ?_⟩
  · have hb' : m < 0 := of_decide_eq_true hb
    refine st_par ?_
    refine ea_cons (ev_op (ev_int (ev_var rfl (rok_i0 (ea_cons (ev_op (ev_int (ev_var rfl (rok_i0 (ea_nil ⟨_, _, rfl, ?_⟩))))))))))
    exact main _ (0 - n) (0 - m) rfl rfl (by show (2 : Nat) < 3; decide) (by omega) (by omega) (.inr ⟨hb', by omega, by omega⟩)
  · have hb' : ¬ m < 0 := of_decide_eq_false hb
    refine st_next ?_
    exact main _ n m rfl rfl (by show (2 : Nat) < 3; decide) (by omega) hz (.inl ⟨rfl, rfl⟩)
theorem ok__law_cut (T : Tx K mg) : FnOk P w K mg base CX0 2 T.a__law_cut T.d__law_cut p__law_cut (sp__law_cut K) := by
  refine T.F__law_cut.ok sc__law_cut (fun vs H Q E h => len__law_cut K vs H Q E h) (fun cdv A outer s H vs Q E hr h => ?_)
  exact ⟨t__law_cut K, (pss_cons (ps_if (pt_cmpR op_lt (pv 1) pe_int (nomark _)) (pss_one (ps_par (by rfl) sc__law_cut.nd rfl rfl (by decide) rfl rfl (pa_cons (pe_op op_sub pe_int (pv 0)) (pa_cons (pe_op op_sub pe_int (pv 1)) pa_nil)) (by rfl))) pss_nil)
  (pss_cons (ps_set (i := 2) sc__law_cut.nd rfl (Or.inl rfl) (pe_call (ok__law_gcd T) (hr.mono (by decide)) rfl T.g__law_gcd T.F__law_gcd.kp (b__law_gcd T) .nil pass0 (pa_cons (pv 0) (pa_cons (pv 1) pa_nil))))
  (pss_one (ps_ret (pe_tup (pa_cons (pe_op op_fdA (pv 0) (pv 2)) (pa_cons (pe_op op_fdA (pv 1) (pv 2)) pa_nil))))))), pure__law_cut K vs H Q E h⟩
/-! ### _law_amount -/
def isAmt (d : PyData) : Prop := ∃ n m : Int, d = .tuple [.int n, .int m] ∧ 0 < n ∧ n ≤ 40 ∧ 0 < m ∧ m ≤ 7 ∧ Nat.gcd n.natAbs m.natAbs = 1
theorem isAmt.frac {d : PyData} (h : isAmt d) : isFracD d = true := by
  obtain ⟨n, m, rfl, h1, h2, h3, h4, h5⟩ := h
  exact isFracD_of h3 h5
theorem isAmt.pos {d : PyData} (h : isAmt d) : 0 < numD d := by
  obtain ⟨n, m, rfl, h1, h2, h3, h4, h5⟩ := h
  exact h1
theorem isAmt.item {d : PyData} (h : isAmt d) : isRowItem d = true := by
  show (isFracD d && decide (0 ≤ numD d)) = true
  rw [h.frac, decide_eq_true (Int.le_of_lt h.pos)]
  rfl
theorem Int.pos_of_mul_pos_left {p g : Int} (h : 0 < p * g) (hg : 0 < g) : 0 < p := by
  rcases Int.lt_or_le 0 p with h1 | h1
  · exact h1
  · exfalso
    have := Int.mul_nonpos_of_nonpos_of_nonneg h1 (Int.le_of_lt hg)
    omega
theorem Int.le_mul_of_one_le_right' {p g : Int} (hp : 0 ≤ p) (hg : 0 < g) : p ≤ p * g := by
  have := Int.mul_le_mul_of_nonneg_left (show (1 : Int) ≤ g by omega) hp
  omega
def pre__law_amount : List PyData → Prop := fun ds => True ∧ ds = []
def post__law_amount : List PyData → PyData → Prop := fun ds d => isAmt d
abbrev sp__law_amount (K : PySem.W.Frag) : Sp := SpW K pre__law_amount post__law_amount
theorem len__law_amount (K : PySem.W.Frag) (vs : List V) (H : Hp) (Q : VK) (E : XK) (h : sp__law_amount K vs H Q E) : vs.length = p__law_amount.length := len_W (n := 0) h fun ds hp => by
  obtain ⟨_, e⟩ := hp
  rw [e]; rfl
def t__law_amount (K : PySem.W.Frag) : TS :=
  (tSeq (tPar 1 2 (tCons (tCall (sp__law_one K) [] E0 (tCons (tVar 0) (tCons (tLst (tCons (tC (.int 1)) (tCons (tC (.int 2)) (tCons (tC (.int 3)) (tCons (tC (.int 4)) (tCons (tC (.int 4)) (tCons (tC (.int 9)) (tCons (tC (.int 40)) tNil)))))))) tNil))) (tCons (tCall (sp__law_one K) [] E0 (tCons (tVar 0) (tCons (tLst (tCons (tC (.int 1)) (tCons (tC (.int 1)) (tCons (tC (.int 1)) (tCons (tC (.int 2)) (tCons (tC (.int 3)) (tCons (tC (.int 7)) tNil))))))) tNil))) tNil)))
  (tRet (tCall (sp__law_cut K) [] E0 (tCons (tOp (rAddA K) (tC (.int 1)) (tCall (sp__law_pull K) [] E0 (tCons (tVar 0) (tCons (tVar 1) tNil)))) (tCons (tOp (rAddA K) (tC (.int 1)) (tCall (sp__law_pull K) [] E0 (tCons (tVar 0) (tCons (tVar 2) tNil)))) tNil)))))
theorem pure__law_amount (K : PySem.W.Frag) (vs : List V) (H : Hp) (Q : VK) (E : XK) (h : sp__law_amount K vs H Q E) : t__law_amount K { nx := fun _ H' => Q .non H', rt := Q } (L2.start N__law_amount vs) H := body_W h (by decide) fun B w ds hp => by
  obtain ⟨_, e⟩ := hp
  subst e
  unfold t__law_amount
  refine st_seq (st_par ?_)
  have allI : ∀ (ks : List Int), (∀ k ∈ ks, 0 < k ∧ k ≤ 40) → ∀ d ∈ ks.map PyData.int, ∃ k : Int, d = .int k ∧ 0 < k ∧ k ≤ 40 := fun ks hk d hd => by
    obtain ⟨k, h1, rfl⟩ := List.mem_map.mp hd
    exact ⟨k, rfl, hk k h1⟩
  refine ea_cons (ev_callW rfl ?_)
  walk_at "dd"
  refine ⟨⟨_, rfl, by simp, by simp⟩, fun d ⟨xs, ex, hd⟩ => ?_⟩
  cases ex
  obtain ⟨t, rfl, ht0, ht1⟩ := allI [1, 2, 3, 4, 4, 9, 40] (by decide) d hd
  refine ea_cons (ev_callW rfl ?_)
  walk_at "dd"
  refine ⟨⟨_, rfl, by simp, by simp⟩, fun d ⟨xs, ex, hd⟩ => ?_⟩
  cases ex
  obtain ⟨u, rfl, hu0, hu1⟩ : ∃ k : Int, d = .int k ∧ 0 < k ∧ k ≤ 7 := by
    have : ∀ d ∈ ([1, 1, 1, 2, 3, 7] : List Int).map PyData.int, ∃ k : Int, d = .int k ∧ 0 < k ∧ k ≤ 7 := fun d hd => by
      obtain ⟨k, h1, rfl⟩ := List.mem_map.mp hd
      exact ⟨k, rfl, (by decide : ∀ k ∈ ([1, 1, 1, 2, 3, 7] : List Int), 0 < k ∧ k ≤ 7) k h1⟩
    exact this d hd
  refine ea_nil ⟨_, _, rfl, ?_⟩
  refine st_ret (ev_callP (ea_cons (ev_op (ev_int (ev_callW rfl (ea_cons (ev_var rfl (ea_nil ⟨⟨_, rfl, ht0, by omega⟩, fun d ⟨m, z, em, ed, hz0, hz1⟩ => ?_⟩))))))))
  cases em
  subst ed
  refine ro_add (ea_cons (ev_op (ev_int (ev_callW rfl (ea_cons (ev_var rfl (ea_nil ⟨⟨_, rfl, hu0, by omega⟩, fun d ⟨m, y, em, ed, hy0, hy1⟩ => ?_⟩)))))))
  cases em
  subst ed
  refine ro_add (ea_nil ⟨⟨_, _, rfl, by omega, Nat.lt_of_le_of_lt (by omega : _ ≤ 7) (Nat.lt_of_lt_of_le (by decide : 7 < 2 ^ 3) (Nat.pow_le_pow_right (by decide) (show 3 ≤ 9000 by omega)))⟩, fun d ⟨n, m, enm, p, q, g, ed, hg, hq, hpq, hr⟩ => ?_⟩)
  cases enm
  subst ed
  have hr' : 1 + z = p * g ∧ 1 + y = q * g := by
    rcases hr with h | ⟨h, _⟩
    · exact h
    · omega
  refine ⟨p, q, rfl, ?_, ?_, hq, ?_, hpq⟩
  · exact Int.pos_of_mul_pos_left (by rw [← hr'.1]; omega) hg
  · have : p ≤ p * g := Int.le_mul_of_one_le_right' (Int.le_of_lt (Int.pos_of_mul_pos_left (by rw [← hr'.1]; omega) hg)) hg
    omega
  · have : q ≤ q * g := Int.le_mul_of_one_le_right' (Int.le_of_lt hq) hg
    omega
theorem ok__law_amount (T : Tx K mg) : FnOk P w K mg base CX0 3 T.a__law_amount T.d__law_amount p__law_amount (sp__law_amount K) := by
  refine T.F__law_amount.ok sc__law_amount (fun vs H Q E h => len__law_amount K vs H Q E h) (fun cdv A outer s H vs Q E hr h => ?_)
  exact ⟨t__law_amount K, (pss_cons (ps_par (by rfl) sc__law_amount.nd rfl rfl (by decide) rfl rfl (pa_cons (pe_call (ok__law_one T) (hr.mono (by decide)) rfl T.g__law_one T.F__law_one.kp (b__law_one T) .nil pass0 (pa_cons (pv 0) (pa_cons (pe_lst (pa_cons pe_int (pa_cons pe_int (pa_cons pe_int (pa_cons pe_int (pa_cons pe_int (pa_cons pe_int (pa_cons pe_int pa_nil)))))))) pa_nil))) (pa_cons (pe_call (ok__law_one T) (hr.mono (by decide)) rfl T.g__law_one T.F__law_one.kp (b__law_one T) .nil pass0 (pa_cons (pv 0) (pa_cons (pe_lst (pa_cons pe_int (pa_cons pe_int (pa_cons pe_int (pa_cons pe_int (pa_cons pe_int (pa_cons pe_int pa_nil))))))) pa_nil))) pa_nil)) (by rfl))
  (pss_one (ps_ret (pe_call (ok__law_cut T) (hr.mono (by decide)) rfl T.g__law_cut T.F__law_cut.kp (b__law_cut T) .nil pass0 (pa_cons (pe_op op_addA pe_int (pe_call (ok__law_pull T) (hr.mono (by decide)) rfl T.g__law_pull T.F__law_pull.kp (b__law_pull T) .nil pass0 (pa_cons (pv 0) (pa_cons (pv 1) pa_nil)))) (pa_cons (pe_op op_addA pe_int (pe_call (ok__law_pull T) (hr.mono (by decide)) rfl T.g__law_pull T.F__law_pull.kp (b__law_pull T) .nil pass0 (pa_cons (pv 0) (pa_cons (pv 2) pa_nil)))) pa_nil)))))), pure__law_amount K vs H Q E h⟩
/-! ### _law_line -/
def isAmt0 (d : PyData) : Prop := isAmt d ∨ d = .tuple [.int 0, .int 1]
theorem isAmt0.item {d : PyData} (h : isAmt0 d) : isRowItem d = true := by
  rcases h with h | rfl
  · exact h.item
  · decide +kernel
/-- a line of c discs -/
def LineOk (d : PyData) (c : Nat) : Prop := ∃ dd ss : List PyData, d = .tuple [.tuple dd, .tuple ss] ∧ dd.length = c ∧ ss.length = c + 1 ∧ (∀ x ∈ dd, isAmt x) ∧ (∀ x ∈ ss, isAmt0 x) ∧ ∀ i x, 0 < i → i < c → ss[i]? = some x → isAmt x
def pre__law_line : List PyData → Prop := fun ds => ∃ c : Nat, ds = [.int (c : Int)] ∧ 1 ≤ c ∧ c ≤ 8
def post__law_line : List PyData → PyData → Prop := fun ds d => ∃ c : Nat, ds = [.int (c : Int)] ∧ LineOk d c
abbrev sp__law_line (K : PySem.W.Frag) : Sp := SpW K pre__law_line post__law_line
theorem len__law_line (K : PySem.W.Frag) (vs : List V) (H : Hp) (Q : VK) (E : XK) (h : sp__law_line K vs H Q E) : vs.length = p__law_line.length := len_W (n := 1) h fun ds hp => by
  obtain ⟨c, e, hc1, hc8⟩ := hp
  rw [e]; rfl
def t__law_line (K : PySem.W.Frag) : TS :=
  (tSeq (tPar3 2 3 4 (tCons (tCall (sp__law_pull K) [] E0 (tCons (tVar 0) (tCons (tC (.int 4)) tNil))) (tCons (tLst tNil) (tCons (tLst tNil) tNil))))
  (tSeq (tFor (iRng1 (tCons (tVar 1) tNil)) (gName 5) (tSeq (tDrop (tBM K "list" rAppend (tVar 3) (tCons (tCall (sp__law_amount K) [] E0 (tCons (tVar 0) tNil)) tNil)))
  (tDrop (tBM K "list" rAppend (tVar 4) (tCons (tCall (sp__law_amount K) [] E0 (tCons (tVar 0) tNil)) tNil)))))
  (tSeq (tDrop (tBM K "list" rAppend (tVar 4) (tCons (tCall (sp__law_amount K) [] E0 (tCons (tVar 0) tNil)) tNil)))
  (tSeq (tIfS (tOr (tTest (tOp rEq (tVar 2) (tC (.int 0)))) (tTest (tOp rEq (tVar 2) (tC (.int 1))))) (tAsg (tTup (tCons (tC (.int 0)) (tCons (tC (.int 1)) tNil))) (gSub (tVar 4) (tC (.int 0)) rSetL)) tNext)
  (tSeq (tIfS (tOr (tTest (tOp rEq (tVar 2) (tC (.int 0)))) (tTest (tOp rEq (tVar 2) (tC (.int 2))))) (tAsg (tTup (tCons (tC (.int 0)) (tCons (tC (.int 1)) tNil))) (gSub (tVar 4) (tVar 1) rSetL)) tNext)
  (tRet (tTup (tCons (tCB (rTupleQ K) (tCons (tVar 3) tNil)) (tCons (tCB (rTupleQ K) (tCons (tVar 4) tNil)) tNil)))))))))
theorem pure__law_line (K : PySem.W.Frag) (vs : List V) (H : Hp) (Q : VK) (E : XK) (h : sp__law_line K vs H Q E) : t__law_line K { nx := fun _ H' => Q .non H', rt := Q } (L2.start N__law_line vs) H := body_W h (by decide) fun B w ds hp => by
  obtain ⟨c, e, hc1, hc8⟩ := hp
  subst e
  unfold t__law_line
  refine st_seq ?_
  refine st_par3L (ev_callW rfl (ea_cons (ev_int (ea_nil ⟨⟨_, rfl, by decide, by decide⟩, fun d ⟨m, wy, em, ed, _, _⟩ => fun l1 l2 hl => ?_⟩))))
  cases em
  subst ed
  refine st_seq (st_forR (ea_cons (ev_var rfl (ea_nil ⟨_, rfl, by omega, by omega, fun i L2 Γ2 => ∃ (xs ys : List PyData) (s : Sl), L2 = [l2, l1] ∧ Γ2 = [.well w, .d (.int (c : Int)), .d (.int wy), .own l1 xs, .own l2 ys, s] ∧ xs.length = i ∧ ys.length = i ∧ (∀ x ∈ xs, isAmt x) ∧ (∀ x ∈ ys, isAmt x), ⟨[], [], .un, rfl, rfl, rfl, rfl, by simp, by simp⟩, ?_, ?_⟩))))
  · rintro i L2 Γ2 hi ⟨xs, ys, s, rfl, rfl, hx, hy, hxa, hya⟩
    refine st_seq (st_append rfl (by omega) (ev_callW rfl (ea_nil ⟨⟨trivial, rfl⟩, fun d hd => ?_⟩)))
    refine st_append rfl (by omega) (ev_callW rfl (ea_nil ⟨⟨trivial, rfl⟩, fun d' hd' => ?_⟩))
    refine ⟨xs ++ [d], ys ++ [d'], _, rfl, rfl, by simp [hx], by simp [hy], fun x hx => ?_, fun x hx => ?_⟩
    · rcases List.mem_append.mp hx with h | h
      · exact hxa x h
      · rw [List.mem_singleton.mp h]; exact hd
    · rcases List.mem_append.mp hx with h | h
      · exact hya x h
      · rw [List.mem_singleton.mp h]; exact hd'
  · rintro L2 Γ2 ⟨xs, ys, s, rfl, rfl, hx, hy, hxa, hya⟩
    rw [Int.toNat_natCast] at hx hy
    refine st_seq (st_append rfl (by omega) (ev_callW rfl (ea_nil ⟨⟨trivial, rfl⟩, fun d hd => ?_⟩)))
    have z0 : ∀ zs : List PyData, zs.length = c + 1 → (∀ x ∈ zs, isAmt0 x) → (∀ i x, 0 < i → i < c → zs[i]? = some x → isAmt x) → ∀ j : Nat, (j = 0 ∨ j = c) → (zs.set j (.tuple [.int 0, .int 1])).length = c + 1 ∧ (∀ x ∈ zs.set j (.tuple [.int 0, .int 1]), isAmt0 x) ∧ ∀ i x, 0 < i → i < c → (zs.set j (.tuple [.int 0, .int 1]))[i]? = some x → isAmt x := fun zs hl h0 h1 j hj => by
      refine ⟨by rw [List.length_set]; exact hl, fun x hx => ?_, fun i x hi hic hx => ?_⟩
      · rcases List.mem_or_eq_of_mem_set hx with h | h
        · exact h0 x h
        · exact .inr h
      · rw [List.getElem?_set_ne (by omega)] at hx
        exact h1 i x hi hic hx
    have fin : ∀ zs : List PyData, zs.length = c + 1 → (∀ x ∈ zs, isAmt0 x) → (∀ i x, 0 < i → i < c → zs[i]? = some x → isAmt x) → StP K B [] [l2, l1] [.well w, .d (.int (c : Int)), .d (.int wy), .own l1 xs, .own l2 zs, s]
        (tRet (tTup (tCons (tCB (rTupleQ K) (tCons (tVar 3) tNil)) (tCons (tCB (rTupleQ K) (tCons (tVar 4) tNil)) tNil)))) { nx := fun _ _ => post__law_line [.int (c : Int)] .none, rt := post__law_line [.int (c : Int)] } := fun zs h1 h2 h3 =>
      st_ret (ev_tup (ea_cons (ev_tupOwn rfl (ea_cons (ev_tupOwn rfl (ea_nil ⟨by simp, c, rfl, xs, zs, rfl, hx, h1, hxa, h2, h3⟩))))))
    have second : ∀ zs : List PyData, zs.length = c + 1 → (∀ x ∈ zs, isAmt0 x) → (∀ i x, 0 < i → i < c → zs[i]? = some x → isAmt x) → StP K B [] [l2, l1] [.well w, .d (.int (c : Int)), .d (.int wy), .own l1 xs, .own l2 zs, s]
        (tSeq (tIfS (tOr (tTest (tOp rEq (tVar 2) (tC (.int 0)))) (tTest (tOp rEq (tVar 2) (tC (.int 2))))) (tAsg (tTup (tCons (tC (.int 0)) (tCons (tC (.int 1)) tNil))) (gSub (tVar 4) (tVar 1) rSetL)) tNext)
          (tRet (tTup (tCons (tCB (rTupleQ K) (tCons (tVar 3) tNil)) (tCons (tCB (rTupleQ K) (tCons (tVar 4) tNil)) tNil))))) { nx := fun _ _ => post__law_line [.int (c : Int)] .none, rt := post__law_line [.int (c : Int)] } := fun zs h1 h2 h3 => by
      have yes : StP K B [] [l2, l1] [.well w, .d (.int (c : Int)), .d (.int wy), .own l1 xs, .own l2 zs, s] (tAsg (tTup (tCons (tC (.int 0)) (tCons (tC (.int 1)) tNil))) (gSub (tVar 4) (tVar 1) rSetL))
          { nx := fun L2 Γ2 => StP K B [] L2 Γ2 (tRet (tTup (tCons (tCB (rTupleQ K) (tCons (tVar 3) tNil)) (tCons (tCB (rTupleQ K) (tCons (tVar 4) tNil)) tNil)))) { nx := fun _ _ => post__law_line [.int (c : Int)] .none, rt := post__law_line [.int (c : Int)] }, rt := post__law_line [.int (c : Int)] } := by
        refine st_setOwn rfl (ev_tup (ea_cons (ev_int (ea_cons (ev_int (ea_nil ⟨by simp, ev_var rfl ⟨c, rfl, by omega, ?_⟩⟩))))))
        obtain ⟨k1, k2, k3⟩ := z0 zs h1 h2 h3 c (.inr rfl)
        exact fin _ k1 k2 k3
      walk_at "dd"
      refine ⟨fun hb => ?_, fun hb => ⟨fun _ => yes, fun z => nomatch z⟩⟩
      walk_at "dd"
      exact ⟨fun _ => yes, fun _ => st_next (fin zs h1 h2 h3)⟩
    have hl0 : (ys ++ [d]).length = c + 1 := by simp [hy]
    have ha0 : ∀ x ∈ ys ++ [d], isAmt x := fun x hx => by
      rcases List.mem_append.mp hx with h | h
      · exact hya x h
      · rw [List.mem_singleton.mp h]; exact hd
    have yes : StP K B [] [l2, l1] [.well w, .d (.int (c : Int)), .d (.int wy), .own l1 xs, .own l2 (ys ++ [d]), s] (tAsg (tTup (tCons (tC (.int 0)) (tCons (tC (.int 1)) tNil))) (gSub (tVar 4) (tC (.int 0)) rSetL))
          { nx := fun L2 Γ2 => StP K B [] L2 Γ2 (tSeq (tIfS (tOr (tTest (tOp rEq (tVar 2) (tC (.int 0)))) (tTest (tOp rEq (tVar 2) (tC (.int 2))))) (tAsg (tTup (tCons (tC (.int 0)) (tCons (tC (.int 1)) tNil))) (gSub (tVar 4) (tVar 1) rSetL)) tNext)
          (tRet (tTup (tCons (tCB (rTupleQ K) (tCons (tVar 3) tNil)) (tCons (tCB (rTupleQ K) (tCons (tVar 4) tNil)) tNil))))) { nx := fun _ _ => post__law_line [.int (c : Int)] .none, rt := post__law_line [.int (c : Int)] }, rt := post__law_line [.int (c : Int)] } := by
      refine st_setOwn rfl (ev_tup (ea_cons (ev_int (ea_cons (ev_int (ea_nil ⟨by simp, ev_int ⟨0, rfl, by omega, ?_⟩⟩))))))
      obtain ⟨k1, k2, k3⟩ := z0 _ hl0 (fun x hx => .inl (ha0 x hx)) (fun i x _ _ hx => ha0 x (List.mem_of_getElem? hx)) 0 (.inl rfl)
      exact second _ k1 k2 k3
    walk_at "dd"
    refine ⟨fun hb => ?_, fun hb => ⟨fun _ => yes, fun z => nomatch z⟩⟩
    walk_at "dd"
    exact ⟨fun _ => yes, fun _ => st_next (second _ hl0 (fun x hx => .inl (ha0 x hx)) (fun i x _ _ hx => ha0 x (List.mem_of_getElem? hx)))⟩
theorem ok__law_line (T : Tx K mg) : FnOk P w K mg base CX0 4 T.a__law_line T.d__law_line p__law_line (sp__law_line K) := by
  refine T.F__law_line.ok sc__law_line (fun vs H Q E h => len__law_line K vs H Q E h) (fun cdv A outer s H vs Q E hr h => ?_)
  exact ⟨t__law_line K, (pss_cons (ps_par3 (by rfl) sc__law_line.nd rfl rfl rfl (by decide) (by decide) (by decide) rfl rfl rfl (pa_cons (pe_call (ok__law_pull T) (hr.mono (by decide)) rfl T.g__law_pull T.F__law_pull.kp (b__law_pull T) .nil pass0 (pa_cons (pv 0) (pa_cons pe_int pa_nil))) (pa_cons (pe_lst pa_nil) (pa_cons (pe_lst pa_nil) pa_nil))) (by rfl))
  (pss_cons (ps_for PassesOwn.never rfl (pi_range1 (by rfl) T.n_range (pa_cons (pv 1) pa_nil)) (pg_name (i := 5) sc__law_line.nd rfl (Or.inl rfl)) (pss_cons (ps_expr (pe_bm PySem.F.plainAttrs_list PySem.F.slot_list_append PySem.F.type_list_append mt_append (pv 3) (pa_cons (pe_call (ok__law_amount T) (hr.mono (by decide)) rfl T.g__law_amount T.F__law_amount.kp (b__law_amount T) .nil pass0 (pa_cons (pv 0) pa_nil)) pa_nil)))
  (pss_one (ps_expr (pe_bm PySem.F.plainAttrs_list PySem.F.slot_list_append PySem.F.type_list_append mt_append (pv 4) (pa_cons (pe_call (ok__law_amount T) (hr.mono (by decide)) rfl T.g__law_amount T.F__law_amount.kp (b__law_amount T) .nil pass0 (pa_cons (pv 0) pa_nil)) pa_nil))))))
  (pss_cons (ps_expr (pe_bm PySem.F.plainAttrs_list PySem.F.slot_list_append PySem.F.type_list_append mt_append (pv 4) (pa_cons (pe_call (ok__law_amount T) (hr.mono (by decide)) rfl T.g__law_amount T.F__law_amount.kp (b__law_amount T) .nil pass0 (pa_cons (pv 0) pa_nil)) pa_nil)))
  (pss_cons (ps_if (PW.pt (pw_or (pt_cmpR op_eq (pv 2) pe_int (nomark _)) (pw_or1 (pt_cmpR op_eq (pv 2) pe_int (nomark _))))) (pss_one (ps_asg (pe_tup (pa_cons pe_int (pa_cons pe_int pa_nil))) (pg_sub (pv 4) pe_int set_list))) pss_nil)
  (pss_cons (ps_if (PW.pt (pw_or (pt_cmpR op_eq (pv 2) pe_int (nomark _)) (pw_or1 (pt_cmpR op_eq (pv 2) pe_int (nomark _))))) (pss_one (ps_asg (pe_tup (pa_cons pe_int (pa_cons pe_int pa_nil))) (pg_sub (pv 4) (pv 1) set_list))) pss_nil)
  (pss_one (ps_ret (pe_tup (pa_cons (pe_callTy call_tuple_of (by rfl) T.n_tuple (by decide +kernel) (pa_cons (pv 3) pa_nil)) (pa_cons (pe_callTy call_tuple_of (by rfl) T.n_tuple (by decide +kernel) (pa_cons (pv 4) pa_nil)) pa_nil)))))))))), pure__law_line K vs H Q E h⟩
/-! ### _law_line_back -/

def pre__law_line_back : List PyData → Prop := fun ds => ∃ v, ∃ c : Nat, ds = [v] ∧ 1 ≤ c ∧ LineOk v c
def post__law_line_back : List PyData → PyData → Prop := fun ds d => ∃ v, ds = [v] ∧ ∀ c, LineOk v c → LineOk d c
abbrev sp__law_line_back (K : PySem.W.Frag) : Sp := SpP K pre__law_line_back post__law_line_back
theorem len__law_line_back (K : PySem.W.Frag) (vs : List V) (H : Hp) (Q : VK) (E : XK) (h : sp__law_line_back K vs H Q E) : vs.length = p__law_line_back.length := len_P (n := 1) h fun ds hp => by
  obtain ⟨v, c, e, hc1, hl⟩ := hp
  rw [e]; rfl
def t__law_line_back (K : PySem.W.Frag) : TS :=
  (tRet (tTup (tCons (tRevT K (tOp (rIx K) (tVar 0) (tC (.int 0)))) (tCons (tRevT K (tOp (rIx K) (tVar 0) (tC (.int 1)))) tNil))))
theorem pure__law_line_back (K : PySem.W.Frag) (vs : List V) (H : Hp) (Q : VK) (E : XK) (h : sp__law_line_back K vs H Q E) : t__law_line_back K { nx := fun _ H' => Q .non H', rt := Q } (L2.start N__law_line_back vs) H := body_P h fun B ds hW hp => by
  obtain ⟨v, c, e, hc1, hl⟩ := hp
  subst e
  unfold t__law_line_back
  obtain ⟨dd, ss, rfl, hd, hs, ha, ha0, hin⟩ := hl
  refine st_ret (ev_tup (ea_cons (ev_revT (ev_op (ev_var rfl (ev_int (rok_ixsT (d := .tuple dd) rfl ⟨dd, rfl, ?_, ?_⟩)))))))
  · rintro rfl
    simp at hd
    omega
  refine ea_cons (ev_revT (ev_op (ev_var rfl (ev_int (rok_ixsT (d := .tuple ss) rfl ⟨ss, rfl, ?_, ?_⟩)))))
  · rintro rfl
    simp at hs
  refine ea_nil ⟨by simp, _, rfl, fun c' ⟨dd', ss', e', hd', hs', ha', ha0', hin'⟩ => ?_⟩
  cases e'
  refine ⟨dd.reverse, ss.reverse, rfl, by rw [List.length_reverse]; exact hd', by rw [List.length_reverse]; exact hs', fun x hx => ha x (List.mem_reverse.mp hx), fun x hx => ha0 x (List.mem_reverse.mp hx), fun i x h0 hi hx => ?_⟩
  rw [List.getElem?_reverse (by omega)] at hx
  exact hin' _ x (by omega) (by omega) hx
theorem ok__law_line_back (T : Tx K mg) : FnOk P w K mg base CX0 1 T.a__law_line_back T.d__law_line_back p__law_line_back (sp__law_line_back K) := by
  refine T.F__law_line_back.ok sc__law_line_back (fun vs H Q E h => len__law_line_back K vs H Q E h) (fun cdv A outer s H vs Q E hr h => ?_)
  exact ⟨t__law_line_back K, (pss_one (ps_ret (pe_tup (pa_cons (pe_revT (pe_ix ix_seq (pv 0) pe_int (fun _ _ => rfl))) (pa_cons (pe_revT (pe_ix ix_seq (pv 0) pe_int (fun _ _ => rfl))) pa_nil))))), pure__law_line_back K vs H Q E h⟩
/-! ### _law_bad_fraction -/
theorem isFrac_two {n m : Int} : isFracD (.tuple [.int (2 * n), .int (2 * m)]) = false := by
  show (decide (0 < 2 * m) && decide (((Nat.gcd (2 * n).natAbs (2 * m).natAbs : Nat) : Int) = 1)) = false
  have e : Nat.gcd (2 * n).natAbs (2 * m).natAbs ≠ 1 := by
    rw [Int.natAbs_mul, Int.natAbs_mul]
    show Nat.gcd (2 * n.natAbs) (2 * m.natAbs) ≠ 1
    rw [Nat.gcd_mul_left]
    omega
  have e2 : decide (((Nat.gcd (2 * n).natAbs (2 * m).natAbs : Nat) : Int) = 1) = false := decide_eq_false (fun z => e (by omega))
  rw [e2, Bool.and_false]
theorem isFrac_neg {n m : Int} (h : ¬ 0 < m) : isFracD (.tuple [.int n, .int m]) = false := by
  show (decide (0 < m) && decide (((Nat.gcd n.natAbs m.natAbs : Nat) : Int) = 1)) = false
  rw [decide_eq_false h, Bool.false_and]
def pre__law_bad_fraction : List PyData → Prop := fun ds => ∃ n m : Int, ds = [.tuple [.int n, .int m]] ∧ 0 ≤ n ∧ n ≤ 40 ∧ 0 < m ∧ m ≤ 7
def post__law_bad_fraction : List PyData → PyData → Prop := fun ds d => isFracD d = false
abbrev sp__law_bad_fraction (K : PySem.W.Frag) : Sp := SpW K pre__law_bad_fraction post__law_bad_fraction
theorem len__law_bad_fraction (K : PySem.W.Frag) (vs : List V) (H : Hp) (Q : VK) (E : XK) (h : sp__law_bad_fraction K vs H Q E) : vs.length = p__law_bad_fraction.length := len_W (n := 1) h fun ds hp => by
  obtain ⟨n, m, e, hn0, hn1, hm0, hm1⟩ := hp
  rw [e]; rfl
def t__law_bad_fraction (K : PySem.W.Frag) : TS :=
  (tSeq (tAsg (tVar 1) (gTup K 2 (gCons (gName 2) (gCons (gName 3) gNil))))
  (tRet (tCall (sp__law_one K) [] E0 (tCons (tVar 0) (tCons (tLst (tCons (tLst (tCons (tVar 2) (tCons (tVar 3) tNil))) (tCons (tTup (tCons (tOp (rMulA K) (tC (.int 2)) (tVar 2)) (tCons (tOp (rMulA K) (tC (.int 2)) (tVar 3)) tNil))) (tCons (tTup (tCons (tVar 2) (tCons (tOp (rI0 fun i j => .int (i - j)) (tC (.int 0)) (tVar 3)) tNil))) (tCons (tTup (tCons (tVar 2) (tCons (tC (.int 0)) tNil))) (tCons (tTup (tCons (tVar 2) tNil)) (tCons (tTup (tCons (tVar 2) (tCons (tVar 3) (tCons (tC (.int 1)) tNil)))) (tCons (tVar 2) (tCons (tC .non) (tCons (tC (.str ("1/2" : Str))) (tCons (tTup (tCons (tCB rStrQ (tCons (tVar 2) tNil)) (tCons (tVar 3) tNil))) (tCons (tTup (tCons (tVar 2) (tCons (tC .non) tNil))) (tCons (tTup (tCons (tTup (tCons (tVar 2) (tCons (tVar 3) tNil))) tNil)) (tCons (tTup (tCons (tC (.bl true)) (tCons (tC (.int 1)) tNil))) (tCons (tTup (tCons (tC (.int 0)) (tCons (tC (.int 2)) tNil))) (tCons tDNewK tNil)))))))))))))))) tNil)))))
theorem pure__law_bad_fraction (K : PySem.W.Frag) (vs : List V) (H : Hp) (Q : VK) (E : XK) (h : sp__law_bad_fraction K vs H Q E) : t__law_bad_fraction K { nx := fun _ H' => Q .non H', rt := Q } (L2.start N__law_bad_fraction vs) H := body_W h (by decide) fun B w ds hp => by
  obtain ⟨n, m, e, hn0, hn1, hm0, hm1⟩ := hp
  subst e
  unfold t__law_bad_fraction
  refine st_seq (st_unpack (ev_var rfl ⟨_, rfl, rfl, tg_cons (tg_cons (tg_nil ?_))⟩))
  refine st_ret (ev_callW rfl ?_)
  walk_at "dd"
  refine co_str (log2_small hn0 (by omega)) ?_
  walk_at "dd"
  refine ⟨⟨_, rfl, by simp, by simp⟩, fun d ⟨xs, ex, hd⟩ => ?_⟩
  cases ex
  show isFracD d = false
  simp only [List.mem_cons, List.not_mem_nil, or_false] at hd
  rcases hd with rfl | rfl | rfl | rfl | rfl | rfl | rfl | rfl | rfl | rfl | rfl | rfl | rfl | rfl | rfl
  all_goals first
    | rfl
    | exact isFrac_two
    | exact isFrac_neg (by omega)
theorem ok__law_bad_fraction (T : Tx K mg) : FnOk P w K mg base CX0 3 T.a__law_bad_fraction T.d__law_bad_fraction p__law_bad_fraction (sp__law_bad_fraction K) := by
  refine T.F__law_bad_fraction.ok sc__law_bad_fraction (fun vs H Q E h => len__law_bad_fraction K vs H Q E h) (fun cdv A outer s H vs Q E hr h => ?_)
  exact ⟨t__law_bad_fraction K, (pss_cons (ps_asg (pv 1) (pg_tup (by rfl) (pgs_cons (pg_name (i := 2) sc__law_bad_fraction.nd rfl (Or.inl rfl)) (pgs_cons (pg_name (i := 3) sc__law_bad_fraction.nd rfl (Or.inl rfl)) pgs_nil))))
  (pss_one (ps_ret (pe_call (ok__law_one T) (hr.mono (by decide)) rfl T.g__law_one T.F__law_one.kp (b__law_one T) .nil pass0 (pa_cons (pv 0) (pa_cons (pe_lst (pa_cons (pe_lst (pa_cons (pv 2) (pa_cons (pv 3) pa_nil))) (pa_cons (pe_tup (pa_cons (pe_op op_mulA pe_int (pv 2)) (pa_cons (pe_op op_mulA pe_int (pv 3)) pa_nil))) (pa_cons (pe_tup (pa_cons (pv 2) (pa_cons (pe_op op_sub pe_int (pv 3)) pa_nil))) (pa_cons (pe_tup (pa_cons (pv 2) (pa_cons pe_int pa_nil))) (pa_cons (pe_tup (pa_cons (pv 2) pa_nil)) (pa_cons (pe_tup (pa_cons (pv 2) (pa_cons (pv 3) (pa_cons pe_int pa_nil)))) (pa_cons (pv 2) (pa_cons pe_non (pa_cons pe_str (pa_cons (pe_tup (pa_cons (pe_callTy call_str_int (by rfl) T.n_str (by decide +kernel) (pa_cons (pv 2) pa_nil)) (pa_cons (pv 3) pa_nil))) (pa_cons (pe_tup (pa_cons (pv 2) (pa_cons pe_non pa_nil))) (pa_cons (pe_tup (pa_cons (pe_tup (pa_cons (pv 2) (pa_cons (pv 3) pa_nil))) pa_nil)) (pa_cons (pe_tup (pa_cons pe_bl (pa_cons pe_int pa_nil))) (pa_cons (pe_tup (pa_cons pe_int (pa_cons pe_int pa_nil))) (pa_cons pe_dnewK pa_nil)))))))))))))))) pa_nil)))))), pure__law_bad_fraction K vs H Q E h⟩
/-! ### _law_bad_amount -/

def pre__law_bad_amount : List PyData → Prop := fun ds => ∃ n m : Int, ds = [.tuple [.int n, .int m]] ∧ 0 ≤ n ∧ n ≤ 40 ∧ 0 < m ∧ m ≤ 7
def post__law_bad_amount : List PyData → PyData → Prop := fun ds d => (isRowItem d && decide (0 < numD d)) = false
abbrev sp__law_bad_amount (K : PySem.W.Frag) : Sp := SpW K pre__law_bad_amount post__law_bad_amount
theorem len__law_bad_amount (K : PySem.W.Frag) (vs : List V) (H : Hp) (Q : VK) (E : XK) (h : sp__law_bad_amount K vs H Q E) : vs.length = p__law_bad_amount.length := len_W (n := 1) h fun ds hp => by
  obtain ⟨n, m, e, hn0, hn1, hm0, hm1⟩ := hp
  rw [e]; rfl
def t__law_bad_amount (K : PySem.W.Frag) : TS :=
  (tSeq (tIfS (tTest (tOp (rI0 fun i j => .bl (decide (j < i))) (tCall (sp__law_pull K) [] E0 (tCons (tVar 0) (tCons (tC (.int 3)) tNil))) (tC (.int 0)))) (tRet (tCall (sp__law_bad_fraction K) [] E0 (tCons (tVar 0) (tCons (tVar 1) tNil)))) tNext)
  (tRet (tCall (sp__law_one K) [] E0 (tCons (tVar 0) (tCons (tLst (tCons (tTup (tCons (tC (.int 0)) (tCons (tC (.int 1)) tNil))) (tCons (tTup (tCons (tUn (rU fun i => .int (-i)) (tC (.int 1))) (tCons (tC (.int 2)) tNil))) (tCons (tTup (tCons (tOp (rI0 fun i j => .int (i - j)) (tOp (rI0 fun i j => .int (i - j)) (tC (.int 0)) (tC (.int 1))) (tCB rAbsQ (tCons (tOp (rIx K) (tVar 1) (tC (.int 0))) tNil))) (tCons (tC (.int 1)) tNil))) tNil)))) tNil)))))
theorem pure__law_bad_amount (K : PySem.W.Frag) (vs : List V) (H : Hp) (Q : VK) (E : XK) (h : sp__law_bad_amount K vs H Q E) : t__law_bad_amount K { nx := fun _ H' => Q .non H', rt := Q } (L2.start N__law_bad_amount vs) H := body_W h (by decide) fun B w ds hp => by
  obtain ⟨n, m, e, hn0, hn1, hm0, hm1⟩ := hp
  subst e
  unfold t__law_bad_amount
  refine st_seq (st_if (et_test (ev_op (ev_callW rfl ?_))))
  walk_at "dd"
  refine ⟨⟨_, rfl, by decide, by decide⟩, fun d ⟨m', z, em, ed, hz0, hz1⟩ => ?_⟩
  cases em
  subst ed
  walk_at "dd"
  refine ⟨fun _ => ?_, fun _ => ?_⟩
  · refine st_ret (ev_callW rfl ?_)
    walk_at "dd"
    refine ⟨⟨_, _, rfl, hn0, hn1, hm0, hm1⟩, fun d hd => ?_⟩
    show (isRowItem d && decide (0 < numD d)) = false
    show ((isFracD d && decide (0 ≤ numD d)) && decide (0 < numD d)) = false
    rw [hd]
    rfl
  · walk_at "dd"
    refine ev_callW rfl ?_
    walk_at "dd"
    refine rok_ixsT (d := .int n) rfl ?_
    walk_at "dd"
    refine ⟨⟨_, rfl, by simp, by simp⟩, fun d ⟨xs, ex, hd⟩ => ?_⟩
    cases ex
    show (isRowItem d && decide (0 < numD d)) = false
    simp only [List.mem_cons, List.not_mem_nil, or_false] at hd
    have key : ∀ p q : Int, p ≤ 0 → (isRowItem (.tuple [.int p, .int q]) && decide (0 < numD (.tuple [.int p, .int q]))) = false := fun p q hp => by
      show (_ && decide (0 < p)) = false
      rw [decide_eq_false (by omega), Bool.and_false]
    rcases hd with rfl | rfl | rfl
    · exact key 0 1 (by omega)
    · exact key _ 2 (by omega)
    · refine key _ 1 ?_
      split <;> omega
theorem ok__law_bad_amount (T : Tx K mg) : FnOk P w K mg base CX0 4 T.a__law_bad_amount T.d__law_bad_amount p__law_bad_amount (sp__law_bad_amount K) := by
  refine T.F__law_bad_amount.ok sc__law_bad_amount (fun vs H Q E h => len__law_bad_amount K vs H Q E h) (fun cdv A outer s H vs Q E hr h => ?_)
  exact ⟨t__law_bad_amount K, (pss_cons (ps_if (pt_cmpR op_gt (pe_call (ok__law_pull T) (hr.mono (by decide)) rfl T.g__law_pull T.F__law_pull.kp (b__law_pull T) .nil pass0 (pa_cons (pv 0) (pa_cons pe_int pa_nil))) pe_int (nomark _)) (pss_one (ps_ret (pe_call (ok__law_bad_fraction T) (hr.mono (by decide)) rfl T.g__law_bad_fraction T.F__law_bad_fraction.kp (b__law_bad_fraction T) .nil pass0 (pa_cons (pv 0) (pa_cons (pv 1) pa_nil))))) pss_nil)
  (pss_one (ps_ret (pe_call (ok__law_one T) (hr.mono (by decide)) rfl T.g__law_one T.F__law_one.kp (b__law_one T) .nil pass0 (pa_cons (pv 0) (pa_cons (pe_lst (pa_cons (pe_tup (pa_cons pe_int (pa_cons pe_int pa_nil))) (pa_cons (pe_tup (pa_cons (pe_un un_neg pe_int) (pa_cons pe_int pa_nil))) (pa_cons (pe_tup (pa_cons (pe_op op_sub (pe_op op_sub pe_int pe_int) (pe_callB call_abs (by rfl) T.n_abs (by decide +kernel) (pa_cons (pe_ix ix_seq (pv 1) pe_int (fun _ _ => rfl)) pa_nil))) (pa_cons pe_int pa_nil))) pa_nil)))) pa_nil)))))), pure__law_bad_amount K vs H Q E h⟩
/-! ### _law_bad_pace -/

def pre__law_bad_pace : List PyData → Prop := fun ds => ∃ n m : Int, ds = [.tuple [.int n, .int m]] ∧ 0 ≤ n ∧ n ≤ 40 ∧ 0 < m ∧ m ≤ 7
def post__law_bad_pace : List PyData → PyData → Prop := fun ds d => isRowItem d = false
abbrev sp__law_bad_pace (K : PySem.W.Frag) : Sp := SpW K pre__law_bad_pace post__law_bad_pace
theorem len__law_bad_pace (K : PySem.W.Frag) (vs : List V) (H : Hp) (Q : VK) (E : XK) (h : sp__law_bad_pace K vs H Q E) : vs.length = p__law_bad_pace.length := len_W (n := 1) h fun ds hp => by
  obtain ⟨n, m, e, hn0, hn1, hm0, hm1⟩ := hp
  rw [e]; rfl
def t__law_bad_pace (K : PySem.W.Frag) : TS :=
  (tSeq (tIfS (tTest (tOp (rI0 fun i j => .bl (decide (j < i))) (tCall (sp__law_pull K) [] E0 (tCons (tVar 0) (tCons (tC (.int 3)) tNil))) (tC (.int 0)))) (tRet (tCall (sp__law_bad_fraction K) [] E0 (tCons (tVar 0) (tCons (tVar 1) tNil)))) tNext)
  (tRet (tCall (sp__law_one K) [] E0 (tCons (tVar 0) (tCons (tLst (tCons (tTup (tCons (tUn (rU fun i => .int (-i)) (tC (.int 1))) (tCons (tC (.int 1)) tNil))) (tCons (tTup (tCons (tUn (rU fun i => .int (-i)) (tC (.int 1))) (tCons (tC (.int 9)) tNil))) (tCons (tTup (tCons (tOp (rI0 fun i j => .int (i - j)) (tOp (rI0 fun i j => .int (i - j)) (tC (.int 0)) (tC (.int 1))) (tCB rAbsQ (tCons (tOp (rIx K) (tVar 1) (tC (.int 0))) tNil))) (tCons (tC (.int 1)) tNil))) tNil)))) tNil)))))
theorem pure__law_bad_pace (K : PySem.W.Frag) (vs : List V) (H : Hp) (Q : VK) (E : XK) (h : sp__law_bad_pace K vs H Q E) : t__law_bad_pace K { nx := fun _ H' => Q .non H', rt := Q } (L2.start N__law_bad_pace vs) H := body_W h (by decide) fun B w ds hp => by
  obtain ⟨n, m, e, hn0, hn1, hm0, hm1⟩ := hp
  subst e
  unfold t__law_bad_pace
  refine st_seq (st_if (et_test (ev_op (ev_callW rfl ?_))))
  walk_at "dd"
  refine ⟨⟨_, rfl, by decide, by decide⟩, fun d ⟨m', z, em, ed, hz0, hz1⟩ => ?_⟩
  cases em
  subst ed
  walk_at "dd"
  refine ⟨fun _ => ?_, fun _ => ?_⟩
  · refine st_ret (ev_callW rfl ?_)
    walk_at "dd"
    refine ⟨⟨_, _, rfl, hn0, hn1, hm0, hm1⟩, fun d hd => ?_⟩
    show (isFracD d && decide (0 ≤ numD d)) = false
    rw [hd]
    rfl
  · walk_at "dd"
    refine ev_callW rfl ?_
    walk_at "dd"
    refine rok_ixsT (d := .int n) rfl ?_
    walk_at "dd"
    refine ⟨⟨_, rfl, by simp, by simp⟩, fun d ⟨xs, ex, hd⟩ => ?_⟩
    cases ex
    show isRowItem d = false
    simp only [List.mem_cons, List.not_mem_nil, or_false] at hd
    have key : ∀ p q : Int, p < 0 → isRowItem (.tuple [.int p, .int q]) = false := fun p q hp => by
      show (_ && decide (0 ≤ p)) = false
      rw [decide_eq_false (by omega), Bool.and_false]
    rcases hd with rfl | rfl | rfl
    · exact key _ 1 (by omega)
    · exact key _ 9 (by omega)
    · refine key _ 1 ?_
      split <;> omega
theorem ok__law_bad_pace (T : Tx K mg) : FnOk P w K mg base CX0 4 T.a__law_bad_pace T.d__law_bad_pace p__law_bad_pace (sp__law_bad_pace K) := by
  refine T.F__law_bad_pace.ok sc__law_bad_pace (fun vs H Q E h => len__law_bad_pace K vs H Q E h) (fun cdv A outer s H vs Q E hr h => ?_)
  exact ⟨t__law_bad_pace K, (pss_cons (ps_if (pt_cmpR op_gt (pe_call (ok__law_pull T) (hr.mono (by decide)) rfl T.g__law_pull T.F__law_pull.kp (b__law_pull T) .nil pass0 (pa_cons (pv 0) (pa_cons pe_int pa_nil))) pe_int (nomark _)) (pss_one (ps_ret (pe_call (ok__law_bad_fraction T) (hr.mono (by decide)) rfl T.g__law_bad_fraction T.F__law_bad_fraction.kp (b__law_bad_fraction T) .nil pass0 (pa_cons (pv 0) (pa_cons (pv 1) pa_nil))))) pss_nil)
  (pss_one (ps_ret (pe_call (ok__law_one T) (hr.mono (by decide)) rfl T.g__law_one T.F__law_one.kp (b__law_one T) .nil pass0 (pa_cons (pv 0) (pa_cons (pe_lst (pa_cons (pe_tup (pa_cons (pe_un un_neg pe_int) (pa_cons pe_int pa_nil))) (pa_cons (pe_tup (pa_cons (pe_un un_neg pe_int) (pa_cons pe_int pa_nil))) (pa_cons (pe_tup (pa_cons (pe_op op_sub (pe_op op_sub pe_int pe_int) (pe_callB call_abs (by rfl) T.n_abs (by decide +kernel) (pa_cons (pe_ix ix_seq (pv 1) pe_int (fun _ _ => rfl)) pa_nil))) (pa_cons pe_int pa_nil))) pa_nil)))) pa_nil)))))), pure__law_bad_pace K vs H Q E h⟩
/-! ### _law_bad_line -/
theorem cut1m (ss : List PyData) : DL.cutD ss (some 1) (some (-1)) = (ss.drop 1).take (ss.length - 2) := by
  unfold DL.cutD
  by_cases h : ss.length = 0
  · rw [List.eq_nil_of_length_eq_zero h]
    rfl
  · have e1 : HT.sIx ss.length 0 (some 1) = 1 := by
      show (if (1 : Int) < 0 then ((1 : Int) + (ss.length : Int)).toNat else min (1 : Int).toNat ss.length) = 1
      rw [if_neg (by decide)]
      show min 1 ss.length = 1
      omega
    have e2 : HT.sIx ss.length ss.length (some (-1)) = ss.length - 1 := by
      show (if (-1 : Int) < 0 then ((-1 : Int) + (ss.length : Int)).toNat else min (-1 : Int).toNat ss.length) = _
      rw [if_pos (by decide)]
      omega
    rw [e1, e2]
    rfl
theorem isLine_bad_disc {ds : List PyData} {s x : PyData} (hx : x ∈ ds) (h : (isRowItem x && decide (0 < numD x)) = false) : isLineD (.tuple [.tuple ds, s]) = false := by
  cases q : isLineD (.tuple [.tuple ds, s]) with
  | false => rfl
  | true =>
    exfalso
    cases s with
    | tuple ss =>
      have q2 : (decide (1 ≤ ds.length ∧ ds.length ≤ 8) && (isRowD (.tuple ds) ds.length && (isRowD (.tuple ss) ((ds.length : Int) + 1) && ((ds ++ DL.cutD ss (some 1) (some (-1))).all fun d => decide (0 < numD d))))) = true := q
      rw [Bool.and_eq_true, Bool.and_eq_true, Bool.and_eq_true] at q2
      obtain ⟨_, q3, _, q5⟩ := q2
      have a1 := isRowD_mem q3 hx
      have a2 := List.all_eq_true.mp q5 x (List.mem_append_left _ hx)
      rw [a1, a2] at h
      cases h
    | _ =>
      have q2 : (decide (1 ≤ ds.length ∧ ds.length ≤ 8) && (isRowD (.tuple ds) ds.length && (false && false))) = true := q
      simp at q2
theorem isLine_bad_shaft {ds ss : List PyData} {x : PyData} (hx : x ∈ ss) (h : isRowItem x = false) : isLineD (.tuple [.tuple ds, .tuple ss]) = false := by
  have r : isRowD (.tuple ss) ((ds.length : Int) + 1) = false := by
    cases q : isRowD (.tuple ss) ((ds.length : Int) + 1) with
    | false => rfl
    | true =>
      have := isRowD_mem q hx
      rw [h] at this
      cases this
  exact isLine_row2 r
theorem isLine_len2 {ds : List PyData} {s : PyData} (h : ∀ ss, s = .tuple ss → ss.length ≠ ds.length + 1) : isLineD (.tuple [.tuple ds, s]) = false := by
  refine isLine_row2 ?_
  cases q : isRowD s ((ds.length : Int) + 1) with
  | false => rfl
  | true =>
    obtain ⟨xs, e, hl⟩ := isRowD_tup q
    exact absurd (by omega) (h xs e)
theorem isLine_zero {ds ss : List PyData} {x : PyData} {i : Nat} (hl : ss.length = ds.length + 1) (h0 : 0 < i) (hi : i < ds.length) (hx : ss[i]? = some x) (h : decide (0 < numD x) = false) : isLineD (.tuple [.tuple ds, .tuple ss]) = false := by
  cases q : isLineD (.tuple [.tuple ds, .tuple ss]) with
  | false => rfl
  | true =>
    exfalso
    have q2 : (decide (1 ≤ ds.length ∧ ds.length ≤ 8) && (isRowD (.tuple ds) ds.length && (isRowD (.tuple ss) ((ds.length : Int) + 1) && ((ds ++ DL.cutD ss (some 1) (some (-1))).all fun d => decide (0 < numD d))))) = true := q
    rw [Bool.and_eq_true, Bool.and_eq_true, Bool.and_eq_true] at q2
    obtain ⟨_, q3, _, q5⟩ := q2
    have hm : x ∈ DL.cutD ss (some 1) (some (-1)) := by
      rw [cut1m ss]
      refine List.mem_of_getElem? (i := i - 1) ?_
      rw [List.getElem?_take_of_lt (by omega), List.getElem?_drop, show 1 + (i - 1) = i by omega]
      exact hx
    have a2 := List.all_eq_true.mp q5 x (List.mem_append_right _ hm)
    rw [h] at a2
    cases a2
theorem cutTo (ds : List PyData) (k : Nat) : DL.cutD ds none (some (k : Int)) = ds.take k := by
  unfold DL.cutD
  rw [HT.sIx_none, HT.sIx_nat]
  show (ds.drop 0).take (min k ds.length - 0) = ds.take k
  rw [List.drop_zero, Nat.sub_zero]
  rcases Nat.le_total k ds.length with h | h
  · rw [Nat.min_eq_left h]
  · rw [Nat.min_eq_right h, List.take_of_length_le (Nat.le_refl _), List.take_of_length_le h]
theorem cutFrom (ds : List PyData) (k : Nat) : DL.cutD ds (some (k : Int)) none = ds.drop k := by
  unfold DL.cutD
  rw [HT.sIx_none, HT.sIx_nat]
  rcases Nat.le_total k ds.length with h | h
  · rw [Nat.min_eq_left h, List.take_of_length_le (by rw [List.length_drop]; omega)]
  · rw [Nat.min_eq_right h, List.drop_of_length_le (Nat.le_refl _), List.drop_of_length_le h, List.take_nil]
theorem LineOk.line {d : PyData} {c : Nat} (h : LineOk d c) (h1 : 1 ≤ c) (h8 : c ≤ 8) : isLineD d = true := by
  obtain ⟨dd, ss, rfl, hd, hs, ha, ha0, hin⟩ := h
  have r1 : isRowD (.tuple dd) dd.length = true := by
    show (decide ((dd.length : Int) = dd.length) && dd.all isRowItem) = true
    rw [decide_eq_true rfl, Bool.true_and, List.all_eq_true]
    exact fun x hx => (ha x hx).item
  have r2 : isRowD (.tuple ss) ((dd.length : Int) + 1) = true := by
    show (decide ((ss.length : Int) = (dd.length : Int) + 1) && ss.all isRowItem) = true
    rw [decide_eq_true (by omega), Bool.true_and, List.all_eq_true]
    exact fun x hx => (ha0 x hx).item
  rw [isLine_in (by omega) (by omega) r1 r2, List.all_eq_true]
  intro x hx
  rcases List.mem_append.mp hx with hx | hx
  · exact decide_eq_true (ha x hx).pos
  · rw [cut1m] at hx
    obtain ⟨i, hi⟩ := List.getElem?_of_mem hx
    have hlt : i < ss.length - 2 := by
      have := (List.getElem?_eq_some_iff.mp hi).1
      rw [List.length_take, List.length_drop] at this
      omega
    rw [List.getElem?_take_of_lt hlt, List.getElem?_drop] at hi
    exact decide_eq_true (hin (1 + i) x (by omega) (by omega) hi).pos
theorem isAmt0.parts {d : PyData} (h : isAmt0 d) : ∃ n m : Int, d = .tuple [.int n, .int m] ∧ 0 ≤ n ∧ n ≤ 40 ∧ 0 < m ∧ m ≤ 7 := by
  rcases h with ⟨n, m, rfl, h1, h2, h3, h4, h5⟩ | rfl
  · exact ⟨n, m, rfl, by omega, h2, h3, h4⟩
  · exact ⟨0, 1, rfl, by omega, by omega, by omega, by omega⟩
def pre__law_bad_line : List PyData → Prop := fun ds => ∃ v, ∃ c : Nat, ds = [v] ∧ 1 ≤ c ∧ c ≤ 8 ∧ LineOk v c
def post__law_bad_line : List PyData → PyData → Prop := fun ds d => isLineD d = false
abbrev sp__law_bad_line (K : PySem.W.Frag) : Sp := SpW K pre__law_bad_line post__law_bad_line
theorem len__law_bad_line (K : PySem.W.Frag) (vs : List V) (H : Hp) (Q : VK) (E : XK) (h : sp__law_bad_line K vs H Q E) : vs.length = p__law_bad_line.length := len_W (n := 1) h fun ds hp => by
  obtain ⟨v, c, e, hc1, hc8, hl⟩ := hp
  rw [e]; rfl
def t__law_bad_line (K : PySem.W.Frag) : TS :=
  (tSeq (tAsg (tVar 1) (gTup K 2 (gCons (gName 2) (gCons (gName 3) gNil))))
  (tSeq (tAsg (tCB (rLenQ K) (tCons (tVar 2) tNil)) (gName 4))
  (tSeq (tPar 5 6 (tCons (tCall (sp__law_pull K) [] E0 (tCons (tVar 0) (tCons (tVar 4) tNil))) (tCons (tCall (sp__law_pull K) [] E0 (tCons (tVar 0) (tCons (tOp (rAddA K) (tVar 4) (tC (.int 1))) tNil))) tNil)))
  (tSeq (tAsg (tOp (rAddA K) (tOp (rAddA K) (tSl (rSlX2 K) (tVar 2) tNoPart (tPart (tVar 5))) (tTup (tCons (tCall (sp__law_bad_amount K) [] E0 (tCons (tVar 0) (tCons (tOp (rIx K) (tVar 2) (tVar 5)) tNil))) tNil))) (tSl (rSlX2 K) (tVar 2) (tPart (tOp (rAddA K) (tVar 5) (tC (.int 1)))) tNoPart)) (gName 7))
  (tSeq (tAsg (tOp (rAddA K) (tOp (rAddA K) (tSl (rSlX2 K) (tVar 3) tNoPart (tPart (tVar 6))) (tTup (tCons (tCall (sp__law_bad_pace K) [] E0 (tCons (tVar 0) (tCons (tOp (rIx K) (tVar 3) (tVar 6)) tNil))) tNil))) (tSl (rSlX2 K) (tVar 3) (tPart (tOp (rAddA K) (tVar 6) (tC (.int 1)))) tNoPart)) (gName 8))
  (tSeq (tPar 9 10 (tCons (tTup (tCons (tC (.int 1)) (tCons (tC (.int 1)) tNil))) (tCons (tLst (tCons (tTup (tCons (tVar 7) (tCons (tVar 3) tNil))) (tCons (tTup (tCons (tVar 2) (tCons (tVar 8) tNil))) (tCons (tTup (tCons (tVar 7) (tCons (tVar 3) tNil))) (tCons (tTup (tCons (tVar 2) (tCons (tVar 8) tNil))) (tCons (tTup (tCons (tVar 2) (tCons (tSl (rSlX2 K) (tVar 3) (tPart (tC (.int 1))) tNoPart) tNil))) tNil)))))) tNil)))
  (tSeq (tAsg (tOp (rAddA K) (tVar 10) (tLst (tCons (tTup (tCons (tVar 2) (tCons (tOp (rAddA K) (tVar 3) (tTup (tCons (tVar 9) tNil))) tNil))) (tCons (tTup (tCons (tTup tNil) (tCons (tTup tNil) tNil))) (tCons (tTup (tCons (tTup tNil) (tCons (tTup (tCons (tVar 9) tNil)) tNil))) (tCons (tLst (tCons (tVar 2) (tCons (tVar 3) tNil))) (tCons (tTup (tCons (tCB (rListQ K) (tCons (tVar 2) tNil)) (tCons (tVar 3) tNil))) (tCons (tTup (tCons (tVar 2) (tCons (tCB (rListQ K) (tCons (tVar 3) tNil)) tNil))) tNil)))))))) (gName 10))
  (tSeq (tAsg (tOp (rAddA K) (tVar 10) (tLst (tCons (tTup (tCons (tOp (rMulA K) (tTup (tCons (tVar 9) tNil)) (tC (.int 9))) (tCons (tOp (rMulA K) (tTup (tCons (tVar 9) tNil)) (tC (.int 10))) tNil))) (tCons (tTup (tCons (tVar 2) tNil)) (tCons (tOp (rAddA K) (tVar 1) (tTup (tCons (tVar 9) tNil))) (tCons (tTup (tCons (tVar 3) (tCons (tVar 2) tNil))) (tCons (tC .non) (tCons (tC (.int 5)) (tCons (tC (.str ("line" : Str))) (tCons tDNewK (tCons (tVar 2) tNil))))))))))) (gName 10))
  (tSeq (tIfS (tTest (tOp (rI0 fun i j => .bl (decide (j < i))) (tVar 4) (tC (.int 1)))) (tAsg (tOp (rAddA K) (tVar 10) (tOp (rMulA K) (tLst (tCons (tTup (tCons (tVar 2) (tCons (tOp (rAddA K) (tOp (rAddA K) (tSl (rSlX2 K) (tVar 3) tNoPart (tPart (tC (.int 1)))) (tTup (tCons (tTup (tCons (tC (.int 0)) (tCons (tC (.int 1)) tNil))) tNil))) (tSl (rSlX2 K) (tVar 3) (tPart (tC (.int 2))) tNoPart)) tNil))) tNil)) (tC (.int 3)))) (gName 10)) tNext)
  (tRet (tCall (sp__law_one K) [] E0 (tCons (tVar 0) (tCons (tVar 10) tNil)))))))))))))
theorem pure__law_bad_line (K : PySem.W.Frag) (vs : List V) (H : Hp) (Q : VK) (E : XK) (h : sp__law_bad_line K vs H Q E) : t__law_bad_line K { nx := fun _ H' => Q .non H', rt := Q } (L2.start N__law_bad_line vs) H := body_W h (by decide) fun B w ds hp => by
  obtain ⟨v, c, e, hc1, hc8, hl⟩ := hp
  subst e
  unfold t__law_bad_line
  obtain ⟨dd, ss, rfl, hd, hs, ha, ha0, hin⟩ := hl
  refine st_seq (st_unpack (ev_var rfl ⟨_, rfl, rfl, tg_cons (tg_cons (tg_nil ?_))⟩))
  refine st_seq (st_asg ?_)
  walk_at "dd"
  refine st_par (ea_cons (ev_callW rfl ?_))
  walk_at "dd"
  refine ⟨⟨_, rfl, by omega, by omega⟩, fun d ⟨m', z, em, ed, hz0, hz1⟩ => ?_⟩
  cases em
  subst ed
  refine ea_cons (ev_callW rfl ?_)
  walk_at "dd"
  refine ⟨⟨_, rfl, by omega, by omega⟩, fun d ⟨m', y, em, ed, hy0, hy1⟩ => ?_⟩
  cases em
  subst ed
  refine ea_nil ⟨_, _, rfl, ?_⟩
  obtain ⟨a, rfl⟩ := Int.eq_ofNat_of_zero_le hz0
  obtain ⟨b, rfl⟩ := Int.eq_ofNat_of_zero_le hy0
  have hda : a < dd.length := by omega
  have hsb : b < ss.length := by omega
  have cl := fun (zs : List PyData) lo hi => cutD_le zs lo hi
  obtain ⟨n1, m1, en1, hn10, hn11, hm10, hm11, _⟩ := ha dd[a] (List.getElem_mem hda)
  obtain ⟨n2, m2, en2, hn20, hn21, hm20, hm21⟩ := (ha0 ss[b] (List.getElem_mem hsb)).parts
  -- bent
  refine st_seq (st_asg ?_)
  walk_at "dd"
  refine ev_callW rfl ?_
  walk_at "dd"
  refine rok_ixsT (d := dd[a]) (atI_nat (List.getElem?_eq_getElem hda)) ?_
  walk_at "dd"
  refine ⟨⟨n1, m1, by rw [en1], by omega, hn11, hm10, hm11⟩, fun x1 hx1 => ?_⟩
  walk_at "dd"
  have c1 := cl dd none (some (a : Int))
  have c2 := cl dd (some ((a : Int) + 1)) none
  refine ro_catT (by simp; omega) ?_
  walk_at "dd"
  refine ro_catT (by simp; omega) ?_
  have hm1 : x1 ∈ DL.cutD dd none (some (a : Int)) ++ [x1] ++ DL.cutD dd (some ((a : Int) + 1)) none := by simp
  revert hm1
  generalize DL.cutD dd none (some (a : Int)) ++ [x1] ++ DL.cutD dd (some ((a : Int) + 1)) none = bent
  intro hm1
  -- loose
  refine st_seq (st_asg ?_)
  walk_at "dd"
  refine ev_callW rfl ?_
  walk_at "dd"
  refine rok_ixsT (d := ss[b]) (atI_nat (List.getElem?_eq_getElem hsb)) ?_
  walk_at "dd"
  refine ⟨⟨n2, m2, by rw [en2], hn20, hn21, hm20, hm21⟩, fun x2 hx2 => ?_⟩
  walk_at "dd"
  have c3 := cl ss none (some (b : Int))
  have c4 := cl ss (some ((b : Int) + 1)) none
  refine ro_catT (by simp; omega) ?_
  walk_at "dd"
  refine ro_catT (by simp; omega) ?_
  have hm2 : x2 ∈ DL.cutD ss none (some (b : Int)) ++ [x2] ++ DL.cutD ss (some ((b : Int) + 1)) none := by simp
  revert hm2
  generalize DL.cutD ss none (some (b : Int)) ++ [x2] ++ DL.cutD ss (some ((b : Int) + 1)) none = loose
  intro hm2
  have f1 : isLineD (.tuple [.tuple bent, .tuple ss]) = false := isLine_bad_disc hm1 hx1
  have f2 : isLineD (.tuple [.tuple dd, .tuple loose]) = false := isLine_bad_shaft hm2 hx2
  refine st_seq (st_par ?_)
  walk_at "dd"
  have c5 := cl ss (some 1) none
  refine ⟨_, _, rfl, ?_⟩
  have g1 : ∀ d ∈ [PyData.tuple [.tuple bent, .tuple ss], .tuple [.tuple dd, .tuple loose], .tuple [.tuple bent, .tuple ss], .tuple [.tuple dd, .tuple loose], .tuple [.tuple dd, .tuple (DL.cutD ss (some 1) none)]], isLineD d = false := fun d hd' => by
    simp only [List.mem_cons, List.not_mem_nil, or_false] at hd'
    rcases hd' with rfl | rfl | rfl | rfl | rfl
    · exact f1
    · exact f2
    · exact f1
    · exact f2
    · refine isLine_len2 fun zs ez => ?_
      cases ez
      rw [show (some (1 : Int)) = some ((1 : Nat) : Int) from rfl, cutFrom, List.length_drop]
      omega
  have k1 : [PyData.tuple [.tuple bent, .tuple ss], .tuple [.tuple dd, .tuple loose], .tuple [.tuple bent, .tuple ss], .tuple [.tuple dd, .tuple loose], .tuple [.tuple dd, .tuple (DL.cutD ss (some 1) none)]].length = 5 := rfl
  revert g1 k1
  generalize [PyData.tuple [.tuple bent, .tuple ss], .tuple [.tuple dd, .tuple loose], .tuple [.tuple bent, .tuple ss], .tuple [.tuple dd, .tuple loose], .tuple [.tuple dd, .tuple (DL.cutD ss (some 1) none)]] = some1
  intro g1 k1
  refine st_seq (st_asg ?_)
  walk_at "dd"
  refine ro_catT (by simp; omega) ?_
  walk_at "dd"
  refine ro_catL (by simp; omega) ?_
  have g2 : ∀ d ∈ some1 ++ [PyData.tuple [.tuple dd, .tuple (ss ++ [.tuple [.int 1, .int 1]])], .tuple [.tuple [], .tuple []], .tuple [.tuple [], .tuple [.tuple [.int 1, .int 1]]], .list [.tuple dd, .tuple ss], .tuple [.list dd, .tuple ss], .tuple [.tuple dd, .list ss]], isLineD d = false := fun d hd' => by
    rcases List.mem_append.mp hd' with hd' | hd'
    · exact g1 d hd'
    · simp only [List.mem_cons, List.not_mem_nil, or_false] at hd'
      rcases hd' with rfl | rfl | rfl | rfl | rfl | rfl
      · refine isLine_len2 fun zs ez => ?_
        cases ez
        rw [List.length_append]
        simp
        omega
      · exact isLine_disc (by simp)
      · exact isLine_disc (by simp)
      · rfl
      · rfl
      · exact isLine_len2 fun zs ez => by cases ez
  have k2 : (some1 ++ [PyData.tuple [.tuple dd, .tuple (ss ++ [.tuple [.int 1, .int 1]])], .tuple [.tuple [], .tuple []], .tuple [.tuple [], .tuple [.tuple [.int 1, .int 1]]], .list [.tuple dd, .tuple ss], .tuple [.list dd, .tuple ss], .tuple [.tuple dd, .list ss]]).length = 11 := by
    rw [List.length_append, k1]
    rfl
  revert g2 k2
  generalize some1 ++ [PyData.tuple [.tuple dd, .tuple (ss ++ [.tuple [.int 1, .int 1]])], .tuple [.tuple [], .tuple []], .tuple [.tuple [], .tuple [.tuple [.int 1, .int 1]]], .list [.tuple dd, .tuple ss], .tuple [.list dd, .tuple ss], .tuple [.tuple dd, .list ss]] = some2
  intro g2 k2
  refine st_seq (st_asg ?_)
  walk_at "dd"
  refine ro_repT (by simp) (by decide) (by decide) (by simp) ?_
  walk_at "dd"
  refine ro_repT (by simp) (by decide) (by decide) (by simp) ?_
  walk_at "dd"
  refine ro_catT (by simp) ?_
  walk_at "dd"
  refine ro_catL (by simp; omega) ?_
  have g3 : ∀ d ∈ some2 ++ [PyData.tuple [.tuple (List.replicate (Int.toNat 9) [PyData.tuple [.int 1, .int 1]]).flatten, .tuple (List.replicate (Int.toNat 10) [PyData.tuple [.int 1, .int 1]]).flatten], .tuple [.tuple dd], .tuple ([PyData.tuple dd, .tuple ss] ++ [.tuple [.int 1, .int 1]]), .tuple [.tuple ss, .tuple dd], .none, .int 5, .str ("line" : Str), .dict [], .tuple dd], isLineD d = false := fun d hd' => by
    rcases List.mem_append.mp hd' with hd' | hd'
    · exact g2 d hd'
    · simp only [List.mem_cons, List.not_mem_nil, or_false] at hd'
      rcases hd' with rfl | rfl | rfl | rfl | rfl | rfl | rfl | rfl | rfl
      · exact isLine_disc (by decide)
      · rfl
      · rfl
      · refine isLine_len2 fun zs ez => ?_
        cases ez
        omega
      · rfl
      · rfl
      · rfl
      · rfl
      · by_cases h2 : dd.length = 2
        · obtain ⟨x, y, rfl⟩ : ∃ x y, dd = [x, y] := by
            match dd, h2 with
            | [x, y], _ => exact ⟨x, y, rfl⟩
          obtain ⟨n, m, rfl, _⟩ := ha x (List.mem_cons_self ..)
          exact isLine_row1 (by rfl)
        · exact isLine_len h2
  have k3 : (some2 ++ [PyData.tuple [.tuple (List.replicate (Int.toNat 9) [PyData.tuple [.int 1, .int 1]]).flatten, .tuple (List.replicate (Int.toNat 10) [PyData.tuple [.int 1, .int 1]]).flatten], .tuple [.tuple dd], .tuple ([PyData.tuple dd, .tuple ss] ++ [.tuple [.int 1, .int 1]]), .tuple [.tuple ss, .tuple dd], .none, .int 5, .str ("line" : Str), .dict [], .tuple dd]).length = 20 := by
    rw [List.length_append, k2]
    rfl
  revert g3 k3
  generalize some2 ++ [PyData.tuple [.tuple (List.replicate (Int.toNat 9) [PyData.tuple [.int 1, .int 1]]).flatten, .tuple (List.replicate (Int.toNat 10) [PyData.tuple [.int 1, .int 1]]).flatten], .tuple [.tuple dd], .tuple ([PyData.tuple dd, .tuple ss] ++ [.tuple [.int 1, .int 1]]), .tuple [.tuple ss, .tuple dd], .none, .int 5, .str ("line" : Str), .dict [], .tuple dd] = some3
  intro g3 k3
  have fin : ∀ (Γ : List Sl) (zs : List PyData), Γ[0]? = some (.well w) → Γ[10]? = some (.d (.list zs)) → 0 < zs.length → zs.length < 1000 → (∀ d ∈ zs, isLineD d = false) → StP K B [] [] Γ (tRet (tCall (sp__law_one K) [] E0 (tCons (tVar 0) (tCons (tVar 10) tNil))))
      { nx := fun _ _ => post__law_bad_line [.tuple [.tuple dd, .tuple ss]] .none, rt := post__law_bad_line [.tuple [.tuple dd, .tuple ss]] } := fun Γ zs e0 e10 hz0 hz1 hall =>
    st_ret (ev_callW e0 (ea_cons (ev_var e10 (ea_nil ⟨⟨zs, rfl, hz0, hz1⟩, fun d ⟨xs, ex, hd⟩ => by
      cases ex
      exact hall d hd⟩))))
  walk_at "dd"
  refine ⟨fun hb => ?_, fun _ => ?_⟩
  · have hc2 : 1 < dd.length := by
      have := of_decide_eq_true hb
      omega
    refine st_asg ?_
    walk_at "dd"
    have c6 := cl ss none (some 1)
    have c7 := cl ss (some 2) none
    refine ro_catT (by simp; omega) ?_
    walk_at "dd"
    refine ro_catT (by simp; omega) ?_
    walk_at "dd"
    refine ro_repL (by decide) (by decide) (by simp) ?_
    refine ro_catL (by simp; omega) ?_
    refine fin _ _ rfl rfl (by rw [List.length_append]; omega) (by simp; omega) fun d hd' => ?_
    rcases List.mem_append.mp hd' with hd' | hd'
    · exact g3 d hd'
    · have e3 : d = .tuple [.tuple dd, .tuple (DL.cutD ss none (some 1) ++ [.tuple [.int 0, .int 1]] ++ DL.cutD ss (some 2) none)] := by
        simp at hd'
        simpa using hd'
      subst e3
      rw [show (some (1 : Int)) = some ((1 : Nat) : Int) from rfl, show (some (2 : Int)) = some ((2 : Nat) : Int) from rfl, cutFrom, cutTo]
      refine isLine_zero (i := 1) (x := .tuple [.int 0, .int 1]) ?_ (by omega) hc2 ?_ rfl
      · rw [List.length_append, List.length_append, List.length_take, List.length_drop]
        simp
        omega
      · rw [List.append_assoc, List.getElem?_append_right (by rw [List.length_take]; omega), List.length_take, Nat.min_eq_left (by omega)]
        rfl
  · refine st_next (fin _ _ rfl rfl (by omega) (by omega) g3)
theorem ok__law_bad_line (T : Tx K mg) : FnOk P w K mg base CX0 5 T.a__law_bad_line T.d__law_bad_line p__law_bad_line (sp__law_bad_line K) := by
  refine T.F__law_bad_line.ok sc__law_bad_line (fun vs H Q E h => len__law_bad_line K vs H Q E h) (fun cdv A outer s H vs Q E hr h => ?_)
  exact ⟨t__law_bad_line K, (pss_cons (ps_asg (pv 1) (pg_tup (by rfl) (pgs_cons (pg_name (i := 2) sc__law_bad_line.nd rfl (Or.inl rfl)) (pgs_cons (pg_name (i := 3) sc__law_bad_line.nd rfl (Or.inl rfl)) pgs_nil))))
  (pss_cons (ps_set (i := 4) sc__law_bad_line.nd rfl (Or.inl rfl) (pe_callB call_len_seq (by rfl) T.n_len (by decide +kernel) (pa_cons (pv 2) pa_nil)))
  (pss_cons (ps_par (by rfl) sc__law_bad_line.nd rfl rfl (by decide) rfl rfl (pa_cons (pe_call (ok__law_pull T) (hr.mono (by decide)) rfl T.g__law_pull T.F__law_pull.kp (b__law_pull T) .nil pass0 (pa_cons (pv 0) (pa_cons (pv 4) pa_nil))) (pa_cons (pe_call (ok__law_pull T) (hr.mono (by decide)) rfl T.g__law_pull T.F__law_pull.kp (b__law_pull T) .nil pass0 (pa_cons (pv 0) (pa_cons (pe_op op_addA (pv 4) pe_int) pa_nil))) pa_nil)) (by rfl))
  (pss_cons (ps_set (i := 7) sc__law_bad_line.nd rfl (Or.inl rfl) (pe_op op_addA (pe_op op_addA (pe_slice sl_any (pv 2) po_none (po_some (pv 5))) (pe_tup (pa_cons (pe_call (ok__law_bad_amount T) (hr.mono (by decide)) rfl T.g__law_bad_amount T.F__law_bad_amount.kp (b__law_bad_amount T) .nil pass0 (pa_cons (pv 0) (pa_cons (pe_ix ix_seq (pv 2) (pv 5) (fun _ _ => rfl)) pa_nil))) pa_nil))) (pe_slice sl_any (pv 2) (po_some (pe_op op_addA (pv 5) pe_int)) po_none)))
  (pss_cons (ps_set (i := 8) sc__law_bad_line.nd rfl (Or.inl rfl) (pe_op op_addA (pe_op op_addA (pe_slice sl_any (pv 3) po_none (po_some (pv 6))) (pe_tup (pa_cons (pe_call (ok__law_bad_pace T) (hr.mono (by decide)) rfl T.g__law_bad_pace T.F__law_bad_pace.kp (b__law_bad_pace T) .nil pass0 (pa_cons (pv 0) (pa_cons (pe_ix ix_seq (pv 3) (pv 6) (fun _ _ => rfl)) pa_nil))) pa_nil))) (pe_slice sl_any (pv 3) (po_some (pe_op op_addA (pv 6) pe_int)) po_none)))
  (pss_cons (ps_par (by rfl) sc__law_bad_line.nd rfl rfl (by decide) rfl rfl (pa_cons (pe_tup (pa_cons pe_int (pa_cons pe_int pa_nil))) (pa_cons (pe_lst (pa_cons (pe_tup (pa_cons (pv 7) (pa_cons (pv 3) pa_nil))) (pa_cons (pe_tup (pa_cons (pv 2) (pa_cons (pv 8) pa_nil))) (pa_cons (pe_tup (pa_cons (pv 7) (pa_cons (pv 3) pa_nil))) (pa_cons (pe_tup (pa_cons (pv 2) (pa_cons (pv 8) pa_nil))) (pa_cons (pe_tup (pa_cons (pv 2) (pa_cons (pe_slice sl_any (pv 3) (po_some pe_int) po_none) pa_nil))) pa_nil)))))) pa_nil)) (by rfl))
  (pss_cons (ps_set (i := 10) sc__law_bad_line.nd rfl (Or.inl rfl) (pe_op op_addA (pv 10) (pe_lst (pa_cons (pe_tup (pa_cons (pv 2) (pa_cons (pe_op op_addA (pv 3) (pe_tup (pa_cons (pv 9) pa_nil))) pa_nil))) (pa_cons (pe_tup (pa_cons (pe_tup pa_nil) (pa_cons (pe_tup pa_nil) pa_nil))) (pa_cons (pe_tup (pa_cons (pe_tup pa_nil) (pa_cons (pe_tup (pa_cons (pv 9) pa_nil)) pa_nil))) (pa_cons (pe_lst (pa_cons (pv 2) (pa_cons (pv 3) pa_nil))) (pa_cons (pe_tup (pa_cons (pe_callTy call_list_of (by rfl) T.n_list (by decide +kernel) (pa_cons (pv 2) pa_nil)) (pa_cons (pv 3) pa_nil))) (pa_cons (pe_tup (pa_cons (pv 2) (pa_cons (pe_callTy call_list_of (by rfl) T.n_list (by decide +kernel) (pa_cons (pv 3) pa_nil)) pa_nil))) pa_nil)))))))))
  (pss_cons (ps_set (i := 10) sc__law_bad_line.nd rfl (Or.inl rfl) (pe_op op_addA (pv 10) (pe_lst (pa_cons (pe_tup (pa_cons (pe_op op_mulA (pe_tup (pa_cons (pv 9) pa_nil)) pe_int) (pa_cons (pe_op op_mulA (pe_tup (pa_cons (pv 9) pa_nil)) pe_int) pa_nil))) (pa_cons (pe_tup (pa_cons (pv 2) pa_nil)) (pa_cons (pe_op op_addA (pv 1) (pe_tup (pa_cons (pv 9) pa_nil))) (pa_cons (pe_tup (pa_cons (pv 3) (pa_cons (pv 2) pa_nil))) (pa_cons pe_non (pa_cons pe_int (pa_cons pe_str (pa_cons pe_dnewK (pa_cons (pv 2) pa_nil))))))))))))
  (pss_cons (ps_if (pt_cmpR op_gt (pv 4) pe_int (nomark _)) (pss_one (ps_set (i := 10) sc__law_bad_line.nd rfl (Or.inl rfl) (pe_op op_addA (pv 10) (pe_op op_mulA (pe_lst (pa_cons (pe_tup (pa_cons (pv 2) (pa_cons (pe_op op_addA (pe_op op_addA (pe_slice sl_any (pv 3) po_none (po_some pe_int)) (pe_tup (pa_cons (pe_tup (pa_cons pe_int (pa_cons pe_int pa_nil))) pa_nil))) (pe_slice sl_any (pv 3) (po_some pe_int) po_none)) pa_nil))) pa_nil)) pe_int)))) pss_nil)
  (pss_one (ps_ret (pe_call (ok__law_one T) (hr.mono (by decide)) rfl T.g__law_one T.F__law_one.kp (b__law_one T) .nil pass0 (pa_cons (pv 0) (pa_cons (pv 10) pa_nil)))))))))))))), pure__law_bad_line K vs H Q E h⟩
/-! ### _law_right -/
section
variable {K : PySem.W.Frag} {B : Bs} {G : List Hp} {L : List Addr} {Γ : List Sl} {te : TE} {k : PyData → Prop}
theorem ev_isLine (h : EvP K B G L Γ te fun d => k (.bool (isLineD d))) : EvP K B G L Γ (tCall (sp_is_line K) [] E0 (tCons te tNil)) k :=
  ev_callP (ea_cons (h.mono fun d hk => ea_nil ⟨⟨d, rfl⟩, fun d' ⟨v, ev, ed⟩ => by cases ev; rw [ed]; exact hk⟩))
theorem ev_isLineK (h : EvP K B G L Γ te fun d => k (.bool (isLineD d))) : EvP K B G L Γ (tCallK0 (sp_is_line K) E0 (tCons te tNil)) k :=
  ev_callK0 (ea_cons (h.mono fun d hk => ea_nil ⟨⟨d, rfl⟩, fun d' ⟨v, ev, ed⟩ => by cases ev; rw [ed]; exact hk⟩))
end
theorem zero_line {dd ss : List PyData} {c : Nat} (hs : ss.length = c + 1) (hd : dd.length = c) (hc2 : 1 < dd.length) : isLineD (.tuple [.tuple dd, .tuple (DL.cutD ss none (some 1) ++ [.tuple [.int 0, .int 1]] ++ DL.cutD ss (some 2) none)]) = false := by
  rw [show (some (1 : Int)) = some ((1 : Nat) : Int) from rfl, show (some (2 : Int)) = some ((2 : Nat) : Int) from rfl, cutFrom, cutTo]
  refine isLine_zero (i := 1) (x := .tuple [.int 0, .int 1]) ?_ (by omega) hc2 ?_ rfl
  · rw [List.length_append, List.length_append, List.length_take, List.length_drop]
    simp
    omega
  · rw [List.append_assoc, List.getElem?_append_right (by rw [List.length_take]; omega), List.length_take, Nat.min_eq_left (by omega)]
    rfl
def pre__law_right : List PyData → Prop := fun ds => True ∧ ds = []
def post__law_right : List PyData → PyData → Prop := fun ds d => d = .bool true
abbrev sp__law_right (K : PySem.W.Frag) : Sp := SpW K pre__law_right post__law_right
theorem len__law_right (K : PySem.W.Frag) (vs : List V) (H : Hp) (Q : VK) (E : XK) (h : sp__law_right K vs H Q E) : vs.length = p__law_right.length := len_W (n := 0) h fun ds hp => by
  obtain ⟨_, e⟩ := hp
  rw [e]; rfl
def t__law_right (K : PySem.W.Frag) : TS :=
  (tSeq (tFor (iRng1 (tCons (tC (.int 3)) tNil)) (gName 1) (tSeq (tAsg (tCall (sp__law_line K) [] E0 (tCons (tVar 0) (tCons (tOp (rAddA K) (tC (.int 1)) (tCall (sp__law_pull K) [] E0 (tCons (tVar 0) (tCons (tC (.int 8)) tNil)))) tNil))) (gName 2))
  (tSeq (tFor (iList K (tLst (tCons (tVar 2) (tCons (tCall (sp__law_line_back K) [] E0 (tCons (tVar 2) tNil)) (tCons (tTup (tCons (tOp (rIx K) (tVar 2) (tC (.int 0))) (tCons (tOp (rAddA K) (tTup (tCons (tTup (tCons (tC (.int 0)) (tCons (tC (.int 1)) tNil))) tNil)) (tSl (rSlX2 K) (tOp (rIx K) (tVar 2) (tC (.int 1))) (tPart (tC (.int 1))) tNoPart)) tNil))) (tCons (tTup (tCons (tOp (rIx K) (tVar 2) (tC (.int 0))) (tCons (tOp (rAddA K) (tSl (rSlX2 K) (tOp (rIx K) (tVar 2) (tC (.int 1))) tNoPart (tPart (tUn (rU fun i => .int (-i)) (tC (.int 1))))) (tTup (tCons (tTup (tCons (tC (.int 7)) (tCons (tC (.int 3)) tNil))) tNil))) tNil))) tNil)))))) (gName 3) (tIfS (tOr (tTest (tOp rNotB (tCall (sp_is_line K) [] E0 (tCons (tVar 3) tNil)) (tC (.bl true)))) (tTest (tOp rNotB (tCallK0 (sp_is_line K) E0 (tCons (tVar 3) tNil)) (tC (.bl true))))) (tRet (tC (.bl false))) tNext))
  (tSeq (tFor (iRng1 (tCons (tC (.int 3)) tNil)) (gName 4) (tIfS (tTest (tOp rNotB (tCall (sp_is_line K) [] E0 (tCons (tCall (sp__law_bad_line K) [] E0 (tCons (tVar 0) (tCons (tVar 2) tNil))) tNil)) (tC (.bl false)))) (tRet (tC (.bl false))) tNext))
  (tIfS (tAnd (tTest (tOp (rI0 fun i j => .bl (decide (j < i))) (tCB (rLenQ K) (tCons (tOp (rIx K) (tVar 2) (tC (.int 0))) tNil)) (tC (.int 1)))) (tTest (tOp rNotB (tCall (sp_is_line K) [] E0 (tCons (tTup (tCons (tOp (rIx K) (tVar 2) (tC (.int 0))) (tCons (tOp (rAddA K) (tOp (rAddA K) (tSl (rSlX2 K) (tOp (rIx K) (tVar 2) (tC (.int 1))) tNoPart (tPart (tC (.int 1)))) (tTup (tCons (tTup (tCons (tC (.int 0)) (tCons (tC (.int 1)) tNil))) tNil))) (tSl (rSlX2 K) (tOp (rIx K) (tVar 2) (tC (.int 1))) (tPart (tC (.int 2))) tNoPart)) tNil))) tNil)) (tC (.bl false))))) (tRet (tC (.bl false))) tNext)))))
  (tSeq (tAsg (tTup (tCons (tOp (rMulA K) (tTup (tCons (tTup (tCons (tC (.int 1)) (tCons (tC (.int 1)) tNil))) tNil)) (tC (.int 8))) (tCons (tOp (rAddA K) (tOp (rAddA K) (tTup (tCons (tTup (tCons (tC (.int 0)) (tCons (tC (.int 1)) tNil))) tNil)) (tOp (rMulA K) (tTup (tCons (tTup (tCons (tC (.int 1)) (tCons (tC (.int 1)) tNil))) tNil)) (tC (.int 7)))) (tTup (tCons (tTup (tCons (tC (.int 0)) (tCons (tC (.int 1)) tNil))) tNil))) tNil))) (gName 5))
  (tSeq (tIfS (tOr (tTest (tOp rNotB (tCall (sp_is_line K) [] E0 (tCons (tVar 5) tNil)) (tC (.bl true)))) (tTest (tOp rNotB (tCall (sp_is_line K) [] E0 (tCons (tTup (tCons (tOp (rAddA K) (tOp (rIx K) (tVar 5) (tC (.int 0))) (tTup (tCons (tTup (tCons (tC (.int 1)) (tCons (tC (.int 1)) tNil))) tNil))) (tCons (tOp (rAddA K) (tOp (rIx K) (tVar 5) (tC (.int 1))) (tTup (tCons (tTup (tCons (tC (.int 1)) (tCons (tC (.int 1)) tNil))) tNil))) tNil))) tNil)) (tC (.bl false))))) (tRet (tC (.bl false))) tNext)
  (tSeq (tFor (iList K (tLst (tCons (tC .non) (tCons (tC (.int 0)) (tCons (tC (.bl true)) (tCons (tC (.str ("line" : Str))) (tCons (tTup tNil) (tCons (tLst tNil) (tCons tDNewK (tCons (tTup (tCons (tTup tNil) (tCons (tTup tNil) tNil))) (tCons (tTup (tCons (tTup tNil) (tCons (tTup (tCons (tTup (tCons (tC (.int 1)) (tCons (tC (.int 1)) tNil))) tNil)) tNil))) (tCons (tTup (tCons (tTup (tCons (tTup (tCons (tC (.int 1)) (tCons (tC (.int 1)) tNil))) tNil)) (tCons (tTup (tCons (tTup (tCons (tC (.int 0)) (tCons (tC (.int 1)) tNil))) tNil)) tNil))) (tCons (tTup (tCons (tC (.int 1)) (tCons (tC (.int 2)) tNil))) (tCons (tTup (tCons (tC .non) (tCons (tC .non) tNil))) tNil)))))))))))))) (gName 6) (tIfS (tTest (tOp rNotB (tCall (sp_is_line K) [] E0 (tCons (tVar 6) tNil)) (tC (.bl false)))) (tRet (tC (.bl false))) tNext))
  (tRet (tOp rIsB (tCall (sp_is_line K) [] E0 (tCons (tTup (tCons (tTup (tCons (tTup (tCons (tC (.int 1)) (tCons (tC (.int 1)) tNil))) tNil)) (tCons (tTup (tCons (tTup (tCons (tC (.int 0)) (tCons (tC (.int 1)) tNil))) (tCons (tTup (tCons (tC (.int 0)) (tCons (tC (.int 1)) tNil))) tNil))) tNil))) tNil)) (tC (.bl true))))))))
theorem pure__law_right (K : PySem.W.Frag) (vs : List V) (H : Hp) (Q : VK) (E : XK) (h : sp__law_right K vs H Q E) : t__law_right K { nx := fun _ H' => Q .non H', rt := Q } (L2.start N__law_right vs) H := body_W h (by decide) fun B w ds hp => by
  obtain ⟨_, e⟩ := hp
  subst e
  unfold t__law_right
  refine st_seq (st_forR (ea_cons (ev_int (ea_nil ⟨_, rfl, by decide, by decide, fun i L2 Γ2 => L2 = [] ∧ ∃ s1 s2 s3 s4 s5 s6, Γ2 = [.well w, s1, s2, s3, s4, s5, s6], ⟨rfl, _, _, _, _, _, _, rfl⟩, ?_, ?_⟩))))
  · rintro i L2 Γ2 hi ⟨rfl, s1, s2, s3, s4, s5, s6, rfl⟩
    refine st_seq (st_asg (ev_callW rfl ?_))
    refine ea_cons (ev_op (ev_int (ev_callW rfl ?_)))
    walk_at "dd"
    refine ⟨⟨_, rfl, by decide, by decide⟩, fun d ⟨m', z, em, ed, hz0, hz1⟩ => ?_⟩
    cases em
    subst ed
    obtain ⟨c0, rfl⟩ := Int.eq_ofNat_of_zero_le hz0
    refine ro_add (ea_nil ⟨⟨c0 + 1, by rw [Int.natCast_add, Int.add_comm]; rfl, by omega, by omega⟩, fun d ⟨c, ec, hl⟩ => ?_⟩)
    have hcc : c = c0 + 1 := by
      injection ec with e1 _
      injection e1 with e2
      omega
    subst hcc
    have h1 : 1 ≤ c0 + 1 := by omega
    have h8 : c0 + 1 ≤ 8 := by omega
    obtain ⟨dd, ss, rfl, hd, hs, ha, ha0, hin⟩ := id hl
    refine st_seq (st_forL (ev_lst ?_))
    refine ea_cons (ev_var rfl (ea_cons (ev_callP (ea_cons (ev_var rfl (ea_nil ⟨⟨_, _, rfl, h1, hl⟩, fun db ⟨v, ev, hb⟩ => ?_⟩))))))
    cases ev
    refine ea_cons (ev_tup ?_)
    refine ea_cons (ev_op (ev_var rfl (ev_int (rok_ixsT (d := .tuple dd) rfl ?_))))
    refine ea_cons (ev_op ?_)
    walk_at "dd"
    refine rok_ixsT (d := .tuple ss) rfl ?_
    walk_at "dd"
    have c1 := cutD_le ss (some 1) none
    refine ro_catT (by simp; omega) ?_
    walk_at "dd"
    refine rok_ixsT (d := .tuple dd) rfl ?_
    walk_at "dd"
    refine rok_ixsT (d := .tuple ss) rfl ?_
    walk_at "dd"
    have c2 := cutD_le ss none (some (-1))
    refine ro_catT (by simp; omega) ?_
    have l3 : LineOk (.tuple [.tuple dd, .tuple ([PyData.tuple [.int 0, .int 1]] ++ DL.cutD ss (some 1) none)]) (c0 + 1) := by
      rw [show (some (1 : Int)) = some ((1 : Nat) : Int) from rfl, cutFrom]
      refine ⟨dd, _, rfl, hd, by rw [List.length_append, List.length_drop]; simp; omega, ha, fun x hx => ?_, fun j x h0 hj hx => ?_⟩
      · rcases List.mem_append.mp hx with hx | hx
        · rw [List.mem_singleton.mp hx]
          exact .inr rfl
        · exact ha0 x (List.mem_of_mem_drop hx)
      · rw [List.getElem?_append_right (by simp; omega), List.getElem?_drop] at hx
        exact hin j x h0 hj (by rw [← hx]; congr 1; simp; omega)
    have l4 : LineOk (.tuple [.tuple dd, .tuple (DL.cutD ss none (some (-1)) ++ [PyData.tuple [.int 7, .int 3]])]) (c0 + 1) := by
      have e1 : DL.cutD ss none (some (-1)) = ss.take (c0 + 1) := by
        unfold DL.cutD
        have e2 : HT.sIx ss.length ss.length (some (-1)) = ss.length - 1 := by
          show (if (-1 : Int) < 0 then ((-1 : Int) + (ss.length : Int)).toNat else min (-1 : Int).toNat ss.length) = _
          rw [if_pos (by decide)]
          omega
        rw [e2, HT.sIx_none, List.drop_zero, hs]
        rfl
      rw [e1]
      refine ⟨dd, _, rfl, hd, by rw [List.length_append, List.length_take]; simp; omega, ha, fun x hx => ?_, fun j x h0 hj hx => ?_⟩
      · rcases List.mem_append.mp hx with hx | hx
        · exact ha0 x (List.mem_of_mem_take hx)
        · rw [List.mem_singleton.mp hx]
          exact .inl ⟨7, 3, rfl, by decide, by decide, by decide, by decide, by decide⟩
      · rw [List.getElem?_append_left (by rw [List.length_take]; omega), List.getElem?_take_of_lt hj] at hx
        exact hin j x h0 hj hx
    have all4 : ∀ x ∈ [PyData.tuple [.tuple dd, .tuple ss], db, .tuple [.tuple dd, .tuple ([PyData.tuple [.int 0, .int 1]] ++ DL.cutD ss (some 1) none)], .tuple [.tuple dd, .tuple (DL.cutD ss none (some (-1)) ++ [PyData.tuple [.int 7, .int 3]])]], isLineD x = true := fun x hx => by
      simp only [List.mem_cons, List.not_mem_nil, or_false] at hx
      rcases hx with rfl | rfl | rfl | rfl
      · exact hl.line h1 h8
      · exact (hb _ hl).line h1 h8
      · exact l3.line h1 h8
      · exact l4.line h1 h8
    refine ea_nil (sz_and (by simp) ?_)
    refine ea_nil ⟨by simp, _, rfl, fun i L2 Γ2 => L2 = [] ∧ ∃ s1 s3 s4 s5 s6, Γ2 = [.well w, s1, .d (.tuple [.tuple dd, .tuple ss]), s3, s4, s5, s6], ⟨rfl, _, _, _, _, _, rfl⟩, ?_, ?_⟩
    · rintro i d' L2 Γ2 g hi ⟨rfl, s1, s3, s4, s5, s6, rfl⟩
      have hd' := all4 d' (List.mem_of_getElem? hi)
      refine st_if (et_or (et_test (ev_op (ev_isLine (ev_var rfl (ev_bl (rok_notB ⟨_, rfl, fun _ => ?_, fun hb => ?_⟩)))))))
      · refine et_test (ev_op (ev_isLineK (ev_var rfl (ev_bl (rok_notB ⟨_, rfl, fun hb => ?_, fun _ => ?_⟩)))))
        · rw [hd'] at hb
          cases hb
        · exact st_next ⟨rfl, _, _, _, _, _, rfl⟩
      · rw [hd'] at hb
        cases hb
    · rintro L2 Γ2 ⟨rfl, s1, s3, s4, s5, s6, rfl⟩
      refine st_seq (st_forR (ea_cons (ev_int (ea_nil ⟨_, rfl, by decide, by decide, fun i L2 Γ2 => L2 = [] ∧ ∃ s1 s3 s4 s5 s6, Γ2 = [.well w, s1, .d (.tuple [.tuple dd, .tuple ss]), s3, s4, s5, s6], ⟨rfl, _, _, _, _, _, rfl⟩, ?_, ?_⟩))))
      · rintro i L2 Γ2 hi ⟨rfl, s1, s3, s4, s5, s6, rfl⟩
        refine st_if (et_test (ev_op (ev_isLine (ev_callW rfl (ea_cons (ev_var rfl (ea_nil ⟨⟨_, _, rfl, h1, h8, hl⟩, fun x hx => ?_⟩)))))))
        refine ev_bl (rok_notB ⟨_, rfl, fun hb => ?_, fun _ => ?_⟩)
        · rw [show isLineD x = false from hx] at hb
          cases hb
        · exact st_next ⟨rfl, _, _, _, _, _, rfl⟩
      · rintro L2 Γ2 ⟨rfl, s1, s3, s4, s5, s6, rfl⟩
        refine st_if (et_and (et_test (ev_op (ev_cb ?_))))
        refine ea_cons (ev_op (ev_var rfl (ev_int (rok_ixsT (d := .tuple dd) rfl ?_))))
        refine ea_nil (co_lenT (ev_int (rok_b0 ⟨_, rfl, fun hb => ?_, fun _ => ?_⟩)))
        · have hc2 : 1 < dd.length := by
            have := of_decide_eq_true hb
            omega
          refine et_test (ev_op (ev_isLine (ev_tup ?_)))
          refine ea_cons (ev_op (ev_var rfl (ev_int (rok_ixsT (d := .tuple dd) rfl ?_))))
          walk_at "dd"
          refine rok_ixsT (d := .tuple ss) rfl ?_
          walk_at "dd"
          have c1 := cutD_le ss none (some 1)
          have c2 := cutD_le ss (some 2) none
          refine ro_catT (by simp; omega) ?_
          walk_at "dd"
          refine rok_ixsT (d := .tuple ss) rfl ?_
          walk_at "dd"
          refine ro_catT (by simp; omega) ?_
          walk_at "dd"
          have e0 : isLineD (.tuple [.tuple dd, .tuple (DL.cutD ss none (some 1) ++ [.tuple [.int 0, .int 1]] ++ DL.cutD ss (some 2) none)]) = false := zero_line hs hd hc2
          refine ⟨fun hb => ?_, fun _ => ?_⟩
          · rw [e0] at hb
            cases hb
          · exact st_next ⟨rfl, _, _, _, _, _, _, rfl⟩
        · exact ⟨fun z => (nomatch z), fun _ => st_next ⟨rfl, _, _, _, _, _, _, rfl⟩⟩
  · rintro L2 Γ2 ⟨rfl, s1, s2, s3, s4, s5, s6, rfl⟩
    refine st_seq (st_asg ?_)
    walk_at "dd"
    refine ro_repT (by simp) (by decide) (by decide) (by simp) ?_
    walk_at "dd"
    refine ro_repT (by simp) (by decide) (by decide) (by simp) ?_
    refine ro_catT (by simp) ?_
    walk_at "dd"
    refine ro_catT (by simp) ?_
    refine ea_nil (sz_and (by simp) ?_)
    refine st_seq (st_if (et_or (et_test (ev_op (ev_isLine (ev_var rfl (ev_bl (rok_notB ⟨_, rfl, fun _ => ?_, fun hb => ?_⟩))))))))
    · refine et_test (ev_op (ev_isLine (ev_tup ?_)))
      refine ea_cons (ev_op (ev_op (ev_var rfl (ev_int (rok_ixsT rfl ?_)))))
      walk_at "dd"
      refine ro_catT (by simp) ?_
      refine ea_cons (ev_op (ev_op (ev_var rfl (ev_int (rok_ixsT rfl ?_)))))
      walk_at "dd"
      refine ro_catT (by simp) ?_
      refine ea_nil (sz_and (by simp) (ev_bl (rok_notB ⟨_, rfl, fun hb => ?_, fun _ => ?_⟩)))
      · exact absurd hb (by decide +kernel)
      · refine st_next (st_seq (st_forL (ev_lst ?_)))
        walk_at "dd"
        refine ⟨fun i L2 Γ2 => L2 = [] ∧ ∃ s1 s2 s3 s4 s5 s6, Γ2 = [.well w, s1, s2, s3, s4, s5, s6], ⟨rfl, _, _, _, _, _, _, rfl⟩, ?_, ?_⟩
        · rintro i d' L2 Γ2 g hi ⟨rfl, s1, s2, s3, s4, s5, s6, rfl⟩
          have hd' : isLineD d' = false := by
            have := List.mem_of_getElem? hi
            simp only [List.mem_cons, List.not_mem_nil, or_false] at this
            rcases this with rfl | rfl | rfl | rfl | rfl | rfl | rfl | rfl | rfl | rfl | rfl | rfl <;> rfl
          refine st_if (et_test (ev_op (ev_isLine (ev_var rfl (ev_bl (rok_notB ⟨_, rfl, fun hb => ?_, fun _ => ?_⟩))))))
          · rw [hd'] at hb
            cases hb
          · exact st_next ⟨rfl, _, _, _, _, _, _, rfl⟩
        · rintro L2 Γ2 ⟨rfl, s1, s2, s3, s4, s5, s6, rfl⟩
          refine st_ret (ev_op (ev_isLine ?_))
          walk_at "dd"
          rfl
    · exact absurd hb (by decide +kernel)
theorem ok__law_right (T : Tx K mg) : FnOk P w K mg base CX0 6 T.a__law_right T.d__law_right p__law_right (sp__law_right K) := by
  refine T.F__law_right.ok sc__law_right (fun vs H Q E h => len__law_right K vs H Q E h) (fun cdv A outer s H vs Q E hr h => ?_)
  exact ⟨t__law_right K, (pss_cons (ps_for PassesOwn.never rfl (pi_range1 (by rfl) T.n_range (pa_cons pe_int pa_nil)) (pg_name (i := 1) sc__law_right.nd rfl (Or.inl rfl)) (pss_cons (ps_set (i := 2) sc__law_right.nd rfl (Or.inl rfl) (pe_call (ok__law_line T) (hr.mono (by decide)) rfl T.g__law_line T.F__law_line.kp (b__law_line T) .nil pass0 (pa_cons (pv 0) (pa_cons (pe_op op_addA pe_int (pe_call (ok__law_pull T) (hr.mono (by decide)) rfl T.g__law_pull T.F__law_pull.kp (b__law_pull T) .nil pass0 (pa_cons (pv 0) (pa_cons pe_int pa_nil)))) pa_nil))))
  (pss_cons (ps_for PassesOwn.never rfl (pi_list (pe_lst (pa_cons (pv 2) (pa_cons (pe_call (ok__law_line_back T) (hr.mono (by decide)) rfl T.g__law_line_back T.F__law_line_back.kp (b__law_line_back T) .nil pass0 (pa_cons (pv 2) pa_nil)) (pa_cons (pe_tup (pa_cons (pe_ix ix_seq (pv 2) pe_int (fun _ _ => rfl)) (pa_cons (pe_op op_addA (pe_tup (pa_cons (pe_tup (pa_cons pe_int (pa_cons pe_int pa_nil))) pa_nil)) (pe_slice sl_any (pe_ix ix_seq (pv 2) pe_int (fun _ _ => rfl)) (po_some pe_int) po_none)) pa_nil))) (pa_cons (pe_tup (pa_cons (pe_ix ix_seq (pv 2) pe_int (fun _ _ => rfl)) (pa_cons (pe_op op_addA (pe_slice sl_any (pe_ix ix_seq (pv 2) pe_int (fun _ _ => rfl)) po_none (po_some (pe_un un_neg pe_int))) (pe_tup (pa_cons (pe_tup (pa_cons pe_int (pa_cons pe_int pa_nil))) pa_nil))) pa_nil))) pa_nil)))))) (pg_name (i := 3) sc__law_right.nd rfl (Or.inl rfl)) (pss_one (ps_if (PW.pt (pw_or (pt_cmpR op_notBl (pe_call (ok_is_line T) (hr.mono (by decide)) rfl T.g_is_line T.F_is_line.kp (b_is_line T) .nil pass0 (pa_cons (pv 3) pa_nil)) pe_bl (nomark _)) (pw_or1 (pt_cmpR op_notBl (pe_callK0 (ok_is_line T) (hr.mono (by decide)) rfl T.g_is_line T.F_is_line.kp (kb_is_line T) pass0 (pk_cons (pv 3) pk_nil)) pe_bl (nomark _))))) (pss_one (ps_ret pe_bl)) pss_nil)))
  (pss_cons (ps_for PassesOwn.never rfl (pi_range1 (by rfl) T.n_range (pa_cons pe_int pa_nil)) (pg_name (i := 4) sc__law_right.nd rfl (Or.inl rfl)) (pss_one (ps_if (pt_cmpR op_notBl (pe_call (ok_is_line T) (hr.mono (by decide)) rfl T.g_is_line T.F_is_line.kp (b_is_line T) .nil pass0 (pa_cons (pe_call (ok__law_bad_line T) (hr.mono (by decide)) rfl T.g__law_bad_line T.F__law_bad_line.kp (b__law_bad_line T) .nil pass0 (pa_cons (pv 0) (pa_cons (pv 2) pa_nil))) pa_nil)) pe_bl (nomark _)) (pss_one (ps_ret pe_bl)) pss_nil)))
  (pss_one (ps_if (PW.pt (pw_and (pt_cmpR op_gt (pe_callB call_len_seq (by rfl) T.n_len (by decide +kernel) (pa_cons (pe_ix ix_seq (pv 2) pe_int (fun _ _ => rfl)) pa_nil)) pe_int (nomark _)) (pw_and1 (pt_cmpR op_notBl (pe_call (ok_is_line T) (hr.mono (by decide)) rfl T.g_is_line T.F_is_line.kp (b_is_line T) .nil pass0 (pa_cons (pe_tup (pa_cons (pe_ix ix_seq (pv 2) pe_int (fun _ _ => rfl)) (pa_cons (pe_op op_addA (pe_op op_addA (pe_slice sl_any (pe_ix ix_seq (pv 2) pe_int (fun _ _ => rfl)) po_none (po_some pe_int)) (pe_tup (pa_cons (pe_tup (pa_cons pe_int (pa_cons pe_int pa_nil))) pa_nil))) (pe_slice sl_any (pe_ix ix_seq (pv 2) pe_int (fun _ _ => rfl)) (po_some pe_int) po_none)) pa_nil))) pa_nil)) pe_bl (nomark _))))) (pss_one (ps_ret pe_bl)) pss_nil))))))
  (pss_cons (ps_set (i := 5) sc__law_right.nd rfl (Or.inl rfl) (pe_tup (pa_cons (pe_op op_mulA (pe_tup (pa_cons (pe_tup (pa_cons pe_int (pa_cons pe_int pa_nil))) pa_nil)) pe_int) (pa_cons (pe_op op_addA (pe_op op_addA (pe_tup (pa_cons (pe_tup (pa_cons pe_int (pa_cons pe_int pa_nil))) pa_nil)) (pe_op op_mulA (pe_tup (pa_cons (pe_tup (pa_cons pe_int (pa_cons pe_int pa_nil))) pa_nil)) pe_int)) (pe_tup (pa_cons (pe_tup (pa_cons pe_int (pa_cons pe_int pa_nil))) pa_nil))) pa_nil))))
  (pss_cons (ps_if (PW.pt (pw_or (pt_cmpR op_notBl (pe_call (ok_is_line T) (hr.mono (by decide)) rfl T.g_is_line T.F_is_line.kp (b_is_line T) .nil pass0 (pa_cons (pv 5) pa_nil)) pe_bl (nomark _)) (pw_or1 (pt_cmpR op_notBl (pe_call (ok_is_line T) (hr.mono (by decide)) rfl T.g_is_line T.F_is_line.kp (b_is_line T) .nil pass0 (pa_cons (pe_tup (pa_cons (pe_op op_addA (pe_ix ix_seq (pv 5) pe_int (fun _ _ => rfl)) (pe_tup (pa_cons (pe_tup (pa_cons pe_int (pa_cons pe_int pa_nil))) pa_nil))) (pa_cons (pe_op op_addA (pe_ix ix_seq (pv 5) pe_int (fun _ _ => rfl)) (pe_tup (pa_cons (pe_tup (pa_cons pe_int (pa_cons pe_int pa_nil))) pa_nil))) pa_nil))) pa_nil)) pe_bl (nomark _))))) (pss_one (ps_ret pe_bl)) pss_nil)
  (pss_cons (ps_for PassesOwn.never rfl (pi_list (pe_lst (pa_cons pe_non (pa_cons pe_int (pa_cons pe_bl (pa_cons pe_str (pa_cons (pe_tup pa_nil) (pa_cons (pe_lst pa_nil) (pa_cons pe_dnewK (pa_cons (pe_tup (pa_cons (pe_tup pa_nil) (pa_cons (pe_tup pa_nil) pa_nil))) (pa_cons (pe_tup (pa_cons (pe_tup pa_nil) (pa_cons (pe_tup (pa_cons (pe_tup (pa_cons pe_int (pa_cons pe_int pa_nil))) pa_nil)) pa_nil))) (pa_cons (pe_tup (pa_cons (pe_tup (pa_cons (pe_tup (pa_cons pe_int (pa_cons pe_int pa_nil))) pa_nil)) (pa_cons (pe_tup (pa_cons (pe_tup (pa_cons pe_int (pa_cons pe_int pa_nil))) pa_nil)) pa_nil))) (pa_cons (pe_tup (pa_cons pe_int (pa_cons pe_int pa_nil))) (pa_cons (pe_tup (pa_cons pe_non (pa_cons pe_non pa_nil))) pa_nil)))))))))))))) (pg_name (i := 6) sc__law_right.nd rfl (Or.inl rfl)) (pss_one (ps_if (pt_cmpR op_notBl (pe_call (ok_is_line T) (hr.mono (by decide)) rfl T.g_is_line T.F_is_line.kp (b_is_line T) .nil pass0 (pa_cons (pv 6) pa_nil)) pe_bl (nomark _)) (pss_one (ps_ret pe_bl)) pss_nil)))
  (pss_one (ps_ret (pe_cmpR op_isBl (pe_call (ok_is_line T) (hr.mono (by decide)) rfl T.g_is_line T.F_is_line.kp (b_is_line T) .nil pass0 (pa_cons (pe_tup (pa_cons (pe_tup (pa_cons (pe_tup (pa_cons pe_int (pa_cons pe_int pa_nil))) pa_nil)) (pa_cons (pe_tup (pa_cons (pe_tup (pa_cons pe_int (pa_cons pe_int pa_nil))) (pa_cons (pe_tup (pa_cons pe_int (pa_cons pe_int pa_nil))) pa_nil))) pa_nil))) pa_nil)) pe_bl (nomark _)))))))), pure__law_right K vs H Q E h⟩
/-! ### law -/
def sp_law (K : PySem.W.Frag) : Sp := fun vs H Q _ => ∃ (a : Addr) (ns : List Int), vs = [.ref a] ∧ SqL K H a (ns.map V.int) ∧ ns.length ≤ 63 ∧ ∀ H', Q (.bl true) H'
theorem len_law (K : PySem.W.Frag) (vs : List V) (H : Hp) (Q : VK) (E : XK) (h : sp_law K vs H Q E) : vs.length = p_law.length := by
  obtain ⟨a, ns, rfl, _⟩ := h
  rfl
def t_law (K : PySem.W.Frag) : TS :=
  (tRet (tCall (sp__law_right K) [] E0 (tCons (tCall (sp__law_well K) [] E0 (tCons (tVar 0) (tCons (tC (.int 0)) tNil))) tNil)))
theorem pure_law (K : PySem.W.Frag) (vs : List V) (H : Hp) (Q : VK) (E : XK) (h : sp_law K vs H Q E) : t_law K { nx := fun _ H' => Q .non H', rt := Q } (L2.start N_law vs) H := by
  obtain ⟨a, ns, rfl, hS, hlen, q⟩ := h
  unfold t_law
  refine ⟨_, rfl, ?_⟩
  show sp__law_well K [.ref a, .int 0] H (fun v H1 => sp__law_right K [v] H1 Q E0) E0
  refine ⟨a, ns, 0, rfl, hS, hlen, by decide, fun p H' s hp hw => ?_⟩
  show sp__law_right K [.ref p] H' Q E0
  refine ⟨[p], p, [], [], rfl, List.mem_singleton.mpr rfl, hw, fun m hm => ?_, .nil, ⟨trivial, rfl⟩, fun v d H2 _ _ dn hd => ?_⟩
  · rw [List.mem_singleton.mp hm]
    obtain ⟨n, b, c, e, _⟩ := hw
    exact ⟨_, e⟩
  · rw [show d = .bool true from hd] at dn
    rw [dn_bool dn]
    exact q H2
theorem ok_law (T : Tx K mg) : FnOk P w K mg base CX0 7 T.a_law T.d_law p_law (sp_law K) := by
  refine T.F_law.ok sc_law (fun vs H Q E h => len_law K vs H Q E h) (fun cdv A outer s H vs Q E hr h => ?_)
  exact ⟨t_law K, (pss_one (ps_ret (pe_call (ok__law_right T) (hr.mono (by decide)) rfl T.g__law_right T.F__law_right.kp (b__law_right T) .nil pass0 (pa_cons (pe_call (ok__law_well T) (hr.mono (by decide)) rfl T.g__law_well T.F__law_well.kp (b__law_well T) .nil pass0 (pa_cons (pv 0) (pa_cons pe_int pa_nil))) pa_nil)))), pure_law K vs H Q E h⟩
end
theorem all_mk {l : PySem.W.OpenLaw} {w : World} {K : PySem.W.Frag} {h : Heap} {mg : Str → Option Value} {fa : Addr} (X : K.In h) (G : h.Ns mainGlobals mg) (hfa : mg "law" = some (.ref fa))
    {f_is_whole f_is_fraction f_is_fraction_from_nought f_is_row_of_fractions f_is_line f__law_well f__law_pull f__law_one f__law_gcd f__law_cut f__law_amount f__law_line f__law_line_back f__law_bad_fraction f__law_bad_amount f__law_bad_pace f__law_bad_line f__law_right f_law  : Addr} {od_is_whole an_is_whole od_is_fraction an_is_fraction od_is_fraction_from_nought an_is_fraction_from_nought od_is_row_of_fractions an_is_row_of_fractions od_is_line an_is_line od__law_well an__law_well od__law_pull an__law_pull od__law_one an__law_one od__law_gcd an__law_gcd od__law_cut an__law_cut od__law_amount an__law_amount od__law_line an__law_line od__law_line_back an__law_line_back od__law_bad_fraction an__law_bad_fraction od__law_bad_amount an__law_bad_amount od__law_bad_pace an__law_bad_pace od__law_bad_line an__law_bad_line od__law_right an__law_right od_law an_law : Option Addr} {sl_is_whole sl_is_fraction sl_is_fraction_from_nought sl_is_row_of_fractions sl_is_line sl__law_well sl__law_pull sl__law_one sl__law_gcd sl__law_cut sl__law_amount sl__law_line sl__law_line_back sl__law_bad_fraction sl__law_bad_amount sl__law_bad_pace sl__law_bad_line sl__law_right sl_law : Array (Option Value)} {oc_is_whole kV_is_whole dc_is_whole pm_is_whole cd_is_whole ct_is_whole oc_is_fraction kV_is_fraction dc_is_fraction pm_is_fraction cd_is_fraction ct_is_fraction oc_is_fraction_from_nought kV_is_fraction_from_nought dc_is_fraction_from_nought pm_is_fraction_from_nought cd_is_fraction_from_nought ct_is_fraction_from_nought oc_is_row_of_fractions kV_is_row_of_fractions dc_is_row_of_fractions pm_is_row_of_fractions cd_is_row_of_fractions ct_is_row_of_fractions oc_is_line kV_is_line dc_is_line pm_is_line cd_is_line ct_is_line oc__law_well kV__law_well dc__law_well pm__law_well cd__law_well ct__law_well oc__law_pull kV__law_pull dc__law_pull pm__law_pull cd__law_pull ct__law_pull oc__law_one kV__law_one dc__law_one pm__law_one cd__law_one ct__law_one oc__law_gcd kV__law_gcd dc__law_gcd pm__law_gcd cd__law_gcd ct__law_gcd oc__law_cut kV__law_cut dc__law_cut pm__law_cut cd__law_cut ct__law_cut oc__law_amount kV__law_amount dc__law_amount pm__law_amount cd__law_amount ct__law_amount oc__law_line kV__law_line dc__law_line pm__law_line cd__law_line ct__law_line oc__law_line_back kV__law_line_back dc__law_line_back pm__law_line_back cd__law_line_back ct__law_line_back oc__law_bad_fraction kV__law_bad_fraction dc__law_bad_fraction pm__law_bad_fraction cd__law_bad_fraction ct__law_bad_fraction oc__law_bad_amount kV__law_bad_amount dc__law_bad_amount pm__law_bad_amount cd__law_bad_amount ct__law_bad_amount oc__law_bad_pace kV__law_bad_pace dc__law_bad_pace pm__law_bad_pace cd__law_bad_pace ct__law_bad_pace oc__law_bad_line kV__law_bad_line dc__law_bad_line pm__law_bad_line cd__law_bad_line ct__law_bad_line oc__law_right kV__law_right dc__law_right pm__law_right cd__law_right ct__law_right oc_law kV_law dc_law pm_law cd_law ct_law : Value} {t_MOST_DISCS : Tok}
    (a_is_whole : PySem.W.nsIn K mainGlobals "is_whole" = some (some (.ref f_is_whole)))
    (l_is_whole : K.lookup f_is_whole = some ⟨oc_is_whole, od_is_whole, .func (PySem.W.fnOf "is_whole" "is_whole" (defArgs s_is_whole) (defBody s_is_whole) (defScope s_is_whole) .none kV_is_whole dc_is_whole pm_is_whole an_is_whole cd_is_whole ct_is_whole), sl_is_whole⟩)
    (c_is_whole : PySem.W.codeIn K cd_is_whole "is_whole" = true)
    (k_is_whole : PySem.W.keepIn K (.ref f_is_whole) = true)
    (a_is_fraction : PySem.W.nsIn K mainGlobals "is_fraction" = some (some (.ref f_is_fraction)))
    (l_is_fraction : K.lookup f_is_fraction = some ⟨oc_is_fraction, od_is_fraction, .func (PySem.W.fnOf "is_fraction" "is_fraction" (defArgs s_is_fraction) (defBody s_is_fraction) (defScope s_is_fraction) .none kV_is_fraction dc_is_fraction pm_is_fraction an_is_fraction cd_is_fraction ct_is_fraction), sl_is_fraction⟩)
    (c_is_fraction : PySem.W.codeIn K cd_is_fraction "is_fraction" = true)
    (k_is_fraction : PySem.W.keepIn K (.ref f_is_fraction) = true)
    (a_is_fraction_from_nought : PySem.W.nsIn K mainGlobals "is_fraction_from_nought" = some (some (.ref f_is_fraction_from_nought)))
    (l_is_fraction_from_nought : K.lookup f_is_fraction_from_nought = some ⟨oc_is_fraction_from_nought, od_is_fraction_from_nought, .func (PySem.W.fnOf "is_fraction_from_nought" "is_fraction_from_nought" (defArgs s_is_fraction_from_nought) (defBody s_is_fraction_from_nought) (defScope s_is_fraction_from_nought) .none kV_is_fraction_from_nought dc_is_fraction_from_nought pm_is_fraction_from_nought an_is_fraction_from_nought cd_is_fraction_from_nought ct_is_fraction_from_nought), sl_is_fraction_from_nought⟩)
    (c_is_fraction_from_nought : PySem.W.codeIn K cd_is_fraction_from_nought "is_fraction_from_nought" = true)
    (k_is_fraction_from_nought : PySem.W.keepIn K (.ref f_is_fraction_from_nought) = true)
    (a_is_row_of_fractions : PySem.W.nsIn K mainGlobals "is_row_of_fractions" = some (some (.ref f_is_row_of_fractions)))
    (l_is_row_of_fractions : K.lookup f_is_row_of_fractions = some ⟨oc_is_row_of_fractions, od_is_row_of_fractions, .func (PySem.W.fnOf "is_row_of_fractions" "is_row_of_fractions" (defArgs s_is_row_of_fractions) (defBody s_is_row_of_fractions) (defScope s_is_row_of_fractions) .none kV_is_row_of_fractions dc_is_row_of_fractions pm_is_row_of_fractions an_is_row_of_fractions cd_is_row_of_fractions ct_is_row_of_fractions), sl_is_row_of_fractions⟩)
    (c_is_row_of_fractions : PySem.W.codeIn K cd_is_row_of_fractions "is_row_of_fractions" = true)
    (k_is_row_of_fractions : PySem.W.keepIn K (.ref f_is_row_of_fractions) = true)
    (a_is_line : PySem.W.nsIn K mainGlobals "is_line" = some (some (.ref f_is_line)))
    (l_is_line : K.lookup f_is_line = some ⟨oc_is_line, od_is_line, .func (PySem.W.fnOf "is_line" "is_line" (defArgs s_is_line) (defBody s_is_line) (defScope s_is_line) .none kV_is_line dc_is_line pm_is_line an_is_line cd_is_line ct_is_line), sl_is_line⟩)
    (c_is_line : PySem.W.codeIn K cd_is_line "is_line" = true)
    (k_is_line : PySem.W.keepIn K (.ref f_is_line) = true)
    (a__law_well : PySem.W.nsIn K mainGlobals "_law_well" = some (some (.ref f__law_well)))
    (l__law_well : K.lookup f__law_well = some ⟨oc__law_well, od__law_well, .func (PySem.W.fnOf "_law_well" "_law_well" (defArgs s__law_well) (defBody s__law_well) (defScope s__law_well) .none kV__law_well dc__law_well pm__law_well an__law_well cd__law_well ct__law_well), sl__law_well⟩)
    (c__law_well : PySem.W.codeIn K cd__law_well "_law_well" = true)
    (k__law_well : PySem.W.keepIn K (.ref f__law_well) = true)
    (a__law_pull : PySem.W.nsIn K mainGlobals "_law_pull" = some (some (.ref f__law_pull)))
    (l__law_pull : K.lookup f__law_pull = some ⟨oc__law_pull, od__law_pull, .func (PySem.W.fnOf "_law_pull" "_law_pull" (defArgs s__law_pull) (defBody s__law_pull) (defScope s__law_pull) .none kV__law_pull dc__law_pull pm__law_pull an__law_pull cd__law_pull ct__law_pull), sl__law_pull⟩)
    (c__law_pull : PySem.W.codeIn K cd__law_pull "_law_pull" = true)
    (k__law_pull : PySem.W.keepIn K (.ref f__law_pull) = true)
    (a__law_one : PySem.W.nsIn K mainGlobals "_law_one" = some (some (.ref f__law_one)))
    (l__law_one : K.lookup f__law_one = some ⟨oc__law_one, od__law_one, .func (PySem.W.fnOf "_law_one" "_law_one" (defArgs s__law_one) (defBody s__law_one) (defScope s__law_one) .none kV__law_one dc__law_one pm__law_one an__law_one cd__law_one ct__law_one), sl__law_one⟩)
    (c__law_one : PySem.W.codeIn K cd__law_one "_law_one" = true)
    (k__law_one : PySem.W.keepIn K (.ref f__law_one) = true)
    (a__law_gcd : PySem.W.nsIn K mainGlobals "_law_gcd" = some (some (.ref f__law_gcd)))
    (l__law_gcd : K.lookup f__law_gcd = some ⟨oc__law_gcd, od__law_gcd, .func (PySem.W.fnOf "_law_gcd" "_law_gcd" (defArgs s__law_gcd) (defBody s__law_gcd) (defScope s__law_gcd) .none kV__law_gcd dc__law_gcd pm__law_gcd an__law_gcd cd__law_gcd ct__law_gcd), sl__law_gcd⟩)
    (c__law_gcd : PySem.W.codeIn K cd__law_gcd "_law_gcd" = true)
    (k__law_gcd : PySem.W.keepIn K (.ref f__law_gcd) = true)
    (a__law_cut : PySem.W.nsIn K mainGlobals "_law_cut" = some (some (.ref f__law_cut)))
    (l__law_cut : K.lookup f__law_cut = some ⟨oc__law_cut, od__law_cut, .func (PySem.W.fnOf "_law_cut" "_law_cut" (defArgs s__law_cut) (defBody s__law_cut) (defScope s__law_cut) .none kV__law_cut dc__law_cut pm__law_cut an__law_cut cd__law_cut ct__law_cut), sl__law_cut⟩)
    (c__law_cut : PySem.W.codeIn K cd__law_cut "_law_cut" = true)
    (k__law_cut : PySem.W.keepIn K (.ref f__law_cut) = true)
    (a__law_amount : PySem.W.nsIn K mainGlobals "_law_amount" = some (some (.ref f__law_amount)))
    (l__law_amount : K.lookup f__law_amount = some ⟨oc__law_amount, od__law_amount, .func (PySem.W.fnOf "_law_amount" "_law_amount" (defArgs s__law_amount) (defBody s__law_amount) (defScope s__law_amount) .none kV__law_amount dc__law_amount pm__law_amount an__law_amount cd__law_amount ct__law_amount), sl__law_amount⟩)
    (c__law_amount : PySem.W.codeIn K cd__law_amount "_law_amount" = true)
    (k__law_amount : PySem.W.keepIn K (.ref f__law_amount) = true)
    (a__law_line : PySem.W.nsIn K mainGlobals "_law_line" = some (some (.ref f__law_line)))
    (l__law_line : K.lookup f__law_line = some ⟨oc__law_line, od__law_line, .func (PySem.W.fnOf "_law_line" "_law_line" (defArgs s__law_line) (defBody s__law_line) (defScope s__law_line) .none kV__law_line dc__law_line pm__law_line an__law_line cd__law_line ct__law_line), sl__law_line⟩)
    (c__law_line : PySem.W.codeIn K cd__law_line "_law_line" = true)
    (k__law_line : PySem.W.keepIn K (.ref f__law_line) = true)
    (a__law_line_back : PySem.W.nsIn K mainGlobals "_law_line_back" = some (some (.ref f__law_line_back)))
    (l__law_line_back : K.lookup f__law_line_back = some ⟨oc__law_line_back, od__law_line_back, .func (PySem.W.fnOf "_law_line_back" "_law_line_back" (defArgs s__law_line_back) (defBody s__law_line_back) (defScope s__law_line_back) .none kV__law_line_back dc__law_line_back pm__law_line_back an__law_line_back cd__law_line_back ct__law_line_back), sl__law_line_back⟩)
    (c__law_line_back : PySem.W.codeIn K cd__law_line_back "_law_line_back" = true)
    (k__law_line_back : PySem.W.keepIn K (.ref f__law_line_back) = true)
    (a__law_bad_fraction : PySem.W.nsIn K mainGlobals "_law_bad_fraction" = some (some (.ref f__law_bad_fraction)))
    (l__law_bad_fraction : K.lookup f__law_bad_fraction = some ⟨oc__law_bad_fraction, od__law_bad_fraction, .func (PySem.W.fnOf "_law_bad_fraction" "_law_bad_fraction" (defArgs s__law_bad_fraction) (defBody s__law_bad_fraction) (defScope s__law_bad_fraction) .none kV__law_bad_fraction dc__law_bad_fraction pm__law_bad_fraction an__law_bad_fraction cd__law_bad_fraction ct__law_bad_fraction), sl__law_bad_fraction⟩)
    (c__law_bad_fraction : PySem.W.codeIn K cd__law_bad_fraction "_law_bad_fraction" = true)
    (k__law_bad_fraction : PySem.W.keepIn K (.ref f__law_bad_fraction) = true)
    (a__law_bad_amount : PySem.W.nsIn K mainGlobals "_law_bad_amount" = some (some (.ref f__law_bad_amount)))
    (l__law_bad_amount : K.lookup f__law_bad_amount = some ⟨oc__law_bad_amount, od__law_bad_amount, .func (PySem.W.fnOf "_law_bad_amount" "_law_bad_amount" (defArgs s__law_bad_amount) (defBody s__law_bad_amount) (defScope s__law_bad_amount) .none kV__law_bad_amount dc__law_bad_amount pm__law_bad_amount an__law_bad_amount cd__law_bad_amount ct__law_bad_amount), sl__law_bad_amount⟩)
    (c__law_bad_amount : PySem.W.codeIn K cd__law_bad_amount "_law_bad_amount" = true)
    (k__law_bad_amount : PySem.W.keepIn K (.ref f__law_bad_amount) = true)
    (a__law_bad_pace : PySem.W.nsIn K mainGlobals "_law_bad_pace" = some (some (.ref f__law_bad_pace)))
    (l__law_bad_pace : K.lookup f__law_bad_pace = some ⟨oc__law_bad_pace, od__law_bad_pace, .func (PySem.W.fnOf "_law_bad_pace" "_law_bad_pace" (defArgs s__law_bad_pace) (defBody s__law_bad_pace) (defScope s__law_bad_pace) .none kV__law_bad_pace dc__law_bad_pace pm__law_bad_pace an__law_bad_pace cd__law_bad_pace ct__law_bad_pace), sl__law_bad_pace⟩)
    (c__law_bad_pace : PySem.W.codeIn K cd__law_bad_pace "_law_bad_pace" = true)
    (k__law_bad_pace : PySem.W.keepIn K (.ref f__law_bad_pace) = true)
    (a__law_bad_line : PySem.W.nsIn K mainGlobals "_law_bad_line" = some (some (.ref f__law_bad_line)))
    (l__law_bad_line : K.lookup f__law_bad_line = some ⟨oc__law_bad_line, od__law_bad_line, .func (PySem.W.fnOf "_law_bad_line" "_law_bad_line" (defArgs s__law_bad_line) (defBody s__law_bad_line) (defScope s__law_bad_line) .none kV__law_bad_line dc__law_bad_line pm__law_bad_line an__law_bad_line cd__law_bad_line ct__law_bad_line), sl__law_bad_line⟩)
    (c__law_bad_line : PySem.W.codeIn K cd__law_bad_line "_law_bad_line" = true)
    (k__law_bad_line : PySem.W.keepIn K (.ref f__law_bad_line) = true)
    (a__law_right : PySem.W.nsIn K mainGlobals "_law_right" = some (some (.ref f__law_right)))
    (l__law_right : K.lookup f__law_right = some ⟨oc__law_right, od__law_right, .func (PySem.W.fnOf "_law_right" "_law_right" (defArgs s__law_right) (defBody s__law_right) (defScope s__law_right) .none kV__law_right dc__law_right pm__law_right an__law_right cd__law_right ct__law_right), sl__law_right⟩)
    (c__law_right : PySem.W.codeIn K cd__law_right "_law_right" = true)
    (k__law_right : PySem.W.keepIn K (.ref f__law_right) = true)
    (a_law : PySem.W.nsIn K mainGlobals "law" = some (some (.ref f_law)))
    (l_law : K.lookup f_law = some ⟨oc_law, od_law, .func (PySem.W.fnOf "law" "law" (defArgs s_law) (defBody s_law) (defScope s_law) .none kV_law dc_law pm_law an_law cd_law ct_law), sl_law⟩)
    (c_law : PySem.W.codeIn K cd_law "law" = true)
    (k_law : PySem.W.keepIn K (.ref f_law) = true)
    (q_MOST_DISCS : PySem.W.nsIn K mainGlobals "MOST_DISCS" = some (some (.int 8 t_MOST_DISCS)))
    (q_abs : PySem.W.nsIn K mainGlobals "abs" = some none)
    (q_all : PySem.W.nsIn K mainGlobals "all" = some none)
    (q_bool : PySem.W.nsIn K mainGlobals "bool" = some none)
    (q_divmod : PySem.W.nsIn K mainGlobals "divmod" = some none)
    (q_gcd : PySem.W.nsIn K mainGlobals "gcd" = some (some (.builtin "math.gcd")))
    (q_int : PySem.W.nsIn K mainGlobals "int" = some none)
    (q_isinstance : PySem.W.nsIn K mainGlobals "isinstance" = some none)
    (q_len : PySem.W.nsIn K mainGlobals "len" = some none)
    (q_list : PySem.W.nsIn K mainGlobals "list" = some none)
    (q_range : PySem.W.nsIn K mainGlobals "range" = some none)
    (q_str : PySem.W.nsIn K mainGlobals "str" = some none)
    (q_sum : PySem.W.nsIn K mainGlobals "sum" = some none)
    (q_tuple : PySem.W.nsIn K mainGlobals "tuple" = some none) :
    ∃ fd : FuncData, (∀ (s : Shared) (v : Value), BindsTo s fd ⟨[v], []⟩ [("_law_script", v)]) ∧ ∀ base : Heap, K.In base → base.Ns mainGlobals mg → FnOk l.prog w K mg base CX0 7 fa fd ["_law_script"] (sp_law K) := by
  have e := hfa.symm.trans (PySem.W.mg_of X G a_law)
  cases e
  have T : { T : Tx K mg // T.a_law = fa ∧ T.d_law = PySem.W.fnOf "law" "law" (defArgs s_law) (defBody s_law) (defScope s_law) .none kV_law dc_law pm_law an_law cd_law ct_law } := ⟨{ a_is_whole := f_is_whole, d_is_whole := _, F_is_whole := fun_mk l_is_whole c_is_whole k_is_whole, g_is_whole := PySem.W.mg_of X G a_is_whole, a_is_fraction := f_is_fraction, d_is_fraction := _, F_is_fraction := fun_mk l_is_fraction c_is_fraction k_is_fraction, g_is_fraction := PySem.W.mg_of X G a_is_fraction, a_is_fraction_from_nought := f_is_fraction_from_nought, d_is_fraction_from_nought := _, F_is_fraction_from_nought := fun_mk l_is_fraction_from_nought c_is_fraction_from_nought k_is_fraction_from_nought, g_is_fraction_from_nought := PySem.W.mg_of X G a_is_fraction_from_nought, a_is_row_of_fractions := f_is_row_of_fractions, d_is_row_of_fractions := _, F_is_row_of_fractions := fun_mk l_is_row_of_fractions c_is_row_of_fractions k_is_row_of_fractions, g_is_row_of_fractions := PySem.W.mg_of X G a_is_row_of_fractions, a_is_line := f_is_line, d_is_line := _, F_is_line := fun_mk l_is_line c_is_line k_is_line, g_is_line := PySem.W.mg_of X G a_is_line, a__law_well := f__law_well, d__law_well := _, F__law_well := fun_mk l__law_well c__law_well k__law_well, g__law_well := PySem.W.mg_of X G a__law_well, a__law_pull := f__law_pull, d__law_pull := _, F__law_pull := fun_mk l__law_pull c__law_pull k__law_pull, g__law_pull := PySem.W.mg_of X G a__law_pull, a__law_one := f__law_one, d__law_one := _, F__law_one := fun_mk l__law_one c__law_one k__law_one, g__law_one := PySem.W.mg_of X G a__law_one, a__law_gcd := f__law_gcd, d__law_gcd := _, F__law_gcd := fun_mk l__law_gcd c__law_gcd k__law_gcd, g__law_gcd := PySem.W.mg_of X G a__law_gcd, a__law_cut := f__law_cut, d__law_cut := _, F__law_cut := fun_mk l__law_cut c__law_cut k__law_cut, g__law_cut := PySem.W.mg_of X G a__law_cut, a__law_amount := f__law_amount, d__law_amount := _, F__law_amount := fun_mk l__law_amount c__law_amount k__law_amount, g__law_amount := PySem.W.mg_of X G a__law_amount, a__law_line := f__law_line, d__law_line := _, F__law_line := fun_mk l__law_line c__law_line k__law_line, g__law_line := PySem.W.mg_of X G a__law_line, a__law_line_back := f__law_line_back, d__law_line_back := _, F__law_line_back := fun_mk l__law_line_back c__law_line_back k__law_line_back, g__law_line_back := PySem.W.mg_of X G a__law_line_back, a__law_bad_fraction := f__law_bad_fraction, d__law_bad_fraction := _, F__law_bad_fraction := fun_mk l__law_bad_fraction c__law_bad_fraction k__law_bad_fraction, g__law_bad_fraction := PySem.W.mg_of X G a__law_bad_fraction, a__law_bad_amount := f__law_bad_amount, d__law_bad_amount := _, F__law_bad_amount := fun_mk l__law_bad_amount c__law_bad_amount k__law_bad_amount, g__law_bad_amount := PySem.W.mg_of X G a__law_bad_amount, a__law_bad_pace := f__law_bad_pace, d__law_bad_pace := _, F__law_bad_pace := fun_mk l__law_bad_pace c__law_bad_pace k__law_bad_pace, g__law_bad_pace := PySem.W.mg_of X G a__law_bad_pace, a__law_bad_line := f__law_bad_line, d__law_bad_line := _, F__law_bad_line := fun_mk l__law_bad_line c__law_bad_line k__law_bad_line, g__law_bad_line := PySem.W.mg_of X G a__law_bad_line, a__law_right := f__law_right, d__law_right := _, F__law_right := fun_mk l__law_right c__law_right k__law_right, g__law_right := PySem.W.mg_of X G a__law_right, a_law := fa, d_law := _, F_law := fun_mk l_law c_law k_law, g_law := PySem.W.mg_of X G a_law, t_MOST_DISCS := t_MOST_DISCS, c_MOST_DISCS := PySem.W.mg_of X G q_MOST_DISCS, n_abs := PySem.W.mg_none_of X G q_abs, n_all := PySem.W.mg_none_of X G q_all, n_bool := PySem.W.mg_none_of X G q_bool, n_divmod := PySem.W.mg_none_of X G q_divmod, l_gcd := PySem.W.mg_of X G q_gcd, n_int := PySem.W.mg_none_of X G q_int, n_isinstance := PySem.W.mg_none_of X G q_isinstance, n_len := PySem.W.mg_none_of X G q_len, n_list := PySem.W.mg_none_of X G q_list, n_range := PySem.W.mg_none_of X G q_range, n_str := PySem.W.mg_none_of X G q_str, n_sum := PySem.W.mg_none_of X G q_sum, n_tuple := PySem.W.mg_none_of X G q_tuple }, rfl, rfl⟩
  obtain ⟨T, e1, e2⟩ := T
  refine ⟨T.d_law, fun s v => by rw [e2]; exact .of_eq rfl, fun base _ _ => ?_⟩
  have := ok_law (P := l.prog) (w := w) (base := base) T
  rw [e1] at this
  exact this
theorem walk {l : PySem.W.OpenLaw} {q : Program} {loose : List Str} {XP : (Str → Option Value) → Heap → Prop} {YP : World → Heap → Prop} {d : DefRec} {K : Params → PySem.W.Frag} (hn : l.most = some 63) (hdf : d.params.defaults = [])
    (hY : ∀ (w : World) (h : Heap), YP w h → (K w.params).In h)
    (F : ∀ (w : World) (mg : Str → Option Value) (fa : Addr) (h : Heap), (K w.params).In h → h.Ns mainGlobals mg → mg d.name = some (.ref fa) →
      ∃ fd : FuncData, (∀ (s : Shared) (u : Value), BindsTo s fd ⟨[u], []⟩ [("_law_script", u)]) ∧ ∀ base : Heap, (K w.params).In base → base.Ns mainGlobals mg → FnOk l.prog w (K w.params) mg base CX0 7 fa fd ["_law_script"] (sp_law (K w.params))) :
    PySem.W.WalkO q loose XP YP l.row.toRowW d [] (fun f vs => PySem.call f vs) :=
  L2.walk_of (n := 63) (k := 7) (x := "_law_script") (CX := fun _ => CX0) (sp := fun w => sp_law (K w.params)) hn (by decide) hdf ⟨rfl, by decide, by decide⟩ hY F (fun _ _ a ns hl _ hS => ⟨a, ns, rfl, hS, hl, fun _ => rfl⟩) fun _ _ _ _ _ z => z
end Law
open PySem PySem.W PyProof.Rows
set_option maxRecDepth 100000 in
set_option maxHeartbeats 0 in
theorem PySem.Challenge.cw_shaftshakes_k20_whole_lines_told_of_anyt_holds : PySem.Challenge.rw_shaftshakes_k20_whole_lines_told_of_anyt.Holds := by
  w_on; o_law; k_head; (case hw => w_witness2)
  k_fill
  refine Law.walk (l := PySem.Challenge.rw_shaftshakes_k20_whole_lines_told_of_anyt) rfl rfl (fun w h Y => PySem.W.kIn_of Y) ?F
  case F =>
    intro w mg fa h KX G hmg
    refine' Law.all_mk KX G hmg ?a_is_whole ?l_is_whole ?c_is_whole ?k_is_whole ?a_is_fraction ?l_is_fraction ?c_is_fraction ?k_is_fraction ?a_is_fraction_from_nought ?l_is_fraction_from_nought ?c_is_fraction_from_nought ?k_is_fraction_from_nought ?a_is_row_of_fractions ?l_is_row_of_fractions ?c_is_row_of_fractions ?k_is_row_of_fractions ?a_is_line ?l_is_line ?c_is_line ?k_is_line ?a__law_well ?l__law_well ?c__law_well ?k__law_well ?a__law_pull ?l__law_pull ?c__law_pull ?k__law_pull ?a__law_one ?l__law_one ?c__law_one ?k__law_one ?a__law_gcd ?l__law_gcd ?c__law_gcd ?k__law_gcd ?a__law_cut ?l__law_cut ?c__law_cut ?k__law_cut ?a__law_amount ?l__law_amount ?c__law_amount ?k__law_amount ?a__law_line ?l__law_line ?c__law_line ?k__law_line ?a__law_line_back ?l__law_line_back ?c__law_line_back ?k__law_line_back ?a__law_bad_fraction ?l__law_bad_fraction ?c__law_bad_fraction ?k__law_bad_fraction ?a__law_bad_amount ?l__law_bad_amount ?c__law_bad_amount ?k__law_bad_amount ?a__law_bad_pace ?l__law_bad_pace ?c__law_bad_pace ?k__law_bad_pace ?a__law_bad_line ?l__law_bad_line ?c__law_bad_line ?k__law_bad_line ?a__law_right ?l__law_right ?c__law_right ?k__law_right ?a_law ?l_law ?c_law ?k_law ?q_MOST_DISCS ?q_abs ?q_all ?q_bool ?q_divmod ?q_gcd ?q_int ?q_isinstance ?q_len ?q_list ?q_range ?q_str ?q_sum ?q_tuple
    (case a_is_whole => k_is)
    (case l_is_whole => k_is)
    (case c_is_whole => k_is)
    (case k_is_whole => k_is)
    (case a_is_fraction => k_is)
    (case l_is_fraction => k_is)
    (case c_is_fraction => k_is)
    (case k_is_fraction => k_is)
    (case a_is_fraction_from_nought => k_is)
    (case l_is_fraction_from_nought => k_is)
    (case c_is_fraction_from_nought => k_is)
    (case k_is_fraction_from_nought => k_is)
    (case a_is_row_of_fractions => k_is)
    (case l_is_row_of_fractions => k_is)
    (case c_is_row_of_fractions => k_is)
    (case k_is_row_of_fractions => k_is)
    (case a_is_line => k_is)
    (case l_is_line => k_is)
    (case c_is_line => k_is)
    (case k_is_line => k_is)
    (case a__law_well => k_is)
    (case l__law_well => k_is)
    (case c__law_well => k_is)
    (case k__law_well => k_is)
    (case a__law_pull => k_is)
    (case l__law_pull => k_is)
    (case c__law_pull => k_is)
    (case k__law_pull => k_is)
    (case a__law_one => k_is)
    (case l__law_one => k_is)
    (case c__law_one => k_is)
    (case k__law_one => k_is)
    (case a__law_gcd => k_is)
    (case l__law_gcd => k_is)
    (case c__law_gcd => k_is)
    (case k__law_gcd => k_is)
    (case a__law_cut => k_is)
    (case l__law_cut => k_is)
    (case c__law_cut => k_is)
    (case k__law_cut => k_is)
    (case a__law_amount => k_is)
    (case l__law_amount => k_is)
    (case c__law_amount => k_is)
    (case k__law_amount => k_is)
    (case a__law_line => k_is)
    (case l__law_line => k_is)
    (case c__law_line => k_is)
    (case k__law_line => k_is)
    (case a__law_line_back => k_is)
    (case l__law_line_back => k_is)
    (case c__law_line_back => k_is)
    (case k__law_line_back => k_is)
    (case a__law_bad_fraction => k_is)
    (case l__law_bad_fraction => k_is)
    (case c__law_bad_fraction => k_is)
    (case k__law_bad_fraction => k_is)
    (case a__law_bad_amount => k_is)
    (case l__law_bad_amount => k_is)
    (case c__law_bad_amount => k_is)
    (case k__law_bad_amount => k_is)
    (case a__law_bad_pace => k_is)
    (case l__law_bad_pace => k_is)
    (case c__law_bad_pace => k_is)
    (case k__law_bad_pace => k_is)
    (case a__law_bad_line => k_is)
    (case l__law_bad_line => k_is)
    (case c__law_bad_line => k_is)
    (case k__law_bad_line => k_is)
    (case a__law_right => k_is)
    (case l__law_right => k_is)
    (case c__law_right => k_is)
    (case k__law_right => k_is)
    (case a_law => k_is)
    (case l_law => k_is)
    (case c_law => k_is)
    (case k_law => k_is)
    (case q_MOST_DISCS => k_is)
    (case q_abs => k_is)
    (case q_all => k_is)
    (case q_bool => k_is)
    (case q_divmod => k_is)
    (case q_gcd => k_is)
    (case q_int => k_is)
    (case q_isinstance => k_is)
    (case q_len => k_is)
    (case q_list => k_is)
    (case q_range => k_is)
    (case q_str => k_is)
    (case q_sum => k_is)
    (case q_tuple => k_is)
