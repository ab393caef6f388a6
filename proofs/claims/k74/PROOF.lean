import PyProof.Rows.All
import Wide.All
import OpenK.AllK
import Wide.FinOn
import HandS.ForMost
import HandS.IsInst
import HandS.Style
import HandS.TupAny
import HandS.TupMul
import HandS.Gcd
import HandS.Wide
import HandS.WideBits
import HandS.Conv
import HandS.Exc
import HandS.Zip0
import KE.GoesMore
import PyProof.Draws
import PyProof.EnumMake
import PyProof.ReprRoads
import PyProof.ReprLen
import PyProof.Rows.RegStrFacts
import HandS.RaiseMore
import HandS.TryOnly
import KE.KMathGC
import HandS.Deep
import HandS.ForDict
import HandS.Rev
import HandS.SetFor
import PySem.Challenge.RW_shaftshakes_k74_whole_ends_of_machines
set_option Elab.async false
set_option linter.all false
set_option maxRecDepth 100000
set_option maxHeartbeats 4000000
/-! A layer over HandS: values are told as data, one mutable list (the well) and local lists apart. -/
namespace DL
open PySem PySem.Spec PyProof.Rows L2

/-! ### data -/
mutual
inductive Dn (K : PySem.W.Frag) (H : Hp) : V → PyData → Prop
  | non : Dn K H .non .none
  | bl (b : Bool) : Dn K H (.bl b) (.bool b)
  | int (i : Int) : Dn K H (.int i) (.int i)
  | str (x : Str) : Dn K H (.str x) (.str x)
  | lst {a : Addr} {xs : List V} {ds : List PyData} : H a = some (.lst xs) → DnA K H xs ds → Dn K H (.ref a) (.list ds)
  | tup {a : Addr} {xs : List V} {ds : List PyData} : SqT K H a xs → DnA K H xs ds → Dn K H (.ref a) (.tuple ds)
  | emp {a : Addr} : H a = some (.dK []) → Dn K H (.ref a) (.dict [])
inductive DnA (K : PySem.W.Frag) (H : Hp) : List V → List PyData → Prop
  | nil : DnA K H [] []
  | cons {v : V} {vs : List V} {d : PyData} {ds : List PyData} : Dn K H v d → DnA K H vs ds → DnA K H (v :: vs) (d :: ds)
end

theorem Same.sqt {K : PySem.W.Frag} {H H' : Hp} {a : Addr} {xs : List V} (e : Same H H') (h : SqT K H a xs) : SqT K H' a xs := by
  rcases h with (h | ⟨o, h⟩) | h
  · exact .inl (.inl (e _ _ h))
  · exact .inl (.inr ⟨o, e _ _ h⟩)
  · exact .inr h

section
variable {K : PySem.W.Frag} {H H' : Hp}
mutual
theorem Dn.mono (e : Same H H') : ∀ {v : V} {d : PyData}, Dn K H v d → Dn K H' v d
  | _, _, .non => .non
  | _, _, .bl b => .bl b
  | _, _, .int i => .int i
  | _, _, .str x => .str x
  | _, _, .lst h1 h2 => .lst (e _ _ h1) (DnA.mono e h2)
  | _, _, .tup h1 h2 => .tup (Same.sqt e h1) (DnA.mono e h2)
  | _, _, .emp h => .emp (e _ _ h)
theorem DnA.mono (e : Same H H') : ∀ {vs : List V} {ds : List PyData}, DnA K H vs ds → DnA K H' vs ds
  | _, _, .nil => .nil
  | _, _, .cons h1 h2 => .cons (Dn.mono e h1) (DnA.mono e h2)
end
theorem DnA.length : ∀ {vs : List V} {ds : List PyData}, DnA K H vs ds → vs.length = ds.length
  | _, _, .nil => rfl
  | _, _, .cons _ h => by
    show _ + 1 = _ + 1
    rw [DnA.length h]
theorem DnA.get : ∀ {vs : List V} {ds : List PyData} {i : Nat} {d : PyData}, DnA K H vs ds → ds[i]? = some d → ∃ v, vs[i]? = some v ∧ Dn K H v d
  | _, _, i, _, .nil, e => by simp at e
  | _, _, 0, _, .cons h _, e => by
    simp at e
    subst e
    exact ⟨_, rfl, h⟩
  | _, _, i + 1, _, .cons _ h, e => by
    obtain ⟨v, q, r⟩ := DnA.get (i := i) h (by simpa using e)
    exact ⟨v, by simpa using q, r⟩
theorem DnA.getV : ∀ {vs : List V} {ds : List PyData} {i : Nat} {v : V}, DnA K H vs ds → vs[i]? = some v → ∃ d, ds[i]? = some d ∧ Dn K H v d
  | _, _, i, _, .nil, e => by simp at e
  | _, _, 0, _, .cons h _, e => by
    simp at e
    subst e
    exact ⟨_, rfl, h⟩
  | _, _, i + 1, _, .cons _ h, e => by
    obtain ⟨v, q, r⟩ := DnA.getV (i := i) h (by simpa using e)
    exact ⟨v, by simpa using q, r⟩
theorem DnA.append : ∀ {vs ws : List V} {ds es : List PyData}, DnA K H vs ds → DnA K H ws es → DnA K H (vs ++ ws) (ds ++ es)
  | _, _, _, _, .nil, h => h
  | _, _, _, _, .cons h1 h2, h => .cons h1 (DnA.append h2 h)
theorem DnA.take : ∀ {vs : List V} {ds : List PyData} (n : Nat), DnA K H vs ds → DnA K H (vs.take n) (ds.take n)
  | _, _, 0, _ => .nil
  | _, _, _ + 1, .nil => .nil
  | _, _, n + 1, .cons h1 h2 => .cons h1 (DnA.take n h2)
theorem DnA.drop : ∀ {vs : List V} {ds : List PyData} (n : Nat), DnA K H vs ds → DnA K H (vs.drop n) (ds.drop n)
  | _, _, 0, h => h
  | _, _, _ + 1, .nil => .nil
  | _, _, n + 1, .cons h1 h2 => DnA.drop n h2
theorem DnA.set : ∀ {vs : List V} {ds : List PyData} (i : Nat) {v : V} {d : PyData}, DnA K H vs ds → Dn K H v d → DnA K H (vs.set i v) (ds.set i d)
  | _, _, _, _, _, .nil, _ => .nil
  | _, _, 0, _, _, .cons _ h2, h => .cons h h2
  | _, _, i + 1, _, _, .cons h1 h2, h => .cons h1 (DnA.set i h2 h)
theorem DnA.rev : ∀ {vs : List V} {ds : List PyData}, DnA K H vs ds → DnA K H vs.reverse ds.reverse
  | _, _, .nil => .nil
  | _, _, .cons h1 h2 => by
    rw [List.reverse_cons, List.reverse_cons]
    exact DnA.append (DnA.rev h2) (.cons h1 .nil)
theorem DnA.ints : ∀ {vs : List V} {ns : List Int}, DnA K H vs (ns.map PyData.int) → vs = ns.map V.int
  | _, [], .nil => rfl
  | _, n :: ns, .cons h1 h2 => by
    cases h1
    rw [DnA.ints h2]
    rfl
theorem DnA.of_ints : ∀ (ns : List Int), DnA K H (ns.map V.int) (ns.map PyData.int)
  | [] => .nil
  | n :: ns => .cons (.int n) (DnA.of_ints ns)
theorem DnA.bools : ∀ {vs : List V} {ns : List Bool}, DnA K H vs (ns.map PyData.bool) → vs = ns.map V.bl
  | _, [], .nil => rfl
  | _, n :: ns, .cons h1 h2 => by
    cases h1
    rw [DnA.bools h2]
    rfl
theorem DnA.rep {v : V} {d : PyData} (h : Dn K H v d) : ∀ n : Nat, DnA K H (List.replicate n v) (List.replicate n d)
  | 0 => .nil
  | n + 1 => .cons h (DnA.rep h n)
end

/-! ### what is hidden -/
def hid (M : List Addr) (H : Hp) : Hp := fun a => if a ∈ M then none else H a
theorem hid_out {M : List Addr} {H : Hp} {a : Addr} (h : a ∉ M) : hid M H a = H a := by unfold hid; rw [if_neg h]
theorem hid_some {M : List Addr} {H : Hp} {a : Addr} {o : HO} (h : hid M H a = some o) : a ∉ M ∧ H a = some o := by
  unfold hid at h
  by_cases q : a ∈ M
  · rw [if_pos q] at h; cases h
  · rw [if_neg q] at h; exact ⟨q, h⟩
theorem hid_sub (M : List Addr) (H : Hp) : Same (hid M H) H := fun a o h => (hid_some h).2
theorem hid_less {M N : List Addr} (H : Hp) (h : ∀ a ∈ N, a ∈ M) : Same (hid M H) (hid N H) := fun a o e => by
  obtain ⟨q, e⟩ := hid_some e
  rw [hid_out (fun z => q (h a z))]
  exact e
theorem hid_same {M : List Addr} {H H' : Hp} (h : ∀ a o, a ∉ M → H a = some o → H' a = some o) : Same (hid M H) (hid M H') := fun a o e => by
  obtain ⟨q, e⟩ := hid_some e
  rw [hid_out q]
  exact h a o q e

/-! ### slots -/
inductive Sl where
  | un
  | d (x : PyData)
  | own (l : Addr) (xs : List PyData)
  | well (w : Addr)
  | raw (v : V)

def WellAt (H : Hp) (w : Addr) : Prop := ∃ n b c : Int, H w = some (.lst [.int n, .int b, .int c]) ∧ 0 ≤ n ∧ 0 ≤ b ∧ b < 1099511627776

def SlotOk (K : PySem.W.Frag) (M : List Addr) (H : Hp) (ov : Option V) : Sl → Prop
  | .un => True
  | .d x => ∃ v, ov = some v ∧ Dn K (hid M H) v x
  | .own l xs => ov = some (.ref l) ∧ ∃ vs, H l = some (.lst vs) ∧ DnA K (hid M H) vs xs
  | .well w => ov = some (.ref w)
  | .raw v => ov = some v

structure Bs where
  M : List Addr
  Ws : List Addr
  H : Hp

structure Env (K : PySem.W.Frag) (B : Bs) (G : List Hp) (L : List Addr) (H : Hp) (σ : L2.St) (Γ : List Sl) : Prop where
  fr : ∀ a o, a ∉ B.Ws → B.H a = some o → H a = some o
  ws : ∀ w ∈ B.Ws, WellAt H w
  wm : ∀ w ∈ B.Ws, w ∈ B.M
  lm : ∀ m ∈ B.M, ∃ o, B.H m = some o
  lo : ∀ l ∈ L, B.H l = none ∧ ∃ xs, H l = some (.lst xs)
  len : σ.length = Γ.length
  sl : ∀ (i : Nat) (s : Sl), Γ[i]? = some s → SlotOk K (L ++ B.M) H (σ[i]?.join) s
  gh : ∀ g ∈ G, Same g (hid (L ++ B.M) H)
  ow : ∀ (i : Nat) (l : Addr) (xs : List PyData), Γ[i]? = some (.own l xs) → l ∈ L
  ou : ∀ (i j : Nat) (l : Addr) (xs ys : List PyData), Γ[i]? = some (.own l xs) → Γ[j]? = some (.own l ys) → i = j
  we : ∀ (i : Nat) (w : Addr), Γ[i]? = some (.well w) → w ∈ B.Ws

section
variable {K : PySem.W.Frag} {B : Bs} {G : List Hp} {L : List Addr} {H H' : Hp} {σ : L2.St} {Γ : List Sl}

theorem WellAt.ne {w a : Addr} (h : WellAt H w) (n : H a = none) : a ≠ w := by
  rintro rfl
  obtain ⟨_, _, _, e, _⟩ := h
  rw [n] at e; cases e
theorem Env.alive (E : Env K B G L H σ Γ) : ∀ a ∈ L ++ B.M, ∃ o, H a = some o := fun a ha => by
  rcases List.mem_append.mp ha with h | h
  · obtain ⟨_, xs, e⟩ := E.lo a h
    exact ⟨_, e⟩
  · by_cases w : a ∈ B.Ws
    · obtain ⟨n, b, c, e, _⟩ := E.ws a w
      exact ⟨_, e⟩
    · obtain ⟨o, e⟩ := E.lm a h
      exact ⟨o, E.fr a o w e⟩
theorem Env.newM (E : Env K B G L H σ Γ) {p : Addr} (h : H p = none) : p ∉ L ++ B.M := fun q => by
  obtain ⟨o, e⟩ := E.alive p q
  rw [h] at e; cases e
theorem Env.lW (E : Env K B G L H σ Γ) {l : Addr} (h : l ∈ L) : l ∉ B.Ws := fun w => by
  obtain ⟨o, e⟩ := E.lm l (E.wm l w)
  rw [(E.lo l h).1] at e; cases e
/-- all but the wells is kept -/
theorem Env.step (E : Env K B G L H σ Γ) (h1 : ∀ a o, a ∉ B.Ws → H a = some o → H' a = some o) (h2 : ∀ w ∈ B.Ws, WellAt H' w) :
    Env K B G L H' σ Γ ∧ Same (hid (L ++ B.M) H) (hid (L ++ B.M) H') := by
  have hs : Same (hid (L ++ B.M) H) (hid (L ++ B.M) H') := hid_same fun a o q e => h1 a o (fun w => q (List.mem_append_right _ (E.wm a w))) e
  refine ⟨⟨fun a o w e => h1 a o w (E.fr a o w e), h2, E.wm, E.lm, fun l hl => ?_, E.len, fun i s hi => ?_, fun p hp => (E.gh p hp).trans hs, E.ow, E.ou, E.we⟩, hs⟩
  · obtain ⟨e, xs, q⟩ := E.lo l hl
    exact ⟨e, xs, h1 l _ (E.lW hl) q⟩
  · have q := E.sl i s hi
    cases s with
    | un => trivial
    | d x =>
      obtain ⟨v, e, dn⟩ := q
      exact ⟨v, e, dn.mono hs⟩
    | own l xs =>
      obtain ⟨e, vs, hl, dn⟩ := q
      exact ⟨e, vs, h1 l _ (E.lW (E.ow i l xs hi)) hl, dn.mono hs⟩
    | well w => exact q
    | raw v => exact q
theorem Env.ext (E : Env K B G L H σ Γ) (h : Same H H') : Env K B G L H' σ Γ ∧ Same (hid (L ++ B.M) H) (hid (L ++ B.M) H') :=
  E.step (fun a o _ e => h a o e) fun w hw => by
    obtain ⟨n, b, c, e, q⟩ := E.ws w hw
    exact ⟨n, b, c, h _ _ e, q⟩
theorem same_upd {H : Hp} {p : Addr} {o : HO} (h : H p = none) : Same H (upd H p o) := fun b x e => by
  rw [upd_ne (ne_of_none e h)]
  exact e
theorem hid_new {M : List Addr} {H : Hp} {p : Addr} {o : HO} (h : p ∉ M) : hid M (upd H p o) p = some o := by
  rw [hid_out h]
  exact upd_same
theorem Env.get (E : Env K B G L H σ Γ) {i : Nat} {x : PyData} (h : Γ[i]? = some (.d x)) : ∃ v, σ[i]? = some (some v) ∧ Dn K (hid (L ++ B.M) H) v x := by
  obtain ⟨v, e, dn⟩ := E.sl i _ h
  refine ⟨v, ?_, dn⟩
  cases q : σ[i]? with
  | none => rw [q] at e; cases e
  | some ov =>
    rw [q] at e
    rw [show ov = some v from e]
theorem Env.getW (E : Env K B G L H σ Γ) {i : Nat} {w : Addr} (h : Γ[i]? = some (.well w)) : σ[i]? = some (some (.ref w)) := by
  have e := E.sl i _ h
  cases q : σ[i]? with
  | none => rw [q] at e; cases e
  | some ov =>
    rw [q] at e
    rw [show ov = some (.ref w) from e]
theorem Env.getO (E : Env K B G L H σ Γ) {i : Nat} {l : Addr} {xs : List PyData} (h : Γ[i]? = some (.own l xs)) : σ[i]? = some (some (.ref l)) ∧ ∃ vs, H l = some (.lst vs) ∧ DnA K (hid (L ++ B.M) H) vs xs := by
  have e := E.sl i _ h
  obtain ⟨e, r⟩ := e
  refine ⟨?_, r⟩
  cases q : σ[i]? with
  | none => rw [q] at e; cases e
  | some ov =>
    rw [q] at e
    rw [show ov = some (.ref l) from e]
/-- a slot gets data -/
theorem Env.put (E : Env K B G L H σ Γ) (i : Nat) {v : V} {x : PyData} (h : Dn K (hid (L ++ B.M) H) v x) : Env K B G L H (σ.set i (some v)) (Γ.set i (.d x)) := by
  have g : ∀ (j : Nat) (s : Sl), (Γ.set i (.d x))[j]? = some s → (j = i ∧ s = .d x ∧ j < Γ.length) ∨ (j ≠ i ∧ Γ[j]? = some s) := fun j s hj => by
    by_cases e : j = i
    · subst e
      refine .inl ⟨rfl, ?_⟩
      by_cases hl : j < Γ.length
      · rw [List.getElem?_set_self hl] at hj
        exact ⟨(Option.some.inj hj).symm, hl⟩
      · rw [List.getElem?_eq_none (by rw [List.length_set]; omega)] at hj
        cases hj
    · rw [List.getElem?_set_ne (Ne.symm e)] at hj
      exact .inr ⟨e, hj⟩
  refine ⟨E.fr, E.ws, E.wm, E.lm, E.lo, by rw [List.length_set, List.length_set]; exact E.len, fun j s hj => ?_, E.gh, fun j l xs hj => ?_, fun j k l xs ys hj hk => ?_, fun j w hj => ?_⟩
  · rcases g j s hj with ⟨rfl, rfl, hl⟩ | ⟨e, hj⟩
    · refine ⟨v, ?_, h⟩
      rw [List.getElem?_set_self (by rw [E.len]; exact hl)]
      rfl
    · rw [List.getElem?_set_ne (Ne.symm e)]
      exact E.sl j s hj
  · rcases g j _ hj with ⟨_, e, _⟩ | ⟨_, hj⟩
    · cases e
    · exact E.ow j l xs hj
  · rcases g j _ hj with ⟨_, e, _⟩ | ⟨_, hj⟩
    · cases e
    · rcases g k _ hk with ⟨_, e, _⟩ | ⟨_, hk⟩
      · cases e
      · exact E.ou j k l xs ys hj hk
  · rcases g j _ hj with ⟨_, e, _⟩ | ⟨_, hj⟩
    · cases e
    · exact E.we j w hj
end

/-! ### what evaluates to what -/
section
variable (K : PySem.W.Frag) (B : Bs) (G : List Hp) (L : List Addr) (Γ : List Sl)
/-- the step that an evaluation may take -/
structure Go (H H' : Hp) (σ : L2.St) : Prop where
  env : Env K B G L H' σ Γ
  sm : Same (hid (L ++ B.M) H) (hid (L ++ B.M) H')
  kp : ∀ l ∈ L, ∀ o, H l = some o → H' l = some o
  rl : ∀ a o, a ∉ B.Ws → H a = some o → H' a = some o
def EvP (te : TE) (k : PyData → Prop) : Prop := ∀ (σ : L2.St) (H : Hp) (Q : VK), Env K B G L H σ Γ →
  (∀ v d H', Go K B G L Γ H H' σ → Dn K (hid (L ++ B.M) H') v d → k d → Q v H') → te σ H Q
/-- a new list -/
def EvN (te : TE) (k : List PyData → Prop) : Prop := ∀ (σ : L2.St) (H : Hp) (Q : VK), Env K B G L H σ Γ →
  (∀ p vs ds H', Go K B G L Γ H H' σ → H p = none → H' p = some (.lst vs) → DnA K (hid (p :: (L ++ B.M)) H') vs ds → k ds → Q (.ref p) H') → te σ H Q
def EvA (ta : TA) (k : List PyData → Prop) : Prop := ∀ (σ : L2.St) (H : Hp) (Q : List V → Hp → Prop), Env K B G L H σ Γ →
  (∀ vs ds H', Go K B G L Γ H H' σ → DnA K (hid (L ++ B.M) H') vs ds → k ds → Q vs H') → ta σ H Q
def EvT (tt : TT) (k : Bool → Prop) : Prop := ∀ (σ : L2.St) (H : Hp) (Q : Bool → Hp → Prop), Env K B G L H σ Γ →
  (∀ b H', Go K B G L Γ H H' σ → k b → Q b H') → tt σ H Q
/-- an operation on values -/
def ROk (r : R2) (x y : PyData) (k : PyData → Prop) : Prop := ∀ (σ : L2.St) (H : Hp) (Q : VK) (v u : V), Env K B G L H σ Γ → Dn K (hid (L ++ B.M) H) v x → Dn K (hid (L ++ B.M) H) u y →
  (∀ z d H', Go K B G L Γ H H' σ → Dn K (hid (L ++ B.M) H') z d → k d → Q z H') → r v u H Q
def UOk (r : V → Hp → VK → Prop) (x : PyData) (k : PyData → Prop) : Prop := ∀ (σ : L2.St) (H : Hp) (Q : VK) (v : V), Env K B G L H σ Γ → Dn K (hid (L ++ B.M) H) v x →
  (∀ z d H', Go K B G L Γ H H' σ → Dn K (hid (L ++ B.M) H') z d → k d → Q z H') → r v H Q
def COk (r : List V → Hp → VK → Prop) (ds : List PyData) (k : PyData → Prop) : Prop := ∀ (σ : L2.St) (H : Hp) (Q : VK) (vs : List V), Env K B G L H σ Γ → DnA K (hid (L ++ B.M) H) vs ds →
  (∀ z d H', Go K B G L Γ H H' σ → Dn K (hid (L ++ B.M) H') z d → k d → Q z H') → r vs H Q
end

section
variable {K : PySem.W.Frag} {B : Bs} {G : List Hp} {L : List Addr} {Γ : List Sl} {H H' H2 : Hp} {σ : L2.St}
theorem Go.refl (E : Env K B G L H σ Γ) : Go K B G L Γ H H σ := ⟨E, Same.refl _, fun _ _ _ e => e, fun _ _ _ e => e⟩
theorem Go.trans (a : Go K B G L Γ H H' σ) (b : Go K B G L Γ H' H2 σ) : Go K B G L Γ H H2 σ := ⟨b.env, a.sm.trans b.sm, fun l hl o e => b.kp l hl o (a.kp l hl o e), fun c o w e => b.rl c o w (a.rl c o w e)⟩
/-- all but the wells is kept -/
theorem Go.step (E : Env K B G L H σ Γ) (h1 : ∀ a o, a ∉ B.Ws → H a = some o → H' a = some o) (h2 : ∀ w ∈ B.Ws, WellAt H' w) : Go K B G L Γ H H' σ := by
  obtain ⟨a, b⟩ := E.step h1 h2
  exact ⟨a, b, fun l hl o e => h1 l o (E.lW hl) e, h1⟩
theorem Go.new (E : Env K B G L H σ Γ) {p : Addr} {o : HO} (h : H p = none) : Go K B G L Γ H (upd H p o) σ := by
  obtain ⟨a, b⟩ := E.ext (same_upd (o := o) h)
  exact ⟨a, b, fun l hl o e => same_upd h l o e, fun c o _ e => same_upd h c o e⟩

variable {te ta tb tc : TE} {tt tu : TT} {tr : TA} {k : PyData → Prop} {x y : PyData}
theorem EvP.mono {k' : PyData → Prop} (h : EvP K B G L Γ te k) (f : ∀ d, k d → k' d) : EvP K B G L Γ te k' := fun σ H Q E q => h σ H Q E fun v d H' g dn hk => q v d H' g dn (f d hk)
theorem ev_var {i : Nat} (h : Γ[i]? = some (.d x)) (hk : k x) : EvP K B G L Γ (tVar i) k := fun σ H Q E q => by
  obtain ⟨v, e, dn⟩ := E.get h
  exact ⟨v, e, q v x H (Go.refl E) dn hk⟩
theorem ev_int {i : Int} (hk : k (.int i)) : EvP K B G L Γ (tC (.int i)) k := fun σ H Q E q => q _ _ H (Go.refl E) (.int i) hk
theorem ev_bl {b : Bool} (hk : k (.bool b)) : EvP K B G L Γ (tC (.bl b)) k := fun σ H Q E q => q _ _ H (Go.refl E) (.bl b) hk
theorem ev_non (hk : k .none) : EvP K B G L Γ (tC .non) k := fun σ H Q E q => q _ _ H (Go.refl E) .non hk
theorem ev_str {s : Str} (hk : k (.str s)) : EvP K B G L Γ (tC (.str s)) k := fun σ H Q E q => q _ _ H (Go.refl E) (.str s) hk
theorem ev_op {r : R2} (h : EvP K B G L Γ ta fun x => EvP K B G L Γ tb fun y => ROk K B G L Γ r x y k) : EvP K B G L Γ (tOp r ta tb) k := fun σ H Q E q =>
  h σ H _ E fun v x H1 g1 dn1 h1 => h1 σ H1 _ g1.env fun u y H2 g2 dn2 h2 => h2 σ H2 Q v u g2.env (dn1.mono g2.sm) dn2 fun z d H3 g3 dn3 hk => q z d H3 ((g1.trans g2).trans g3) dn3 hk
theorem ev_un {r : V → Hp → VK → Prop} (h : EvP K B G L Γ ta fun x => UOk K B G L Γ r x k) : EvP K B G L Γ (tUn r ta) k := fun σ H Q E q =>
  h σ H _ E fun v x H1 g1 dn1 h1 => h1 σ H1 Q v g1.env dn1 fun z d H3 g3 dn3 hk => q z d H3 (g1.trans g3) dn3 hk
theorem ev_cb {r : List V → Hp → VK → Prop} (h : EvA K B G L Γ tr fun ds => COk K B G L Γ r ds k) : EvP K B G L Γ (tCB r tr) k := fun σ H Q E q =>
  h σ H _ E fun vs ds H1 g1 dn1 h1 => h1 σ H1 Q vs g1.env dn1 fun z d H3 g3 dn3 hk => q z d H3 (g1.trans g3) dn3 hk
theorem ev_if (h : EvT K B G L Γ tt fun b => (b = true → EvP K B G L Γ ta k) ∧ (b = false → EvP K B G L Γ tb k)) : EvP K B G L Γ (tIf tt ta tb) k := fun σ H Q E q =>
  h σ H _ E fun b H1 g1 ⟨h1, h2⟩ => by
    cases b with
    | true => exact iteT (h1 rfl σ H1 Q g1.env fun v d H3 g3 dn hk => q v d H3 (g1.trans g3) dn hk)
    | false => exact iteF (h2 rfl σ H1 Q g1.env fun v d H3 g3 dn hk => q v d H3 (g1.trans g3) dn hk)
theorem dn_bool {v : V} {b : Bool} (h : Dn K H v (.bool b)) : v = .bl b := by cases h; rfl
theorem dn_int {v : V} {i : Int} (h : Dn K H v (.int i)) : v = .int i := by cases h; rfl
theorem dn_str {v : V} {i : Str} (h : Dn K H v (.str i)) : v = .str i := by cases h; rfl
theorem dn_non {v : V} (h : Dn K H v .none) : v = .non := by cases h; rfl
theorem ev_andV (h : EvP K B G L Γ ta fun x => ∃ b, x = .bool b ∧ (b = true → EvP K B G L Γ tb k) ∧ (b = false → k (.bool false))) : EvP K B G L Γ (tAndV ta tb) k := fun σ H Q E q =>
  h σ H _ E fun v x H1 g1 dn1 ⟨b, e, h1, h2⟩ => by
    subst e
    refine ⟨b, dn_bool dn1, ?_⟩
    cases b with
    | true => exact iteT (h1 rfl σ H1 Q g1.env fun v d H3 g3 dn hk => q v d H3 (g1.trans g3) dn hk)
    | false => exact iteF (q _ _ H1 g1 (.bl false) (h2 rfl))
theorem ev_orV (h : EvP K B G L Γ ta fun x => ∃ b, x = .bool b ∧ (b = false → EvP K B G L Γ tb k) ∧ (b = true → k (.bool true))) : EvP K B G L Γ (tOrV ta tb) k := fun σ H Q E q =>
  h σ H _ E fun v x H1 g1 dn1 ⟨b, e, h1, h2⟩ => by
    subst e
    refine ⟨b, dn_bool dn1, ?_⟩
    cases b with
    | false => exact iteF (h1 rfl σ H1 Q g1.env fun v d H3 g3 dn hk => q v d H3 (g1.trans g3) dn hk)
    | true => exact iteT (q _ _ H1 g1 (.bl true) (h2 rfl))
theorem ev_notV (h : EvP K B G L Γ ta fun x => ∃ b, x = .bool b ∧ k (.bool (!b))) : EvP K B G L Γ (tNotV ta) k := fun σ H Q E q =>
  h σ H _ E fun v x H1 g1 dn1 ⟨b, e, h1⟩ => by
    subst e
    exact ⟨b, dn_bool dn1, q _ _ H1 g1 (.bl _) h1⟩
/-! tests -/
theorem et_test {kb : Bool → Prop} (h : EvP K B G L Γ te fun x => ∃ b, x = .bool b ∧ kb b) : EvT K B G L Γ (tTest te) kb := fun σ H Q E q =>
  h σ H _ E fun v x H1 g1 dn1 ⟨b, e, h1⟩ => by
    subst e
    exact ⟨b, dn_bool dn1, q b H1 g1 h1⟩
theorem et_B {kb : Bool → Prop} (h : EvP K B G L Γ te fun x => ∃ b, x = .bool b ∧ kb b) : EvT K B G L Γ (tB te) kb := et_test h
theorem et_and {kb : Bool → Prop} (h : EvT K B G L Γ tt fun b => (b = true → EvT K B G L Γ tu kb) ∧ (b = false → kb false)) : EvT K B G L Γ (tAnd tt tu) kb := fun σ H Q E q =>
  h σ H _ E fun b H1 g1 ⟨h1, h2⟩ => by
    cases b with
    | true => exact iteT (h1 rfl σ H1 Q g1.env fun b H3 g3 hk => q b H3 (g1.trans g3) hk)
    | false => exact iteF (q false H1 g1 (h2 rfl))
theorem et_or {kb : Bool → Prop} (h : EvT K B G L Γ tt fun b => (b = false → EvT K B G L Γ tu kb) ∧ (b = true → kb true)) : EvT K B G L Γ (tOr tt tu) kb := fun σ H Q E q =>
  h σ H _ E fun b H1 g1 ⟨h1, h2⟩ => by
    cases b with
    | false => exact iteF (h1 rfl σ H1 Q g1.env fun b H3 g3 hk => q b H3 (g1.trans g3) hk)
    | true => exact iteT (q true H1 g1 (h2 rfl))
theorem et_not {kb : Bool → Prop} (h : EvT K B G L Γ tt fun b => kb (!b)) : EvT K B G L Γ (tNot tt) kb := fun σ H Q E q =>
  h σ H _ E fun b H1 g1 h1 => q (!b) H1 g1 h1
theorem EvT.mono {kb kb' : Bool → Prop} (h : EvT K B G L Γ tt kb) (f : ∀ b, kb b → kb' b) : EvT K B G L Γ tt kb' := fun σ H Q E q => h σ H Q E fun b H' g hk => q b H' g (f b hk)
/-! arguments -/
theorem ea_nil {kl : List PyData → Prop} (h : kl []) : EvA K B G L Γ tNil kl := fun σ H Q E q => q [] [] H (Go.refl E) .nil h
theorem ea_cons {kl : List PyData → Prop} (h : EvP K B G L Γ te fun d => EvA K B G L Γ tr fun ds => kl (d :: ds)) : EvA K B G L Γ (tCons te tr) kl := fun σ H Q E q =>
  h σ H _ E fun v d H1 g1 dn1 h1 => h1 σ H1 _ g1.env fun vs ds H2 g2 dn2 hk => q (v :: vs) (d :: ds) H2 (g1.trans g2) (.cons (dn1.mono g2.sm) dn2) hk
theorem sz_ok {n : Nat} (h : n ≤ 1000000) : n ≤ sizeLine := Nat.le_trans h (by decide)
theorem ev_tup (h : EvA K B G L Γ tr fun ds => ds.length ≤ 1000000 ∧ k (.tuple ds)) : EvP K B G L Γ (tTup tr) k := fun σ H Q E q =>
  h σ H _ E fun vs ds H1 g1 dn1 ⟨hl, hk⟩ => ⟨by rw [dn1.length]; exact sz_ok hl, fun p hp => by
    have g2 := Go.new (o := .tup vs) g1.env hp
    exact q _ _ _ (g1.trans g2) (.tup (.inl (.inl (hid_new (g1.env.newM hp)))) (dn1.mono g2.sm)) hk⟩
theorem hid_none {M : List Addr} {H : Hp} {p : Addr} (h : H p = none) : hid M H p = none := by
  unfold hid
  split
  · rfl
  · exact h
theorem hid_keep {M : List Addr} {H H' : Hp} {p : Addr} (hp : H p = none) (h : Same H H') : Same (hid M H) (hid (p :: M) H') := fun a o e => by
  obtain ⟨q, e⟩ := hid_some e
  rw [hid_out (fun z => by
    rcases List.mem_cons.mp z with z | z
    · rw [z, hp] at e; cases e
    · exact q z)]
  exact h a o e
theorem en_lst {kl : List PyData → Prop} (h : EvA K B G L Γ tr fun ds => ds.length ≤ 1000000 ∧ kl ds) : EvN K B G L Γ (tLst tr) kl := fun σ H Q E q =>
  h σ H _ E fun vs ds H1 g1 dn1 ⟨hl, hk⟩ => ⟨by rw [dn1.length]; exact sz_ok hl, fun p hp => by
    have g2 := Go.new (o := .lst vs) g1.env hp
    refine q p vs ds _ (g1.trans g2) ?_ upd_same (dn1.mono (hid_keep hp (same_upd hp))) hk
    cases e : H p with
    | none => rfl
    | some o =>
      exfalso
      by_cases w : p ∈ L ++ B.M
      · obtain ⟨o', e'⟩ := g1.env.alive p w
        rw [hp] at e'; cases e'
      · have := g1.sm p o (by rw [hid_out w]; exact e)
        rw [hid_none hp] at this; cases this⟩
theorem ev_new (h : EvN K B G L Γ te fun ds => k (.list ds)) : EvP K B G L Γ te k := fun σ H Q E q =>
  h σ H Q E fun p vs ds H' g hp e dn hk => q _ _ H' g (.lst (by rw [hid_out (E.newM hp)]; exact e) (dn.mono (hid_less _ fun a ha => List.mem_cons_of_mem _ ha))) hk
theorem ev_lst (h : EvA K B G L Γ tr fun ds => ds.length ≤ 1000000 ∧ k (.list ds)) : EvP K B G L Γ (tLst tr) k := ev_new (en_lst h)
end
end DL
namespace DL
open PySem PySem.Spec PyProof.Rows L2
section
variable {K : PySem.W.Frag} {B : Bs} {G : List Hp} {L : List Addr} {Γ : List Sl} {H H' H2 : Hp} {σ : L2.St}
variable {te ta tb tc : TE} {tt tu : TT} {tr : TA} {k : PyData → Prop} {x y : PyData}

/-! ### operators -/
theorem rok_i0 {f : Int → Int → Int} {i j : Int} (hk : k (.int (f i j))) : ROk K B G L Γ (rI0 fun i j => .int (f i j)) (.int i) (.int j) k := fun σ H Q v u E d1 d2 q =>
  ⟨i, j, dn_int d1, dn_int d2, q _ _ H (Go.refl E) (.int _) hk⟩
theorem rok_b0 {f : Int → Int → Bool} {i j : Int} (hk : k (.bool (f i j))) : ROk K B G L Γ (rI0 fun i j => .bl (f i j)) (.int i) (.int j) k := fun σ H Q v u E d1 d2 q =>
  ⟨i, j, dn_int d1, dn_int d2, q _ _ H (Go.refl E) (.bl _) hk⟩
theorem rok_i {C : Int → Int → Prop} {f : Int → Int → Int} {i j : Int} (hc : C i j) (hk : k (.int (f i j))) : ROk K B G L Γ (rI C fun i j => .int (f i j)) (.int i) (.int j) k := fun σ H Q v u E d1 d2 q =>
  ⟨i, j, dn_int d1, dn_int d2, hc, q _ _ H (Go.refl E) (.int _) hk⟩
theorem rok_eqI {i j : Int} (hk : k (.bool (decide (i = j)))) : ROk K B G L Γ rEq (.int i) (.int j) k := fun σ H Q v u E d1 d2 q => by
  rw [dn_int d1, dn_int d2]
  refine ⟨rfl, ?_⟩
  have e : decide ((V.int i) = V.int j) = decide (i = j) := by
    by_cases h : i = j
    · subst h; simp
    · rw [decide_eq_false h, decide_eq_false (fun z => h (V.int.inj z))]
  rw [e]
  exact q _ _ H (Go.refl E) (.bl _) hk
theorem rok_neI {i j : Int} (hk : k (.bool (!decide (i = j)))) : ROk K B G L Γ rNe (.int i) (.int j) k := fun σ H Q v u E d1 d2 q => by
  rw [dn_int d1, dn_int d2]
  refine ⟨rfl, ?_⟩
  have e : decide ((V.int i) = V.int j) = decide (i = j) := by
    by_cases h : i = j
    · subst h; simp
    · rw [decide_eq_false h, decide_eq_false (fun z => h (V.int.inj z))]
  rw [e]
  exact q _ _ H (Go.refl E) (.bl _) hk
theorem rok_neS {i j : Str} (hk : k (.bool (!decide (i = j)))) : ROk K B G L Γ rNe (.str i) (.str j) k := fun σ H Q v u E d1 d2 q => by
  rw [dn_str d1, dn_str d2]
  refine ⟨rfl, ?_⟩
  have e : decide ((V.str i) = V.str j) = decide (i = j) := by
    by_cases h : i = j
    · subst h; simp
    · rw [decide_eq_false h, decide_eq_false (fun z => h (V.str.inj z))]
  rw [e]
  exact q _ _ H (Go.refl E) (.bl _) hk
theorem rok_eqS {i j : Str} (hk : k (.bool (decide (i = j)))) : ROk K B G L Γ rEq (.str i) (.str j) k := fun σ H Q v u E d1 d2 q => by
  rw [dn_str d1, dn_str d2]
  refine ⟨rfl, ?_⟩
  have e : decide ((V.str i) = V.str j) = decide (i = j) := by
    by_cases h : i = j
    · subst h; simp
    · rw [decide_eq_false h, decide_eq_false (fun z => h (V.str.inj z))]
  rw [e]
  exact q _ _ H (Go.refl E) (.bl _) hk
theorem rok_isB {i j : Bool} (hk : k (.bool (decide (i = j)))) : ROk K B G L Γ rIsB (.bool i) (.bool j) k := fun σ H Q v u E d1 d2 q =>
  ⟨i, j, dn_bool d1, dn_bool d2, q _ _ H (Go.refl E) (.bl _) hk⟩
theorem rok_notB {i j : Bool} (hk : k (.bool (!decide (i = j)))) : ROk K B G L Γ rNotB (.bool i) (.bool j) k := fun σ H Q v u E d1 d2 q =>
  ⟨i, j, dn_bool d1, dn_bool d2, q _ _ H (Go.refl E) (.bl _) hk⟩
/-- an item -/
def atD (ds : List PyData) (i : Int) : Option PyData := atI ds i
theorem dna_at {vs : List V} {ds : List PyData} (h : DnA K H vs ds) {i : Int} {d : PyData} (e : atI ds i = some d) : ∃ v, atI vs i = some v ∧ Dn K H v d := by
  unfold atI at e ⊢
  rw [h.length]
  cases q : ixN ds.length i with
  | none => rw [q] at e; cases e
  | some j =>
    rw [q] at e
    exact h.get e
theorem rok_ixT {ds : List PyData} {i : Int} {d : PyData} (e : atI ds i = some d) (hk : k d) : ROk K B G L Γ (rIxT K) (.tuple ds) (.int i) k := fun σ H Q v u E d1 d2 q => by
  cases d1 with
  | tup h1 h2 =>
    obtain ⟨w, e2, dn⟩ := dna_at h2 e
    exact ⟨_, _, i, w, rfl, dn_int d2, Same.sqt (hid_sub _ _) h1, e2, q _ _ H (Go.refl E) dn hk⟩
theorem rok_ixL {ds : List PyData} {i : Int} {d : PyData} (e : atI ds i = some d) (hk : k d) : ROk K B G L Γ (rIxL K) (.list ds) (.int i) k := fun σ H Q v u E d1 d2 q => by
  cases d1 with
  | lst h1 h2 =>
    obtain ⟨w, e2, dn⟩ := dna_at h2 e
    exact ⟨_, _, i, w, rfl, dn_int d2, .inl (.inl (hid_sub _ _ _ _ h1)), e2, q _ _ H (Go.refl E) dn hk⟩
theorem rok_ixsT {ds : List PyData} {i : Int} {d : PyData} (e : atI ds i = some d) (hk : k d) : ROk K B G L Γ (rIx K) (.tuple ds) (.int i) k := fun σ H Q v u E d1 d2 q =>
  .inr (.inl (rok_ixT e hk σ H Q v u E d1 d2 q))
theorem rok_ixsL {ds : List PyData} {i : Int} {d : PyData} (e : atI ds i = some d) (hk : k d) : ROk K B G L Γ (rIx K) (.list ds) (.int i) k := fun σ H Q v u E d1 d2 q =>
  .inl (rok_ixL e hk σ H Q v u E d1 d2 q)
/-- tuple + tuple -/
theorem rok_catT {ds es : List PyData} (hl : ds.length + es.length ≤ 1000000) (hk : k (.tuple (ds ++ es))) : ROk K B G L Γ (rCatA K) (.tuple ds) (.tuple es) k := fun σ H Q v u E d1 d2 q => by
  cases d1 with
  | @tup a xs _ h1 h2 =>
    cases d2 with
    | @tup b ys _ h3 h4 =>
      refine ⟨a, b, xs, ys, rfl, rfl, Same.sqt (hid_sub _ _) h1, Same.sqt (hid_sub _ _) h3, by rw [h2.length, h4.length]; exact sz_ok hl, fun e => ?_, fun _ e => ?_, fun _ _ p hp => ?_⟩
      · subst e
        have z : ds = [] := List.eq_nil_of_length_eq_zero h2.length.symm
        subst z
        exact q _ _ H (Go.refl E) (.tup h3 h4) hk
      · subst e
        have z : es = [] := List.eq_nil_of_length_eq_zero h4.length.symm
        subst z
        rw [List.append_nil] at hk
        exact q _ _ H (Go.refl E) (.tup h1 h2) hk
      · have g := Go.new (o := .tup (xs ++ ys)) E hp
        exact q _ _ _ g (.tup (.inl (.inl (hid_new (E.newM hp)))) (DnA.append (h2.mono g.sm) (h4.mono g.sm))) hk
/-- list + list -/
theorem rok_catL {ds es : List PyData} (hl : ds.length + es.length ≤ 1000000) (hk : k (.list (ds ++ es))) : ROk K B G L Γ rCat (.list ds) (.list es) k := fun σ H Q v u E d1 d2 q => by
  cases d1 with
  | @lst a xs _ h1 h2 =>
    cases d2 with
    | @lst b ys _ h3 h4 =>
      refine ⟨a, b, xs, ys, rfl, rfl, hid_sub _ _ _ _ h1, hid_sub _ _ _ _ h3, by rw [h2.length, h4.length]; exact sz_ok hl, fun p hp => ?_⟩
      have g := Go.new (o := .lst (xs ++ ys)) E hp
      exact q _ _ _ g (.lst (hid_new (E.newM hp)) (DnA.append (h2.mono g.sm) (h4.mono g.sm))) hk
theorem DnA.reps {vs : List V} {ds : List PyData} (h : DnA K H vs ds) : ∀ n : Nat, DnA K H (List.replicate n vs).flatten (List.replicate n ds).flatten
  | 0 => .nil
  | n + 1 => by
    rw [List.replicate_succ, List.replicate_succ, List.flatten_cons, List.flatten_cons]
    exact DnA.append h (DnA.reps h n)
/-- list * int -/
theorem rok_repL {ds : List PyData} {n : Int} (h0 : 0 ≤ n) (h1 : n ≤ 100000) (hl : ds.length * n.toNat ≤ 1000000) (hk : k (.list (List.replicate n.toNat ds).flatten)) : ROk K B G L Γ rRep (.list ds) (.int n) k := fun σ H Q v u E d1 d2 q => by
  cases d1 with
  | @lst a xs _ e1 h2 =>
    refine ⟨a, n, xs, rfl, dn_int d2, hid_sub _ _ _ _ e1, by omega, by omega, by rw [h2.length]; exact sz_ok hl, fun p hp => ?_⟩
    have g := Go.new (o := .lst (List.replicate n.toNat xs).flatten) E hp
    exact q _ _ _ g (.lst (hid_new (E.newM hp)) ((h2.mono g.sm).reps _)) hk
/-- tuple * int -/
theorem rok_repT {ds : List PyData} {n : Int} (hne : ds ≠ []) (h0 : 2 ≤ n) (h1 : n ≤ 1000) (hl : ds.length ≤ 1000) (hk : k (.tuple (List.replicate n.toNat ds).flatten)) : ROk K B G L Γ (rRepT K) (.tuple ds) (.int n) k := fun σ H Q v u E d1 d2 q => by
  cases d1 with
  | @tup a xs _ e1 h2 =>
    refine ⟨a, n, xs, rfl, dn_int d2, Same.sqt (hid_sub _ _) e1, fun z => hne ?_, h0, h1, by rw [h2.length]; exact hl, fun p hp => ?_⟩
    · subst z
      exact List.eq_nil_of_length_eq_zero h2.length.symm
    · have g := Go.new (o := .tup (List.replicate n.toNat xs).flatten) E hp
      exact q _ _ _ g (.tup (.inl (.inl (hid_new (E.newM hp)))) ((h2.mono g.sm).reps _)) hk
/-! unary -/
theorem uok_neg {i : Int} (hk : k (.int (-i))) : UOk K B G L Γ (rU fun i => .int (-i)) (.int i) k := fun σ H Q v E d1 q => ⟨i, dn_int d1, q _ _ H (Go.refl E) (.int _) hk⟩

/-! ### slices -/
def EvO (K : PySem.W.Frag) (B : Bs) (G : List Hp) (L : List Addr) (Γ : List Sl) (to : TO) (ko : Option Int → Prop) : Prop := ∀ (σ : L2.St) (H : Hp) (Q : Option Int → Hp → Prop), Env K B G L H σ Γ →
  (∀ o H', Go K B G L Γ H H' σ → ko o → Q o H') → to σ H Q
theorem eo_no {ko : Option Int → Prop} (h : ko none) : EvO K B G L Γ tNoPart ko := fun σ H Q E q => q none H (Go.refl E) h
theorem eo_some {ko : Option Int → Prop} (h : EvP K B G L Γ te fun d => ∃ i, d = .int i ∧ ko (some i)) : EvO K B G L Γ (tPart te) ko := fun σ H Q E q =>
  h σ H _ E fun v d H1 g1 dn ⟨i, e, hk⟩ => by
    subst e
    exact ⟨i, dn_int dn, q _ H1 g1 hk⟩
def cutD (ds : List PyData) (lo hi : Option Int) : List PyData := (ds.drop (HT.sIx ds.length 0 lo)).take (HT.sIx ds.length ds.length hi - HT.sIx ds.length 0 lo)
theorem dna_cut {vs : List V} {ds : List PyData} (h : DnA K H vs ds) (lo hi : Option Int) : DnA K H (cutV vs lo hi) (cutD ds lo hi) := by
  unfold cutV cutD
  rw [h.length]
  exact (h.drop _).take _
def SOk (K : PySem.W.Frag) (B : Bs) (G : List Hp) (L : List Addr) (Γ : List Sl) (r : V → Option Int → Option Int → Hp → VK → Prop) (x : PyData) (lo hi : Option Int) (k : PyData → Prop) : Prop :=
  ∀ (σ : L2.St) (H : Hp) (Q : VK) (v : V), Env K B G L H σ Γ → Dn K (hid (L ++ B.M) H) v x → (∀ z d H', Go K B G L Γ H H' σ → Dn K (hid (L ++ B.M) H') z d → k d → Q z H') → r v lo hi H Q
theorem ev_sl {r : V → Option Int → Option Int → Hp → VK → Prop} {tl th : TO} (h : EvP K B G L Γ te fun x => EvO K B G L Γ tl fun lo => EvO K B G L Γ th fun hi => SOk K B G L Γ r x lo hi k) : EvP K B G L Γ (tSl r te tl th) k := fun σ H Q E q =>
  h σ H _ E fun v x H1 g1 dn1 h1 => h1 σ H1 _ g1.env fun lo H2 g2 h2 => h2 σ H2 _ g2.env fun hi H3 g3 h3 => h3 σ H3 Q v g3.env ((dn1.mono g2.sm).mono g3.sm) fun z d H4 g4 dn4 hk => q z d H4 (((g1.trans g2).trans g3).trans g4) dn4 hk
theorem sok_tup {ds : List PyData} {lo hi : Option Int} (hk : k (.tuple (cutD ds lo hi))) : SOk K B G L Γ (rSlA K) (.tuple ds) lo hi k := fun σ H Q v E d1 q => by
  cases d1 with
  | @tup a xs _ e1 h2 =>
    refine ⟨a, xs, rfl, Same.sqt (hid_sub _ _) e1, fun e => ?_, fun _ p hp => ?_⟩
    · have z : cutD ds lo hi = ds := by
        unfold cutD
        rw [← h2.length, e.1, e.2, h2.length]
        simp
      rw [z] at hk
      exact q _ _ H (Go.refl E) (.tup e1 h2) hk
    · have g := Go.new (o := .tup (cutV xs lo hi)) E hp
      exact q _ _ _ g (.tup (.inl (.inl (hid_new (E.newM hp)))) (dna_cut (h2.mono g.sm) lo hi)) hk
theorem sok_lst {ds : List PyData} {lo hi : Option Int} (hk : k (.list (cutD ds lo hi))) : SOk K B G L Γ (rSlL K) (.list ds) lo hi k := fun σ H Q v E d1 q => by
  cases d1 with
  | @lst a xs _ e1 h2 =>
    refine ⟨a, xs, rfl, .inl (.inl (hid_sub _ _ _ _ e1)), fun p hp => ?_⟩
    have g := Go.new (o := .lst (cutV xs lo hi)) E hp
    exact q _ _ _ g (.lst (hid_new (E.newM hp)) (dna_cut (h2.mono g.sm) lo hi)) hk

/-! ### calls of built-ins -/
def rLenQ (K : PySem.W.Frag) : List V → Hp → VK → Prop := fun xs H Q => ∃ p ys, xs = [.ref p] ∧ (SqL K H p ys ∨ SqT K H p ys) ∧ Q (.int ys.length) H
theorem cok_lenT {ds : List PyData} (hk : k (.int ds.length)) : COk K B G L Γ (fun xs H Q => ∃ p ys, xs = [.ref p] ∧ (SqL K H p ys ∨ SqT K H p ys) ∧ Q (.int ys.length) H) [.tuple ds] k := fun σ H Q vs E d1 q => by
  cases d1 with
  | cons h1 h2 =>
    cases h2
    cases h1 with
    | @tup a xs _ e1 h2 =>
      refine ⟨a, xs, rfl, .inr (Same.sqt (hid_sub _ _) e1), ?_⟩
      rw [h2.length]
      exact q _ _ H (Go.refl E) (.int _) hk
theorem cok_lenL {ds : List PyData} (hk : k (.int ds.length)) : COk K B G L Γ (fun xs H Q => ∃ p ys, xs = [.ref p] ∧ (SqL K H p ys ∨ SqT K H p ys) ∧ Q (.int ys.length) H) [.list ds] k := fun σ H Q vs E d1 q => by
  cases d1 with
  | cons h1 h2 =>
    cases h2
    cases h1 with
    | @lst a xs _ e1 h2 =>
      refine ⟨a, xs, rfl, .inl (.inl (.inl (hid_sub _ _ _ _ e1))), ?_⟩
      rw [h2.length]
      exact q _ _ H (Go.refl E) (.int _) hk
theorem cok_abs {i : Int} (hk : k (.int (if i < 0 then -i else i))) : COk K B G L Γ (fun xs H Q => ∃ i, xs = [.int i] ∧ Q (.int (if i < 0 then -i else i)) H) [.int i] k := fun σ H Q vs E d1 q => by
  cases d1 with
  | cons h1 h2 =>
    cases h2
    cases h1
    exact ⟨i, rfl, q _ _ H (Go.refl E) (.int _) hk⟩
theorem cok_intI {i : Int} (hk : k (.int i)) : COk K B G L Γ (fun xs H Q => (∃ i, xs = [.int i] ∧ Q (.int i) H) ∨ ∃ k, xs = [.bl k] ∧ Q (.int (if k then 1 else 0)) H) [.int i] k := fun σ H Q vs E d1 q => by
  cases d1 with
  | cons h1 h2 =>
    cases h2
    cases h1
    exact .inl ⟨i, rfl, q _ _ H (Go.refl E) (.int _) hk⟩
theorem cok_gcd {i j : Int} (hk : k (.int (Nat.gcd i.natAbs j.natAbs : Nat))) : COk K B G L Γ rGcd [.int i, .int j] k := fun σ H Q vs E d1 q => by
  cases d1 with
  | cons h1 h2 =>
    cases h2 with
    | cons h2 h3 =>
      cases h3
      cases h1
      cases h2
      exact ⟨i, j, rfl, q _ _ H (Go.refl E) (.int _) hk⟩
theorem cok_str {i : Int} (hz : i.natAbs.log2 < 1920) (hk : k (.str (toString i))) : COk K B G L Γ (fun xs H Q => ∃ i, xs = [.int i] ∧ i.natAbs.log2 < 1920 ∧ Q (.str (toString i)) H) [.int i] k := fun σ H Q vs E d1 q => by
  cases d1 with
  | cons h1 h2 =>
    cases h2
    cases h1
    exact ⟨i, rfl, hz, q _ _ H (Go.refl E) (.str _) hk⟩
theorem cok_all {bs : List Bool} (hk : k (.bool (bs.all id))) : COk K B G L Γ (rAll K) [.list (bs.map .bool)] k := fun σ H Q vs E d1 q => by
  cases d1 with
  | cons h1 h2 =>
    cases h2
    cases h1 with
    | @lst a xs _ e1 h2 =>
      have e := h2.bools
      subst e
      exact ⟨a, bs, rfl, .inl (.inl (hid_sub _ _ _ _ e1)), q _ _ H (Go.refl E) (.bl _) hk⟩
/-- list(x) of a tuple or a list: a new list -/
def rListOf (K : PySem.W.Frag) : List V → Hp → VK → Prop := fun xs H Q => ∃ p ys, xs = [.ref p] ∧ (SqL K H p ys ∨ SqT K H p ys) ∧ ∀ l, H l = none → Q (.ref l) (upd H l (.lst ys))
theorem Go.fresh (E : Env K B G L H σ Γ) (g : Go K B G L Γ H H' σ) {p : Addr} (hp : H' p = none) : H p = none := by
  cases e : H p with
  | none => rfl
  | some o =>
    exfalso
    by_cases w : p ∈ L ++ B.M
    · obtain ⟨o', e'⟩ := g.env.alive p w
      rw [hp] at e'; cases e'
    · have := g.sm p o (by rw [hid_out w]; exact e)
      rw [hid_none hp] at this; cases this
theorem en_list {kl : List PyData → Prop} (h : EvP K B G L Γ te fun d => ∃ ds, (d = .tuple ds ∨ d = .list ds) ∧ kl ds) :
    EvN K B G L Γ (tCB (fun xs H Q => ∃ p ys, xs = [.ref p] ∧ (SqL K H p ys ∨ SqT K H p ys) ∧ ∀ l, H l = none → Q (.ref l) (upd H l (.lst ys))) (tCons te tNil)) kl := fun σ H Q E q =>
  h σ H _ E fun v d H1 g1 dn ⟨ds, e, hk⟩ => by
    rcases e with rfl | rfl
    · cases dn with
      | @tup a xs _ e1 h2 =>
        refine ⟨a, xs, rfl, .inr (Same.sqt (hid_sub _ _) e1), fun l hl => ?_⟩
        have g2 := Go.new (o := .lst xs) g1.env hl
        exact q l xs ds _ (g1.trans g2) (Go.fresh E g1 hl) upd_same (h2.mono (hid_keep hl (same_upd hl))) hk
    · cases dn with
      | @lst a xs _ e1 h2 =>
        refine ⟨a, xs, rfl, .inl (.inl (.inl (hid_sub _ _ _ _ e1))), fun l hl => ?_⟩
        have g2 := Go.new (o := .lst xs) g1.env hl
        exact q l xs ds _ (g1.trans g2) (Go.fresh E g1 hl) upd_same (h2.mono (hid_keep hl (same_upd hl))) hk
/-- tuple(x) of a list (data) -/
theorem cok_tupL {ds : List PyData} (hk : k (.tuple ds)) : COk K B G L Γ (fun xs H Q => ∃ p ys, xs = [.ref p] ∧ ((SqL K H p ys ∧ ∀ l, H l = none → Q (.ref l) (upd H l (.tup ys))) ∨ (SqT K H p ys ∧ Q (.ref p) H))) [.list ds] k := fun σ H Q vs E d1 q => by
  cases d1 with
  | cons h1 h2 =>
    cases h2
    cases h1 with
    | @lst a xs _ e1 h2 =>
      refine ⟨a, xs, rfl, .inl ⟨.inl (.inl (hid_sub _ _ _ _ e1)), fun l hl => ?_⟩⟩
      have g2 := Go.new (o := .tup xs) E hl
      exact q _ _ _ g2 (.tup (.inl (.inl (hid_new (E.newM hl)))) (h2.mono g2.sm)) hk
theorem cok_tupT {ds : List PyData} (hk : k (.tuple ds)) : COk K B G L Γ (fun xs H Q => ∃ p ys, xs = [.ref p] ∧ ((SqL K H p ys ∧ ∀ l, H l = none → Q (.ref l) (upd H l (.tup ys))) ∨ (SqT K H p ys ∧ Q (.ref p) H))) [.tuple ds] k := fun σ H Q vs E d1 q => by
  cases d1 with
  | cons h1 h2 =>
    cases h2
    cases h1 with
    | @tup a xs _ e1 h2 =>
      exact ⟨a, xs, rfl, .inr ⟨Same.sqt (hid_sub _ _) e1, q _ _ H (Go.refl E) (.tup e1 h2) hk⟩⟩

/-! ### isinstance -/
def tyD : PyData → String
  | .none => "NoneType"
  | .bool _ => "bool"
  | .int _ => "int"
  | .str _ => "str"
  | .list _ => "list"
  | .tuple _ => "tuple"
  | .dict _ => "dict"
theorem sqt_ty {a : Addr} {xs : List V} (h : SqT K H a xs) : TyX K H (.ref a) (.type "tuple") := by
  rcases h with (h | ⟨o, h⟩) | ⟨o, its, n, h1, h2, _⟩
  · exact .base (.tup h)
  · exact .fTuple h
  · exact .kTuple h1 h2
theorem dn_ty {v : V} {d : PyData} (h : Dn K H v d) : TyX K H v (.type (tyD d)) := by
  cases h with
  | non => exact .base .non
  | bl b => exact .base (.bl b)
  | int i => exact .base (.int i)
  | str x => exact .base (.str x)
  | lst h1 h2 => exact .base (.lst h1)
  | tup h1 h2 => exact sqt_ty h1
  | emp h => exact .base (.dK h)
theorem ev_isi {n : String} (h : EvP K B G L Γ te fun d => ∃ b, kitB (tyD d) n = some b ∧ k (.bool b)) : EvP K B G L Γ (tCB (rIsi K) (tCons te (tCons (tC (.ty n)) tNil))) k := fun σ H Q E q =>
  h σ H _ E fun v d H1 g1 dn ⟨b, e, hk⟩ => ⟨v, .ty n, .type (tyD d), .type n, b, rfl, .ty n, dn_ty (dn.mono (hid_sub _ _)), kit_ty e, q _ _ H1 g1 (.bl b) hk⟩
end
end DL
namespace DL
open PySem PySem.Spec PyProof.Rows L2

/-! ### statements -/
structure PD where
  nx : List Addr → List Sl → Prop
  rt : PyData → Prop
  bk : List Addr → List Sl → Prop := fun _ _ => False
  ct : List Addr → List Sl → Prop := fun _ _ => False
/-- the heap at a def's end -/
structure Out (B : Bs) (H : Hp) : Prop where
  fr : ∀ a o, a ∉ B.Ws → B.H a = some o → H a = some o
  ws : ∀ w ∈ B.Ws, WellAt H w
structure Mt (K : PySem.W.Frag) (B : Bs) (G : List Hp) (P : PD) (D : Ends) : Prop where
  nx : ∀ L Γ σ H, P.nx L Γ → Env K B G L H σ Γ → D.nx σ H
  rt : ∀ v d H, P.rt d → Out B H → Dn K (hid B.M H) v d → D.rt v H
  bk : ∀ L Γ σ H, P.bk L Γ → Env K B G L H σ Γ → D.bk σ H
  ct : ∀ L Γ σ H, P.ct L Γ → Env K B G L H σ Γ → D.ct σ H
def StP (K : PySem.W.Frag) (B : Bs) (G : List Hp) (L : List Addr) (Γ : List Sl) (ts : TS) (P : PD) : Prop := ∀ (σ : L2.St) (H : Hp) (D : Ends), Env K B G L H σ Γ → Mt K B G P D → ts D σ H
section
variable {K : PySem.W.Frag} {B : Bs} {G : List Hp} {L : List Addr} {Γ : List Sl} {H H' H2 : Hp} {σ : L2.St}
variable {te ta tb tc : TE} {tt tu : TT} {tr : TA} {k : PyData → Prop} {x y : PyData} {P P' : PD} {t u : TS}
theorem Env.out (E : Env K B G L H σ Γ) : Out B H := ⟨E.fr, E.ws⟩
theorem hid_M (L M : List Addr) (H : Hp) : Same (hid (L ++ M) H) (hid M H) := hid_less H fun a h => List.mem_append_right _ h
theorem st_seq (h : StP K B G L Γ t { P with nx := fun L' Γ' => StP K B G L' Γ' u P }) : StP K B G L Γ (tSeq t u) P := fun σ H D E M =>
  h σ H { D with nx := u D } E ⟨fun L' Γ' σ' H' hs E' => hs σ' H' D E' M, M.rt, M.bk, M.ct⟩
theorem st_next (h : P.nx L Γ) : StP K B G L Γ tNext P := fun σ H D E M => M.nx L Γ σ H h E
theorem st_asg {i : Nat} (h : EvP K B G L Γ te fun d => P.nx L (Γ.set i (.d d))) : StP K B G L Γ (tAsg te (gName i)) P := fun σ H D E M =>
  h σ H _ E fun v d H1 g1 dn hk => M.nx _ _ _ _ hk (g1.env.put i dn)
theorem st_drop (h : EvP K B G L Γ te fun d => P.nx L Γ) : StP K B G L Γ (tDrop te) P := fun σ H D E M =>
  h σ H _ E fun v d H1 g1 dn hk => M.nx _ _ _ _ hk g1.env
theorem st_ret (h : EvP K B G L Γ te P.rt) : StP K B G L Γ (tRet te) P := fun σ H D E M =>
  h σ H _ E fun v d H1 g1 dn hk => M.rt _ _ _ hk g1.env.out (dn.mono (hid_M _ _ _))
theorem st_retN (h : P.rt .none) : StP K B G L Γ tRetN P := fun σ H D E M => M.rt _ _ _ h E.out .non
theorem st_if (h : EvT K B G L Γ tt fun b => (b = true → StP K B G L Γ t P) ∧ (b = false → StP K B G L Γ u P)) : StP K B G L Γ (tIfS tt t u) P := fun σ H D E M =>
  h σ H _ E fun b H1 g1 ⟨h1, h2⟩ => by
    cases b with
    | true => exact iteT (h1 rfl σ H1 D g1.env M)
    | false => exact iteF (h2 rfl σ H1 D g1.env M)
theorem st_break (h : P.bk L Γ) : StP K B G L Γ tBreak P := fun σ H D E M => M.bk L Γ σ H h E
theorem st_cont (h : P.ct L Γ) : StP K B G L Γ tCont P := fun σ H D E M => M.ct L Γ σ H h E
/-- what is known of a slot is forgotten -/
theorem Env.weak (E : Env K B G L H σ Γ) (i : Nat) : Env K B G L H σ (Γ.set i .un) := by
  have g : ∀ (j : Nat) (s : Sl), (Γ.set i .un)[j]? = some s → s = .un ∨ Γ[j]? = some s := fun j s hj => by
    by_cases e : j = i
    · subst e
      by_cases hl : j < Γ.length
      · rw [List.getElem?_set_self hl] at hj
        exact .inl (Option.some.inj hj).symm
      · rw [List.getElem?_eq_none (by rw [List.length_set]; omega)] at hj
        cases hj
    · rw [List.getElem?_set_ne (Ne.symm e)] at hj
      exact .inr hj
  refine ⟨E.fr, E.ws, E.wm, E.lm, E.lo, by rw [List.length_set]; exact E.len, fun j s hj => ?_, E.gh, fun j l xs hj => ?_, fun j k l xs ys hj hk => ?_, fun j w hj => ?_⟩
  · rcases g j s hj with rfl | hj
    · trivial
    · exact E.sl j s hj
  · rcases g j _ hj with e | hj
    · cases e
    · exact E.ow j l xs hj
  · rcases g j _ hj with e | hj
    · cases e
    · rcases g k _ hk with e | hk
      · cases e
      · exact E.ou j k l xs ys hj hk
  · rcases g j _ hj with e | hj
    · cases e
    · exact E.we j w hj
/-- several targets -/
def TgP (K : PySem.W.Frag) (B : Bs) (G : List Hp) (L : List Addr) (Γ : List Sl) (tg : TGs) (ds : List PyData) (kx : List Sl → Prop) : Prop :=
  ∀ (σ : L2.St) (H : Hp) (vs : List V) (Q : L2.St → Hp → Prop), Env K B G L H σ Γ → DnA K (hid (L ++ B.M) H) vs ds → (∀ Γ' σ' , Env K B G L H σ' Γ' → kx Γ' → Q σ' H) → tg vs σ H Q
theorem tg_nil {kx : List Sl → Prop} (h : kx Γ) : TgP K B G L Γ gNil [] kx := fun σ H vs Q E d q => by
  cases d
  exact ⟨rfl, q Γ σ E h⟩
theorem tg_cons {i : Nat} {tg : TGs} {d : PyData} {ds : List PyData} {kx : List Sl → Prop} (h : TgP K B G L (Γ.set i (.d d)) tg ds kx) : TgP K B G L Γ (gCons (gName i) tg) (d :: ds) kx := fun σ H vs Q E dn q => by
  cases dn with
  | cons h1 h2 => exact ⟨_, _, rfl, h _ H _ Q (E.put i h1) h2 q⟩
theorem st_unpack {n : Nat} {tg : TGs} (h : EvP K B G L Γ te fun d => ∃ ds, d = .tuple ds ∧ ds.length = n ∧ TgP K B G L Γ tg ds fun Γ' => P.nx L Γ') : StP K B G L Γ (tAsg te (gTup K n tg)) P := fun σ H D E M =>
  h σ H _ E fun v d H1 g1 dn ⟨ds, e, hn, ht⟩ => by
    subst e
    cases dn with
    | @tup a xs _ e1 h2 =>
      exact ⟨a, xs, rfl, Same.sqt (hid_sub _ _) e1, by rw [h2.length]; exact hn, ht σ H1 xs _ g1.env h2 fun Γ' σ' E' hk => M.nx _ _ _ _ hk E'⟩
theorem st_par {i j : Nat} (h : EvA K B G L Γ tr fun ds => ∃ x y, ds = [x, y] ∧ P.nx L ((Γ.set i (.d x)).set j (.d y))) : StP K B G L Γ (tPar i j tr) P := fun σ H D E M =>
  h σ H _ E fun vs ds H1 g1 dn ⟨x, y, e, hk⟩ => by
    subst e
    cases dn with
    | cons h1 h2 =>
      cases h2 with
      | cons h2 h3 =>
        cases h3
        exact ⟨_, _, rfl, M.nx _ _ _ _ hk ((g1.env.put i h1).put j h2)⟩
theorem st_par3 {i j l : Nat} (h : EvA K B G L Γ tr fun ds => ∃ x y z, ds = [x, y, z] ∧ P.nx L (((Γ.set i (.d x)).set j (.d y)).set l (.d z))) : StP K B G L Γ (tPar3 i j l tr) P := fun σ H D E M =>
  h σ H _ E fun vs ds H1 g1 dn ⟨x, y, z, e, hk⟩ => by
    subst e
    cases dn with
    | cons h1 h2 =>
      cases h2 with
      | cons h2 h3 =>
        cases h3 with
        | cons h3 h4 =>
          cases h4
          exact ⟨_, _, _, rfl, M.nx _ _ _ _ hk (((g1.env.put i h1).put j h2).put l h3)⟩
theorem st_augI {i : Nat} {f : Int → Int → Int} {a : Int} (h0 : Γ[i]? = some (.d (.int a))) (h : EvP K B G L Γ te fun d => ∃ b, d = .int b ∧ P.nx L (Γ.set i (.d (.int (f a b))))) : StP K B G L Γ (tAug i te (ipI f)) P := fun σ H D E M => by
  obtain ⟨v, e, dn⟩ := E.get h0
  refine ⟨v, e, h σ H _ E fun u d H1 g1 dn1 ⟨b, e1, hk⟩ => ?_⟩
  subst e1
  exact ⟨a, b, dn_int dn, dn_int dn1, M.nx _ _ _ _ hk (g1.env.put i (.int _))⟩

/-! ### local lists -/
theorem Go.keepL {l : Addr} (E : Env K B G L H σ Γ) (g : Go K B G L Γ H H' σ) (hl : H l = none) : Same (hid (L ++ B.M) H) (hid (l :: L ++ B.M) H') := fun a o e => by
  obtain ⟨q, e1⟩ := hid_some e
  have q2 : a ∉ l :: L ++ B.M := fun z => by
    rcases List.mem_cons.mp z with z | z
    · rw [z, hl] at e1; cases e1
    · exact q z
  rw [hid_out q2]
  exact (hid_some (g.sm a o e)).2
/-- a fresh list becomes a slot's own -/
theorem Env.take {l : Addr} {vs : List V} {ds : List PyData} (E : Env K B G L H σ Γ) (g : Go K B G L Γ H H' σ) (hl : H l = none) (h : H' l = some (.lst vs)) (i : Nat)
    (hself : DnA K (hid (l :: (L ++ B.M)) H') vs ds) : Env K B G (l :: L) H' (σ.set i (some (.ref l))) (Γ.set i (.own l ds)) := by
  have E' := g.env
  have hkeep := g.keepL E hl
  have nL : l ∉ L := fun q => by
    obtain ⟨_, xs, e⟩ := E.lo l q
    rw [hl] at e; cases e
  have gt : ∀ (j : Nat) (s : Sl), (Γ.set i (.own l ds))[j]? = some s → (j = i ∧ s = .own l ds ∧ j < Γ.length) ∨ (j ≠ i ∧ Γ[j]? = some s) := fun j s hj => by
    by_cases e : j = i
    · subst e
      refine .inl ⟨rfl, ?_⟩
      by_cases hl : j < Γ.length
      · rw [List.getElem?_set_self hl] at hj
        exact ⟨(Option.some.inj hj).symm, hl⟩
      · rw [List.getElem?_eq_none (by rw [List.length_set]; omega)] at hj
        cases hj
    · rw [List.getElem?_set_ne (Ne.symm e)] at hj
      exact .inr ⟨e, hj⟩
  refine ⟨E'.fr, E'.ws, E'.wm, E'.lm, fun m hm => ?_, by rw [List.length_set, List.length_set]; exact E'.len, fun j s hj => ?_, fun p hp => (E.gh p hp).trans hkeep, fun j m xs hj => ?_, fun j k m xs ys hj hk => ?_, fun j w hj => ?_⟩
  · rcases List.mem_cons.mp hm with rfl | hm
    · refine ⟨?_, _, h⟩
      cases e : B.H m with
      | none => rfl
      | some o =>
        exfalso
        by_cases w : m ∈ B.Ws
        · obtain ⟨_, _, _, q, _⟩ := E.ws m w
          rw [hl] at q; cases q
        · have q := E.fr m o w e
          rw [hl] at q; cases q
    · exact E'.lo m hm
  · rcases gt j s hj with ⟨rfl, rfl, hj'⟩ | ⟨ne, hj'⟩
    · refine ⟨?_, vs, h, hself⟩
      rw [List.getElem?_set_self (by rw [E'.len]; exact hj')]
      rfl
    · rw [List.getElem?_set_ne (Ne.symm ne)]
      have q := E.sl j s hj'
      cases s with
      | un => trivial
      | d x =>
        obtain ⟨v, e, dn⟩ := q
        exact ⟨v, e, dn.mono hkeep⟩
      | own m xs =>
        obtain ⟨e, ws, hm, dnm⟩ := q
        exact ⟨e, ws, g.kp m (E.ow j m xs hj') _ hm, dnm.mono hkeep⟩
      | well w => exact q
      | raw v => exact q
  · rcases gt j _ hj with ⟨_, e, _⟩ | ⟨_, hj⟩
    · cases e
      exact List.mem_cons_self ..
    · exact List.mem_cons_of_mem _ (E'.ow j m xs hj)
  · rcases gt j _ hj with ⟨ej, e, _⟩ | ⟨_, hj⟩
    · rcases gt k _ hk with ⟨ek, e', _⟩ | ⟨_, hk⟩
      · rw [ej, ek]
      · exfalso
        cases e
        exact nL (E'.ow k _ _ hk)
    · rcases gt k _ hk with ⟨ek, e', _⟩ | ⟨_, hk⟩
      · exfalso
        cases e'
        exact nL (E'.ow j _ _ hj)
      · exact E'.ou j k m xs ys hj hk
  · rcases gt j _ hj with ⟨_, e, _⟩ | ⟨_, hj⟩
    · cases e
    · exact E'.we j w hj
/-- x = a new list, kept as the name's own -/
theorem st_own {i : Nat} (h : EvN K B G L Γ te fun ds => ∀ l, P.nx (l :: L) (Γ.set i (.own l ds))) : StP K B G L Γ (tAsg te (gName i)) P := fun σ H D E M =>
  h σ H _ E fun p vs ds H' g hp e dn hk => M.nx _ _ _ _ (hk p) (Env.take E g hp e i dn)
/-- an own list's new content -/
theorem Env.write {i : Nat} {l : Addr} {xs ys : List PyData} {vs : List V} (E : Env K B G L H σ Γ) (hi : Γ[i]? = some (.own l xs)) (dn : DnA K (hid (L ++ B.M) H) vs ys) :
    Env K B G L (upd H l (.lst vs)) σ (Γ.set i (.own l ys)) := by
  have hl := E.ow i l xs hi
  have lM : l ∈ L ++ B.M := List.mem_append_left _ hl
  have hs : Same (hid (L ++ B.M) H) (hid (L ++ B.M) (upd H l (.lst vs))) := fun a o e => by
    obtain ⟨q, e⟩ := hid_some e
    rw [hid_out q, upd_ne (fun (z : a = l) => q (by rw [z]; exact lM))]
    exact e
  have gt : ∀ (j : Nat) (s : Sl), (Γ.set i (.own l ys))[j]? = some s → (j = i ∧ s = .own l ys ∧ j < Γ.length) ∨ (j ≠ i ∧ Γ[j]? = some s) := fun j s hj => by
    by_cases e : j = i
    · subst e
      refine .inl ⟨rfl, ?_⟩
      by_cases hl : j < Γ.length
      · rw [List.getElem?_set_self hl] at hj
        exact ⟨(Option.some.inj hj).symm, hl⟩
      · rw [List.getElem?_eq_none (by rw [List.length_set]; omega)] at hj
        cases hj
    · rw [List.getElem?_set_ne (Ne.symm e)] at hj
      exact .inr ⟨e, hj⟩
  refine ⟨fun a o w e => ?_, fun w hw => ?_, E.wm, E.lm, fun m hm => ?_, by rw [List.length_set]; exact E.len, fun j s hj => ?_, fun p hp => (E.gh p hp).trans hs, fun j m zs hj => ?_, fun j k m zs ws hj hk => ?_, fun j w hj => ?_⟩
  · rw [upd_ne]
    · exact E.fr a o w e
    · rintro rfl
      rw [(E.lo a hl).1] at e; cases e
  · obtain ⟨n, b, c, e, q⟩ := E.ws w hw
    refine ⟨n, b, c, ?_, q⟩
    rw [upd_ne (fun (z : w = l) => E.lW hl (by rw [← z]; exact hw))]
    exact e
  · refine ⟨(E.lo m hm).1, ?_⟩
    by_cases z : m = l
    · exact ⟨vs, by rw [z]; exact upd_same⟩
    · rw [upd_ne z]
      exact (E.lo m hm).2
  · rcases gt j s hj with ⟨rfl, rfl, hj'⟩ | ⟨ne, hj'⟩
    · obtain ⟨e, _⟩ := E.sl j _ hi
      exact ⟨e, vs, upd_same, dn.mono hs⟩
    · have q := E.sl j s hj'
      cases s with
      | un => trivial
      | d x =>
        obtain ⟨v, e, dn⟩ := q
        exact ⟨v, e, dn.mono hs⟩
      | own m zs =>
        obtain ⟨e, ws, hm, dnm⟩ := q
        refine ⟨e, ws, ?_, dnm.mono hs⟩
        rw [upd_ne (fun (z : m = l) => ne (E.ou j i m zs xs hj' (by rw [z]; exact hi)))]
        exact hm
      | well w => exact q
      | raw v => exact q
  · rcases gt j _ hj with ⟨_, e, _⟩ | ⟨_, hj⟩
    · cases e
      exact hl
    · exact E.ow j m zs hj
  · rcases gt j _ hj with ⟨ej, e, _⟩ | ⟨nj, hj⟩
    · rcases gt k _ hk with ⟨ek, e', _⟩ | ⟨_, hk⟩
      · rw [ej, ek]
      · cases e
        rw [ej]
        exact E.ou i k _ _ _ hi hk
    · rcases gt k _ hk with ⟨ek, e', _⟩ | ⟨_, hk⟩
      · cases e'
        rw [ek]
        exact E.ou j i _ _ _ hj hi
      · exact E.ou j k m zs ws hj hk
  · rcases gt j _ hj with ⟨_, e, _⟩ | ⟨_, hj⟩
    · cases e
    · exact E.we j w hj
/-- xs.append(e), xs an own list -/
theorem st_append {i : Nat} {l : Addr} {xs : List PyData} (hi : Γ[i]? = some (.own l xs)) (hz : xs.length < 100000) (h : EvP K B G L Γ te fun d => P.nx L (Γ.set i (.own l (xs ++ [d])))) :
    StP K B G L Γ (tDrop (tBM K "list" rAppend (tVar i) (tCons te tNil))) P := fun σ H D E M => by
  obtain ⟨e, vs, hl, dn⟩ := E.getO hi
  refine ⟨_, e, .inl ⟨rfl, vs, .inl (.inl hl)⟩, h σ H _ E fun v d H1 g1 dn1 hk => ?_⟩
  obtain ⟨e1, ws, hl1, dn2⟩ := g1.env.getO hi
  refine ⟨l, ws, v, rfl, rfl, hl1, ?_, M.nx _ _ _ _ hk (Env.write g1.env hi (dn2.append (.cons dn1 .nil)))⟩
  rw [dn2.length]
  exact Nat.lt_of_lt_of_le hz (by decide)
/-- xs[i] = e, xs an own list -/
theorem st_setOwn {i : Nat} {l : Addr} {xs : List PyData} (hi : Γ[i]? = some (.own l xs)) (h : EvP K B G L Γ te fun d => EvP K B G L Γ tb fun n => ∃ j : Nat, n = .int (j : Int) ∧ j < xs.length ∧ P.nx L (Γ.set i (.own l (xs.set j d)))) :
    StP K B G L Γ (tAsg te (gSub (tVar i) tb rSetL)) P := fun σ H D E M =>
  h σ H _ E fun v d H1 g1 dn1 h2 => by
    obtain ⟨e, vs, hl, dn⟩ := g1.env.getO hi
    refine ⟨_, e, h2 σ H1 _ g1.env fun u n H2 g2 dn2 ⟨j, en, hj, hk⟩ => ?_⟩
    subst en
    obtain ⟨e, ws, hl2, dn3⟩ := g2.env.getO hi
    refine ⟨l, ws, (j : Int), j, rfl, dn_int dn2, hl2, ?_, M.nx _ _ _ _ hk (Env.write g2.env hi (dn3.set j (dn1.mono g2.sm)))⟩
    rw [dn3.length]
    unfold ixN
    rw [if_pos (by omega), if_pos (by omega)]
    simp
/-- reading an own list -/
theorem ev_lenO {i : Nat} {l : Addr} {xs : List PyData} (hi : Γ[i]? = some (.own l xs)) (hk : k (.int xs.length)) : EvP K B G L Γ (tCB (fun xs H Q => ∃ p ys, xs = [.ref p] ∧ (SqL K H p ys ∨ SqT K H p ys) ∧ Q (.int ys.length) H) (tCons (tVar i) tNil)) k := fun σ H Q E q => by
  obtain ⟨e, vs, hl, dn⟩ := E.getO hi
  refine ⟨_, e, l, vs, rfl, .inl (.inl (.inl hl)), ?_⟩
  rw [dn.length]
  exact q _ _ H (Go.refl E) (.int _) hk
theorem ev_ixO {i : Nat} {l : Addr} {xs : List PyData} (hi : Γ[i]? = some (.own l xs)) (h : EvP K B G L Γ tb fun n => ∃ j d, n = .int j ∧ atI xs j = some d ∧ k d) : EvP K B G L Γ (tOp (rIxL K) (tVar i) tb) k := fun σ H Q E q => by
  obtain ⟨e, vs, hl, dn⟩ := E.getO hi
  refine ⟨_, e, h σ H _ E fun u n H2 g2 dn2 ⟨j, d, en, ed, hk⟩ => ?_⟩
  subst en
  obtain ⟨e, ws, hl2, dn3⟩ := g2.env.getO hi
  obtain ⟨w, e2, dn4⟩ := dna_at dn3 ed
  exact ⟨l, ws, j, w, rfl, dn_int dn2, .inl (.inl hl2), e2, q _ _ H2 g2 dn4 hk⟩
theorem ev_tupO {i : Nat} {l : Addr} {xs : List PyData} (hi : Γ[i]? = some (.own l xs)) (hk : k (.tuple xs)) :
    EvP K B G L Γ (tCB (fun xs H Q => ∃ p ys, xs = [.ref p] ∧ ((SqL K H p ys ∧ ∀ l, H l = none → Q (.ref l) (upd H l (.tup ys))) ∨ (SqT K H p ys ∧ Q (.ref p) H))) (tCons (tVar i) tNil)) k := fun σ H Q E q => by
  obtain ⟨e, vs, hl, dn⟩ := E.getO hi
  refine ⟨_, e, l, vs, rfl, .inl ⟨.inl (.inl hl), fun p hp => ?_⟩⟩
  have g2 := Go.new (o := .tup vs) E hp
  exact q _ _ _ g2 (.tup (.inl (.inl (hid_new (E.newM hp)))) (dn.mono g2.sm)) hk
/-- an own list is data from here on -/
theorem Env.freeze {i : Nat} {l : Addr} {L' : List Addr} {xs : List PyData} (E : Env K B G (l :: L') H σ Γ) (hn : l ∉ L') (hi : Γ[i]? = some (.own l xs)) : Env K B G L' H σ (Γ.set i (.d (.list xs))) := by
  have hs : Same (hid (l :: L' ++ B.M) H) (hid (L' ++ B.M) H) := hid_less H fun a h => List.mem_cons_of_mem _ h
  have lM : l ∉ L' ++ B.M := fun z => by
    rcases List.mem_append.mp z with z | z
    · exact hn z
    · obtain ⟨o, e⟩ := E.lm l z
      rw [(E.lo l (List.mem_cons_self ..)).1] at e; cases e
  have gt : ∀ (j : Nat) (s : Sl), (Γ.set i (.d (.list xs)))[j]? = some s → (j = i ∧ s = .d (.list xs) ∧ j < Γ.length) ∨ (j ≠ i ∧ Γ[j]? = some s) := fun j s hj => by
    by_cases e : j = i
    · subst e
      refine .inl ⟨rfl, ?_⟩
      by_cases hl : j < Γ.length
      · rw [List.getElem?_set_self hl] at hj
        exact ⟨(Option.some.inj hj).symm, hl⟩
      · rw [List.getElem?_eq_none (by rw [List.length_set]; omega)] at hj
        cases hj
    · rw [List.getElem?_set_ne (Ne.symm e)] at hj
      exact .inr ⟨e, hj⟩
  refine ⟨E.fr, E.ws, E.wm, E.lm, fun m hm => E.lo m (List.mem_cons_of_mem _ hm), by rw [List.length_set]; exact E.len, fun j s hj => ?_, fun p hp => (E.gh p hp).trans hs, fun j m zs hj => ?_, fun j k m zs ws hj hk => ?_, fun j w hj => ?_⟩
  · rcases gt j s hj with ⟨rfl, rfl, hj'⟩ | ⟨ne, hj'⟩
    · obtain ⟨e, vs, hl, dn⟩ := E.sl j _ hi
      exact ⟨_, e, .lst (by rw [hid_out lM]; exact hl) (dn.mono hs)⟩
    · have q := E.sl j s hj'
      cases s with
      | un => trivial
      | d x =>
        obtain ⟨v, e, dn⟩ := q
        exact ⟨v, e, dn.mono hs⟩
      | own m zs =>
        obtain ⟨e, ws, hm, dnm⟩ := q
        exact ⟨e, ws, hm, dnm.mono hs⟩
      | well w => exact q
      | raw v => exact q
  · rcases gt j _ hj with ⟨_, e, _⟩ | ⟨nj, hj⟩
    · cases e
    · rcases List.mem_cons.mp (E.ow j m zs hj) with z | z
      · subst z
        exact absurd (E.ou j i m zs xs hj hi) nj
      · exact z
  · rcases gt j _ hj with ⟨ej, e, _⟩ | ⟨nj, hj⟩
    · cases e
    · rcases gt k _ hk with ⟨ek, e', _⟩ | ⟨_, hk⟩
      · cases e'
      · exact E.ou j k m zs ws hj hk
  · rcases gt j _ hj with ⟨_, e, _⟩ | ⟨_, hj⟩
    · cases e
    · exact E.we j w hj
theorem st_freeze (i : Nat) {l : Addr} {L' : List Addr} {xs : List PyData} (hi : Γ[i]? = some (.own l xs)) (hn : l ∉ L') (h : StP K B G L' (Γ.set i (.d (.list xs))) t P) : StP K B G (l :: L') Γ t P := fun σ H D E M => h σ H D (E.freeze hn hi) M
end
end DL
namespace DL
open PySem PySem.Spec PyProof.Rows L2
section
variable {K : PySem.W.Frag} {B : Bs} {G : List Hp} {L : List Addr} {Γ : List Sl} {H H' H2 : Hp} {σ : L2.St}
variable {te ta tb tc tl : TE} {tt tu : TT} {tr : TA} {k : PyData → Prop} {x y : PyData} {P P' : PD} {t u : TS}

/-! ### loops -/
theorem Env.gpush (E : Env K B G L H σ Γ) : Env K B (hid (L ++ B.M) H :: G) L H σ Γ := ⟨E.fr, E.ws, E.wm, E.lm, E.lo, E.len, E.sl, fun g hg => by
  rcases List.mem_cons.mp hg with rfl | hg
  · exact Same.refl _
  · exact E.gh g hg, E.ow, E.ou, E.we⟩
theorem Env.gpop {g : Hp} (E : Env K B (g :: G) L H σ Γ) : Env K B G L H σ Γ := ⟨E.fr, E.ws, E.wm, E.lm, E.lo, E.len, E.sl, fun g' hg => E.gh g' (List.mem_cons_of_mem _ hg), E.ow, E.ou, E.we⟩
def PD.inLoop (P : PD) (I : List Addr → List Sl → Prop) : PD := { nx := I, ct := I, bk := P.nx, rt := P.rt }
/-- for x in (a list that is data | a tuple) -/
theorem st_forL {j : Nat} (h : EvP K B G L Γ tl fun d => ∃ ds, d = .list ds ∧ ∃ I : Nat → List Addr → List Sl → Prop, I 0 L Γ ∧
    (∀ i d' L' Γ' g, ds[i]? = some d' → I i L' Γ' → StP K B (g :: G) L' (Γ'.set j (.d d')) t (P.inLoop (I (i + 1)))) ∧ ∀ L' Γ', I ds.length L' Γ' → P.nx L' Γ') :
    StP K B G L Γ (tFor (iList K tl) (gName j) t) P := fun σ H D E M =>
  h σ H _ E fun v d H1 g1 dn ⟨ds, e, I, h0, hs, hd⟩ => by
    subst e
    cases dn with
    | @lst a xs _ e1 h2 =>
      have E1 := g1.env.gpush
      refine ⟨a, rfl, ⟨xs, .inl (.inl (hid_sub _ _ _ _ e1))⟩, for_list (xs := xs) (fun i σ' H' => ∃ L' Γ', I i L' Γ' ∧ Env K B (hid (L ++ B.M) H1 :: G) L' H' σ' Γ') ⟨L, Γ, h0, E1⟩ (fun i σ' H' _ ⟨L', Γ', _, E'⟩ => ?_) (fun i x σ' H' hi ⟨L', Γ', hI, E'⟩ => ?_) (fun σ' H' ⟨L', Γ', hI, E'⟩ => ?_)⟩
      · exact .inl (.inl (hid_sub _ _ _ _ (E'.gh _ (List.mem_cons_self ..) _ _ e1)))
      · obtain ⟨d', e', dn'⟩ := h2.getV hi
        refine hs i d' L' Γ' _ e' hI _ H' _ (E'.put j (dn'.mono (E'.gh _ (List.mem_cons_self ..)))) ⟨fun L2 Γ2 σ2 H2 q E2 => ⟨L2, Γ2, q, E2⟩, M.rt, fun L2 Γ2 σ2 H2 q E2 => M.nx _ _ _ _ q E2.gpop, fun L2 Γ2 σ2 H2 q E2 => ⟨L2, Γ2, q, E2⟩⟩
      · rw [h2.length] at hI
        exact M.nx _ _ _ _ (hd L' Γ' hI) E'.gpop
theorem st_forT {j : Nat} (h : EvP K B G L Γ tl fun d => ∃ ds, d = .tuple ds ∧ ∃ I : Nat → List Addr → List Sl → Prop, I 0 L Γ ∧
    (∀ i d' L' Γ' g, ds[i]? = some d' → I i L' Γ' → StP K B (g :: G) L' (Γ'.set j (.d d')) t (P.inLoop (I (i + 1)))) ∧ ∀ L' Γ', I ds.length L' Γ' → P.nx L' Γ') :
    StP K B G L Γ (tFor (iTup K tl) (gName j) t) P := fun σ H D E M =>
  h σ H _ E fun v d H1 g1 dn ⟨ds, e, I, h0, hs, hd⟩ => by
    subst e
    cases dn with
    | @tup a xs _ e1 h2 =>
      have E1 := g1.env.gpush
      refine ⟨a, rfl, ⟨xs, Same.sqt (hid_sub _ _) e1⟩, for_tup (xs := xs) (fun i σ' H' => ∃ L' Γ', I i L' Γ' ∧ Env K B (hid (L ++ B.M) H1 :: G) L' H' σ' Γ') ⟨L, Γ, h0, E1⟩ (fun i σ' H' _ ⟨L', Γ', _, E'⟩ => ?_) (fun i x σ' H' hi ⟨L', Γ', hI, E'⟩ => ?_) (fun σ' H' ⟨L', Γ', hI, E'⟩ => ?_)⟩
      · exact Same.sqt (hid_sub _ _) (Same.sqt (E'.gh _ (List.mem_cons_self ..)) e1)
      · obtain ⟨d', e', dn'⟩ := h2.getV hi
        refine hs i d' L' Γ' _ e' hI _ H' _ (E'.put j (dn'.mono (E'.gh _ (List.mem_cons_self ..)))) ⟨fun L2 Γ2 σ2 H2 q E2 => ⟨L2, Γ2, q, E2⟩, M.rt, fun L2 Γ2 σ2 H2 q E2 => M.nx _ _ _ _ q E2.gpop, fun L2 Γ2 σ2 H2 q E2 => ⟨L2, Γ2, q, E2⟩⟩
      · rw [h2.length] at hI
        exact M.nx _ _ _ _ (hd L' Γ' hI) E'.gpop
/-- for k in range(n) -/
theorem st_forR {j : Nat} (h : EvA K B G L Γ tr fun vs => ∃ n : Int, vs = [.int n] ∧ -1000000 ≤ n ∧ n ≤ 1000000 ∧ ∃ I : Nat → List Addr → List Sl → Prop, I 0 L Γ ∧
    (∀ i L' Γ', i < n.toNat → I i L' Γ' → StP K B G L' (Γ'.set j (.d (.int (i : Int)))) t (P.inLoop (I (i + 1)))) ∧ ∀ L' Γ', I n.toNat L' Γ' → P.nx L' Γ') :
    StP K B G L Γ (tFor (iRng1 tr) (gName j) t) P := fun σ H D E M =>
  h σ H _ E fun vs ds H1 g1 dn ⟨n, e, hn0, hn, I, h0, hs, hd⟩ => by
    subst e
    cases dn with
    | cons d1 d2 =>
      cases d2
      cases d1
      refine ⟨n, rfl, by omega, by omega, for_range (lo := 0) (n := n.toNat) (fun i σ' H' => ∃ L' Γ', I i L' Γ' ∧ Env K B G L' H' σ' Γ') ⟨L, Γ, h0, g1.env⟩ (fun i σ' H' hi ⟨L', Γ', hI, E'⟩ => ?_) (fun σ' H' ⟨L', Γ', hI, E'⟩ => M.nx _ _ _ _ (hd L' Γ' hI) E')⟩
      have e0 : (0 : Int) + (i : Int) = (i : Int) := Int.zero_add _
      rw [e0]
      exact hs i L' Γ' hi hI _ H' _ (E'.put j (.int _)) ⟨fun L2 Γ2 σ2 H2 q E2 => ⟨L2, Γ2, q, E2⟩, M.rt, M.nx, fun L2 Γ2 σ2 H2 q E2 => ⟨L2, Γ2, q, E2⟩⟩
/-- while -/
theorem st_while (I : Nat → List Addr → List Sl → Prop) (m0 : Nat) (h0 : I m0 L Γ)
    (hs : ∀ m L' Γ', I m L' Γ' → EvT K B G L' Γ' tt fun b => (b = true → StP K B G L' Γ' t (P.inLoop fun L2 Γ2 => ∃ m', m' < m ∧ I m' L2 Γ2)) ∧ (b = false → P.nx L' Γ')) : StP K B G L Γ (tWhile tt t) P := fun σ H D E M =>
  ⟨fun m σ' H' => ∃ L' Γ', I m L' Γ' ∧ Env K B G L' H' σ' Γ', ⟨m0, L, Γ, h0, E⟩, fun m σ' H' ⟨L', Γ', hI, E'⟩ => hs m L' Γ' hI σ' H' _ E' fun b H1 g1 ⟨h1, h2⟩ => by
    cases b with
    | true =>
      refine iteT ⟨fun σ2 H2 => ∃ L2 Γ2, (∃ m', m' < m ∧ I m' L2 Γ2) ∧ Env K B G L2 H2 σ2 Γ2, fun σ2 H2 ⟨L2, Γ2, ⟨m', hm, hI2⟩, E2⟩ => ⟨m', hm, L2, Γ2, hI2, E2⟩, ?_⟩
      exact h1 rfl σ' H1 _ g1.env ⟨fun L2 Γ2 σ2 H2 q E2 => ⟨L2, Γ2, q, E2⟩, M.rt, M.nx, fun L2 Γ2 σ2 H2 q E2 => ⟨L2, Γ2, q, E2⟩⟩
    | false => exact iteF (M.nx _ _ _ _ (h2 rfl) g1.env)⟩

/-! ### comprehensions -/
/-- one more list of one's own, no name's -/
theorem Env.temp {l : Addr} {vs : List V} (E : Env K B G L H σ Γ) (g : Go K B G L Γ H H' σ) (hl : H l = none) (h : H' l = some (.lst vs)) : Env K B G (l :: L) H' σ Γ := by
  have E' := g.env
  have hkeep := g.keepL E hl
  refine ⟨E'.fr, E'.ws, E'.wm, E'.lm, fun m hm => ?_, E'.len, fun j s hj => ?_, fun p hp => (E.gh p hp).trans hkeep, fun j m xs hj => List.mem_cons_of_mem _ (E'.ow j m xs hj), E'.ou, E'.we⟩
  · rcases List.mem_cons.mp hm with rfl | hm
    · refine ⟨?_, _, h⟩
      cases e : B.H m with
      | none => rfl
      | some o =>
        exfalso
        by_cases w : m ∈ B.Ws
        · obtain ⟨_, _, _, q, _⟩ := E.ws m w
          rw [hl] at q; cases q
        · have q := E.fr m o w e
          rw [hl] at q; cases q
    · exact E'.lo m hm
  · have q := E.sl j s hj
    cases s with
    | un => trivial
    | d x =>
      obtain ⟨v, e, dn⟩ := q
      exact ⟨v, e, dn.mono hkeep⟩
    | own m xs =>
      obtain ⟨e, ws, hm, dnm⟩ := q
      exact ⟨e, ws, g.kp m (E.ow j m xs hj) _ hm, dnm.mono hkeep⟩
    | well w => exact q
    | raw v => exact q
def wipeG (Γ : List Sl) : List Nat → List Sl
  | [] => Γ
  | v :: vs => (wipeG Γ vs).set v .un
theorem Env.set_un (E : Env K B G L H σ Γ) (i : Nat) : Env K B G L H (σ.set i none) (Γ.set i .un) := by
  have E2 := E.weak i
  refine ⟨E2.fr, E2.ws, E2.wm, E2.lm, E2.lo, by rw [List.length_set]; exact E2.len, fun j s hj => ?_, E2.gh, E2.ow, E2.ou, E2.we⟩
  by_cases e : j = i
  · subst e
    have : s = .un := by
      by_cases hl : j < Γ.length
      · rw [List.getElem?_set_self hl] at hj
        exact (Option.some.inj hj).symm
      · rw [List.getElem?_eq_none (by rw [List.length_set]; omega)] at hj
        cases hj
    subst this
    trivial
  · rw [List.getElem?_set_ne (Ne.symm e)]
    exact E2.sl j s hj
theorem Env.wipe (E : Env K B G L H σ Γ) : ∀ vs : List Nat, Env K B G L H (L2.wipe σ vs) (wipeG Γ vs)
  | [] => E
  | v :: vs => (Env.wipe E vs).set_un v
/-- a comprehension's turns: J says what is made of the first turns -/
def CompOk (K : PySem.W.Frag) (B : Bs) (G : List Hp) (L : List Addr) (Γ : List Sl) (j : Nat) (tt : TT) (te : TE) (vs : List Nat) (n : Nat) (item : Nat → PyData → Prop) (J : Nat → List PyData → Prop) : Prop :=
  J 0 [] ∧ ∀ i D d' acc, item i d' → J i acc → i < n → EvT K B G (D :: L) ((wipeG Γ vs).set j (.d d')) tt fun b =>
    (b = true → EvP K B G (D :: L) ((wipeG Γ vs).set j (.d d')) te fun y => J (i + 1) (acc ++ [y])) ∧ (b = false → J (i + 1) acc)
/-- the heap and the list so far -/
structure Sofar (K : PySem.W.Frag) (B : Bs) (L : List Addr) (H1 H' : Hp) (D : Addr) (i : Nat) (J : Nat → List PyData → Prop) : Prop where
  rl : ∀ a o, a ∉ B.Ws → H1 a = some o → H' a = some o
  ws : ∀ w ∈ B.Ws, WellAt H' w
  it : ∃ accV acc, J i acc ∧ acc.length ≤ i ∧ H' D = some (.lst accV) ∧ DnA K (hid (D :: (L ++ B.M)) H') accV acc
theorem Go.of_rel (E : Env K B G L H σ Γ) (h1 : ∀ a o, a ∉ B.Ws → H a = some o → H' a = some o) (h2 : ∀ w ∈ B.Ws, WellAt H' w) : Go K B G L Γ H H' σ := Go.step E h1 h2
theorem comp_turn {j n : Nat} {vs : List Nat} {item : Nat → PyData → Prop} {J : Nat → List PyData → Prop} {H1 : Hp} {D : Addr} {i : Nat} {x : V} {d' : PyData} (E1 : Env K B G L H1 σ Γ) (hD : H1 D = none) (C : CompOk K B G L Γ j tt te vs n item J) (hn : n ≤ 100000)
    (S : Sofar K B L H1 H' D i J) (hi : item i d') (hin : i < n) (dn : Dn K (hid (L ++ B.M) H1) x d') :
    tt ((L2.wipe σ vs).set j (some x)) H' fun b H3 => if b = true then te ((L2.wipe σ vs).set j (some x)) H3 fun y H4 => ∃ acc, H4 D = some (.lst acc) ∧ acc.length < sizeLine ∧ Sofar K B L H1 (upd H4 D (.lst (acc ++ [y]))) D (i + 1) J else Sofar K B L H1 H3 D (i + 1) J := by
  obtain ⟨rl, ws, accV, acc, hJ, hlen, hDl, dA⟩ := S
  have g0 : Go K B G L Γ H1 H' σ := Go.of_rel E1 rl ws
  have ET := Env.temp E1 g0 hD hDl
  have hk0 : Same (hid (L ++ B.M) H1) (hid (D :: L ++ B.M) H') := g0.keepL E1 hD
  have EW := (ET.wipe vs).put j (dn.mono hk0)
  refine C.2 i D d' acc hi hJ hin _ H' _ EW fun b H3 g3 ⟨c1, c2⟩ => ?_
  have D3 : H3 D = some (.lst accV) := g3.kp D (List.mem_cons_self ..) _ hDl
  cases b with
  | false =>
    refine iteF ⟨fun a o w e => g3.rl a o w (rl a o w e), g3.env.ws, accV, acc, c2 rfl, by omega, D3, dA.mono g3.sm⟩
  | true =>
    refine iteT (c1 rfl _ H3 _ g3.env fun y d H4 g4 dy hJ' => ?_)
    have D4 : H4 D = some (.lst accV) := g4.kp D (List.mem_cons_self ..) _ D3
    refine ⟨accV, D4, ?_, ?_⟩
    · rw [dA.length]
      exact Nat.lt_of_le_of_lt hlen (Nat.lt_of_lt_of_le (Nat.lt_of_lt_of_le hin hn) (by decide))
    · have hs : Same (hid (D :: (L ++ B.M)) H4) (hid (D :: (L ++ B.M)) (upd H4 D (.lst (accV ++ [y])))) := fun a o e => by
        obtain ⟨q, e⟩ := hid_some e
        rw [hid_out q, upd_ne (fun z => q (by rw [z]; exact List.mem_cons_self ..))]
        exact e
      have dW : D ∉ B.Ws := fun w => by
        obtain ⟨_, _, _, q, _⟩ := E1.ws D w
        rw [hD] at q; cases q
      refine ⟨fun a o w e => ?_, fun w hw => ?_, accV ++ [y], acc ++ [d], hJ', by rw [List.length_append]; exact Nat.succ_le_succ hlen, upd_same, ?_⟩
      · rw [upd_ne (ne_of_none e hD)]
        exact g4.rl a o w (g3.rl a o w (rl a o w e))
      · obtain ⟨n, b, c, e, q⟩ := g4.env.ws w hw
        exact ⟨n, b, c, by rw [upd_ne (fun (z : w = D) => dW (by rw [← z]; exact hw))]; exact e, q⟩
      · exact ((dA.mono g3.sm).mono g4.sm |>.append (.cons dy .nil)).mono hs
theorem en_lcT {j : Nat} {vs : List Nat} {kl : List PyData → Prop} (hw : ∀ (σ : L2.St) x, L2.wipe ((L2.wipe σ vs).set j (some x)) vs = L2.wipe σ vs)
    (h : EvP K B G L Γ tl fun d => ∃ ds, d = .tuple ds ∧ ds.length ≤ 100000 ∧ ∃ J, CompOk K B G L Γ j tt te vs ds.length (fun i d' => ds[i]? = some d') J ∧ ∀ acc, J ds.length acc → kl acc) :
    EvN K B G L Γ (tLc (iTup K tl) (gName j) tt te vs) kl := fun σ H Q E q =>
  h σ H _ E fun v d H1 g1 dn ⟨ds, e, hl, J, C, hk⟩ => by
    subst e
    cases dn with
    | @tup a xs _ e1 h2 =>
      refine ⟨a, rfl, ⟨xs, Same.sqt (hid_sub _ _) e1⟩, fun D hD => lc_tup (xs := xs) (fun i H' => Sofar K B L H1 H' D i J)
        ⟨fun a o w e => same_upd hD a o e, fun w hw => ?_, [], [], C.1, Nat.le_refl _, upd_same, .nil⟩ (fun i H' _ S => ?_) (fun i x H' hi S => ?_) (fun H' S => ?_)⟩
      · obtain ⟨n, b, c, e, q⟩ := g1.env.ws w hw
        exact ⟨n, b, c, same_upd hD _ _ e, q⟩
      · have g0 : Go K B G L Γ H1 H' σ := Go.of_rel g1.env S.rl S.ws
        exact Same.sqt (hid_sub _ _) (Same.sqt g0.sm e1)
      · obtain ⟨d', e', dn'⟩ := h2.getV hi
        exact ⟨hw σ x, comp_turn g1.env hD C hl S e' (List.getElem?_eq_some_iff.mp e').1 dn'⟩
      · have g0 : Go K B G L Γ H1 H' σ := Go.of_rel g1.env S.rl S.ws
        obtain ⟨accV, acc, hJ, _, e, dA⟩ := S.it
        rw [h2.length] at hJ
        exact q D accV acc H' (g1.trans g0) (Go.fresh E g1 hD) e dA (hk acc hJ)
theorem en_lcL {j : Nat} {vs : List Nat} {kl : List PyData → Prop} (hw : ∀ (σ : L2.St) x, L2.wipe ((L2.wipe σ vs).set j (some x)) vs = L2.wipe σ vs)
    (h : EvP K B G L Γ tl fun d => ∃ ds, d = .list ds ∧ ds.length ≤ 100000 ∧ ∃ J, CompOk K B G L Γ j tt te vs ds.length (fun i d' => ds[i]? = some d') J ∧ ∀ acc, J ds.length acc → kl acc) :
    EvN K B G L Γ (tLc (iList K tl) (gName j) tt te vs) kl := fun σ H Q E q =>
  h σ H _ E fun v d H1 g1 dn ⟨ds, e, hl, J, C, hk⟩ => by
    subst e
    cases dn with
    | @lst a xs _ e1 h2 =>
      refine ⟨a, rfl, ⟨xs, .inl (.inl (hid_sub _ _ _ _ e1))⟩, fun D hD => lc_list (xs := xs) (fun i H' => Sofar K B L H1 H' D i J)
        ⟨fun a o w e => same_upd hD a o e, fun w hw => ?_, [], [], C.1, Nat.le_refl _, upd_same, .nil⟩ (fun i H' _ S => ?_) (fun i x H' hi S => ?_) (fun H' S => ?_)⟩
      · obtain ⟨n, b, c, e, q⟩ := g1.env.ws w hw
        exact ⟨n, b, c, same_upd hD _ _ e, q⟩
      · have g0 : Go K B G L Γ H1 H' σ := Go.of_rel g1.env S.rl S.ws
        exact .inl (.inl (hid_sub _ _ _ _ (g0.sm _ _ e1)))
      · obtain ⟨d', e', dn'⟩ := h2.getV hi
        exact ⟨hw σ x, comp_turn g1.env hD C hl S e' (List.getElem?_eq_some_iff.mp e').1 dn'⟩
      · have g0 : Go K B G L Γ H1 H' σ := Go.of_rel g1.env S.rl S.ws
        obtain ⟨accV, acc, hJ, _, e, dA⟩ := S.it
        rw [h2.length] at hJ
        exact q D accV acc H' (g1.trans g0) (Go.fresh E g1 hD) e dA (hk acc hJ)
theorem et_yes {kb : Bool → Prop} (h : kb true) : EvT K B G L Γ tYes kb := fun σ H Q E q => q true H (Go.refl E) h

/-! ### defs -/
/-- a def that changes nothing -/
def SpP (K : PySem.W.Frag) (pre : List PyData → Prop) (post : List PyData → PyData → Prop) : Sp := fun vs H Q _ => ∃ M ds, (∀ m ∈ M, ∃ o, H m = some o) ∧ DnA K (hid M H) vs ds ∧ pre ds ∧
  ∀ v d H', Same H H' → Dn K (hid M H') v d → post ds d → Q v H'
/-- a def that draws from the well, its first argument -/
def SpW (K : PySem.W.Frag) (pre : List PyData → Prop) (post : List PyData → PyData → Prop) : Sp := fun vs H Q _ => ∃ M w vs' ds, vs = .ref w :: vs' ∧ w ∈ M ∧ WellAt H w ∧ (∀ m ∈ M, ∃ o, H m = some o) ∧ DnA K (hid M H) vs' ds ∧ pre ds ∧
  ∀ v d H', (∀ a o, a ≠ w → H a = some o → H' a = some o) → WellAt H' w → Dn K (hid M H') v d → post ds d → Q v H'
theorem ev_callP {pre : List PyData → Prop} {post : List PyData → PyData → Prop} {E0 : XK} (h : EvA K B G L Γ tr fun ds => pre ds ∧ ∀ d, post ds d → k d) : EvP K B G L Γ (tCall (SpP K pre post) [] E0 tr) k := fun σ H Q E q =>
  h σ H _ E fun vs ds H1 g1 dn ⟨hp, hk⟩ => by
    rw [List.append_nil]
    refine ⟨L ++ B.M, ds, g1.env.alive, dn, hp, fun v d H' hs dv hpost => ?_⟩
    have g2 := Go.step g1.env (H' := H') (fun a o _ e => hs a o e) fun w hw => by
      obtain ⟨n, b, c, e, q⟩ := g1.env.ws w hw
      exact ⟨n, b, c, hs _ _ e, q⟩
    exact q v d H' (g1.trans g2) dv (hk d hpost)
theorem ev_callW {i : Nat} {w : Addr} {pre : List PyData → Prop} {post : List PyData → PyData → Prop} {E0 : XK} (hi : Γ[i]? = some (.well w)) (h : EvA K B G L Γ tr fun ds => pre ds ∧ ∀ d, post ds d → k d) : EvP K B G L Γ (tCall (SpW K pre post) [] E0 (tCons (tVar i) tr)) k := fun σ H Q E q =>
  ⟨_, E.getW hi, h σ H _ E fun vs ds H1 g1 dn ⟨hp, hk⟩ => by
    show SpW K pre post ((V.ref w :: vs) ++ []) H1 Q E0
    rw [List.append_nil]
    have hw := g1.env.we i w hi
    refine ⟨L ++ B.M, w, vs, ds, rfl, List.mem_append_right _ (g1.env.wm w hw), g1.env.ws w hw, g1.env.alive, dn, hp, fun v d H' hs hW dv hpost => ?_⟩
    have g2 := Go.step g1.env (H' := H') (fun a o wn e => hs a o (fun z => wn (by rw [z]; exact hw)) e) fun w' hw' => by
      by_cases z : w' = w
      · rw [z]; exact hW
      · obtain ⟨n, b, c, e, q⟩ := g1.env.ws w' hw'
        exact ⟨n, b, c, hs _ _ z e, q⟩
    exact q v d H' (g1.trans g2) dv (hk d hpost)⟩
def slots (N : List Str) (ds : List PyData) : List Sl := ds.map Sl.d ++ List.replicate (N.length - ds.length) .un
theorem slotok_start (K : PySem.W.Frag) (M : List Addr) (H : Hp) (r : Nat) {vs : List V} {ds : List PyData} (dn : DnA K (hid M H) vs ds) : ∀ (i : Nat) (s : Sl), (ds.map Sl.d ++ List.replicate r Sl.un)[i]? = some s → SlotOk K M H ((vs.map some ++ List.replicate r none)[i]?.join) s := fun i s hi => by
  have hl := dn.length
  by_cases h : i < ds.length
  · rw [List.getElem?_append_left (by simpa using h)] at hi
    rw [List.getElem?_append_left (by simpa [hl] using h)]
    rw [List.getElem?_map, List.getElem?_eq_getElem h] at hi
    obtain ⟨v, e, dv⟩ := dn.get (List.getElem?_eq_getElem h)
    rw [List.getElem?_map, e]
    cases hi
    exact ⟨v, rfl, dv⟩
  · rw [List.getElem?_append_right (by simpa using h), List.getElem?_replicate] at hi
    split at hi
    · cases hi
      trivial
    · cases hi
/-- from a promise to its body -/
theorem body_P {pre : List PyData → Prop} {post : List PyData → PyData → Prop} {N : List Str} {vs : List V} {Q : VK} {E : XK} (h : SpP K pre post vs H Q E)
    (hb : ∀ (B : Bs) (ds : List PyData), B.Ws = [] → pre ds → StP K B [] [] (slots N ds) t { nx := fun _ _ => post ds .none, rt := post ds }) : t { nx := fun _ H' => Q .non H', rt := Q } (L2.start N vs) H := by
  obtain ⟨M, ds, lm, dn, hp, q⟩ := h
  have E0 : Env K ⟨M, [], H⟩ [] [] H (L2.start N vs) (slots N ds) := by
    refine ⟨fun _ _ _ e => e, fun w hw => (by cases hw), fun w hw => (by cases hw), lm, fun l hl => (by cases hl), ?_, ?_, fun g hg => (by cases hg), ?_, ?_, ?_⟩
    · unfold L2.start slots
      simp [dn.length]
    · unfold L2.start slots
      rw [dn.length]
      exact slotok_start K _ H _ dn
    · intro i l xs hi
      exfalso
      unfold slots at hi
      rcases List.mem_append.mp (List.mem_of_getElem? hi) with z | z
      · obtain ⟨d, _, e⟩ := List.mem_map.mp z
        cases e
      · cases (List.eq_of_mem_replicate z)
    · intro i j l xs ys hi hj
      exfalso
      unfold slots at hi
      rcases List.mem_append.mp (List.mem_of_getElem? hi) with z | z
      · obtain ⟨d, _, e⟩ := List.mem_map.mp z
        cases e
      · cases (List.eq_of_mem_replicate z)
    · intro i w hi
      exfalso
      unfold slots at hi
      rcases List.mem_append.mp (List.mem_of_getElem? hi) with z | z
      · obtain ⟨d, _, e⟩ := List.mem_map.mp z
        cases e
      · cases (List.eq_of_mem_replicate z)
  exact hb _ ds rfl hp _ _ _ E0 ⟨fun L Γ σ H' hq E' => q _ _ H' (fun a o e => E'.fr a o (by simp) e) .non hq, fun v d H' hq o dn => q v d H' (fun a o' e => o.fr a o' (by simp) e) dn hq, fun _ _ _ _ z => z.elim, fun _ _ _ _ z => z.elim⟩
theorem body_W {pre : List PyData → Prop} {post : List PyData → PyData → Prop} {N : List Str} {vs : List V} {Q : VK} {E : XK} (h : SpW K pre post vs H Q E) (hN : N ≠ [])
    (hb : ∀ (B : Bs) (w : Addr) (ds : List PyData), pre ds → StP K B [] [] (.well w :: slots N.tail ds) t { nx := fun _ _ => post ds .none, rt := post ds }) : t { nx := fun _ H' => Q .non H', rt := Q } (L2.start N vs) H := by
  obtain ⟨M, w, vs', ds, rfl, wM, hW, lm, dn, hp, q⟩ := h
  obtain ⟨n0, N', rfl⟩ : ∃ n0 N', N = n0 :: N' := by
    cases N with
    | nil => exact absurd rfl hN
    | cons a b => exact ⟨a, b, rfl⟩
  have e0 : L2.start (n0 :: N') (.ref w :: vs') = some (.ref w) :: (vs'.map some ++ List.replicate (N'.length - vs'.length) none) := by
    unfold L2.start
    simp
  have E0 : Env K ⟨M, [w], H⟩ [] [] H (L2.start (n0 :: N') (.ref w :: vs')) (.well w :: slots N' ds) := by
    rw [e0]
    refine ⟨fun _ _ _ e => e, fun w' hw => ?_, fun w' hw => ?_, lm, fun l hl => (by cases hl), ?_, ?_, fun g hg => (by cases hg), ?_, ?_, ?_⟩
    · rw [List.mem_singleton.mp hw]; exact hW
    · rw [List.mem_singleton.mp hw]; exact wM
    · unfold slots
      simp [dn.length]
    · intro i s hi
      cases i with
      | zero =>
        cases hi
        rfl
      | succ i =>
        have hi' : (slots N' ds)[i]? = some s := by simpa using hi
        have := slotok_start K ([] ++ M) H (N'.length - ds.length) dn i s hi'
        rw [← dn.length] at this
        simpa using this
    · intro i l xs hi
      exfalso
      cases i with
      | zero => cases hi
      | succ i =>
        have hi' : (slots N' ds)[i]? = some (.own l xs) := by simpa using hi
        unfold slots at hi'
        rcases List.mem_append.mp (List.mem_of_getElem? hi') with z | z
        · obtain ⟨d, _, e⟩ := List.mem_map.mp z
          cases e
        · cases (List.eq_of_mem_replicate z)
    · intro i j l xs ys hi hj
      exfalso
      cases i with
      | zero => cases hi
      | succ i =>
        have hi' : (slots N' ds)[i]? = some (.own l xs) := by simpa using hi
        unfold slots at hi'
        rcases List.mem_append.mp (List.mem_of_getElem? hi') with z | z
        · obtain ⟨d, _, e⟩ := List.mem_map.mp z
          cases e
        · cases (List.eq_of_mem_replicate z)
    · intro i w' hi
      cases i with
      | zero =>
        cases hi
        exact List.mem_singleton.mpr rfl
      | succ i =>
        exfalso
        have hi' : (slots N' ds)[i]? = some (.well w') := by simpa using hi
        unfold slots at hi'
        rcases List.mem_append.mp (List.mem_of_getElem? hi') with z | z
        · obtain ⟨d, _, e⟩ := List.mem_map.mp z
          cases e
        · cases (List.eq_of_mem_replicate z)
  exact hb _ w ds hp _ _ _ E0 ⟨fun L Γ σ H' hq E' => q _ _ H' (fun a o ne e => E'.fr a o (fun z => ne (List.mem_singleton.mp z)) e) (E'.ws w (List.mem_singleton.mpr rfl)) .non hq,
    fun v d H' hq o dn => q v d H' (fun a o' ne e => o.fr a o' (fun z => ne (List.mem_singleton.mp z)) e) (o.ws w (List.mem_singleton.mpr rfl)) dn hq, fun _ _ _ _ z => z.elim, fun _ _ _ _ z => z.elim⟩
end
end DL
namespace PySem.HT
open PySem PySem.Spec PyProof.Rows
section
variable {prog : Program} {w : World} {A : Around} {E : Value → Shared → Prop} {s : Shared}
theorem filterMap_congr' {α β : Type} {f g : α → Option β} : ∀ {l : List α}, (∀ m ∈ l, f m = g m) → l.filterMap f = l.filterMap g
  | [], _ => rfl
  | a :: l, h => by
    rw [List.filterMap_cons, List.filterMap_cons, h a (List.mem_cons_self ..), filterMap_congr' fun m hm => h m (List.mem_cons_of_mem _ hm)]
theorem pick_rev (xs : Array Value) (n : Nat) (h : n = xs.size) (h1 : 1 ≤ n) : ((List.range n).filterMap fun (m : Nat) => xs[(((n : Int) - 1) + (m : Int) * (-1)).toNat]?).toArray = xs.toList.reverse.toArray := by
  congr 1
  have e : ∀ m ∈ List.range n, (fun (m : Nat) => xs[(((n : Int) - 1) + (m : Int) * (-1)).toNat]?) m = (fun m => xs.toList.reverse[m]?) m := fun m hm => by
    have hm' := List.mem_range.mp hm
    have q : (((n : Int) - 1) + (m : Int) * (-1)).toNat = n - 1 - m := by omega
    show xs[(((n : Int) - 1) + (m : Int) * (-1)).toNat]? = xs.toList.reverse[m]?
    rw [q, List.getElem?_reverse (by rw [Array.length_toList]; omega), Array.length_toList, Array.getElem?_toList, h]
  rw [filterMap_congr' e]
  have hl : n = xs.toList.reverse.length := by rw [List.length_reverse, Array.length_toList, h]
  rw [hl]
  exact List.ext_getElem? (fun i => by
    have : ∀ (l : List Value), (List.range l.length).filterMap (fun m => l[m]?) = l := fun l => by
      induction l with
      | nil => rfl
      | cons a l ih =>
        rw [List.length_cons, List.range_succ_eq_map, List.filterMap_cons, List.filterMap_map]
        simp only [List.getElem?_cons_zero]
        congr 1
    rw [this])
theorem getItem_tuple_rev {t sl : Addr} {items : Array Value} {vl vu vs : Value} {Q : Value → Shared → Prop} (ht : IsTup s.heap t items) (hs : s.heap.IsSliceOf sl vl vu vs) (pl : IsPart vl none) (pu : IsPart vu none) (ps : IsPart vs (some (-1)))
    (h1 : 1 ≤ items.size)
    (h : Q (.ref s.heap.objs.size) { s with heap := s.heap.push { cls := .type "tuple", data := .seq items.toList.reverse.toArray } })
    (hsz : items.size ≤ sizeLine) : wpAny (model prog w) A (getItem (.ref t) (.ref sl)) Q E s := by
  have htake : sizeOk (.seq items.toList.reverse.toArray) := by
    show items.toList.reverse.toArray.size ≤ sizeLine
    rw [List.size_toArray, List.length_reverse, Array.length_toList]
    exact hsz
  obtain ⟨os, hos, hcs, hds⟩ := id hs
  have hTs : s.TypeIs (.ref sl) "slice" := ⟨os, hos, hcs⟩
  unfold getItem
  try with_reducible refine wpAny_holding ?_
  first | refine wpAny_bind (wpAny_pure ?_) | skip
  refine wpAny_bind (wpAny_sequenceKey ht.typeIs (by decide) ?_)
  refine wpAny_bind (wpAny_callSpecial?_slot (name := Str.ofString "__getitem__") ht.typeIs PyProof.Rows.slot_tuple_getitem
    (wpAny_call_entry PyProof.Rows.slot_tuple_getitem ht.typeIs entry_tuple_getitem ?_ (args_tuple_getitem _ _)))
  show wpAny _ _ (Builtin.Tuple.tupleItemsOf (.ref t) >>= _) _ _ s
  refine wpAny_bind (tupleItemsOf_ ht ?_)
  refine wpAny_bind (wpAny_typeOf hTs ?_)
  rw [if_pos (by decide)]
  have hadj : Builtin.Slice.sliceAdjust none none (-1) (items.size : Int) = ((items.size : Int) - 1, -1) := by
    unfold Builtin.Slice.sliceAdjust
    rfl
  have hpl : Builtin.Slice.slicePlaces ((items.size : Int) - 1) (-1) (-1) = items.size := by
    unfold Builtin.Slice.slicePlaces
    rw [if_neg (by decide), if_pos (by omega)]
    have : ((items.size : Int) - 1 - -1 - 1) / (- -1) + 1 = items.size := by
      rw [show (- -1 : Int) = 1 by decide, Int.ediv_one]
      omega
    rw [this]
    exact Int.toNat_natCast _
  refine wpAny_bind ?_
  unfold Builtin.Slice.sliceApplied Builtin.Slice.sliceFields
  refine wpAny_bind (wpAny_bind (wpAny_field hos hds (x := vl) rfl (wpAny_bind (wpAny_field hos hds (x := vu) rfl (wpAny_bind (wpAny_field hos hds (x := vs) rfl (wpAny_pure ?_)))))))
  refine wpAny_bind (HT.slicePart_ ps ?_)
  show wpAny _ _ (if ((-1 : Int) == 0) = true then _ else _) _ _ s
  rw [if_neg (by decide)]
  refine wpAny_bind (HT.slicePart_ pl (wpAny_bind (HT.slicePart_ pu (wpAny_bind (wpAny_pure ?_)))))
  show wpAny _ _ (match Builtin.Slice.sliceAdjust none none (-1) (items.size : Int) with | (lo, hi) => pure (lo, (-1 : Int), Builtin.Slice.slicePlaces lo hi (-1))) _ _ s
  rw [hadj]
  show wpAny _ _ (pure ((items.size : Int) - 1, (-1 : Int), Builtin.Slice.slicePlaces ((items.size : Int) - 1) (-1) (-1))) _ _ s
  rw [hpl]
  refine wpAny_pure ?_
  have hno : ¬ ((((items.size : Int) - 1) == 0 && (-1 : Int) == 1 && items.size == items.size) = true) := by
    intro q
    rw [Bool.and_eq_true, Bool.and_eq_true] at q
    exact absurd q.1.2 (by decide)
  show wpAny _ _ (if (((items.size : Int) - 1) == 0 && (-1 : Int) == 1 && items.size == items.size) = true then _ else _) _ _ s
  rw [if_neg hno, pick_rev _ _ rfl h1]
  first
    | exact wpAny_bind (m := Builtin.Tuple.tupleExact _) (wpAny_newObj_type (wpAny_pure ⟨_, rfl, wpAny_pure h⟩) htake)
    | exact wpAny_bind (m := Builtin.Tuple.tupleExact _) (wpAny_newObj_type (wpAny_bind (wpAny_pure (wpAny_pure ⟨_, rfl, wpAny_pure h⟩))) htake)
    | exact wpAny_bind (wpAny_bind (m := Builtin.Tuple.tupleExact _) (wpAny_newObj_type (wpAny_pure (wpAny_pure ⟨_, rfl, wpAny_pure h⟩)) htake))
    | exact wpAny_bind (wpAny_bind (m := Builtin.Tuple.tupleExact _) (wpAny_newObj_type (wpAny_pure ⟨_, rfl, wpAny_pure h⟩) htake))
end
end PySem.HT
namespace DL
open PySem PySem.Spec PyProof.Rows L2
section
variable {X : Cx}
/-! ### more rules -/
theorem op_or {f : Value → Value → Sem Value} {r r' : R2} (h : OpR X f r) (h' : OpR X f r') : OpR X f (fun x y H Q => r x y H Q ∨ r' x y H Q) := fun pins s σ H x y v u Q I rx ry q => by
  rcases q with q | q
  · exact h pins s σ H x y v u Q I rx ry q
  · exact h' pins s σ H x y v u Q I rx ry q
def rAddA (K : PySem.W.Frag) : R2 := fun x y H Q => rI0 (fun i j => .int (i + j)) x y H Q ∨ (rCatA K x y H Q ∨ rCat x y H Q)
theorem op_addA : OpR X (binaryOp .Add) (rAddA X.K) := op_or op_add (op_or op_catA op_cat)
def rMulA (K : PySem.W.Frag) : R2 := fun x y H Q => rI CMul (fun i j => .int (i * j)) x y H Q ∨ (rI CMulW (fun i j => .int (i * j)) x y H Q ∨ (rRep x y H Q ∨ rRepT K x y H Q))
theorem op_mulA : OpR X (binaryOp .Mult) (rMulA X.K) := op_or op_mul (op_or op_mulW (op_or op_rep op_repT))
def rFdA : R2 := fun x y H Q => rI CDiv (fun i j => .int (i / j)) x y H Q ∨ (rI CDivW (fun i j => .int (i / j)) x y H Q ∨ rI CDivN (fun i j => .int (i.fdiv j)) x y H Q)
theorem op_fdA : OpR X (binaryOp .FloorDiv) rFdA := op_or op_fdiv (op_or op_fdivW op_fdivN)
def rModA : R2 := fun x y H Q => rI (fun _ j => 0 < j) (fun i j => .int (i % j)) x y H Q ∨ rI (fun _ j => j ≠ 0) (fun i j => .int (i.fmod j)) x y H Q
theorem op_modA : OpR X (binaryOp .Mod) rModA := op_or op_mod op_modN
def rSlX2 (K : PySem.W.Frag) : V → Option Int → Option Int → Hp → VK → Prop := fun x lo hi H Q => rSlA K x lo hi H Q ∨ rSlL K x lo hi H Q
theorem sl_any : SlR X (rSlX2 X.K) := sl_tupA.or sl_list
/-- t[::-1] of a tuple that is not empty -/
def tRevT (K : PySem.W.Frag) (te : TE) : TE := fun σ H Q => te σ H fun x H1 => ∃ a xs, x = .ref a ∧ SqT K H1 a xs ∧ xs ≠ [] ∧ ∀ p, H1 p = none → Q (.ref p) (upd H1 p (.tup xs.reverse))
theorem pe_revT {e : Expr} {te : TE} {k : Nat} {p1 p2 p3 pos : Pos} (he : PE X e te) : PE X (.Subscript e (.Slice none none (some (.UnaryOp .USub (.Constant (.int 1) k p1) p2)) p3) pos) (tRevT X.K te) := by
  refine ⟨fun pins s σ H Q I h => ?_⟩
  refine Subscript_ (thn (he.run pins s σ H _ I h) fun v s1 ⟨x, H1, I1, r1, q1⟩ => ?_)
  obtain ⟨a, xs, ex, hx, hne, q⟩ := q1
  subst ex
  cases r1
  have hst : PO X (some (.UnaryOp .USub (.Constant (.int 1) k p1) p2)) (tPart (tUn (rU fun i => .int (-i)) (tC (.int 1)))) := po_some (pe_un un_neg pe_int)
  refine wpAny_Slice (thn (po_none.run pins s1 σ H1 (fun o H2 => o = none ∧ H2 = H1) I1 ⟨rfl, rfl⟩) fun vl s2 ⟨l, H2, I2, pl, el, e2⟩ => ?_)
  subst el e2
  refine thn (po_none.run pins s2 σ H2 (fun o H3 => o = none ∧ H3 = H2) I2 ⟨rfl, rfl⟩) fun vu s3 ⟨u, H3, I3, pu, eu, e3⟩ => ?_
  subst eu e3
  refine thn (hst.run pins s3 σ H3 (fun o H4 => o = some (-1) ∧ H4 = H3) I3 ⟨1, rfl, -1, rfl, rfl, rfl⟩) fun vs s4 ⟨o, H4, I4, ps, eo, e4⟩ => ?_
  subst eo e4
  have I5 : Inv X pins σ H4 { s4 with heap := s4.heap.push { cls := .type "slice", data := .fields #[vl, vu, vs] } } := I4.kept (t' := s4.toks) fun b ob q => Heap.get?_push_of_some _ q
  obtain ⟨its, r, ht, hz⟩ := I5.tuple hx
  have hlen := r.length
  have h1 : 1 ≤ its.toArray.size := by
    rw [List.size_toArray, ← hlen]
    cases xs with
    | nil => exact absurd rfl hne
    | cons a b => exact Nat.succ_le_succ (Nat.zero_le _)
  show wpAny (model X.prog X.w) X.A (subscriptTail e (.Slice none none (some (.UnaryOp .USub (.Constant (.int 1) k p1) p2)) p3) (.ref a) (.ref s4.heap.objs.size)) (EP X pins σ Q) X.xe { s4 with heap := s4.heap.push { cls := .type "slice", data := .fields #[vl, vu, vs] } }
  refine tail_any (ops := [.ref a, .ref s4.heap.objs.size]) ht.typeIs (PyProof.Rows.slot_tuple_getitem.lookup) ?_ (by with_unfolding_all rfl)
  refine PySem.HT.getItem_tuple_rev ht (Heap.IsSliceOf.new _ vl vu vs) pl pu ps h1 ?_ (by rw [List.size_toArray]; omega)
  refine ⟨.ref _, _, I5.laid (t' := s4.toks) (o := .tup xs.reverse) (fun b ob q => Heap.get?_push_of_some _ q) (Nat.le_refl _) ?_, rfl, q _ (I5.hok.fresh (Nat.le_refl _))⟩
  exact ⟨by rw [List.length_reverse]; exact hz, _, r.reverse, IsTup.new _ _⟩
/-! f(k = v, ..), all parameters by name, in their order -/
def gK (us ws : List Value) : List Value := match us with
  | [] => ws
  | _ => []
def gKV (vs zs : List V) : List V := match vs with
  | [] => zs
  | _ => []
def tCallK0 (sp : Sp) (E : XK) (tk : TA) : TE := fun σ H Q => tk σ H fun zs H1 => sp zs H1 Q E
variable {x : Str} {p pos : Pos} {k : Nat} {f : Addr} {fd : FuncData} {ps ks : List Str} {sp : Sp} {CX : CXT} {E : XK} {tk : TA} {kws : List Keyword}
theorem pe_callK0 (F : FnOk X.prog X.w X.K X.mg X.base CX k f fd ps sp) (hr : Room k X.A) (hg : Gl X x) (hm : X.mg x = some (.ref f)) (hk : PySem.W.keepIn X.K (.ref f) = true) (hb : KBinds X.K fd ps ks gK gKV) (hx : Passes CX X E)
    (hkw : PK X kws tk) (hall : (backToKw pos (keywordEach kws X.env)).all (·.1.isSome) = true := by rfl) (hks : (backToKw pos (keywordEach kws X.env)).filterMap (·.1) = ks := by rfl)
    (hdb : (x == ("__debug__" : Str)) = false := by decide)
    (hpl : ((backTo pos (starEach [] X.env)).any (·.1) || (backToKw pos (keywordEach kws X.env)).any (·.1.isNone)) = false := by rfl) :
    PE X (.Call (.Name x p) [] kws pos) (tCallK0 sp E tk) := by
  refine ⟨fun pins s σ H Q I h => ?_⟩
  refine wpAny_Call_Name_kw (ld_glob I hg hm ?_ hdb)
  refine PySem.W.callWith_KW0 (h₀ := X.base) I.ok.mod.kin hk hall ?_ hpl
  refine thn (hkw.run pos pins s σ H _ I h) fun ws s2 ⟨zs, H2, I2, rz, q2⟩ => ⟨I2.kIn, ?_⟩
  rw [hks]
  exact run_fnk (us := []) (vs := []) F hr hb hx I2 .nil rz q2
end
theorem Fun.kbinds {K : PySem.W.Frag} {x qual : Str} {st : Stmt} {f : Addr} {fd : FuncData} {ps : List Str} (F : Fun K x qual st f fd) (hne : ps ≠ [])
    (h : ∀ (kV doc pm : Value) (an : Option Addr) (cdv ct : Value) (ws : List Value), ws.length = ps.length → bindArgs (PySem.W.fnOf x qual (defArgs st) (defBody st) (defScope st) .none kV doc pm an cdv ct) ⟨[], ps.zip ws⟩ = pure (ps.zip ws)) : KBinds K fd ps ps gK gKV := by
  obtain ⟨oc, od, kV, doc, pm, an, cdv, ct, osl, rfl, lk, hcd⟩ := F.ex
  refine ⟨fun s us ws _ hl => ?_, fun {vs us zs ws} r rz => ?_⟩
  · cases us with
    | nil => exact BindsTo.of_eq (h kV doc pm an cdv ct ws hl)
    | cons a b =>
      exfalso
      cases ps with
      | nil => exact hne rfl
      | cons c d => cases hl
  · cases r with
    | nil => exact rz
    | cons a b => exact .nil

section
variable {K : PySem.W.Frag} {B : Bs} {G : List Hp} {L : List Addr} {Γ : List Sl} {H H' H2 : Hp} {σ : L2.St}
variable {te ta tb tc tl : TE} {tt tu : TT} {tr : TA} {k : PyData → Prop} {x y : PyData} {P P' : PD} {t u : TS}
theorem ev_callK0 {pre : List PyData → Prop} {post : List PyData → PyData → Prop} {E0 : XK} (h : EvA K B G L Γ tr fun ds => pre ds ∧ ∀ d, post ds d → k d) : EvP K B G L Γ (tCallK0 (SpP K pre post) E0 tr) k := fun σ H Q E q =>
  h σ H _ E fun vs ds H1 g1 dn ⟨hp, hk⟩ => by
    refine ⟨L ++ B.M, ds, g1.env.alive, dn, hp, fun v d H' hs dv hpost => ?_⟩
    have g2 := Go.step g1.env (H' := H') (fun a o _ e => hs a o e) fun w hw => by
      obtain ⟨n, b, c, e, q⟩ := g1.env.ws w hw
      exact ⟨n, b, c, hs _ _ e, q⟩
    exact q v d H' (g1.trans g2) dv (hk d hpost)
theorem ROk.l {r r' : R2} (h : ROk K B G L Γ r x y k) : ROk K B G L Γ (fun x y H Q => r x y H Q ∨ r' x y H Q) x y k := fun σ H Q v u E d1 d2 q => .inl (h σ H Q v u E d1 d2 q)
theorem ROk.r {r r' : R2} (h : ROk K B G L Γ r' x y k) : ROk K B G L Γ (fun x y H Q => r x y H Q ∨ r' x y H Q) x y k := fun σ H Q v u E d1 d2 q => .inr (h σ H Q v u E d1 d2 q)
theorem ro_add {i j : Int} (hk : k (.int (i + j))) : ROk K B G L Γ (rAddA K) (.int i) (.int j) k := ROk.l (rok_i0 hk)
theorem ro_catT {ds es : List PyData} (hl : ds.length + es.length ≤ 1000000) (hk : k (.tuple (ds ++ es))) : ROk K B G L Γ (rAddA K) (.tuple ds) (.tuple es) k := ROk.r (ROk.l (rok_catT hl hk))
theorem ro_catL {ds es : List PyData} (hl : ds.length + es.length ≤ 1000000) (hk : k (.list (ds ++ es))) : ROk K B G L Γ (rAddA K) (.list ds) (.list es) k := ROk.r (ROk.r (rok_catL hl hk))
theorem ro_mul {i j : Int} (hc : CMul i j) (hk : k (.int (i * j))) : ROk K B G L Γ (rMulA K) (.int i) (.int j) k := ROk.l (rok_i hc hk)
theorem ro_mulW {i j : Int} (hc : CMulW i j) (hk : k (.int (i * j))) : ROk K B G L Γ (rMulA K) (.int i) (.int j) k := ROk.r (ROk.l (rok_i hc hk))
theorem ro_repL {ds : List PyData} {n : Int} (h0 : 0 ≤ n) (h1 : n ≤ 100000) (hl : ds.length * n.toNat ≤ 1000000) (hk : k (.list (List.replicate n.toNat ds).flatten)) : ROk K B G L Γ (rMulA K) (.list ds) (.int n) k := ROk.r (ROk.r (ROk.l (rok_repL h0 h1 hl hk)))
theorem ro_repT {ds : List PyData} {n : Int} (hne : ds ≠ []) (h0 : 2 ≤ n) (h1 : n ≤ 1000) (hl : ds.length ≤ 1000) (hk : k (.tuple (List.replicate n.toNat ds).flatten)) : ROk K B G L Γ (rMulA K) (.tuple ds) (.int n) k := ROk.r (ROk.r (ROk.r (rok_repT hne h0 h1 hl hk)))
theorem ro_fd {i j : Int} (hc : 0 < j ∧ j < 1073741824) (hk : k (.int (i / j))) : ROk K B G L Γ rFdA (.int i) (.int j) k := ROk.l (rok_i hc hk)
theorem ro_fdW {i j : Int} (hc : CDivW i j) (hk : k (.int (i / j))) : ROk K B G L Γ rFdA (.int i) (.int j) k := ROk.r (ROk.l (rok_i hc hk))
theorem ro_mod {i j : Int} (hc : 0 < j) (hk : k (.int (i % j))) : ROk K B G L Γ rModA (.int i) (.int j) k := ROk.l (rok_i (C := fun _ j => 0 < j) hc hk)
theorem so_tup {ds : List PyData} {lo hi : Option Int} (hk : k (.tuple (cutD ds lo hi))) : SOk K B G L Γ (rSlX2 K) (.tuple ds) lo hi k := fun σ H Q v E d1 q => .inl (sok_tup hk σ H Q v E d1 q)
theorem so_lst {ds : List PyData} {lo hi : Option Int} (hk : k (.list (cutD ds lo hi))) : SOk K B G L Γ (rSlX2 K) (.list ds) lo hi k := fun σ H Q v E d1 q => .inr (sok_lst hk σ H Q v E d1 q)
theorem ev_revT (h : EvP K B G L Γ te fun d => ∃ ds, d = .tuple ds ∧ ds ≠ [] ∧ k (.tuple ds.reverse)) : EvP K B G L Γ (tRevT K te) k := fun σ H Q E q =>
  h σ H _ E fun v d H1 g1 dn ⟨ds, e, hne, hk⟩ => by
    subst e
    cases dn with
    | @tup a xs _ e1 h2 =>
      refine ⟨a, xs, rfl, Same.sqt (hid_sub _ _) e1, fun z => hne ?_, fun p hp => ?_⟩
      · subst z
        exact List.eq_nil_of_length_eq_zero h2.length.symm
      · have g2 := Go.new (o := .tup xs.reverse) g1.env hp
        exact q _ _ _ (g1.trans g2) (.tup (.inl (.inl (hid_new (g1.env.newM hp)))) ((h2.mono g2.sm).rev)) hk
/-- divmod, its pair unpacked into a place of the well and a name: not general -/
theorem ev_dict (hk : k (.dict [])) : EvP K B G L Γ (fun (_ : L2.St) H Q => ∀ d, H d = none → Q (.ref d) (upd H d (.dK []))) k := fun σ H Q E q d hd => by
  have g := Go.new (o := .dK []) E hd
  exact q _ _ _ g (.emp (hid_new (E.newM hd))) hk
/-- a test by None -/
def isNoneD : PyData → Bool
  | .none => true
  | _ => false
theorem ev_isN (h : EvP K B G L Γ te fun d => k (.bool (isNoneD d))) : EvP K B G L Γ (tIsN te) k := fun σ H Q E q =>
  h σ H _ E fun v d H1 g1 dn hk => by
    have e : decide (v = V.non) = isNoneD d := by cases dn <;> simp [isNoneD]
    show Q (.bl (decide (v = V.non))) H1
    rw [e]
    exact q _ _ H1 g1 (.bl _) hk
/-- the truth of data -/
def truD : PyData → Bool
  | .none => false
  | .bool b => b
  | .int i => i != 0
  | .str s => s.length != 0
  | .list ds => !ds.isEmpty
  | .tuple ds => !ds.isEmpty
  | .dict ds => !ds.isEmpty
end
end DL
namespace DL
open PySem PySem.Spec PyProof.Rows L2
/-! ### names for the built-ins' readings -/
def rAbsQ : List V → Hp → VK → Prop := fun xs H Q => ∃ i, xs = [.int i] ∧ Q (.int (if i < 0 then -i else i)) H
def rIntQ : List V → Hp → VK → Prop := fun xs H Q => (∃ i, xs = [.int i] ∧ Q (.int i) H) ∨ ∃ k, xs = [.bl k] ∧ Q (.int (if k then 1 else 0)) H
def rStrQ : List V → Hp → VK → Prop := fun xs H Q => ∃ i, xs = [.int i] ∧ i.natAbs.log2 < 1920 ∧ Q (.str (toString i)) H
def rListQ (K : PySem.W.Frag) : List V → Hp → VK → Prop := fun xs H Q => ∃ p ys, xs = [.ref p] ∧ (SqL K H p ys ∨ SqT K H p ys) ∧ ∀ l, H l = none → Q (.ref l) (upd H l (.lst ys))
def rTupleQ (K : PySem.W.Frag) : List V → Hp → VK → Prop := fun xs H Q => ∃ p ys, xs = [.ref p] ∧ ((SqL K H p ys ∧ ∀ l, H l = none → Q (.ref l) (upd H l (.tup ys))) ∨ (SqT K H p ys ∧ Q (.ref p) H))
def rDivmodQ : List V → Hp → VK → Prop := fun xs H Q => ∃ i j, xs = [.int i, .int j] ∧ CDivP i j ∧ ∀ p, H p = none → Q (.ref p) (upd H p (.tup [.int (i / j), .int (i % j)]))
def rMax2Q : List V → Hp → VK → Prop := fun xs H Q => ∃ i j, xs = [.int i, .int j] ∧ Q (.int (if j > i then j else i)) H
def rMin2Q : List V → Hp → VK → Prop := fun xs H Q => ∃ i j, xs = [.int i, .int j] ∧ Q (.int (if j < i then j else i)) H
def tTru (K : PySem.W.Frag) (te : TE) : TT := fun σ H Q => te σ H fun x H' => ∃ k, TruV K x H' k ∧ Q k H'
section
variable {K : PySem.W.Frag} {B : Bs} {G : List Hp} {L : List Addr} {Γ : List Sl} {H H' H2 : Hp} {σ : L2.St}
variable {te ta tb tc tl : TE} {tt tu : TT} {tr : TA} {k : PyData → Prop} {x y : PyData} {P P' : PD} {t u : TS}
theorem co_lenT {ds : List PyData} (hk : k (.int ds.length)) : COk K B G L Γ (rLenQ K) [.tuple ds] k := cok_lenT hk
theorem co_lenL {ds : List PyData} (hk : k (.int ds.length)) : COk K B G L Γ (rLenQ K) [.list ds] k := cok_lenL hk
theorem co_abs {i : Int} (hk : k (.int (if i < 0 then -i else i))) : COk K B G L Γ rAbsQ [.int i] k := cok_abs hk
theorem co_int {i : Int} (hk : k (.int i)) : COk K B G L Γ rIntQ [.int i] k := cok_intI hk
theorem co_str {i : Int} (hz : i.natAbs.log2 < 1920) (hk : k (.str (toString i))) : COk K B G L Γ rStrQ [.int i] k := cok_str hz hk
theorem co_tupL {ds : List PyData} (hk : k (.tuple ds)) : COk K B G L Γ (rTupleQ K) [.list ds] k := cok_tupL hk
theorem co_tupT {ds : List PyData} (hk : k (.tuple ds)) : COk K B G L Γ (rTupleQ K) [.tuple ds] k := cok_tupT hk
theorem ev_tupOwn {i : Nat} {l : Addr} {xs : List PyData} (hi : Γ[i]? = some (.own l xs)) (hk : k (.tuple xs)) : EvP K B G L Γ (tCB (rTupleQ K) (tCons (tVar i) tNil)) k := ev_tupO hi hk
theorem ev_lenOwn {i : Nat} {l : Addr} {xs : List PyData} (hi : Γ[i]? = some (.own l xs)) (hk : k (.int xs.length)) : EvP K B G L Γ (tCB (rLenQ K) (tCons (tVar i) tNil)) k := ev_lenO hi hk
theorem ev_ixOwn {i : Nat} {l : Addr} {xs : List PyData} (hi : Γ[i]? = some (.own l xs)) (h : EvP K B G L Γ tb fun n => ∃ j d, n = .int j ∧ atI xs j = some d ∧ k d) : EvP K B G L Γ (tOp (rIx K) (tVar i) tb) k := fun σ H Q E q => by
  obtain ⟨v, e, h2⟩ := ev_ixO hi h σ H Q E q
  refine ⟨v, e, ?_⟩
  obtain ⟨e', ws, hl, _⟩ := E.getO hi
  exact h σ H _ E fun u n H2 g2 dn2 ⟨j, d, en, ed, hk⟩ => by
    subst en
    obtain ⟨e3, ws, hl2, dn3⟩ := g2.env.getO hi
    obtain ⟨w, e2, dn4⟩ := dna_at dn3 ed
    rw [e] at e3
    have : v = .ref l := Option.some.inj (Option.some.inj e3)
    exact .inl ⟨l, ws, j, w, this, dn_int dn2, .inl (.inl hl2), e2, q _ _ H2 g2 dn4 hk⟩
theorem en_listQ {kl : List PyData → Prop} (h : EvP K B G L Γ te fun d => ∃ ds, (d = .tuple ds ∨ d = .list ds) ∧ kl ds) : EvN K B G L Γ (tCB (rListQ K) (tCons te tNil)) kl := en_list h
/-- an item of the well -/
theorem ev_well {i : Nat} {w : Addr} (hi : Γ[i]? = some (.well w)) (h : EvP K B G L Γ tb fun n => ∃ j, n = .int j ∧ (j = 0 ∨ j = 1 ∨ j = 2) ∧ ∀ n : Int, (j = 0 → 0 ≤ n) → (j = 1 → 0 ≤ n ∧ n < 1099511627776) → k (.int n)) : EvP K B G L Γ (tOp (rIx K) (tVar i) tb) k := fun σ H Q E q =>
  ⟨_, E.getW hi, h σ H _ E fun u n H2 g2 dn2 ⟨j, en, hj, hk⟩ => by
    subst en
    obtain ⟨a, b, c, e, h0, h1, h2⟩ := g2.env.ws w (g2.env.we i w hi)
    have z : u = .int j := dn_int dn2
    rcases hj with rfl | rfl | rfl
    · exact .inl ⟨w, _, 0, .int a, rfl, z, .inl (.inl e), rfl, q _ _ H2 g2 (.int a) (hk a (fun _ => h0) (by omega))⟩
    · exact .inl ⟨w, _, 1, .int b, rfl, z, .inl (.inl e), rfl, q _ _ H2 g2 (.int b) (hk b (by omega) (fun _ => ⟨h1, h2⟩))⟩
    · exact .inl ⟨w, _, 2, .int c, rfl, z, .inl (.inl e), rfl, q _ _ H2 g2 (.int c) (hk c (by omega) (by omega))⟩⟩
/-- the well changed in one place -/
theorem Env.stir {w : Addr} {vs : List V} (E : Env K B G L H σ Γ) (hw : w ∈ B.Ws) (h : WellAt (upd H w (.lst vs)) w) : Env K B G L (upd H w (.lst vs)) σ Γ := by
  refine (E.step (fun a o wn e => ?_) fun w' hw' => ?_).1
  · rw [upd_ne (fun (z : a = w) => wn (by rw [z]; exact hw))]
    exact e
  · by_cases z : w' = w
    · rw [z]; exact h
    · obtain ⟨n, b, c, e, q⟩ := E.ws w' hw'
      exact ⟨n, b, c, by rw [upd_ne z]; exact e, q⟩
/-- well[j] = e -/
theorem st_setWell {i : Nat} {w : Addr} (hi : Γ[i]? = some (.well w)) (h : EvP K B G L Γ te fun d => EvP K B G L Γ tb fun n => ∃ z j : Int, d = .int z ∧ n = .int j ∧ (j = 0 ∨ j = 1 ∨ j = 2) ∧ (j = 0 → 0 ≤ z) ∧ (j = 1 → 0 ≤ z ∧ z < 1099511627776) ∧ P.nx L Γ) :
    StP K B G L Γ (tAsg te (gSub (tVar i) tb rSetL)) P := fun σ H D E M =>
  h σ H _ E fun v d H1 g1 dn1 h2 => ⟨_, g1.env.getW hi, h2 σ H1 _ g1.env fun u n H2 g2 dn2 ⟨z, j, ed, en, hj, hz0, hz1, hk⟩ => by
    subst ed en
    have ev : v = .int z := dn_int dn1
    have eu : u = .int j := dn_int dn2
    have hw := g2.env.we i w hi
    obtain ⟨a, b, c, e, h0, h1, h2⟩ := g2.env.ws w hw
    rcases hj with rfl | rfl | rfl
    · refine ⟨w, _, 0, 0, rfl, eu, e, rfl, M.nx _ _ _ _ hk (g2.env.stir hw ?_)⟩
      subst ev
      exact ⟨z, b, c, upd_same, hz0 rfl, h1, h2⟩
    · refine ⟨w, _, 1, 1, rfl, eu, e, rfl, M.nx _ _ _ _ hk (g2.env.stir hw ?_)⟩
      subst ev
      exact ⟨a, z, c, upd_same, h0, (hz1 rfl).1, (hz1 rfl).2⟩
    · refine ⟨w, _, 2, 2, rfl, eu, e, rfl, M.nx _ _ _ _ hk (g2.env.stir hw ?_)⟩
      subst ev
      exact ⟨a, b, z, upd_same, h0, h1, h2⟩⟩
/-- well[0], x = divmod(well[0], m) -/
theorem st_dmWell {i n : Nat} {w : Addr} (hi : Γ[i]? = some (.well w)) (h : EvA K B G L Γ tr fun ds => ∃ z m : Int, ds = [.int z, .int m] ∧ 0 ≤ z ∧ 0 < m ∧ m < 1073741824 ∧ P.nx L (Γ.set n (.d (.int (z % m))))) :
    StP K B G L Γ (tAsg (tCB rDivmodQ tr) (gTup K 2 (gCons (gSub (tVar i) (tC (.int 0)) rSetL) (gCons (gName n) gNil)))) P := fun σ H D E M =>
  h σ H _ E fun vs ds H1 g1 dn ⟨z, m, e, hz, hm, hm2, hk⟩ => by
    subst e
    cases dn with
    | cons d1 d2 =>
      cases d2 with
      | cons d2 d3 =>
        cases d3
        cases d1
        cases d2
        refine ⟨z, m, rfl, ⟨hm, PyProof.noPylong_small (by omega)⟩, fun p hp => ?_⟩
        have g2 := Go.new (o := .tup [.int (z / m), .int (z % m)]) g1.env hp
        have hw := g2.env.we i w hi
        obtain ⟨a, b, c, e, h0, h1, h2⟩ := g2.env.ws w hw
        refine ⟨p, _, rfl, .inl (.inl upd_same), rfl, _, _, rfl, ⟨_, g2.env.getW hi, w, _, 0, 0, rfl, rfl, e, rfl, _, _, rfl, rfl, ?_⟩⟩
        refine M.nx _ _ _ _ hk ((g2.env.stir hw ⟨z / m, b, c, upd_same, Int.ediv_nonneg hz (Int.le_of_lt hm), h1, h2⟩).put n (.int _))
/-- a test of data by its truth -/
theorem et_tru {kb : Bool → Prop} (h : EvP K B G L Γ te fun d => (match d with | .str s => s.length ≤ 1000000 | _ => True) ∧ kb (truD d)) : EvT K B G L Γ (tTru K te) kb := fun σ H Q E q =>
  h σ H _ E fun v d H1 g1 dn ⟨hs, hk⟩ => by
    refine ⟨truD d, ?_, q _ H1 g1 hk⟩
    cases dn with
    | non => rfl
    | bl b => rfl
    | int i => rfl
    | str x =>
      refine ⟨sz_ok hs, ?_⟩
      show (x.length != 0) = ((x.length : Int) != 0)
      rcases Nat.eq_zero_or_pos x.length with h | h
      · rw [h]; rfl
      · have a : (x.length != 0) = true := by simp; omega
        have b : ((x.length : Int) != 0) = true := by simp; omega
        rw [a, b]
    | @lst a xs ds e h2 =>
      refine .inl ⟨xs, .inl (.inl (hid_sub _ _ _ _ e)), ?_⟩
      have := h2.length
      cases xs <;> cases ds <;> simp_all [truD]
    | @tup a xs ds e h2 =>
      refine .inr (.inl ⟨xs, Same.sqt (hid_sub _ _) e, ?_⟩)
      have := h2.length
      cases xs <;> cases ds <;> simp_all [truD]
    | emp e => exact .inr (.inr ⟨[], hid_sub _ _ _ _ e, rfl⟩)
/-- a < b < c -/
theorem ev_chain {r r' : R2} (h : EvP K B G L Γ ta fun x => EvP K B G L Γ tb fun y => ROk K B G L Γ r x y fun z => ∃ b, z = .bool b ∧ (b = true → EvP K B G L Γ tc fun w => ROk K B G L Γ r' y w k) ∧ (b = false → k (.bool false))) : EvP K B G L Γ (tChain r r' ta tb tc) k := fun σ H Q E q =>
  h σ H _ E fun v x H1 g1 dn1 h1 => h1 σ H1 _ g1.env fun u y H2 g2 dn2 h2 => h2 σ H2 _ v u g2.env (dn1.mono g2.sm) dn2 fun z d H3 g3 dn3 ⟨b, e, c1, c2⟩ => by
    subst e
    refine ⟨b, dn_bool dn3, ?_⟩
    cases b with
    | true => exact iteT (c1 rfl σ H3 _ g3.env fun w' d4 H4 g4 dn4 h4 => h4 σ H4 Q u w' g4.env ((dn2.mono g3.sm).mono g4.sm) dn4 fun z d H5 g5 dn5 hk => q z d H5 ((((g1.trans g2).trans g3).trans g4).trans g5) dn5 hk)
    | false => exact iteF (q _ _ H3 ((g1.trans g2).trans g3) (.bl false) (c2 rfl))
theorem ev_dictD (hk : k (.dict [])) : EvP K B G L Γ tDNewK k := ev_dict hk
end
end DL
namespace DL
open PySem PySem.Spec PyProof.Rows L2
theorem len_P {K : PySem.W.Frag} {pre : List PyData → Prop} {post : List PyData → PyData → Prop} {vs : List V} {H : Hp} {Q : VK} {E : XK} (h : SpP K pre post vs H Q E) {n : Nat} (hn : ∀ ds, pre ds → ds.length = n) : vs.length = n := by
  obtain ⟨M, ds, _, dn, hp, _⟩ := h
  rw [dn.length, hn ds hp]
theorem len_W {K : PySem.W.Frag} {pre : List PyData → Prop} {post : List PyData → PyData → Prop} {vs : List V} {H : Hp} {Q : VK} {E : XK} (h : SpW K pre post vs H Q E) {n : Nat} (hn : ∀ ds, pre ds → ds.length = n) : vs.length = n + 1 := by
  obtain ⟨M, w, vs', ds, rfl, _, _, _, dn, hp, _⟩ := h
  rw [List.length_cons, dn.length, hn ds hp]
theorem wipe1 (i : Nat) : ∀ (σ : L2.St) (x : V), L2.wipe ((L2.wipe σ [i]).set i (some x)) [i] = L2.wipe σ [i] := fun σ x => by
  show (((σ.set i none).set i (some x)).set i none) = σ.set i none
  rw [List.set_set, List.set_set]
end DL
namespace DL
open PySem PySem.Spec PyProof.Rows L2
def isIntT : PyData → Bool
  | .int _ => true
  | .bool _ => true
  | _ => false
def isBoolT : PyData → Bool
  | .bool _ => true
  | _ => false
def isTupT : PyData → Bool
  | .tuple _ => true
  | _ => false
theorem kit_int (d : PyData) : kitB (tyD d) "int" = some (isIntT d) := by
  cases d <;> (simp only [tyD, isIntT]; decide +kernel)
theorem kit_bool (d : PyData) : kitB (tyD d) "bool" = some (isBoolT d) := by
  cases d <;> (simp only [tyD, isBoolT]; decide +kernel)
theorem kit_tup (d : PyData) : kitB (tyD d) "tuple" = some (isTupT d) := by
  cases d <;> (simp only [tyD, isTupT]; decide +kernel)
section
variable {K : PySem.W.Frag} {B : Bs} {G : List Hp} {L : List Addr} {Γ : List Sl} {te : TE} {k : PyData → Prop}
theorem ev_isiInt (h : EvP K B G L Γ te fun d => k (.bool (isIntT d))) : EvP K B G L Γ (tCB (rIsi K) (tCons te (tCons (tC (.ty "int")) tNil))) k := ev_isi (h.mono fun d hk => ⟨_, kit_int d, hk⟩)
theorem ev_isiBool (h : EvP K B G L Γ te fun d => k (.bool (isBoolT d))) : EvP K B G L Γ (tCB (rIsi K) (tCons te (tCons (tC (.ty "bool")) tNil))) k := ev_isi (h.mono fun d hk => ⟨_, kit_bool d, hk⟩)
theorem ev_isiTup (h : EvP K B G L Γ te fun d => k (.bool (isTupT d))) : EvP K B G L Γ (tCB (rIsi K) (tCons te (tCons (tC (.ty "tuple")) tNil))) k := ev_isi (h.mono fun d hk => ⟨_, kit_tup d, hk⟩)
theorem isTupT_true {d : PyData} (h : isTupT d = true) : ∃ xs, d = .tuple xs := by
  cases d <;> simp [isTupT] at h
  exact ⟨_, rfl⟩
end
end DL
namespace DL
open PySem PySem.Spec PyProof.Rows L2
section
variable {K : PySem.W.Frag} {B : Bs} {G : List Hp} {L : List Addr} {Γ : List Sl} {te : TE} {P : PD}
/-- a, b, c = e, [], [] -/
theorem st_par3L {i j l : Nat} (h : EvP K B G L Γ te fun d => ∀ l1 l2 : Addr, l1 ≠ l2 → P.nx (l2 :: l1 :: L) (((Γ.set i (.d d)).set j (.own l1 [])).set l (.own l2 []))) : StP K B G L Γ (tPar3 i j l (tCons te (tCons (tLst tNil) (tCons (tLst tNil) tNil)))) P := fun σ H D E M =>
  h σ H _ E fun v d H1 g1 dn hk => ⟨Nat.zero_le _, fun p1 hp1 => ⟨Nat.zero_le _, fun p2 hp2 => ⟨v, .ref p1, .ref p2, rfl, by
    have hne : p1 ≠ p2 := ne_of_none (upd_same (o := .lst []) (H := H1)) hp2
    have E1 := g1.env.put i dn
    have ga := Go.new (o := .lst []) E1 hp1
    have E2 := Env.take E1 ga hp1 upd_same j .nil
    have gb := Go.new (o := .lst []) E2 hp2
    have E3 := Env.take E2 gb hp2 upd_same l .nil
    exact M.nx _ _ _ _ (hk p1 p2 hne) E3⟩⟩⟩
end
end DL

namespace DL
open PySem
theorem sz_and {n : Nat} {p : Prop} (h : n ≤ 1000000) (hp : p) : n ≤ 1000000 ∧ p := ⟨h, hp⟩
theorem log2_small {i : Int} (h0 : 0 ≤ i) (h : i < 1000000) : i.natAbs.log2 < 1920 := Nat.lt_of_lt_of_le (Flt.log2_lt_of (k := 20) (by decide) (Nat.lt_of_lt_of_le (show i.natAbs < 1000000 by omega) (by decide))) (by decide)
end DL

namespace DL
open PySem L2
section
variable {K : PySem.W.Frag} {B : Bs} {G : List Hp} {L : List Addr} {Γ : List Sl} {k : PyData → Prop}
theorem ro_mulL {i j : Int} (h0 : -18446744073709551616 < i) (h1 : i < 18446744073709551616) (hk : k (.int (i * j))) : ROk K B G L Γ (rMulA K) (.int i) (.int j) k := ro_mul (Or.inl ⟨h0, h1⟩) hk
end
end DL
/-! enumerate over a tuple -/
namespace PySem
open Sem (wp)
open AutoSeq1 (wpAny_loadPart')
namespace EnT
theorem draws_tuple {prog : Program} {w : World} {A : Around} (hh : A.handled = none) (it t : Addr) (hne : t ≠ it) (items : Array Value) :
    Draws prog w A it [it, t] items.size (fun i v => items[i]? = some v) (fun i h => h.IsTupleIter it t i ∧ h.IsTuple t items) where
  live := fun _ _ st => let ⟨o, ho, _⟩ := st.1; ⟨o, ho⟩
  frame := fun _ _ _ st hk => ⟨st.1.at fun o e => hk it (by simp) o e, let ⟨o, ho, r⟩ := st.2; ⟨o, hk t (by simp) o ho, r⟩⟩
  item := fun i s Q E hi st hQ => by
    refine wpAny_nextOf_tuple_item st.1 st.2 (x := items[i]) (by simp [hi]) fun h' hit' hs' => ?_
    exact hQ _ h' s.toks (by simp [hi]) ⟨hit', let ⟨o, ho, r⟩ := st.2; ⟨o, hs'.extBut t o hne ho, r⟩⟩ hs'
  done := fun s Q E st hE => wpAny_nextOf_tuple_end hh st.1 st.2 (by simp) hE
theorem meets_new (l : Addr) (items : Array Value) :
    Meets (Builtin.«enumerate.__new__» ⟨[.type "enumerate", .ref l], []⟩) (fun _ R s => s.heap.IsTuple l items ∧
      R (.ok (.ret (.ref (s.heap.push { cls := .type "tuple_iterator", data := .fields #[.ref l, .int 0 0] }).objs.size)))
        { s with heap := (s.heap.push { cls := .type "tuple_iterator", data := .fields #[.ref l, .int 0 0] }).push { cls := .type "enumerate", data := .fields #[.none, .bool false, .ref s.heap.objs.size, rawInt 0, .none, .none] } }) :=
  .of_wp fun prog w A R s h => by
    obtain ⟨hp, g, d, tk, os⟩ := s; obtain ⟨hL, h⟩ := h
    have hsub := sub_enumerate
    wp_walk
    refine wpAny_stack_any fun st => wpAny_pure ?_
    split
    · rename_i c _ _ _ _ _
      cases (c == Value.type "enumerate")
      · wp_walk using wpAny_pyIter_tuple hL
        exact ⟨_, rfl, h⟩
      · wp_walk using wpAny_pyIter_tuple hL
        exact ⟨_, rfl, h⟩
    · wp_walk using wpAny_pyIter_tuple hL
      exact ⟨_, rfl, h⟩
section
variable {prog : Program} {w : World} {A : Around} {E : Value → Shared → Prop} {s : Shared}
theorem call_enum {l : Addr} {items : Array Value} {Q : Value → Shared → Prop} (hL : s.heap.IsTuple l items)
    (h : ∀ h', IsEnum h' (s.heap.objs.size + 1) s.heap.objs.size 0 .none → h'.IsTupleIter s.heap.objs.size l 0 → h'.objs.size = s.heap.objs.size + 2 →
      (∀ b o, s.heap.get? b = some o → h'.get? b = some o) → Q (.ref (s.heap.objs.size + 1)) { s with heap := h' }) :
    wpAny (model prog w) A (call (.type "enumerate") [.ref l]) Q E s := by
  refine callType_new F.called_enumerate (by decide) (F.typeCall_enumerate_1 _) (F.newCall_enumerate_1 _) (fun obj => F.args_object_init_2 obj _) F.entry_enumerate_new
    (meets_new l items) ⟨hL, ?_⟩
  have hz : (s.heap.push { cls := .type "tuple_iterator", data := .fields #[.ref l, .int 0 0] }).objs.size = s.heap.objs.size + 1 := Heap.size_push ..
  show _ ∧ _
  rw [hz]
  have he : IsEnum ((s.heap.push { cls := .type "tuple_iterator", data := .fields #[.ref l, .int 0 0] }).push
      { cls := .type "enumerate", data := .fields #[.none, .bool false, .ref s.heap.objs.size, rawInt 0, .none, .none] }) (s.heap.objs.size + 1) s.heap.objs.size 0 .none := by
    have := Heap.get?_push_size (s.heap.push { cls := .type "tuple_iterator", data := .fields #[.ref l, .int 0 0] })
      (o := { cls := .type "enumerate", data := .fields #[.none, .bool false, .ref s.heap.objs.size, rawInt 0, .none, .none] }) rfl
    rw [hz] at this; exact this
  refine ⟨⟨_, he, rfl⟩, h _ he ⟨_, Heap.get?_push_of_some _ (Heap.get?_push_size _ rfl), rfl, rfl⟩ (by rw [Heap.size_push, hz]) fun b o x => Heap.get?_push_of_some _ (Heap.get?_push_of_some _ x)⟩
theorem next_end {e it l : Addr} {i : Nat} {j : Int} {items : Array Value} {old : Value} {Q : Option Value → Shared → Prop} (hh : A.handled = none)
    (he : IsEnum s.heap e it j old) (hit : s.heap.IsTupleIter it l i) (hl : s.heap.IsTuple l items) (hx : items[i]? = none)
    (hQ : ∀ h', Heap.ExtBut it s.heap h' → Q none { s with heap := h' }) : wpAny (model prog w) A (pyNext (.ref e)) Q E s := by
  have hT : s.TypeIs (.ref e) "enumerate" := ⟨_, he, rfl⟩
  unfold pyNext
  refine wpAny_bind (wpAny_attempt (wpAny_callSpecial?_slot (name := Str.ofString "__next__") hT F.slot_enumerate_next
    (wpAny_call_entry F.slot_enumerate_next hT F.entry_enumerate_next ?_ (F.args_enumerate_next_1 _))))
  show wpAny _ _ (field (.ref e) 2 >>= _) _ _ _
  refine wpAny_bind (wpAny_field he rfl (x := .ref it) rfl ?_)
  refine wpAny_bind (wpAny_nextOf_tuple_end hh hit hl hx fun h' x he' hx' => ?_)
  obtain ⟨o, ho, hc⟩ := hx'
  refine wpAny_bind (wpAny_isInstance (T := "StopIteration") (b := true) ⟨o, ho, hc⟩ isSubtype_stop ?_)
  exact wpAny_pure (hQ _ he')
end
end EnT
end PySem
namespace DL
open PySem PySem.Spec PyProof.Rows L2
/-- the tuple at a, each item in a new pair with its place -/
def IteT (K : PySem.W.Frag) (a : Addr) : It :=
  ⟨fun i H => ∃ (xs : List V) (x : V), SqT K H a xs ∧ xs[i]? = some x, fun i H v H' => ∃ T x, v = .ref T ∧ H T = none ∧ H' = upd H T (.tup [.int (i : Nat), x]) ∧ ∀ xs, SqT K H a xs → xs[i]? = some x, fun i H => ∃ xs : List V, SqT K H a xs ∧ xs.length ≤ i⟩
theorem turn_enumT {P : Program} {w : World} {K : PySem.W.Frag} {elts : List Expr} {kk : Nat} {tpos : Pos} (a e it : Addr) (ha : a ≠ it) (hae : a ≠ e) :
    Turn P w K (.Tuple elts kk tpos) (IteT K a) [e, it] e (fun i h => (∃ old, IsEnum h e it ((i : Nat) : Int) old) ∧ h.IsTupleIter it a i ∧ e ≠ it) where
  mem := by simp
  obj := fun i h st b hb => by
    obtain ⟨⟨old, he⟩, ⟨o, ho, hc, hd⟩, _⟩ := st
    have e' : b = e ∨ b = it := by simpa using hb
    rcases e' with z | z
    · rw [z]; exact ⟨_, he, fun v q => nomatch q⟩
    · rw [z]; exact ⟨o, ho, fun v q => by rw [hd] at q; cases q⟩
  keep := fun i h h' st k => let ⟨⟨old, he⟩, hi, hne⟩ := st; ⟨⟨old, k e (by simp) _ he⟩, hi.at fun o q => k it (by simp) o q, hne⟩
  item := by
    intro X hP hw hK hc i pins s σ H E I hf st hg
    subst hP hw hK
    obtain ⟨⟨old, he⟩, hit, hne⟩ := st
    obtain ⟨xs, x, hq, hx⟩ := hg
    obtain ⟨its, rv, p, hz⟩ := I.tuple hq
    obtain ⟨u, hu, ru⟩ := rv.get hx
    have hel : e < s.heap.objs.size := Heap.lt_size he
    have hil : it < s.heap.objs.size := by obtain ⟨_, q, _⟩ := hit; exact Heap.lt_size q
    have hT0 : s.heap.IsTuple a its.toArray := p
    have D := PySem.EnT.draws_tuple (prog := X.prog) (w := X.w) (A := X.A.in1) (I.ok.hd hc) it a ha its.toArray
    have hi' : i < its.toArray.size := by
      have := (List.getElem?_eq_some_iff.mp hu).1
      rw [List.size_toArray]; exact this
    refine wpAny_pyNext_enum_itemD D he ⟨hit, hT0⟩ hi' hne (by simp [hne, Ne.symm hae]) fun y h' tk hy ho hit' hT hsz hk => ?_
    have ey : y = u := by
      have : (its.toArray)[i]? = some u := by simpa using hu
      rw [this] at hy
      exact (Option.some.inj hy).symm
    subst ey
    refine ⟨_, rfl, wpAny_letOwnedTupleGo_enum (s := { s with heap := h', toks := tk + 1 }) ho fun h'' he' sb => ?_⟩
    have hT2 : h''.get? s.heap.objs.size = some { cls := .type "tuple", data := .seq #[.int i tk, y] } := (sb.2 _ (Nat.ne_of_gt hel)).trans hT
    have new : ObjOk X.prog X.w (upd H s.heap.objs.size (.tup [.int (i : Nat), x])) h'' s.heap.objs.size (.tup [.int (i : Nat), x]) :=
      ⟨by show 2 ≤ sizeLine; decide, [.int i tk, y], .cons ⟨_, rfl⟩ (.cons ru .nil), ⟨_, hT2, rfl, _, rfl⟩⟩
    have I1 : Inv X pins σ (upd H s.heap.objs.size (.tup [.int (i : Nat), x])) { s with heap := h'', toks := tk + 1 } :=
      I.turnedNew (ch := [e, it]) (fun b ob hb q => (sb.2 b (fun z => hb (by simp [z]))).trans (hk b ob (fun z => hb (by simp [z])) (fun z => hb (by simp [z])) q)) hf (Nat.le_refl _) new
    refine ⟨.ref s.heap.objs.size, _, I1, rfl, ⟨_, x, rfl, I.hok.fresh (Nat.le_refl _), rfl, fun ys hy => by rw [I.tuple_inj hy hq]; exact hx⟩, ⟨⟨y, ?_⟩, hit'.1.at fun o q => (sb.2 it (Ne.symm hne)).trans q, hne⟩, fun b hb => ?_⟩
    · have e1 : ((i + 1 : Nat) : Int) = (i : Int) + 1 := by omega
      rw [e1]; exact he'
    · have hb' : b < s.heap.objs.size := by
        have e' : b = e ∨ b = it := by simpa using hb
        rcases e' with z | z
        · rw [z]; exact hel
        · rw [z]; exact hil
      rw [upd_ne (Nat.ne_of_lt hb')]
      exact (hf b hb).1
  done := by
    intro X hP hw hK hc i pins s σ H E I hf st hg
    subst hP hw hK
    obtain ⟨⟨old, he⟩, hit, hne⟩ := st
    obtain ⟨xs, hq, hx⟩ := hg
    obtain ⟨its, rv, p, hz⟩ := I.tuple hq
    obtain ⟨f0, f1, f2, f3, f4, f5⟩ := hf it (by simp)
    have hl := rv.length
    have hT0 : s.heap.IsTuple a its.toArray := p
    exact PySem.EnT.next_end (I.ok.hd hc) he hit hT0 (by simp; omega) fun h' eb => ⟨rfl, I.turned (t' := s.toks) (fun b o hb q => eb b o hb q) f0 f1 f3 f4 f5⟩
  self := fun A i s Q E st h => let ⟨⟨_, he⟩, _⟩ := st; wpAny_pyIter_enum he h

def iEnumT (K : PySem.W.Frag) (ta : TA) : TI := fun σ H R => ta σ H fun vs H1 => ∃ a xs, vs = [.ref a] ∧ SqT K H1 a xs ∧ R (IteT K a) H1
theorem pi_enumT {X : Cx} {e : Expr} {ta : TA} {p pos tpos : Pos} {elts : List Expr} {kk : Nat} (hg : Gl X "enumerate") (hm : X.mg "enumerate" = none) (ha : PA X [e] ta) (hs : starEach [e] X.env = [(false, eval e X.env)] := by rfl) :
    PI X (.Tuple elts kk tpos) (.Call (.Name "enumerate" p) [e] [] pos) (iEnumT X.K ta) := by
  refine ⟨fun pins s σ H R I h => ?_⟩
  refine Call_ (ld_blt I hg hm boot_enumerate (PyProof.Rows.callWith_type1 (thn (ha.run pos pins s σ H _ I h) fun us s1 ⟨vs, H1, I1, r1, q1⟩ => ?_) hs rfl))
  obtain ⟨a, xs, ex, hq, q⟩ := q1
  subst ex
  cases r1 with
  | cons r rr =>
    cases rr
    cases r
    obtain ⟨its, rv, p', hz⟩ := I1.tuple hq
    have hal : a < s1.heap.objs.size := by
      obtain ⟨o, ho, _⟩ := p'
      exact Heap.lt_size ho
    refine PySem.EnT.call_enum (show s1.heap.IsTuple a its.toArray from p') fun h' he hit hsz hk => wpAny_pyIter_enum he ?_
    have I2 : Inv X pins σ H1 { s1 with heap := h' } := I1.kept (t' := s1.toks) hk
    refine ⟨s1.heap.objs.size + 1, [s1.heap.objs.size + 1, s1.heap.objs.size], _, _, H1, rfl, I2, turn_enumT a (s1.heap.objs.size + 1) s1.heap.objs.size (Nat.ne_of_lt hal) (Nat.ne_of_lt (Nat.lt_succ_of_lt hal)), ⟨⟨.none, he⟩, hit, Nat.succ_ne_self _⟩, fun b hb => ?_, q⟩
    have e' : b = s1.heap.objs.size + 1 ∨ b = s1.heap.objs.size := by simpa using hb
    have hle : s1.heap.objs.size ≤ b := by
      rcases e' with z | z
      · rw [z]; exact Nat.le_add_right _ _
      · rw [z]; exact Nat.le_refl _
    exact I1.fpOk hle (I1.hok.fresh hle)
section
variable {K : PySem.W.Frag} {B : Bs} {G : List Hp} {L : List Addr} {Γ : List Sl} {H : Hp} {σ : L2.St} {ta : TA} {P : PD} {t : TS}
theorem for_enumT {a : Addr} {xs : List V} {g : TG} {tb : TS} {D : Ends} {σ : L2.St} {H : Hp} (Pv : Nat → L2.St → Hp → Prop) (h0 : Pv 0 σ H) (hl : ∀ i σ H, i ≤ xs.length → Pv i σ H → SqT K H a xs)
    (hs : ∀ i x T σ H, xs[i]? = some x → Pv i σ H → H T = none → g (.ref T) σ (upd H T (.tup [.int (i : Nat), x])) fun σ2 H2 => tb { D with nx := Pv (i + 1), ct := Pv (i + 1), bk := D.nx } σ2 H2) (hd : ∀ σ H, Pv xs.length σ H → D.nx σ H) :
    ∃ W : Nat → Nat → L2.St → Hp → Prop, (∃ m, W 0 m σ H) ∧ ∀ i m σ H, W i m σ H →
      ((IteT K a).stop i H ∧ D.nx σ H) ∨ ((IteT K a).go i H ∧ ∃ N : L2.St → Hp → Prop, (∀ σ' H', N σ' H' → ∃ m', m' < m ∧ W (i + 1) m' σ' H') ∧ ∀ x H', (IteT K a).yld i H x H' → g x σ H' fun σ2 H2 => tb { D with nx := N, ct := N, bk := D.nx } σ2 H2) := by
  refine ⟨fun i m σ H => m = xs.length - i ∧ i ≤ xs.length ∧ Pv i σ H, ⟨xs.length, by simp, Nat.zero_le _, h0⟩, ?_⟩
  rintro i m σ H ⟨rfl, hi, p⟩
  have q := hl i σ H hi p
  by_cases hlt : i < xs.length
  · refine .inr ⟨⟨xs, xs[i], q, by simp [hlt]⟩, Pv (i + 1), fun σ' H' p' => ⟨xs.length - (i + 1), by omega, rfl, hlt, p'⟩, fun v H' y => ?_⟩
    obtain ⟨T, x, rfl, hT, rfl, hx⟩ := y
    exact hs i x T σ H (hx xs q) p hT
  · have e : i = xs.length := by omega
    subst e
    exact .inl ⟨⟨xs, q, Nat.le_refl _⟩, hd σ H p⟩
/-- for i, x in enumerate(a tuple) -/
theorem st_forE {j1 j2 : Nat} (h : EvA K B G L Γ ta fun vs => ∃ ds, vs = [.tuple ds] ∧ ∃ I : Nat → List Addr → List Sl → Prop, I 0 L Γ ∧
    (∀ i d' L' Γ' g, ds[i]? = some d' → I i L' Γ' → StP K B (g :: G) L' ((Γ'.set j1 (.d (.int (i : Int)))).set j2 (.d d')) t (P.inLoop (I (i + 1)))) ∧ ∀ L' Γ', I ds.length L' Γ' → P.nx L' Γ') :
    StP K B G L Γ (tFor (iEnumT K ta) (gTup K 2 (gCons (gName j1) (gCons (gName j2) gNil))) t) P := fun σ H D E M =>
  h σ H _ E fun vs dd H1 g1 dn ⟨ds, e, I, h0, hs, hd⟩ => by
    subst e
    cases dn with
    | cons dn dn2 =>
      cases dn2
      cases dn with
      | @tup a xs _ e1 h2 =>
        have E1 := g1.env.gpush
        refine ⟨a, xs, rfl, Same.sqt (hid_sub _ _) e1, for_enumT (xs := xs) (fun i σ' H' => ∃ L' Γ', I i L' Γ' ∧ Env K B (hid (L ++ B.M) H1 :: G) L' H' σ' Γ') ⟨L, Γ, h0, E1⟩ (fun i σ' H' _ ⟨L', Γ', _, E'⟩ => ?_) (fun i x T σ' H' hi ⟨L', Γ', hI, E'⟩ hT => ?_) (fun σ' H' ⟨L', Γ', hI, E'⟩ => ?_)⟩
        · exact Same.sqt (hid_sub _ _) (Same.sqt (E'.gh _ (List.mem_cons_self ..)) e1)
        · obtain ⟨d', e', dn'⟩ := h2.getV hi
          have gn := Go.new (o := .tup [.int (i : Nat), x]) E' hT
          have E2 := gn.env
          have dx := dn'.mono (E2.gh _ (List.mem_cons_self ..))
          refine ⟨T, _, rfl, .inl (.inl upd_same), rfl, _, _, rfl, _, _, rfl, rfl, ?_⟩
          refine hs i d' L' Γ' _ e' hI _ _ _ ((E2.put j1 (.int _)).put j2 dx) ⟨fun L2 Γ2 σ2 H2 q E2 => ⟨L2, Γ2, q, E2⟩, M.rt, fun L2 Γ2 σ2 H2 q E2 => M.nx _ _ _ _ q E2.gpop, fun L2 Γ2 σ2 H2 q E2 => ⟨L2, Γ2, q, E2⟩⟩
        · rw [h2.length] at hI
          exact M.nx _ _ _ _ (hd L' Γ' hI) E'.gpop
end
end DL
/-! Defs that show values by repr: where they run, nothing else is being shown. -/
namespace DL
open PySem PySem.Spec PyProof.Rows L2

/-- a def's promise where no container is being shown -/
structure FnG (P : Program) (w : World) (K : PySem.W.Frag) (mg : Str → Option Value) (base : Heap) (k : Nat) (f : Addr) (fd : FuncData) (ps : List Str) (sp : Sp) : Prop where
  len : ∀ vs H Q E, sp vs H Q E → vs.length = ps.length
  go : ∀ (B : Around) (fs : List PySem.Env) (t : Shared) (H : Hp) (gs : Args) (us : List Value) (vs : List V) (Q : VK) (E : XK),
    B.guards = some [] → Room k B → Env0 P w K mg base B fs t H → BindsTo t fd gs (ps.zip us) → Vals vs us → sp vs H Q E →
      codeAny (model P w) B (.call (.ref f) gs) (CR CX0 fs P w H t Q E) t

section
variable {P : Program} {w : World} {K : PySem.W.Frag} {mg : Str → Option Value} {base : Heap}

theorem Fun.okG {x qual : Str} {st : Stmt} {f : Addr} {fd : FuncData} {N ps : List Str} {k : Nat} {sp : Sp} (F : Fun K x qual st f fd) (S : FnScope N ps (defScope st))
    (len : ∀ vs H Q E, sp vs H Q E → vs.length = ps.length)
    (body : ∀ (cd : Value) (B : Around) (fs : List PySem.Env) (t : Shared) (H : Hp) (vs : List V) (Q : VK) (E : XK),
      (B.deeper (envOfC qual (defScope st) t.heap.objs.size f cd)).guards = some [] →
      Room k (B.deeper (envOfC qual (defScope st) t.heap.objs.size f cd)) → sp vs H Q E →
      ∃ r, PSs (cxOf CX0 P w K mg base N qual (defScope st) f cd B fs t H E).nox (defBody st) r ∧ r { nx := fun _ H' => Q .non H', rt := Q } (start N vs) H) :
    FnG P w K mg base (k + 1) f fd ps sp := by
  obtain ⟨oc, od, kV, doc, pm, an, cd, ct, osl, rfl, lk, hcd⟩ := F.ex
  refine ⟨len, ?_⟩
  intro B fs t H gs us vs Q E hg room e0 bt rv hsp
  have hl : vs.length = ps.length := len _ _ _ _ hsp
  have KT : K.In t.heap := e0.mod.kin.keeps fun b o e => (e0.bs b o e).1
  have nl : t.heap.NoLimit := e0.mod.nolimit.keeps fun b o e => (e0.bs b o e).1
  refine codeAny_call_function room.depth (KT _ _ lk) rfl S.co S.gen rfl (PySem.W.codeRec_of KT hcd) (bt _ _ _ _ ?_)
  refine wpAny_newFunctionEnv_cells S.kind (fun ⟨n, v⟩ hy => (S.par n (List.of_mem_zip hy).1).imp id fun q => ⟨q, PySem.W.cellsFrom_some _ _ _ (.inl q)⟩) ?_
  rintro env rfl t1 ic
  refine ⟨nl.keeps ic.toInCall.keep, codeAny_func ?_⟩
  obtain ⟨r, hr, hq⟩ := body cd B fs t H vs Q E hg (room.deeper _) hsp
  have I1 := inv_start (CX := CX0) (E := E) S room.hd e0 hl rv ic
  have go := hr.nox.run [] t1 (start N vs) H _ I1 hq
  refine wpAny_mono go ?_ fun _ _ z => z
  intro fl t2 ends
  rcases fl with _ | _ | _ | u
  · obtain ⟨σ2, H2, J, q⟩ := ends
    exact ⟨.non, H2, J.os, J.bare, J.base, J.hok, rfl, q⟩
  · obtain ⟨_, _, _, z⟩ := ends
    exact z.elim
  · obtain ⟨_, _, _, z⟩ := ends
    exact z.elim
  · obtain ⟨v, σ2, H2, J, ru, q⟩ := ends
    exact ⟨v, H2, J.os, J.bare, J.base, J.hok, ru, q⟩
end

/-! ### calls of such defs -/
section
variable {X : Cx} {k : Nat} {f : Addr} {fd : FuncData} {ps : List Str} {sp : Sp} {E : XK} {x : Str} {p pos : Pos} {e : Expr} {es : List Expr} {t : TA}
theorem pe_callG (F : FnG X.prog X.w X.K X.mg X.base k f fd ps sp) (room : Room k X.A) (gd : X.A.guards = some []) (gx : Gl X x) (mx : X.mg x = some (.ref f)) (kf : PySem.W.keepIn X.K (.ref f) = true) (bd : Binds X.K fd ps [])
    (ea : PA X (e :: es) t) (nd : (x == ("__debug__" : Str)) = false := by decide) (st : starEach (e :: es) X.env = (false, eval e X.env) :: starEach es X.env := by rfl)
    (pl : (backTo pos (starEach es X.env)).any (·.1) = false := by rfl) : PE X (.Call (.Name x p) (e :: es) [] pos) (tCall sp [] E t) := by
  constructor
  intro pins s σ H Q I tq
  refine wpAny_Call_Name_kw (ld_glob I gx mx (PySem.W.callWith_K (h₀ := X.base) I.ok.mod.kin kf (thn (ea.run pos pins s σ H _ I tq) ?_) st pl) nd)
  rintro us s1 ⟨vs, H1, I1, rv, q⟩
  refine ⟨I1.kIn, ?_⟩
  rw [List.append_nil] at q
  have hl : (us ++ []).length = ps.length := by
    rw [List.append_nil, ← rv.length]
    exact F.len _ _ _ _ q
  have bt := bd s1 us I1.kIn hl
  rw [List.append_nil] at bt
  refine wpAny_call (codeAny_mono (F.go X.A X.stack s1 H1 ⟨us, []⟩ us vs Q E gd room I1.env0 bt rv q) ?_)
  intro r s2 hr
  match r, hr with
  | .error _, hr => exact hr.elim
  | .ok (.ret u), hr => exact I1.after hr
  | .ok .next, hr => exact hr.elim
  | .ok .brk, hr => exact hr.elim
  | .ok .cont, hr => exact hr.elim
end

/-! ### repr -/
mutual
/-- how long a text can be -/
def cost : PyData → Nat
  | .list xs => costAll xs + 3
  | .tuple xs => costAll xs + 3
  | .str x => (reprText x).length
  | .dict _ => 0
  | _ => 1921
def costAll : List PyData → Nat
  | [] => 0
  | x :: xs => cost x + 2 + costAll xs
end
mutual
theorem shown_le : ∀ {d : PyData}, d.showable = true → d.hasDict = false → d.shown.length ≤ cost d
  | .none, _, _ => by decide
  | .bool true, _, _ => by decide
  | .bool false, _, _ => by decide
  | .int i, h, _ => by
    simp only [PyData.showable, decide_eq_true_eq] at h
    simp only [PyData.shown, cost]
    exact int_text_len_1921 h
  | .str x, _, _ => by simp only [PyData.shown, cost]; exact Nat.le_refl _
  | .list xs, h, h2 => by
    simp only [PyData.showable] at h
    simp only [PyData.hasDict] at h2
    have := shownAll_le h h2
    simp only [PyData.shown, cost]
    have := listText_len_le (PyData.shownAll xs)
    omega
  | .tuple xs, h, h2 => by
    simp only [PyData.showable] at h
    simp only [PyData.hasDict] at h2
    have := shownAll_le h h2
    simp only [PyData.shown, cost]
    have := tupleText_len_le (PyData.shownAll xs)
    omega
  | .dict _, _, h => by simp [PyData.hasDict] at h
theorem shownAll_le : ∀ {ds : List PyData}, PyData.showableAll ds = true → PyData.hasDictAll ds = false → ((PyData.shownAll ds).map (·.length)).sum + 2 * (PyData.shownAll ds).length ≤ costAll ds
  | [], _, _ => by simp [PyData.shownAll, costAll]
  | d :: ds, h, h2 => by
    simp only [PyData.showableAll, Bool.and_eq_true] at h
    simp only [PyData.hasDictAll, Bool.or_eq_false_iff] at h2
    have a := shown_le h.1 h2.1
    have b := shownAll_le h.2 h2.2
    simp only [PyData.shownAll, costAll, List.map_cons, List.sum_cons, List.length_cons]
    omega
end
mutual
theorem Dn.dp {K : PySem.W.Frag} {H : Hp} : ∀ {v : V} {d : PyData}, Dn K H v d → d.hasDict = false → Dp K H v d
  | _, _, .non, _ => .non
  | _, _, .bl b, _ => .bl b
  | _, _, .int i, _ => .int i
  | _, _, .str x, _ => .str x
  | _, _, .lst h1 h2, h => .lst (.inl (.inl h1)) (DnA.dp h2 (by simpa only [PyData.hasDict] using h))
  | _, _, .tup h1 h2, h => .tup h1 (DnA.dp h2 (by simpa only [PyData.hasDict] using h))
  | _, _, .emp _, h => by simp [PyData.hasDict] at h
theorem DnA.dp {K : PySem.W.Frag} {H : Hp} : ∀ {vs : List V} {ds : List PyData}, DnA K H vs ds → PyData.hasDictAll ds = false → DpAll K H vs ds
  | _, _, .nil, _ => .nil
  | _, _, .cons h1 h2, h => by
    simp only [PyData.hasDictAll, Bool.or_eq_false_iff] at h
    exact .cons (Dn.dp h1 h.1) (DnA.dp h2 h.2)
end
def rReprD (K : PySem.W.Frag) : List V → Hp → VK → Prop := fun xs H Q => ∃ (a : Addr) (d : PyData), xs = [.ref a] ∧ Dp K H (.ref a) d ∧ d.showable = true ∧ d.hasDict = false ∧ d.depth < 64 ∧ cost d ≤ sizeLine ∧ Q (.str d.shown) H
theorem call_reprD {X : Cx} (hu : X.A.units + 64 < cLine) (gd : X.A.guards = some []) : CallR X (.builtin "repr") (rReprD X.K) := by
  rintro pins s σ H xs us Q I r ⟨a, d, rfl, dp, sh, nd, dd, cz, q⟩
  obtain ⟨u, rfl, ru⟩ := vals1 r
  obtain rfl : u = Value.ref a := ru
  obtain ⟨as, rd⟩ := Dp.reads I d _ _ dp rfl
  refine repr_of_reads' rd sh (fun z => by rw [nd] at z; cases z) gd (by omega) (fun b o e => e) (fun h' u tk hk => ?_) (Nat.le_trans (shown_le sh nd) cz)
  exact ⟨.str d.shown, H, I.kept hk, ⟨_, rfl⟩, q⟩
section
variable {K : PySem.W.Frag} {B : Bs} {G : List Hp} {L : List Addr} {Γ : List Sl} {k : PyData → Prop}
def isBox : PyData → Bool
  | .list _ => true
  | .tuple _ => true
  | _ => false
theorem cok_repr {d : PyData} (hb : isBox d = true) (sh : d.showable = true) (nd : d.hasDict = false) (dd : d.depth < 64) (cz : cost d ≤ sizeLine) (hk : k (.str d.shown)) : COk K B G L Γ (rReprD K) [d] k := fun σ H Q vs E d1 q => by
  cases d1 with
  | cons h1 h2 =>
    cases h2
    have dp := Dn.dp (h1.mono (hid_sub _ _)) nd
    have go := q (.str d.shown) _ H (Go.refl E) (.str _) hk
    cases h1 with
    | lst _ _ => exact ⟨_, _, rfl, dp, sh, nd, dd, cz, go⟩
    | tup _ _ => exact ⟨_, _, rfl, dp, sh, nd, dd, cz, go⟩
    | _ => cases hb
end

/-! ### the head -/
/-- the script as the only thing that is tracked, where it is not the module's own -/
def scr (K : PySem.W.Frag) (a : Addr) (o : Obj) (xs : List V) : Hp := fun b => if b = a ∧ (K.lookup a).isNone = true then some (.frz o (.lst xs)) else none
theorem scr_some {K : PySem.W.Frag} {a b : Addr} {o : Obj} {xs : List V} {u : HO} (h : scr K a o xs b = some u) : b = a ∧ K.lookup a = none ∧ u = .frz o (.lst xs) := by
  unfold scr at h
  by_cases c : b = a ∧ (K.lookup a).isNone = true
  · rw [if_pos c] at h
    exact ⟨c.1, by simpa using c.2, (Option.some.inj h).symm⟩
  · rw [if_neg c] at h
    cases h
theorem scr_none {K : PySem.W.Frag} {a b : Addr} {o : Obj} {xs : List V} (h : b = a → K.lookup a ≠ none) : scr K a o xs b = none := by
  cases e : scr K a o xs b with
  | none => rfl
  | some u =>
    obtain ⟨h1, h2, _⟩ := scr_some e
    exact absurd h2 (h h1)

theorem law_callG {P : Program} {w : World} {K : PySem.W.Frag} {mg mb : Str → Option Value} {k : Nat} {f a : Addr} {fd : FuncData} {x : Str} {sp : Sp} {t : Shared} {vs : List Value} {ns : List Int}
    (inK : K.In t.heap) (gl : t.heap.Ns mainGlobals mg) (bl : t.heap.Ns builtinsNs mb) (bb : ∀ x : Str, x ≠ "__name__" → mb x = bootBuiltins x) (nl : t.heap.NoLimit) (ng : t.gens = #[])
    (at_ : t.heap.get? a = some { cls := .type "list", data := .seq vs.toArray }) (ia : IntsAre vs ns) (sz : ns.length ≤ sizeLine) (room : Room k callerA)
    (F : ∀ base : Heap, K.In base → base.Ns mainGlobals mg → FnG P w K mg base k f fd [x] sp) (bind : ∀ (s : Shared) (u : Value), BindsTo s fd ⟨[u], []⟩ [(x, u)])
    (hsp : ∀ H : Hp, SqL K H a (ns.map V.int) → sp [.ref a] H (fun v _ => v = .bl true) fun _ _ _ => False) :
    codeAny (model P w) callerA (.call (.ref f) ⟨[.ref a], []⟩) (fun r s' => r = .ok (.ret (.bool true)) ∧ OldK t.heap s'.heap ∧ s'.os = t.os ∧ AllBare s'.gens) t := by
  have rv : Vals (ns.map V.int) vs := vals_ints ia
  have zs : (ns.map V.int).length ≤ sizeLine := by rw [List.length_map]; exact sz
  let o : Obj := { cls := .type "list", data := .seq vs.toArray }
  let H : Hp := scr K a o (ns.map V.int)
  have onlyA : ∀ {b : Addr} {u : HO}, H b = some u → b = a ∧ K.lookup a = none ∧ u = .frz o (.lst (ns.map V.int)) := fun e => scr_some e
  have ok : HOk P w H t.heap := by
    intro b u e
    obtain ⟨e1, _, e2⟩ := onlyA e
    rw [e1, e2]
    exact ⟨at_, zs, vs, _, rv, at_⟩
  have sq : SqL K H a (ns.map V.int) := by
    cases q : K.lookup a with
    | none => exact .inl (.inr ⟨o, if_pos ⟨rfl, by rw [q]; rfl⟩⟩)
    | some o1 =>
      have e1 := inK a o1 q
      rw [at_] at e1
      cases e1
      exact .inr ⟨_, vs.toArray, _, q, rfl, rfl, rfl, by rw [List.size_toArray, ia.length]; exact sz, by simpa using rv⟩
  have kept : ∀ {b : Addr} {ob : Obj}, t.heap.get? b = some ob → H b = none → (hidT t.heap H).get? b = some ob := fun e n => hidT_get e n
  have nsB : ∀ {b : Addr} {m : Str → Option Value}, t.heap.Ns b m → (hidT t.heap H).Ns b m := by
    rintro b m ⟨ob, es, ep, e, d, r⟩
    refine ⟨ob, es, ep, kept e (scr_none fun z => ?_), d, r⟩
    subst z
    rw [at_] at e
    cases e
    cases d
  have kB : K.In (hidT t.heap H) := fun b ob e => kept (inK b ob e) (scr_none fun z => by
    subst z
    rw [show K.lookup b = some ob from e]
    exact fun z => nomatch z)
  obtain ⟨mc, l1, l2⟩ := nl
  have M : Mod K mg (hidT t.heap H) := ⟨kB, nsB gl, ⟨mb, nsB bl, bb⟩, ⟨mc, nsB l1, l2⟩⟩
  have e0 : Env0 P w K mg (hidT t.heap H) callerA [] t H :=
    ⟨rfl, M, fun b ob e => of_hidT e, Nat.le_of_eq (hidT_size _ _), trivial, fun b hb => absurd (show b ∈ ([] : List Addr) from hb) (by simp), ok, .of_eq ng⟩
  have run := (F _ kB (nsB gl)).go callerA [] t H ⟨[.ref a], []⟩ [.ref a] [.ref a] _ _ rfl room e0 (bind t (.ref a)) (.cons rfl .nil) (hsp H sq)
  refine codeAny_mono run ?_
  intro r s2 hr
  match r, hr with
  | .error _, hr => exact hr.elim
  | .ok .next, hr => exact hr.elim
  | .ok .brk, hr => exact hr.elim
  | .ok .cont, hr => exact hr.elim
  | .ok (.ret u), hr =>
    obtain ⟨v, H2, os, bare, un, ok2, ru, q⟩ := hr
    obtain rfl : v = V.bl true := q
    obtain rfl : u = Value.bool true := ru
    refine ⟨rfl, OldK.of_keep ?_, os, bare⟩
    intro b ob e
    cases c : H b with
    | none => exact un.keep b ob e c (by intro z; exact absurd (show b ∈ ([] : List Addr) from z) (by simp)) (by simp)
    | some u =>
      obtain ⟨e1, _, e2⟩ := onlyA c
      rw [e2] at c
      obtain ⟨g, _⟩ := ok2 b _ (un.frzs b o _ c)
      rw [e1] at e g
      rw [at_] at e
      cases e
      rw [e1]
      exact g
theorem walk_ofG {l : PySem.W.OpenLaw} {n k : Nat} {q : Program} {loose : List Str} {XP : (Str → Option Value) → Heap → Prop} {YP : World → Heap → Prop} {d : DefRec} {K : Params → PySem.W.Frag} {sp : PySem.W.Frag → Sp} {x : Str}
    (hn : l.most = some n) (small : n ≤ sizeLine) (nodf : d.params.defaults = []) (room : Room k callerA) (hY : ∀ (w : World) (h : Heap), YP w h → (K w.params).In h)
    (F : ∀ (w : World) (mg : Str → Option Value) (f : Addr) (h : Heap), (K w.params).In h → h.Ns mainGlobals mg → mg d.name = some (.ref f) →
      ∃ fd : FuncData, (∀ (s : Shared) (u : Value), BindsTo s fd ⟨[u], []⟩ [(x, u)]) ∧ ∀ base : Heap, (K w.params).In base → base.Ns mainGlobals mg → FnG l.prog w (K w.params) mg base k f fd [x] (sp (K w.params)))
    (hsp : ∀ (K : PySem.W.Frag) (H : Hp) (a : Addr) (ns : List Int), ns.length ≤ n → SqL K H a (ns.map V.int) → sp K [.ref a] H (fun v _ => v = .bl true) fun _ _ _ => False) :
    PySem.W.WalkO q loose XP YP l.row.toRowW d [] (fun f vs => PySem.call f vs) := by
  refine Att.attach_call hn nodf ?_
  intro w s₀ t mg mb f o pm cd doc a vs ns G Y ho hd hcd hmg hobj hints hlen ng
  have inK : (K w.params).In t.heap := hY w _ Y
  obtain ⟨fd, bind, FG⟩ := F w mg f _ inK G.T.g hmg
  exact law_callG inK G.T.g G.T.b G.T.builtins G.T.nolimit ng hobj hints (Nat.le_trans hlen small) room FG bind fun H hS => hsp _ H a ns hlen hS
end DL
/-! More words over data: xs[i] op= e, extend, pop, several new lists at once, max, comparing rows. -/
namespace DL
open PySem PySem.Spec PyProof.Rows L2

/-! ### a list's item, by value -/
def rGetL (K : PySem.W.Frag) : V → V → Hp → VK → Prop := fun o i H Q => ∃ (p : Addr) (xs : List V) (n : Nat) (x : V), o = .ref p ∧ i = .int n ∧ SqL K H p xs ∧ xs[n]? = some x ∧ Q x H
theorem get_list {X : Cx} : PGet X (rGetL X.K) := by
  rintro pins s σ H o i ov iv Q I ro ri ⟨p, xs, n, x, rfl, rfl, hp, hx, q⟩
  obtain rfl : ov = .ref p := ro
  obtain ⟨t, rfl⟩ := ri
  obtain ⟨its, r, pl, hz⟩ := I.list hp
  obtain ⟨w, ew, rw'⟩ := r.get hx
  have hn : n < xs.length := (List.getElem?_eq_some_iff.mp hx).1
  have big := line63
  exact wpAny_getItem_list pl.isList (by omega) (by omega) (by simpa using ew) ⟨x, H, I, rw', q⟩
def ipM : TIp := fun x y H Q => ∃ i j : Int, x = .int i ∧ y = .int j ∧ CMulW i j ∧ Q (.int (i * j)) H
theorem ip_mul {X : Cx} : PIp X .Mult ipM := by
  rintro pins s σ H x y v u Q I r1 r2 ⟨i, j, rfl, rfl, c, q⟩
  obtain ⟨t, rfl⟩ := r1
  obtain ⟨t', rfl⟩ := r2
  exact PySem.P.imul_int ⟨.int _, H, I.tok _, ⟨_, rfl⟩, q⟩ c.ok

section
variable {K : PySem.W.Frag} {B : Bs} {G : List Hp} {L : List Addr} {Γ : List Sl} {H H' H2 : Hp} {σ : L2.St}
variable {te ta tb tc : TE} {tt tu : TT} {tr : TA} {k : PyData → Prop} {x y : PyData} {P P' : PD} {t u : TS}
theorem st_augM {i : Nat} {a : Int} (h0 : Γ[i]? = some (.d (.int a))) (h : EvP K B G L Γ te fun d => ∃ b, d = .int b ∧ CMulW a b ∧ P.nx L (Γ.set i (.d (.int (a * b))))) : StP K B G L Γ (tAug i te ipM) P := fun σ H D E M => by
  obtain ⟨v, e, dn⟩ := E.get h0
  refine ⟨v, e, h σ H _ E fun w d H1 g1 dn1 ⟨b, e1, c, hk⟩ => ?_⟩
  subst e1
  exact ⟨a, b, dn_int dn, dn_int dn1, c, M.nx _ _ _ _ hk (g1.env.put i (.int _))⟩
/-- xs[j] += e, xs an own list of numbers -/
theorem st_addOwn {i : Nat} {l : Addr} {xs : List PyData} (hi : Γ[i]? = some (.own l xs)) (h : EvP K B G L Γ tb fun n => ∃ (j : Nat) (a : Int), n = .int (j : Int) ∧ xs[j]? = some (.int a) ∧
      EvP K B G L Γ te fun d => ∃ b : Int, d = .int b ∧ P.nx L (Γ.set i (.own l (xs.set j (.int (a + b)))))) :
    StP K B G L Γ (tAugS (tVar i) tb te (rGetL K) (ipI fun a b => a + b) rSetL) P := fun σ H D E M => by
  obtain ⟨e, vs, hl, dn⟩ := E.getO hi
  refine ⟨_, e, h σ H _ E fun u n H1 g1 dn1 ⟨j, a, en, hj, h2⟩ => ?_⟩
  subst en
  obtain ⟨_, ws, hl1, dn2⟩ := g1.env.getO hi
  obtain ⟨w, ew, dw⟩ := dn2.get hj
  refine ⟨l, ws, j, w, rfl, dn_int dn1, .inl (.inl hl1), ew, h2 σ H1 _ g1.env fun v d H2 g2 dn3 ⟨b, ed, hk⟩ => ?_⟩
  subst ed
  obtain ⟨_, zs, hl2, dn4⟩ := g2.env.getO hi
  refine ⟨a, b, dn_int dw, dn_int dn3, l, zs, (j : Int), j, rfl, dn_int dn1, hl2, ?_, M.nx _ _ _ _ hk (Env.write g2.env hi (dn4.set j (.int _)))⟩
  have : j < xs.length := (List.getElem?_eq_some_iff.mp hj).1
  rw [dn4.length]
  unfold ixN
  rw [if_pos (by omega), if_pos (by omega)]
  simp
/-- xs.extend(ys) -/
theorem st_extend {i : Nat} {l : Addr} {xs : List PyData} (hi : Γ[i]? = some (.own l xs)) (h : EvP K B G L Γ te fun d => ∃ ys, d = .list ys ∧ xs.length + ys.length ≤ 1000000 ∧ P.nx L (Γ.set i (.own l (xs ++ ys)))) :
    StP K B G L Γ (tDrop (tBM K "list" rExtend (tVar i) (tCons te tNil))) P := fun σ H D E M => by
  obtain ⟨e, vs, hl, dn⟩ := E.getO hi
  refine ⟨_, e, .inl ⟨rfl, vs, .inl (.inl hl)⟩, h σ H _ E fun v d H1 g1 dn1 ⟨ys, ed, hz, hk⟩ => ?_⟩
  subst ed
  obtain ⟨e1, ws, hl1, dn2⟩ := g1.env.getO hi
  cases dn1 with
  | @lst b zs _ hb dz =>
    refine ⟨l, b, ws, zs, rfl, rfl, hl1, hid_sub _ _ _ _ hb, ?_, M.nx _ _ _ _ hk (Env.write g1.env hi (dn2.append dz))⟩
    rw [dn2.length, dz.length]
    exact sz_ok hz
/-- xs.pop() as a statement -/
theorem st_pop {i : Nat} {l : Addr} {xs : List PyData} (hi : Γ[i]? = some (.own l xs)) (hne : xs ≠ []) (hk : P.nx L (Γ.set i (.own l xs.dropLast))) :
    StP K B G L Γ (tDrop (tBM0 K "list" rPop (tVar i))) P := fun σ H D E M => by
  obtain ⟨e, vs, hl, dn⟩ := E.getO hi
  have hp : 0 < xs.length := List.length_pos_iff.mpr hne
  have hv : vs.length = xs.length := dn.length
  obtain ⟨y, hy⟩ : ∃ y, vs[vs.length - 1]? = some y := ⟨_, List.getElem?_eq_getElem (by omega)⟩
  refine ⟨_, e, .inl ⟨rfl, vs, .inl (.inl hl)⟩, l, vs, y, rfl, rfl, hl, hy, M.nx _ _ _ _ hk (Env.write E hi ?_)⟩
  rw [List.dropLast_eq_take, List.dropLast_eq_take, hv]
  exact dn.take _
/-- a, b = two new lists -/
theorem st_parOO {i j : Nat} (h : EvN K B G L Γ ta fun xs => ∀ l1 : Addr, EvN K B G (l1 :: L) Γ tb fun ys => ∀ l2 : Addr, l1 ≠ l2 → P.nx (l2 :: l1 :: L) ((Γ.set i (.own l1 xs)).set j (.own l2 ys))) : StP K B G L Γ (tPar i j (tCons ta (tCons tb tNil))) P := fun σ H D E M =>
  h σ H _ E fun p vs xs H1 g1 hp hv dv h2 => h2 p σ H1 _ (Env.temp E g1 hp hv) fun q ws ys H2 g2 hq hw dw hk => by
    have hpq : p ≠ q := ne_of_none hv hq
    have E1 := Env.take E g1 hp hv i dv
    have g3 := Go.step E1 g2.rl g2.env.ws
    have E2 := Env.take E1 g3 hq hw j dw
    exact ⟨_, _, rfl, M.nx _ _ _ _ (hk q hpq) E2⟩
/-- a, b, c = e, e, a new list -/
theorem st_par3O {i j m : Nat} (h : EvP K B G L Γ ta fun x => EvP K B G L Γ tb fun y => EvN K B G L Γ tc fun zs => ∀ l : Addr, P.nx (l :: L) (((Γ.set i (.d x)).set j (.d y)).set m (.own l zs))) : StP K B G L Γ (tPar3 i j m (tCons ta (tCons tb (tCons tc tNil)))) P := fun σ H D E M =>
  h σ H _ E fun v x H1 g1 dx h2 => h2 σ H1 _ g1.env fun w y H2 g2 dy h3 => h3 σ H2 _ g2.env fun p vs zs H3 g3 hp hv dv hk => by
    have E1 := (g2.env.put i (dx.mono g2.sm)).put j dy
    have g4 := Go.step E1 g3.rl g3.env.ws
    have E2 := Env.take E1 g4 hp hv m dv
    exact ⟨_, _, _, rfl, M.nx _ _ _ _ (hk p) E2⟩
theorem co_max {i j : Int} (hk : k (.int (if j > i then j else i))) : COk K B G L Γ rMax2Q [.int i, .int j] k := fun σ H Q vs E d1 q => by
  cases d1 with
  | cons h1 h2 =>
    cases h2 with
    | cons h2 h3 =>
      cases h3
      cases h1
      cases h2
      exact ⟨i, j, rfl, q _ _ H (Go.refl E) (.int _) hk⟩
theorem co_min {i j : Int} (hk : k (.int (if j < i then j else i))) : COk K B G L Γ rMin2Q [.int i, .int j] k := fun σ H Q vs E d1 q => by
  cases d1 with
  | cons h1 h2 =>
    cases h2 with
    | cons h2 h3 =>
      cases h3
      cases h1
      cases h2
      exact ⟨i, j, rfl, q _ _ H (Go.refl E) (.int _) hk⟩
/-- comparing rows of numbers and tuples of such -/
theorem rok_eqD {x y : PyData} (nx : x.hasDict = false) (ny : y.hasDict = false) (sx : SeqAt.shaped x = true) (sy : SeqAt.shaped y = true) (hk : k (.bool (PyData.eqv x y))) : ROk K B G L Γ (rEqD K) x y k := fun σ H Q v u E d1 d2 q =>
  ⟨x, y, Dn.dp (d1.mono (hid_sub _ _)) nx, Dn.dp (d2.mono (hid_sub _ _)) ny, sx, sy, q _ _ H (Go.refl E) (.bl _) hk⟩
theorem rok_neD {x y : PyData} (nx : x.hasDict = false) (ny : y.hasDict = false) (sx : SeqAt.shaped x = true) (sy : SeqAt.shaped y = true) (hk : k (.bool (!PyData.eqv x y))) : ROk K B G L Γ (rNeD K) x y k := fun σ H Q v u E d1 d2 q =>
  ⟨x, y, Dn.dp (d1.mono (hid_sub _ _)) nx, Dn.dp (d2.mono (hid_sub _ _)) ny, sx, sy, q _ _ H (Go.refl E) (.bl _) hk⟩
def rAndQ : R2 := rI0 fun i j => .int (Builtin.bitAnd i j)
theorem ro_and {i j : Int} (hk : k (.int (Builtin.bitAnd i j))) : ROk K B G L Γ rAndQ (.int i) (.int j) k := rok_i0 hk
end
end DL
/-! a tuple times 1 is itself -/
namespace DL
open PySem PySem.Spec PyProof.Rows L2
theorem tup_once (l : Addr) (o : Obj) (items : Array Value) (n : Nat) (u : Tok) (hc : o.cls = .type "tuple") (hd : o.data = .seq items n) :
    Meets (Builtin.«tuple.__mul__» ⟨[.ref l, .int 1 u], []⟩) (fun _ R s => s.heap.get? l = some o ∧ R (.ok (.ret (.ref l))) s) := by
  obtain ⟨cls, dd, data, sl⟩ := o
  simp only at hc hd
  subst hc hd
  apply Meets.of_wp
  rintro prog w A R ⟨hp, g, d, tk, os⟩ ⟨hl, hr⟩
  have big : (decide ((1 : Int) < -(2 ^ 63)) || decide ((1 : Int) ≥ 2 ^ 63)) = false := by decide
  have one : (items.isEmpty || (1 : Int) == 1) = true := by simp
  have f1 := AutoSeq1.idx_int
  wp_walk using wpAny_loadPart' hl
  repeat (first
    | (refine wpAny_ite_false (decide_eq_false (by rw [big]; exact Bool.false_ne_true)) ?_; wp_walk using wpAny_loadPart' hl)
    | (refine wpAny_ite_true (decide_eq_true one) ?_; wp_walk using wpAny_loadPart' hl))
  all_goals exact ⟨_, rfl, hr⟩
def rRepT1 (K : PySem.W.Frag) : R2 := fun x y H Q => ∃ (l : Addr) (xs : List V), x = .ref l ∧ y = .int 1 ∧ SqT K H l xs ∧ Q (.ref l) H
theorem op_repT1 {X : Cx} : OpR X (binaryOp .Mult) (rRepT1 X.K) := by
  rintro pins s σ H x y v u Q I rx ry ⟨l, xs, rfl, rfl, hT, q⟩
  obtain rfl : v = .ref l := rx
  obtain ⟨t, rfl⟩ := ry
  obtain ⟨its, r, ⟨⟨c, dd, dat, sl⟩, ho, hc, n, hd⟩, hs⟩ := I.tuple hT
  obtain rfl : c = .type "tuple" := hc
  obtain rfl : dat = .seq its.toArray n := hd
  have asInt := fun s' => typeIs_int s' 1 t
  refine wpAny_binaryOp_repeat_ref (T := "tuple") (U := "int") (by decide) ⟨_, ho, rfl⟩ asInt noFill_tuple_mul F.fills_int_mul F.slot_int_rmul repeat_tuple F.slot_int_index.lookup ?_
  refine call_meets F.slot_int_rmul (asInt s) F.entry_int_rmul (F.args_int_rmul_2 _ _) (int_rmul_tuple 1 t l its.toArray n dd sl) ⟨ho, rfl, ⟨_, ho, rfl⟩, ?_⟩
  refine call_meets F.slot_tuple_mul ⟨_, ho, rfl⟩ F.entry_tuple_mul (F.args_tuple_mul_2 _ _) (tup_once l _ its.toArray n t rfl rfl) ⟨ho, ?_⟩
  exact ⟨.ref l, H, I, rfl, q⟩
/-- + or * of all that is met here -/
def rMulB (K : PySem.W.Frag) : R2 := fun x y H Q => rMulA K x y H Q ∨ rRepT1 K x y H Q
theorem op_mulB {X : Cx} : OpR X (binaryOp .Mult) (rMulB X.K) := op_or op_mulA op_repT1
section
variable {K : PySem.W.Frag} {B : Bs} {G : List Hp} {L : List Addr} {Γ : List Sl} {k : PyData → Prop}
theorem rb_repT1 {ds : List PyData} (hk : k (.tuple ds)) : ROk K B G L Γ (rMulB K) (.tuple ds) (.int 1) k := fun σ H Q v u E d1 d2 q => by
  cases d2
  have d1' := d1
  cases d1 with
  | @tup a xs _ e1 h2 => exact .inr ⟨a, xs, rfl, rfl, Same.sqt (hid_sub _ _) e1, q _ _ H (Go.refl E) d1' hk⟩
theorem rb_mul {x y : PyData} (h : ROk K B G L Γ (rMulA K) x y k) : ROk K B G L Γ (rMulB K) x y k := h.l
/-- a tuple times a count above 0 -/
theorem rb_repT {ds : List PyData} {n : Nat} (hne : ds ≠ []) (h0 : 1 ≤ n) (h1 : n ≤ 1000) (hl : ds.length ≤ 1000) (hk : k (.tuple (List.replicate n ds).flatten)) : ROk K B G L Γ (rMulB K) (.tuple ds) (.int (n : Int)) k := by
  rcases Nat.lt_or_ge n 2 with h | h
  · obtain rfl : n = 1 := by omega
    exact rb_repT1 (by simpa using hk)
  · exact (ro_repT hne (by omega) (by omega) hl (by simpa using hk)).l
/-- a list times a count that may be below 0 -/
theorem ro_repN {ds : List PyData} {n : Int} (h0 : -100000 ≤ n) (h1 : n ≤ 100000) (hl : ds.length * n.toNat ≤ 1000000) (hk : k (.list (List.replicate n.toNat ds).flatten)) : ROk K B G L Γ (rMulA K) (.list ds) (.int n) k := by
  refine ROk.r (ROk.r (ROk.l ?_))
  rintro σ H Q v u E d1 d2 q
  cases d2
  cases d1 with
  | @lst a xs _ e1 h2 =>
    refine ⟨a, n, xs, rfl, rfl, hid_sub _ _ _ _ e1, by omega, by omega, ?_, fun p hp => ?_⟩
    · rw [h2.length]
      exact sz_ok hl
    · have g := Go.new (o := .lst (List.replicate n.toNat xs).flatten) E hp
      exact q _ _ _ g (.lst (hid_new (E.newM hp)) ((DnA.reps h2 n.toNat).mono g.sm)) hk
end
end DL
/-! Calls with some arguments by name, in any order. -/
namespace DL
open PySem PySem.Spec PyProof.Rows L2
def gP (m n : Nat) (js : List Nat) (us ws : List Value) : List Value := if us.length = m ∧ ws.length = n then us ++ js.map (fun j => ws.getD j .none) else []
def gPV (m n : Nat) (js : List Nat) (vs zs : List V) : List V := if vs.length = m ∧ zs.length = n then vs ++ js.map (fun j => zs.getD j .non) else []
def gPD (m n : Nat) (js : List Nat) (ds es : List PyData) : List PyData := if ds.length = m ∧ es.length = n then ds ++ js.map (fun j => es.getD j .none) else []
theorem vals_app {vs ws : List V} {us zs : List Value} : Vals vs us → Vals ws zs → Vals (vs ++ ws) (us ++ zs)
  | .nil, h => h
  | .cons a b, h => .cons a (vals_app b h)
theorem vals_getD : ∀ {zs : List V} {ws : List Value} (j : Nat), Vals zs ws → RelV (zs.getD j .non) (ws.getD j .none)
  | [], [], _, _ => rfl
  | _ :: _, _ :: _, 0, .cons a _ => a
  | _ :: _, _ :: _, j + 1, .cons _ b => vals_getD j b
theorem vals_pick {zs : List V} {ws : List Value} (h : Vals zs ws) : ∀ js : List Nat, Vals (js.map fun j => zs.getD j .non) (js.map fun j => ws.getD j .none)
  | [] => .nil
  | j :: js => .cons (vals_getD j h) (vals_pick h js)
theorem dna_getD {K : PySem.W.Frag} {H : Hp} : ∀ {zs : List V} {es : List PyData} (j : Nat), DnA K H zs es → Dn K H (zs.getD j .non) (es.getD j .none)
  | [], [], _, _ => .non
  | _ :: _, _ :: _, 0, .cons a _ => a
  | _ :: _, _ :: _, j + 1, .cons _ b => dna_getD j b
theorem dna_pick {K : PySem.W.Frag} {H : Hp} {zs : List V} {es : List PyData} (h : DnA K H zs es) : ∀ js : List Nat, DnA K H (js.map fun j => zs.getD j .non) (js.map fun j => es.getD j .none)
  | [] => .nil
  | j :: js => .cons (dna_getD j h) (dna_pick h js)
theorem dna_gP {K : PySem.W.Frag} {H : Hp} {vs zs : List V} {ds es : List PyData} (h1 : DnA K H vs ds) (h2 : DnA K H zs es) (m n : Nat) (js : List Nat) : DnA K H (gPV m n js vs zs) (gPD m n js ds es) := by
  unfold gPV gPD
  rw [h1.length, h2.length]
  split
  · exact h1.append (dna_pick h2 js)
  · exact .nil
theorem Fun.kbindsP {K : PySem.W.Frag} {x qual : Str} {st : Stmt} {f : Addr} {fd : FuncData} {ps ks : List Str} (F : Fun K x qual st f fd) (hne : ps ≠ []) (m n : Nat) (js : List Nat)
    (h : ∀ (kV doc pm : Value) (an : Option Addr) (cdv ct : Value) (us ws : List Value), us.length = m → ws.length = n → bindArgs (PySem.W.fnOf x qual (defArgs st) (defBody st) (defScope st) .none kV doc pm an cdv ct) ⟨us, ks.zip ws⟩ = pure (ps.zip (us ++ js.map fun j => ws.getD j .none))) : KBinds K fd ps ks (gP m n js) (gPV m n js) := by
  obtain ⟨oc, od, kV, doc, pm, an, cdv, ct, osl, rfl, lk, hcd⟩ := F.ex
  refine ⟨fun s us ws _ hl => ?_, fun {vs us zs ws} r rz => ?_⟩
  · unfold gP at hl ⊢
    split at hl
    · rename_i hc
      rw [if_pos hc]
      exact BindsTo.of_eq (h kV doc pm an cdv ct us ws hc.1 hc.2)
    · cases ps with
      | nil => exact absurd rfl hne
      | cons c d => cases hl
  · unfold gP gPV
    rw [r.length, rz.length]
    split
    · exact vals_app r (vals_pick rz js)
    · exact .nil
section
variable {X : Cx} {x : Str} {p pos : Pos} {k : Nat} {f : Addr} {fd : FuncData} {ps ks : List Str} {sp : Sp} {CX : CXT} {E : XK} {tk : TA} {kws : List Keyword} {g : List Value → List Value → List Value} {gV : List V → List V → List V}
def tCallN (sp : Sp) (gV : List V → List V → List V) (E : XK) (tk : TA) : TE := fun σ H Q => tk σ H fun zs H1 => sp (gV [] zs) H1 Q E
theorem pe_callN (F : FnOk X.prog X.w X.K X.mg X.base CX k f fd ps sp) (hr : Room k X.A) (hg : Gl X x) (hm : X.mg x = some (.ref f)) (hk : PySem.W.keepIn X.K (.ref f) = true) (hb : KBinds X.K fd ps ks g gV) (hx : Passes CX X E)
    (hkw : PK X kws tk) (hall : (backToKw pos (keywordEach kws X.env)).all (·.1.isSome) = true := by rfl) (hks : (backToKw pos (keywordEach kws X.env)).filterMap (·.1) = ks := by rfl)
    (hdb : (x == ("__debug__" : Str)) = false := by decide)
    (hpl : ((backTo pos (starEach [] X.env)).any (·.1) || (backToKw pos (keywordEach kws X.env)).any (·.1.isNone)) = false := by rfl) :
    PE X (.Call (.Name x p) [] kws pos) (tCallN sp gV E tk) := by
  refine ⟨fun pins s σ H Q I h => ?_⟩
  refine wpAny_Call_Name_kw (ld_glob I hg hm ?_ hdb)
  refine PySem.W.callWith_KW0 (h₀ := X.base) I.ok.mod.kin hk hall ?_ hpl
  refine thn (hkw.run pos pins s σ H _ I h) fun ws s2 ⟨zs, H2, I2, rz, q2⟩ => ⟨I2.kIn, ?_⟩
  rw [hks]
  exact run_fnk (us := []) (vs := []) F hr hb hx I2 .nil rz q2
end
section
variable {K : PySem.W.Frag} {B : Bs} {G : List Hp} {L : List Addr} {Γ : List Sl} {tr tk : TA} {k : PyData → Prop}
theorem ev_callN {pre : List PyData → Prop} {post : List PyData → PyData → Prop} {E0 : XK} {m n : Nat} {js : List Nat} (h : EvA K B G L Γ tk fun es => pre (gPD m n js [] es) ∧ ∀ d, post (gPD m n js [] es) d → k d) : EvP K B G L Γ (tCallN (SpP K pre post) (gPV m n js) E0 tk) k := fun σ H Q E q =>
  h σ H _ E fun zs es H1 g1 dn ⟨hp, hk⟩ => by
    refine ⟨L ++ B.M, gPD m n js [] es, g1.env.alive, dna_gP .nil dn m n js, hp, fun v d H' hs dv hpost => ?_⟩
    have g2 := Go.step g1.env (H' := H') (fun a o _ e => hs a o e) fun w hw => by
      obtain ⟨n, b, c, e, q⟩ := g1.env.ws w hw
      exact ⟨n, b, c, hs _ _ e, q⟩
    exact q v d H' (g1.trans g2) dv (hk d hpost)
theorem ev_callKP {pre : List PyData → Prop} {post : List PyData → PyData → Prop} {E0 : XK} {m n : Nat} {js : List Nat} (h : EvA K B G L Γ tr fun ds => EvA K B G L Γ tk fun es => pre (gPD m n js ds es) ∧ ∀ d, post (gPD m n js ds es) d → k d) : EvP K B G L Γ (L2.tCallK (SpP K pre post) (gPV m n js) E0 tr tk) k := fun σ H Q E q =>
  h σ H _ E fun vs ds H1 g1 dn1 h2 => h2 σ H1 _ g1.env fun zs es H2 g2 dn ⟨hp, hk⟩ => by
    have g12 := g1.trans g2
    refine ⟨L ++ B.M, gPD m n js ds es, g12.env.alive, dna_gP (dn1.mono g2.sm) dn m n js, hp, fun v d H' hs dv hpost => ?_⟩
    have g3 := Go.step g12.env (H' := H') (fun a o _ e => hs a o e) fun w hw => by
      obtain ⟨n, b, c, e, q⟩ := g12.env.ws w hw
      exact ⟨n, b, c, hs _ _ e, q⟩
    exact q v d H' (g12.trans g3) dv (hk d hpost)
end
end DL
/-! More of lists: list(range(n)), two lists at once, two places at once, xs[::-1], unpacking. -/
namespace DL
open PySem PySem.Spec PyProof.Rows L2
def rReprI : List V → Hp → VK → Prop := fun xs H Q => ∃ i, xs = [.int i] ∧ i.natAbs.log2 < 1920 ∧ Q (.str (toString i)) H
section
variable {K : PySem.W.Frag} {B : Bs} {G : List Hp} {L : List Addr} {Γ : List Sl} {H H' H2 : Hp} {σ : L2.St}
variable {te tf ta tb : TE} {k : PyData → Prop} {P : PD}
theorem en_listRg {kl : List PyData → Prop} (h : EvP K B G L Γ te fun d => ∃ n : Int, d = .int n ∧ 0 ≤ n ∧ n ≤ 100000 ∧ kl ((List.range n.toNat).map fun i : Nat => PyData.int (i : Int))) : EvN K B G L Γ (tLstRg (tRg1 te)) kl := fun σ H Q E q =>
  h σ H _ E fun v d H1 g1 dn ⟨n, e, h0, h1, hk⟩ => by
    subst e
    cases dn
    refine ⟨n, rfl, RgOk.of_le (by omega) (by omega) (by omega) (by omega), fun p hp => ?_⟩
    have g2 := Go.new (o := .lst (rgV 0 n)) g1.env hp
    refine q p _ _ _ (g1.trans g2) (Go.fresh E g1 hp) upd_same ?_ hk
    have e : rgV 0 n = ((List.range n.toNat).map fun i => ((i : Nat) : Int)).map V.int := by
      unfold rgV
      rw [show (n - 0).toNat = n.toNat by omega, List.map_map]
      apply List.map_congr_left
      intro i _
      show V.int (0 + (i : Int)) = V.int (i : Int)
      rw [Int.zero_add]
    have e2 : (List.range n.toNat).map (fun i : Nat => PyData.int (i : Int)) = ((List.range n.toNat).map fun i => ((i : Nat) : Int)).map PyData.int := by
      rw [List.map_map]
      rfl
    rw [e, e2]
    exact DnA.of_ints _
theorem co_intB {b : Bool} (hk : k (.int (if b then 1 else 0))) : COk K B G L Γ rIntQ [.bool b] k := fun σ H Q vs E d1 q => by
  cases d1 with
  | cons h1 h2 =>
    cases h2
    obtain rfl := dn_bool h1
    exact .inr ⟨b, rfl, q _ _ H (Go.refl E) (.int _) hk⟩
theorem cok_reprI {i : Int} (hz : i.natAbs.log2 < 1920) (hk : k (.str (toString i))) : COk K B G L Γ rReprI [.int i] k := fun σ H Q vs E d1 q => by
  cases d1 with
  | cons h1 h2 =>
    cases h2
    obtain rfl := dn_int h1
    exact ⟨i, rfl, hz, q _ _ H (Go.refl E) (.str _) hk⟩
theorem ev_revL (h : EvP K B G L Γ te fun d => ∃ ds, d = .list ds ∧ k (.list ds.reverse)) : EvP K B G L Γ (tRevL K te) k := fun σ H Q E q =>
  h σ H _ E fun v d H1 g1 dn ⟨ds, e, hk⟩ => by
    subst e
    cases dn with
    | @lst a xs _ e1 h2 =>
      refine ⟨a, xs, rfl, .inl (.inl (hid_sub _ _ _ _ e1)), fun p hp => ?_⟩
      have g2 := Go.new (o := .lst xs.reverse) g1.env hp
      exact q _ _ _ (g1.trans g2) (.lst (hid_new (g1.env.newM hp)) ((h2.mono g2.sm).rev)) hk
theorem st_unpackL {n : Nat} {tg : TGs} (h : EvP K B G L Γ te fun d => ∃ ds, d = .list ds ∧ ds.length = n ∧ TgP K B G L Γ tg ds fun Γ' => P.nx L Γ') : StP K B G L Γ (tAsg te (gLst K n tg)) P := fun σ H D E M =>
  h σ H _ E fun v d H1 g1 dn ⟨ds, e, hn, ht⟩ => by
    subst e
    cases dn with
    | @lst a xs _ e1 h2 =>
      exact ⟨a, xs, rfl, .inl (.inl (hid_sub _ _ _ _ e1)), by rw [h2.length]; exact hn, ht σ H1 xs _ g1.env h2 fun Γ' σ' E' hk => M.nx _ _ _ _ hk E'⟩
/-- a, b = a new list, a new list, by a tuple -/
theorem st_unpOO {i j : Nat} (h : EvN K B G L Γ ta fun xs => ∀ l1 : Addr, EvN K B G (l1 :: L) Γ tb fun ys => ∀ l2 : Addr, l1 ≠ l2 → P.nx (l2 :: l1 :: L) ((Γ.set i (.own l1 xs)).set j (.own l2 ys))) : StP K B G L Γ (tAsg (tTup (tCons ta (tCons tb tNil))) (gTup K 2 (gCons (gName i) (gCons (gName j) gNil)))) P := fun σ H D E M =>
  h σ H _ E fun p vs xs H1 g1 hp hv dv h2 => h2 p σ H1 _ (Env.temp E g1 hp hv) fun q ws ys H2 g2 hq hw dw hk => by
    have hpq : p ≠ q := ne_of_none hv hq
    refine ⟨by show 2 ≤ sizeLine; decide, fun t ht => ?_⟩
    have s3 : Same H2 (upd H2 t (.tup [.ref p, .ref q])) := same_upd ht
    have E1 := Env.take E g1 hp hv i dv
    have g3 := Go.step E1 g2.rl g2.env.ws
    have E2 := Env.take E1 g3 hq hw j dw
    have g4 := Go.new (o := .tup [.ref p, .ref q]) E2 ht
    exact ⟨t, [.ref p, .ref q], rfl, .inl (.inl upd_same), rfl, _, _, rfl, _, _, rfl, rfl, M.nx _ _ _ _ (hk q hpq) g4.env⟩
/-- xs[a], xs[b] = e, f -/
theorem st_setTwo {tr : TA} {i : Nat} {l : Addr} {xs : List PyData} (hi : Γ[i]? = some (.own l xs)) (h : EvA K B G L Γ tr fun ds => ∃ x y, ds = [x, y] ∧ EvP K B G L Γ ta fun m => ∃ j : Nat, m = .int (j : Int) ∧ j < xs.length ∧
    EvP K B G L (Γ.set i (.own l (xs.set j x))) tb fun n => ∃ j2 : Nat, n = .int (j2 : Int) ∧ j2 < xs.length ∧ P.nx L (Γ.set i (.own l ((xs.set j x).set j2 y)))) :
    StP K B G L Γ (tAsg (tTup tr) (gTup K 2 (gCons (gSub (tVar i) ta rSetL) (gCons (gSub (tVar i) tb rSetL) gNil)))) P := fun σ H D E M =>
  h σ H _ E fun vs ds H1 g1 dn ⟨x, y, e, h2⟩ => by
    subst e
    cases dn with
    | cons d1 d2 =>
      cases d2 with
      | cons d2 d3 =>
        cases d3
        rename_i v u
        refine ⟨by show 2 ≤ sizeLine; decide, fun t ht => ?_⟩
        have g2 := Go.new (o := .tup [v, u]) g1.env ht
        refine ⟨t, [v, u], rfl, .inl (.inl upd_same), rfl, _, _, rfl, ?_⟩
        obtain ⟨e1, ws0, hl0, dn0⟩ := g2.env.getO hi
        refine ⟨_, e1, h2 σ _ _ g2.env fun m dm H3 g3 dm1 ⟨j, ej, hj, h3⟩ => ?_⟩
        subst ej
        obtain ⟨e2, ws, hl2, dn3⟩ := g3.env.getO hi
        have d1' := (d1.mono g2.sm).mono g3.sm
        have d2' := (d2.mono g2.sm).mono g3.sm
        refine ⟨l, ws, (j : Int), j, rfl, dn_int dm1, hl2, ?_, ?_⟩
        · rw [dn3.length]
          unfold ixN
          rw [if_pos (by omega), if_pos (by omega)]
          simp
        · have E4 := Env.write g3.env hi (dn3.set j d1')
          have s4 : Same (hid (L ++ B.M) H3) (hid (L ++ B.M) (upd H3 l (.lst (ws.set j v)))) := fun a o e => by
            obtain ⟨q, e⟩ := hid_some e
            have lM : l ∈ L ++ B.M := List.mem_append_left _ (g3.env.ow i l xs hi)
            rw [hid_out q, upd_ne (fun (z : a = l) => q (by rw [z]; exact lM))]
            exact e
          have hi4 : (Γ.set i (.own l (xs.set j x)))[i]? = some (.own l (xs.set j x)) := List.getElem?_set_self (List.getElem?_eq_some_iff.mp hi).1
          obtain ⟨e5, ws5, hl5, dn5⟩ := E4.getO hi4
          refine ⟨_, _, rfl, _, e5, h3 σ _ _ E4 fun n dn' H5 g5 dm2 ⟨j2, ej2, hj2, hk⟩ => ?_⟩
          subst ej2
          obtain ⟨e6, ws6, hl6, dn6⟩ := g5.env.getO hi4
          have d2'' := (d2'.mono s4).mono g5.sm
          refine ⟨l, ws6, (j2 : Int), j2, rfl, dn_int dm2, hl6, ?_, ?_⟩
          · rw [dn6.length, List.length_set]
            unfold ixN
            rw [if_pos (by omega), if_pos (by omega)]
            simp
          · have E7 := Env.write g5.env hi4 (dn6.set j2 d2'')
            rw [List.set_set] at E7
            exact ⟨rfl, M.nx _ _ _ _ hk E7⟩
/-- a, b = a new list, e -/
theorem st_parOD {i j : Nat} (h : EvN K B G L Γ ta fun xs => ∀ l1 : Addr, EvP K B G (l1 :: L) Γ tb fun y => P.nx (l1 :: L) ((Γ.set i (.own l1 xs)).set j (.d y))) : StP K B G L Γ (tPar i j (tCons ta (tCons tb tNil))) P := fun σ H D E M =>
  h σ H _ E fun p vs xs H1 g1 hp hv dv h2 => h2 p σ H1 _ (Env.temp E g1 hp hv) fun v y H2 g2 dy hk => by
    have E1 := Env.take E g1 hp hv i dv
    have g3 := Go.step E1 g2.rl g2.env.ws
    exact ⟨_, _, rfl, M.nx _ _ _ _ hk (g3.env.put j dy)⟩
end
end DL
/-! A text among texts, isinstance of a text, the least common multiple. -/
namespace DL
open PySem PySem.Spec PyProof.Rows L2
def isStrT : PyData → Bool
  | .str _ => true
  | _ => false
theorem kit_str (d : PyData) : kitB (tyD d) "str" = some (isStrT d) := by
  cases d <;> (simp only [tyD, isStrT]; decide +kernel)
theorem dna_strs {K : PySem.W.Frag} {H : Hp} : ∀ {vs : List V} {ys : List Str}, DnA K H vs (ys.map .str) → vs = ys.map V.str
  | _, [], h => by
    cases h
    rfl
  | _, y :: ys, h => by
    cases h with
    | cons a b =>
      rw [dn_str a, dna_strs b]
      rfl
theorem flat_strs (ys : List Str) : (ys.map V.str).all flatV = true := by
  induction ys with
  | nil => rfl
  | cons y ys ih => simpa [flatV] using ih
theorem in_strs (x : Str) (ys : List Str) : inV (V.str x) (ys.map V.str) = ys.contains x := by
  unfold inV
  induction ys with
  | nil => rfl
  | cons y ys ih =>
    simp only [List.map_cons, List.any_cons, List.contains_cons]
    rw [ih]
    congr 1
    show (y == x) = (x == y)
    exact Bool.beq_comm
section
variable {K : PySem.W.Frag} {B : Bs} {G : List Hp} {L : List Addr} {Γ : List Sl} {te : TE} {k : PyData → Prop}
theorem ev_isiStr (h : EvP K B G L Γ te fun d => k (.bool (isStrT d))) : EvP K B G L Γ (tCB (rIsi K) (tCons te (tCons (tC (.ty "str")) tNil))) k := ev_isi (h.mono fun d hk => ⟨_, kit_str d, hk⟩)
theorem rok_inS {x : Str} {ys : List Str} (hk : k (.bool (ys.contains x))) : ROk K B G L Γ (rIn K false) (.str x) (.tuple (ys.map .str)) k := fun σ H Q v u E d1 d2 q => by
  rw [dn_str d1]
  cases d2 with
  | tup h1 h2 =>
    rw [dna_strs h2] at h1
    refine ⟨_, _, rfl, .inr (Same.sqt (hid_sub _ _) h1), rfl, flat_strs ys, ?_⟩
    rw [in_strs]
    exact q _ _ H (Go.refl E) (.bl _) hk
theorem rok_notInS {x : Str} {ys : List Str} (hk : k (.bool (!ys.contains x))) : ROk K B G L Γ (rIn K true) (.str x) (.tuple (ys.map .str)) k := fun σ H Q v u E d1 d2 q => by
  rw [dn_str d1]
  cases d2 with
  | tup h1 h2 =>
    rw [dna_strs h2] at h1
    refine ⟨_, _, rfl, .inr (Same.sqt (hid_sub _ _) h1), rfl, flat_strs ys, ?_⟩
    rw [in_strs]
    exact q _ _ H (Go.refl E) (.bl _) hk
end
end DL
/-! The least common multiple of two or three numbers; a module's constant tuple. -/
namespace DL
open PySem PySem.Spec PyProof.Rows L2
section
open PySem.W
theorem args_lcm3 (a b c : Value) : argsOk "math.lcm" ⟨[a, b, c], []⟩ := by unfold argsOk; kernel_rfl
theorem run_lcm3 (a : Int) (t : Tok) (b : Int) (u : Tok) (c : Int) (v : Tok) (hc0 : ¬(max 1 a.natAbs).log2 / 30 + 1 > 450) (hc1 : ¬(max a.natAbs b.natAbs).log2 / 30 + 1 > 450)
    (hc2 : ¬(max (a.natAbs.lcm b.natAbs) c.natAbs).log2 / 30 + 1 > 450) (hsz : (((((Nat.lcm 1 a.natAbs).lcm b.natAbs).lcm c.natAbs : Nat) : Int)).natAbs.log2 < bitsLine) :
    Gives (Builtin.«math.lcm» ⟨[.int a t, .int b u, .int c v], []⟩) (.int (((((Nat.lcm 1 a.natAbs).lcm b.natAbs).lcm c.natAbs : Nat) : Int))) :=
  .of_wp fun M A E s Q h => by
    obtain ⟨hp, g, d, tk, os⟩ := s
    wp_walk
    refine wpAny_ite_false (decide_eq_false (Nat.not_le.mpr hsz)) ?_
    wp_walk
    exact ⟨_, rfl, h⟩
theorem call_lcm3 {prog : Program} {w : World} {A : Around} {E : Value → Shared → Prop} {s : Shared} {Q : Value → Shared → Prop} {a b c : Int} {t u v : Tok}
    (ha : a.natAbs < 2 ^ 1000) (hb : b.natAbs < 2 ^ 1000) (hc : c.natAbs < 2 ^ 1000) (h : Q (.int (((a.natAbs.lcm b.natAbs).lcm c.natAbs : Nat) : Int) s.toks) { s with toks := s.toks + 1 }) :
    wpAny (model prog w) A (call (.builtin "math.lcm") [.int a t, .int b u, .int c v]) Q E s := by
  have l1 : ∀ {n k : Nat}, n < 2 ^ k → 0 < k → n.log2 < k := fun {n k} h k0 => by
    by_cases h0 : n = 0
    · subst h0
      rw [Nat.log2_zero]
      exact k0
    · exact (Nat.log2_lt h0).mpr h
  have e1 : Nat.lcm 1 a.natAbs = a.natAbs := by simp [Nat.lcm]
  have mx : ∀ {m n k : Nat}, m < 2 ^ k → n < 2 ^ k → max m n < 2 ^ k := fun {m n k} h1 h2 => by
    rcases Nat.le_total m n with q | q
    · rw [Nat.max_eq_right q]; exact h2
    · rw [Nat.max_eq_left q]; exact h1
  have one : 1 < 2 ^ 1000 := Nat.one_lt_two_pow (by decide)
  have up : ∀ {m j k : Nat}, m < 2 ^ j → j ≤ k → m < 2 ^ k := fun h1 h2 => Nat.lt_of_lt_of_le h1 (Nat.pow_le_pow_right (by decide) h2)
  have lb : a.natAbs.lcm b.natAbs < 2 ^ 2000 := by
    refine Nat.lt_of_le_of_lt (mc_lcm_le _ _) ?_
    rw [show 2000 = 1000 + 1000 by rfl, Nat.pow_add]
    exact Nat.mul_lt_mul'' ha hb
  have lc : (a.natAbs.lcm b.natAbs).lcm c.natAbs < 2 ^ 3000 := by
    refine Nat.lt_of_le_of_lt (mc_lcm_le _ _) ?_
    rw [show 3000 = 2000 + 1000 by rfl, Nat.pow_add]
    exact Nat.mul_lt_mul'' lb hc
  have q0 := l1 (mx one ha) (by decide)
  have q1 := l1 (mx ha hb) (by decide)
  have q2 := l1 (mx lb (up hc (by decide))) (by decide)
  have q3 := l1 lc (by decide)
  have g := run_lcm3 a t b u c v (by omega) (by omega) (by omega) (by
    rw [e1, Int.natAbs_natCast]
    exact Nat.lt_of_lt_of_le q3 (by decide))
  rw [e1] at g
  exact call_function_meets MGF.kind_lcm MGF.plain_lcm MGF.entry_lcm (args_lcm3 _ _ _) g.meets h
end
def rLcm3 : List V → Hp → VK → Prop := fun vs H Q => ∃ a b c : Int, vs = [.int a, .int b, .int c] ∧ a.natAbs < 2 ^ 1000 ∧ b.natAbs < 2 ^ 1000 ∧ c.natAbs < 2 ^ 1000 ∧ Q (.int (((a.natAbs.lcm b.natAbs).lcm c.natAbs : Nat) : Int)) H
theorem cr_lcm3 {X : Cx} : CallR X (.builtin "math.lcm") rLcm3 := by
  intro pins s σ H vs us Q I r h
  obtain ⟨a, b, c, rfl, ha, hb, hc, q⟩ := h
  cases r with
  | cons r1 r =>
    cases r with
    | cons r2 r =>
      cases r with
      | cons r3 r =>
        cases r
        obtain ⟨t, rfl⟩ := r1
        obtain ⟨u, rfl⟩ := r2
        obtain ⟨v, rfl⟩ := r3
        exact call_lcm3 ha hb hc ⟨.int _, H, I.tok _, ⟨_, rfl⟩, q⟩
section
variable {K : PySem.W.Frag} {B : Bs} {G : List Hp} {L : List Addr} {Γ : List Sl} {te : TE} {k : PyData → Prop}
theorem cok_lcm3 {a b c : Int} (ha : a.natAbs < 2 ^ 1000) (hb : b.natAbs < 2 ^ 1000) (hc : c.natAbs < 2 ^ 1000) (hk : k (.int (((a.natAbs.lcm b.natAbs).lcm c.natAbs : Nat) : Int))) : COk K B G L Γ rLcm3 [.int a, .int b, .int c] k := fun σ H Q vs E d1 q => by
  cases d1 with
  | cons h1 h2 =>
    cases h2 with
    | cons h2 h3 =>
      cases h3 with
      | cons h3 h4 =>
        cases h4
        cases h1
        cases h2
        cases h3
        exact ⟨a, b, c, rfl, ha, hb, hc, q _ _ H (Go.refl E) (.int _) hk⟩
/-- a module's constant row -/
def CT (K : PySem.W.Frag) (a : Addr) (d : PyData) : Prop := ∀ H : Hp, Dn K H (.ref a) d
theorem ev_ct {a : Addr} {d : PyData} (h : CT K a d) (hk : k d) : EvP K B G L Γ (tC (.ref a)) k := fun σ H Q E q => q _ _ H (Go.refl E) (h _) hk
end
theorem ct_pair {K : PySem.W.Frag} {a : Addr} {od : Option Addr} {n : Nat} {sl : Array (Option Value)} {i j : Int} {t u : Tok} (h : K.lookup a = some ⟨.type "tuple", od, .seq #[.int i t, .int j u] n, sl⟩) : CT K a (.tuple [.int i, .int j]) := fun H =>
  .tup (xs := [.int i, .int j]) (.inr ⟨_, _, _, h, rfl, rfl, by show 2 ≤ sizeLine; decide, .cons ⟨t, rfl⟩ (.cons ⟨u, rfl⟩ .nil)⟩) (.cons (.int i) (.cons (.int j) .nil))
end DL
/-! Comprehensions whose turns are pairs: [.. for x, y in rows]. -/
namespace DL
open PySem PySem.Spec PyProof.Rows L2
section
variable {K : PySem.W.Frag} {B : Bs} {G : List Hp} {L : List Addr} {Γ : List Sl} {H H' : Hp} {σ : L2.St} {tl te : TE} {tt : TT}
abbrev gTwo (K : PySem.W.Frag) (j m : Nat) : TG := gTup K 2 (gCons (gName j) (gCons (gName m) gNil))
def CompOk2 (K : PySem.W.Frag) (B : Bs) (G : List Hp) (L : List Addr) (Γ : List Sl) (j m : Nat) (tt : TT) (te : TE) (vs : List Nat) (n : Nat) (item : Nat → PyData → PyData → Prop) (J : Nat → List PyData → Prop) : Prop :=
  J 0 [] ∧ ∀ i D x y acc, item i x y → J i acc → i < n → EvT K B G (D :: L) (((wipeG Γ vs).set j (.d x)).set m (.d y)) tt fun b =>
    (b = true → EvP K B G (D :: L) (((wipeG Γ vs).set j (.d x)).set m (.d y)) te fun z => J (i + 1) (acc ++ [z])) ∧ (b = false → J (i + 1) acc)
theorem comp_turn2 {j m n : Nat} {vs : List Nat} {item : Nat → PyData → PyData → Prop} {J : Nat → List PyData → Prop} {H1 : Hp} {D : Addr} {i : Nat} {v : V} {x y : PyData} (E1 : Env K B G L H1 σ Γ) (hD : H1 D = none) (C : CompOk2 K B G L Γ j m tt te vs n item J) (hn : n ≤ 100000)
    (hw : ∀ (σ : L2.St) x y, L2.wipe (((L2.wipe σ vs).set j (some x)).set m (some y)) vs = L2.wipe σ vs)
    (S : Sofar K B L H1 H' D i J) (hi : item i x y) (hin : i < n) (dn : Dn K (hid (L ++ B.M) H1) v (.tuple [x, y])) :
    gTwo K j m v (L2.wipe σ vs) H' fun σ2 H2 => L2.wipe σ2 vs = L2.wipe σ vs ∧ tt σ2 H2 fun b H3 => if b = true then te σ2 H3 fun z H4 => ∃ acc, H4 D = some (.lst acc) ∧ acc.length < sizeLine ∧ Sofar K B L H1 (upd H4 D (.lst (acc ++ [z]))) D (i + 1) J else Sofar K B L H1 H3 D (i + 1) J := by
  obtain ⟨rl, ws, accV, acc, hJ, hlen, hDl, dA⟩ := S
  have g0 : Go K B G L Γ H1 H' σ := Go.of_rel E1 rl ws
  have ET := Env.temp E1 g0 hD hDl
  have hk0 : Same (hid (L ++ B.M) H1) (hid (D :: L ++ B.M) H') := g0.keepL E1 hD
  cases dn with
  | @tup a xs _ e1 h2 =>
    cases h2 with
    | @cons v1 _ _ _ d1 h2 =>
      cases h2 with
      | @cons v2 _ _ _ d2 h2 =>
        cases h2
        refine ⟨a, _, rfl, Same.sqt (hid_sub _ _) (Same.sqt hk0 e1), rfl, v1, _, rfl, v2, _, rfl, rfl, hw σ v1 v2, ?_⟩
        have EW := ((ET.wipe vs).put j (d1.mono hk0)).put m (d2.mono hk0)
        refine C.2 i D x y acc hi hJ hin _ H' _ EW fun b H3 g3 ⟨c1, c2⟩ => ?_
        have D3 : H3 D = some (.lst accV) := g3.kp D (List.mem_cons_self ..) _ hDl
        cases b with
        | false =>
          refine iteF ⟨fun a o w e => g3.rl a o w (rl a o w e), g3.env.ws, accV, acc, c2 rfl, by omega, D3, dA.mono g3.sm⟩
        | true =>
          refine iteT (c1 rfl _ H3 _ g3.env fun y d H4 g4 dy hJ' => ?_)
          have D4 : H4 D = some (.lst accV) := g4.kp D (List.mem_cons_self ..) _ D3
          refine ⟨accV, D4, ?_, ?_⟩
          · rw [dA.length]
            exact Nat.lt_of_le_of_lt hlen (Nat.lt_of_lt_of_le (Nat.lt_of_lt_of_le hin hn) (by decide))
          · have hs : Same (hid (D :: (L ++ B.M)) H4) (hid (D :: (L ++ B.M)) (upd H4 D (.lst (accV ++ [y])))) := fun a o e => by
              obtain ⟨q, e⟩ := hid_some e
              rw [hid_out q, upd_ne (fun z => q (by rw [z]; exact List.mem_cons_self ..))]
              exact e
            have dW : D ∉ B.Ws := fun w => by
              obtain ⟨_, _, _, q, _⟩ := E1.ws D w
              rw [hD] at q; cases q
            refine ⟨fun a o w e => ?_, fun w hw => ?_, accV ++ [y], acc ++ [d], hJ', by rw [List.length_append]; exact Nat.succ_le_succ hlen, upd_same, ?_⟩
            · rw [upd_ne (ne_of_none e hD)]
              exact g4.rl a o w (g3.rl a o w (rl a o w e))
            · obtain ⟨n, b, c, e, q⟩ := g4.env.ws w hw
              exact ⟨n, b, c, by rw [upd_ne (fun (z : w = D) => dW (by rw [← z]; exact hw))]; exact e, q⟩
            · exact ((dA.mono g3.sm).mono g4.sm |>.append (.cons dy .nil)).mono hs
theorem en_lcT2 {j m : Nat} {vs : List Nat} {kl : List PyData → Prop} (hw : ∀ (σ : L2.St) x y, L2.wipe (((L2.wipe σ vs).set j (some x)).set m (some y)) vs = L2.wipe σ vs)
    (h : EvP K B G L Γ tl fun d => ∃ ds : List (PyData × PyData), d = .tuple (ds.map fun p => .tuple [p.1, p.2]) ∧ ds.length ≤ 100000 ∧ ∃ J, CompOk2 K B G L Γ j m tt te vs ds.length (fun i x y => ds[i]? = some (x, y)) J ∧ ∀ acc, J ds.length acc → kl acc) :
    EvN K B G L Γ (tLc (iTup K tl) (gTwo K j m) tt te vs) kl := fun σ H Q E q =>
  h σ H _ E fun v d H1 g1 dn ⟨ds, e, hl, J, C, hk⟩ => by
    subst e
    cases dn with
    | @tup a xs _ e1 h2 =>
      refine ⟨a, rfl, ⟨xs, Same.sqt (hid_sub _ _) e1⟩, fun D hD => lc_tup (xs := xs) (fun i H' => Sofar K B L H1 H' D i J)
        ⟨fun a o w e => same_upd hD a o e, fun w hw => ?_, [], [], C.1, Nat.le_refl _, upd_same, .nil⟩ (fun i H' _ S => ?_) (fun i x H' hi S => ?_) (fun H' S => ?_)⟩
      · obtain ⟨n, b, c, e, q⟩ := g1.env.ws w hw
        exact ⟨n, b, c, same_upd hD _ _ e, q⟩
      · have g0 : Go K B G L Γ H1 H' σ := Go.of_rel g1.env S.rl S.ws
        exact Same.sqt (hid_sub _ _) (Same.sqt g0.sm e1)
      · obtain ⟨d', e', dn'⟩ := h2.getV hi
        rw [List.getElem?_map] at e'
        cases e2 : ds[i]? with
        | none => rw [e2] at e'; cases e'
        | some p =>
          rw [e2] at e'
          cases e'
          exact comp_turn2 g1.env hD C hl hw S e2 (List.getElem?_eq_some_iff.mp e2).1 dn'
      · have g0 : Go K B G L Γ H1 H' σ := Go.of_rel g1.env S.rl S.ws
        obtain ⟨accV, acc, hJ, _, e, dA⟩ := S.it
        rw [h2.length, List.length_map] at hJ
        exact q D accV acc H' (g1.trans g0) (Go.fresh E g1 hD) e dA (hk acc hJ)
theorem en_lcL2 {j m : Nat} {vs : List Nat} {kl : List PyData → Prop} (hw : ∀ (σ : L2.St) x y, L2.wipe (((L2.wipe σ vs).set j (some x)).set m (some y)) vs = L2.wipe σ vs)
    (h : EvP K B G L Γ tl fun d => ∃ ds : List (PyData × PyData), d = .list (ds.map fun p => .tuple [p.1, p.2]) ∧ ds.length ≤ 100000 ∧ ∃ J, CompOk2 K B G L Γ j m tt te vs ds.length (fun i x y => ds[i]? = some (x, y)) J ∧ ∀ acc, J ds.length acc → kl acc) :
    EvN K B G L Γ (tLc (iList K tl) (gTwo K j m) tt te vs) kl := fun σ H Q E q =>
  h σ H _ E fun v d H1 g1 dn ⟨ds, e, hl, J, C, hk⟩ => by
    subst e
    cases dn with
    | @lst a xs _ e1 h2 =>
      refine ⟨a, rfl, ⟨xs, .inl (.inl (hid_sub _ _ _ _ e1))⟩, fun D hD => lc_list (xs := xs) (fun i H' => Sofar K B L H1 H' D i J)
        ⟨fun a o w e => same_upd hD a o e, fun w hw => ?_, [], [], C.1, Nat.le_refl _, upd_same, .nil⟩ (fun i H' _ S => ?_) (fun i x H' hi S => ?_) (fun H' S => ?_)⟩
      · obtain ⟨n, b, c, e, q⟩ := g1.env.ws w hw
        exact ⟨n, b, c, same_upd hD _ _ e, q⟩
      · have g0 : Go K B G L Γ H1 H' σ := Go.of_rel g1.env S.rl S.ws
        exact .inl (.inl (hid_sub _ _ _ _ (g0.sm _ _ e1)))
      · obtain ⟨d', e', dn'⟩ := h2.getV hi
        rw [List.getElem?_map] at e'
        cases e2 : ds[i]? with
        | none => rw [e2] at e'; cases e'
        | some p =>
          rw [e2] at e'
          cases e'
          exact comp_turn2 g1.env hD C hl hw S e2 (List.getElem?_eq_some_iff.mp e2).1 dn'
      · have g0 : Go K B G L Γ H1 H' σ := Go.of_rel g1.env S.rl S.ws
        obtain ⟨accV, acc, hJ, _, e, dA⟩ := S.it
        rw [h2.length, List.length_map] at hJ
        exact q D accV acc H' (g1.trans g0) (Go.fresh E g1 hD) e dA (hk acc hJ)
theorem wipe2 (i j : Nat) : ∀ (σ : L2.St) (x y : V), L2.wipe (((L2.wipe σ [i, j]).set i (some x)).set j (some y)) [i, j] = L2.wipe σ [i, j] := fun σ x y => by
  show (((((σ.set j none).set i none).set i (some x)).set j (some y)).set j none).set i none = (σ.set j none).set i none
  by_cases e : i = j
  · subst e
    simp only [List.set_set]
  · rw [List.set_set, List.set_set, List.set_comm _ _ (Ne.symm e), List.set_set, List.set_comm _ _ e, List.set_set]
end
end DL
/-! Truth values compared. -/
namespace DL
open PySem PySem.Spec PyProof.Rows L2
section
variable {K : PySem.W.Frag} {B : Bs} {G : List Hp} {L : List Addr} {Γ : List Sl} {H H' H2 : Hp} {σ : L2.St}
variable {te ta tb tc : TE} {tt tu : TT} {tr : TA} {k : PyData → Prop} {x y : PyData}
theorem rok_neB {i j : Bool} (hk : k (.bool (!decide (i = j)))) : ROk K B G L Γ rNe (.bool i) (.bool j) k := fun σ H Q v u E d1 d2 q => by
  rw [dn_bool d1, dn_bool d2]
  refine ⟨rfl, ?_⟩
  have e : decide ((V.bl i) = V.bl j) = decide (i = j) := by
    by_cases h : i = j
    · subst h; simp
    · rw [decide_eq_false h, decide_eq_false (fun z => h (V.bl.inj z))]
  rw [e]
  exact q _ _ H (Go.refl E) (.bl _) hk
theorem rok_eqB {i j : Bool} (hk : k (.bool (decide (i = j)))) : ROk K B G L Γ rEq (.bool i) (.bool j) k := fun σ H Q v u E d1 d2 q => by
  rw [dn_bool d1, dn_bool d2]
  refine ⟨rfl, ?_⟩
  have e : decide ((V.bl i) = V.bl j) = decide (i = j) := by
    by_cases h : i = j
    · subst h; simp
    · rw [decide_eq_false h, decide_eq_false (fun z => h (V.bl.inj z))]
  rw [e]
  exact q _ _ H (Go.refl E) (.bl _) hk
end
end DL
/-! The least common multiple of two numbers; in, not in, index over lists of data. -/
namespace DL
open PySem PySem.Spec PyProof.Rows L2
theorem noP {K : PySem.W.Frag} {pre : List PyData → Prop} {post : List PyData → PyData → Prop} {vs : List V} {H : Hp} {Q : VK} {E : XK} (h : SpP K pre post vs H Q E) (hn : ∀ ds, pre ds → False) : False := by
  obtain ⟨M, ds, _, _, hp, _⟩ := h
  exact hn ds hp
section
open PySem.W
theorem args_lcm2 (a b : Value) : argsOk "math.lcm" ⟨[a, b], []⟩ := by unfold argsOk; kernel_rfl
theorem run_lcm2 (a : Int) (t : Tok) (b : Int) (u : Tok) (hc0 : ¬(max 1 a.natAbs).log2 / 30 + 1 > 450) (hc1 : ¬(max a.natAbs b.natAbs).log2 / 30 + 1 > 450)
    (hsz : ((((Nat.lcm 1 a.natAbs).lcm b.natAbs : Nat) : Int)).natAbs.log2 < bitsLine) :
    Gives (Builtin.«math.lcm» ⟨[.int a t, .int b u], []⟩) (.int ((((Nat.lcm 1 a.natAbs).lcm b.natAbs : Nat) : Int))) :=
  .of_wp fun M A E s Q h => by
    obtain ⟨hp, g, d, tk, os⟩ := s
    wp_walk
    refine wpAny_ite_false (decide_eq_false (Nat.not_le.mpr hsz)) ?_
    wp_walk
    exact ⟨_, rfl, h⟩
theorem call_lcm2 {prog : Program} {w : World} {A : Around} {E : Value → Shared → Prop} {s : Shared} {Q : Value → Shared → Prop} {a b : Int} {t u : Tok}
    (ha : a.natAbs < 2 ^ 1000) (hb : b.natAbs < 2 ^ 1000) (h : Q (.int ((a.natAbs.lcm b.natAbs : Nat) : Int) s.toks) { s with toks := s.toks + 1 }) :
    wpAny (model prog w) A (call (.builtin "math.lcm") [.int a t, .int b u]) Q E s := by
  have l1 : ∀ {n k : Nat}, n < 2 ^ k → 0 < k → n.log2 < k := fun {n k} h k0 => by
    by_cases h0 : n = 0
    · subst h0
      rw [Nat.log2_zero]
      exact k0
    · exact (Nat.log2_lt h0).mpr h
  have e1 : Nat.lcm 1 a.natAbs = a.natAbs := by simp [Nat.lcm]
  have mx : ∀ {m n k : Nat}, m < 2 ^ k → n < 2 ^ k → max m n < 2 ^ k := fun {m n k} h1 h2 => by
    rcases Nat.le_total m n with q | q
    · rw [Nat.max_eq_right q]; exact h2
    · rw [Nat.max_eq_left q]; exact h1
  have one : 1 < 2 ^ 1000 := Nat.one_lt_two_pow (by decide)
  have lb : a.natAbs.lcm b.natAbs < 2 ^ 2000 := by
    refine Nat.lt_of_le_of_lt (mc_lcm_le _ _) ?_
    rw [show 2000 = 1000 + 1000 by rfl, Nat.pow_add]
    exact Nat.mul_lt_mul'' ha hb
  have q0 := l1 (mx one ha) (by decide)
  have q1 := l1 (mx ha hb) (by decide)
  have q3 := l1 lb (by decide)
  have g := run_lcm2 a t b u (by omega) (by omega) (by
    rw [e1, Int.natAbs_natCast]
    exact Nat.lt_of_lt_of_le q3 (by decide))
  rw [e1] at g
  exact call_function_meets MGF.kind_lcm MGF.plain_lcm MGF.entry_lcm (args_lcm2 _ _) g.meets h
end
def rLcm2 : List V → Hp → VK → Prop := fun vs H Q => ∃ a b : Int, vs = [.int a, .int b] ∧ a.natAbs < 2 ^ 1000 ∧ b.natAbs < 2 ^ 1000 ∧ Q (.int ((a.natAbs.lcm b.natAbs : Nat) : Int)) H
theorem cr_lcm2 {X : Cx} : CallR X (.builtin "math.lcm") rLcm2 := by
  intro pins s σ H vs us Q I r h
  obtain ⟨a, b, rfl, ha, hb, q⟩ := h
  cases r with
  | cons r1 r =>
    cases r with
    | cons r2 r =>
      cases r
      obtain ⟨t, rfl⟩ := r1
      obtain ⟨u, rfl⟩ := r2
      exact call_lcm2 ha hb ⟨.int _, H, I.tok _, ⟨_, rfl⟩, q⟩
section
variable {K : PySem.W.Frag} {B : Bs} {G : List Hp} {L : List Addr} {Γ : List Sl} {te tf : TE} {k : PyData → Prop}
theorem cok_lcm2 {a b : Int} (ha : a.natAbs < 2 ^ 1000) (hb : b.natAbs < 2 ^ 1000) (hk : k (.int ((a.natAbs.lcm b.natAbs : Nat) : Int))) : COk K B G L Γ rLcm2 [.int a, .int b] k := fun σ H Q vs E d1 q => by
  cases d1 with
  | cons h1 h2 =>
    cases h2 with
    | cons h2 h3 =>
      cases h3
      cases h1
      cases h2
      exact ⟨a, b, rfl, ha, hb, q _ _ H (Go.refl E) (.int _) hk⟩
theorem rok_inD {x : PyData} {ds : List PyData} (nx : x.hasDict = false) (ny : (PyData.list ds).hasDict = false) (sx : SeqAt.shaped x = true) (sy : SeqAt.shaped (.list ds) = true) (hk : k (.bool (ds.any fun z => PyData.eqv z x))) : ROk K B G L Γ (rInD K) x (.list ds) k := fun σ H Q v u E d1 d2 q =>
  ⟨x, ds, Dn.dp (d1.mono (hid_sub _ _)) nx, Dn.dp (d2.mono (hid_sub _ _)) ny, sx, sy, q _ _ H (Go.refl E) (.bl _) hk⟩
theorem rok_notInD {x : PyData} {ds : List PyData} (nx : x.hasDict = false) (ny : (PyData.list ds).hasDict = false) (sx : SeqAt.shaped x = true) (sy : SeqAt.shaped (.list ds) = true) (hk : k (.bool (!ds.any fun z => PyData.eqv z x))) : ROk K B G L Γ (rNotInD K) x (.list ds) k := fun σ H Q v u E d1 d2 q =>
  ⟨x, ds, Dn.dp (d1.mono (hid_sub _ _)) nx, Dn.dp (d2.mono (hid_sub _ _)) ny, sx, sy, q _ _ H (Go.refl E) (.bl _) hk⟩
theorem ev_indexD (h : EvP K B G L Γ te fun d => ∃ ds : List PyData, d = .list ds ∧ EvP K B G L Γ tf fun x => ∃ (j : Nat) (z : PyData), x.hasDict = false ∧ (PyData.list ds).hasDict = false ∧ SeqAt.shaped x = true ∧ SeqAt.shaped (.list ds) = true ∧ ds[j]? = some z ∧ PyData.eqv z x = true ∧ (∀ (m : Nat) (z' : PyData), m < j → ds[m]? = some z' → PyData.eqv z' x = false) ∧ k (.int ((j : Nat) : Int))) : EvP K B G L Γ (tBM K "list" (rIndexD K) te (tCons tf tNil)) k := fun σ H Q E q =>
  h σ H _ E fun v d H1 g1 dn ⟨ds, ed, h2⟩ => by
    subst ed
    have dn0 := dn
    cases dn with
    | @lst a xs _ e1 dx =>
      refine ⟨.inl ⟨rfl, _, .inl (.inl (hid_sub _ _ _ _ e1))⟩, (ea_cons (kl := fun es => ∃ (x : PyData) (j : Nat) (z : PyData), es = [x] ∧ x.hasDict = false ∧ (PyData.list ds).hasDict = false ∧ SeqAt.shaped x = true ∧ SeqAt.shaped (.list ds) = true ∧ ds[j]? = some z ∧ PyData.eqv z x = true ∧ (∀ (m : Nat) (z' : PyData), m < j → ds[m]? = some z' → PyData.eqv z' x = false) ∧ k (.int ((j : Nat) : Int))) (h2.mono fun e ⟨j, z, r⟩ => ea_nil ⟨e, j, z, rfl, r⟩)) σ H1 _ g1.env fun us es H2 g2 du ⟨x, j, z, ee, nx, ny, sx, sy, hz, hq, hno, hk⟩ => ?_⟩
      subst ee
      cases du with
      | cons d1 d2 =>
        cases d2
        exact ⟨a, _, x, ds, j, z, rfl, rfl, Dn.dp ((dn0.mono g2.sm).mono (hid_sub _ _)) ny, Dn.dp (d1.mono (hid_sub _ _)) nx, sy, sx, hz, hq, hno, q _ _ H2 (g1.trans g2) (.int _) hk⟩
end
end DL
/-! Ranges with a start and with a step down, loops with several targets, enumerate in a comprehension. -/
namespace DL
open PySem PySem.Spec PyProof.Rows L2
section
variable {K : PySem.W.Frag} {B : Bs} {G : List Hp} {L : List Addr} {Γ : List Sl} {H H' H2 : Hp} {σ : L2.St}
variable {te ta tb tc tl : TE} {tt tu : TT} {tr : TA} {k : PyData → Prop} {x y : PyData} {P P' : PD} {t u : TS}
/-- for k in range(a, b) -/
theorem st_forR2 {j : Nat} (h : EvA K B G L Γ tr fun vs => ∃ a b : Int, vs = [.int a, .int b] ∧ -1000000 ≤ a ∧ a ≤ 1000000 ∧ -1000000 ≤ b ∧ b ≤ 1000000 ∧ ∃ I : Nat → List Addr → List Sl → Prop, I 0 L Γ ∧
    (∀ i L' Γ', i < (b - a).toNat → I i L' Γ' → StP K B G L' (Γ'.set j (.d (.int (a + (i : Int))))) t (P.inLoop (I (i + 1)))) ∧ ∀ L' Γ', I (b - a).toNat L' Γ' → P.nx L' Γ') :
    StP K B G L Γ (tFor (iRng2 tr) (gName j) t) P := fun σ H D E M =>
  h σ H _ E fun vs ds H1 g1 dn ⟨a, b, e, a0, a1, b0, b1, I, h0, hs, hd⟩ => by
    subst e
    cases dn with
    | cons d1 d2 =>
      cases d2 with
      | cons d2 d3 =>
        cases d3
        cases d1
        cases d2
        refine ⟨a, b, rfl, ⟨by omega, by omega, by omega, by omega⟩, for_range (lo := a) (n := (b - a).toNat) (fun i σ' H' => ∃ L' Γ', I i L' Γ' ∧ Env K B G L' H' σ' Γ') ⟨L, Γ, h0, g1.env⟩ (fun i σ' H' hi ⟨L', Γ', hI, E'⟩ => ?_) (fun σ' H' ⟨L', Γ', hI, E'⟩ => M.nx _ _ _ _ (hd L' Γ' hI) E')⟩
        exact hs i L' Γ' hi hI _ H' _ (E'.put j (.int _)) ⟨fun L2 Γ2 σ2 H2 q E2 => ⟨L2, Γ2, q, E2⟩, M.rt, M.nx, fun L2 Γ2 σ2 H2 q E2 => ⟨L2, Γ2, q, E2⟩⟩
/-- for k in range(a, b, -1) -/
theorem st_forRd {j : Nat} (h : EvA K B G L Γ tr fun vs => ∃ a b : Int, vs = [.int a, .int b, .int (-1)] ∧ -1000000 ≤ a ∧ a ≤ 1000000 ∧ -1000000 ≤ b ∧ b ≤ 1000000 ∧ ∃ I : Nat → List Addr → List Sl → Prop, I 0 L Γ ∧
    (∀ i L' Γ', i < (a - b).toNat → I i L' Γ' → StP K B G L' (Γ'.set j (.d (.int (a - (i : Int))))) t (P.inLoop (I (i + 1)))) ∧ ∀ L' Γ', I (a - b).toNat L' Γ' → P.nx L' Γ') :
    StP K B G L Γ (tFor (iRng3 tr) (gName j) t) P := fun σ H D E M =>
  h σ H _ E fun vs ds H1 g1 dn ⟨a, b, e, a0, a1, b0, b1, I, h0, hs, hd⟩ => by
    subst e
    cases dn with
    | cons d1 d2 =>
      cases d2 with
      | cons d2 d3 =>
        cases d3 with
        | cons d3 d4 =>
          cases d4
          cases d1
          cases d2
          cases d3
          refine ⟨a, b, -1, (a - b).toNat, rfl, RgC.neg (by omega) (by omega) (by omega) (by omega), for_rangeC (lo := a) (c := -1) (n := (a - b).toNat) (fun i σ' H' => ∃ L' Γ', I i L' Γ' ∧ Env K B G L' H' σ' Γ') ⟨L, Γ, h0, g1.env⟩ (fun i σ' H' hi ⟨L', Γ', hI, E'⟩ => ?_) (fun σ' H' ⟨L', Γ', hI, E'⟩ => M.nx _ _ _ _ (hd L' Γ' hI) E')⟩
          have e0 : a + (i : Int) * (-1) = a - (i : Int) := by omega
          rw [e0]
          exact hs i L' Γ' hi hI _ H' _ (E'.put j (.int _)) ⟨fun L2 Γ2 σ2 H2 q E2 => ⟨L2, Γ2, q, E2⟩, M.rt, M.nx, fun L2 Γ2 σ2 H2 q E2 => ⟨L2, Γ2, q, E2⟩⟩
/-- for a, b, .. in a tuple of tuples -/
theorem st_forTG {n : Nat} {tg : TGs} (h : EvP K B G L Γ tl fun d => ∃ ds : List (List PyData), d = .tuple (ds.map .tuple) ∧ (∀ d ∈ ds, d.length = n) ∧ ∃ I : Nat → List Addr → List Sl → Prop, I 0 L Γ ∧
    (∀ i d' L' Γ' g, ds[i]? = some d' → I i L' Γ' → TgP K B (g :: G) L' Γ' tg d' fun Γ2 => StP K B (g :: G) L' Γ2 t (P.inLoop (I (i + 1)))) ∧ ∀ L' Γ', I ds.length L' Γ' → P.nx L' Γ') :
    StP K B G L Γ (tFor (iTup K tl) (gTup K n tg) t) P := fun σ H D E M =>
  h σ H _ E fun v d H1 g1 dn ⟨ds, e, hn, I, h0, hs, hd⟩ => by
    subst e
    cases dn with
    | @tup a xs _ e1 h2 =>
      have E1 := g1.env.gpush
      refine ⟨a, rfl, ⟨xs, Same.sqt (hid_sub _ _) e1⟩, for_tup (xs := xs) (fun i σ' H' => ∃ L' Γ', I i L' Γ' ∧ Env K B (hid (L ++ B.M) H1 :: G) L' H' σ' Γ') ⟨L, Γ, h0, E1⟩ (fun i σ' H' _ ⟨L', Γ', _, E'⟩ => ?_) (fun i x σ' H' hi ⟨L', Γ', hI, E'⟩ => ?_) (fun σ' H' ⟨L', Γ', hI, E'⟩ => ?_)⟩
      · exact Same.sqt (hid_sub _ _) (Same.sqt (E'.gh _ (List.mem_cons_self ..)) e1)
      · obtain ⟨d', e', dn'⟩ := h2.getV hi
        rw [List.getElem?_map] at e'
        cases e2 : ds[i]? with
        | none => rw [e2] at e'; cases e'
        | some q =>
          rw [e2] at e'
          cases e'
          cases dn'.mono (E'.gh _ (List.mem_cons_self ..)) with
          | @tup a2 ys _ e3 h3 =>
            refine ⟨a2, ys, rfl, Same.sqt (hid_sub _ _) e3, by rw [h3.length]; exact hn q (List.mem_of_getElem? e2), hs i q L' Γ' _ e2 hI σ' H' ys _ E' h3 fun Γ2 σ2 E2 hk => ?_⟩
            exact hk σ2 H' _ E2 ⟨fun L2 Γ2 σ2 H2 q E2 => ⟨L2, Γ2, q, E2⟩, M.rt, fun L2 Γ2 σ2 H2 q E2 => M.nx _ _ _ _ q E2.gpop, fun L2 Γ2 σ2 H2 q E2 => ⟨L2, Γ2, q, E2⟩⟩
      · have hl := h2.length
        rw [List.length_map] at hl
        rw [hl] at hI
        exact M.nx _ _ _ _ (hd L' Γ' hI) E'.gpop
/-- for a, b, .. in a list of tuples -/
theorem st_forLG {n : Nat} {tg : TGs} (h : EvP K B G L Γ tl fun d => ∃ ds : List (List PyData), d = .list (ds.map .tuple) ∧ (∀ d ∈ ds, d.length = n) ∧ ∃ I : Nat → List Addr → List Sl → Prop, I 0 L Γ ∧
    (∀ i d' L' Γ' g, ds[i]? = some d' → I i L' Γ' → TgP K B (g :: G) L' Γ' tg d' fun Γ2 => StP K B (g :: G) L' Γ2 t (P.inLoop (I (i + 1)))) ∧ ∀ L' Γ', I ds.length L' Γ' → P.nx L' Γ') :
    StP K B G L Γ (tFor (iList K tl) (gTup K n tg) t) P := fun σ H D E M =>
  h σ H _ E fun v d H1 g1 dn ⟨ds, e, hn, I, h0, hs, hd⟩ => by
    subst e
    cases dn with
    | @lst a xs _ e1 h2 =>
      have E1 := g1.env.gpush
      refine ⟨a, rfl, ⟨xs, .inl (.inl (hid_sub _ _ _ _ e1))⟩, for_list (xs := xs) (fun i σ' H' => ∃ L' Γ', I i L' Γ' ∧ Env K B (hid (L ++ B.M) H1 :: G) L' H' σ' Γ') ⟨L, Γ, h0, E1⟩ (fun i σ' H' _ ⟨L', Γ', _, E'⟩ => ?_) (fun i x σ' H' hi ⟨L', Γ', hI, E'⟩ => ?_) (fun σ' H' ⟨L', Γ', hI, E'⟩ => ?_)⟩
      · exact .inl (.inl (hid_sub _ _ _ _ (E'.gh _ (List.mem_cons_self ..) _ _ e1)))
      · obtain ⟨d', e', dn'⟩ := h2.getV hi
        rw [List.getElem?_map] at e'
        cases e2 : ds[i]? with
        | none => rw [e2] at e'; cases e'
        | some q =>
          rw [e2] at e'
          cases e'
          cases dn'.mono (E'.gh _ (List.mem_cons_self ..)) with
          | @tup a2 ys _ e3 h3 =>
            refine ⟨a2, ys, rfl, Same.sqt (hid_sub _ _) e3, by rw [h3.length]; exact hn q (List.mem_of_getElem? e2), hs i q L' Γ' _ e2 hI σ' H' ys _ E' h3 fun Γ2 σ2 E2 hk => ?_⟩
            exact hk σ2 H' _ E2 ⟨fun L2 Γ2 σ2 H2 q E2 => ⟨L2, Γ2, q, E2⟩, M.rt, fun L2 Γ2 σ2 H2 q E2 => M.nx _ _ _ _ q E2.gpop, fun L2 Γ2 σ2 H2 q E2 => ⟨L2, Γ2, q, E2⟩⟩
      · have hl := h2.length
        rw [List.length_map] at hl
        rw [hl] at hI
        exact M.nx _ _ _ _ (hd L' Γ' hI) E'.gpop
/-- a, b = DATA, (a new list), kept as one's own -/
theorem st_parDO {i j : Nat} (h : EvP K B G L Γ ta fun x => EvN K B G L Γ tb fun ys => ∀ l : Addr, P.nx (l :: L) ((Γ.set i (.d x)).set j (.own l ys))) : StP K B G L Γ (tPar i j (tCons ta (tCons tb tNil))) P := fun σ H D E M =>
  h σ H _ E fun v x H1 g1 dx h2 => h2 σ H1 _ g1.env fun p vs ys H2 g2 hp hv dv hk => by
    have E1 := g1.env.put i dx
    have g3 := Go.step E1 g2.rl g2.env.ws
    have E2 := Env.take E1 g3 hp hv j dv
    exact ⟨_, _, rfl, M.nx _ _ _ _ (hk p) E2⟩
theorem comp_turnE {j m n : Nat} {vs : List Nat} {item : Nat → PyData → PyData → Prop} {J : Nat → List PyData → Prop} {H1 : Hp} {D : Addr} {i : Nat} {x y : PyData} (E1 : Env K B G L H1 σ Γ) (hD : H1 D = none) (C : CompOk2 K B G L Γ j m tt te vs n item J) (hn : n ≤ 100000)
    (hw : ∀ (σ : L2.St) x y, L2.wipe (((L2.wipe σ vs).set j (some x)).set m (some y)) vs = L2.wipe σ vs)
    (S : Sofar K B L H1 H' D i J) (hi : item i x y) (hin : i < n) {a : Addr} {v1 v2 : V} (e1 : SqT K H' a [v1, v2]) (d1 : Dn K (hid (L ++ B.M) H1) v1 x) (d2 : Dn K (hid (L ++ B.M) H1) v2 y) :
    gTwo K j m (.ref a) (L2.wipe σ vs) H' fun σ2 H2 => L2.wipe σ2 vs = L2.wipe σ vs ∧ tt σ2 H2 fun b H3 => if b = true then te σ2 H3 fun z H4 => ∃ acc, H4 D = some (.lst acc) ∧ acc.length < sizeLine ∧ Sofar K B L H1 (upd H4 D (.lst (acc ++ [z]))) D (i + 1) J else Sofar K B L H1 H3 D (i + 1) J := by
  obtain ⟨rl, ws, accV, acc, hJ, hlen, hDl, dA⟩ := S
  have g0 : Go K B G L Γ H1 H' σ := Go.of_rel E1 rl ws
  have ET := Env.temp E1 g0 hD hDl
  have hk0 : Same (hid (L ++ B.M) H1) (hid (D :: L ++ B.M) H') := g0.keepL E1 hD
  refine ⟨a, _, rfl, e1, rfl, v1, _, rfl, v2, _, rfl, rfl, hw σ v1 v2, ?_⟩
  have EW := ((ET.wipe vs).put j (d1.mono hk0)).put m (d2.mono hk0)
  refine C.2 i D x y acc hi hJ hin _ H' _ EW fun b H3 g3 ⟨c1, c2⟩ => ?_
  have D3 : H3 D = some (.lst accV) := g3.kp D (List.mem_cons_self ..) _ hDl
  cases b with
  | false =>
    refine iteF ⟨fun a o w e => g3.rl a o w (rl a o w e), g3.env.ws, accV, acc, c2 rfl, by omega, D3, dA.mono g3.sm⟩
  | true =>
    refine iteT (c1 rfl _ H3 _ g3.env fun y d H4 g4 dy hJ' => ?_)
    have D4 : H4 D = some (.lst accV) := g4.kp D (List.mem_cons_self ..) _ D3
    refine ⟨accV, D4, ?_, ?_⟩
    · rw [dA.length]
      exact Nat.lt_of_le_of_lt hlen (Nat.lt_of_lt_of_le (Nat.lt_of_lt_of_le hin hn) (by decide))
    · have hs : Same (hid (D :: (L ++ B.M)) H4) (hid (D :: (L ++ B.M)) (upd H4 D (.lst (accV ++ [y])))) := fun a o e => by
        obtain ⟨q, e⟩ := hid_some e
        rw [hid_out q, upd_ne (fun z => q (by rw [z]; exact List.mem_cons_self ..))]
        exact e
      have dW : D ∉ B.Ws := fun w => by
        obtain ⟨_, _, _, q, _⟩ := E1.ws D w
        rw [hD] at q; cases q
      refine ⟨fun a o w e => ?_, fun w hw => ?_, accV ++ [y], acc ++ [d], hJ', by rw [List.length_append]; exact Nat.succ_le_succ hlen, upd_same, ?_⟩
      · rw [upd_ne (ne_of_none e hD)]
        exact g4.rl a o w (g3.rl a o w (rl a o w e))
      · obtain ⟨n, b, c, e, q⟩ := g4.env.ws w hw
        exact ⟨n, b, c, by rw [upd_ne (fun (z : w = D) => dW (by rw [← z]; exact hw))]; exact e, q⟩
      · exact ((dA.mono g3.sm).mono g4.sm |>.append (.cons dy .nil)).mono hs
theorem lc_enumT {a : Addr} {xs : List V} {g : TG} {tt : TT} {te : TE} {vs : List Nat} {σ : L2.St} {H1 : Hp} {D : Addr} {Qd : Hp → Prop} (Pv : Nat → Hp → Prop) (h0 : Pv 0 (upd H1 D (.lst []))) (hl : ∀ i H, i ≤ xs.length → Pv i H → SqT K H a xs)
    (hs : ∀ i x T H, xs[i]? = some x → Pv i H → H T = none → g (.ref T) (L2.wipe σ vs) (upd H T (.tup [.int (i : Nat), x])) fun σ2 H2 => L2.wipe σ2 vs = L2.wipe σ vs ∧ tt σ2 H2 fun b H3 =>
      if b = true then te σ2 H3 fun y H4 => ∃ acc, H4 D = some (.lst acc) ∧ acc.length < sizeLine ∧ Pv (i + 1) (upd H4 D (.lst (acc ++ [y]))) else Pv (i + 1) H3) (hd : ∀ H, Pv xs.length H → Qd H) :
    ∃ W : Nat → Nat → Hp → Prop, (∃ m, W 0 m (upd H1 D (.lst []))) ∧ ∀ i m H, W i m H →
      ((IteT K a).stop i H ∧ Qd H) ∨ ((IteT K a).go i H ∧ ∃ Nx : Hp → Prop, (∀ H', Nx H' → ∃ m', m' < m ∧ W (i + 1) m' H') ∧ ∀ x H', (IteT K a).yld i H x H' → g x (L2.wipe σ vs) H' fun σ2 H2 => L2.wipe σ2 vs = L2.wipe σ vs ∧ tt σ2 H2 fun b H3 =>
        if b = true then te σ2 H3 fun y H4 => ∃ acc, H4 D = some (.lst acc) ∧ acc.length < sizeLine ∧ Nx (upd H4 D (.lst (acc ++ [y]))) else Nx H3) := by
  refine ⟨fun i m H => m = xs.length - i ∧ i ≤ xs.length ∧ Pv i H, ⟨xs.length, by simp, Nat.zero_le _, h0⟩, ?_⟩
  rintro i m H ⟨rfl, hi, p⟩
  have q := hl i H hi p
  by_cases hlt : i < xs.length
  · refine .inr ⟨⟨xs, xs[i], q, by simp [hlt]⟩, Pv (i + 1), fun H' p' => ⟨xs.length - (i + 1), by omega, rfl, hlt, p'⟩, fun v H' y => ?_⟩
    obtain ⟨T, x, rfl, hT, rfl, hx⟩ := y
    exact hs i x T H (hx xs q) p hT
  · have e : i = xs.length := by omega
    subst e
    exact .inl ⟨⟨xs, q, Nat.le_refl _⟩, hd H p⟩
theorem Sofar.newT {H1 : Hp} {D T : Addr} {i : Nat} {J : Nat → List PyData → Prop} {o : HO} (E1 : Env K B G L H1 σ Γ) (hD : H1 D = none) (S : Sofar K B L H1 H' D i J) (hT : H' T = none) : Sofar K B L H1 (upd H' T o) D i J := by
  obtain ⟨rl, ws, accV, acc, hJ, hlen, hDl, dA⟩ := S
  have s : Same H' (upd H' T o) := same_upd hT
  exact ⟨fun a x w e => s _ _ (rl a x w e), fun w hw => by
    obtain ⟨n, b, c, e, q⟩ := ws w hw
    exact ⟨n, b, c, s _ _ e, q⟩, accV, acc, hJ, hlen, s _ _ hDl, dA.mono (hid_same fun a x _ e => s _ _ e)⟩
/-- [.. for i, x in enumerate(a tuple) if ..] -/
theorem en_lcE {j m : Nat} {vs : List Nat} {kl : List PyData → Prop} (hw : ∀ (σ : L2.St) x y, L2.wipe (((L2.wipe σ vs).set j (some x)).set m (some y)) vs = L2.wipe σ vs)
    (h : EvA K B G L Γ tr fun ws => ∃ ds : List PyData, ws = [.tuple ds] ∧ ds.length ≤ 100000 ∧ ∃ J, CompOk2 K B G L Γ j m tt te vs ds.length (fun i x y => x = .int (i : Int) ∧ ds[i]? = some y) J ∧ ∀ acc, J ds.length acc → kl acc) :
    EvN K B G L Γ (tLc (iEnumT K tr) (gTwo K j m) tt te vs) kl := fun σ H Q E q =>
  h σ H _ E fun ws dd H1 g1 dn ⟨ds, e, hl, J, C, hk⟩ => by
    subst e
    cases dn with
    | cons dn dn2 =>
      cases dn2
      cases dn with
      | @tup a xs _ e1 h2 =>
        refine ⟨a, xs, rfl, Same.sqt (hid_sub _ _) e1, fun D hD => lc_enumT (xs := xs) (fun i H' => Sofar K B L H1 H' D i J)
          ⟨fun a o w e => same_upd hD a o e, fun w hw => ?_, [], [], C.1, Nat.le_refl _, upd_same, .nil⟩ (fun i H' _ S => ?_) (fun i x T H' hi S hT => ?_) (fun H' S => ?_)⟩
        · obtain ⟨n, b, c, e, q⟩ := g1.env.ws w hw
          exact ⟨n, b, c, same_upd hD _ _ e, q⟩
        · have g0 : Go K B G L Γ H1 H' σ := Go.of_rel g1.env S.rl S.ws
          exact Same.sqt (hid_sub _ _) (Same.sqt g0.sm e1)
        · obtain ⟨d', e', dn'⟩ := h2.getV hi
          exact comp_turnE g1.env hD C hl hw (S.newT g1.env hD hT) ⟨rfl, e'⟩ (List.getElem?_eq_some_iff.mp e').1 (.inl (.inl upd_same)) (.int _) dn'
        · have g0 : Go K B G L Γ H1 H' σ := Go.of_rel g1.env S.rl S.ws
          obtain ⟨accV, acc, hJ, _, e, dA⟩ := S.it
          rw [h2.length] at hJ
          exact q D accV acc H' (g1.trans g0) (Go.fresh E g1 hD) e dA (hk acc hJ)
end
end DL
/-! Fractions, rows, the run of a line: what they are, apart from any program. -/
namespace Mx
open PySem

abbrev Fr := Int × Int
def frD (x : Fr) : PyData := .tuple [.int x.1, .int x.2]
def FOk (x : Fr) : Prop := 0 < x.2 ∧ Nat.gcd x.1.natAbs x.2.natAbs = 1
def val (x : Fr) : Rat := (x.1 : Rat) / (x.2 : Rat)

theorem ratInt_ne {a : Int} (h : a ≠ 0) : (a : Rat) ≠ 0 := fun z => h (Rat.intCast_inj.mp (z.trans (by rfl)))
theorem ratInt_pos {a : Int} (h : 0 < a) : (0 : Rat) < (a : Rat) := by
  have := Rat.intCast_lt_intCast.mpr h
  exact this
theorem val_eq {x : Fr} {n d : Int} (hx : 0 < x.2) (hd : 0 < d) : val x = (n : Rat) / (d : Rat) ↔ x.1 * d = n * x.2 := by
  have h1 : (x.2 : Rat) ≠ 0 := ratInt_ne (by omega)
  have h2 : (d : Rat) ≠ 0 := ratInt_ne (by omega)
  constructor
  · intro h
    have h3 : (x.1 : Rat) * d = n * x.2 := by
      unfold val at h
      grind
    have h4 : ((x.1 * d : Int) : Rat) = ((n * x.2 : Int) : Rat) := by
      rw [Rat.intCast_mul, Rat.intCast_mul]
      exact h3
    exact Rat.intCast_inj.mp h4
  · intro h
    have h4 : ((x.1 * d : Int) : Rat) = ((n * x.2 : Int) : Rat) := by rw [h]
    rw [Rat.intCast_mul, Rat.intCast_mul] at h4
    unfold val
    grind
/-- a reduced fraction that is u / S is no longer than these -/
theorem FOk.small {x : Fr} {u S : Int} (h : FOk x) (hS : 0 < S) (e : val x * (S : Rat) = (u : Rat)) : x.1.natAbs ≤ u.natAbs ∧ x.2.natAbs ≤ S.natAbs ∧ ∃ c : Int, 0 < c ∧ S = x.2 * c ∧ u = x.1 * c := by
  obtain ⟨h1, h2⟩ := h
  have hs : (S : Rat) ≠ 0 := ratInt_ne (by omega)
  have e2 : val x = (u : Rat) / (S : Rat) := by grind
  have e3 := (val_eq h1 hS).mp e2
  have d1 : x.2.natAbs ∣ S.natAbs := by
    have : x.2 ∣ x.1 * S := ⟨u, by rw [e3]; exact Int.mul_comm _ _⟩
    have h3 : x.2.natAbs ∣ x.1.natAbs * S.natAbs := by
      rw [← Int.natAbs_mul]
      exact Int.natAbs_dvd_natAbs.mpr this
    exact (Nat.Coprime.dvd_of_dvd_mul_left (show Nat.Coprime x.2.natAbs x.1.natAbs by
      unfold Nat.Coprime
      rw [Nat.gcd_comm]
      exact h2) h3)
  obtain ⟨c, hc⟩ := Int.natAbs_dvd_natAbs.mp d1
  have hc0 : 0 < c := by
    rcases Int.lt_trichotomy c 0 with q | q | q
    · have := Int.mul_neg_of_pos_of_neg h1 q
      omega
    · rw [q] at hc
      omega
    · exact q
  have e4 : u = x.1 * c := by
    rw [hc] at e3
    have : x.2 * (x.1 * c) = x.2 * u := by rw [Int.mul_comm x.2 u, ← e3]; grind
    exact (Int.eq_of_mul_eq_mul_left (by omega) this).symm
  refine ⟨?_, ?_, c, hc0, hc, e4⟩
  · rw [e4, Int.natAbs_mul]
    exact Nat.le_mul_of_pos_right _ (by omega)
  · rw [hc, Int.natAbs_mul]
    exact Nat.le_mul_of_pos_right _ (by omega)
theorem FOk.inj {x y : Fr} (hx : FOk x) (hy : FOk y) (e : val x = val y) : x = y := by
  have e1 := (val_eq (n := y.1) hx.1 hy.1).mp (by rw [e]; rfl)
  obtain ⟨_, h2, c, hc, e3, e4⟩ := hx.small (u := y.1) hy.1 (by
    rw [e]
    have := ratInt_ne (a := y.2) (by have := hy.1; omega)
    unfold val
    grind)
  obtain ⟨_, h5, _⟩ := hy.small (u := x.1) hx.1 (by
    rw [← e]
    have := ratInt_ne (a := x.2) (by have := hx.1; omega)
    unfold val
    grind)
  have h1 := hx.1
  have h3 := hy.1
  have : x.2 = y.2 := by omega
  rw [this] at e1
  have : x.1 = y.1 := Int.eq_of_mul_eq_mul_right (by omega) e1
  exact Prod.ext this (by assumption)

/-! ### rows of whole numbers -/
def gcdL : List Int → Nat
  | [] => 0
  | x :: xs => Nat.gcd x.natAbs (gcdL xs)
def prim (u : List Int) : List Int := u.map fun x => x / (gcdL u : Int)
theorem gcdL_dvd : ∀ {u : List Int} {x : Int}, x ∈ u → ((gcdL u : Nat) : Int) ∣ x
  | y :: ys, x, h => by
    rcases List.mem_cons.mp h with rfl | h
    · exact Int.ofNat_dvd_left.mpr (Nat.gcd_dvd_left _ _)
    · exact Int.dvd_trans (Int.ofNat_dvd.mpr (Nat.gcd_dvd_right _ _)) (gcdL_dvd h)
theorem gcdL_pos {u : List Int} (h : ∃ x ∈ u, x ≠ 0) : 0 < gcdL u := by
  obtain ⟨x, hx, hn⟩ := h
  rcases Nat.eq_zero_or_pos (gcdL u) with z | z
  · have := gcdL_dvd hx
    rw [z] at this
    exact absurd (Int.zero_dvd.mp this) hn
  · exact z
theorem gcdL_mul (a : Nat) : ∀ u : List Int, gcdL (u.map fun x => (a : Int) * x) = a * gcdL u
  | [] => by simp [gcdL]
  | x :: xs => by
    simp only [List.map_cons, gcdL]
    rw [gcdL_mul a xs, Int.natAbs_mul, Int.natAbs_natCast, Nat.gcd_mul_left]
theorem prim_mul {a : Nat} (h : 0 < a) (u : List Int) : prim (u.map fun x => (a : Int) * x) = prim u := by
  unfold prim
  rw [gcdL_mul, List.map_map]
  apply List.map_congr_left
  intro x _
  simp only [Function.comp]
  rw [Int.natCast_mul, Int.mul_ediv_mul_of_pos _ _ (by omega)]
/-- rows that are one another times numbers above 0 -/
theorem prim_eq {u v : List Int} {a b : Int} (ha : 0 < a) (hb : 0 < b) (hl : u.length = v.length) (h : ∀ k : Nat, a * u.getD k 0 = b * v.getD k 0) : prim u = prim v := by
  obtain ⟨m, rfl⟩ := Int.eq_ofNat_of_zero_le (Int.le_of_lt ha)
  obtain ⟨n, rfl⟩ := Int.eq_ofNat_of_zero_le (Int.le_of_lt hb)
  rw [← prim_mul (a := m) (by omega) u, ← prim_mul (a := n) (by omega) v]
  congr 1
  apply List.ext_getElem
  · simp [hl]
  · intro k h1 h2
    have h1' : k < u.length := by simpa using h1
    have h2' : k < v.length := by simpa using h2
    have := h k
    simp only [List.getElem_map]
    rw [List.getD_eq_getElem?_getD, List.getD_eq_getElem?_getD, List.getElem?_eq_getElem h1', List.getElem?_eq_getElem h2'] at this
    simpa using this
theorem prim_len (u : List Int) : (prim u).length = u.length := by simp [prim]
theorem prim_get (u : List Int) (k : Nat) : (prim u).getD k 0 = u.getD k 0 / (gcdL u : Int) := by
  unfold prim
  by_cases h : k < u.length
  · simp [List.getD_eq_getElem?_getD, h]
  · simp [List.getD_eq_getElem?_getD, h]
theorem mem_getD {u : List Int} {k : Nat} (h : u.getD k 0 ≠ 0) : u.getD k 0 ∈ u := by
  by_cases q : k < u.length
  · rw [List.getD_eq_getElem?_getD, List.getElem?_eq_getElem q]
    simp
  · exfalso
    apply h
    rw [List.getD_eq_getElem?_getD, List.getElem?_eq_none (by omega)]
    rfl
/-- signs stay -/
theorem prim_sign (u : List Int) (k : Nat) : (0 < (prim u).getD k 0 ↔ 0 < u.getD k 0) ∧ ((prim u).getD k 0 < 0 ↔ u.getD k 0 < 0) := by
  rw [prim_get]
  by_cases h : u.getD k 0 = 0
  · rw [h]
    simp
  · have hm := mem_getD h
    have hp := gcdL_pos ⟨_, hm, h⟩
    obtain ⟨c, hc⟩ := gcdL_dvd hm
    generalize u.getD k 0 = x at *
    subst hc
    rw [Int.mul_ediv_cancel_left _ (by omega)]
    refine ⟨⟨fun h => Int.mul_pos (by omega) h, fun h => ?_⟩, ⟨fun h => Int.mul_neg_of_pos_of_neg (by omega) h, fun h => ?_⟩⟩
    · exact Int.pos_of_mul_pos_right h (by omega)
    · exact Int.neg_of_mul_neg_right h (by omega)
theorem prim_abs (u : List Int) (k : Nat) : ((prim u).getD k 0).natAbs ≤ (u.getD k 0).natAbs := by
  rw [prim_get]
  by_cases h : u.getD k 0 = 0
  · rw [h]; simp
  · have hm := mem_getD h
    have hp := gcdL_pos ⟨_, hm, h⟩
    rw [Int.natAbs_ediv_of_dvd (gcdL_dvd hm)]
    exact Nat.div_le_self _ _

/-! ### trimming -/
def trim (u : List Int) : List Int := (u.reverse.dropWhile (· == 0)).reverse
theorem trim_id {u : List Int} (h : u.getLast? ≠ some 0) : trim u = u := by
  unfold trim
  cases e : u.reverse with
  | nil => simp [List.reverse_eq_nil_iff.mp e]
  | cons x xs =>
    have : u = (x :: xs).reverse := by rw [← e, List.reverse_reverse]
    have hx : x ≠ 0 := by
      intro z
      apply h
      rw [this, z]
      simp
    rw [List.dropWhile_cons]
    rw [if_neg (by simpa using hx)]
    exact this.symm

/-! ### the run -/
def sh (t : Nat → Rat) : Nat → Rat
  | 0 => 0
  | k + 1 => t k
/-- the torque behind shaft i and the angle of disc i, by powers of the pace -/
def run (J K : Nat → Rat) : Nat → (Nat → Rat) × (Nat → Rat)
  | 0 => (fun k => if k = 0 then K 0 else 0, fun k => if k = 0 then 1 else 0)
  | i + 1 => (fun k => (run J K i).1 k - J i * sh (run J K i).2 k, fun k => (run J K i).2 k + ((run J K i).1 k - J i * sh (run J K i).2 k) / K (i + 1))
def tq (J K : Nat → Rat) (i : Nat) : Nat → Rat := (run J K i).1
def tn (J K : Nat → Rat) (i : Nat) : Nat → Rat := (run J K i).2
theorem tq_succ (J K : Nat → Rat) (i k : Nat) : tq J K (i + 1) k = tq J K i k - J i * sh (tn J K i) k := rfl
theorem tn_succ (J K : Nat → Rat) (i k : Nat) : tn J K (i + 1) k = tn J K i k + tq J K (i + 1) k / K (i + 1) := rfl
/-- the end of a line of n + 1 discs -/
def en (J K : Nat → Rat) (n : Nat) : Nat → Rat := fun k => tq J K (n + 1) k + K (n + 1) * tn J K n k
theorem run_scale {J K : Nat → Rat} {x : Rat} (hx : x ≠ 0) : ∀ (i k : Nat), (∀ j, 0 < j → j ≤ i → K j ≠ 0) → tq (fun i => x * J i) (fun i => x * K i) i k = x * tq J K i k ∧ tn (fun i => x * J i) (fun i => x * K i) i k = tn J K i k
  | 0, k, _ => by
    unfold tq tn run
    constructor
    · by_cases h : k = 0
      · simp [h]
      · simp [h]
    · rfl
  | i + 1, k, hK => by
    have ih := fun k => run_scale (J := J) hx i k fun j h1 h2 => hK j h1 (by omega)
    have hs : sh (tn (fun i => x * J i) (fun i => x * K i) i) k = sh (tn J K i) k := by
      cases k with
      | zero => rfl
      | succ k => exact (ih k).2
    have hk := hK (i + 1) (by omega) (by omega)
    rw [tn_succ, tn_succ, tq_succ, tq_succ, hs, (ih k).1, (ih k).2]
    constructor
    · grind
    · grind
theorem en_scale {J K : Nat → Rat} {x : Rat} (hx : x ≠ 0) (n k : Nat) (hK : ∀ j, 0 < j → j ≤ n → K j ≠ 0) : en (fun i => x * J i) (fun i => x * K i) n k = x * en J K n k := by
  have a := fun k => run_scale (J := J) hx n k hK
  have hs : sh (tn (fun i => x * J i) (fun i => x * K i) n) k = sh (tn J K n) k := by
    cases k with
    | zero => rfl
    | succ k => exact (a k).2
  unfold en
  rw [tq_succ, tq_succ, hs, (a k).1, (a k).2]
  grind

/-- what is beyond the degree, the lead, and what stands at 0 -/
def alt (i : Nat) : Rat := if i % 2 = 0 then 1 else -1
theorem alt_succ (i : Nat) : alt (i + 1) = - alt i := by
  unfold alt
  rcases Nat.mod_two_eq_zero_or_one i with h | h
  · rw [if_neg (by omega), if_pos h]
  · rw [if_pos (by omega), if_neg (by omega)]
    rfl
theorem run_shape {J K : Nat → Rat} : ∀ i : Nat, (∀ j, j < i → 0 < J j) → (∀ j, 0 < j → j ≤ i → 0 < K j) →
    (∀ k, i < k → tq J K i k = 0 ∧ tn J K i k = 0) ∧ 0 < alt i * tn J K i i ∧ tq J K i 0 = K 0 ∧ (0 ≤ K 0 → 0 < tn J K i 0)
  | 0, _, _ => by
    refine ⟨fun k hk => ?_, ?_, rfl, fun _ => ?_⟩
    · unfold tq tn run
      simp [show ¬ k = 0 by omega]
    · show (0 : Rat) < 1 * 1
      decide +kernel
    · show (0 : Rat) < 1
      decide +kernel
  | i + 1, hJ, hK => by
    obtain ⟨h1, h2, h3, h4⟩ := run_shape i (fun j h => hJ j (by omega)) (fun j a b => hK j a (by omega))
    have hk := hK (i + 1) (by omega) (by omega)
    have hj := hJ i (by omega)
    have t1 : tq J K (i + 1) (i + 1) = - (J i * tn J K i i) := by
      rw [tq_succ, (h1 (i + 1) (by omega)).1]
      show 0 - J i * tn J K i i = _
      grind
    refine ⟨fun k h => ?_, ?_, ?_, fun h0 => ?_⟩
    · have a : tq J K (i + 1) k = 0 := by
        rw [tq_succ, (h1 k (by omega)).1]
        match k, h with
        | k + 1, h =>
          show 0 - J i * tn J K i k = 0
          rw [(h1 k (by omega)).2]
          grind
      refine ⟨a, ?_⟩
      rw [tn_succ, a, (h1 k (by omega)).2]
      grind
    · rw [tn_succ, t1, (h1 (i + 1) (by omega)).2, alt_succ]
      have : -alt i * (0 + -(J i * tn J K i i) / K (i + 1)) = J i * (alt i * tn J K i i) / K (i + 1) := by grind
      rw [this, Rat.div_def]
      exact Rat.mul_pos (Rat.mul_pos hj h2) (Rat.inv_pos.mpr hk)
    · rw [tq_succ, h3]
      show K 0 - J i * 0 = K 0
      grind
    · rw [tn_succ, tq_succ, h3]
      show 0 < tn J K i 0 + (K 0 - J i * 0) / K (i + 1)
      have h5 := h4 h0
      have h6 : 0 ≤ K 0 / K (i + 1) := by
        rw [Rat.div_def]
        exact Rat.mul_nonneg h0 (Rat.le_of_lt (Rat.inv_pos.mpr hk))
      grind
theorem tq_lead {J K : Nat → Rat} (i : Nat) (hJ : ∀ j, j < i + 1 → 0 < J j) (hK : ∀ j, 0 < j → j ≤ i → 0 < K j) : (∀ k, i + 1 < k → tq J K (i + 1) k = 0) ∧ 0 < alt (i + 1) * tq J K (i + 1) (i + 1) ∧ tq J K (i + 1) 0 = K 0 := by
  obtain ⟨h1, h2, h3, h4⟩ := run_shape i (fun j h => hJ j (by omega)) hK
  have hj := hJ i (by omega)
  refine ⟨fun k h => ?_, ?_, ?_⟩
  · rw [tq_succ, (h1 k (by omega)).1]
    match k, h with
    | k + 1, h =>
      show 0 - J i * tn J K i k = 0
      rw [(h1 k (by omega)).2]
      grind
  · rw [tq_succ, (h1 (i + 1) (by omega)).1, alt_succ]
    show 0 < -alt i * (0 - J i * tn J K i i)
    have : -alt i * (0 - J i * tn J K i i) = J i * (alt i * tn J K i i) := by grind
    rw [this]
    exact Rat.mul_pos hj h2
  · rw [tq_succ, h3]
    show K 0 - J i * 0 = K 0
    grind
theorem en_shape {J K : Nat → Rat} (n : Nat) (hJ : ∀ j, j < n + 1 → 0 < J j) (hK : ∀ j, 0 < j → j ≤ n → 0 < K j) (h0 : 0 ≤ K 0) (hn : 0 ≤ K (n + 1)) :
    (∀ k, n + 1 < k → en J K n k = 0) ∧ 0 < alt (n + 1) * en J K n (n + 1) ∧ (K 0 = 0 → K (n + 1) = 0 → en J K n 0 = 0) ∧ (0 < K 0 ∨ 0 < K (n + 1) → 0 < en J K n 0) := by
  obtain ⟨h1, h2, h3, h4⟩ := run_shape n (fun j h => hJ j (by omega)) hK
  obtain ⟨g1, g2, g3⟩ := tq_lead n hJ hK
  unfold en
  refine ⟨fun k h => ?_, ?_, fun a b => ?_, fun h => ?_⟩
  · rw [g1 k h, (h1 k (by omega)).2]
    grind
  · rw [(h1 (n + 1) (by omega)).2]
    have : alt (n + 1) * (tq J K (n + 1) (n + 1) + K (n + 1) * 0) = alt (n + 1) * tq J K (n + 1) (n + 1) := by grind
    rw [this]
    exact g2
  · rw [g3, a, b]
    grind
  · rw [g3]
    have h5 := h4 h0
    have h6 := Rat.mul_nonneg hn (Rat.le_of_lt h5)
    rcases h with h | h
    · grind
    · have := Rat.mul_pos h h5
      grind
end Mx
namespace Mx
open PySem

/-! ### rows that are a number times a polynomial -/
structure Rel (S : Int) (u : List Int) (f : Nat → Rat) : Prop where
  pos : 0 < S
  at_ : ∀ k, ((u.getD k 0 : Int) : Rat) = (S : Rat) * f k
def comb (a : Int) (u : List Int) (b : Int) (v : List Int) : List Int := (List.range (max u.length v.length)).map fun k => a * u.getD k 0 + b * v.getD k 0
theorem comb_len (a : Int) (u : List Int) (b : Int) (v : List Int) : (comb a u b v).length = max u.length v.length := by simp [comb]
theorem getD_out {u : List Int} {k : Nat} (h : u.length ≤ k) : u.getD k 0 = 0 := by
  rw [List.getD_eq_getElem?_getD, List.getElem?_eq_none h]
  rfl
theorem comb_get (a : Int) (u : List Int) (b : Int) (v : List Int) (k : Nat) : (comb a u b v).getD k 0 = a * u.getD k 0 + b * v.getD k 0 := by
  by_cases h : k < max u.length v.length
  · rw [List.getD_eq_getElem?_getD, List.getElem?_eq_getElem (by rw [comb_len]; exact h)]
    simp [comb]
  · rw [getD_out (by rw [comb_len]; omega), getD_out (u := u) (by omega), getD_out (u := v) (by omega)]
    omega
theorem last_ne {u : List Int} {n : Nat} (hl : u.length = n + 1) (h : u.getD n 0 ≠ 0) : u.getLast? ≠ some 0 := by
  rw [List.getLast?_eq_getElem?, hl]
  intro z
  apply h
  rw [List.getD_eq_getElem?_getD]
  rw [show n + 1 - 1 = n by omega] at z
  rw [z]
  rfl
theorem Rel.ne {S : Int} {u : List Int} {f : Nat → Rat} (r : Rel S u f) {k : Nat} (h : f k ≠ 0) : u.getD k 0 ≠ 0 := by
  intro z
  have := r.at_ k
  rw [z] at this
  have hs := ratInt_ne (a := S) (by have := r.pos; omega)
  have h0 : ((0 : Int) : Rat) = 0 := rfl
  rw [h0] at this
  grind
theorem alt_ne (i : Nat) : alt i ≠ 0 := by
  unfold alt
  split <;> decide +kernel
theorem ne_of_alt {i : Nat} {x : Rat} (h : 0 < alt i * x) : x ≠ 0 := by
  intro z
  rw [z] at h
  have : alt i * 0 = 0 := by grind
  rw [this] at h
  exact absurd h (by decide +kernel)

/-! ### a step of the run in whole numbers -/
structure LN (ds ss : List Fr) : Prop where
  c1 : 1 ≤ ds.length
  c8 : ds.length ≤ 8
  len : ss.length = ds.length + 1
  dok : ∀ x ∈ ds, FOk x ∧ 0 < x.1 ∧ x.1 < 18446744073709551616 ∧ x.2 < 18446744073709551616
  sok : ∀ x ∈ ss, FOk x ∧ 0 ≤ x.1 ∧ x.1 < 18446744073709551616 ∧ x.2 < 18446744073709551616
  inn : ∀ i x, 0 < i → i < ds.length → ss[i]? = some x → 0 < x.1
def jv (ds : List Fr) (i : Nat) : Rat := val (ds.getD i (0, 1))
theorem val_pos {x : Fr} (h2 : 0 < x.2) : (0 < val x ↔ 0 < x.1) ∧ (0 ≤ val x ↔ 0 ≤ x.1) ∧ (val x = 0 ↔ x.1 = 0) := by
  have h := ratInt_pos h2
  have hi := Rat.inv_pos.mpr h
  have e : val x = (x.1 : Rat) * (x.2 : Rat)⁻¹ := Rat.div_def _ _
  have e0 : val x = 0 ↔ x.1 = 0 := by
    constructor
    · intro z
      have : (x.1 : Rat) = 0 := by
        have hn := ratInt_ne (a := x.2) (by omega)
        unfold val at z
        grind
      exact Rat.intCast_inj.mp (this.trans rfl)
    · intro z
      rw [e, z]
      show (0 : Rat) * _ = 0
      grind
  have p1 : 0 < x.1 → 0 < val x := fun q => by
    rw [e]
    exact Rat.mul_pos (ratInt_pos q) hi
  have n1 : x.1 < 0 → val x < 0 := fun q => by
    have q2 : 0 < (-x.1 : Int) := by omega
    have q3 := Rat.mul_pos (ratInt_pos q2) hi
    rw [e]
    rw [Rat.intCast_neg] at q3
    grind
  refine ⟨⟨fun q => ?_, p1⟩, ⟨fun q => ?_, fun q => ?_⟩, e0⟩
  · rcases Int.lt_trichotomy x.1 0 with z | z | z
    · have := n1 z
      grind
    · rw [e0.mpr z] at q
      exact absurd q (by decide +kernel)
    · exact z
  · rcases Int.lt_trichotomy x.1 0 with z | z | z
    · have := n1 z
      grind
    · omega
    · omega
  · rcases Int.lt_trichotomy x.1 0 with z | z | z
    · omega
    · rw [e0.mpr z]
      decide +kernel
    · exact Rat.le_of_lt (p1 z)
section
variable {ds ss : List Fr} (h : LN ds ss)
include h
theorem LN.d_get {i : Nat} (hi : i < ds.length) : ∃ x, ds[i]? = some x ∧ ds.getD i (0, 1) = x ∧ FOk x ∧ 0 < x.1 ∧ x.1 < 18446744073709551616 ∧ x.2 < 18446744073709551616 := by
  refine ⟨ds[i], List.getElem?_eq_getElem hi, ?_, h.dok _ (List.getElem_mem hi)⟩
  rw [List.getD_eq_getElem?_getD, List.getElem?_eq_getElem hi]
  rfl
theorem LN.s_get {i : Nat} (hi : i < ss.length) : ∃ x, ss[i]? = some x ∧ ss.getD i (0, 1) = x ∧ FOk x ∧ 0 ≤ x.1 ∧ x.1 < 18446744073709551616 ∧ x.2 < 18446744073709551616 ∧ (0 < i → i < ds.length → 0 < x.1) := by
  obtain ⟨a, b, c, d⟩ := h.sok _ (List.getElem_mem hi)
  refine ⟨ss[i], List.getElem?_eq_getElem hi, ?_, a, b, c, d, fun p q => h.inn i _ p q (List.getElem?_eq_getElem hi)⟩
  rw [List.getD_eq_getElem?_getD, List.getElem?_eq_getElem hi]
  rfl
theorem LN.jpos {i : Nat} (hi : i < ds.length) : 0 < jv ds i := by
  obtain ⟨x, _, e, a, b, _⟩ := h.d_get hi
  unfold jv
  rw [e]
  exact (val_pos a.1).1.mpr b
theorem LN.kpos {i : Nat} (h0 : 0 < i) (hi : i < ds.length) : 0 < jv ss i := by
  obtain ⟨x, _, e, a, b, _, _, q⟩ := h.s_get (i := i) (by rw [h.len]; omega)
  unfold jv
  rw [e]
  exact (val_pos a.1).1.mpr (q h0 hi)
theorem LN.knn {i : Nat} (hi : i < ss.length) : 0 ≤ jv ss i := by
  obtain ⟨x, _, e, a, b, _⟩ := h.s_get hi
  unfold jv
  rw [e]
  exact (val_pos a.1).2.1.mpr b
end

abbrev bd (u : List Int) (e : Nat) : Prop := ∀ x ∈ u, x.natAbs < 2 ^ e
theorem bd.get {u : List Int} {e : Nat} (h : bd u e) (k : Nat) : (u.getD k 0).natAbs < 2 ^ e := by
  by_cases q : u.getD k 0 = 0
  · rw [q]
    exact Nat.pow_pos (by decide)
  · exact h _ (mem_getD q)
theorem bd.of_get {u : List Int} {e : Nat} (h : ∀ k, (u.getD k 0).natAbs < 2 ^ e) : bd u e := fun x hx => by
  obtain ⟨k, hk, e1⟩ := List.getElem_of_mem hx
  have := h k
  rw [List.getD_eq_getElem?_getD, List.getElem?_eq_getElem hk] at this
  rw [← e1]
  simpa using this
theorem natAbs_mul_lt {a b : Int} {m n : Nat} (ha : a.natAbs < 2 ^ m) (hb : b.natAbs < 2 ^ n) : (a * b).natAbs < 2 ^ (m + n) := by
  rw [Int.natAbs_mul, Nat.pow_add]
  rcases Nat.eq_zero_or_pos a.natAbs with z | z
  · rw [z, Nat.zero_mul]
    exact Nat.mul_pos (Nat.pow_pos (by decide)) (Nat.pow_pos (by decide))
  · exact Nat.lt_of_lt_of_le (Nat.mul_lt_mul_of_pos_left hb z) (Nat.mul_le_mul_right _ (Nat.le_of_lt ha))
theorem natAbs_add_lt {a b : Int} {m : Nat} (ha : a.natAbs < 2 ^ m) (hb : b.natAbs < 2 ^ m) : (a + b).natAbs < 2 ^ (m + 1) := by
  have := Int.natAbs_add_le a b
  rw [Nat.pow_succ]
  omega
theorem pow_up {a m n : Nat} (h : a < 2 ^ m) (hn : m ≤ n) : a < 2 ^ n := Nat.lt_of_lt_of_le h (Nat.pow_le_pow_right (by decide) hn)
theorem comb_bd {a b : Int} {u v : List Int} {m n : Nat} {e f : Nat} (ha : a.natAbs < 2 ^ m) (hb : b.natAbs < 2 ^ n) (hu : bd u e) (hv : bd v f) {g : Nat} (h1 : m + e ≤ g) (h2 : n + f ≤ g) : bd (comb a u b v) (g + 1) := by
  apply bd.of_get
  intro k
  rw [comb_get]
  exact natAbs_add_lt (pow_up (natAbs_mul_lt ha (hu.get k)) h1) (pow_up (natAbs_mul_lt hb (hv.get k)) h2)
theorem shift_get (u : List Int) (f : Nat → Rat) (S : Rat) (h : ∀ k, ((u.getD k 0 : Int) : Rat) = S * f k) (k : Nat) : ((((0 : Int) :: u).getD k 0 : Int) : Rat) = S * sh f k := by
  cases k with
  | zero =>
    show ((0 : Int) : Rat) = S * 0
    have : ((0 : Int) : Rat) = 0 := rfl
    grind
  | succ k =>
    rw [List.getD_cons_succ]
    exact h k

/-- the state ahead of disc i -/
structure Sta (ds ss : List Fr) (i : Nat) (S : Int) (turn torque : List Int) : Prop where
  tu : Rel S turn (tn (jv ds) (jv ss) i)
  to : Rel S torque (tq (jv ds) (jv ss) i)
  tl : turn.length = i + 1
  ol : torque.length ≤ i + 1
  bS : S.natAbs < 2 ^ (64 + 130 * i)
  bt : bd turn (64 + 130 * i)
  bo : bd torque (64 + 130 * i)
theorem step1 {ds ss : List Fr} {i : Nat} {S : Int} {turn torque : List Int} (h : LN ds ss) (hi : i < ds.length) (st : Sta ds ss i S turn torque) {J : Fr} (hJ : ds[i]? = some J) :
    ∃ to', trim (comb J.2 torque (-J.1) (0 :: turn)) = to' ∧ Rel (S * J.2) to' (tq (jv ds) (jv ss) (i + 1)) ∧ to'.length = i + 2 ∧ bd to' (64 + 130 * i + 65) := by
  obtain ⟨J', e1, e2, a, b, c, d⟩ := h.d_get hi
  rw [hJ] at e1
  cases e1
  have hl : (comb J.2 torque (-J.1) (0 :: turn)).length = i + 2 := by
    rw [comb_len, List.length_cons, st.tl]
    have := st.ol
    omega
  have hr : Rel (S * J.2) (comb J.2 torque (-J.1) (0 :: turn)) (tq (jv ds) (jv ss) (i + 1)) := by
    refine ⟨Int.mul_pos st.to.pos a.1, fun k => ?_⟩
    rw [comb_get, tq_succ, Rat.intCast_add, Rat.intCast_mul, Rat.intCast_mul, Rat.intCast_mul, st.to.at_ k, shift_get turn _ _ st.tu.at_ k, Rat.intCast_neg]
    have hj : jv ds i = (J.1 : Rat) / (J.2 : Rat) := by
      unfold jv
      rw [e2]
      rfl
    have hn := ratInt_ne (a := J.2) (by have := a.1; omega)
    rw [hj]
    grind
  have hld := (tq_lead (J := jv ds) (K := jv ss) i (fun j hj => h.jpos (by omega)) (fun j p q => h.kpos p (by omega))).2.1
  have hid : trim (comb J.2 torque (-J.1) (0 :: turn)) = comb J.2 torque (-J.1) (0 :: turn) := trim_id (last_ne hl (hr.ne (ne_of_alt hld)))
  refine ⟨_, hid, hr, hl, ?_⟩
  have p1 : J.2.natAbs < 2 ^ 64 := by have := a.1; omega
  have p2 : (-J.1).natAbs < 2 ^ 64 := by omega
  refine comb_bd p1 p2 st.bo (f := 64 + 130 * i) (fun x hx => ?_) (by omega) (by omega)
  rcases List.mem_cons.mp hx with rfl | hx
  · exact Nat.pow_pos (by decide)
  · exact st.bt x hx
theorem step2 {ds ss : List Fr} {i : Nat} {S : Int} {turn torque to' : List Int} (h : LN ds ss) (hi : i + 1 < ds.length) (st : Sta ds ss i S turn torque) {J C : Fr} (hJ : ds[i]? = some J) (hC : ss[i + 1]? = some C)
    (hr : Rel (S * J.2) to' (tq (jv ds) (jv ss) (i + 1))) (hl : to'.length = i + 2) (hb : bd to' (64 + 130 * i + 65)) :
    Sta ds ss (i + 1) (S * (J.2 * C.1)) (trim (comb (J.2 * C.1) turn C.2 to')) (trim (comb C.1 to' 0 [])) := by
  obtain ⟨J', e1, e2, a, b, c, d⟩ := h.d_get (i := i) (by omega)
  rw [hJ] at e1
  cases e1
  obtain ⟨C', g1, g2, a', b', c', d', q'⟩ := h.s_get (i := i + 1) (by rw [h.len]; omega)
  rw [hC] at g1
  cases g1
  have hC0 := q' (by omega) hi
  have hk : jv ss (i + 1) = (C.1 : Rat) / (C.2 : Rat) := by
    unfold jv
    rw [g2]
    rfl
  have n1 := ratInt_ne (a := J.2) (by have := a.1; omega)
  have n2 := ratInt_ne (a := C.1) (by omega)
  have n3 := ratInt_ne (a := C.2) (by have := a'.1; omega)
  have hS : 0 < S * (J.2 * C.1) := Int.mul_pos st.tu.pos (Int.mul_pos a.1 hC0)
  have sh1 := run_shape (J := jv ds) (K := jv ss) (i + 1) (fun j hj => h.jpos (by omega)) (fun j p q => h.kpos p (by omega))
  have ld := (tq_lead (J := jv ds) (K := jv ss) i (fun j hj => h.jpos (by omega)) (fun j p q => h.kpos p (by omega))).2.1
  have l1 : (comb (J.2 * C.1) turn C.2 to').length = i + 2 := by
    rw [comb_len, st.tl, hl]
    omega
  have r1 : Rel (S * (J.2 * C.1)) (comb (J.2 * C.1) turn C.2 to') (tn (jv ds) (jv ss) (i + 1)) := by
    refine ⟨hS, fun k => ?_⟩
    rw [comb_get, tn_succ, Rat.intCast_add, Rat.intCast_mul, Rat.intCast_mul, Rat.intCast_mul, Rat.intCast_mul, Rat.intCast_mul, st.tu.at_ k, hr.at_ k, hk, Rat.intCast_mul]
    grind
  have l2 : (comb C.1 to' 0 []).length = i + 2 := by
    rw [comb_len, hl]
    simp
  have r2 : Rel (S * (J.2 * C.1)) (comb C.1 to' 0 []) (tq (jv ds) (jv ss) (i + 1)) := by
    refine ⟨hS, fun k => ?_⟩
    rw [comb_get, Int.zero_mul, Int.add_zero, Rat.intCast_mul, hr.at_ k, Rat.intCast_mul, Rat.intCast_mul, Rat.intCast_mul]
    grind
  rw [trim_id (last_ne l1 (r1.ne (ne_of_alt sh1.2.1))), trim_id (last_ne l2 (r2.ne (ne_of_alt ld)))]
  have p1 : J.2.natAbs < 2 ^ 64 := by have := a.1; omega
  have p2 : C.1.natAbs < 2 ^ 64 := by omega
  have p3 : C.2.natAbs < 2 ^ 64 := by have := a'.1; omega
  have p12 : (J.2 * C.1).natAbs < 2 ^ (64 + 64) := natAbs_mul_lt p1 p2
  have b1 : bd (comb (J.2 * C.1) turn C.2 to') (64 + 130 * i + 129 + 1) := comb_bd p12 p3 st.bt hb (by omega) (by omega)
  have b2 : bd (comb C.1 to' 0 []) (64 + 130 * i + 129 + 1) := comb_bd (n := 0) (f := 0) p2 (by decide) hb (fun x hx => by simp at hx) (by omega) (by omega)
  refine ⟨r1, r2, l1, by omega, ?_, ?_, ?_⟩
  · exact pow_up (natAbs_mul_lt st.bS p12) (by omega)
  · rw [show 64 + 130 * (i + 1) = 64 + 130 * i + 129 + 1 by omega]
    exact b1
  · rw [show 64 + 130 * (i + 1) = 64 + 130 * i + 129 + 1 by omega]
    exact b2
theorem stepE {ds ss : List Fr} {i : Nat} {S : Int} {turn torque to' : List Int} (h : LN ds ss) (hi : i + 1 = ds.length) (st : Sta ds ss i S turn torque) {J C : Fr} (hJ : ds[i]? = some J) (hC : ss[i + 1]? = some C)
    (hr : Rel (S * J.2) to' (tq (jv ds) (jv ss) (i + 1))) (hl : to'.length = i + 2) (hb : bd to' (64 + 130 * i + 65)) :
    Rel (S * (J.2 * C.2)) (trim (comb (J.2 * C.1) turn C.2 to')) (en (jv ds) (jv ss) i) ∧ (trim (comb (J.2 * C.1) turn C.2 to')).length = i + 2 ∧ bd (trim (comb (J.2 * C.1) turn C.2 to')) (64 + 130 * (i + 1)) := by
  obtain ⟨J', e1, e2, a, b, c, d⟩ := h.d_get (i := i) (by omega)
  rw [hJ] at e1
  cases e1
  obtain ⟨C', g1, g2, a', b', c', d', q'⟩ := h.s_get (i := i + 1) (by rw [h.len]; omega)
  rw [hC] at g1
  cases g1
  have hk : jv ss (i + 1) = (C.1 : Rat) / (C.2 : Rat) := by
    unfold jv
    rw [g2]
    rfl
  have n1 := ratInt_ne (a := J.2) (by have := a.1; omega)
  have n3 := ratInt_ne (a := C.2) (by have := a'.1; omega)
  have hS : 0 < S * (J.2 * C.2) := Int.mul_pos st.tu.pos (Int.mul_pos a.1 a'.1)
  have shp := en_shape (J := jv ds) (K := jv ss) i (fun j hj => h.jpos (by omega)) (fun j p q => h.kpos p (by omega)) (h.knn (by rw [h.len]; omega)) (h.knn (by rw [h.len]; omega))
  have l1 : (comb (J.2 * C.1) turn C.2 to').length = i + 2 := by
    rw [comb_len, st.tl, hl]
    omega
  have r1 : Rel (S * (J.2 * C.2)) (comb (J.2 * C.1) turn C.2 to') (en (jv ds) (jv ss) i) := by
    refine ⟨hS, fun k => ?_⟩
    unfold en
    rw [comb_get, Rat.intCast_add, Rat.intCast_mul, Rat.intCast_mul, Rat.intCast_mul, Rat.intCast_mul, Rat.intCast_mul, st.tu.at_ k, hr.at_ k, hk, Rat.intCast_mul]
    grind
  rw [trim_id (last_ne l1 (r1.ne (ne_of_alt shp.2.1)))]
  have p1 : J.2.natAbs < 2 ^ 64 := by have := a.1; omega
  have p2 : C.1.natAbs < 2 ^ 64 := by omega
  have p3 : C.2.natAbs < 2 ^ 64 := by have := a'.1; omega
  refine ⟨r1, l1, ?_⟩
  rw [show 64 + 130 * (i + 1) = 64 + 130 * i + 129 + 1 by omega]
  exact comb_bd (natAbs_mul_lt p1 p2) p3 st.bt hb (by omega) (by omega)
theorem sta0 {ds ss : List Fr} (h : LN ds ss) {C : Fr} (hC : ss[0]? = some C) : Sta ds ss 0 C.2 [C.2] (if C.1 = 0 then [] else [C.1]) := by
  obtain ⟨C', g1, g2, a, b, c, d, q⟩ := h.s_get (i := 0) (by rw [h.len]; omega)
  rw [hC] at g1
  cases g1
  have hk : jv ss 0 = (C.1 : Rat) / (C.2 : Rat) := by
    unfold jv
    rw [g2]
    rfl
  have n := ratInt_ne (a := C.2) (by have := a.1; omega)
  have z0 : ((0 : Int) : Rat) = 0 := rfl
  have p2 : C.1.natAbs < 2 ^ 64 := by omega
  have p3 : C.2.natAbs < 2 ^ 64 := by have := a.1; omega
  refine ⟨⟨a.1, fun k => ?_⟩, ⟨a.1, fun k => ?_⟩, rfl, by split <;> simp, p3, ?_, ?_⟩
  · cases k with
    | zero =>
      show ((C.2 : Int) : Rat) = C.2 * 1
      grind
    | succ k =>
      show ((0 : Int) : Rat) = C.2 * 0
      grind
  · cases k with
    | zero =>
      show (((if C.1 = 0 then [] else [C.1]).getD 0 0 : Int) : Rat) = C.2 * jv ss 0
      rw [hk]
      by_cases z : C.1 = 0
      · rw [if_pos z, z]
        show ((0 : Int) : Rat) = C.2 * (((0 : Int) : Rat) / C.2)
        grind
      · rw [if_neg z]
        show ((C.1 : Int) : Rat) = C.2 * ((C.1 : Rat) / C.2)
        grind
    | succ k =>
      show (((if C.1 = 0 then [] else [C.1]).getD (k + 1) 0 : Int) : Rat) = C.2 * 0
      by_cases z : C.1 = 0
      · rw [if_pos z]
        show ((0 : Int) : Rat) = _
        grind
      · rw [if_neg z]
        show ((0 : Int) : Rat) = _
        grind
  · intro x hx
    rw [List.mem_singleton.mp hx]
    exact p3
  · intro x hx
    by_cases z : C.1 = 0
    · rw [if_pos z] at hx
      simp at hx
    · rw [if_neg z] at hx
      rw [List.mem_singleton.mp hx]
      exact p2
end Mx
namespace Mx
open PySem DL L2
section
variable {K : PySem.W.Frag} {B : Bs} {G : List Hp} {L : List Addr} {Γ : List Sl} {k : PyData → Prop}
theorem ixf0 {x : Fr} (hk : k (.int x.1)) : ROk K B G L Γ (rIx K) (frD x) (.int 0) k := rok_ixsT (d := .int x.1) rfl hk
theorem ixf1 {x : Fr} (hk : k (.int x.2)) : ROk K B G L Γ (rIx K) (frD x) (.int 1) k := rok_ixsT (d := .int x.2) rfl hk
end

section
variable {K : PySem.W.Frag} {B : Bs} {G : List Hp} {L : List Addr} {Γ : List Sl} {ta tb : TE}
/-- xs * n as a new list -/
theorem en_rep {kl : List PyData → Prop} (h : EvP K B G L Γ ta fun x => EvP K B G L Γ tb fun y => ∃ (ds : List PyData) (n : Int), x = .list ds ∧ y = .int n ∧ -100000 ≤ n ∧ n ≤ 100000 ∧ ds.length * n.toNat ≤ 1000000 ∧ kl (List.replicate n.toNat ds).flatten) :
    EvN K B G L Γ (tOp (rMulA K) ta tb) kl := fun σ H Q E q =>
  h σ H _ E fun v x H1 g1 dx h2 => h2 σ H1 _ g1.env fun u y H2 g2 dy ⟨ds, n, ex, ey, h0, h1, hl, hk⟩ => by
    subst ex
    subst ey
    cases dy
    have dx2 := dx.mono g2.sm
    cases dx2 with
    | @lst a xs _ e1 h3 =>
      refine .inr (.inr (.inl ⟨a, n, xs, rfl, rfl, hid_sub _ _ _ _ e1, by omega, by omega, ?_, fun p hp => ?_⟩))
      · rw [h3.length]
        exact sz_ok hl
      · have g3 := Go.new (o := .lst (List.replicate n.toNat xs).flatten) g2.env hp
        have g12 := g1.trans g2
        exact q p _ _ _ (g12.trans g3) (Go.fresh E g12 hp) upd_same ((DnA.reps h3 n.toNat).mono (hid_keep hp (same_upd hp))) hk
theorem en_lcR {j : Nat} {vs : List Nat} {tr : TA} {tt : TT} {te : TE} {kl : List PyData → Prop} (hw : ∀ (σ : L2.St) x, L2.wipe ((L2.wipe σ vs).set j (some x)) vs = L2.wipe σ vs)
    (h : EvA K B G L Γ tr fun es => ∃ n : Int, es = [.int n] ∧ -100000 ≤ n ∧ n ≤ 100000 ∧ ∃ J, CompOk K B G L Γ j tt te vs n.toNat (fun i d' => d' = .int (i : Int)) J ∧ ∀ acc, J n.toNat acc → kl acc) :
    EvN K B G L Γ (tLc (iRng1 tr) (gName j) tt te vs) kl := fun σ H Q E q =>
  h σ H _ E fun v es H1 g1 dn ⟨n, e, h0, h1, J, C, hk⟩ => by
    subst e
    cases dn with
    | cons d1 d2 =>
      cases d2
      cases d1
      refine ⟨n, rfl, by omega, by omega, fun D hD => lc_range (lo := 0) (n := n.toNat) (fun i H' => Sofar K B L H1 H' D i J)
        ⟨fun a o w e => same_upd hD a o e, fun w hw => ?_, [], [], C.1, Nat.le_refl _, upd_same, .nil⟩ (fun i H' hi S => ?_) (fun H' S => ?_)⟩
      · obtain ⟨m, b, c, e, q⟩ := g1.env.ws w hw
        exact ⟨m, b, c, same_upd hD _ _ e, q⟩
      · have e0 : (0 : Int) + (i : Int) = (i : Int) := Int.zero_add _
        rw [e0]
        exact ⟨hw σ _, comp_turn g1.env hD C (by omega) S rfl hi (.int _)⟩
      · have g0 : Go K B G L Γ H1 H' σ := Go.of_rel g1.env S.rl S.ws
        obtain ⟨accV, acc, hJ, _, e, dA⟩ := S.it
        exact q D accV acc H' (g1.trans g0) (Go.fresh E g1 hD) e dA (hk acc hJ)
end
end Mx
/-! How many swings are slower than a pace: the changes of sign in the run at it. -/
namespace Mx
open PySem

/-! ### the row at a pace -/
/-- the angle of disc i and the torque ahead of it, at the pace p -/
def rowAt (J K : Nat → Rat) (p : Rat) : Nat → Rat × Rat
  | 0 => (1, K 0)
  | i + 1 => ((rowAt J K p i).1 + ((rowAt J K p i).2 - p * J i * (rowAt J K p i).1) / K (i + 1), (rowAt J K p i).2 - p * J i * (rowAt J K p i).1)
def xa (J K : Nat → Rat) (p : Rat) (i : Nat) : Rat := (rowAt J K p i).1
def ya (J K : Nat → Rat) (p : Rat) (i : Nat) : Rat := (rowAt J K p i).2
theorem ya_succ (J K : Nat → Rat) (p : Rat) (i : Nat) : ya J K p (i + 1) = ya J K p i - p * J i * xa J K p i := rfl
theorem xa_succ (J K : Nat → Rat) (p : Rat) (i : Nat) : xa J K p (i + 1) = xa J K p i + ya J K p (i + 1) / K (i + 1) := rfl
/-- the end of n + 1 discs -/
def ea (J K : Nat → Rat) (p : Rat) (n : Nat) : Rat := ya J K p (n + 1) + K (n + 1) * xa J K p n

/-- a polynomial's first n powers at p -/
def fev (f : Nat → Rat) (p : Rat) : Nat → Rat
  | 0 => 0
  | n + 1 => fev f p n + f n * p ^ n
theorem fev_congr {f g : Nat → Rat} {p : Rat} (h : ∀ k, f k = g k) : ∀ n, fev f p n = fev g p n
  | 0 => rfl
  | n + 1 => by
    unfold fev
    rw [fev_congr h n, h n]
theorem fev_lin {f g : Nat → Rat} {p a b : Rat} : ∀ n, fev (fun k => a * f k + b * g k) p n = a * fev f p n + b * fev g p n
  | 0 => by
    unfold fev
    grind
  | n + 1 => by
    unfold fev
    rw [fev_lin n]
    grind
theorem fev_sh {g : Nat → Rat} {p : Rat} : ∀ n, fev (sh g) p (n + 1) = p * fev g p n
  | 0 => by
    show fev (sh g) p 0 + sh g 0 * p ^ 0 = p * fev g p 0
    show 0 + 0 * p ^ 0 = p * 0
    grind
  | n + 1 => by
    show fev (sh g) p (n + 1) + sh g (n + 1) * p ^ (n + 1) = p * (fev g p n + g n * p ^ n)
    rw [fev_sh n]
    show p * fev g p n + g n * p ^ (n + 1) = _
    rw [Rat.pow_succ]
    grind
theorem fev_more {f : Nat → Rat} {p : Rat} {n : Nat} (h : ∀ k, n ≤ k → f k = 0) : ∀ m, fev f p (n + m) = fev f p n
  | 0 => rfl
  | m + 1 => by
    show fev f p (n + m) + f (n + m) * p ^ (n + m) = _
    rw [fev_more h m, h (n + m) (by omega)]
    grind
theorem fev_head {f : Nat → Rat} {p : Rat} : ∀ n, fev f p (n + 1) = f 0 + p * fev (fun k => f (k + 1)) p n
  | 0 => by
    show fev f p 0 + f 0 * p ^ 0 = f 0 + p * 0
    show 0 + f 0 * p ^ 0 = f 0 + p * 0
    rw [Rat.pow_zero]
    grind
  | n + 1 => by
    show fev f p (n + 1) + f (n + 1) * p ^ (n + 1) = f 0 + p * (fev (fun k => f (k + 1)) p n + f (n + 1) * p ^ n)
    rw [fev_head n, Rat.pow_succ]
    grind
/-- the run's polynomials at p are the row at p -/
theorem fev_run {J K : Nat → Rat} {p : Rat} : ∀ i : Nat, (∀ j, j < i → 0 < J j) → (∀ j, 0 < j → j ≤ i → 0 < K j) → fev (tn J K i) p (i + 1) = xa J K p i ∧ fev (tq J K i) p (i + 1) = ya J K p i
  | 0, _, _ => by
    constructor
    · show 0 + tn J K 0 0 * p ^ 0 = 1
      rw [Rat.pow_zero]
      show 0 + 1 * 1 = (1 : Rat)
      grind
    · show 0 + tq J K 0 0 * p ^ 0 = K 0
      rw [Rat.pow_zero]
      show 0 + K 0 * 1 = K 0
      grind
  | i + 1, hJ, hK => by
    obtain ⟨h1, h2⟩ := fev_run (p := p) i (fun j h => hJ j (by omega)) (fun j a b => hK j a (by omega))
    have sh0 := run_shape (J := J) (K := K) i (fun j h => hJ j (by omega)) (fun j a b => hK j a (by omega))
    have hk := hK (i + 1) (by omega) (by omega)
    have e1 : fev (tq J K (i + 1)) p (i + 1 + 1) = ya J K p (i + 1) := by
      have a : ∀ k, tq J K (i + 1) k = 1 * tq J K i k + (- J i) * sh (tn J K i) k := fun k => by
        rw [tq_succ]
        grind
      rw [fev_congr a, fev_lin, fev_sh, h1, fev_more (n := i + 1) (fun k hk => (sh0.1 k (by omega)).1) 1, h2, ya_succ]
      grind
    refine ⟨?_, e1⟩
    have a : ∀ k, tn J K (i + 1) k = 1 * tn J K i k + (1 / K (i + 1)) * tq J K (i + 1) k := fun k => by
      rw [tn_succ]
      grind
    rw [fev_congr a, fev_lin, e1, fev_more (n := i + 1) (fun k hk => (sh0.1 k (by omega)).2) 1, h1, xa_succ]
    grind
theorem fev_en {J K : Nat → Rat} {p : Rat} (n : Nat) (hJ : ∀ j, j < n + 1 → 0 < J j) (hK : ∀ j, 0 < j → j ≤ n → 0 < K j) : fev (en J K n) p (n + 2) = ea J K p n := by
  obtain ⟨h1, h2⟩ := fev_run (p := p) n (fun j h => hJ j (by omega)) hK
  have sh0 := run_shape (J := J) (K := K) n (fun j h => hJ j (by omega)) hK
  have e1 : fev (tq J K (n + 1)) p (n + 1 + 1) = ya J K p (n + 1) := by
    have a : ∀ k, tq J K (n + 1) k = 1 * tq J K n k + (- J n) * sh (tn J K n) k := fun k => by
      rw [tq_succ]
      grind
    rw [fev_congr a, fev_lin, fev_sh, h1, fev_more (n := n + 1) (fun k hk => (sh0.1 k (by omega)).1) 1, h2, ya_succ]
    grind
  have a : ∀ k, en J K n k = 1 * tq J K (n + 1) k + K (n + 1) * tn J K n k := fun k => by
    unfold en
    grind
  rw [fev_congr a, fev_lin, e1, fev_more (n := n + 1) (fun k hk => (sh0.1 k (by omega)).2) 1, h1]
  unfold ea
  grind

/-! ### a row of whole numbers at a fraction, scaled -/
def hor (t b : Int) : List Int → Int
  | [] => 0
  | x :: xs => hor t b xs * t + x * b ^ xs.length
theorem hor_eq {t b : Int} (hb : b ≠ 0) : ∀ (u : List Int), (b : Rat) * (hor t b u : Int) = (b : Rat) ^ u.length * fev (fun k => ((u.getD k 0 : Int) : Rat)) ((t : Rat) / (b : Rat)) u.length
  | [] => by
    show (b : Rat) * ((0 : Int) : Rat) = _ * 0
    have : ((0 : Int) : Rat) = 0 := rfl
    grind
  | x :: xs => by
    have ih := hor_eq (t := t) hb xs
    have nb := ratInt_ne hb
    rw [List.length_cons, fev_head]
    show (b : Rat) * ((hor t b xs * t + x * b ^ xs.length : Int) : Rat) = _
    rw [Rat.intCast_add, Rat.intCast_mul, Rat.intCast_mul, Rat.intCast_pow, Rat.pow_succ]
    have e : fev (fun k => (((x :: xs).getD (k + 1) 0 : Int) : Rat)) ((t : Rat) / (b : Rat)) xs.length = fev (fun k => ((xs.getD k 0 : Int) : Rat)) ((t : Rat) / (b : Rat)) xs.length := fev_congr (fun k => by rw [List.getD_cons_succ]) _
    rw [e]
    show (b : Rat) * ((hor t b xs : Int) * (t : Rat) + x * (b : Rat) ^ xs.length) = (b : Rat) ^ xs.length * b * ((x : Rat) + _)
    grind
def sgn (n : Int) : Int := if 0 < n then 1 else if n < 0 then -1 else 0
def rsgn (x : Rat) : Int := if 0 < x then 1 else if x < 0 then -1 else 0
theorem rsgn_int (n : Int) : rsgn (n : Rat) = sgn n := by
  have z0 : ((0 : Int) : Rat) = 0 := rfl
  unfold rsgn sgn
  by_cases h : 0 < n
  · rw [if_pos h, if_pos (ratInt_pos h)]
  · rw [if_neg h, if_neg (fun q => h (Rat.intCast_lt_intCast.mp (by rw [z0]; exact q)))]
    by_cases h2 : n < 0
    · rw [if_pos h2, if_pos (by have := Rat.intCast_lt_intCast.mpr h2; rw [z0] at this; exact this)]
    · rw [if_neg h2, if_neg (fun q => h2 (Rat.intCast_lt_intCast.mp (by rw [z0]; exact q)))]
theorem rsgn_mul {a x : Rat} (h : 0 < a) : rsgn (a * x) = rsgn x := by
  unfold rsgn
  have ai := Rat.inv_pos.mpr h
  have e : a⁻¹ * (a * x) = x := by grind
  by_cases h1 : 0 < x
  · rw [if_pos h1, if_pos (Rat.mul_pos h h1)]
  · rw [if_neg h1, if_neg (fun q => h1 (by rw [← e]; exact Rat.mul_pos ai q))]
    by_cases h2 : x < 0
    · have : a * x < 0 := by
        have := Rat.mul_pos h (show 0 < -x by grind)
        grind
      rw [if_pos h2, if_pos this]
    · rw [if_neg h2, if_neg]
      intro q
      have := Rat.mul_pos ai (show 0 < -(a * x) by grind)
      grind
theorem pow_posQ {a : Rat} (h : 0 < a) : ∀ n : Nat, 0 < a ^ n
  | 0 => by
    rw [Rat.pow_zero]
    decide +kernel
  | n + 1 => by
    rw [Rat.pow_succ]
    exact Rat.mul_pos (pow_posQ h n) h
/-- the sign of a row at a fraction is that of the polynomial of which it is a multiple -/
theorem hor_sign {S : Int} {u : List Int} {f : Nat → Rat} (r : Rel S u f) {t b : Int} (hb : 0 < b) : sgn (hor t b u) = rsgn (fev f ((t : Rat) / (b : Rat)) u.length) := by
  have e := hor_eq (t := t) (show b ≠ 0 by omega) u
  have e2 : fev (fun k => ((u.getD k 0 : Int) : Rat)) ((t : Rat) / (b : Rat)) u.length = (S : Rat) * fev f ((t : Rat) / (b : Rat)) u.length := by
    rw [fev_congr (g := fun k => (S : Rat) * f k + 0 * f k) (fun k => by rw [r.at_ k]; grind), fev_lin]
    grind
  rw [e2] at e
  have pb := ratInt_pos hb
  have pS := ratInt_pos r.pos
  rw [← rsgn_int, ← rsgn_mul pb, e, rsgn_mul (pow_posQ pb _), rsgn_mul pS]
end Mx
namespace Mx
open PySem

/-! ### counting changes of sign -/
def stp (s : Nat × Int) (x : Int) : Nat × Int := if x = 0 then s else (if x = -s.2 then s.1 + 1 else s.1, x)
def chs (l : List Int) : Nat × Int := l.foldl stp (0, 0)
theorem chs_snoc (l : List Int) (x : Int) : chs (l ++ [x]) = stp (chs l) x := by
  unfold chs
  rw [List.foldl_append]
  rfl
theorem chs_filter : ∀ (l : List Int) (s : Nat × Int), (l.filter (· ≠ 0)).foldl stp s = l.foldl stp s
  | [], _ => rfl
  | x :: xs, s => by
    by_cases h : x = 0
    · subst h
      show (xs.filter (· ≠ 0)).foldl stp s = xs.foldl stp (stp s 0)
      rw [chs_filter xs]
      rfl
    · rw [List.filter_cons_of_pos (by simpa using h)]
      exact chs_filter xs _
/-- how often neighbours differ, up to place i -/
def cf (l : List Int) : Nat → Nat
  | 0 => 0
  | i + 1 => cf l i + if l.getD (i + 1) 0 ≠ l.getD i 0 then 1 else 0
theorem chs_cf {l : List Int} (h : ∀ x ∈ l, x = 1 ∨ x = -1) : ∀ i, i < l.length → chs (l.take (i + 1)) = (cf l i, l.getD i 0)
  | 0, hi => by
    match l, hi, h with
    | x :: xs, _, h =>
      have := h x (List.mem_cons_self ..)
      show stp (0, 0) x = (0, x)
      unfold stp
      rw [if_neg (by omega), if_neg (by show ¬ x = -0; omega)]
  | i + 1, hi => by
    have ih := chs_cf h i (by omega)
    have e1 : l[i + 1]? = some (l.getD (i + 1) 0) := by
      rw [List.getD_eq_getElem?_getD, List.getElem?_eq_getElem hi]
      rfl
    have m1 := h _ (List.mem_of_getElem? e1)
    have e0 : l[i]? = some (l.getD i 0) := by
      rw [List.getD_eq_getElem?_getD, List.getElem?_eq_getElem (by omega)]
      rfl
    have m0 := h _ (List.mem_of_getElem? e0)
    rw [List.take_add_one, e1]
    show chs (l.take (i + 1) ++ [l.getD (i + 1) 0]) = _
    rw [chs_snoc, ih]
    have ec : cf l (i + 1) = cf l i + if l.getD (i + 1) 0 ≠ l.getD i 0 then 1 else 0 := rfl
    rw [ec]
    unfold stp
    rw [if_neg (by omega)]
    show ((if l.getD (i + 1) 0 = -(l.getD i 0) then cf l i + 1 else cf l i), _) = _
    congr 1
    by_cases q : l.getD (i + 1) 0 = l.getD i 0
    · rw [if_neg (by omega), if_neg (by omega)]
      rfl
    · rw [if_pos (by omega), if_pos q]

/-! ### the phase: how often the sign has changed, and where the row stands since -/
def ph (J K : Nat → Rat) (p : Rat) : Nat → Nat × Rat × Rat
  | 0 => (0, 1, K 0)
  | i + 1 =>
    let s := ph J K p i
    let y := s.2.2 - p * J i * s.2.1
    let x := s.2.1 + y / K (i + 1)
    if x < 0 then (s.1 + 1, -x, -y) else (s.1, x, y)
/-- how many swings of a line of n + 1 discs are slower than p -/
def cnt (J K : Nat → Rat) (p : Rat) (n : Nat) : Nat :=
  let s := ph J K p n
  s.1 + if K (n + 1) * s.2.1 + (s.2.2 - p * J n * s.2.1) < 0 then 1 else 0
def altI (N : Nat) : Int := if N % 2 = 0 then 1 else -1
theorem altI_succ (N : Nat) : altI (N + 1) = - altI N := by
  unfold altI
  rcases Nat.mod_two_eq_zero_or_one N with h | h
  · rw [if_neg (by omega), if_pos h]
  · rw [if_pos (by omega), if_neg (by omega)]
    rfl
theorem altI_pm (N : Nat) : altI N = 1 ∨ altI N = -1 := by
  unfold altI
  split
  · exact .inl rfl
  · exact .inr rfl
theorem ph_row (J K : Nat → Rat) (p : Rat) : ∀ i, xa J K p i = alt (ph J K p i).1 * (ph J K p i).2.1 ∧ ya J K p i = alt (ph J K p i).1 * (ph J K p i).2.2
  | 0 => by
    constructor
    · show (1 : Rat) = 1 * 1
      grind
    · show K 0 = 1 * K 0
      grind
  | i + 1 => by
    obtain ⟨h1, h2⟩ := ph_row J K p i
    have e1 : ya J K p (i + 1) = alt (ph J K p i).1 * ((ph J K p i).2.2 - p * J i * (ph J K p i).2.1) := by
      rw [ya_succ, h1, h2]
      grind
    have e2 : xa J K p (i + 1) = alt (ph J K p i).1 * ((ph J K p i).2.1 + ((ph J K p i).2.2 - p * J i * (ph J K p i).2.1) / K (i + 1)) := by
      rw [xa_succ, e1, h1]
      grind
    rw [e1, e2]
    show _ = alt (if _ then _ else _ : Nat × Rat × Rat).1 * (if _ then _ else _ : Nat × Rat × Rat).2.1 ∧ _ = alt (if _ then _ else _ : Nat × Rat × Rat).1 * (if _ then _ else _ : Nat × Rat × Rat).2.2
    split
    · show _ = alt ((ph J K p i).1 + 1) * -_ ∧ _ = alt ((ph J K p i).1 + 1) * -_
      rw [alt_succ]
      constructor <;> grind
    · exact ⟨rfl, rfl⟩
theorem stp_alt (N : Nat) (x : Rat) : stp (N, altI N) (rsgn (alt N * x)) = if x < 0 then (N + 1, altI (N + 1)) else (N, altI N) := by
  have ha : (alt N = 1 ∧ altI N = 1) ∨ (alt N = -1 ∧ altI N = -1) := by
    unfold alt altI
    split
    · exact .inl ⟨rfl, rfl⟩
    · exact .inr ⟨rfl, rfl⟩
  have hs : rsgn (alt N * x) = if x < 0 then -altI N else if 0 < x then altI N else 0 := by
    unfold rsgn
    rcases ha with ⟨a, b⟩ | ⟨a, b⟩
    · rw [a, b]
      by_cases h : x < 0
      · rw [if_pos h, if_neg (by grind), if_pos (by grind)]
      · rw [if_neg h]
        by_cases h2 : 0 < x
        · rw [if_pos h2, if_pos (by grind)]
        · rw [if_neg h2, if_neg (by grind), if_neg (by grind)]
    · rw [a, b]
      by_cases h : x < 0
      · rw [if_pos h, if_pos (by grind)]
        rfl
      · rw [if_neg h]
        by_cases h2 : 0 < x
        · rw [if_pos h2, if_neg (by grind), if_pos (by grind)]
        · rw [if_neg h2, if_neg (by grind), if_neg (by grind)]
  have hp := altI_pm N
  rw [hs]
  by_cases h : x < 0
  · rw [if_pos h, if_pos h, altI_succ]
    unfold stp
    rw [if_neg (by omega), if_pos rfl]
  · rw [if_neg h, if_neg h]
    by_cases h2 : 0 < x
    · rw [if_pos h2]
      unfold stp
      rw [if_neg (by omega), if_neg (by show ¬ altI N = - altI N; omega)]
    · rw [if_neg h2]
      rfl
theorem chs_row (J K : Nat → Rat) (p : Rat) : ∀ i, chs ((List.range (i + 1)).map fun j => rsgn (xa J K p j)) = ((ph J K p i).1, altI (ph J K p i).1)
  | 0 => by
    show stp (0, 0) (rsgn 1) = (0, 1)
    decide +kernel
  | i + 1 => by
    rw [List.range_succ, List.map_append]
    show chs (_ ++ [rsgn (xa J K p (i + 1))]) = _
    rw [chs_snoc, chs_row J K p i]
    obtain ⟨h1, h2⟩ := ph_row J K p i
    have e2 : xa J K p (i + 1) = alt (ph J K p i).1 * ((ph J K p i).2.1 + ((ph J K p i).2.2 - p * J i * (ph J K p i).2.1) / K (i + 1)) := by
      rw [xa_succ, ya_succ, h1, h2]
      grind
    rw [e2, stp_alt]
    show _ = ((if _ then _ else _ : Nat × Rat × Rat).1, altI (if _ then _ else _ : Nat × Rat × Rat).1)
    split <;> rfl
/-- the count is that of the changes of sign in the row -/
theorem chs_cnt (J K : Nat → Rat) (p : Rat) (n : Nat) : (chs (((List.range (n + 1)).map fun j => rsgn (xa J K p j)) ++ [rsgn (ea J K p n)])).1 = cnt J K p n := by
  rw [chs_snoc, chs_row]
  obtain ⟨h1, h2⟩ := ph_row J K p n
  have e : ea J K p n = alt (ph J K p n).1 * (K (n + 1) * (ph J K p n).2.1 + ((ph J K p n).2.2 - p * J n * (ph J K p n).2.1)) := by
    unfold ea
    rw [ya_succ, h1, h2]
    grind
  rw [e, stp_alt]
  unfold cnt
  show (if _ then _ else _ : Nat × Int).1 = (ph J K p n).1 + if _ then 1 else 0
  split <;> rfl

/-! ### the count never falls as the pace rises -/
def hp (x y : Rat) : Prop := 0 < x ∨ (x = 0 ∧ y < 0)
theorem hp_nn {x y : Rat} (h : hp x y) : 0 ≤ x := by
  rcases h with h | ⟨h, _⟩ <;> grind
theorem hp_shear {x y c : Rat} (h : hp x y) : hp x (y - c * x) := by
  rcases h with h | ⟨h, h2⟩
  · exact .inl h
  · refine .inr ⟨h, ?_⟩
    rw [h]
    grind
theorem hp_turn {x y k : Rat} (h : hp x y) (hk : 0 < k) : (x + y * k < 0 → hp (-(x + y * k)) (-y)) ∧ (¬ x + y * k < 0 → hp (x + y * k) y) := by
  have hx := hp_nn h
  refine ⟨fun q => .inl (by grind), fun q => ?_⟩
  by_cases z : 0 < x + y * k
  · exact .inl z
  · have e : x + y * k = 0 := by grind
    refine .inr ⟨e, ?_⟩
    rcases h with h | ⟨h, h2⟩
    · by_cases hy : y < 0
      · exact hy
      · have := Rat.mul_nonneg (show 0 ≤ y by grind) (Rat.le_of_lt hk)
        grind
    · exact h2
theorem ph_hp {J K : Nat → Rat} {p : Rat} : ∀ i, (∀ j, 0 < j → j ≤ i → 0 < K j) → hp (ph J K p i).2.1 (ph J K p i).2.2
  | 0, _ => .inl (by show (0 : Rat) < 1; decide +kernel)
  | i + 1, hK => by
    have ih := ph_hp (J := J) (p := p) i fun j a b => hK j a (by omega)
    have hk := Rat.inv_pos.mpr (hK (i + 1) (by omega) (by omega))
    have t := hp_turn (hp_shear (c := p * J i) ih) hk
    show hp (if _ then _ else _ : Nat × Rat × Rat).2.1 (if _ then _ else _ : Nat × Rat × Rat).2.2
    rw [Rat.div_def]
    split
    · exact t.1 (by assumption)
    · exact t.2 (by assumption)
theorem cross_turn {x y x' y' k : Rat} (h : hp x y) (h' : hp x' y') (c : x * y' - y * x' ≤ 0) (hk : 0 < k) (q : x + y * k < 0) : x' + y' * k < 0 := by
  have hx := hp_nn h
  rcases h' with h' | ⟨h', h2⟩
  · by_cases z : x' + y' * k < 0
    · exact z
    · exfalso
      have a1 := Rat.mul_nonneg hx (show 0 ≤ x' + y' * k by grind)
      have a2 := Rat.mul_pos (show 0 < -(x + y * k) by grind) h'
      have a3 := Rat.mul_nonneg (Rat.le_of_lt hk) (show 0 ≤ -(x * y' - y * x') by grind)
      grind
  · have := Rat.mul_pos (show 0 < -y' by grind) hk
    grind
theorem cross_over {x y x' y' k : Rat} (h : hp x y) (h' : hp x' y') (hk : 0 < k) (q : x + y * k < 0) (q' : ¬ x' + y' * k < 0) : -(x + y * k) * y' - -y * (x' + y' * k) ≤ 0 := by
  have hx := hp_nn h
  have hx' := hp_nn h'
  have hy : y < 0 := by
    by_cases z : y < 0
    · exact z
    · have := Rat.mul_nonneg (show 0 ≤ y by grind) (Rat.le_of_lt hk)
      grind
  have b1 := Rat.mul_nonneg (show 0 ≤ x' + y' * k by grind) (show 0 ≤ -y by grind)
  have b3 := Rat.mul_nonneg hx' (show 0 ≤ -y by grind)
  by_cases z : 0 ≤ y'
  · have b2 := Rat.mul_nonneg hx z
    grind
  · have b2 := Rat.mul_nonneg (show 0 ≤ -(x + y * k) by grind) (show 0 ≤ -y' by grind)
    grind
def le (s t : Nat × Rat × Rat) : Prop := s.1 < t.1 ∨ (s.1 = t.1 ∧ s.2.1 * t.2.2 - s.2.2 * t.2.1 ≤ 0)
theorem ph_mono {J K : Nat → Rat} {p q : Rat} (hpq : p ≤ q) : ∀ i, (∀ j, j < i → 0 < J j) → (∀ j, 0 < j → j ≤ i → 0 < K j) → le (ph J K p i) (ph J K q i)
  | 0, _, _ => .inr ⟨rfl, by show (1 : Rat) * K 0 - K 0 * 1 ≤ 0; grind⟩
  | i + 1, hJ, hK => by
    have ih := ph_mono hpq i (fun j h => hJ j (by omega)) (fun j a b => hK j a (by omega))
    have hs := ph_hp (J := J) (p := p) i fun j a b => hK j a (by omega)
    have ht := ph_hp (J := J) (p := q) i fun j a b => hK j a (by omega)
    have hk := Rat.inv_pos.mpr (hK (i + 1) (by omega) (by omega))
    have hj := hJ i (by omega)
    have ds : ph J K p (i + 1) = if (ph J K p i).2.1 + ((ph J K p i).2.2 - p * J i * (ph J K p i).2.1) / K (i + 1) < 0 then ((ph J K p i).1 + 1, -((ph J K p i).2.1 + ((ph J K p i).2.2 - p * J i * (ph J K p i).2.1) / K (i + 1)), -((ph J K p i).2.2 - p * J i * (ph J K p i).2.1)) else ((ph J K p i).1, (ph J K p i).2.1 + ((ph J K p i).2.2 - p * J i * (ph J K p i).2.1) / K (i + 1), (ph J K p i).2.2 - p * J i * (ph J K p i).2.1) := rfl
    have dt : ph J K q (i + 1) = if (ph J K q i).2.1 + ((ph J K q i).2.2 - q * J i * (ph J K q i).2.1) / K (i + 1) < 0 then ((ph J K q i).1 + 1, -((ph J K q i).2.1 + ((ph J K q i).2.2 - q * J i * (ph J K q i).2.1) / K (i + 1)), -((ph J K q i).2.2 - q * J i * (ph J K q i).2.1)) else ((ph J K q i).1, (ph J K q i).2.1 + ((ph J K q i).2.2 - q * J i * (ph J K q i).2.1) / K (i + 1), (ph J K q i).2.2 - q * J i * (ph J K q i).2.1) := rfl
    rw [ds, dt]
    rw [Rat.div_def, Rat.div_def]
    generalize ph J K p i = s at *
    generalize ph J K q i = t at *
    obtain ⟨N, x, y⟩ := s
    obtain ⟨M, x', y'⟩ := t
    simp only at *
    have hs2 := hp_shear (c := p * J i) hs
    have ht2 := hp_shear (c := q * J i) ht
    have hx := hp_nn hs
    have hx' := hp_nn ht
    generalize hY : y - p * J i * x = Y at *
    generalize hY' : y' - q * J i * x' = Y' at *
    have cr : N = M → x * y' - y * x' ≤ 0 → x * Y' - Y * x' ≤ 0 := fun _ c => by
      have a1 := Rat.mul_nonneg (Rat.mul_nonneg (Rat.mul_nonneg (show 0 ≤ q - p by grind) (Rat.le_of_lt hj)) hx) hx'
      rw [← hY, ← hY']
      grind
    unfold le
    rcases ih with h | ⟨e, h⟩
    · have h' : N < M := h
      by_cases q1 : x + Y * (K (i + 1))⁻¹ < 0
      · rw [if_pos q1]
        by_cases q2 : x' + Y' * (K (i + 1))⁻¹ < 0
        · rw [if_pos q2]
          exact .inl (by show N + 1 < M + 1; omega)
        · rw [if_neg q2]
          rcases Nat.lt_or_ge (N + 1) M with z | z
          · exact .inl z
          · exact .inr ⟨by show N + 1 = M; omega, cross_over hs2 ht2 hk q1 q2⟩
      · rw [if_neg q1]
        by_cases q2 : x' + Y' * (K (i + 1))⁻¹ < 0
        · rw [if_pos q2]
          exact .inl (by show N < M + 1; omega)
        · rw [if_neg q2]
          exact .inl h'
    · have e' : N = M := e
      have c := cr e' h
      by_cases q1 : x + Y * (K (i + 1))⁻¹ < 0
      · rw [if_pos q1, if_pos (cross_turn hs2 ht2 c hk q1)]
        refine .inr ⟨by show N + 1 = M + 1; omega, ?_⟩
        show -(x + Y * (K (i + 1))⁻¹) * -Y' - -Y * -(x' + Y' * (K (i + 1))⁻¹) ≤ 0
        grind
      · rw [if_neg q1]
        by_cases q2 : x' + Y' * (K (i + 1))⁻¹ < 0
        · rw [if_pos q2]
          exact .inl (by show N < M + 1; omega)
        · rw [if_neg q2]
          refine .inr ⟨e', ?_⟩
          show (x + Y * (K (i + 1))⁻¹) * Y' - Y * (x' + Y' * (K (i + 1))⁻¹) ≤ 0
          grind
theorem cross_end {x y x' y' k : Rat} (h : hp x y) (h' : hp x' y') (c : x * y' - y * x' ≤ 0) (hk : 0 ≤ k) (q : k * x + y < 0) : k * x' + y' < 0 := by
  have hx := hp_nn h
  rcases h' with h' | ⟨h', h2⟩
  · by_cases z : k * x' + y' < 0
    · exact z
    · exfalso
      have a1 := Rat.mul_nonneg hx (show 0 ≤ k * x' + y' by grind)
      have a2 := Rat.mul_pos (show 0 < -(k * x + y) by grind) h'
      grind
  · rw [h']
    grind
theorem cnt_mono {J K : Nat → Rat} {p q : Rat} (hpq : p ≤ q) (n : Nat) (hJ : ∀ j, j < n + 1 → 0 < J j) (hK : ∀ j, 0 < j → j ≤ n → 0 < K j) (hn : 0 ≤ K (n + 1)) : cnt J K p n ≤ cnt J K q n := by
  have ih := ph_mono hpq n (fun j h => hJ j (by omega)) hK
  have hs := ph_hp (J := J) (p := p) n hK
  have ht := ph_hp (J := J) (p := q) n hK
  have hj := hJ n (by omega)
  unfold cnt
  generalize ph J K p n = s at *
  generalize ph J K q n = t at *
  obtain ⟨N, x, y⟩ := s
  obtain ⟨M, x', y'⟩ := t
  show N + (if K (n + 1) * x + (y - p * J n * x) < 0 then 1 else 0) ≤ M + (if K (n + 1) * x' + (y' - q * J n * x') < 0 then 1 else 0)
  rcases ih with h | ⟨e, h⟩
  · have h' : N < M := h
    split <;> split <;> omega
  · have e' : N = M := e
    by_cases q1 : K (n + 1) * x + (y - p * J n * x) < 0
    · have hx := hp_nn hs
      have hx' := hp_nn ht
      have c : x * (y' - q * J n * x') - (y - p * J n * x) * x' ≤ 0 := by
        have h2 : x * y' - y * x' ≤ 0 := h
        have a1 := Rat.mul_nonneg (Rat.mul_nonneg (Rat.mul_nonneg (show 0 ≤ q - p by grind) (Rat.le_of_lt hj)) hx) hx'
        grind
      rw [if_pos q1, if_pos (cross_end (hp_shear hs) (hp_shear ht) c hn q1)]
      omega
    · rw [if_neg q1]
      omega

/-! ### none at 0, all beyond a bound -/
theorem cnt_zero {J K : Nat → Rat} (n : Nat) (h0 : 0 ≤ K 0) (hK : ∀ j, 0 < j → j ≤ n → 0 < K j) (hn : 0 ≤ K (n + 1)) : cnt J K 0 n = 0 := by
  have key : ∀ i, i ≤ n → (ph J K 0 i).1 = 0 ∧ 0 < (ph J K 0 i).2.1 ∧ (ph J K 0 i).2.2 = K 0 := by
    intro i
    induction i with
    | zero => exact fun _ => ⟨rfl, by show (0 : Rat) < 1; decide +kernel, rfl⟩
    | succ i ih =>
      intro hi
      obtain ⟨a, b, c⟩ := ih (by omega)
      have hk := Rat.inv_pos.mpr (hK (i + 1) (by omega) hi)
      have e : (ph J K 0 i).2.2 - 0 * J i * (ph J K 0 i).2.1 = K 0 := by
        rw [c]
        grind
      have px : 0 < (ph J K 0 i).2.1 + ((ph J K 0 i).2.2 - 0 * J i * (ph J K 0 i).2.1) / K (i + 1) := by
        rw [e, Rat.div_def]
        have := Rat.mul_nonneg h0 (Rat.le_of_lt hk)
        grind
      have ds : ph J K 0 (i + 1) = ((ph J K 0 i).1, (ph J K 0 i).2.1 + ((ph J K 0 i).2.2 - 0 * J i * (ph J K 0 i).2.1) / K (i + 1), (ph J K 0 i).2.2 - 0 * J i * (ph J K 0 i).2.1) := if_neg (by grind)
      rw [ds]
      exact ⟨a, px, e⟩
  obtain ⟨a, b, c⟩ := key n (Nat.le_refl _)
  unfold cnt
  show (ph J K 0 n).1 + (if _ < 0 then 1 else 0) = 0
  rw [a, if_neg]
  have := Rat.mul_nonneg hn (Rat.le_of_lt b)
  rw [c]
  grind
theorem div_far {Y k x : Rat} (hk : 0 < k) (h : Y < -(2 * k * x)) : Y / k < -(2 * x) := by
  have e : Y = k * (Y / k) := by grind
  generalize Y / k = Z at *
  by_cases z : Z < -(2 * x)
  · exact z
  · exfalso
    have := Rat.mul_nonneg (Rat.le_of_lt hk) (show 0 ≤ Z + 2 * x by grind)
    grind
theorem mul_div' {Y k : Rat} (hk : 0 < k) : k * (Y / k) = Y := by grind
theorem cnt_far {J K : Nat → Rat} {p : Rat} (n : Nat) (h0 : 0 ≤ K 0) (hK : ∀ j, 0 < j → j ≤ n → 0 < K j) (hn : 0 ≤ K (n + 1)) (hp : ∀ j, j ≤ n → 2 * (K j + K (j + 1)) < p * J j) : cnt J K p n = n + 1 := by
  have key : ∀ i, i ≤ n → (ph J K p i).1 = i ∧ 0 < (ph J K p i).2.1 ∧ (ph J K p i).2.2 ≤ 2 * K i * (ph J K p i).2.1 := by
    intro i
    induction i with
    | zero => exact fun _ => ⟨rfl, by show (0 : Rat) < 1; decide +kernel, by show K 0 ≤ 2 * K 0 * 1; grind⟩
    | succ i ih =>
      intro hi
      obtain ⟨a, b, c⟩ := ih (by omega)
      have hk := hK (i + 1) (by omega) hi
      have hki := Rat.inv_pos.mpr hk
      have hb := Rat.mul_pos (show 0 < p * J i - 2 * (K i + K (i + 1)) by have := hp i (by omega); grind) b
      have y1 : (ph J K p i).2.2 - p * J i * (ph J K p i).2.1 < -(2 * K (i + 1) * (ph J K p i).2.1) := by grind
      generalize hY : (ph J K p i).2.2 - p * J i * (ph J K p i).2.1 = Y at *
      have y2 : Y / K (i + 1) < -(2 * (ph J K p i).2.1) := div_far hk y1
      have ds : ph J K p (i + 1) = ((ph J K p i).1 + 1, -((ph J K p i).2.1 + Y / K (i + 1)), -Y) := by
        show (if (ph J K p i).2.1 + ((ph J K p i).2.2 - p * J i * (ph J K p i).2.1) / K (i + 1) < 0 then _ else _) = _
        rw [hY, if_pos (by grind)]
      rw [ds]
      refine ⟨by show _ + 1 = _; omega, by show 0 < -_; grind, ?_⟩
      show -Y ≤ 2 * K (i + 1) * -((ph J K p i).2.1 + Y / K (i + 1))
      have := mul_div' (Y := Y) hk
      have := Rat.mul_pos hk b
      grind
  obtain ⟨a, b, c⟩ := key n (Nat.le_refl _)
  have hb := Rat.mul_pos (show 0 < p * J n - 2 * (K n + K (n + 1)) by have := hp n (by omega); grind) b
  have hc := Rat.mul_nonneg hn (Rat.le_of_lt b)
  unfold cnt
  show (ph J K p n).1 + (if _ < 0 then 1 else 0) = n + 1
  rw [a, if_pos]
  grind
end Mx
/-! An object that stands for a fraction: made once, read only. -/
namespace DL
open PySem PySem.Spec PyProof.Rows L2
/-- o.f = .. as one of several targets -/
def gFld (K : PySem.W.Frag) (to : TE) (f : Str) : TG := fun v σ H Q => to σ H fun x H1 => ∃ (a C dx : Addr) (fs : List (Str × V)), x = .ref a ∧ H1 a = some (.ins C dx fs) ∧ Cls K C ∧ NoAttr K C f ∧ fs.length < 1000 ∧ Q σ (upd H1 a (.ins C dx (putF f v fs)))
theorem pg_fld {X : Cx} {o : Expr} {f : Str} {pos : Pos} {to : TE} (eo : PE X o to) : PG X (.Attribute o f pos) (gFld X.K to f) := by
  constructor
  intro pins s σ H v u Q I rv tq
  rw [assign_Attribute]
  refine wpAny_bind (wpAny_holding (thn (eo.run pins s σ H _ I tq) ?_))
  rintro ov s1 ⟨x, H1, I1, rx, a, C, dx, fs, rfl, e, c, n, l, q⟩
  obtain rfl : ov = Value.ref a := rx
  refine wpAny_bind (wpAny_standAt (wpAny_bind (wpAny_holding (setattr_ok I1 e c n l rv fun s2 I2 => ?_))))
  exact wpAny_release ⟨σ, _, I2, q⟩
end DL
namespace Mx
open PySem PySem.Spec PyProof.Rows L2 DL
structure PlaceAt (K : PySem.W.Frag) (H : Hp) (a : Addr) (p : Fr) : Prop where
  ex : ∃ (C dx : Addr) (fs : List (Str × V)) (vt vp : V), H a = some (.ins C dx fs) ∧ fs.lookup ("told" : Str) = some vt ∧ fs.lookup ("polynomial" : Str) = some vp ∧ Dn K H vt (frD p) ∧ Dn K H vp (.tuple []) ∧ Cls K C ∧ NoAttr K C "told" ∧ NoAttr K C "polynomial"
theorem PlaceAt.mono {K : PySem.W.Frag} {H H' : Hp} {a : Addr} {p : Fr} (h : PlaceAt K H a p) (s : Same H H') : PlaceAt K H' a p := by
  obtain ⟨C, dx, fs, vt, vp, e, l1, l2, d1, d2, r⟩ := h.ex
  exact ⟨C, dx, fs, vt, vp, s _ _ e, l1, l2, d1.mono s, d2.mono s, r⟩
def SpO (K : PySem.W.Frag) (pre : PyData → Fr → Prop) (post : PyData → Fr → PyData → Prop) : Sp := fun vs H Q _ => ∃ (M : List Addr) (v : V) (a : Addr) (d : PyData) (p : Fr), vs = [v, .ref a] ∧ (∀ m ∈ M, ∃ o, H m = some o) ∧ PlaceAt K (hid M H) a p ∧ Dn K (hid M H) v d ∧ pre d p ∧
  ∀ u e H', Same H H' → Dn K (hid M H') u e → post d p e → Q u H'
def SpMk (K : PySem.W.Frag) : Sp := fun vs H Q _ => ∃ (M : List Addr) (v : V) (p : Fr), vs = [v] ∧ (∀ m ∈ M, ∃ o, H m = some o) ∧ Dn K (hid M H) v (frD p) ∧ ∀ a H', Same H H' → PlaceAt K (hid M H') a p → Q (.ref a) H'
section
variable {K : PySem.W.Frag} {B : Bs} {G : List Hp} {L : List Addr} {Γ : List Sl} {H H' H2 : Hp} {σ : L2.St} {te tp : TE} {k : PyData → Prop} {pre : PyData → Fr → Prop} {post : PyData → Fr → PyData → Prop} {t : TS}
theorem Go.ext (E : DL.Env K B G L H σ Γ) (s : Same H H') : Go K B G L Γ H H' σ := Go.step E (fun a o _ e => s a o e) fun w hw => by
  obtain ⟨n, b, c, e, q⟩ := E.ws w hw
  exact ⟨n, b, c, s _ _ e, q⟩
theorem Env.raw {i : Nat} {v : V} (E : DL.Env K B G L H σ Γ) (hi : Γ[i]? = some (.raw v)) : σ[i]? = some (some v) := by
  have q := E.sl i _ hi
  have q2 : σ[i]?.join = some v := q
  cases e : σ[i]? with
  | none => rw [e] at q2; cases q2
  | some x =>
    rw [e] at q2
    rw [show x = some v from q2]
theorem ev_fldT {i : Nat} {a : Addr} {p : Fr} {g : Hp} (hi : Γ[i]? = some (.raw (.ref a))) (hg : g ∈ G) (hp : PlaceAt K g a p) (hk : k (frD p)) : EvP K B G L Γ (tFld K (tVar i) "told") k := fun σ H Q E q => by
  obtain ⟨C, dx, fs, vt, vp, e, l1, l2, d1, d2, c, n1, n2⟩ := (hp.mono (E.gh g hg)).ex
  exact ⟨_, Env.raw E hi, a, C, dx, fs, vt, rfl, hid_sub _ _ _ _ e, c, n1, l1, q _ _ H (Go.refl E) d1 hk⟩
theorem ev_fldP {i : Nat} {a : Addr} {p : Fr} {g : Hp} (hi : Γ[i]? = some (.raw (.ref a))) (hg : g ∈ G) (hp : PlaceAt K g a p) (hk : k (.tuple [])) : EvP K B G L Γ (tFld K (tVar i) "polynomial") k := fun σ H Q E q => by
  obtain ⟨C, dx, fs, vt, vp, e, l1, l2, d1, d2, c, n1, n2⟩ := (hp.mono (E.gh g hg)).ex
  exact ⟨_, Env.raw E hi, a, C, dx, fs, vp, rfl, hid_sub _ _ _ _ e, c, n2, l2, q _ _ H (Go.refl E) d2 hk⟩
theorem ev_callO {i : Nat} {a : Addr} {p : Fr} {g : Hp} {E0 : XK} (hi : Γ[i]? = some (.raw (.ref a))) (hg : g ∈ G) (hp : PlaceAt K g a p) (h : EvP K B G L Γ te fun d => pre d p ∧ ∀ e, post d p e → k e) : EvP K B G L Γ (tCall (SpO K pre post) [] E0 (tCons te (tCons (tVar i) tNil))) k := fun σ H Q E q =>
  h σ H _ E fun v d H1 g1 dn ⟨hq, hk⟩ => by
    refine ⟨_, Env.raw g1.env hi, L ++ B.M, v, a, d, p, rfl, g1.env.alive, hp.mono (g1.env.gh g hg), dn, hq, fun u e H' s de po => ?_⟩
    exact q u e H' (g1.trans (Go.ext g1.env s)) de (hk e po)
theorem ev_callMk {E0 E1 : XK} (h : EvP K B G L Γ te fun d => EvP K B G L Γ tp fun e => ∃ p, e = frD p ∧ pre d p ∧ ∀ r, post d p r → k r) :
    EvP K B G L Γ (tCall (SpO K pre post) [] E0 (tCons te (tCons (tCall (SpMk K) [] E1 (tCons tp tNil)) tNil))) k := fun σ H Q E q =>
  h σ H _ E fun v d H1 g1 dn h2 => h2 σ H1 _ g1.env fun w e H2 g2 de ⟨p, ee, hq, hk⟩ => by
    subst ee
    refine ⟨L ++ B.M, w, p, rfl, g2.env.alive, de, fun a H3 s pl => ?_⟩
    have g3 := Go.ext g2.env s
    refine ⟨L ++ B.M, v, a, d, p, rfl, g3.env.alive, pl, (dn.mono g2.sm).mono g3.sm, hq, fun u r H4 s4 dr po => ?_⟩
    exact q u r H4 (((g1.trans g2).trans g3).trans (Go.ext g3.env s4)) dr (hk r po)
theorem body_O {N : List Str} {vs : List V} {Q : VK} {E : XK} (hN : 2 ≤ N.length) (h : SpO K pre post vs H Q E)
    (hb : ∀ (B : Bs) (a : Addr) (d : PyData) (p : Fr), B.Ws = [] → PlaceAt K (hid B.M B.H) a p → pre d p →
      StP K B [hid B.M B.H] [] (.d d :: .raw (.ref a) :: List.replicate (N.length - 2) .un) t { nx := fun _ _ => post d p .none, rt := post d p }) : t { nx := fun _ H' => Q .non H', rt := Q } (L2.start N vs) H := by
  obtain ⟨M, v, a, d, p, rfl, lm, pl, dn, hp, q⟩ := h
  have e0 : L2.start N [v, .ref a] = some v :: some (.ref a) :: List.replicate (N.length - 2) none := by
    unfold L2.start
    simp
  have noO : ∀ (i : Nat) (s : Sl), (.d d :: .raw (.ref a) :: List.replicate (N.length - 2) Sl.un)[i]? = some s → s = .d d ∨ s = .raw (.ref a) ∨ s = .un := fun i s hi => by
    match i, hi with
    | 0, hi => exact .inl (Option.some.inj hi).symm
    | 1, hi => exact .inr (.inl (Option.some.inj hi).symm)
    | i + 2, hi => exact .inr (.inr (List.eq_of_mem_replicate (List.mem_of_getElem? (show (List.replicate (N.length - 2) Sl.un)[i]? = some s from hi))))
  have E0 : DL.Env K ⟨M, [], H⟩ [hid M H] [] H (L2.start N [v, .ref a]) (.d d :: .raw (.ref a) :: List.replicate (N.length - 2) .un) := by
    rw [e0]
    refine ⟨fun _ _ _ e => e, fun w hw => (by cases hw), fun w hw => (by cases hw), lm, fun l hl => (by cases hl), by simp, fun i s hi => ?_, fun g hg => ?_, fun i l xs hi => ?_, fun i j l xs ys hi hj => ?_, fun i w hi => ?_⟩
    · match i, hi with
      | 0, hi =>
        cases hi
        exact ⟨v, rfl, dn⟩
      | 1, hi =>
        cases hi
        rfl
      | i + 2, hi =>
        have := List.eq_of_mem_replicate (List.mem_of_getElem? (show (List.replicate (N.length - 2) Sl.un)[i]? = some s from hi))
        subst this
        trivial
    · rw [List.mem_singleton.mp hg]
      exact Same.refl _
    · rcases noO _ _ hi with e | e | e <;> cases e
    · rcases noO _ _ hi with e | e | e <;> cases e
    · rcases noO _ _ hi with e | e | e <;> cases e
  exact hb ⟨M, [], H⟩ a d p rfl pl hp _ _ _ E0 ⟨fun L Γ σ H' hq E' => q _ _ H' (fun a o e => E'.fr a o (by simp) e) .non hq, fun v d H' hq o dn => q v d H' (fun a o' e => o.fr a o' (by simp) e) dn hq, fun _ _ _ _ z => z.elim, fun _ _ _ _ z => z.elim⟩
theorem st_forRevT {j : Nat} {P : PD} (h : EvP K B G L Γ te fun d => ∃ ds, d = .tuple ds ∧ ∃ I : Nat → List Addr → List Sl → Prop, I 0 L Γ ∧
    (∀ i d' L' Γ' g, i < ds.length → ds[ds.length - 1 - i]? = some d' → I i L' Γ' → StP K B (g :: G) L' (Γ'.set j (.d d')) t (P.inLoop (I (i + 1)))) ∧ ∀ L' Γ', I ds.length L' Γ' → P.nx L' Γ') :
    StP K B G L Γ (tFor (RT.iRevA K te) (gName j) t) P := fun σ H D E M =>
  h σ H _ E fun v d H1 g1 dn ⟨ds, e, I, h0, hs, hd⟩ => by
    subst e
    cases dn with
    | @tup a xs _ e1 h2 =>
      have E1 := g1.env.gpush
      have hl := h2.length
      have sq : ∀ {L' : List Addr} {Γ' : List Sl} {σ' : L2.St} {H' : Hp}, DL.Env K B (hid (L ++ B.M) H1 :: G) L' H' σ' Γ' → SqT K H' a xs := fun E' => Same.sqt (hid_sub _ _) (Same.sqt (E'.gh _ (List.mem_cons_self ..)) e1)
      refine ⟨a, xs, rfl, .inr ⟨Same.sqt (hid_sub _ _) e1, RT.for_ItvT (xs := xs) (fun i σ' H' => ∃ L' Γ', I i L' Γ' ∧ DL.Env K B (hid (L ++ B.M) H1 :: G) L' H' σ' Γ') ⟨L, Γ, h0, E1⟩ ?_ ?_ ?_⟩⟩
      · rintro i σ' H' ⟨L', Γ', _, E'⟩
        exact sq E'
      · rintro i x σ' H' hin hi ⟨L', Γ', hI, E'⟩
        obtain ⟨d', e', dn'⟩ := h2.getV hi
        rw [hl] at e'
        exact hs i d' L' Γ' _ (by omega) e' hI _ H' _ (E'.put j (dn'.mono (E'.gh _ (List.mem_cons_self ..)))) ⟨fun L2 Γ2 σ2 H2 q E2 => ⟨L2, Γ2, q, E2⟩, M.rt, fun L2 Γ2 σ2 H2 q E2 => M.nx _ _ _ _ q E2.gpop, fun L2 Γ2 σ2 H2 q E2 => ⟨L2, Γ2, q, E2⟩⟩
      · rintro σ' H' ⟨L', Γ', hI, E'⟩
        rw [hl] at hI
        exact M.nx _ _ _ _ (hd L' Γ' hI) E'.gpop
end
end Mx
namespace Mx
open PySem
theorem hor_sgn {S : Rat} {u : List Int} {f : Nat → Rat} (pS : 0 < S) (r : ∀ k, ((u.getD k 0 : Int) : Rat) = S * f k) {t b : Int} (hb : 0 < b) : sgn (hor t b u) = rsgn (fev f ((t : Rat) / (b : Rat)) u.length) := by
  have e := hor_eq (t := t) (show b ≠ 0 by omega) u
  have e2 : fev (fun k => ((u.getD k 0 : Int) : Rat)) ((t : Rat) / (b : Rat)) u.length = S * fev f ((t : Rat) / (b : Rat)) u.length := by
    rw [fev_congr (g := fun k => S * f k + 0 * f k) (fun k => by rw [r k]; grind), fev_lin]
    grind
  rw [e2] at e
  have pb := ratInt_pos hb
  rw [← rsgn_int, ← rsgn_mul pb, e, rsgn_mul (pow_posQ pb _), rsgn_mul pS]
theorem prim_sgn {S : Int} {u : List Int} {f : Nat → Rat} (r : Rel S u f) {k : Nat} (ne : f k ≠ 0) {t b : Int} (hb : 0 < b) : sgn (hor t b (prim u)) = rsgn (fev f ((t : Rat) / (b : Rat)) u.length) := by
  have un := r.ne ne
  have g := gcdL_pos ⟨_, mem_getD un, un⟩
  have gq := ratInt_pos (a := ((gcdL u : Nat) : Int)) (by omega)
  have gi := Rat.inv_pos.mpr gq
  have := hor_sgn (S := (S : Rat) * (((gcdL u : Nat) : Int) : Rat)⁻¹) (u := prim u) (f := f) (t := t) (b := b) (Rat.mul_pos (ratInt_pos r.pos) gi) (fun k => by
    have h1 := r.at_ k
    rw [prim_get]
    have h2 : u.getD k 0 = u.getD k 0 / ((gcdL u : Nat) : Int) * ((gcdL u : Nat) : Int) := by
      by_cases z : u.getD k 0 = 0
      · rw [z]
        simp
      · exact (Int.ediv_mul_cancel (gcdL_dvd (mem_getD z))).symm
    rw [h2, Rat.intCast_mul] at h1
    generalize u.getD k 0 / ((gcdL u : Nat) : Int) = z at *
    grind) hb
  rw [prim_len] at this
  exact this
theorem natAbs_pow_lt {b : Int} {m : Nat} (hb : b.natAbs < 2 ^ m) : ∀ n : Nat, (b ^ n).natAbs < 2 ^ (m * n + 1)
  | 0 => by
    rw [Int.pow_zero, Nat.mul_zero]
    decide
  | n + 1 => by
    rw [Int.pow_succ]
    exact pow_up (natAbs_mul_lt (natAbs_pow_lt hb n) hb) (by rw [Nat.mul_succ]; omega)
theorem hor_bd {t b : Int} {m : Nat} (ht : t.natAbs < 2 ^ m) (hb : b.natAbs < 2 ^ m) : ∀ u : List Int, bd u m → (hor t b u).natAbs < 2 ^ ((2 * m + 2) * u.length + 1)
  | [], _ => by
    show (0 : Int).natAbs < 2 ^ _
    exact Nat.pow_pos (by decide)
  | x :: xs, h => by
    have ih := hor_bd ht hb xs fun y hy => h y (List.mem_cons_of_mem _ hy)
    have hx := h x (List.mem_cons_self ..)
    have hp := natAbs_pow_lt hb xs.length
    have e : (2 * m + 2) * (xs.length + 1) = (2 * m + 2) * xs.length + 2 * m + 2 := by rw [Nat.mul_succ]; omega
    have e2 : m * xs.length ≤ (2 * m + 2) * xs.length := Nat.mul_le_mul_right _ (by omega)
    show (hor t b xs * t + x * b ^ xs.length).natAbs < 2 ^ ((2 * m + 2) * (xs.length + 1) + 1)
    rw [e]
    exact pow_up (natAbs_add_lt (m := (2 * m + 2) * xs.length + 1 + m) (natAbs_mul_lt ih ht) (pow_up (natAbs_mul_lt hx hp) (by omega))) (by omega)
end Mx
/-! What the specs of defs share. -/
namespace Mx
open PySem PySem.Spec PyProof.Rows L2 DL
theorem atI_n {α : Type} (xs : List α) (n : Nat) : atI xs (n : Int) = xs[n]? := by
  unfold atI ixN
  by_cases h : n < xs.length
  · rw [if_pos (by omega), if_pos (by omega)]
    simp
  · rw [if_pos (by omega), if_neg (by omega), List.getElem?_eq_none (by omega)]
    rfl
theorem cutD_take (ds : List PyData) {m : Nat} (h : m ≤ ds.length) : DL.cutD ds none (some (m : Int)) = ds.take m := by
  unfold DL.cutD
  rw [HT.sIx_none, HT.sIx_nat, Nat.min_eq_left h]
  rfl
theorem trim_take {ns : List Int} {m : Nat} (hz : ∀ x ∈ ns.drop m, x = 0) (hl : 0 < m → ns.getD (m - 1) 0 ≠ 0) : trim ns = ns.take m := by
  have e1 : trim ns = trim (ns.take m) := by
    unfold trim
    have : ns.reverse = (ns.drop m).reverse ++ (ns.take m).reverse := by rw [← List.reverse_append, List.take_append_drop]
    rw [this, List.dropWhile_append_of_pos]
    intro x hx
    rw [hz x (List.mem_reverse.mp hx)]
    rfl
  rw [e1]
  apply trim_id
  intro z
  rcases Nat.eq_zero_or_pos m with h | h
  · subst h
    simp at z
  · rw [List.getLast?_eq_getElem?, List.length_take] at z
    have hm : m ≤ ns.length := by
      rcases Nat.lt_or_ge ns.length m with q | q
      · exfalso
        exact hl h (Mx.getD_out (by omega))
      · exact q
    rw [Nat.min_eq_left hm, List.getElem?_take_of_lt (by omega)] at z
    apply hl h
    rw [List.getD_eq_getElem?_getD, z]
    rfl
theorem map_getG {α β : Type} {f : α → β} {u : List α} {i : Nat} {d : β} (h : (u.map f)[i]? = some d) : ∃ x, u[i]? = some x ∧ d = f x := by
  rw [List.getElem?_map] at h
  cases e : u[i]? with
  | none => rw [e] at h; cases h
  | some x =>
    rw [e] at h
    exact ⟨x, rfl, (Option.some.inj h).symm⟩
theorem map_get {u : List Int} {i : Nat} {d : PyData} (h : (u.map PyData.int)[i]? = some d) : ∃ x, u[i]? = some x ∧ d = .int x := by
  rw [List.getElem?_map] at h
  cases e : u[i]? with
  | none => rw [e] at h; cases h
  | some x =>
    rw [e] at h
    exact ⟨x, rfl, (Option.some.inj h).symm⟩
theorem map_int_inj : ∀ {u v : List Int}, u.map PyData.int = v.map PyData.int → u = v
  | [], [], _ => rfl
  | [], _ :: _, h => by simp at h
  | _ :: _, [], h => by simp at h
  | x :: xs, y :: ys, h => by
    simp only [List.map_cons, List.cons.injEq, PyData.int.injEq] at h
    rw [h.1, map_int_inj h.2]
theorem lg {x : Int} {m : Nat} (h : x.natAbs < 2 ^ m) : x.natAbs.log2 ≤ m := by
  by_cases z : x.natAbs = 0
  · rw [z]
    exact Nat.zero_le _
  · exact Nat.le_of_lt ((Nat.log2_lt z).mpr h)
theorem mulW_of {x y : Int} {m n : Nat} (hx : x.natAbs < 2 ^ m) (hy : y.natAbs < 2 ^ n) (h : m + n < 1000000) : CMulW x y := by
  have a := lg hx
  have b := lg hy
  unfold CMulW
  omega
def sums (a : Int) (u : List Int) (b : Int) (v : List Int) (i : Nat) : List Int := (List.range (max u.length v.length)).map fun k => a * u.getD k 0 + if k < i then b * v.getD k 0 else 0
theorem sums_at (a : Int) (u : List Int) (b : Int) (v : List Int) (i k : Nat) (h : k < max u.length v.length) : (sums a u b v i)[k]? = some (a * u.getD k 0 + if k < i then b * v.getD k 0 else 0) := by
  unfold sums
  rw [List.getElem?_map, List.getElem?_range h]
  rfl
theorem sums_len (a : Int) (u : List Int) (b : Int) (v : List Int) (i : Nat) : (sums a u b v i).length = max u.length v.length := by simp [sums]
theorem sums_step {a : Int} {u : List Int} {b : Int} {v : List Int} {i : Nat} {y : Int} (hy : v[i]? = some y) : sums a u b v (i + 1) = (sums a u b v i).set i (a * u.getD i 0 + b * y) := by
  have hi : i < v.length := (List.getElem?_eq_some_iff.mp hy).1
  have hv : v.getD i 0 = y := by rw [List.getD_eq_getElem?_getD, hy]; rfl
  apply List.ext_getElem?
  intro k
  by_cases hk : k < max u.length v.length
  · rw [sums_at a u b v (i + 1) k hk]
    by_cases e : k = i
    · subst e
      rw [List.getElem?_set_self (by rw [sums_len]; omega), if_pos (by omega), hv]
    · rw [List.getElem?_set_ne (Ne.symm e), sums_at a u b v i k hk]
      by_cases q : k < i
      · rw [if_pos q, if_pos (by omega)]
      · rw [if_neg q, if_neg (by omega)]
  · rw [List.getElem?_eq_none (by rw [sums_len]; omega), List.getElem?_eq_none (by rw [List.length_set, sums_len]; omega)]
theorem sums_all (a : Int) (u : List Int) (b : Int) (v : List Int) : sums a u b v v.length = comb a u b v := by
  unfold sums comb
  apply List.map_congr_left
  intro k _
  by_cases q : k < v.length
  · rw [if_pos q]
  · rw [if_neg q, getD_out (u := v) (by omega)]
    omega
theorem sums_zero (a : Int) (u : List Int) (b : Int) (v : List Int) : sums a u b v 0 = (u.map fun x => a * x) ++ List.replicate (v.length - u.length) 0 := by
  apply List.ext_getElem?
  intro k
  by_cases hk : k < max u.length v.length
  · rw [sums_at a u b v 0 k hk, if_neg (by omega)]
    by_cases q : k < u.length
    · rw [List.getElem?_append_left (by simpa using q), List.getElem?_map, List.getElem?_eq_getElem q, List.getD_eq_getElem?_getD, List.getElem?_eq_getElem q]
      simp
    · rw [List.getElem?_append_right (by simpa using q), List.getElem?_replicate, if_pos (by simp; omega), getD_out (by omega)]
      simp
  · rw [List.getElem?_eq_none (by rw [sums_len]; omega), List.getElem?_eq_none (by simp; omega)]
theorem gcdL_append : ∀ u v : List Int, gcdL (u ++ v) = Nat.gcd (gcdL u) (gcdL v)
  | [], v => by simp [gcdL]
  | x :: xs, v => by
    simp only [List.cons_append, gcdL]
    rw [gcdL_append xs v, Nat.gcd_assoc]
def rowD (u : List Int) : PyData := .tuple (u.map .int)
def angD (p : List Int × Int) : PyData := .tuple [rowD p.1, .int p.2]
def lineD (ds ss : List Fr) : PyData := .tuple [.tuple (ds.map frD), .tuple (ss.map frD)]
structure PLists (dd ss : List Fr) (i : Nat) (as : List (List Int × Int)) (ts : List (List Int)) : Prop where
  la : as.length = i
  lt : ts.length = i
  pa : ∀ j p, as[j]? = some p → Rel p.2 p.1 (tn (jv dd) (jv ss) j) ∧ p.1.length = j + 1 ∧ bd p.1 (64 + 130 * j)
  pt : ∀ j t, ts[j]? = some t → (∃ S, Rel S t (tq (jv dd) (jv ss) (j + 1))) ∧ t.length = j + 2 ∧ bd t (64 + 130 * (j + 1))
def PInv (dd ss : List Fr) (i : Nat) (S : Int) (turn torque : List Int) (as : List (List Int × Int)) (ts : List (List Int)) : Prop :=
  (i < dd.length → Sta dd ss i S turn torque ∧ as.length = i ∧ ts.length = i ∧ PLists dd ss i as ts ∧ True) ∧
  (i = dd.length → PLists dd ss i as ts ∧ (∃ S, Rel S turn (en (jv dd) (jv ss) (dd.length - 1))) ∧ turn.length = dd.length + 1 ∧ bd turn (64 + 130 * dd.length))
def Parts (dd ss : List Fr) (d : PyData) : Prop := ∃ (as : List (List Int × Int)) (ts : List (List Int)) (e : List Int), d = .tuple [.list (as.map angD), .list (ts.map rowD), rowD e] ∧ PLists dd ss dd.length as ts ∧
  (∃ S, Rel S e (en (jv dd) (jv ss) (dd.length - 1))) ∧ e.length = dd.length + 1 ∧ bd e (64 + 130 * dd.length)
theorem pinv0 {dd ss : List Fr} (h : LN dd ss) {C : Fr} (hC : ss[0]? = some C) : PInv dd ss 0 C.2 [C.2] (if C.1 = 0 then [] else [C.1]) [] [] := by
  have := h.c1
  exact ⟨fun _ => ⟨sta0 h hC, rfl, rfl, ⟨rfl, rfl, by simp, by simp⟩, trivial⟩, fun z => by omega⟩
theorem get_push {α : Type} {xs : List α} {x y : α} {j : Nat} (h : (xs ++ [x])[j]? = some y) : xs[j]? = some y ∨ (j = xs.length ∧ y = x) := by
  rcases Nat.lt_trichotomy j xs.length with q | q | q
  · rw [List.getElem?_append_left q] at h
    exact .inl h
  · subst q
    rw [List.getElem?_append_right (Nat.le_refl _)] at h
    simp at h
    exact .inr ⟨rfl, h.symm⟩
  · rw [List.getElem?_eq_none (by simp; omega)] at h
    cases h
theorem pinvS {dd ss : List Fr} (h : LN dd ss) {i : Nat} {S : Int} {turn torque : List Int} {as : List (List Int × Int)} {ts : List (List Int)} (I : PInv dd ss i S turn torque as ts) (hi : i < dd.length) {J C : Fr} (hJ : dd[i]? = some J) (hC : ss[i + 1]? = some C)
    {to' : List Int} (hr : Rel (S * J.2) to' (tq (jv dd) (jv ss) (i + 1))) (hl : to'.length = i + 2) (hb : bd to' (64 + 130 * i + 65)) :
    PInv dd ss (i + 1) (S * (J.2 * C.1)) (trim (comb (J.2 * C.1) turn C.2 to')) (trim (comb C.1 to' 0 [])) (as ++ [(turn, S)]) (ts ++ [to']) := by
  obtain ⟨st, la, lt, p, _⟩ := I.1 hi
  have pl : PLists dd ss (i + 1) (as ++ [(turn, S)]) (ts ++ [to']) := by
    refine ⟨by simp [la], by simp [lt], fun j q hj => ?_, fun j t hj => ?_⟩
    · rcases get_push hj with hj | ⟨e1, e2⟩
      · exact p.pa j q hj
      · rw [e2, e1, la]
        exact ⟨st.tu, st.tl, st.bt⟩
    · rcases get_push hj with hj | ⟨e1, e2⟩
      · exact p.pt j t hj
      · rw [e2, e1, lt]
        exact ⟨⟨_, hr⟩, hl, fun x hx => pow_up (hb x hx) (by omega)⟩
  refine ⟨fun q => ?_, fun q => ?_⟩
  · exact ⟨step2 h q st hJ hC hr hl hb, pl.la, pl.lt, pl, trivial⟩
  · obtain ⟨a, b, c⟩ := stepE h q st hJ hC hr hl hb
    have e : dd.length - 1 = i := by omega
    refine ⟨pl, ⟨_, by rw [e]; exact a⟩, by omega, by rw [← q]; exact c⟩
theorem pinvE {dd ss : List Fr} (h : LN dd ss) {S : Int} {turn torque : List Int} {as : List (List Int × Int)} {ts : List (List Int)} (I : PInv dd ss dd.length S turn torque as ts) : Parts dd ss (.tuple [.list (as.map angD), .list (ts.map rowD), rowD turn]) := by
  obtain ⟨a, b, c, d⟩ := I.2 rfl
  exact ⟨as, ts, turn, rfl, a, b, c, d⟩
theorem blend_inj {u u' v v' : List Int} {a a' b b' : Int} (h : [PyData.tuple (u.map .int), .int a, .tuple (v.map .int), .int b] = [PyData.tuple (u'.map .int), .int a', .tuple (v'.map .int), .int b']) : u = u' ∧ a = a' ∧ v = v' ∧ b = b' := by
  simp only [List.cons.injEq, PyData.tuple.injEq, PyData.int.injEq] at h
  exact ⟨map_int_inj h.1, h.2.1, map_int_inj h.2.2.1, h.2.2.2.1⟩
theorem frD_inj {x y : Fr} (h : frD x = frD y) : x = y := by
  obtain ⟨a, b⟩ := x
  obtain ⟨c, d⟩ := y
  unfold frD at h
  simp only [PyData.tuple.injEq, List.cons.injEq, PyData.int.injEq] at h
  rw [h.1, h.2.1]
theorem mapF_inj : ∀ {u v : List Fr}, u.map frD = v.map frD → u = v
  | [], [], _ => rfl
  | [], _ :: _, h => by simp at h
  | _ :: _, [], h => by simp at h
  | x :: xs, y :: ys, h => by
    simp only [List.map_cons, List.cons.injEq] at h
    rw [frD_inj h.1, mapF_inj h.2]
theorem lineD_inj {a b c d : List Fr} (h : [lineD a b] = [lineD c d]) : a = c ∧ b = d := by
  unfold lineD at h
  simp only [PyData.tuple.injEq, List.cons.injEq] at h
  exact ⟨mapF_inj h.1.1, mapF_inj h.1.2.1⟩
def pol (dd ss : List Fr) (i : Nat) : Nat → Rat := if i < dd.length then tn (jv dd) (jv ss) i else en (jv dd) (jv ss) (dd.length - 1)
structure Rows (dd ss : List Fr) (rows : List (List Int)) : Prop where
  len : rows.length = dd.length + 1
  row : ∀ i r, rows[i]? = some r → ∃ u S, r = prim u ∧ Rel S u (pol dd ss i) ∧ u.length = i + 1 ∧ bd u 1200
def Sm (x : Fr) : Prop := 0 < x.2 ∧ x.1.natAbs < 2 ^ 4000 ∧ x.2.natAbs < 2 ^ 4000
def frowD (r : List Fr) : PyData := .list (r.map frD)
structure RowOk (r : List Fr) (n : Nat) (f : Nat → Rat) : Prop where
  len : r.length = n
  ok : ∀ x ∈ r, FOk x
  at_ : ∀ k, val (r.getD k (0, 1)) = f k
structure PartOk (r : List Fr) (n : Nat) (f : Nat → Rat) : Prop where
  len : r.length = n
  ok : ∀ x ∈ r, FOk x
  at_ : ∀ k, k < n → val (r.getD k (0, 1)) = f k
theorem val_zero : val (0, 1) = 0 := by decide +kernel
theorem PartOk.push {r : List Fr} {n : Nat} {f : Nat → Rat} (h : PartOk r n f) {b : Fr} (hb : FOk b) (hv : val b = f n) : PartOk (r ++ [b]) (n + 1) f := by
  refine ⟨by simp [h.len], fun x hx => ?_, fun k hk => ?_⟩
  · rcases List.mem_append.mp hx with q | q
    · exact h.ok x q
    · rw [List.mem_singleton.mp q]
      exact hb
  · by_cases q : k < n
    · rw [List.getD_eq_getElem?_getD, List.getElem?_append_left (by rw [h.len]; exact q), ← List.getD_eq_getElem?_getD]
      exact h.at_ k q
    · obtain rfl : k = n := by omega
      rw [List.getD_eq_getElem?_getD, List.getElem?_append_right (by rw [h.len]; omega), h.len, Nat.sub_self]
      exact hv
theorem PartOk.row {r : List Fr} {n : Nat} {f : Nat → Rat} (h : PartOk r n f) (hz : ∀ k, n ≤ k → f k = 0) : RowOk r n f := by
  refine ⟨h.len, h.ok, fun k => ?_⟩
  by_cases q : k < n
  · exact h.at_ k q
  · rw [hz k (by omega), List.getD_eq_getElem?_getD, List.getElem?_eq_none (by rw [h.len]; omega)]
    exact val_zero
theorem frD2_inj {x y a b : Fr} (h : [frD x, frD y] = [frD a, frD b]) : x = a ∧ y = b := by
  simp only [List.cons.injEq, and_true] at h
  exact ⟨frD_inj h.1, frD_inj h.2⟩
def padR (r : List Fr) (m : Nat) : List Fr := r ++ List.replicate (m - r.length) (0, 1)
theorem pad_eq (r : List Fr) {m : Nat} (h : r.length ≤ m) : r.map frD ++ (List.replicate ((m : Int) - ((r.map frD).length : Int)).toNat [PyData.tuple [.int 0, .int 1]]).flatten = (padR r m).map frD := by
  unfold padR
  rw [List.map_append, List.flatten_replicate_singleton, List.map_replicate, List.length_map]
  congr 2
  omega
theorem pad_at (r : List Fr) {m i : Nat} (h : i < max r.length m) : atI ((padR r m).map frD) (i : Int) = some (frD (r.getD i (0, 1))) := by
  rw [atI_n, List.getElem?_map]
  unfold padR
  by_cases q : i < r.length
  · rw [List.getElem?_append_left q, List.getElem?_eq_getElem q, List.getD_eq_getElem?_getD, List.getElem?_eq_getElem q]
    rfl
  · rw [List.getElem?_append_right (by omega), List.getElem?_replicate, if_pos (by omega), List.getD_eq_getElem?_getD, List.getElem?_eq_none (by omega)]
    rfl
theorem sm_getD {r : List Fr} (h : ∀ a ∈ r, Sm a) (i : Nat) : Sm (r.getD i (0, 1)) := by
  by_cases q : i < r.length
  · rw [List.getD_eq_getElem?_getD, List.getElem?_eq_getElem q]
    exact h _ (List.getElem_mem q)
  · rw [List.getD_eq_getElem?_getD, List.getElem?_eq_none (by omega)]
    exact ⟨by decide, by decide +kernel, by decide +kernel⟩
structure GhF (f : Nat → Rat) (n : Nat) : Prop where
  ex : ∃ S u, Rel S u f ∧ u.length = n ∧ bd u 1200 ∧ S.natAbs < 2 ^ 1200
def Gsm (f : Nat → Rat) : Prop := ∃ S u, Rel S u f ∧ bd u 1200 ∧ S.natAbs < 2 ^ 1200
theorem RowOk.smE {r : List Fr} {n : Nat} {f : Nat → Rat} (h : RowOk r n f) {e : Nat} (he : e ≤ 4000) (g : ∃ S u, Rel S u f ∧ bd u e ∧ S.natAbs < 2 ^ e) : ∀ a ∈ r, Sm a := fun a ha => by
  obtain ⟨S, u, rl, bu, bS⟩ := g
  obtain ⟨k, hk, e1⟩ := List.getElem_of_mem ha
  have v := h.at_ k
  rw [List.getD_eq_getElem?_getD, List.getElem?_eq_getElem hk] at v
  have v2 : val a = f k := by rw [← e1]; exact v
  have f1 := h.ok a ha
  obtain ⟨s1, s2, _⟩ := f1.small (u := u.getD k 0) rl.pos (by
    rw [v2, rl.at_ k]
    grind)
  exact ⟨f1.1, pow_up (Nat.lt_of_le_of_lt s1 (bu.get k)) he, pow_up (Nat.lt_of_le_of_lt s2 bS) he⟩
theorem RowOk.sm {r : List Fr} {n : Nat} {f : Nat → Rat} (h : RowOk r n f) (g : Gsm f) : ∀ a ∈ r, Sm a := h.smE (e := 1200) (by decide) g
theorem rel_mul {S : Int} {u : List Int} {f : Nat → Rat} (r : Rel S u f) {p q : Int} (hq : 0 < q) : Rel (S * q) (u.map fun x => p * x) (fun k => f k * ((p : Rat) / (q : Rat))) := by
  refine ⟨Int.mul_pos r.pos hq, fun k => ?_⟩
  have e : (u.map fun x => p * x).getD k 0 = p * u.getD k 0 := by
    by_cases h : k < u.length
    · simp [List.getD_eq_getElem?_getD, h]
    · simp [List.getD_eq_getElem?_getD, h]
  rw [e, Rat.intCast_mul, Rat.intCast_mul, r.at_ k]
  have := ratInt_ne (a := q) (by omega)
  grind
theorem Gsm.mul {f : Nat → Rat} (g : Gsm f) {p q : Int} (hq : 0 < q) (hp1 : p.natAbs < 2 ^ 64) (hq1 : q.natAbs < 2 ^ 64) : ∃ S u, Rel S u (fun k => f k * ((p : Rat) / (q : Rat))) ∧ bd u 1264 ∧ S.natAbs < 2 ^ 1264 := by
  obtain ⟨S, u, r, bu, bS⟩ := g
  refine ⟨_, _, rel_mul r hq, fun x hx => ?_, natAbs_mul_lt bS hq1⟩
  obtain ⟨y, hy, rfl⟩ := List.mem_map.mp hx
  exact pow_up (natAbs_mul_lt hp1 (bu y hy)) (by decide)
theorem RowOk.congr {r : List Fr} {n m : Nat} {f g : Nat → Rat} (h : RowOk r n f) (e : n = m) (hf : ∀ k, f k = g k) : RowOk r m g := ⟨by rw [← e]; exact h.len, h.ok, fun k => by rw [← hf k]; exact h.at_ k⟩
theorem frow_inj {r s : List Fr} {x y : Fr} (h : [frowD r, frD x] = [frowD s, frD y]) : r = s ∧ x = y := by
  unfold frowD at h
  simp only [List.cons.injEq, PyData.list.injEq, and_true] at h
  exact ⟨mapF_inj h.1, frD_inj h.2⟩
theorem frow2_inj {r s a b : List Fr} (h : [frowD r, frowD s] = [frowD a, frowD b]) : r = a ∧ s = b := by
  unfold frowD at h
  simp only [List.cons.injEq, PyData.list.injEq, and_true] at h
  exact ⟨mapF_inj h.1, mapF_inj h.2⟩
theorem sm_one0 : Sm (0, 1) := ⟨by decide, by decide +kernel, by decide +kernel⟩
theorem sm_one1 : Sm (1, 1) := ⟨by decide, by decide +kernel, by decide +kernel⟩
structure RL (dd ss : List Fr) (rows : List (List Fr)) (m : Nat) : Prop where
  len : rows.length = m
  row : ∀ j r, rows[j]? = some r → RowOk r (j + 1) (tn (jv dd) (jv ss) j) ∧ GhF (tn (jv dd) (jv ss) j) (j + 1)
def RInv (dd ss : List Fr) (i : Nat) (tw an : List Fr) (rows : List (List Fr)) : Prop :=
  (i < dd.length → (∃ S turn torque, Sta dd ss i S turn torque) ∧ RowOk tw (i + 1) (tq (jv dd) (jv ss) i) ∧ RowOk an (i + 1) (tn (jv dd) (jv ss) i) ∧ RL dd ss rows (i + 1)) ∧
  (i = dd.length → ∃ j S turn torque to' J C, i = j + 1 ∧ Sta dd ss j S turn torque ∧ dd[j]? = some J ∧ ss[j + 1]? = some C ∧ Rel (S * J.2) to' (tq (jv dd) (jv ss) (j + 1)) ∧ to'.length = j + 2 ∧ bd to' (64 + 130 * j + 65) ∧
    RowOk tw (j + 2) (tq (jv dd) (jv ss) (j + 1)) ∧ RowOk an (j + 1) (tn (jv dd) (jv ss) j) ∧ RL dd ss rows (j + 1))
structure RRows (dd ss : List Fr) (rows : List (List Fr)) : Prop where
  len : rows.length = dd.length + 1
  row : ∀ j r, rows[j]? = some r → RowOk r (j + 1) (pol dd ss j) ∧ GhF (pol dd ss j) (j + 1)
theorem fok_one : FOk (1, 1) := ⟨by decide, by decide⟩
theorem row_single {x : Fr} {f : Nat → Rat} (hx : FOk x) (h0 : val x = f 0) (h1 : ∀ k, f (k + 1) = 0) : RowOk [x] 1 f := by
  refine ⟨rfl, fun y hy => by rw [List.mem_singleton.mp hy]; exact hx, fun k => ?_⟩
  cases k with
  | zero => exact h0
  | succ k =>
    rw [h1 k]
    exact val_zero
theorem gh_of {dd ss : List Fr} {i : Nat} {S : Int} {turn torque : List Int} (st : Sta dd ss i S turn torque) (hi : i ≤ 8) : GhF (tn (jv dd) (jv ss) i) (i + 1) := ⟨S, turn, st.tu, st.tl, fun x hx => pow_up (st.bt x hx) (by omega), pow_up st.bS (by omega)⟩
theorem rinv0 {dd ss : List Fr} (h : LN dd ss) {C : Fr} (hC : ss[0]? = some C) (eC : ss.getD 0 (0, 1) = C) : RInv dd ss 0 [C] [(1, 1)] [[(1, 1)]] := by
  have n1 := h.c1
  have st := sta0 h hC
  have a : RowOk [(1, 1)] 1 (tn (jv dd) (jv ss) 0) := row_single fok_one (show val (1, 1) = (1 : Rat) by decide +kernel) fun k => rfl
  refine ⟨fun _ => ⟨⟨_, _, _, st⟩, row_single ?_ ?_ fun k => rfl, a, rfl, fun j r hj => ?_⟩, fun z => by omega⟩
  · exact (h.sok C (List.mem_of_getElem? hC)).1
  · show val C = jv ss 0
    unfold jv
    rw [eC]
  · cases j with
    | zero =>
      cases hj
      exact ⟨a, gh_of st (by decide)⟩
    | succ j => cases hj
theorem row_tq {J K : Nat → Rat} {i : Nat} {tw an t tw' : List Fr} (h1 : RowOk tw (i + 1) (tq J K i)) (h2 : RowOk an (i + 1) (tn J K i)) (h3 : RowOk t an.length fun k => val (an.getD k (0, 1)) * - J i)
    (h4 : RowOk tw' (max tw.length ((0, 1) :: t).length) fun k => val (tw.getD k (0, 1)) + val (((0, 1) :: t).getD k (0, 1))) : RowOk tw' (i + 2) (tq J K (i + 1)) := by
  refine h4.congr (by rw [List.length_cons, h3.len, h1.len, h2.len]; omega) fun k => ?_
  rw [h1.at_ k, tq_succ]
  cases k with
  | zero =>
    show _ + val (0, 1) = _ - J i * 0
    rw [val_zero]
    grind
  | succ k =>
    rw [List.getD_cons_succ, h3.at_ k, h2.at_ k]
    show _ = _ - J i * tn J K i k
    grind
theorem row_tn {J K : Nat → Rat} {i : Nat} {tw an t an' : List Fr} {y : Rat} (h1 : RowOk tw (i + 2) (tq J K (i + 1))) (h2 : RowOk an (i + 1) (tn J K i)) (hy : y = 1 / K (i + 1)) (h3 : RowOk t tw.length fun k => val (tw.getD k (0, 1)) * y)
    (h4 : RowOk an' (max an.length t.length) fun k => val (an.getD k (0, 1)) + val (t.getD k (0, 1))) : RowOk an' (i + 2) (tn J K (i + 1)) := by
  refine h4.congr (by rw [h3.len, h1.len, h2.len]; omega) fun k => ?_
  rw [h2.at_ k, h3.at_ k, h1.at_ k, tn_succ, hy]
  grind
theorem row_en {J K : Nat → Rat} {i : Nat} {tw an t e : List Fr} (h1 : RowOk tw (i + 2) (tq J K (i + 1))) (h2 : RowOk an (i + 1) (tn J K i)) (h3 : RowOk t an.length fun k => val (an.getD k (0, 1)) * K (i + 1))
    (h4 : RowOk e (max t.length tw.length) fun k => val (t.getD k (0, 1)) + val (tw.getD k (0, 1))) : RowOk e (i + 2) (en J K i) := by
  refine h4.congr (by rw [h3.len, h1.len, h2.len]; omega) fun k => ?_
  rw [h3.at_ k, h2.at_ k, h1.at_ k]
  unfold en
  grind
theorem one_get {α : Type} {x y : α} {i : Nat} (h : [x][i]? = some y) : i = 0 ∧ y = x := by
  cases i with
  | zero =>
    cases h
    exact ⟨rfl, rfl⟩
  | succ i => cases h
theorem lcm_step {U x S : Int} (hU : 0 < U) (hx : 0 < x) (h1 : U ∣ S) (h2 : x ∣ S) : 0 < ((Nat.gcd U.natAbs x.natAbs : Nat) : Int) ∧ 0 < U * x / ((Nat.gcd U.natAbs x.natAbs : Nat) : Int) ∧ U ∣ U * x / ((Nat.gcd U.natAbs x.natAbs : Nat) : Int) ∧ x ∣ U * x / ((Nat.gcd U.natAbs x.natAbs : Nat) : Int) ∧ U * x / ((Nat.gcd U.natAbs x.natAbs : Nat) : Int) ∣ S := by
  obtain ⟨a, rfl⟩ := Int.eq_ofNat_of_zero_le (Int.le_of_lt hU)
  obtain ⟨b, rfl⟩ := Int.eq_ofNat_of_zero_le (Int.le_of_lt hx)
  have e : (a : Int) * (b : Int) / ((Nat.gcd (a : Int).natAbs (b : Int).natAbs : Nat) : Int) = ((Nat.lcm a b : Nat) : Int) := by
    rw [Int.natAbs_natCast, Int.natAbs_natCast, ← Int.natCast_mul, ← Int.natCast_ediv]
    rfl
  rw [e]
  have l0 := Nat.lcm_pos (m := a) (n := b) (by omega) (by omega)
  refine ⟨by rw [Int.natAbs_natCast, Int.natAbs_natCast]; have := Nat.gcd_pos_of_pos_left b (show 0 < a by omega); omega, by omega, Int.ofNat_dvd.mpr (Nat.dvd_lcm_left a b), Int.ofNat_dvd.mpr (Nat.dvd_lcm_right a b), ?_⟩
  have h3 : a ∣ S.natAbs := by simpa using Int.natAbs_dvd_natAbs.mpr h1
  have h4 : b ∣ S.natAbs := by simpa using Int.natAbs_dvd_natAbs.mpr h2
  exact Int.dvd_natAbs.mp (Int.ofNat_dvd.mpr (Nat.lcm_dvd h3 h4))
def Small (r : List Fr) : Prop := ∀ x ∈ r, x.1 < 64 ∧ x.2 < 64
theorem times_out {r : List Fr} {x : Fr} {k : Nat} (h : r.length ≤ k) : val (r.getD k (0, 1)) * val x = 0 := by
  rw [List.getD_eq_getElem?_getD, List.getElem?_eq_none h]
  show val (0, 1) * val x = 0
  rw [val_zero]
  grind
theorem prod_small {a x y : Fr} (ha : FOk a) (a0 : 0 ≤ a.1) (a1 : a.1 < 64) (a2 : a.2 < 64) (fx : FOk x) (x0 : 0 < x.1) (x1 : x.1 < 64) (x2 : x.2 < 64) (fy : FOk y) (v : val y = val a * val x) :
    0 ≤ y.1 ∧ y.1 < 18446744073709551616 ∧ y.2 < 18446744073709551616 ∧ (0 < a.1 → 0 < y.1) := by
  have pa := ha.1
  have px := fx.1
  have hS : 0 < a.2 * x.2 := Int.mul_pos pa px
  obtain ⟨s1, s2, _⟩ := fy.small (u := a.1 * x.1) hS (by
    rw [v, Rat.intCast_mul, Rat.intCast_mul]
    have z1 := ratInt_ne (a := a.2) (by omega)
    have z2 := ratInt_ne (a := x.2) (by omega)
    unfold val
    grind)
  have b1 : a.1 * x.1 ≤ 63 * 63 := Int.mul_le_mul (by omega) (by omega) (by omega) (by omega)
  have b2 : a.2 * x.2 ≤ 63 * 63 := Int.mul_le_mul (by omega) (by omega) (by omega) (by omega)
  have b3 : 0 ≤ a.1 * x.1 := Int.mul_nonneg a0 (by omega)
  have vx : 0 < val x := (val_pos px).1.mpr x0
  have y0 : 0 ≤ y.1 := (val_pos fy.1).2.1.mp (by
    rw [v]
    exact Rat.mul_nonneg ((val_pos pa).2.1.mpr a0) (Rat.le_of_lt vx))
  have := fy.1
  refine ⟨y0, by omega, by omega, fun z => (val_pos fy.1).1.mp (by
    rw [v]
    exact Rat.mul_pos ((val_pos pa).1.mpr z) vx)⟩
theorem scaled_ln {dd ss td ts : List Fr} {x : Fr} (h : LN dd ss) (sd : Small dd) (sq : Small ss) (fx : FOk x) (x0 : 0 < x.1) (x1 : x.1 < 64) (x2 : x.2 < 64)
    (rd : RowOk td dd.length fun k => val (dd.getD k (0, 1)) * val x) (rs : RowOk ts ss.length fun k => val (ss.getD k (0, 1)) * val x) : LN td ts := by
  have n1 := h.c1
  have n8 := h.c8
  have ld := rd.len
  have ls := rs.len
  have hl := h.len
  have at_ : ∀ {r t : List Fr}, RowOk t r.length (fun k => val (r.getD k (0, 1)) * val x) → ∀ i y, t[i]? = some y → ∃ a, r[i]? = some a ∧ val y = val a * val x := fun {r t} R i y hy => by
    have hi := (List.getElem?_eq_some_iff.mp hy).1
    have v := R.at_ i
    rw [List.getD_eq_getElem?_getD, hy, List.getD_eq_getElem?_getD, List.getElem?_eq_getElem (by rw [← R.len]; exact hi)] at v
    exact ⟨_, List.getElem?_eq_getElem (by rw [← R.len]; exact hi), v⟩
  refine ⟨by omega, by omega, by omega, fun y hy => ?_, fun y hy => ?_, fun i y h0 h1 hy => ?_⟩
  · obtain ⟨i, hi, e⟩ := List.getElem_of_mem hy
    obtain ⟨a, ha, v⟩ := at_ rd i y (by rw [List.getElem?_eq_getElem hi, e])
    have hm := List.mem_of_getElem? ha
    have p := h.dok a hm
    have q := sd a hm
    obtain ⟨s0, s1, s2, s3⟩ := prod_small p.1 (by omega) q.1 q.2 fx x0 x1 x2 (rd.ok y hy) v
    exact ⟨rd.ok y hy, s3 p.2.1, s1, s2⟩
  · obtain ⟨i, hi, e⟩ := List.getElem_of_mem hy
    obtain ⟨a, ha, v⟩ := at_ rs i y (by rw [List.getElem?_eq_getElem hi, e])
    have hm := List.mem_of_getElem? ha
    have p := h.sok a hm
    have q := sq a hm
    obtain ⟨s0, s1, s2, s3⟩ := prod_small p.1 p.2.1 q.1 q.2 fx x0 x1 x2 (rs.ok y hy) v
    exact ⟨rs.ok y hy, s0, s1, s2⟩
  · obtain ⟨a, ha, v⟩ := at_ rs i y hy
    have hm := List.mem_of_getElem? ha
    have p := h.sok a hm
    have q := sq a hm
    obtain ⟨s0, s1, s2, s3⟩ := prod_small p.1 p.2.1 q.1 q.2 fx x0 x1 x2 (rs.ok y (List.mem_of_getElem? hy)) v
    exact s3 (h.inn i a h0 (by omega) ha)
theorem eqv_zero {C : Fr} (h : FOk C) : PyData.eqv (frD C) (.tuple [.int 0, .int 1]) = decide (C.1 = 0) := by
  obtain ⟨a, b⟩ := C
  obtain ⟨h1, h2⟩ := h
  show ((a == 0) && ((b == 1) && true)) = decide (a = 0)
  by_cases z : a = 0
  · subst z
    have : b = 1 := by
      simp at h2
      have : 0 < b := h1
      omega
    subst this
    rfl
  · rw [decide_eq_false z, beq_eq_false_iff_ne.mpr z]
    rfl
theorem lineX_inj {a b c d : List Fr} {x y : Fr} (h : [lineD a b, frD x] = [lineD c d, frD y]) : lineD a b = lineD c d ∧ x = y := by
  simp only [List.cons.injEq, and_true] at h
  exact ⟨h.1, frD_inj h.2⟩
theorem frs_of {P : Fr → Prop} : ∀ {ds : List PyData}, (∀ d ∈ ds, ∃ a, d = frD a ∧ P a) → ∃ as : List Fr, ds = as.map frD ∧ ∀ a ∈ as, P a
  | [], _ => ⟨[], rfl, by simp⟩
  | d :: ds, h => by
    obtain ⟨a, rfl, ha⟩ := h d (List.mem_cons_self ..)
    obtain ⟨as, rfl, has⟩ := frs_of (ds := ds) fun d hd => h d (List.mem_cons_of_mem _ hd)
    exact ⟨a :: as, rfl, fun b hb => by
      rcases List.mem_cons.mp hb with rfl | hb
      · exact ha
      · exact has b hb⟩
theorem pol_lead {dd ss : List Fr} (h : LN dd ss) {i : Nat} (hi : i ≤ dd.length) : 0 < alt i * pol dd ss i i := by
  have n1 := h.c1
  unfold pol
  by_cases q : i < dd.length
  · rw [if_pos q]
    exact (run_shape (J := jv dd) (K := jv ss) i (fun j hj => h.jpos (by omega)) (fun j p q => h.kpos p (by omega))).2.1
  · rw [if_neg q]
    have e : i = dd.length - 1 + 1 := by omega
    have hl := h.len
    have := (en_shape (J := jv dd) (K := jv ss) (dd.length - 1) (fun j hj => h.jpos (by omega)) (fun j p q => h.kpos p (by omega)) (h.knn (by omega)) (h.knn (by omega))).2.1
    rw [← e] at this
    exact this
theorem Rows.same {dd ss dd2 ss2 : List Fr} {a b : List (List Int)} (ha : Rows dd ss a) (hb : Rows dd2 ss2 b) (hl : dd2.length = dd.length) (hp : ∀ j, j ≤ dd.length → ∃ p q : Int, 0 < p ∧ 0 < q ∧ ∀ k, (q : Rat) * pol dd2 ss2 j k = p * pol dd ss j k) : b = a := by
  have la := ha.len
  have lb := hb.len
  apply List.ext_getElem?
  intro j
  by_cases hj : j ≤ dd.length
  · have h1 : a[j]? = some a[j] := List.getElem?_eq_getElem (by omega)
    have h2 : b[j]? = some b[j] := List.getElem?_eq_getElem (by omega)
    rw [h1, h2]
    obtain ⟨u, S, e1, r1, l1, _⟩ := ha.row j _ h1
    obtain ⟨v, T, e2, r2, l2, _⟩ := hb.row j _ h2
    rw [e1, e2]
    congr 1
    obtain ⟨p, q, hp0, hq0, hpq⟩ := hp j hj
    refine prim_eq (a := S * q) (b := T * p) (Int.mul_pos r1.pos hq0) (Int.mul_pos r2.pos hp0) (by omega) fun k => ?_
    have a1 := r1.at_ k
    have a2 := r2.at_ k
    have a3 := hpq k
    have : ((S * q * v.getD k 0 : Int) : Rat) = ((T * p * u.getD k 0 : Int) : Rat) := by
      rw [Rat.intCast_mul, Rat.intCast_mul, Rat.intCast_mul, Rat.intCast_mul, a1, a2]
      grind
    exact Rat.intCast_inj.mp this
  · rw [List.getElem?_eq_none (by omega), List.getElem?_eq_none (by omega)]
theorem Rows.uniq {dd ss : List Fr} {a b : List (List Int)} (ha : Rows dd ss a) (h : LN dd ss) (hb : Rows dd ss b) : b = a := ha.same hb rfl fun j _ => ⟨1, 1, by decide, by decide, fun k => rfl⟩
structure Sh (ws : List (List Int)) : Prop where
  len : ws.length ≤ 9
  row : ∀ w ∈ ws, w.length ≤ 9 ∧ bd w 1200
theorem Rows.sh {dd ss : List Fr} {ws : List (List Int)} (h : Rows dd ss ws) (h8 : dd.length ≤ 8) : Sh ws := by
  have hl := h.len
  refine ⟨by omega, fun w hw => ?_⟩
  obtain ⟨j, hj, e⟩ := List.getElem_of_mem hw
  obtain ⟨u, S, e1, r1, l1, b1⟩ := h.row j w (by rw [List.getElem?_eq_getElem hj, e])
  refine ⟨by rw [e1, prim_len]; omega, ?_⟩
  rw [e1]
  exact bd.of_get fun k => Nat.lt_of_le_of_lt (prim_abs u k) (b1.get k)
theorem sh_ints : ∀ {w : List Int}, bd w 1200 → PyData.showableAll (w.map .int) = true ∧ PyData.hasDictAll (w.map .int) = false ∧ PyData.depthAll (w.map .int) = 0 ∧ costAll (w.map .int) = 1923 * w.length
  | [], _ => by simp [PyData.showableAll, PyData.hasDictAll, PyData.depthAll, costAll]
  | x :: xs, h => by
    obtain ⟨a, b, c, d⟩ := sh_ints (w := xs) fun y hy => h y (List.mem_cons_of_mem _ hy)
    have hx := lg (h x (List.mem_cons_self ..))
    simp only [List.map_cons, PyData.showableAll, PyData.showable, PyData.hasDictAll, PyData.hasDict, PyData.depthAll, PyData.depth, costAll, cost, a, b, c, d, List.length_cons]
    refine ⟨by rw [decide_eq_true (by omega)]; rfl, rfl, rfl, by omega⟩
theorem sh_all : ∀ {ws : List (List Int)}, (∀ w ∈ ws, w.length ≤ 9 ∧ bd w 1200) → PyData.showableAll (ws.map rowD) = true ∧ PyData.hasDictAll (ws.map rowD) = false ∧ PyData.depthAll (ws.map rowD) ≤ 1 ∧ costAll (ws.map rowD) ≤ 17312 * ws.length
  | [], _ => by simp [PyData.showableAll, PyData.hasDictAll, PyData.depthAll, costAll]
  | w :: ws, h => by
    obtain ⟨a, b, c, d⟩ := sh_all (ws := ws) fun y hy => h y (List.mem_cons_of_mem _ hy)
    obtain ⟨hl, hb⟩ := h w (List.mem_cons_self ..)
    obtain ⟨p, q, r, s⟩ := sh_ints hb
    simp only [List.map_cons, rowD, PyData.showableAll, PyData.showable, PyData.hasDictAll, PyData.hasDict, PyData.depthAll, PyData.depth, costAll, cost, p, q, r, s, List.length_cons] at a b c d ⊢
    refine ⟨by simpa using a, by simpa using b, by omega, by omega⟩
theorem sh_rows {ws : List (List Int)} (h : Sh ws) : (PyData.tuple (ws.map rowD)).showable = true ∧ (PyData.tuple (ws.map rowD)).hasDict = false ∧ (PyData.tuple (ws.map rowD)).depth ≤ 2 ∧ cost (.tuple (ws.map rowD)) ≤ 160000 := by
  obtain ⟨a, b, c, d⟩ := sh_all h.row
  have := h.len
  simp only [PyData.showable, PyData.hasDict, PyData.depth, cost]
  exact ⟨a, b, by omega, by omega⟩
theorem Rows.first {dd ss : List Fr} {ws : List (List Int)} (R : Rows dd ss ws) (h : LN dd ss) : ∃ w, ws[0]? = some w ∧ w = [1] := by
  have hl := R.len
  refine ⟨ws[0], List.getElem?_eq_getElem (by omega), ?_⟩
  obtain ⟨u, S, e, r, l, b⟩ := R.row 0 ws[0] (List.getElem?_eq_getElem (by omega))
  rw [e]
  match u, l with
  | [x], _ =>
    have ld := r.at_ 0
    have n1 := h.c1
    have p0 : pol dd ss 0 0 = 1 := by
      unfold pol
      rw [if_pos (by omega)]
      rfl
    rw [p0] at ld
    have hx : x = S := by
      apply Rat.intCast_inj.mp
      have : (([x] : List Int).getD 0 0) = x := rfl
      rw [this] at ld
      rw [ld]
      grind
    have hS := r.pos
    subst hx
    show [x / ((Nat.gcd x.natAbs 0 : Nat) : Int)] = [1]
    rw [Nat.gcd_zero_right, show ((x.natAbs : Nat) : Int) = x by omega, Int.ediv_self (by omega)]
theorem rowD_inj {u v : List Int} (h : rowD u = rowD v) : u = v := by
  unfold rowD at h
  injection h with h
  exact map_int_inj h
theorem rowf_inj {u v : List Int} {x y : Fr} (h : [rowD u, frD x] = [rowD v, frD y]) : u = v ∧ x = y := by
  simp only [List.cons.injEq, and_true] at h
  exact ⟨rowD_inj h.1, frD_inj h.2⟩
theorem mapR_inj : ∀ {u v : List (List Int)}, u.map rowD = v.map rowD → u = v
  | [], [], _ => rfl
  | [], _ :: _, h => by simp at h
  | _ :: _, [], h => by simp at h
  | x :: xs, y :: ys, h => by
    simp only [List.map_cons, List.cons.injEq] at h
    rw [rowD_inj h.1, mapR_inj h.2]
theorem rows_inj {u v : List (List Int)} (h : PyData.tuple (u.map rowD) = .tuple (v.map rowD)) : u = v := by
  injection h with h
  exact mapR_inj h
/-- the signs of a run's rows at a pace change as often as swings are slower -/
theorem signs_cnt {dd ss : List Fr} {rows : List (List Int)} (R : Rows dd ss rows) (h : LN dd ss) {p : Fr} (hp : 0 < p.2) : (chs ((rows.map fun w => sgn (hor p.1 p.2 w)).map sgn)).1 = cnt (jv dd) (jv ss) (val p) (dd.length - 1) := by
  have n1 := h.c1
  have hl := R.len
  have hls := h.len
  have sg : ∀ z : Rat, sgn (rsgn z) = rsgn z := fun z => by
    unfold rsgn
    split
    · decide
    · split <;> decide
  have e : (rows.map fun w => sgn (hor p.1 p.2 w)).map sgn = ((List.range (dd.length - 1 + 1)).map fun j => rsgn (xa (jv dd) (jv ss) (val p) j)) ++ [rsgn (ea (jv dd) (jv ss) (val p) (dd.length - 1))] := by
    apply List.ext_getElem?
    intro j
    by_cases hj : j < rows.length
    · have hr : rows[j]? = some rows[j] := List.getElem?_eq_getElem hj
      generalize rows[j] = w at hr
      obtain ⟨u, S, ew, rl, lu, bu⟩ := R.row j w hr
      have ld := pol_lead h (i := j) (by omega)
      have sw : sgn (hor p.1 p.2 w) = rsgn (fev (pol dd ss j) (val p) (j + 1)) := by
        rw [ew, prim_sgn rl (ne_of_alt ld) hp, lu]
        rfl
      rw [List.getElem?_map, List.getElem?_map, hr]
      show some (sgn (sgn (hor p.1 p.2 w))) = _
      rw [sw, sg]
      by_cases q : j < dd.length
      · rw [List.getElem?_append_left (by simp; omega), List.getElem?_map, List.getElem?_range (by omega)]
        show _ = some (rsgn (xa (jv dd) (jv ss) (val p) j))
        unfold pol
        rw [if_pos q, (fev_run (p := val p) j (fun i hi => h.jpos (by omega)) (fun i a b => h.kpos a (by omega))).1]
      · obtain rfl : j = dd.length := by omega
        rw [List.getElem?_append_right (by simp; omega)]
        simp only [List.length_map, List.length_range, show dd.length - (dd.length - 1 + 1) = 0 by omega]
        show _ = some (rsgn (ea (jv dd) (jv ss) (val p) (dd.length - 1)))
        unfold pol
        rw [if_neg q, show dd.length + 1 = dd.length - 1 + 2 by omega, fev_en (dd.length - 1) (fun i hi => h.jpos (by omega)) (fun i a b => h.kpos a (by omega))]
    · rw [List.getElem?_eq_none (by simp; omega), List.getElem?_eq_none (by simp; omega)]
  rw [e]
  exact chs_cnt _ _ _ _
end Mx
namespace Mx
open PySem PySem.Spec PyProof.Rows L2 DL
section
variable {K : PySem.W.Frag} {B : Bs} {G : List Hp} {L : List Addr} {Γ : List Sl} {ta tb : TE}
/-- a new list over range(lo, n) -/
theorem en_lcR2 {j : Nat} {vs : List Nat} {tr : TA} {tt : TT} {te : TE} {kl : List PyData → Prop} (hw : ∀ (σ : L2.St) x, L2.wipe ((L2.wipe σ vs).set j (some x)) vs = L2.wipe σ vs)
    (h : EvA K B G L Γ tr fun es => ∃ lo n : Int, es = [.int lo, .int n] ∧ 0 ≤ lo ∧ lo ≤ 100000 ∧ -100000 ≤ n ∧ n ≤ 100000 ∧ ∃ J, CompOk K B G L Γ j tt te vs (n - lo).toNat (fun i d' => d' = .int (lo + (i : Int))) J ∧ ∀ acc, J (n - lo).toNat acc → kl acc) :
    EvN K B G L Γ (tLc (iRng2 tr) (gName j) tt te vs) kl := fun σ H Q E q =>
  h σ H _ E fun v es H1 g1 dn ⟨lo, n, e, h0, h1, h2, h3, J, C, hk⟩ => by
    subst e
    cases dn with
    | cons d1 d2 =>
      cases d2 with
      | cons d3 d4 =>
        cases d4
        cases d1
        cases d3
        refine ⟨lo, n, rfl, by omega, fun D hD => lc_range (lo := lo) (n := (n - lo).toNat) (fun i H' => Sofar K B L H1 H' D i J)
          ⟨fun a o w e => same_upd hD a o e, fun w hw => ?_, [], [], C.1, Nat.le_refl _, upd_same, .nil⟩ (fun i H' hi S => ?_) (fun H' S => ?_)⟩
        · obtain ⟨m, b, c, e, q⟩ := g1.env.ws w hw
          exact ⟨m, b, c, same_upd hD _ _ e, q⟩
        · exact ⟨hw σ _, comp_turn g1.env hD C (by omega) S rfl hi (.int _)⟩
        · have g0 : Go K B G L Γ H1 H' σ := Go.of_rel g1.env S.rl S.ws
          obtain ⟨accV, acc, hJ, _, e, dA⟩ := S.it
          exact q D accV acc H' (g1.trans g0) (Go.fresh E g1 hD) e dA (hk acc hJ)
end

/-! ### how great the parts of a fraction get -/
def GS (e : Nat) (v : Rat) : Prop := ∃ a b : Int, 0 < b ∧ v * (b : Rat) = (a : Rat) ∧ a.natAbs < 2 ^ e ∧ b.natAbs < 2 ^ e
theorem GS.fr {x : Fr} {e : Nat} (g : GS e (val x)) (h : FOk x) : x.1.natAbs < 2 ^ e ∧ x.2.natAbs < 2 ^ e := by
  obtain ⟨a, b, hb, e1, ha, hb2⟩ := g
  have := h.small hb e1
  exact ⟨Nat.lt_of_le_of_lt this.1 ha, Nat.lt_of_le_of_lt this.2.1 hb2⟩
theorem GS.sm {x : Fr} {e : Nat} (g : GS e (val x)) (h : FOk x) (he : e ≤ 4000) : Sm x := ⟨h.1, pow_up (g.fr h).1 he, pow_up (g.fr h).2 he⟩
theorem GS.up {e f : Nat} {v : Rat} (g : GS e v) (h : e ≤ f) : GS f v := by
  obtain ⟨a, b, hb, e1, ha, hb2⟩ := g
  exact ⟨a, b, hb, e1, pow_up ha h, pow_up hb2 h⟩
theorem val_mul {x : Fr} (h : 0 < x.2) : val x * ((x.2 : Int) : Rat) = (x.1 : Rat) := by
  have := ratInt_ne (a := x.2) (by omega)
  unfold val
  grind
theorem GS.of {x : Fr} {e : Nat} (h : 0 < x.2) (h1 : x.1.natAbs < 2 ^ e) (h2 : x.2.natAbs < 2 ^ e) : GS e (val x) := ⟨x.1, x.2, h, val_mul h, h1, h2⟩
theorem GS.mul {e f : Nat} {u v : Rat} (g : GS e u) (h : GS f v) : GS (e + f) (u * v) := by
  obtain ⟨a, b, hb, e1, ha, hb2⟩ := g
  obtain ⟨c, d, hd, e2, hc, hd2⟩ := h
  refine ⟨a * c, b * d, Int.mul_pos hb hd, ?_, natAbs_mul_lt ha hc, natAbs_mul_lt hb2 hd2⟩
  rw [Rat.intCast_mul, Rat.intCast_mul, ← e1, ← e2]
  grind
theorem GS.add {e f : Nat} {u v : Rat} (g : GS e u) (h : GS f v) : GS (e + f + 1) (u + v) := by
  obtain ⟨a, b, hb, e1, ha, hb2⟩ := g
  obtain ⟨c, d, hd, e2, hc, hd2⟩ := h
  refine ⟨a * d + b * c, b * d, Int.mul_pos hb hd, ?_, natAbs_add_lt (natAbs_mul_lt ha hd2) (natAbs_mul_lt hb2 hc), pow_up (natAbs_mul_lt hb2 hd2) (by omega)⟩
  rw [Rat.intCast_add, Rat.intCast_mul, Rat.intCast_mul, Rat.intCast_mul, ← e1, ← e2]
  grind
theorem pos_num {v : Rat} {a b : Int} (hv : 0 < v) (hb : 0 < b) (e : v * (b : Rat) = (a : Rat)) : 0 < a := by
  have := Rat.mul_pos hv (ratInt_pos hb)
  rw [e] at this
  exact Rat.intCast_pos.mp this
theorem GS.div {e f : Nat} {u v : Rat} (g : GS e u) (h : GS f v) (hv : 0 < v) : GS (e + f) (u / v) := by
  obtain ⟨a, b, hb, e1, ha, hb2⟩ := g
  obtain ⟨c, d, hd, e2, hc, hd2⟩ := h
  have hc0 := pos_num hv hd e2
  refine ⟨a * d, b * c, Int.mul_pos hb hc0, ?_, natAbs_mul_lt ha hd2, natAbs_mul_lt hb2 hc⟩
  rw [Rat.intCast_mul, Rat.intCast_mul, ← e1, ← e2]
  grind
/-- two numbers over one denominator -/
def G2 (e : Nat) (t a : Rat) : Prop := ∃ S T A : Int, 0 < S ∧ t * (S : Rat) = (T : Rat) ∧ a * (S : Rat) = (A : Rat) ∧ S.natAbs < 2 ^ e ∧ T.natAbs < 2 ^ e ∧ A.natAbs < 2 ^ e
theorem G2.l {e : Nat} {t a : Rat} (g : G2 e t a) : GS e t := by
  obtain ⟨S, T, A, s0, h1, h2, h3, h4, h5⟩ := g
  exact ⟨T, S, s0, h1, h4, h3⟩
theorem G2.r {e : Nat} {t a : Rat} (g : G2 e t a) : GS e a := by
  obtain ⟨S, T, A, s0, h1, h2, h3, h4, h5⟩ := g
  exact ⟨A, S, s0, h2, h5, h3⟩
theorem natAbs_sub_lt {a b : Int} {m : Nat} (ha : a.natAbs < 2 ^ m) (hb : b.natAbs < 2 ^ m) : (a - b).natAbs < 2 ^ (m + 1) := by
  rw [Int.sub_eq_add_neg]
  exact natAbs_add_lt ha (by rw [Int.natAbs_neg]; exact hb)
theorem G2.less {e f : Nat} {t a x : Rat} (g : G2 e t a) (h : GS f x) : G2 (e + f + 1) (t - x * a) a := by
  obtain ⟨S, T, A, s0, h1, h2, h3, h4, h5⟩ := g
  obtain ⟨c, d, hd, e2, hc, hd2⟩ := h
  refine ⟨S * d, T * d - A * c, A * d, Int.mul_pos s0 hd, ?_, ?_, pow_up (natAbs_mul_lt h3 hd2) (by omega), natAbs_sub_lt (natAbs_mul_lt h4 hd2) (natAbs_mul_lt h5 hc), pow_up (natAbs_mul_lt h5 hd2) (by omega)⟩
  · rw [Rat.intCast_sub, Rat.intCast_mul, Rat.intCast_mul, Rat.intCast_mul, ← h1, ← h2, ← e2]
    grind
  · rw [Rat.intCast_mul, Rat.intCast_mul, ← h2]
    grind
theorem G2.more {e f : Nat} {t a k : Rat} (g : G2 e t a) (h : GS f k) (hk : 0 < k) : G2 (e + f + 1) t (a + t / k) := by
  obtain ⟨S, T, A, s0, h1, h2, h3, h4, h5⟩ := g
  obtain ⟨c, d, hd, e2, hc, hd2⟩ := h
  have hc0 := pos_num hk hd e2
  refine ⟨S * c, T * c, A * c + T * d, Int.mul_pos s0 hc0, ?_, ?_, pow_up (natAbs_mul_lt h3 hc) (by omega), pow_up (natAbs_mul_lt h4 hc) (by omega), natAbs_add_lt (natAbs_mul_lt h5 hc) (natAbs_mul_lt h4 hd2)⟩
  · rw [Rat.intCast_mul, Rat.intCast_mul, ← h1]
    grind
  · rw [Rat.intCast_add, Rat.intCast_mul, Rat.intCast_mul, Rat.intCast_mul, ← h1, ← h2, ← e2]
    grind

/-! ### the row by fractions -/
theorem rv_first {dd ss : List Fr} (h : LN dd ss) (sq : Small ss) (p : Rat) : G2 6 (ya (jv dd) (jv ss) p 0) (xa (jv dd) (jv ss) p 0) := by
  obtain ⟨C, hC, eC, a, b, c, d, _⟩ := h.s_get (i := 0) (by rw [h.len]; omega)
  have s := sq C (List.mem_of_getElem? hC)
  have a1 := a.1
  refine ⟨C.2, C.1, C.2, a.1, ?_, ?_, by omega, by omega, by omega⟩
  · show jv ss 0 * _ = _
    unfold jv
    rw [eC]
    exact val_mul a.1
  · show (1 : Rat) * _ = _
    grind
theorem gs_j {dd : List Fr} {i : Nat} {x : Fr} (hx : dd[i]? = some x) (s : Small dd) (f : FOk x) (h0 : 0 ≤ x.1) : GS 6 (jv dd i) := by
  have := s x (List.mem_of_getElem? hx)
  have f1 := f.1
  unfold jv
  rw [List.getD_eq_getElem?_getD, hx]
  exact GS.of f.1 (by show x.1.natAbs < 2 ^ 6; omega) (by show x.2.natAbs < 2 ^ 6; omega)
theorem rv_all {dd ss : List Fr} (h : LN dd ss) (sd : Small dd) (sq : Small ss) {p : Rat} (hp : GS 400 p) : ∀ i, i < dd.length → G2 (6 + 414 * i) (ya (jv dd) (jv ss) p i) (xa (jv dd) (jv ss) p i) ∧ G2 (6 + 414 * i + 407) (ya (jv dd) (jv ss) p (i + 1)) (xa (jv dd) (jv ss) p i)
  | 0, hi => by
    have g := rv_first h sq p
    obtain ⟨J, hJ, eJ, a, b, _⟩ := h.d_get hi
    exact ⟨g, (g.less (hp.mul (gs_j hJ sd a (by omega))))⟩
  | i + 1, hi => by
    have g := (rv_all h sd sq hp i (by omega)).2
    obtain ⟨J, hJ, eJ, a, b, _⟩ := h.d_get hi
    obtain ⟨C, hC, eC, c, d, _⟩ := h.s_get (i := i + 1) (by rw [h.len]; omega)
    have g2 := g.more (gs_j hC sq c d) (h.kpos (i := i + 1) (by omega) hi)
    have g3 := g2.less (hp.mul (gs_j hJ sd a (by omega)))
    rw [show 6 + 414 * (i + 1) = 6 + 414 * i + 407 + 6 + 1 by omega]
    exact ⟨g2, g3⟩

/-! ### a pace beyond all swings -/
def fs (J K : Nat → Rat) : Nat → Rat
  | 0 => 1
  | i + 1 => fs J K i + 2 * ((K i + K (i + 1)) / J i)
theorem fs_far {J K : Nat → Rat} : ∀ n, (∀ j, j < n → 0 < J j) → (∀ j, j ≤ n → 0 ≤ K j) → 1 ≤ fs J K n ∧ ∀ j, j < n → 2 * (K j + K (j + 1)) < fs J K n * J j
  | 0, _, _ => ⟨Rat.le_refl, fun j h => absurd h (by omega)⟩
  | i + 1, hJ, hK => by
    obtain ⟨h1, h2⟩ := fs_far i (fun j h => hJ j (by omega)) (fun j h => hK j (by omega))
    have k0 := hK i (by omega)
    have k1 := hK (i + 1) (by omega)
    have j0 := hJ i (by omega)
    have t0 : 0 ≤ (K i + K (i + 1)) / J i := by
      rw [Rat.div_def]
      exact Rat.mul_nonneg (by grind) (Rat.le_of_lt (Rat.inv_pos.mpr j0))
    have t1 : J i * ((K i + K (i + 1)) / J i) = K i + K (i + 1) := mul_div' j0
    have e : fs J K (i + 1) = fs J K i + 2 * ((K i + K (i + 1)) / J i) := rfl
    rw [e]
    generalize (K i + K (i + 1)) / J i = T at *
    refine ⟨by grind, fun j hj => ?_⟩
    have jj := hJ j hj
    have m := Rat.mul_nonneg t0 (Rat.le_of_lt jj)
    by_cases q : j < i
    · have := h2 j q
      grind
    · obtain rfl : j = i := by omega
      have := Rat.mul_pos (show 0 < fs J K j by grind) j0
      grind
theorem fs_size {dd ss : List Fr} (h : LN dd ss) (sd : Small dd) (sq : Small ss) : ∀ i, i ≤ dd.length → GS (1 + 22 * i) (fs (jv dd) (jv ss) i)
  | 0, _ => ⟨1, 1, by decide, (by show (1 : Rat) * ((1 : Int) : Rat) = ((1 : Int) : Rat); decide +kernel), by decide, by decide⟩
  | i + 1, hi => by
    have g := fs_size h sd sq i (by omega)
    obtain ⟨J, hJ, eJ, a, b, _⟩ := h.d_get (i := i) (by omega)
    obtain ⟨C, hC, eC, c, d, _⟩ := h.s_get (i := i) (by rw [h.len]; omega)
    obtain ⟨D, hD, eD, c2, d2, _⟩ := h.s_get (i := i + 1) (by rw [h.len]; omega)
    have g2 : GS 2 (2 : Rat) := ⟨2, 1, by decide, by decide +kernel, by decide, by decide⟩
    have := g.add (g2.mul (((gs_j hC sq c d).add (gs_j hD sq c2 d2)).div (gs_j hJ sd a (by omega)) (h.jpos (by omega))))
    exact this.up (by omega)

/-! ### signs -/
theorem rsgn_val {x : Fr} (h : 0 < x.2) : sgn x.1 = rsgn (val x) := by
  rw [← rsgn_int, ← val_mul h, Rat.mul_comm]
  exact rsgn_mul (ratInt_pos h)
theorem side_sgn {x y : Fr} (hx : 0 < x.2) (hy : 0 < y.2) : sgn (x.1 * y.2 - y.1 * x.2) = rsgn (val x - val y) := by
  rw [← rsgn_int]
  have e : ((x.1 * y.2 - y.1 * x.2 : Int) : Rat) = ((x.2 * y.2 : Int) : Rat) * (val x - val y) := by
    have h1 := val_mul hx
    have h2 := val_mul hy
    rw [Rat.intCast_sub, Rat.intCast_mul, Rat.intCast_mul, Rat.intCast_mul, ← h1, ← h2]
    grind
  rw [e]
  exact rsgn_mul (ratInt_pos (Int.mul_pos hx hy))
theorem sgn_ne {n : Int} : sgn n ≠ 0 ↔ n ≠ 0 := by
  unfold sgn
  split
  · omega
  · split <;> omega
theorem sgn_pm {n : Int} (h : n ≠ 0) : sgn n = 1 ∨ sgn n = -1 := by
  unfold sgn
  split
  · exact .inl rfl
  · rw [if_pos (by omega)]
    exact .inr rfl
def live (l : List Int) : List Int := (l.filter (· ≠ 0)).map sgn
theorem live_eq (l : List Int) : live l = (l.map sgn).filter (· ≠ 0) := by
  unfold live
  rw [List.filter_map]
  congr 1
  apply List.filter_congr
  intro x _
  show decide (x ≠ 0) = decide (sgn x ≠ 0)
  exact decide_eq_decide.mpr sgn_ne.symm
theorem live_pm {l : List Int} : ∀ x ∈ live l, x = 1 ∨ x = -1 := fun x hx => by
  obtain ⟨n, hn, rfl⟩ := List.mem_map.mp hx
  exact sgn_pm (by simpa using (List.mem_filter.mp hn).2)
theorem flips_eq (l : List Int) : cf (live l) (((live l).length : Int) - 1).toNat = (chs (l.map sgn)).1 := by
  have e : chs (l.map sgn) = chs (live l) := by
    rw [live_eq]
    exact (chs_filter _ _).symm
  rw [e]
  by_cases z : (live l).length = 0
  · rw [List.eq_nil_of_length_eq_zero z]
    rfl
  · have := chs_cf (l := live l) live_pm ((live l).length - 1) (by omega)
    rw [show (live l).length - 1 + 1 = (live l).length by omega, List.take_length] at this
    rw [this]
    show cf (live l) _ = cf (live l) _
    congr 1
    omega
theorem live_push (l : List Int) (x : Int) : live (l ++ [x]) = if x = 0 then live l else live l ++ [sgn x] := by
  unfold live
  rw [List.filter_append, List.map_append]
  by_cases z : x = 0
  · subst z
    rw [if_pos rfl]
    simp
  · rw [if_neg z]
    simp [z]
theorem ph_le (J K : Nat → Rat) (p : Rat) : ∀ i, (ph J K p i).1 ≤ i
  | 0 => Nat.le_refl _
  | i + 1 => by
    have := ph_le J K p i
    show (if _ then _ else _ : Nat × Rat × Rat).1 ≤ i + 1
    split
    · show (ph J K p i).1 + 1 ≤ i + 1
      omega
    · show (ph J K p i).1 ≤ i + 1
      omega
theorem cnt_le (J K : Nat → Rat) (p : Rat) (n : Nat) : cnt J K p n ≤ n + 1 := by
  have := ph_le J K p n
  unfold cnt
  show (ph J K p n).1 + (if _ < 0 then 1 else 0) ≤ n + 1
  split <;> omega
theorem side_ok {c1 c2 : Nat} {v1 v2 : Rat} (h : v1 ≤ v2 → c1 ≤ c2) (h' : v2 ≤ v1 → c2 ≤ c1) : 0 ≤ sgn ((c1 : Int) - (c2 : Int)) * rsgn (v1 - v2) := by
  rcases Rat.le_total (a := v1) (b := v2) with q | q
  · have := h q
    have e1 : sgn ((c1 : Int) - (c2 : Int)) = 0 ∨ sgn ((c1 : Int) - (c2 : Int)) = -1 := by
      unfold sgn
      rw [if_neg (by omega)]
      split
      · exact .inr rfl
      · exact .inl rfl
    have e2 : rsgn (v1 - v2) = 0 ∨ rsgn (v1 - v2) = -1 := by
      unfold rsgn
      rw [if_neg (by grind)]
      split
      · exact .inr rfl
      · exact .inl rfl
    rcases e1 with e1 | e1 <;> rcases e2 with e2 | e2 <;> rw [e1, e2] <;> decide
  · have := h' q
    have e1 : sgn ((c1 : Int) - (c2 : Int)) = 0 ∨ sgn ((c1 : Int) - (c2 : Int)) = 1 := by
      unfold sgn
      split
      · exact .inr rfl
      · rw [if_neg (by omega)]
        exact .inl rfl
    have e2 : rsgn (v1 - v2) = 0 ∨ rsgn (v1 - v2) = 1 := by
      unfold rsgn
      split
      · exact .inr rfl
      · rw [if_neg (by grind)]
        exact .inl rfl
    rcases e1 with e1 | e1 <;> rcases e2 with e2 | e2 <;> rw [e1, e2] <;> decide
end Mx
namespace Mx
open PySem PySem.Spec PyProof.Rows L2 DL
/-! ### none and all slower: the signs of the row -/
theorem ph_zero {J K : Nat → Rat} {p : Rat} (n : Nat) (hK : ∀ j, 0 < j → j ≤ n → 0 < K j) (hc : cnt J K p n = 0) : (∀ i, i ≤ n → (ph J K p i).1 = 0 ∧ 0 < (ph J K p i).2.1) ∧ ¬ K (n + 1) * (ph J K p n).2.1 + ((ph J K p n).2.2 - p * J n * (ph J K p n).2.1) < 0 := by
  have up : ∀ i, (ph J K p i).1 ≤ (ph J K p (i + 1)).1 := fun i => by
    show (ph J K p i).1 ≤ (if _ then _ else _ : Nat × Rat × Rat).1
    split
    · show (ph J K p i).1 ≤ (ph J K p i).1 + 1
      omega
    · exact Nat.le_refl _
  have ups : ∀ d i, (ph J K p i).1 ≤ (ph J K p (i + d)).1 := by
    intro d
    induction d with
    | zero => exact fun i => Nat.le_refl _
    | succ d ih => exact fun i => Nat.le_trans (ih i) (up (i + d))
  have h0 : (ph J K p n).1 = 0 ∧ ¬ K (n + 1) * (ph J K p n).2.1 + ((ph J K p n).2.2 - p * J n * (ph J K p n).2.1) < 0 := by
    have : (ph J K p n).1 + (if K (n + 1) * (ph J K p n).2.1 + ((ph J K p n).2.2 - p * J n * (ph J K p n).2.1) < 0 then 1 else 0) = 0 := hc
    by_cases q : K (n + 1) * (ph J K p n).2.1 + ((ph J K p n).2.2 - p * J n * (ph J K p n).2.1) < 0
    · rw [if_pos q] at this
      omega
    · exact ⟨by omega, q⟩
  have z : ∀ i, i ≤ n → (ph J K p i).1 = 0 := fun i hi => by
    have := ups (n - i) i
    rw [show i + (n - i) = n by omega, h0.1] at this
    omega
  refine ⟨fun i hi => ⟨z i hi, ?_⟩, h0.2⟩
  have hh := ph_hp (J := J) (p := p) i fun j a b => hK j a (by omega)
  rcases hh with q | ⟨q1, q2⟩
  · exact q
  · exfalso
    by_cases e : i = n
    · subst e
      apply h0.2
      rw [q1]
      grind
    · have z1 := z (i + 1) (by omega)
      have hk := Rat.inv_pos.mpr (hK (i + 1) (by omega) (by omega))
      have t : (ph J K p i).2.1 + ((ph J K p i).2.2 - p * J i * (ph J K p i).2.1) / K (i + 1) < 0 := by
        rw [q1, Rat.div_def]
        have := Rat.mul_pos (show 0 < -(ph J K p i).2.2 by grind) hk
        grind
      have d : ph J K p (i + 1) = ((ph J K p i).1 + 1, -((ph J K p i).2.1 + ((ph J K p i).2.2 - p * J i * (ph J K p i).2.1) / K (i + 1)), -((ph J K p i).2.2 - p * J i * (ph J K p i).2.1)) := if_pos t
      rw [d] at z1
      exact absurd z1 (Nat.succ_ne_zero _)
theorem ph_full {J K : Nat → Rat} {p : Rat} (n : Nat) (hc : cnt J K p n = n + 1) : (∀ i, i ≤ n → (ph J K p i).1 = i ∧ 0 < (ph J K p i).2.1) ∧ K (n + 1) * (ph J K p n).2.1 + ((ph J K p n).2.2 - p * J n * (ph J K p n).2.1) < 0 := by
  have le := fun i => ph_le J K p i
  have up : ∀ i, (ph J K p (i + 1)).1 ≤ (ph J K p i).1 + 1 := fun i => by
    show (if _ then _ else _ : Nat × Rat × Rat).1 ≤ _
    split
    · exact Nat.le_refl _
    · exact Nat.le_succ _
  have ups : ∀ d i, (ph J K p (i + d)).1 ≤ (ph J K p i).1 + d := by
    intro d
    induction d with
    | zero => exact fun i => Nat.le_refl _
    | succ d ih => exact fun i => Nat.le_trans (up (i + d)) (Nat.succ_le_succ (ih i))
  have h0 : (ph J K p n).1 = n ∧ K (n + 1) * (ph J K p n).2.1 + ((ph J K p n).2.2 - p * J n * (ph J K p n).2.1) < 0 := by
    have : (ph J K p n).1 + (if K (n + 1) * (ph J K p n).2.1 + ((ph J K p n).2.2 - p * J n * (ph J K p n).2.1) < 0 then 1 else 0) = n + 1 := hc
    have l := le n
    by_cases q : K (n + 1) * (ph J K p n).2.1 + ((ph J K p n).2.2 - p * J n * (ph J K p n).2.1) < 0
    · rw [if_pos q] at this
      exact ⟨by omega, q⟩
    · rw [if_neg q] at this
      omega
  have z : ∀ i, i ≤ n → (ph J K p i).1 = i := fun i hi => by
    have := ups (n - i) i
    rw [show i + (n - i) = n by omega, h0.1] at this
    have := le i
    omega
  refine ⟨fun i hi => ⟨z i hi, ?_⟩, h0.2⟩
  cases i with
  | zero => show (0 : Rat) < 1; decide +kernel
  | succ i =>
    have z1 := z (i + 1) hi
    have z0 := z i (by omega)
    by_cases t : (ph J K p i).2.1 + ((ph J K p i).2.2 - p * J i * (ph J K p i).2.1) / K (i + 1) < 0
    · have d : ph J K p (i + 1) = ((ph J K p i).1 + 1, -((ph J K p i).2.1 + ((ph J K p i).2.2 - p * J i * (ph J K p i).2.1) / K (i + 1)), -((ph J K p i).2.2 - p * J i * (ph J K p i).2.1)) := if_pos t
      rw [d]
      show 0 < -_
      grind
    · have d : ph J K p (i + 1) = ((ph J K p i).1, (ph J K p i).2.1 + ((ph J K p i).2.2 - p * J i * (ph J K p i).2.1) / K (i + 1), (ph J K p i).2.2 - p * J i * (ph J K p i).2.1) := if_neg t
      rw [d] at z1
      have z2 : (ph J K p i).1 = i + 1 := z1
      omega
theorem ea_ph (J K : Nat → Rat) (p : Rat) (n : Nat) : ea J K p n = alt (ph J K p n).1 * (K (n + 1) * (ph J K p n).2.1 + ((ph J K p n).2.2 - p * J n * (ph J K p n).2.1)) := by
  obtain ⟨h1, h2⟩ := ph_row J K p n
  unfold ea
  rw [ya_succ, h1, h2]
  grind
theorem alt_sq (i : Nat) : alt i * alt i = 1 := by
  unfold alt
  split
  · decide +kernel
  · decide +kernel
/-- where all signs go one way or all change, s * neighbours' products are above 0 -/
structure Way (J K : Nat → Rat) (p : Rat) (n : Nat) (s : Rat) : Prop where
  ne : ∀ i, i ≤ n → xa J K p i ≠ 0
  nb : ∀ i, i < n → 0 < s * (xa J K p i * xa J K p (i + 1))
  en : 0 < s * (xa J K p n * ea J K p n)
theorem way_up {J K : Nat → Rat} {p : Rat} (n : Nat) (hK : ∀ j, 0 < j → j ≤ n → 0 < K j) (hc : cnt J K p n = 0) (he : ea J K p n ≠ 0) : Way J K p n 1 := by
  obtain ⟨h, hl⟩ := ph_zero n hK hc
  have x : ∀ i, i ≤ n → xa J K p i = (ph J K p i).2.1 := fun i hi => by
    rw [(ph_row J K p i).1, (h i hi).1]
    show (1 : Rat) * _ = _
    grind
  have e := ea_ph J K p n
  rw [(h n (Nat.le_refl _)).1] at e
  have a0 : alt 0 = 1 := rfl
  rw [a0] at e
  refine ⟨fun i hi => ?_, fun i hi => ?_, ?_⟩
  · rw [x i hi]
    have := (h i hi).2
    grind
  · rw [x i (by omega), x (i + 1) (by omega)]
    have := Rat.mul_pos (h i (by omega)).2 (h (i + 1) (by omega)).2
    grind
  · rw [x n (Nat.le_refl _)]
    have q : 0 < ea J K p n := by grind
    have := Rat.mul_pos (h n (Nat.le_refl _)).2 q
    grind
theorem way_down {J K : Nat → Rat} {p : Rat} (n : Nat) (hc : cnt J K p n = n + 1) : Way J K p n (-1) := by
  obtain ⟨h, hl⟩ := ph_full n hc
  have x : ∀ i, i ≤ n → xa J K p i = alt i * (ph J K p i).2.1 := fun i hi => by
    rw [(ph_row J K p i).1, (h i hi).1]
  have e := ea_ph J K p n
  rw [(h n (Nat.le_refl _)).1] at e
  refine ⟨fun i hi => ?_, fun i hi => ?_, ?_⟩
  · rw [x i hi]
    have h1 := (h i hi).2
    have h2 := alt_sq i
    intro z
    have : alt i * (alt i * (ph J K p i).2.1) = 0 := by rw [z]; grind
    grind
  · rw [x i (by omega), x (i + 1) (by omega), alt_succ]
    have h1 := Rat.mul_pos (h i (by omega)).2 (h (i + 1) (by omega)).2
    have h2 := alt_sq i
    have : -1 * (alt i * (ph J K p i).2.1 * (-alt i * (ph J K p (i + 1)).2.1)) = (alt i * alt i) * ((ph J K p i).2.1 * (ph J K p (i + 1)).2.1) := by grind
    rw [this, h2]
    grind
  · rw [x n (Nat.le_refl _), e]
    have h1 := Rat.mul_pos (h n (Nat.le_refl _)).2 (show 0 < -(K (n + 1) * (ph J K p n).2.1 + ((ph J K p n).2.2 - p * J n * (ph J K p n).2.1)) by grind)
    have h2 := alt_sq n
    generalize (K (n + 1) * (ph J K p n).2.1 + ((ph J K p n).2.2 - p * J n * (ph J K p n).2.1)) = W at *
    have : -1 * (alt n * (ph J K p n).2.1 * (alt n * W)) = (alt n * alt n) * ((ph J K p n).2.1 * -W) := by grind
    rw [this, h2]
    grind

/-! ### the quotient of a shape -/
/-- twists are told by w (k + 1) - w k, turns by w (k + 1) -/
def kf (K w : Nat → Rat) : Nat → Rat
  | 0 => 0
  | k + 1 => kf K w k + K k * ((w (k + 1) - w k) * (w (k + 1) - w k))
def jf (J u : Nat → Rat) : Nat → Rat
  | 0 => 0
  | k + 1 => jf J u k + J k * (u k * u k)
theorem sq_nn (x : Rat) : 0 ≤ x * x := by
  rcases Rat.le_total (a := 0) (b := x) with h | h
  · exact Rat.mul_nonneg h h
  · have := Rat.mul_nonneg (show 0 ≤ -x by grind) (show 0 ≤ -x by grind)
    grind
theorem sq_zero {x : Rat} (h : x * x = 0) : x = 0 := by grind
theorem prod_zero {a b : Rat} (ha : a ≠ 0) (h : a * b = 0) : b = 0 := by grind
theorem pic_id {K t u t' u' : Rat} (h1 : t ≠ 0) (h2 : t' ≠ 0) : K * (t' - t) / t * (u * u) + K * ((u' - u) * (u' - u)) = K * (t' - t) / t' * (u' * u') + K * (t * t') * ((u' / t' - u / t) * (u' / t' - u / t)) := by
  grind
/-- the rest of the form when the last turn's share is taken out -/
def rest (J K : Nat → Rat) (p : Rat) (u w : Nat → Rat) (i : Nat) : Rat := kf K w (i + 1) - p * jf J u i - ya J K p i / xa J K p i * (u i * u i)
theorem rest_step {J K u w : Nat → Rat} {p : Rat} {i : Nat} (hw : ∀ k, k ≤ i + 1 → w (k + 1) = u k) (h1 : xa J K p i ≠ 0) (h2 : xa J K p (i + 1) ≠ 0) (hk : 0 < K (i + 1)) :
    rest J K p u w (i + 1) = rest J K p u w i + K (i + 1) * (xa J K p i * xa J K p (i + 1)) * ((u (i + 1) / xa J K p (i + 1) - u i / xa J K p i) * (u (i + 1) / xa J K p (i + 1) - u i / xa J K p i)) := by
  have e1 : kf K w (i + 1 + 1) = kf K w (i + 1) + K (i + 1) * ((u (i + 1) - u i) * (u (i + 1) - u i)) := by
    show kf K w (i + 1) + K (i + 1) * ((w (i + 1 + 1) - w (i + 1)) * (w (i + 1 + 1) - w (i + 1))) = _
    rw [hw (i + 1) (Nat.le_refl _), hw i (by omega)]
  have e2 : jf J u (i + 1) = jf J u i + J i * (u i * u i) := rfl
  have e3 := ya_succ J K p i
  have e4 := xa_succ J K p i
  have ety : ya J K p (i + 1) = K (i + 1) * (xa J K p (i + 1) - xa J K p i) := by
    rw [e4]
    have := mul_div' (Y := ya J K p (i + 1)) hk
    grind
  have e5 : ya J K p i = K (i + 1) * (xa J K p (i + 1) - xa J K p i) + p * J i * xa J K p i := by
    rw [← ety, e3]
    grind
  unfold rest
  rw [e1, e2, ety, e5]
  have id := pic_id (K := K (i + 1)) (u := u i) (u' := u (i + 1)) h1 h2
  have sp : (K (i + 1) * (xa J K p (i + 1) - xa J K p i) + p * J i * xa J K p i) / xa J K p i = K (i + 1) * (xa J K p (i + 1) - xa J K p i) / xa J K p i + p * J i := by
    grind
  rw [sp]
  grind
theorem rest_zero {J K u w : Nat → Rat} {p : Rat} (h0 : w 0 = 0) (h1 : w 1 = u 0) : rest J K p u w 0 = 0 := by
  unfold rest
  show 0 + K 0 * ((w 1 - w 0) * (w 1 - w 0)) - p * 0 - K 0 / 1 * (u 0 * u 0) = 0
  rw [h0, h1]
  grind
theorem rest_way {J K u w : Nat → Rat} {p s : Rat} {n : Nat} (W : Way J K p n s) (h0 : w 0 = 0) (hw : ∀ k, k ≤ n → w (k + 1) = u k) (hK : ∀ j, 0 < j → j ≤ n → 0 < K j) :
    ∀ i, i ≤ n → 0 ≤ s * rest J K p u w i ∧ (s * rest J K p u w i = 0 → u i = 0 → ∀ j, j ≤ i → u j = 0)
  | 0, hi => by
    rw [rest_zero h0 (hw 0 (by omega))]
    refine ⟨by grind, fun _ z j hj => ?_⟩
    obtain rfl : j = 0 := by omega
    exact z
  | i + 1, hi => by
    obtain ⟨a, b⟩ := rest_way W h0 hw hK i (by omega)
    have n1 := W.ne i (by omega)
    have n2 := W.ne (i + 1) hi
    have hk := hK (i + 1) (by omega) hi
    have nb := W.nb i (by omega)
    rw [rest_step (fun k hk => hw k (by omega)) n1 n2 hk]
    have sq := sq_nn (u (i + 1) / xa J K p (i + 1) - u i / xa J K p i)
    have mp := Rat.mul_pos hk nb
    have mm := Rat.mul_nonneg (Rat.le_of_lt mp) sq
    have e : s * (rest J K p u w i + K (i + 1) * (xa J K p i * xa J K p (i + 1)) * ((u (i + 1) / xa J K p (i + 1) - u i / xa J K p i) * (u (i + 1) / xa J K p (i + 1) - u i / xa J K p i))) = s * rest J K p u w i + K (i + 1) * (s * (xa J K p i * xa J K p (i + 1))) * ((u (i + 1) / xa J K p (i + 1) - u i / xa J K p i) * (u (i + 1) / xa J K p (i + 1) - u i / xa J K p i)) := by grind
    rw [e]
    refine ⟨by grind, fun z zu j hj => ?_⟩
    have z1 : s * rest J K p u w i = 0 := by grind
    have z2 : K (i + 1) * (s * (xa J K p i * xa J K p (i + 1))) * ((u (i + 1) / xa J K p (i + 1) - u i / xa J K p i) * (u (i + 1) / xa J K p (i + 1) - u i / xa J K p i)) = 0 := by grind
    have z3 := sq_zero (prod_zero (by grind) z2)
    rw [zu] at z3
    have z4 : u i = 0 := by
      generalize xa J K p (i + 1) = t' at *
      generalize xa J K p i = t at *
      grind
    by_cases q : j = i + 1
    · rw [q]
      exact zu
    · exact b z1 z4 j (by omega)
/-- the whole form -/
theorem form_way {J K u w : Nat → Rat} {p s : Rat} {n : Nat} (W : Way J K p n s) (h0 : w 0 = 0) (hw : ∀ k, k ≤ n → w (k + 1) = u k) (hl : w (n + 2) = 0) (hK : ∀ j, 0 < j → j ≤ n → 0 < K j)
    (hs : s * (kf K w (n + 2) - p * jf J u (n + 1)) ≤ 0) : ∀ j, j ≤ n → u j = 0 := by
  obtain ⟨a, b⟩ := rest_way W h0 hw hK n (Nat.le_refl _)
  have n1 := W.ne n (Nat.le_refl _)
  have e1 : kf K w (n + 2) - p * jf J u (n + 1) = rest J K p u w n + ea J K p n / xa J K p n * (u n * u n) := by
    unfold rest
    show kf K w (n + 1) + K (n + 1) * ((w (n + 2) - w (n + 1)) * (w (n + 2) - w (n + 1))) - p * (jf J u n + J n * (u n * u n)) = _
    rw [hl, hw n (Nat.le_refl _)]
    unfold ea
    rw [ya_succ]
    generalize xa J K p n = t at *
    grind
  have e2 : ea J K p n / xa J K p n * (u n * u n) = (xa J K p n * ea J K p n) * ((u n / xa J K p n) * (u n / xa J K p n)) := by
    generalize xa J K p n = t at *
    grind
  have sq := sq_nn (u n / xa J K p n)
  have mm := Rat.mul_nonneg (Rat.le_of_lt W.en) sq
  rw [e1, e2] at hs
  have e3 : s * (rest J K p u w n + (xa J K p n * ea J K p n) * ((u n / xa J K p n) * (u n / xa J K p n))) = s * rest J K p u w n + s * (xa J K p n * ea J K p n) * ((u n / xa J K p n) * (u n / xa J K p n)) := by grind
  rw [e3] at hs
  have z1 : s * rest J K p u w n = 0 := by grind
  have z2 : s * (xa J K p n * ea J K p n) * ((u n / xa J K p n) * (u n / xa J K p n)) = 0 := by grind
  have z3 := sq_zero (prod_zero (by have := W.en; grind) z2)
  have z4 : u n = 0 := by
    generalize xa J K p n = t at *
    grind
  exact b z1 z4
/-- the slowest swing is no faster than the quotient, the fastest one no slower -/
theorem quot_ok {J K u w : Nat → Rat} {p : Rat} {n : Nat} (h0 : w 0 = 0) (hw : ∀ k, k ≤ n → w (k + 1) = u k) (hl : w (n + 2) = 0) (hK : ∀ j, 0 < j → j ≤ n → 0 < K j) (hu : ∃ j, j ≤ n ∧ u j ≠ 0)
    (hp : kf K w (n + 2) = p * jf J u (n + 1)) : (cnt J K p n = 0 → ea J K p n = 0) ∧ cnt J K p n ≤ n := by
  obtain ⟨j, hj, hj0⟩ := hu
  constructor
  · intro hc
    rcases Classical.em (ea J K p n = 0) with e | e
    · exact e
    · exact absurd (form_way (way_up n hK hc e) h0 hw hl hK (by rw [hp]; grind) j hj) hj0
  · have := cnt_le J K p n
    rcases Nat.lt_or_ge (cnt J K p n) (n + 1) with q | q
    · omega
    · exact absurd (form_way (way_down (J := J) (K := K) (p := p) n (by omega)) h0 hw hl hK (by rw [hp]; grind) j hj) hj0
theorem quot_one {J K u w : Nat → Rat} {p : Rat} (h0 : w 0 = 0) (hw : w 1 = u 0) (hl : w 2 = 0) (hu : u 0 ≠ 0) (hp : kf K w 2 = p * jf J u 1) : ea J K p 0 = 0 ∧ cnt J K p 0 = 0 := by
  have e : (K 0 + K 1 - p * J 0) * (u 0 * u 0) = 0 := by
    have a : kf K w 2 = 0 + K 0 * ((w 1 - w 0) * (w 1 - w 0)) + K 1 * ((w 2 - w 1) * (w 2 - w 1)) := rfl
    have b : jf J u 1 = 0 + J 0 * (u 0 * u 0) := rfl
    rw [a, b, h0, hl, hw] at hp
    grind
  have e2 : K 0 + K 1 - p * J 0 = 0 := by grind
  constructor
  · show K 0 - p * J 0 * 1 + K 1 * 1 = 0
    grind
  · show 0 + (if K 1 * 1 + (K 0 - p * J 0 * 1) < 0 then 1 else 0) = 0
    rw [if_neg (by grind)]
theorem kf_nn {K w : Nat → Rat} : ∀ k, (∀ j, j < k → 0 ≤ K j) → 0 ≤ kf K w k
  | 0, _ => Rat.le_refl
  | k + 1, h => by
    have a := kf_nn (w := w) k fun j hj => h j (by omega)
    have b := Rat.mul_nonneg (h k (by omega)) (sq_nn (w (k + 1) - w k))
    show 0 ≤ kf K w k + K k * _
    grind
theorem jf_pos {J u : Nat → Rat} : ∀ k, (∀ j, j < k → 0 < J j) → 0 ≤ jf J u k ∧ ((∃ j, j < k ∧ u j ≠ 0) → 0 < jf J u k)
  | 0, _ => ⟨Rat.le_refl, fun ⟨j, h, _⟩ => absurd h (by omega)⟩
  | k + 1, h => by
    obtain ⟨a, b⟩ := jf_pos (u := u) k fun j hj => h j (by omega)
    have q := sq_nn (u k)
    have c := Rat.mul_nonneg (Rat.le_of_lt (h k (by omega))) q
    refine ⟨?_, fun ⟨j, hj, hne⟩ => ?_⟩
    · show 0 ≤ jf J u k + J k * _
      grind
    · show 0 < jf J u k + J k * _
      by_cases e : j = k
      · subst e
        have nz : u j * u j ≠ 0 := fun z => hne (sq_zero z)
        have := Rat.mul_pos (h j (by omega)) (show 0 < u j * u j by grind)
        grind
      · have := b ⟨j, by omega, hne⟩
        grind

/-! ### the pivots of the table -/
def pv (J K : Nat → Rat) (p : Rat) : Nat → Rat
  | 0 => K 0 + K 1 - p * J 0
  | i + 1 => K (i + 1) + K (i + 2) - p * J (i + 1) - K (i + 1) * K (i + 1) / pv J K p i
/-- how many of the first pivots are negative -/
def negs (J K : Nat → Rat) (p : Rat) : Nat → Nat
  | 0 => 0
  | i + 1 => negs J K p i + if pv J K p i < 0 then 1 else 0
theorem pv_ph {J K : Nat → Rat} {p : Rat} : ∀ i, (∀ j, 0 < j → j ≤ i → 0 < K j) → (∀ j, j < i → pv J K p j ≠ 0) → 0 < (ph J K p i).2.1 ∧ (ph J K p i).1 = negs J K p i ∧ pv J K p i = (ph J K p i).2.2 / (ph J K p i).2.1 - p * J i + K (i + 1)
  | 0, _, _ => by
    refine ⟨by show (0 : Rat) < 1; decide +kernel, rfl, ?_⟩
    show K 0 + K 1 - p * J 0 = K 0 / 1 - p * J 0 + K 1
    grind
  | i + 1, hK, hne => by
    obtain ⟨a, b, c⟩ := pv_ph i (fun j h1 h2 => hK j h1 (by omega)) (fun j hj => hne j (by omega))
    have n1 := hne i (by omega)
    have hk := hK (i + 1) (by omega) (by omega)
    have ec : pv J K p (i + 1) = K (i + 1) + K (i + 2) - p * J (i + 1) - K (i + 1) * K (i + 1) / pv J K p i := rfl
    have en : negs J K p (i + 1) = negs J K p i + if pv J K p i < 0 then 1 else 0 := rfl
    rw [ec, en]
    generalize hy : (ph J K p i).2.2 - p * J i * (ph J K p i).2.1 = Y
    have hY : Y = (ph J K p i).2.1 * (pv J K p i - K (i + 1)) := by
      rw [← hy, c]
      generalize (ph J K p i).2.1 = t at *
      grind
    have hX : (ph J K p i).2.1 + Y / K (i + 1) = (ph J K p i).2.1 * (pv J K p i / K (i + 1)) := by
      rw [hY]
      grind
    by_cases t : (ph J K p i).2.1 + Y / K (i + 1) < 0
    · have d : ph J K p (i + 1) = ((ph J K p i).1 + 1, -((ph J K p i).2.1 + Y / K (i + 1)), -Y) := by
        show (if (ph J K p i).2.1 + ((ph J K p i).2.2 - p * J i * (ph J K p i).2.1) / K (i + 1) < 0 then _ else _) = _
        rw [hy, if_pos t]
      have ng : pv J K p i < 0 := by
        rw [hX] at t
        rcases Classical.em (pv J K p i < 0) with q | q
        · exact q
        · exfalso
          have hki := Rat.inv_pos.mpr hk
          have := Rat.mul_nonneg (Rat.le_of_lt a) (Rat.mul_nonneg (show 0 ≤ pv J K p i by grind) (Rat.le_of_lt hki))
          rw [Rat.div_def] at t
          grind
      rw [d, if_pos ng]
      refine ⟨by show 0 < -_; grind, by show _ + 1 = _; omega, ?_⟩
      show _ = -Y / -((ph J K p i).2.1 + Y / K (i + 1)) - p * J (i + 1) + K (i + 1 + 1)
      rw [hX, hY]
      generalize (ph J K p i).2.1 = t at *
      generalize pv J K p i = v at *
      grind
    · have d : ph J K p (i + 1) = ((ph J K p i).1, (ph J K p i).2.1 + Y / K (i + 1), Y) := by
        show (if (ph J K p i).2.1 + ((ph J K p i).2.2 - p * J i * (ph J K p i).2.1) / K (i + 1) < 0 then _ else _) = _
        rw [hy, if_neg t]
      have ng : 0 < pv J K p i := by
        rw [hX] at t
        rcases Classical.em (pv J K p i < 0) with q | q
        · exfalso
          have hki := Rat.inv_pos.mpr hk
          have := Rat.mul_pos a (Rat.mul_pos (show 0 < -pv J K p i by grind) hki)
          rw [Rat.div_def] at t
          grind
        · grind
      have px : 0 < (ph J K p i).2.1 * (pv J K p i / K (i + 1)) := by
        rw [Rat.div_def]
        exact Rat.mul_pos a (Rat.mul_pos ng (Rat.inv_pos.mpr hk))
      rw [d, if_neg (by grind)]
      refine ⟨by show 0 < _ + _; rw [hX]; exact px, by show (ph J K p i).1 = _; omega, ?_⟩
      show _ = Y / ((ph J K p i).2.1 + Y / K (i + 1)) - p * J (i + 1) + K (i + 1 + 1)
      rw [hX, hY]
      generalize (ph J K p i).2.1 = t at *
      generalize pv J K p i = v at *
      grind
theorem pv_cnt {J K : Nat → Rat} {p : Rat} (n : Nat) (hK : ∀ j, 0 < j → j ≤ n → 0 < K j) (hne : ∀ j, j < n → pv J K p j ≠ 0) : cnt J K p n = negs J K p (n + 1) := by
  obtain ⟨a, b, c⟩ := pv_ph n hK hne
  have e : K (n + 1) * (ph J K p n).2.1 + ((ph J K p n).2.2 - p * J n * (ph J K p n).2.1) = (ph J K p n).2.1 * pv J K p n := by
    rw [c]
    generalize (ph J K p n).2.1 = t at *
    grind
  show (ph J K p n).1 + (if K (n + 1) * (ph J K p n).2.1 + ((ph J K p n).2.2 - p * J n * (ph J K p n).2.1) < 0 then 1 else 0) = negs J K p n + if pv J K p n < 0 then 1 else 0
  rw [e, b]
  by_cases q : pv J K p n < 0
  · have := Rat.mul_pos a (show 0 < -pv J K p n by grind)
    rw [if_pos q, if_pos (by grind)]
  · have := Rat.mul_nonneg (Rat.le_of_lt a) (show 0 ≤ pv J K p n by grind)
    rw [if_neg q, if_neg (by grind)]
/-- a pivot by the row -/
theorem pv_row {J K : Nat → Rat} {p : Rat} (i : Nat) (hK : ∀ j, 0 < j → j ≤ i → 0 < K j) (hne : ∀ j, j < i → pv J K p j ≠ 0) : xa J K p i ≠ 0 ∧ pv J K p i = ya J K p (i + 1) / xa J K p i + K (i + 1) := by
  obtain ⟨a, b, c⟩ := pv_ph i hK hne
  obtain ⟨h1, h2⟩ := ph_row J K p i
  have h3 := alt_sq (ph J K p i).1
  have ne : xa J K p i ≠ 0 := by
    intro z
    rw [h1] at z
    have : alt (ph J K p i).1 * (alt (ph J K p i).1 * (ph J K p i).2.1) = 0 := by rw [z]; grind
    grind
  refine ⟨ne, ?_⟩
  rw [c, ya_succ, h1, h2]
  rw [h1] at ne
  generalize alt (ph J K p i).1 = s at *
  generalize (ph J K p i).2.1 = t at *
  grind
theorem G2.quot {e : Nat} {t a : Rat} (g : G2 e t a) (ha : a ≠ 0) : GS e (t / a) := by
  obtain ⟨S, T, A, s0, h1, h2, h3, h4, h5⟩ := g
  have hS := ratInt_ne (a := S) (by omega)
  have hA : A ≠ 0 := by
    intro z
    rw [z] at h2
    have : a * (S : Rat) = 0 := h2
    grind
  rcases Int.lt_or_gt_of_ne hA with q | q
  · refine ⟨-T, -A, by omega, ?_, by rw [Int.natAbs_neg]; exact h4, by rw [Int.natAbs_neg]; exact h5⟩
    rw [Rat.intCast_neg, Rat.intCast_neg, ← h1, ← h2]
    grind
  · refine ⟨T, A, q, ?_, h4, h5⟩
    rw [← h1, ← h2]
    grind
end Mx
/-! Counting in a list, a test by None, a name for an object. -/
namespace Mx
open PySem PySem.Spec PyProof.Rows L2 DL
def SpMk2 (K : PySem.W.Frag) : Sp := fun vs H Q _ => ∃ (M : List Addr) (v u : V) (p : Fr), vs = [v, u] ∧ (∀ m ∈ M, ∃ o, H m = some o) ∧ Dn K (hid M H) v (frD p) ∧ FOk p ∧ ∀ a H', Same H H' → PlaceAt K (hid M H') a p → Q (.ref a) H'
section
variable {K : PySem.W.Frag} {B : Bs} {G : List Hp} {L : List Addr} {Γ : List Sl} {H H' : Hp} {σ : L2.St} {te ta : TE} {k : PyData → Prop} {u : TS} {P : PD}
/-- xs.count(c), xs a list of whole numbers -/
theorem ev_cntD (h : EvP K B G L Γ ta fun d => ∃ ns : List Int, d = .list (ns.map .int) ∧ EvP K B G L Γ te fun e => ∃ c, e = .int c ∧ k (.int ((ns.count c : Nat) : Int))) : EvP K B G L Γ (tBM K "list" (rCntI K) ta (tCons te tNil)) k := fun σ H Q E q =>
  h σ H _ E fun v d H1 g1 dn ⟨ns, ed, h2⟩ => by
    subst ed
    cases dn with
    | @lst a xs _ e1 dx =>
      obtain rfl : xs = ns.map V.int := DnA.ints dx
      refine ⟨.inl ⟨rfl, _, .inl (.inl (hid_sub _ _ _ _ e1))⟩, (ea_cons (kl := fun es => ∃ c, es = [.int c] ∧ k (.int ((ns.count c : Nat) : Int))) (h2.mono fun e ⟨c, ec, hk⟩ => ea_nil ⟨c, by rw [ec], hk⟩)) σ H1 _ g1.env fun us es H2 g2 du ⟨c, ee, hk⟩ => ?_⟩
      subst ee
      cases du with
      | cons d1 d2 =>
        cases d2
        cases d1
        exact ⟨a, ns, c, rfl, rfl, .inl (.inl (hid_sub _ _ _ _ (g2.sm _ _ e1))), q _ _ H2 (g1.trans g2) (.int _) hk⟩
theorem ev_notN (h : EvP K B G L Γ te fun d => k (.bool (!isNoneD d))) : EvP K B G L Γ (tNotN te) k := fun σ H Q E q =>
  h σ H _ E fun v d H1 g1 dn hk => by
    have e : decide (v = V.non) = isNoneD d := by cases dn <;> simp [isNoneD]
    show Q (.bl (!decide (v = V.non))) H1
    rw [e]
    exact q _ _ H1 g1 (.bl _) hk
theorem Env.putRaw (E : DL.Env K B G L H σ Γ) (i : Nat) (v : V) : DL.Env K B G L H (σ.set i (some v)) (Γ.set i (.raw v)) := by
  have g : ∀ (j : Nat) (s : Sl), (Γ.set i (.raw v))[j]? = some s → (j = i ∧ s = .raw v ∧ j < Γ.length) ∨ (j ≠ i ∧ Γ[j]? = some s) := fun j s hj => by
    by_cases e : j = i
    · subst e
      by_cases hl : j < Γ.length
      · rw [List.getElem?_set_self hl] at hj
        exact .inl ⟨rfl, (Option.some.inj hj).symm, hl⟩
      · rw [List.getElem?_eq_none (by rw [List.length_set]; omega)] at hj
        cases hj
    · rw [List.getElem?_set_ne (Ne.symm e)] at hj
      exact .inr ⟨e, hj⟩
  refine ⟨E.fr, E.ws, E.wm, E.lm, E.lo, by rw [List.length_set, List.length_set]; exact E.len, fun j s hj => ?_, E.gh, fun j l xs hj => ?_, fun j k l xs ys hj hk => ?_, fun j w hj => ?_⟩
  · rcases g j s hj with ⟨rfl, rfl, hl⟩ | ⟨e, hj⟩
    · show (σ.set j (some v))[j]?.join = some v
      rw [List.getElem?_set_self (by rw [E.len]; exact hl)]
      rfl
    · rw [List.getElem?_set_ne (Ne.symm e)]
      exact E.sl j s hj
  · rcases g j _ hj with ⟨_, e, _⟩ | ⟨_, hj⟩
    · cases e
    · exact E.ow j l xs hj
  · rcases g j _ hj with ⟨_, e, _⟩ | ⟨_, hj⟩
    · cases e
    · rcases g k _ hk with ⟨_, e, _⟩ | ⟨_, hk⟩
      · cases e
      · exact E.ou j k l xs ys hj hk
  · rcases g j _ hj with ⟨_, e, _⟩ | ⟨_, hj⟩
    · cases e
    · exact E.we j w hj
/-- a name for the object of a point that is a fraction -/
theorem st_seqMk {i : Nat} {E0 : XK} (h : EvP K B G L Γ ta fun d => ∃ p, d = frD p ∧ FOk p ∧ ∀ (a : Addr) (g : Hp), PlaceAt K g a p → StP K B (g :: G) L (Γ.set i (.raw (.ref a))) u P) :
    StP K B G L Γ (tSeq (tAsg (tCall (SpMk2 K) [] E0 (tCons ta (tCons tDNewK tNil))) (gName i)) u) P := fun σ H D E M =>
  h σ H _ E fun v d H1 g1 dn ⟨p, ed, fp, hk⟩ => by
    subst ed
    intro b hb
    have g2 := Go.new (o := .dK []) g1.env hb
    refine ⟨L ++ B.M, v, .ref b, p, rfl, g2.env.alive, dn.mono g2.sm, fp, fun a H3 s pl => ?_⟩
    have g3 := Go.ext g2.env s
    exact hk a _ pl _ _ D (Env.putRaw g3.env.gpush i (.ref a)) ⟨fun L2 Γ2 σ2 H2 q E2 => M.nx _ _ _ _ q E2.gpop, M.rt, fun L2 Γ2 σ2 H2 q E2 => M.bk _ _ _ _ q E2.gpop, fun L2 Γ2 σ2 H2 q E2 => M.ct _ _ _ _ q E2.gpop⟩
end
/-- what is told of a pace by the count and the end -/
def cmpv (c : Nat) (e : Rat) (k : Nat) : Int := if k < c then -1 else if k = c ∧ e = 0 then 0 else 1
theorem rsgn_zero {x : Rat} : rsgn x = 0 ↔ x = 0 := by
  unfold rsgn
  split
  · exact ⟨(fun z => nomatch z), fun z => by grind⟩
  · split
    · exact ⟨(fun z => nomatch z), fun z => by grind⟩
    · exact ⟨fun _ => by grind, fun _ => rfl⟩
/-- the last sign is that of the end -/
theorem signs_end {dd ss : List Fr} {rows : List (List Int)} (R : Rows dd ss rows) (h : LN dd ss) {p : Fr} (hp : 0 < p.2) : (rows.map fun w => sgn (hor p.1 p.2 w))[dd.length]? = some (rsgn (ea (jv dd) (jv ss) (val p) (dd.length - 1))) := by
  have n1 := h.c1
  have hl := R.len
  have hls := h.len
  have hr : rows[dd.length]? = some rows[dd.length] := List.getElem?_eq_getElem (by omega)
  generalize rows[dd.length] = w at hr
  obtain ⟨u, S, ew, rl, lu, bu⟩ := R.row dd.length w hr
  have ld := pol_lead h (i := dd.length) (by omega)
  have sw : sgn (hor p.1 p.2 w) = rsgn (fev (pol dd ss dd.length) (val p) (dd.length + 1)) := by
    rw [ew, prim_sgn rl (ne_of_alt ld) hp, lu]
    rfl
  rw [List.getElem?_map, hr]
  show some (sgn (hor p.1 p.2 w)) = _
  rw [sw]
  unfold pol
  rw [if_neg (by omega), show dd.length + 1 = dd.length - 1 + 2 by omega, fev_en (dd.length - 1) (fun i hi => h.jpos (by omega)) (fun i a b => h.kpos a (by omega))]
/-- turns by places: 0 ahead of the first and behind the last -/
def uv (us : List Int) (k : Nat) : Rat := ((us.getD k 0 : Int) : Rat)
def wv (us : List Int) (k : Nat) : Rat := (((0 :: us).getD k 0 : Int) : Rat)
theorem wv_zero (us : List Int) : wv us 0 = 0 := rfl
theorem wv_succ (us : List Int) (k : Nat) : wv us (k + 1) = uv us k := rfl
theorem wv_end {us : List Int} : wv us (us.length + 1) = 0 := by
  show ((us.getD us.length 0 : Int) : Rat) = 0
  rw [List.getD_eq_getElem?_getD, List.getElem?_eq_none (Nat.le_refl _)]
  rfl
theorem whole_at (us : List Int) {k : Nat} (hk : k ≤ us.length + 1) : ((0 :: us) ++ [0])[k]? = some ((0 :: us).getD k 0) := by
  by_cases q : k < us.length + 1
  · rw [List.getElem?_append_left (by simpa using q), List.getD_eq_getElem?_getD, List.getElem?_eq_getElem (by simpa using q)]
    rfl
  · obtain rfl : k = us.length + 1 := by omega
    have e2 : (0 :: us).getD (us.length + 1) 0 = 0 := getD_out (u := 0 :: us) (Nat.le_refl _)
    rw [e2]
    have e1 := List.getElem?_append_right (l₁ := 0 :: us) (l₂ := [0]) (Nat.le_refl _)
    rw [Nat.sub_self] at e1
    exact e1
/-- turns that are small -/
structure Turns (us : List Int) (c : Nat) : Prop where
  len : us.length = c
  sm : ∀ x ∈ us, -3 ≤ x ∧ x ≤ 3
  ne : ∃ x ∈ us, x ≠ 0
theorem Turns.get {us : List Int} {c : Nat} (h : Turns us c) (k : Nat) : -3 ≤ us.getD k 0 ∧ us.getD k 0 ≤ 3 := by
  by_cases q : k < us.length
  · rw [List.getD_eq_getElem?_getD, List.getElem?_eq_getElem q]
    exact h.sm _ (List.getElem_mem q)
  · rw [getD_out (by omega)]
    decide
theorem Turns.getW {us : List Int} {c : Nat} (h : Turns us c) (k : Nat) : -3 ≤ (0 :: us).getD k 0 ∧ (0 :: us).getD k 0 ≤ 3 := by
  cases k with
  | zero => exact ⟨by show (-3 : Int) ≤ 0; decide, by show (0 : Int) ≤ 3; decide⟩
  | succ k => exact h.get k
theorem Turns.some {us : List Int} {c : Nat} (h : Turns us c) : ∃ j, j < c ∧ uv us j ≠ 0 := by
  obtain ⟨x, hx, ne⟩ := h.ne
  obtain ⟨j, hj, e⟩ := List.getElem_of_mem hx
  refine ⟨j, by rw [← h.len]; exact hj, ?_⟩
  unfold uv
  rw [List.getD_eq_getElem?_getD, List.getElem?_eq_getElem hj]
  show ((us[j] : Int) : Rat) ≠ 0
  rw [e]
  exact ratInt_ne ne
theorem sq_small {x : Int} (h : -6 ≤ x ∧ x ≤ 6) : 0 ≤ x * x ∧ x * x ≤ 36 := by
  obtain ⟨a, b⟩ := h
  have := Int.mul_nonneg (show 0 ≤ 6 - x by omega) (show 0 ≤ x + 6 by omega)
  have e : (6 - x) * (x + 6) = 36 - x * x := by
    rw [Int.sub_mul, Int.mul_add, Int.mul_add]
    omega
  rw [e] at this
  refine ⟨?_, by omega⟩
  rcases Int.le_total 0 x with q | q
  · exact Int.mul_nonneg q q
  · have := Int.mul_nonneg (show 0 ≤ -x by omega) (show 0 ≤ -x by omega)
    rw [Int.neg_mul_neg] at this
    exact this
theorem gs_sq {x : Int} (h : -6 ≤ x ∧ x ≤ 6) : GS 6 (((x : Int) : Rat) * ((x : Int) : Rat)) := by
  obtain ⟨a, b⟩ := sq_small h
  refine ⟨x * x, 1, by decide, ?_, by omega, by decide⟩
  rw [Rat.intCast_mul]
  show _ * 1 = _
  grind
theorem kf_size {dd ss : List Fr} {us : List Int} (h : LN dd ss) (sq : Small ss) (T : Turns us dd.length) : ∀ k, k ≤ dd.length + 1 → GS (1 + 13 * k) (kf (jv ss) (wv us) k)
  | 0, _ => ⟨0, 1, by decide, (by show (0 : Rat) * 1 = 0; decide +kernel), by decide, by decide⟩
  | k + 1, hk => by
    have g := kf_size h sq T k (by omega)
    obtain ⟨C, hC, eC, c, d, _⟩ := h.s_get (i := k) (by rw [h.len]; omega)
    have e : wv us (k + 1) - wv us k = (((0 :: us).getD (k + 1) 0 - (0 :: us).getD k 0 : Int) : Rat) := by
      rw [Rat.intCast_sub]
      rfl
    have g2 := (gs_j hC sq c d).mul (gs_sq (x := (0 :: us).getD (k + 1) 0 - (0 :: us).getD k 0) (by have := T.getW (k + 1); have := T.getW k; omega))
    rw [← e] at g2
    exact (g.add g2).up (by omega)
theorem jf_size {dd ss : List Fr} {us : List Int} (h : LN dd ss) (sd : Small dd) (T : Turns us dd.length) : ∀ k, k ≤ dd.length → GS (1 + 13 * k) (jf (jv dd) (uv us) k)
  | 0, _ => ⟨0, 1, by decide, (by show (0 : Rat) * 1 = 0; decide +kernel), by decide, by decide⟩
  | k + 1, hk => by
    have g := jf_size h sd T k (by omega)
    obtain ⟨C, hC, eC, c, d, _⟩ := h.d_get (i := k) (by omega)
    have g2 := (gs_j hC sd c (by omega)).mul (gs_sq (x := us.getD k 0) (by have := T.get k; omega))
    exact (g.add g2).up (by omega)
/-- rows of pivots -/
structure PivAt (dd ss : List Fr) (p : Fr) (i : Nat) (ps : List Fr) : Prop where
  len : ps.length = i
  ok : ∀ j, j < i → FOk (ps.getD j (0, 1)) ∧ (ps.getD j (0, 1)).1 ≠ 0 ∧ val (ps.getD j (0, 1)) = pv (jv dd) (jv ss) (val p) j
theorem PivAt.ne {dd ss : List Fr} {p : Fr} {i : Nat} {ps : List Fr} (h : PivAt dd ss p i ps) : ∀ j, j < i → pv (jv dd) (jv ss) (val p) j ≠ 0 := fun j hj => by
  obtain ⟨a, b, c⟩ := h.ok j hj
  rw [← c]
  intro z
  exact b ((val_pos a.1).2.2.mp z)
theorem PivAt.push {dd ss : List Fr} {p : Fr} {i : Nat} {ps : List Fr} (h : PivAt dd ss p i ps) {b : Fr} (f : FOk b) (n : b.1 ≠ 0) (v : val b = pv (jv dd) (jv ss) (val p) i) : PivAt dd ss p (i + 1) (ps ++ [b]) := by
  refine ⟨by simp [h.len], fun j hj => ?_⟩
  by_cases q : j < i
  · rw [List.getD_eq_getElem?_getD, List.getElem?_append_left (by rw [h.len]; exact q), ← List.getD_eq_getElem?_getD]
    exact h.ok j q
  · obtain rfl : j = i := by omega
    rw [List.getD_eq_getElem?_getD, List.getElem?_append_right (by rw [h.len]; omega), h.len, Nat.sub_self]
    exact ⟨f, n, v⟩
theorem PivAt.negs {dd ss : List Fr} {p : Fr} {i : Nat} {ps : List Fr} (h : PivAt dd ss p i ps) : ∀ k, k ≤ i → ((ps.take k).filter fun x => decide (x.1 < 0)).length = negs (jv dd) (jv ss) (val p) k
  | 0, _ => rfl
  | k + 1, hk => by
    obtain ⟨a, b, c⟩ := h.ok k (by omega)
    have e : ps[k]? = some (ps.getD k (0, 1)) := by
      rw [List.getD_eq_getElem?_getD, List.getElem?_eq_getElem (by rw [h.len]; omega)]
      rfl
    rw [List.take_add_one, e, List.filter_append, List.length_append, PivAt.negs h k (by omega)]
    show _ = Mx.negs (jv dd) (jv ss) (val p) k + if pv (jv dd) (jv ss) (val p) k < 0 then 1 else 0
    have vp := (val_pos a.1).2.1
    congr 1
    rw [← c]
    by_cases q : (ps.getD k (0, 1)).1 < 0
    · rw [if_pos (by grind)]
      show ([ps.getD k (0, 1)].filter _).length = 1
      rw [List.filter_cons_of_pos (by simpa using q)]
      rfl
    · rw [if_neg (by have := vp.mpr (by omega); grind)]
      show ([ps.getD k (0, 1)].filter _).length = 0
      rw [List.filter_cons_of_neg (by simpa using q)]
      rfl
end Mx
namespace Mx
open PySem PySem.Spec PyProof.Rows L2 DL
theorem GS.neg {e : Nat} {v : Rat} (g : GS e v) : GS e (-v) := by
  obtain ⟨a, b, hb, e1, ha, hb2⟩ := g
  refine ⟨-a, b, hb, ?_, by rw [Int.natAbs_neg]; exact ha, hb2⟩
  rw [Rat.intCast_neg, ← e1]
  grind
theorem GS.sub {e f : Nat} {u v : Rat} (g : GS e u) (h : GS f v) : GS (e + f + 1) (u - v) := by
  have := g.add h.neg
  rw [show u - v = u + -v by grind]
  exact this
theorem GS.divN {e f : Nat} {u v : Rat} (g : GS e u) (h : GS f v) (hv : v ≠ 0) : GS (e + f) (u / v) := by
  rcases Rat.le_total (a := 0) (b := v) with q | q
  · exact g.div h (by grind)
  · have := (g.div h.neg (by grind)).neg
    rw [show u / v = -(u / -v) by grind]
    exact this
theorem val_int (n : Int) : val (n, 1) = (n : Rat) := by
  unfold val
  show (n : Rat) / 1 = n
  grind
theorem fok_zero : FOk (0, 1) := ⟨by decide, by decide⟩
/-- sizes of pivots -/
theorem pv_size {dd ss : List Fr} (h : LN dd ss) (sd : Small dd) (sq : Small ss) {p : Rat} (hp : GS 400 p) {i : Nat} (hi : i < dd.length) (hne : ∀ j, j < i → pv (jv dd) (jv ss) p j ≠ 0) : GS 3400 (pv (jv dd) (jv ss) p i) := by
  have n8 := h.c8
  obtain ⟨a, b⟩ := pv_row (J := jv dd) (K := jv ss) (p := p) i (fun j h1 h2 => h.kpos h1 (by omega)) hne
  obtain ⟨C, hC, eC, c, d, _⟩ := h.s_get (i := i + 1) (by rw [h.len]; omega)
  have g := ((rv_all h sd sq hp i hi).2.quot a).add (gs_j hC sq c d)
  rw [b]
  exact g.up (by omega)
section
variable {K : PySem.W.Frag} {B : Bs} {G : List Hp} {L : List Addr} {Γ : List Sl} {t : TS} {P : PD}
/-- what two ways of a statement have in common -/
theorem st_join (J : List Addr → List Sl → Prop) (h : StP K B G L Γ t { P with nx := J }) (hJ : ∀ L2 Γ2, J L2 Γ2 → P.nx L2 Γ2) : StP K B G L Γ t P := fun σ H D E M =>
  h σ H D E ⟨fun L2 Γ2 σ2 H2 q E2 => M.nx _ _ _ _ (hJ _ _ q) E2, M.rt, M.bk, M.ct⟩
end
theorem cmp_inj {a b c d : List Fr} {k k' : Nat} {x y : Fr} (h : [lineD a b, .int (k : Int), frD x] = [lineD c d, .int (k' : Int), frD y]) : a = c ∧ b = d ∧ k = k' ∧ x = y := by
  simp only [List.cons.injEq, and_true, PyData.int.injEq] at h
  obtain ⟨h1, h2, h3⟩ := h
  obtain ⟨rfl, rfl⟩ := lineD_inj (a := a) (b := b) (c := c) (d := d) (by rw [h1])
  exact ⟨rfl, rfl, by omega, frD_inj h3⟩
theorem lineU_inj {a b c d : List Fr} {u v : List Int} (h : [lineD a b, PyData.list (u.map .int)] = [lineD c d, PyData.list (v.map .int)]) : a = c ∧ b = d ∧ u = v := by
  simp only [List.cons.injEq, and_true, PyData.list.injEq] at h
  obtain ⟨h1, h2⟩ := h
  obtain ⟨rfl, rfl⟩ := lineD_inj (a := a) (b := b) (c := c) (d := d) (by rw [h1])
  exact ⟨rfl, rfl, map_int_inj h2⟩
theorem at_last {α : Type} (xs : List α) {n : Nat} (h : xs.length = n + 1) : atI xs (-1) = xs[n]? := by
  unfold atI ixN
  rw [if_neg (by decide)]
  rw [if_pos (by omega)]
  show xs[_]? = _
  congr 1
  omega
end Mx
namespace Mx
open PySem PySem.Spec PyProof.Rows L2 DL
/-! ### a disc held: the counts of both parts -/
def pst (J K : Nat → Rat) (p : Rat) (i : Nat) (s : Nat × Rat × Rat) : Nat × Rat × Rat :=
  if s.2.1 + (s.2.2 - p * J i * s.2.1) / K (i + 1) < 0 then (s.1 + 1, -(s.2.1 + (s.2.2 - p * J i * s.2.1) / K (i + 1)), -(s.2.2 - p * J i * s.2.1)) else (s.1, s.2.1 + (s.2.2 - p * J i * s.2.1) / K (i + 1), s.2.2 - p * J i * s.2.1)
theorem ph_pst (J K : Nat → Rat) (p : Rat) (i : Nat) : ph J K p (i + 1) = pst J K p i (ph J K p i) := rfl
theorem pst_hp {J K : Nat → Rat} {p : Rat} {i : Nat} {s : Nat × Rat × Rat} (h : hp s.2.1 s.2.2) (hk : 0 < K (i + 1)) : hp (pst J K p i s).2.1 (pst J K p i s).2.2 := by
  have hki := Rat.inv_pos.mpr hk
  have t := hp_turn (hp_shear (c := p * J i) h) hki
  show hp (if _ then _ else _ : Nat × Rat × Rat).2.1 (if _ then _ else _ : Nat × Rat × Rat).2.2
  rw [Rat.div_def]
  split
  · exact t.1 (by assumption)
  · exact t.2 (by assumption)
theorem pst_le {J K : Nat → Rat} {p : Rat} {i : Nat} {s t : Nat × Rat × Rat} (hs : hp s.2.1 s.2.2) (ht : hp t.2.1 t.2.2) (ih : le s t) (hk0 : 0 < K (i + 1)) : le (pst J K p i s) (pst J K p i t) := by
  have hk := Rat.inv_pos.mpr hk0
  unfold pst
  rw [Rat.div_def, Rat.div_def]
  obtain ⟨N, x, y⟩ := s
  obtain ⟨M, x', y'⟩ := t
  simp only at *
  have hs2 := hp_shear (c := p * J i) hs
  have ht2 := hp_shear (c := p * J i) ht
  generalize hY : y - p * J i * x = Y at *
  generalize hY' : y' - p * J i * x' = Y' at *
  have cr : x * y' - y * x' ≤ 0 → x * Y' - Y * x' ≤ 0 := fun c => by
    rw [← hY, ← hY']
    grind
  unfold le
  rcases ih with h | ⟨e, h⟩
  · have h' : N < M := h
    by_cases q1 : x + Y * (K (i + 1))⁻¹ < 0
    · rw [if_pos q1]
      by_cases q2 : x' + Y' * (K (i + 1))⁻¹ < 0
      · rw [if_pos q2]
        exact .inl (by show N + 1 < M + 1; omega)
      · rw [if_neg q2]
        rcases Nat.lt_or_ge (N + 1) M with z | z
        · exact .inl z
        · exact .inr ⟨by show N + 1 = M; omega, cross_over hs2 ht2 hk q1 q2⟩
    · rw [if_neg q1]
      by_cases q2 : x' + Y' * (K (i + 1))⁻¹ < 0
      · rw [if_pos q2]
        exact .inl (by show N < M + 1; omega)
      · rw [if_neg q2]
        exact .inl h'
  · have e' : N = M := e
    have c := cr h
    by_cases q1 : x + Y * (K (i + 1))⁻¹ < 0
    · rw [if_pos q1, if_pos (cross_turn hs2 ht2 c hk q1)]
      refine .inr ⟨by show N + 1 = M + 1; omega, ?_⟩
      show -(x + Y * (K (i + 1))⁻¹) * -Y' - -Y * -(x' + Y' * (K (i + 1))⁻¹) ≤ 0
      grind
    · rw [if_neg q1]
      by_cases q2 : x' + Y' * (K (i + 1))⁻¹ < 0
      · rw [if_pos q2]
        exact .inl (by show N < M + 1; omega)
      · rw [if_neg q2]
        refine .inr ⟨e', ?_⟩
        show (x + Y * (K (i + 1))⁻¹) * Y' - Y * (x' + Y' * (K (i + 1))⁻¹) ≤ 0
        grind
def frm (J K : Nat → Rat) (p : Rat) (j : Nat) : Nat → Nat × Rat × Rat → Nat × Rat × Rat
  | 0, s => s
  | d + 1, s => pst J K p (j + d) (frm J K p j d s)
def fini (J K : Nat → Rat) (p : Rat) (n : Nat) (s : Nat × Rat × Rat) : Nat := s.1 + if K (n + 1) * s.2.1 + (s.2.2 - p * J n * s.2.1) < 0 then 1 else 0
theorem cnt_fini (J K : Nat → Rat) (p : Rat) (n : Nat) : cnt J K p n = fini J K p n (ph J K p n) := rfl
theorem ph_frm (J K : Nat → Rat) (p : Rat) (j : Nat) : ∀ d, ph J K p (j + d) = frm J K p j d (ph J K p j)
  | 0 => rfl
  | d + 1 => by
    show pst J K p (j + d) (ph J K p (j + d)) = pst J K p (j + d) (frm J K p j d (ph J K p j))
    rw [ph_frm J K p j d]
theorem frm_first (J K : Nat → Rat) (p : Rat) (j : Nat) (s : Nat × Rat × Rat) : ∀ d, frm J K p j (d + 1) s = frm J K p (j + 1) d (pst J K p j s)
  | 0 => rfl
  | d + 1 => by
    show pst J K p (j + (d + 1)) (frm J K p j (d + 1) s) = pst J K p (j + 1 + d) (frm J K p (j + 1) d (pst J K p j s))
    rw [frm_first J K p j s d, show j + (d + 1) = j + 1 + d by omega]
theorem frm_hp {J K : Nat → Rat} {p : Rat} {j : Nat} {s : Nat × Rat × Rat} (h : hp s.2.1 s.2.2) : ∀ d, (∀ i, j < i → i ≤ j + d → 0 < K i) → hp (frm J K p j d s).2.1 (frm J K p j d s).2.2
  | 0, _ => h
  | d + 1, hK => pst_hp (frm_hp h d fun i a b => hK i a (by omega)) (hK (j + d + 1) (by omega) (by omega))
theorem frm_le {J K : Nat → Rat} {p : Rat} {j : Nat} {s t : Nat × Rat × Rat} (hs : hp s.2.1 s.2.2) (ht : hp t.2.1 t.2.2) (h : le s t) : ∀ d, (∀ i, j < i → i ≤ j + d → 0 < K i) → le (frm J K p j d s) (frm J K p j d t)
  | 0, _ => h
  | d + 1, hK => pst_le (frm_hp hs d fun i a b => hK i a (by omega)) (frm_hp ht d fun i a b => hK i a (by omega)) (frm_le hs ht h d fun i a b => hK i a (by omega)) (hK (j + d + 1) (by omega) (by omega))
theorem fini_le {J K : Nat → Rat} {p : Rat} {n : Nat} {s t : Nat × Rat × Rat} (hs : hp s.2.1 s.2.2) (ht : hp t.2.1 t.2.2) (h : le s t) (hn : 0 ≤ K (n + 1)) : fini J K p n s ≤ fini J K p n t := by
  obtain ⟨N, x, y⟩ := s
  obtain ⟨M, x', y'⟩ := t
  show N + (if K (n + 1) * x + (y - p * J n * x) < 0 then 1 else 0) ≤ M + (if K (n + 1) * x' + (y' - p * J n * x') < 0 then 1 else 0)
  rcases h with h | ⟨e, h⟩
  · have h' : N < M := h
    split <;> split <;> omega
  · have e' : N = M := e
    by_cases q1 : K (n + 1) * x + (y - p * J n * x) < 0
    · have c : x * (y' - p * J n * x') - (y - p * J n * x) * x' ≤ 0 := by
        have h2 : x * y' - y * x' ≤ 0 := h
        grind
      rw [if_pos q1, if_pos (cross_end (hp_shear hs) (hp_shear ht) c hn q1)]
      omega
    · rw [if_neg q1]
      omega
theorem pst_shift (J K : Nat → Rat) (p : Rat) (i c : Nat) (s : Nat × Rat × Rat) : pst J K p i (s.1 + c, s.2) = ((pst J K p i s).1 + c, (pst J K p i s).2) := by
  show (if _ then (s.1 + c + 1, _) else (s.1 + c, _) : Nat × Rat × Rat) = ((if _ then _ else _ : Nat × Rat × Rat).1 + c, (if _ then _ else _ : Nat × Rat × Rat).2)
  split
  · show (s.1 + c + 1, _) = (s.1 + 1 + c, _)
    rw [Nat.add_right_comm]
  · rfl
theorem frm_shift (J K : Nat → Rat) (p : Rat) (j c : Nat) (s : Nat × Rat × Rat) : ∀ d, frm J K p j d (s.1 + c, s.2) = ((frm J K p j d s).1 + c, (frm J K p j d s).2)
  | 0 => rfl
  | d + 1 => by
    show pst J K p (j + d) (frm J K p j d (s.1 + c, s.2)) = _
    rw [frm_shift J K p j c s d]
    exact pst_shift J K p (j + d) c _
theorem fini_shift (J K : Nat → Rat) (p : Rat) (n c : Nat) (s : Nat × Rat × Rat) : fini J K p n (s.1 + c, s.2) = fini J K p n s + c := by
  show s.1 + c + (if K (n + 1) * s.2.1 + (s.2.2 - p * J n * s.2.1) < 0 then 1 else 0) = s.1 + (if K (n + 1) * s.2.1 + (s.2.2 - p * J n * s.2.1) < 0 then 1 else 0) + c
  omega
theorem frm_sub {J K J' K' : Nat → Rat} {p : Rat} {j : Nat} (s : Nat × Rat × Rat) : ∀ d, (∀ i, i < d → J' i = J (j + i)) → (∀ i, i ≤ d → K' i = K (j + i)) → frm J K p j d s = frm J' K' p 0 d s
  | 0, _, _ => rfl
  | d + 1, hJ, hK => by
    show pst J K p (j + d) (frm J K p j d s) = pst J' K' p (0 + d) (frm J' K' p 0 d s)
    rw [frm_sub s d (fun i hi => hJ i (by omega)) (fun i hi => hK i (by omega)), Nat.zero_add]
    unfold pst
    rw [hJ d (by omega), hK (d + 1) (by omega)]
    rfl
/-- the part ahead -/
theorem held_left {J K : Nat → Rat} {p : Rat} (k : Nat) (hk : 0 < K (k + 1)) : cnt J K p k = (ph J K p (k + 1)).1 := by
  have e : K (k + 1) * (ph J K p k).2.1 + ((ph J K p k).2.2 - p * J k * (ph J K p k).2.1) = K (k + 1) * ((ph J K p k).2.1 + ((ph J K p k).2.2 - p * J k * (ph J K p k).2.1) / K (k + 1)) := by
    generalize (ph J K p k).2.2 - p * J k * (ph J K p k).2.1 = Y
    have := mul_div' (Y := Y) hk
    grind
  show (ph J K p k).1 + (if K (k + 1) * (ph J K p k).2.1 + ((ph J K p k).2.2 - p * J k * (ph J K p k).2.1) < 0 then 1 else 0) = (if (ph J K p k).2.1 + ((ph J K p k).2.2 - p * J k * (ph J K p k).2.1) / K (k + 1) < 0 then _ else _ : Nat × Rat × Rat).1
  rw [e]
  generalize (ph J K p k).2.1 + ((ph J K p k).2.2 - p * J k * (ph J K p k).2.1) / K (k + 1) = X
  by_cases q : X < 0
  · have := Rat.mul_pos hk (show 0 < -X by grind)
    rw [if_pos q, if_pos (by grind)]
  · have := Rat.mul_nonneg (Rat.le_of_lt hk) (show 0 ≤ X by grind)
    rw [if_neg q, if_neg (by grind)]
    rfl
/-- the last disc held -/
theorem held_last (J K : Nat → Rat) (p : Rat) (n : Nat) : (ph J K p n).1 ≤ cnt J K p n ∧ cnt J K p n ≤ (ph J K p n).1 + 1 := by
  rw [cnt_fini]
  unfold fini
  split <;> omega
/-- the part behind -/
theorem held_right {J K J' K' : Nat → Rat} {p : Rat} {n k : Nat} (hkn : k < n) (hK : ∀ j, 0 < j → j ≤ n → 0 < K j) (hn : 0 ≤ K (n + 1)) (eJ : ∀ i, J' i = J (k + 1 + i)) (eK : ∀ i, K' i = K (k + 1 + i)) :
    (ph J K p k).1 + cnt J' K' p (n - k - 1) ≤ cnt J K p n ∧ cnt J K p n ≤ (ph J K p k).1 + cnt J' K' p (n - k - 1) + 1 := by
  obtain ⟨d, rfl⟩ : ∃ d, n = k + (d + 1) := ⟨n - k - 1, by omega⟩
  rw [show k + (d + 1) - k - 1 = d by omega]
  have hs := ph_hp (J := J) (p := p) k fun j a b => hK j a (by omega)
  have k0 := hK (k + 1) (by omega) (by omega)
  generalize hS : ph J K p k = s at *
  have ha : hp (0 : Rat) (-K (k + 1)) := .inr ⟨rfl, by grind⟩
  have le1 : le s (s.1, 0, -K (k + 1)) := .inr ⟨rfl, by
    show s.2.1 * -K (k + 1) - s.2.2 * 0 ≤ 0
    have := Rat.mul_nonneg (hp_nn hs) (Rat.le_of_lt k0)
    grind⟩
  have le2 : le (s.1, 0, -K (k + 1)) (s.1 + 1, s.2) := .inl (Nat.lt_succ_self _)
  have hKd : ∀ i, k < i → i ≤ k + (d + 1) → 0 < K i := fun i a b => hK i (by omega) b
  have f1 := fini_le (n := k + (d + 1)) (frm_hp (p := p) (J := J) hs (d + 1) hKd) (frm_hp (p := p) (J := J) (s := (s.1, 0, -K (k + 1))) ha (d + 1) hKd) (frm_le (J := J) (p := p) (s := s) (t := (s.1, 0, -K (k + 1))) hs ha le1 (d + 1) hKd) hn (J := J) (p := p)
  have f2 := fini_le (n := k + (d + 1)) (frm_hp (p := p) (J := J) (s := (s.1, 0, -K (k + 1))) ha (d + 1) hKd) (frm_hp (p := p) (J := J) (s := (s.1 + 1, s.2)) hs (d + 1) hKd) (frm_le (J := J) (p := p) (s := (s.1, 0, -K (k + 1))) (t := (s.1 + 1, s.2)) ha hs le2 (d + 1) hKd) hn (J := J) (p := p)
  rw [frm_shift, fini_shift] at f2
  have ec : fini J K p (k + (d + 1)) (frm J K p k (d + 1) s) = cnt J K p (k + (d + 1)) := by
    rw [cnt_fini, ph_frm J K p k (d + 1), hS]
  have ea : fini J K p (k + (d + 1)) (frm J K p k (d + 1) (s.1, 0, -K (k + 1))) = cnt J' K' p d + (s.1 + 1) := by
    have e1 : pst J K p k (s.1, 0, -K (k + 1)) = (0 + (s.1 + 1), 1, K (k + 1)) := by
      have ex : (0 : Rat) + (-K (k + 1) - p * J k * 0) / K (k + 1) = -1 := by grind
      have ey : -(-K (k + 1) - p * J k * 0) = K (k + 1) := by grind
      show (if (0 : Rat) + (-K (k + 1) - p * J k * 0) / K (k + 1) < 0 then (s.1 + 1, -((0 : Rat) + (-K (k + 1) - p * J k * 0) / K (k + 1)), -(-K (k + 1) - p * J k * 0)) else _) = _
      rw [ex, ey, if_pos (by decide +kernel), Nat.zero_add, show -(-1 : Rat) = 1 by decide +kernel]
    have e2 : frm J K p (k + 1) d (0 + (s.1 + 1), 1, K (k + 1)) = ((frm J K p (k + 1) d (0, 1, K (k + 1))).1 + (s.1 + 1), (frm J K p (k + 1) d (0, 1, K (k + 1))).2) := frm_shift J K p (k + 1) (s.1 + 1) (0, 1, K (k + 1)) d
    have e3 : frm J K p (k + 1) d (0, 1, K (k + 1)) = ph J' K' p d := by
      rw [frm_sub (J' := J') (K' := K') _ d (fun i _ => eJ i) (fun i _ => eK i)]
      have e4 := ph_frm J' K' p 0 d
      rw [Nat.zero_add] at e4
      rw [e4]
      show _ = frm J' K' p 0 d (0, 1, K' 0)
      rw [eK 0]
    rw [frm_first, e1, e2, e3, fini_shift]
    have e5 : fini J K p (k + (d + 1)) (ph J' K' p d) = fini J' K' p d (ph J' K' p d) := by
      unfold fini
      rw [eJ d, eK (d + 1), show k + 1 + d = k + (d + 1) by omega, show k + 1 + (d + 1) = k + (d + 1) + 1 by omega]
    rw [e5]
    rfl
  rw [ec] at f1 f2
  rw [ea] at f1 f2
  omega
theorem ph_congr {J K J' K' : Nat → Rat} {p : Rat} : ∀ i, (∀ j, j < i → J' j = J j) → (∀ j, j ≤ i → K' j = K j) → ph J' K' p i = ph J K p i
  | 0, _, hK => by
    show (0, 1, K' 0) = (0, 1, K 0)
    rw [hK 0 (Nat.le_refl _)]
  | i + 1, hJ, hK => by
    rw [ph_pst, ph_pst, ph_congr i (fun j h => hJ j (by omega)) (fun j h => hK j (by omega))]
    unfold pst
    rw [hJ i (by omega), hK (i + 1) (Nat.le_refl _)]
theorem cnt_congr {J K J' K' : Nat → Rat} {p : Rat} (n : Nat) (hJ : ∀ j, j ≤ n → J' j = J j) (hK : ∀ j, j ≤ n + 1 → K' j = K j) : cnt J' K' p n = cnt J K p n := by
  rw [cnt_fini, cnt_fini, ph_congr n (fun j h => hJ j (by omega)) (fun j h => hK j (by omega))]
  unfold fini
  rw [hJ n (Nat.le_refl _), hK (n + 1) (Nat.le_refl _)]

/-! ### parts and changes of lines -/
theorem jv_take {r : List Fr} {m i : Nat} (h : i < m) : jv (r.take m) i = jv r i := by
  unfold jv
  rw [List.getD_eq_getElem?_getD, List.getD_eq_getElem?_getD, List.getElem?_take, if_pos h]
theorem jv_drop (r : List Fr) (m i : Nat) : jv (r.drop m) i = jv r (m + i) := by
  unfold jv
  rw [List.getD_eq_getElem?_getD, List.getD_eq_getElem?_getD, List.getElem?_drop]
theorem LN.ahead {dd ss : List Fr} (h : LN dd ss) {k : Nat} (h0 : 0 < k) (hk : k < dd.length) : LN (dd.take k) (ss.take (k + 1)) := by
  have hl := h.len
  have n8 := h.c8
  refine ⟨by rw [List.length_take]; omega, by rw [List.length_take]; omega, by rw [List.length_take, List.length_take]; omega, fun x hx => h.dok x (List.mem_of_mem_take hx), fun x hx => h.sok x (List.mem_of_mem_take hx), fun i x hi hic hx => ?_⟩
  rw [List.length_take] at hic
  rw [List.getElem?_take, if_pos (by omega)] at hx
  exact h.inn i x hi (by omega) hx
theorem LN.behind {dd ss : List Fr} (h : LN dd ss) {k : Nat} (hk : k + 1 < dd.length) : LN (dd.drop (k + 1)) (ss.drop (k + 1)) := by
  have hl := h.len
  have n8 := h.c8
  refine ⟨by rw [List.length_drop]; omega, by rw [List.length_drop]; omega, by rw [List.length_drop, List.length_drop]; omega, fun x hx => h.dok x (List.mem_of_mem_drop hx), fun x hx => h.sok x (List.mem_of_mem_drop hx), fun i x hi hic hx => ?_⟩
  rw [List.length_drop] at hic
  rw [List.getElem?_drop] at hx
  exact h.inn (k + 1 + i) x (by omega) (by omega) hx
theorem LN.setD {dd ss : List Fr} (h : LN dd ss) (k : Nat) {x : Fr} (f : FOk x) (h0 : 0 < x.1) (h1 : x.1 < 18446744073709551616) (h2 : x.2 < 18446744073709551616) : LN (dd.set k x) ss := by
  refine ⟨by rw [List.length_set]; exact h.c1, by rw [List.length_set]; exact h.c8, by rw [List.length_set]; exact h.len, fun y hy => ?_, h.sok, fun i y hi hic hy => h.inn i y hi (by rw [List.length_set] at hic; exact hic) hy⟩
  rcases List.mem_or_eq_of_mem_set hy with q | q
  · exact h.dok y q
  · rw [q]
    exact ⟨f, h0, h1, h2⟩
theorem LN.setS {dd ss : List Fr} (h : LN dd ss) (k : Nat) {x : Fr} (f : FOk x) (h0 : 0 ≤ x.1) (h1 : x.1 < 18446744073709551616) (h2 : x.2 < 18446744073709551616) (h3 : 0 < k → k < dd.length → 0 < x.1) : LN dd (ss.set k x) := by
  refine ⟨h.c1, h.c8, by rw [List.length_set]; exact h.len, h.dok, fun y hy => ?_, fun i y hi hic hy => ?_⟩
  · rcases List.mem_or_eq_of_mem_set hy with q | q
    · exact h.sok y q
    · rw [q]
      exact ⟨f, h0, h1, h2⟩
  · by_cases e : i = k
    · subst e
      rw [List.getElem?_set_self (by rw [h.len]; omega)] at hy
      rw [← Option.some.inj hy]
      exact h3 hi hic
    · rw [List.getElem?_set_ne (Ne.symm e)] at hy
      exact h.inn i y hi hic hy
theorem filt2 (a b c d : List Fr) : ([(a, b), (c, d)] : List (List Fr × List Fr)).filter (fun q => decide (q.1 ≠ [])) = (if a = [] then [] else [(a, b)]) ++ (if c = [] then [] else [(c, d)]) := by
  by_cases x : a = [] <;> by_cases y : c = [] <;> simp [x, y]
/-- the counts of the parts that have discs -/
def partsOf (dd ss : List Fr) (k : Nat) : List (List Fr × List Fr) := [(dd.take k, ss.take (k + 1)), (dd.drop (k + 1), ss.drop (k + 1))].filter fun q => decide (q.1 ≠ [])
theorem parts_few {dd ss : List Fr} (h : LN dd ss) {k : Nat} (hk : k < dd.length) (p : Rat) :
    ∃ c : Nat, ((partsOf dd ss k).map fun q => ((cnt (jv q.1) (jv q.2) p (q.1.length - 1) : Nat) : Int)).sum = (c : Int) ∧ c ≤ cnt (jv dd) (jv ss) p (dd.length - 1) ∧ cnt (jv dd) (jv ss) p (dd.length - 1) ≤ c + 1 := by
  have hl := h.len
  have hK : ∀ j, 0 < j → j ≤ dd.length - 1 → 0 < jv ss j := fun j a b => h.kpos a (by omega)
  have hn : 0 ≤ jv ss (dd.length - 1 + 1) := by rw [show dd.length - 1 + 1 = dd.length by omega]; exact h.knn (by omega)
  have left : 0 < k → cnt (jv (dd.take k)) (jv (ss.take (k + 1))) p ((dd.take k).length - 1) = (ph (jv dd) (jv ss) p k).1 := fun h0 => by
    obtain ⟨j, rfl⟩ : ∃ j, k = j + 1 := ⟨k - 1, by omega⟩
    rw [List.length_take, Nat.min_eq_left (by omega), Nat.add_sub_cancel, cnt_congr j (fun i hi => jv_take (by omega)) (fun i hi => jv_take (by omega))]
    exact held_left j (h.kpos (by omega) hk)
  have tk : dd.take k = [] ↔ k = 0 := by
    rw [← List.length_eq_zero_iff, List.length_take]
    omega
  have dk : dd.drop (k + 1) = [] ↔ k + 1 = dd.length := by
    rw [← List.length_eq_zero_iff, List.length_drop]
    omega
  have right : k + 1 < dd.length → (ph (jv dd) (jv ss) p k).1 + cnt (jv (dd.drop (k + 1))) (jv (ss.drop (k + 1))) p ((dd.drop (k + 1)).length - 1) ≤ cnt (jv dd) (jv ss) p (dd.length - 1) ∧ cnt (jv dd) (jv ss) p (dd.length - 1) ≤ (ph (jv dd) (jv ss) p k).1 + cnt (jv (dd.drop (k + 1))) (jv (ss.drop (k + 1))) p ((dd.drop (k + 1)).length - 1) + 1 := fun hk2 => by
    have := held_right (J := jv dd) (K := jv ss) (J' := jv (dd.drop (k + 1))) (K' := jv (ss.drop (k + 1))) (p := p) (n := dd.length - 1) (k := k) (by omega) hK hn (fun i => jv_drop dd (k + 1) i) (fun i => jv_drop ss (k + 1) i)
    rw [List.length_drop]
    rw [show dd.length - (k + 1) - 1 = dd.length - 1 - k - 1 by omega]
    exact this
  have last : k + 1 = dd.length → (ph (jv dd) (jv ss) p k).1 ≤ cnt (jv dd) (jv ss) p (dd.length - 1) ∧ cnt (jv dd) (jv ss) p (dd.length - 1) ≤ (ph (jv dd) (jv ss) p k).1 + 1 := fun e => by
    rw [show dd.length - 1 = k by omega]
    exact held_last _ _ _ _
  unfold partsOf
  by_cases q1 : k = 0 <;> by_cases q2 : k + 1 = dd.length
  · have e1 := tk.mpr q1
    have e2 := dk.mpr q2
    refine ⟨0, ?_, ?_⟩
    · rw [filt2, if_pos e1, if_pos e2]
      rfl
    · have := last q2
      rw [q1] at this
      have z : (ph (jv dd) (jv ss) p 0).1 = 0 := rfl
      omega
  · have e1 := tk.mpr q1
    have e2 : ¬ dd.drop (k + 1) = [] := fun z => q2 (dk.mp z)
    refine ⟨cnt (jv (dd.drop (k + 1))) (jv (ss.drop (k + 1))) p ((dd.drop (k + 1)).length - 1), ?_, ?_⟩
    · rw [filt2, if_pos e1, if_neg e2]
      simp only [List.nil_append, List.append_nil, List.cons_append, List.map_cons, List.map_nil, List.sum_cons, List.sum_nil]
      omega
    · have := right (by omega)
      rw [q1] at this ⊢
      have z : (ph (jv dd) (jv ss) p 0).1 = 0 := rfl
      omega
  · have e1 : ¬ dd.take k = [] := fun z => q1 (tk.mp z)
    have e2 := dk.mpr q2
    refine ⟨cnt (jv (dd.take k)) (jv (ss.take (k + 1))) p ((dd.take k).length - 1), ?_, ?_⟩
    · rw [filt2, if_neg e1, if_pos e2]
      simp only [List.nil_append, List.append_nil, List.cons_append, List.map_cons, List.map_nil, List.sum_cons, List.sum_nil]
      omega
    · have := last q2
      rw [left (by omega)]
      exact this
  · have e1 : ¬ dd.take k = [] := fun z => q1 (tk.mp z)
    have e2 : ¬ dd.drop (k + 1) = [] := fun z => q2 (dk.mp z)
    refine ⟨cnt (jv (dd.take k)) (jv (ss.take (k + 1))) p ((dd.take k).length - 1) + cnt (jv (dd.drop (k + 1))) (jv (ss.drop (k + 1))) p ((dd.drop (k + 1)).length - 1), ?_, ?_⟩
    · rw [filt2, if_neg e1, if_neg e2]
      simp only [List.nil_append, List.append_nil, List.cons_append, List.map_cons, List.map_nil, List.sum_cons, List.sum_nil]
      omega
    · have := right (by omega)
      rw [left (by omega)]
      exact this

/-! ### what can be shown -/
def Sho (e c : Nat) (d : PyData) : Prop := d.showable = true ∧ d.hasDict = false ∧ d.depth ≤ e ∧ cost d ≤ c
theorem sho_up {e c e' c' : Nat} {d : PyData} (h : Sho e c d) (he : e ≤ e') (hc : c ≤ c') : Sho e' c' d := ⟨h.1, h.2.1, Nat.le_trans h.2.2.1 he, Nat.le_trans h.2.2.2 hc⟩
theorem sho_int {i : Int} (h : i.natAbs < 2 ^ 1900) : Sho 0 1921 (.int i) := by
  refine ⟨?_, rfl, Nat.le_refl _, Nat.le_refl _⟩
  show decide (i.natAbs.log2 < 1920) = true
  have := lg h
  exact decide_eq_true (by omega)
theorem sho_all {e c : Nat} : ∀ {ds : List PyData}, (∀ d ∈ ds, Sho e c d) → PyData.showableAll ds = true ∧ PyData.hasDictAll ds = false ∧ PyData.depthAll ds ≤ e ∧ costAll ds ≤ (c + 2) * ds.length
  | [], _ => by simp [PyData.showableAll, PyData.hasDictAll, PyData.depthAll, costAll]
  | d :: ds, h => by
    obtain ⟨a, b, c', d'⟩ := sho_all (ds := ds) fun x hx => h x (List.mem_cons_of_mem _ hx)
    obtain ⟨p, q, r, s⟩ := h d (List.mem_cons_self ..)
    simp only [PyData.showableAll, PyData.hasDictAll, PyData.depthAll, costAll, a, b, p, q, List.length_cons]
    refine ⟨rfl, rfl, by omega, ?_⟩
    rw [Nat.mul_add]
    omega
theorem sho_tup {e c : Nat} {ds : List PyData} (h : ∀ d ∈ ds, Sho e c d) : Sho (e + 1) ((c + 2) * ds.length + 3) (.tuple ds) := by
  obtain ⟨a, b, c', d'⟩ := sho_all h
  simp only [Sho, PyData.showable, PyData.hasDict, PyData.depth, cost]
  exact ⟨a, b, by omega, by omega⟩
theorem sho_lst {e c : Nat} {ds : List PyData} (h : ∀ d ∈ ds, Sho e c d) : Sho (e + 1) ((c + 2) * ds.length + 3) (.list ds) := by
  obtain ⟨a, b, c', d'⟩ := sho_all h
  simp only [Sho, PyData.showable, PyData.hasDict, PyData.depth, cost]
  exact ⟨a, b, by omega, by omega⟩
theorem sho_fr {x : Fr} (h1 : x.1.natAbs < 2 ^ 1900) (h2 : x.2.natAbs < 2 ^ 1900) : Sho 1 3849 (frD x) := by
  refine sho_tup (e := 0) (c := 1921) (ds := [.int x.1, .int x.2]) fun d hd => ?_
  simp only [List.mem_cons, List.not_mem_nil, or_false] at hd
  rcases hd with rfl | rfl
  · exact sho_int h1
  · exact sho_int h2
theorem fr_small {x : Fr} (h0 : 0 ≤ x.1) (h1 : x.1 < 18446744073709551616) (h2 : 0 < x.2) (h3 : x.2 < 18446744073709551616) : Sho 1 3849 (frD x) := sho_fr (pow_up (m := 64) (by omega) (by decide)) (pow_up (m := 64) (by omega) (by decide))
theorem sho_line {dd ss : List Fr} (h : LN dd ss) : Sho 3 69400 (lineD dd ss) := by
  have hl := h.len
  have n8 := h.c8
  have a : Sho 2 34662 (.tuple (dd.map frD)) := by
    refine sho_up (sho_tup (e := 1) (c := 3849) fun d hd => ?_) (Nat.le_refl _) (by rw [List.length_map]; omega)
    obtain ⟨x, hx, rfl⟩ := List.mem_map.mp hd
    obtain ⟨f, b, c, e⟩ := h.dok x hx
    exact fr_small (by omega) c f.1 e
  have b : Sho 2 34662 (.tuple (ss.map frD)) := by
    refine sho_up (sho_tup (e := 1) (c := 3849) fun d hd => ?_) (Nat.le_refl _) (by rw [List.length_map]; omega)
    obtain ⟨x, hx, rfl⟩ := List.mem_map.mp hd
    obtain ⟨f, b, c, e⟩ := h.sok x hx
    exact fr_small b c f.1 e
  refine sho_up (sho_tup (e := 2) (c := 34662) (ds := [.tuple (dd.map frD), .tuple (ss.map frD)]) fun d hd => ?_) (Nat.le_refl _) (by show (34662 + 2) * 2 + 3 ≤ 69400; decide)
  simp only [List.mem_cons, List.not_mem_nil, or_false] at hd
  rcases hd with rfl | rfl
  · exact a
  · exact b

/-! ### slices, sums, being in a list -/
theorem cutD_drop (ds : List PyData) {m : Nat} (h : m ≤ ds.length) : DL.cutD ds (some (m : Int)) none = ds.drop m := by
  unfold DL.cutD
  rw [HT.sIx_none, HT.sIx_nat, Nat.min_eq_left h]
  exact List.take_of_length_le (by rw [List.length_drop]; omega)
theorem one_set (r : List Fr) {m : Nat} (h : m < r.length) (x : Fr) : (((r.map frD).take m) ++ [frD x]) ++ (r.map frD).drop (m + 1) = (r.set m x).map frD := by
  rw [List.set_eq_take_append_cons_drop, if_pos h, List.map_append, List.map_cons, List.map_take, List.map_drop, List.append_assoc]
  rfl
section
variable {K : PySem.W.Frag} {B : Bs} {G : List Hp} {L : List Addr} {Γ : List Sl} {k : PyData → Prop}
theorem inV_ints (i : Int) : ∀ ns : List Int, inV (.int i) (ns.map V.int) = decide (i ∈ ns)
  | [] => rfl
  | n :: ns => by
    have ih := inV_ints i ns
    have e : inV (.int i) ((n :: ns).map V.int) = (eqV (.int n) (.int i) || inV (.int i) (ns.map V.int)) := rfl
    rw [e, ih]
    have e2 : eqV (.int n) (.int i) = decide (i = n) := by
      show (n == i) = decide (i = n)
      by_cases q : i = n
      · subst q
        simp
      · rw [decide_eq_false q, beq_eq_false_iff_ne]
        exact fun z => q z.symm
    rw [e2]
    by_cases q : i = n
    · subst q
      simp
    · simp [q]
theorem rok_inI {neg : Bool} {i : Int} {ns : List Int} (hk : k (.bool (if neg then !decide (i ∈ ns) else decide (i ∈ ns)))) : ROk K B G L Γ (rIn K neg) (.int i) (.list (ns.map .int)) k := fun σ H Q v u E d1 d2 q => by
  obtain rfl := dn_int d1
  cases d2 with
  | @lst a xs _ e1 dx =>
    obtain rfl : xs = ns.map V.int := DnA.ints dx
    refine ⟨a, _, rfl, .inl (.inl (.inl (hid_sub _ _ _ _ e1))), rfl, ?_, ?_⟩
    · rw [List.all_map, List.all_eq_true]
      intro _ _
      rfl
    · rw [inV_ints]
      exact q _ _ H (Go.refl E) (.bl _) hk
theorem co_sum {ns : List Int} (hk : k (.int ns.sum)) : COk K B G L Γ (rSum K) [.list (ns.map .int)] k := fun σ H Q vs E d1 q => by
  cases d1 with
  | cons h1 h2 =>
    cases h2
    cases h1 with
    | @lst a xs _ e1 dx =>
      obtain rfl : xs = ns.map V.int := DnA.ints dx
      exact ⟨a, ns, rfl, .inl (.inl (hid_sub _ _ _ _ e1)), q _ _ H (Go.refl E) (.int _) hk⟩
theorem cok_show {d : PyData} {e c : Nat} (h : Sho e c d) (hb : isBox d = true) (he : e < 64) (hc : c ≤ 1000000) (hk : k (.str d.shown)) : COk K B G L Γ (rReprD K) [d] k := cok_repr hb h.1 h.2.1 (Nat.lt_of_le_of_lt h.2.2.1 he) (sz_ok (Nat.le_trans h.2.2.2 hc)) hk
end
end Mx
/-! Slices of rows of fractions; one element otherwise. -/
namespace Mx
open PySem PySem.Spec PyProof.Rows L2 DL
theorem cut_frT (r : List Fr) {m : Nat} (h : m ≤ r.length) : DL.cutD (r.map frD) none (some (m : Int)) = (r.take m).map frD := by
  rw [cutD_take _ (by rw [List.length_map]; exact h), List.map_take]
theorem cut_frD (r : List Fr) {m : Nat} (h : m ≤ r.length) : DL.cutD (r.map frD) (some (m : Int)) none = (r.drop m).map frD := by
  rw [cutD_drop _ (by rw [List.length_map]; exact h), List.map_drop]
section
variable {K : PySem.W.Frag} {B : Bs} {G : List Hp} {L : List Addr} {Γ : List Sl} {te ta : TE} {k : PyData → Prop}
theorem ev_upto {r : List Fr} (h : EvP K B G L Γ ta fun d => d = .tuple (r.map frD) ∧ EvP K B G L Γ te fun e => ∃ m : Nat, e = .int (m : Int) ∧ m ≤ r.length ∧ k (.tuple ((r.take m).map frD))) : EvP K B G L Γ (tSl (rSlX2 K) ta tNoPart (tPart te)) k :=
  ev_sl (h.mono fun d ⟨ed, h2⟩ => eo_no (eo_some (h2.mono fun e ⟨m, ee, hm, hk⟩ => ⟨(m : Int), ee, by
    rw [ed]
    refine so_tup ?_
    rw [cut_frT r hm]
    exact hk⟩)))
theorem ev_from {r : List Fr} (h : EvP K B G L Γ ta fun d => d = .tuple (r.map frD) ∧ EvP K B G L Γ te fun e => ∃ m : Nat, e = .int (m : Int) ∧ m ≤ r.length ∧ k (.tuple ((r.drop m).map frD))) : EvP K B G L Γ (tSl (rSlX2 K) ta (tPart te) tNoPart) k :=
  ev_sl (h.mono fun d ⟨ed, h2⟩ => eo_some (h2.mono fun e ⟨m, ee, hm, hk⟩ => ⟨(m : Int), ee, eo_no (by
    rw [ed]
    refine so_tup ?_
    rw [cut_frD r hm]
    exact hk)⟩))
theorem ev_one {i j m n : Nat} {r : List Fr} {x : Fr} (hi : Γ[i]? = some (.d (.tuple (r.map frD)))) (hj : Γ[j]? = some (.d (.int (n : Int)))) (hm : Γ[m]? = some (.d (frD x))) (hn : n < r.length) (hl : r.length ≤ 100) (hk : k (.tuple ((r.set n x).map frD))) :
    EvP K B G L Γ (tOp (rAddA K) (tOp (rAddA K) (tSl (rSlX2 K) (tVar i) tNoPart (tPart (tVar j))) (tTup (tCons (tVar m) tNil))) (tSl (rSlX2 K) (tVar i) (tPart (tOp (rAddA K) (tVar j) (tC (.int 1)))) tNoPart)) k := by
  refine ev_op (ev_op (ev_upto (r := r) (ev_var hi ⟨rfl, ev_var hj ⟨n, rfl, by omega, ev_tup (ea_cons (ev_var hm (ea_nil ⟨by simp, ro_catT (by simp; omega) ?_⟩)))⟩⟩)))
  refine ev_from (r := r) (ev_var hi ⟨rfl, ev_op (ev_var hj (ev_int (ro_add ⟨n + 1, by rw [show (n : Int) + 1 = ((n + 1 : Nat) : Int) by omega], by omega, ro_catT (by simp; omega) ?_⟩)))⟩)
  rw [← one_set r hn x] at hk
  rw [List.map_take, List.map_drop]
  exact hk
end
theorem lay_frs : ∀ r : List Fr, PyData.canLayAll0 (r.map frD) = true ∧ PyData.depthAll (r.map frD) ≤ 1 ∧ PyData.hasDictAll (r.map frD) = false
  | [] => by simp [PyData.canLayAll0, PyData.depthAll, PyData.hasDictAll]
  | x :: r => by
    obtain ⟨a, b, c⟩ := lay_frs r
    simp [PyData.canLayAll0, PyData.depthAll, PyData.hasDictAll, frD, PyData.canLay0, PyData.depth, PyData.hasDict, a, c] at b ⊢
    omega
theorem row_shaped (r : List Fr) : SeqAt.shaped (.tuple (r.map frD)) = true ∧ (PyData.tuple (r.map frD)).hasDict = false := by
  obtain ⟨a, b, c⟩ := lay_frs r
  refine ⟨?_, by simpa [PyData.hasDict] using c⟩
  unfold SeqAt.shaped
  simp only [PyData.canLay0, PyData.depth, a, Bool.true_and]
  exact decide_eq_true (by omega)
theorem row_nil (r : List Fr) : PyData.eqv (.tuple (r.map frD)) (.tuple []) = decide (r = []) := by
  cases r with
  | nil => rfl
  | cons x r =>
    rw [decide_eq_false (by simp)]
    rfl
theorem row_tru (r : List Fr) : (!(r.map frD).isEmpty) = decide (r ≠ []) := by
  cases r <;> simp
def lineP (q : List Fr × List Fr) : PyData := lineD q.1 q.2
theorem parts_ln {dd ss : List Fr} (h : LN dd ss) {k : Nat} (hk : k < dd.length) : ∀ q ∈ partsOf dd ss k, LN q.1 q.2 ∧ (∀ x ∈ q.1, x ∈ dd) ∧ ∀ x ∈ q.2, x ∈ ss := fun q hq => by
  unfold partsOf at hq
  obtain ⟨hq, hne⟩ := List.mem_filter.mp hq
  have hne := of_decide_eq_true hne
  simp only [List.mem_cons, List.not_mem_nil, or_false] at hq
  rcases hq with rfl | rfl
  · have h0 : 0 < k := by
      rcases Nat.eq_zero_or_pos k with z | z
      · subst z
        exact absurd rfl hne
      · exact z
    exact ⟨h.ahead h0 hk, fun x hx => List.mem_of_mem_take hx, fun x hx => List.mem_of_mem_take hx⟩
  · have h0 : k + 1 < dd.length := by
      rcases Nat.lt_or_ge (k + 1) dd.length with z | z
      · exact z
      · exact absurd (List.drop_eq_nil_of_le z) hne
    exact ⟨h.behind h0, fun x hx => List.mem_of_mem_drop hx, fun x hx => List.mem_of_mem_drop hx⟩
theorem parts_len (dd ss : List Fr) (k : Nat) : (partsOf dd ss k).length ≤ 2 := List.length_filter_le _ _
theorem part_push {xs : List (List Fr × List Fr)} {i : Nat} {q : List Fr × List Fr} (h : xs[i]? = some q) : ((xs.take (i + 1)).filter fun q => decide (q.1 ≠ [])).map lineP = ((xs.take i).filter fun q => decide (q.1 ≠ [])).map lineP ++ if q.1 ≠ [] then [lineP q] else [] := by
  rw [List.take_add_one, h, List.filter_append, List.map_append]
  congr 1
  by_cases z : q.1 ≠ []
  · rw [if_pos z]
    have e : ([q].filter fun q => decide (q.1 ≠ [])) = [q] := by simp [z]
    show ([q].filter fun q => decide (q.1 ≠ [])).map lineP = _
    rw [e]
    rfl
  · rw [if_neg z]
    have z2 : q.1 = [] := Classical.not_not.mp z
    have e : ([q].filter fun q => decide (q.1 ≠ [])) = [] := by simp [z2]
    show ([q].filter fun q => decide (q.1 ≠ [])).map lineP = _
    rw [e]
    rfl
end Mx
/-! Counts of lines beside one another: heavier discs and softer shafts have no fewer slower swings. -/
namespace Mx
theorem sq_nn' (x : Rat) : 0 ≤ x * x := sq_nn x
theorem cross_trans {x y x' y' x2 y2 : Rat} (h1 : hp x y) (h2 : hp x' y') (h3 : hp x2 y2) (a : x * y' - y * x' ≤ 0) (b : x' * y2 - y' * x2 ≤ 0) : x * y2 - y * x2 ≤ 0 := by
  have n1 := hp_nn h1
  have n3 := hp_nn h3
  rcases h2 with q | ⟨q, q2⟩
  · -- x' (x y2 - y x2) = x (x' y2 - y' x2) + x2 (x y' - y x')
    have m1 := Rat.mul_nonneg n1 (show 0 ≤ -(x' * y2 - y' * x2) by grind)
    have m2 := Rat.mul_nonneg n3 (show 0 ≤ -(x * y' - y * x') by grind)
    rcases Classical.em (x * y2 - y * x2 ≤ 0) with z | z
    · exact z
    · have := Rat.mul_pos q (show 0 < x * y2 - y * x2 by grind)
      grind
  · -- x' = 0, y' < 0: then x2 = 0 and y2 < 0
    rw [q] at b
    have m := Rat.mul_nonneg n3 (show 0 ≤ -y' by grind)
    have z0 : y' * x2 = 0 := by grind
    have z2 : x2 = 0 := prod_zero (show y' ≠ 0 by grind) z0
    rcases h3 with q3 | ⟨q3, q4⟩
    · grind
    · rw [z2]
      have := Rat.mul_nonneg n1 (show 0 ≤ -y2 by grind)
      grind
theorem le_trans3 {s t u : Nat × Rat × Rat} (hs : hp s.2.1 s.2.2) (ht : hp t.2.1 t.2.2) (hu : hp u.2.1 u.2.2) (a : le s t) (b : le t u) : le s u := by
  rcases a with a | ⟨a, a2⟩
  · rcases b with b | ⟨b, _⟩
    · exact .inl (Nat.lt_trans a b)
    · exact .inl (by omega)
  · rcases b with b | ⟨b, b2⟩
    · exact .inl (by omega)
    · exact .inr ⟨by omega, cross_trans hs ht hu a2 b2⟩
/-- a step of two states, the second one's turn at least as great -/
theorem turn_le {N M : Nat} {x y x' y' k k' : Rat} (hs : hp x y) (ht : hp x' y') (ih : N < M ∨ (N = M ∧ x * y' - y * x' ≤ 0)) (hk : 0 < k) (hkk : k ≤ k') :
    le (if x + y * k < 0 then (N + 1, -(x + y * k), -y) else (N, x + y * k, y)) (if x' + y' * k' < 0 then (M + 1, -(x' + y' * k'), -y') else (M, x' + y' * k', y')) := by
  have hk' : 0 < k' := by grind
  have hx := hp_nn hs
  have hx' := hp_nn ht
  -- the second state's own turn by k, then by the rest
  have own : le (if x' + y' * k < 0 then (M + 1, -(x' + y' * k), -y') else (M, x' + y' * k, y')) (if x' + y' * k' < 0 then (M + 1, -(x' + y' * k'), -y') else (M, x' + y' * k', y')) := by
    by_cases q1 : x' + y' * k < 0
    · have ny : y' < 0 := by
        rcases Classical.em (y' < 0) with q | q
        · exact q
        · have := Rat.mul_nonneg (show 0 ≤ y' by grind) (Rat.le_of_lt hk)
          grind
      have m := Rat.mul_nonneg (show 0 ≤ k' - k by grind) (show 0 ≤ -y' by grind)
      rw [if_pos q1, if_pos (by grind)]
      refine .inr ⟨rfl, ?_⟩
      show -(x' + y' * k) * -y' - -y' * -(x' + y' * k') ≤ 0
      have m2 := Rat.mul_nonneg (show 0 ≤ k' - k by grind) (sq_nn' y')
      grind
    · rw [if_neg q1]
      by_cases q2 : x' + y' * k' < 0
      · rw [if_pos q2]
        exact .inl (Nat.lt_succ_self _)
      · rw [if_neg q2]
        refine .inr ⟨rfl, ?_⟩
        show (x' + y' * k) * y' - y' * (x' + y' * k') ≤ 0
        have m2 := Rat.mul_nonneg (show 0 ≤ k' - k by grind) (sq_nn' y')
        grind
  have same : le (if x + y * k < 0 then (N + 1, -(x + y * k), -y) else (N, x + y * k, y)) (if x' + y' * k < 0 then (M + 1, -(x' + y' * k), -y') else (M, x' + y' * k, y')) := by
    unfold le
    rcases ih with h' | ⟨e', c⟩
    · by_cases q1 : x + y * k < 0
      · rw [if_pos q1]
        by_cases q2 : x' + y' * k < 0
        · rw [if_pos q2]
          exact .inl (by show N + 1 < M + 1; omega)
        · rw [if_neg q2]
          rcases Nat.lt_or_ge (N + 1) M with z | z
          · exact .inl z
          · exact .inr ⟨by show N + 1 = M; omega, cross_over hs ht hk q1 q2⟩
      · rw [if_neg q1]
        by_cases q2 : x' + y' * k < 0
        · rw [if_pos q2]
          exact .inl (by show N < M + 1; omega)
        · rw [if_neg q2]
          exact .inl h'
    · by_cases q1 : x + y * k < 0
      · rw [if_pos q1, if_pos (cross_turn hs ht c hk q1)]
        refine .inr ⟨by show N + 1 = M + 1; omega, ?_⟩
        show -(x + y * k) * -y' - -y * -(x' + y' * k) ≤ 0
        grind
      · rw [if_neg q1]
        by_cases q2 : x' + y' * k < 0
        · rw [if_pos q2]
          exact .inl (by show N < M + 1; omega)
        · rw [if_neg q2]
          refine .inr ⟨e', ?_⟩
          show (x + y * k) * y' - y * (x' + y' * k) ≤ 0
          grind
  have p1 := hp_turn hs hk
  have p2 := hp_turn ht hk
  have p3 := hp_turn ht hk'
  refine le_trans3 ?_ ?_ ?_ same own
  · split
    · exact p1.1 (by assumption)
    · exact p1.2 (by assumption)
  · split
    · exact p2.1 (by assumption)
    · exact p2.2 (by assumption)
  · split
    · exact p3.1 (by assumption)
    · exact p3.2 (by assumption)
/-- a step with a heavier disc and a softer shaft -/
theorem pst_more {J K J' K' : Nat → Rat} {p : Rat} {i : Nat} {s t : Nat × Rat × Rat} (hp0 : 0 ≤ p) (hs : hp s.2.1 s.2.2) (ht : hp t.2.1 t.2.2) (ih : le s t) (hJ : J i ≤ J' i) (hk : 0 < K' (i + 1)) (hK : K' (i + 1) ≤ K (i + 1)) : le (pst J K p i s) (pst J' K' p i t) := by
  have hk0 : 0 < K (i + 1) := by grind
  have ik := Rat.inv_pos.mpr hk0
  have kk : (K (i + 1))⁻¹ ≤ (K' (i + 1))⁻¹ := by
    have ik' := Rat.inv_pos.mpr hk
    have m := Rat.mul_nonneg (Rat.mul_nonneg (show 0 ≤ K (i + 1) - K' (i + 1) by grind) (Rat.le_of_lt ik)) (Rat.le_of_lt ik')
    have e1 : K (i + 1) * (K (i + 1))⁻¹ = 1 := by grind
    have e2 : K' (i + 1) * (K' (i + 1))⁻¹ = 1 := by grind
    generalize (K (i + 1))⁻¹ = a at *
    generalize (K' (i + 1))⁻¹ = b at *
    have : (K (i + 1) - K' (i + 1)) * a * b = b - a := by grind
    grind
  have hs2 := hp_shear (c := p * J i) hs
  have ht2 := hp_shear (c := p * J' i) ht
  have hx := hp_nn hs
  have hx' := hp_nn ht
  unfold pst
  rw [Rat.div_def, Rat.div_def]
  obtain ⟨N, x, y⟩ := s
  obtain ⟨M, x', y'⟩ := t
  refine turn_le hs2 ht2 ?_ ik kk
  rcases ih with h | ⟨e, h⟩
  · exact .inl h
  · refine .inr ⟨e, ?_⟩
    have c : x * y' - y * x' ≤ 0 := h
    show x * (y' - p * J' i * x') - (y - p * J i * x) * x' ≤ 0
    have m := Rat.mul_nonneg (Rat.mul_nonneg (Rat.mul_nonneg hp0 (show 0 ≤ J' i - J i by grind)) hx) hx'
    grind
theorem ph_more {J K J' K' : Nat → Rat} {p : Rat} (hp0 : 0 ≤ p) : ∀ i, (∀ j, j < i → J j ≤ J' j) → (∀ j, 0 < j → j ≤ i → 0 < K' j) → (∀ j, j ≤ i → K' j ≤ K j) → le (ph J K p i) (ph J' K' p i)
  | 0, _, _, hK => .inr ⟨rfl, by show (1 : Rat) * K' 0 - K 0 * 1 ≤ 0; have := hK 0 (Nat.le_refl _); grind⟩
  | i + 1, hJ, hk, hK => by
    rw [ph_pst, ph_pst]
    refine pst_more hp0 (ph_hp i fun j a b => ?_) (ph_hp i fun j a b => hk j a (by omega)) (ph_more hp0 i (fun j h => hJ j (by omega)) (fun j a b => hk j a (by omega)) (fun j h => hK j (by omega))) (hJ i (by omega)) (hk (i + 1) (by omega) (Nat.le_refl _)) (hK (i + 1) (Nat.le_refl _))
    have := hk j a (by omega)
    have := hK j (by omega)
    grind
/-- heavier discs and softer shafts have no fewer slower swings -/
theorem cnt_more {J K J' K' : Nat → Rat} {p : Rat} (hp0 : 0 ≤ p) (n : Nat) (hJ : ∀ j, j ≤ n → J j ≤ J' j) (hk : ∀ j, 0 < j → j ≤ n → 0 < K' j) (hn : 0 ≤ K' (n + 1)) (hK : ∀ j, j ≤ n + 1 → K' j ≤ K j) : cnt J K p n ≤ cnt J' K' p n := by
  have ih := ph_more (J := J) (K := K) (J' := J') (K' := K') hp0 n (fun j h => hJ j (by omega)) hk (fun j h => hK j (by omega))
  have hs := ph_hp (J := J) (p := p) (K := K) n fun j a b => by
    have := hk j a b
    have := hK j (by omega)
    grind
  have ht := ph_hp (J := J') (p := p) n hk
  have kn := hK (n + 1) (Nat.le_refl _)
  have jn := hJ n (Nat.le_refl _)
  unfold cnt
  generalize ph J K p n = s at *
  generalize ph J' K' p n = t at *
  obtain ⟨N, x, y⟩ := s
  obtain ⟨M, x', y'⟩ := t
  have hx := hp_nn hs
  have hx' := hp_nn ht
  show N + (if K (n + 1) * x + (y - p * J n * x) < 0 then 1 else 0) ≤ M + (if K' (n + 1) * x' + (y' - p * J' n * x') < 0 then 1 else 0)
  rcases ih with h | ⟨e, h⟩
  · have h' : N < M := h
    split <;> split <;> omega
  · have e' : N = M := e
    by_cases q1 : K (n + 1) * x + (y - p * J n * x) < 0
    · have m0 := Rat.mul_nonneg (show 0 ≤ K (n + 1) - K' (n + 1) by grind) hx
      have q2 : K' (n + 1) * x + (y - p * J n * x) < 0 := by grind
      have c : x * (y' - p * J' n * x') - (y - p * J n * x) * x' ≤ 0 := by
        have h2 : x * y' - y * x' ≤ 0 := h
        have m := Rat.mul_nonneg (Rat.mul_nonneg (Rat.mul_nonneg hp0 (show 0 ≤ J' n - J n by grind)) hx) hx'
        grind
      rw [if_pos q1, if_pos (cross_end (hp_shear hs) (hp_shear ht) c hn q2)]
      omega
    · rw [if_neg q1]
      omega
/-! ### one number otherwise: one more or less at most -/
theorem frm_congr {J K J' K' : Nat → Rat} {p : Rat} {j : Nat} (s : Nat × Rat × Rat) : ∀ d, (∀ i, j ≤ i → i < j + d → J' i = J i) → (∀ i, j < i → i ≤ j + d → K' i = K i) → frm J' K' p j d s = frm J K p j d s
  | 0, _, _ => rfl
  | d + 1, hJ, hK => by
    show pst J' K' p (j + d) (frm J' K' p j d s) = pst J K p (j + d) (frm J K p j d s)
    rw [frm_congr s d (fun i a b => hJ i a (by omega)) (fun i a b => hK i a (by omega))]
    unfold pst
    rw [hJ (j + d) (by omega) (by omega), hK (j + d + 1) (by omega) (by omega)]
theorem cnt_frm {J K : Nat → Rat} {p : Rat} {n j : Nat} (hj : j ≤ n) : cnt J K p n = fini J K p n (frm J K p j (n - j) (ph J K p j)) := by
  rw [cnt_fini]
  have := ph_frm J K p j (n - j)
  rw [show j + (n - j) = n by omega] at this
  rw [this]
/-- between two states one turn apart the counts differ by one at most -/
theorem cnt_between {J K J' K' : Nat → Rat} {p : Rat} {n j : Nat} (hj : j ≤ n) {s s' c : Nat × Rat × Rat} (hs : hp s.2.1 s.2.2) (hs' : hp s'.2.1 s'.2.2) (hc : hp c.2.1 c.2.2)
    (hK : ∀ i, j < i → i ≤ n → 0 < K i) (hn : 0 ≤ K (n + 1)) (hK' : ∀ i, j < i → i ≤ n → 0 < K' i) (hn' : 0 ≤ K' (n + 1))
    (same : fini J' K' p n (frm J' K' p j (n - j) c) = fini J K p n (frm J K p j (n - j) c)) (l1 : le s c) (l2 : le c (s'.1 + 1, s'.2)) :
    fini J K p n (frm J K p j (n - j) s) ≤ fini J' K' p n (frm J' K' p j (n - j) s') + 1 := by
  have hKd : ∀ i, j < i → i ≤ j + (n - j) → 0 < K i := fun i a b => hK i a (by omega)
  have hKd' : ∀ i, j < i → i ≤ j + (n - j) → 0 < K' i := fun i a b => hK' i a (by omega)
  have f1 := fini_le (J := J) (p := p) (n := n) (frm_hp (J := J) (p := p) hs (n - j) hKd) (frm_hp (J := J) (p := p) hc (n - j) hKd) (frm_le (J := J) (p := p) hs hc l1 (n - j) hKd) hn
  have f2 := fini_le (J := J') (p := p) (n := n) (frm_hp (J := J') (p := p) hc (n - j) hKd') (frm_hp (J := J') (p := p) (s := (s'.1 + 1, s'.2)) hs' (n - j) hKd') (frm_le (J := J') (p := p) (s := c) (t := (s'.1 + 1, s'.2)) hc hs' l2 (n - j) hKd') hn'
  rw [frm_shift, fini_shift] at f2
  omega
/-- a disc otherwise -/
theorem cnt_disc {J J' K : Nat → Rat} {p : Rat} {n i : Nat} (hi : i ≤ n) (hJ : ∀ j, j ≤ n → j ≠ i → J' j = J j) (hK : ∀ j, 0 < j → j ≤ n → 0 < K j) (hn : 0 ≤ K (n + 1)) : cnt J K p n ≤ cnt J' K p n + 1 := by
  have e0 : ph J' K p i = ph J K p i := ph_congr i (fun j h => hJ j (by omega) (by omega)) fun j h => rfl
  rw [cnt_frm (J := J) hi, cnt_frm (J := J') hi, e0]
  have hs := ph_hp (J := J) (p := p) i fun j a b => hK j a (by omega)
  generalize ph J K p i = s at *
  have hc : hp (0 : Rat) (-1) := .inr ⟨rfl, by decide +kernel⟩
  refine cnt_between hi hs hs (c := (s.1, 0, -1)) hc (fun j a b => hK j (by omega) b) hn (fun j a b => hK j (by omega) b) hn ?_ (.inr ⟨rfl, ?_⟩) (.inl (Nat.lt_succ_self _))
  · obtain ⟨d, rfl⟩ : ∃ d, n = i + d := ⟨n - i, by omega⟩
    rw [show i + d - i = d by omega]
    cases d with
    | zero =>
      show s.1 + (if K (i + 0 + 1) * 0 + (-1 - p * J' (i + 0) * 0) < 0 then 1 else 0) = s.1 + (if K (i + 0 + 1) * 0 + (-1 - p * J (i + 0) * 0) < 0 then 1 else 0)
      rw [show p * J' (i + 0) * 0 = p * J (i + 0) * 0 by grind]
    | succ d =>
      have e1 : pst J' K p i (s.1, 0, -1) = pst J K p i (s.1, 0, -1) := by
        unfold pst
        simp only
        rw [show p * J' i * 0 = p * J i * 0 by grind]
      rw [frm_first, frm_first, e1, frm_congr (J := J) (J' := J') (K := K) (K' := K) _ d (fun j a b => hJ j (by omega) (by omega)) (fun j a b => rfl)]
      unfold fini
      rw [hJ (i + (d + 1)) (Nat.le_refl _) (by omega)]
  · show s.2.1 * -1 - s.2.2 * 0 ≤ 0
    have := hp_nn hs
    grind
/-- an inner shaft otherwise -/
theorem cnt_inner {J K K' : Nat → Rat} {p : Rat} {n i : Nat} (hi : i < n) (hKe : ∀ j, j ≤ n + 1 → j ≠ i + 1 → K' j = K j) (hK : ∀ j, 0 < j → j ≤ n → 0 < K j) (hK' : ∀ j, 0 < j → j ≤ n → 0 < K' j) (hn : 0 ≤ K (n + 1)) : cnt J K p n ≤ cnt J K' p n + 1 := by
  have e0 : ph J K' p i = ph J K p i := ph_congr i (fun j h => rfl) fun j h => hKe j (by omega) (by omega)
  have k1 := hK (i + 1) (by omega) (by omega)
  have k2 := hK' (i + 1) (by omega) (by omega)
  rw [cnt_frm (J := J) (K := K) (j := i + 1) (by omega), cnt_frm (J := J) (K := K') (j := i + 1) (by omega)]
  have hs := ph_hp (J := J) (p := p) (K := K) i fun j a b => hK j a (by omega)
  have h1 := ph_hp (J := J) (p := p) (K := K) (i + 1) fun j a b => hK j a (by omega)
  have h2 := ph_hp (J := J) (p := p) (K := K') (i + 1) fun j a b => hK' j a (by omega)
  rw [ph_pst] at h1 h2
  rw [ph_pst, ph_pst]
  rw [e0] at h2 ⊢
  generalize ph J K p i = s at *
  have tail : ∀ c : Nat × Rat × Rat, fini J K' p n (frm J K' p (i + 1) (n - (i + 1)) c) = fini J K p n (frm J K p (i + 1) (n - (i + 1)) c) := fun c => by
    rw [frm_congr (J := J) (J' := J) (K := K) (K' := K') _ _ (fun j a b => rfl) (fun j a b => hKe j (by omega) (by omega))]
    unfold fini
    rw [hKe (n + 1) (Nat.le_refl _) (by omega)]
  have hKt : ∀ j, i + 1 < j → j ≤ n → 0 < K j := fun j a b => hK j (by omega) b
  have hKt' : ∀ j, i + 1 < j → j ≤ n → 0 < K' j := fun j a b => hK' j (by omega) b
  have hn' : 0 ≤ K' (n + 1) := by rw [hKe (n + 1) (Nat.le_refl _) (by omega)]; exact hn
  -- the sides that both next states keep to
  have side : ∀ k : Rat, 0 < k → (0 < s.2.2 - p * J i * s.2.1 → ¬ s.2.1 + (s.2.2 - p * J i * s.2.1) * k < 0) := fun k hk hy => by
    have := Rat.mul_pos hy hk
    have := hp_nn hs
    grind
  have hcp : hp (1 : Rat) 0 := .inl (by decide +kernel)
  obtain ⟨N, x, y⟩ := s
  unfold pst at h1 h2 ⊢
  rw [Rat.div_def] at h1 ⊢
  rw [Rat.div_def] at h2 ⊢
  simp only at h1 h2 side ⊢
  have hx := hp_nn hs
  have i1 := Rat.inv_pos.mpr k1
  have i2 := Rat.inv_pos.mpr k2
  generalize (K (i + 1))⁻¹ = a at *
  generalize (K' (i + 1))⁻¹ = b at *
  generalize hY : y - p * J i * x = Y at *
  rcases Classical.em (0 < Y) with q | q
  · -- both in the first quarter of turn N
    have n1 := side a i1 q
    have n2 := side b i2 q
    rw [if_neg n1] at h1 ⊢
    rw [if_neg n2] at h2 ⊢
    refine cnt_between (by omega) h1 h2 (c := (N, 1, 0)) hcp hKt hn hKt' hn' (tail _) (.inr ⟨rfl, ?_⟩) (.inl (Nat.lt_succ_self _))
    show (x + Y * a) * 0 - Y * 1 ≤ 0
    grind
  · rcases Classical.em (Y = 0) with z | z
    · -- the same state
      rw [z] at h1 h2 ⊢
      rw [show x + 0 * a = x + 0 * b by grind] at h1 ⊢
      rw [tail]
      omega
    · -- from the third quarter of turn N to the first one of the next
      have ny : Y < 0 := by grind
      have c2 : le (N, 1, 0) (if x + Y * b < 0 then (N + 1, -(x + Y * b), -Y) else (N, x + Y * b, Y)) := by
        split
        · exact .inl (Nat.lt_succ_self _)
        · refine .inr ⟨rfl, ?_⟩
          show (1 : Rat) * Y - 0 * (x + Y * b) ≤ 0
          grind
      have c1 : le (if x + Y * a < 0 then (N + 1, -(x + Y * a), -Y) else (N, x + Y * a, Y)) (N + 1, 1, 0) := by
        split
        · refine .inr ⟨rfl, ?_⟩
          show -(x + Y * a) * 0 - -Y * 1 ≤ 0
          grind
        · exact .inl (Nat.lt_succ_self _)
      refine cnt_between (by omega) h1 h2 (c := (N + 1, 1, 0)) hcp hKt hn hKt' hn' (tail _) c1 ?_
      rcases c2 with c2 | ⟨c2, c3⟩
      · exact .inl (Nat.succ_lt_succ c2)
      · exact .inr ⟨congrArg (· + 1) c2, c3⟩
/-- the first shaft otherwise -/
theorem cnt_first {J K K' : Nat → Rat} {p : Rat} {n : Nat} (hKe : ∀ j, 0 < j → j ≤ n + 1 → K' j = K j) (h0 : 0 ≤ K 0) (hK : ∀ j, 0 < j → j ≤ n → 0 < K j) (hn : 0 ≤ K (n + 1)) : cnt J K p n ≤ cnt J K' p n + 1 := by
  rw [cnt_frm (J := J) (K := K) (j := 0) (by omega), cnt_frm (J := J) (K := K') (j := 0) (by omega)]
  have hcp : hp (1 : Rat) 0 := .inl (by decide +kernel)
  have one : ∀ y : Rat, hp (1 : Rat) y := fun y => .inl (by decide +kernel)
  have tail : ∀ c : Nat × Rat × Rat, fini J K' p n (frm J K' p 0 (n - 0) c) = fini J K p n (frm J K p 0 (n - 0) c) := fun c => by
    rw [frm_congr (J := J) (J' := J) (K := K) (K' := K') _ _ (fun j a b => rfl) (fun j a b => hKe j a (by omega))]
    unfold fini
    rw [hKe (n + 1) (by omega) (Nat.le_refl _)]
  refine cnt_between (Nat.zero_le _) (s := (0, 1, K 0)) (s' := (0, 1, K' 0)) (c := (0, 1, 0)) (one _) (one _) hcp (fun j a b => hK j a b) hn (fun j a b => by rw [hKe j a (by omega)]; exact hK j a b) (by rw [hKe (n + 1) (by omega) (Nat.le_refl _)]; exact hn) (tail _) (.inr ⟨rfl, ?_⟩) (.inl (Nat.lt_succ_self _))
  show (1 : Rat) * 0 - K 0 * 1 ≤ 0
  grind
/-- the last shaft otherwise -/
theorem cnt_last {J K K' : Nat → Rat} {p : Rat} {n : Nat} (hKe : ∀ j, j ≤ n → K' j = K j) : cnt J K p n ≤ cnt J K' p n + 1 := by
  have e0 : ph J K' p n = ph J K p n := ph_congr n (fun j h => rfl) fun j h => hKe j h
  rw [cnt_fini, cnt_fini, e0]
  unfold fini
  split <;> split <;> omega
end Mx
/-! Lines, slots and amounts of the later laws. -/
namespace Mx
open PySem PySem.Spec PyProof.Rows L2 DL
def Am0 (x : Fr) : Prop := FOk x ∧ 0 ≤ x.1 ∧ x.1 < 64 ∧ x.2 < 64
def Am (x : Fr) : Prop := FOk x ∧ 0 < x.1 ∧ x.1 < 64 ∧ x.2 < 64
theorem Am.to0 {x : Fr} (h : Am x) : Am0 x := ⟨h.1, by have := h.2.1; omega, h.2.2⟩
def AmW (x : Fr) : Prop := FOk x ∧ 0 < x.1 ∧ x.1 < 18446744073709551616 ∧ x.2 < 18446744073709551616
theorem Am.toW {x : Fr} (h : Am x) : AmW x := ⟨h.1, h.2.1, by have := h.2.2.1; omega, by have := h.2.2.2; omega⟩
theorem am00 : Am0 (0, 1) := ⟨fok_zero, by decide, by decide, by decide⟩
structure LineS (dd ss : List Fr) : Prop where
  ln : LN dd ss
  sd : Small dd
  sq : Small ss
  c5 : dd.length ≤ 5
def slotD (b : Bool) (i : Nat) : PyData := .tuple [.str (if b then ("disc" : Str) else ("shaft" : Str)), .int (i : Int)]
def slotOk (dd ss : List Fr) (b : Bool) (i : Nat) : Prop := if b then i < dd.length else i < ss.length
def putS (dd ss : List Fr) (b : Bool) (i : Nat) (x : Fr) : List Fr × List Fr := if b then (dd.set i x, ss) else (dd, ss.set i x)
def heldS (dd ss : List Fr) (b : Bool) (i : Nat) : Fr := if b then dd.getD i (0, 1) else ss.getD i (0, 1)
theorem put_ln {dd ss : List Fr} (h : LN dd ss) {b : Bool} {i : Nat} {x : Fr} (a : AmW x) : LN (putS dd ss b i x).1 (putS dd ss b i x).2 := by
  obtain ⟨f, h0, h1, h2⟩ := a
  cases b with
  | true => exact h.setD i f h0 h1 h2
  | false => exact h.setS i f (by omega) h1 h2 fun _ _ => h0
/-- sizes of a row with any numbers of a line -/
theorem gs_jw {r : List Fr} {i : Nat} {x : Fr} (hx : r[i]? = some x) (f : FOk x) (h0 : 0 ≤ x.1) (h1 : x.1 < 18446744073709551616) (h2 : x.2 < 18446744073709551616) : GS 64 (jv r i) := by
  have f1 := f.1
  unfold jv
  rw [List.getD_eq_getElem?_getD, hx]
  exact GS.of f.1 (by show x.1.natAbs < 2 ^ 64; omega) (by show x.2.natAbs < 2 ^ 64; omega)
theorem rvw_first {dd ss : List Fr} (h : LN dd ss) (p : Rat) : G2 64 (ya (jv dd) (jv ss) p 0) (xa (jv dd) (jv ss) p 0) := by
  obtain ⟨C, hC, eC, a, b, c, d, _⟩ := h.s_get (i := 0) (by rw [h.len]; omega)
  have a1 := a.1
  refine ⟨C.2, C.1, C.2, a.1, ?_, ?_, by omega, by omega, by omega⟩
  · show jv ss 0 * _ = _
    unfold jv
    rw [eC]
    exact val_mul a.1
  · show (1 : Rat) * _ = _
    grind
theorem rvw_all {dd ss : List Fr} (h : LN dd ss) {p : Rat} (hp : GS 400 p) : ∀ i, i < dd.length → G2 (64 + 530 * i) (ya (jv dd) (jv ss) p i) (xa (jv dd) (jv ss) p i) ∧ G2 (64 + 530 * i + 465) (ya (jv dd) (jv ss) p (i + 1)) (xa (jv dd) (jv ss) p i)
  | 0, hi => by
    have g := rvw_first h p
    obtain ⟨J, hJ, eJ, a, b, c, d⟩ := h.d_get hi
    exact ⟨g, (g.less (hp.mul (gs_jw hJ a (by omega) c d)))⟩
  | i + 1, hi => by
    have g := (rvw_all h hp i (by omega)).2
    obtain ⟨J, hJ, eJ, a, b, e, f⟩ := h.d_get hi
    obtain ⟨C, hC, eC, c, d, k, m, _⟩ := h.s_get (i := i + 1) (by rw [h.len]; omega)
    have g2 := g.more (gs_jw hC c d k m) (h.kpos (i := i + 1) (by omega) hi)
    have g3 := g2.less (hp.mul (gs_jw hJ a (by omega) e f))
    rw [show 64 + 530 * (i + 1) = 64 + 530 * i + 465 + 64 + 1 by omega]
    exact ⟨g2, g3⟩
/-- a row of angles, and the end -/
structure AngR (dd ss : List Fr) (p : Fr) (n : Nat) (rs : List Fr) : Prop where
  len : rs.length = n
  ok : ∀ x ∈ rs, FOk x
  inn : ∀ j, j < n → val (rs.getD j (0, 1)) = xa (jv dd) (jv ss) (val p) j
theorem AngR.push {dd ss : List Fr} {p : Fr} {n : Nat} {rs : List Fr} (h : AngR dd ss p n rs) {b : Fr} (hb : FOk b) (hv : val b = xa (jv dd) (jv ss) (val p) n) : AngR dd ss p (n + 1) (rs ++ [b]) := by
  refine ⟨by simp [h.len], fun x hx => ?_, fun j hj => ?_⟩
  · rcases List.mem_append.mp hx with q | q
    · exact h.ok x q
    · rw [List.mem_singleton.mp q]
      exact hb
  · by_cases q : j < n
    · rw [List.getD_eq_getElem?_getD, List.getElem?_append_left (by rw [h.len]; exact q), ← List.getD_eq_getElem?_getD]
      exact h.inn j q
    · obtain rfl : j = n := by omega
      rw [List.getD_eq_getElem?_getD, List.getElem?_append_right (by rw [h.len]; omega), h.len, Nat.sub_self]
      exact hv
theorem AngR.get {dd ss : List Fr} {p : Fr} {n : Nat} {rs : List Fr} (h : AngR dd ss p n rs) {j : Nat} (hj : j < n) : rs[j]? = some (rs.getD j (0, 1)) ∧ FOk (rs.getD j (0, 1)) := by
  have e : rs[j]? = some (rs.getD j (0, 1)) := by
    rw [List.getD_eq_getElem?_getD, List.getElem?_eq_getElem (by rw [h.len]; exact hj)]
    rfl
  exact ⟨e, h.ok _ (List.mem_of_getElem? e)⟩
/-- the counted changes of the signs of a row and its end -/
theorem ang_cnt {dd ss : List Fr} {p e : Fr} {rs : List Fr} (h1 : 1 ≤ dd.length) (R : AngR dd ss p dd.length rs) (fe : FOk e) (ve : val e = ea (jv dd) (jv ss) (val p) (dd.length - 1)) :
    (chs (((rs ++ [e]).map (·.1)).map sgn)).1 = cnt (jv dd) (jv ss) (val p) (dd.length - 1) := by
  rw [← chs_cnt]
  congr 2
  rw [List.map_append, List.map_append]
  congr 1
  · apply List.ext_getElem?
    intro k
    have hl := R.len
    rw [List.getElem?_map, List.getElem?_map, List.getElem?_map]
    by_cases q : k < dd.length
    · obtain ⟨a, b⟩ := R.get q
      rw [a, List.getElem?_range (by omega)]
      show some (sgn (rs.getD k (0, 1)).1) = some (rsgn (xa (jv dd) (jv ss) (val p) k))
      rw [rsgn_val b.1, R.inn k q]
    · rw [List.getElem?_eq_none (by omega), List.getElem?_eq_none (by simp; omega)]
      rfl
  · show [sgn e.1] = _
    rw [rsgn_val fe.1, ve]
end Mx
namespace Mx
open PySem PySem.Spec PyProof.Rows L2 DL
/-! ### the product of two shapes -/
def tf (K w v : Nat → Rat) : Nat → Rat
  | 0 => 0
  | k + 1 => tf K w v k + K k * ((w (k + 1) - w k) * (v (k + 1) - v k))
def sf (J u v : Nat → Rat) : Nat → Rat
  | 0 => 0
  | k + 1 => sf J u v k + J k * (u k * v k)
theorem tf_self (K w : Nat → Rat) : ∀ k, tf K w w k = kf K w k
  | 0 => rfl
  | k + 1 => by
    show tf K w w k + _ = kf K w k + _
    rw [tf_self K w k]
theorem sf_self (J u : Nat → Rat) : ∀ k, sf J u u k = jf J u k
  | 0 => rfl
  | k + 1 => by
    show sf J u u k + _ = jf J u k + _
    rw [sf_self J u k]
theorem tf_comm (K w v : Nat → Rat) : ∀ k, tf K w v k = tf K v w k
  | 0 => rfl
  | k + 1 => by
    show tf K w v k + _ = tf K v w k + _
    rw [tf_comm K w v k]
    grind
theorem sf_comm (J u v : Nat → Rat) : ∀ k, sf J u v k = sf J v u k
  | 0 => rfl
  | k + 1 => by
    show sf J u v k + _ = sf J v u k + _
    rw [sf_comm J u v k]
    grind
theorem tf_mix {K w v x : Nat → Rat} {b : Rat} : ∀ k, (∀ j, j ≤ k → x j = w j + b * v j) → tf K w x k = tf K w w k + b * tf K w v k
  | 0, _ => by
    show (0 : Rat) = 0 + b * 0
    grind
  | k + 1, h => by
    show tf K w x k + _ = tf K w w k + _ + b * (tf K w v k + _)
    rw [tf_mix k fun j hj => h j (by omega), h (k + 1) (by omega), h k (by omega)]
    grind
theorem sf_mix {J u v x : Nat → Rat} {b : Rat} : ∀ k, (∀ j, j < k → x j = u j + b * v j) → sf J u x k = sf J u u k + b * sf J u v k
  | 0, _ => by
    show (0 : Rat) = 0 + b * 0
    grind
  | k + 1, h => by
    show sf J u x k + _ = sf J u u k + _ + b * (sf J u v k + _)
    rw [sf_mix k fun j hj => h j (by omega), h k (by omega)]
    grind
theorem tf_zero {K w v : Nat → Rat} : ∀ k, (∀ j, j ≤ k → w j = 0) → tf K w v k = 0
  | 0, _ => rfl
  | k + 1, h => by
    show tf K w v k + _ = 0
    rw [tf_zero k fun j hj => h j (by omega), h (k + 1) (by omega), h k (by omega)]
    grind
theorem sf_zero {J u v : Nat → Rat} : ∀ k, (∀ j, j < k → u j = 0) → sf J u v k = 0
  | 0, _ => rfl
  | k + 1, h => by
    show sf J u v k + _ = 0
    rw [sf_zero k fun j hj => h j (by omega), h k (by omega)]
    grind
def prd (dd ss : List Fr) (p : Rat) (us vs : List Int) : Rat := tf (jv ss) (wv us) (wv vs) (dd.length + 1) - p * sf (jv dd) (uv us) (uv vs) dd.length
theorem prd_comm (dd ss : List Fr) (p : Rat) (us vs : List Int) : prd dd ss p us vs = prd dd ss p vs us := by
  unfold prd
  rw [tf_comm, sf_comm]
theorem prd_self (dd ss : List Fr) (p : Rat) (us : List Int) : prd dd ss p us us = kf (jv ss) (wv us) (dd.length + 1) - p * jf (jv dd) (uv us) dd.length := by
  unfold prd
  rw [tf_self, sf_self]
/-- turns that are not great -/
structure Trn (us : List Int) (c : Nat) (b : Int) : Prop where
  len : us.length = c
  sm : ∀ x ∈ us, -b ≤ x ∧ x ≤ b
  nn : 0 ≤ b
theorem Trn.get {us : List Int} {c : Nat} {b : Int} (h : Trn us c b) (k : Nat) : -b ≤ us.getD k 0 ∧ us.getD k 0 ≤ b := by
  by_cases q : k < us.length
  · rw [List.getD_eq_getElem?_getD, List.getElem?_eq_getElem q]
    exact h.sm _ (List.getElem_mem q)
  · rw [getD_out (by omega)]
    have := h.nn
    omega
theorem Trn.getW {us : List Int} {c : Nat} {b : Int} (h : Trn us c b) (k : Nat) : -b ≤ (0 :: us).getD k 0 ∧ (0 :: us).getD k 0 ≤ b := by
  cases k with
  | zero =>
    have := h.nn
    exact ⟨by show -b ≤ 0; omega, by show 0 ≤ b; omega⟩
  | succ k => exact h.get k
theorem Trn.up {us : List Int} {c : Nat} {b e : Int} (h : Trn us c b) (he : b ≤ e) : Trn us c e := ⟨h.len, fun x hx => by have := h.sm x hx; omega, by have := h.nn; omega⟩
theorem pr_small {x y : Int} (hx : -80 ≤ x ∧ x ≤ 80) (hy : -80 ≤ y ∧ y ≤ 80) : (x * y).natAbs < 2 ^ 13 := by
  rw [Int.natAbs_mul]
  have h1 : x.natAbs ≤ 80 := by omega
  have h2 : y.natAbs ≤ 80 := by omega
  have := Nat.mul_le_mul h1 h2
  omega
theorem gs_pr {x y : Int} (hx : -80 ≤ x ∧ x ≤ 80) (hy : -80 ≤ y ∧ y ≤ 80) : GS 13 (((x : Int) : Rat) * ((y : Int) : Rat)) := by
  refine ⟨x * y, 1, by decide, ?_, pr_small hx hy, by decide⟩
  rw [Rat.intCast_mul]
  show _ * 1 = _
  grind
theorem tf_size {dd ss : List Fr} {us vs : List Int} (h : LN dd ss) (sq : Small ss) (T : Trn us dd.length 40) (U : Trn vs dd.length 40) : ∀ k, k ≤ dd.length + 1 → GS (1 + 20 * k) (tf (jv ss) (wv us) (wv vs) k)
  | 0, _ => ⟨0, 1, by decide, (by show (0 : Rat) * 1 = 0; decide +kernel), by decide, by decide⟩
  | k + 1, hk => by
    have g := tf_size h sq T U k (by omega)
    obtain ⟨C, hC, eC, c, d, _⟩ := h.s_get (i := k) (by rw [h.len]; omega)
    have e : ∀ us : List Int, wv us (k + 1) - wv us k = (((0 :: us).getD (k + 1) 0 - (0 :: us).getD k 0 : Int) : Rat) := fun us => by
      rw [Rat.intCast_sub]
      rfl
    have t1 := T.getW (k + 1)
    have t2 := T.getW k
    have u1 := U.getW (k + 1)
    have u2 := U.getW k
    have g2 := (gs_j hC sq c d).mul (gs_pr (x := (0 :: us).getD (k + 1) 0 - (0 :: us).getD k 0) (y := (0 :: vs).getD (k + 1) 0 - (0 :: vs).getD k 0) (by omega) (by omega))
    rw [← e, ← e] at g2
    exact (g.add g2).up (by omega)
theorem sf_size {dd ss : List Fr} {us vs : List Int} (h : LN dd ss) (sd : Small dd) (T : Trn us dd.length 40) (U : Trn vs dd.length 40) : ∀ k, k ≤ dd.length → GS (1 + 20 * k) (sf (jv dd) (uv us) (uv vs) k)
  | 0, _ => ⟨0, 1, by decide, (by show (0 : Rat) * 1 = 0; decide +kernel), by decide, by decide⟩
  | k + 1, hk => by
    have g := sf_size h sd T U k (by omega)
    obtain ⟨C, hC, eC, c, d, _⟩ := h.d_get (i := k) (by omega)
    have t1 := T.get k
    have u1 := U.get k
    have g2 := (gs_j hC sd c (by omega)).mul (gs_pr (x := us.getD k 0) (y := vs.getD k 0) (by omega) (by omega))
    exact (g.add g2).up (by omega)
theorem prd_size {dd ss : List Fr} {us vs : List Int} {p : Rat} {e : Nat} (h : LN dd ss) (sd : Small dd) (sq : Small ss) (T : Trn us dd.length 40) (U : Trn vs dd.length 40) (g : GS e p) : GS (e + 400) (prd dd ss p us vs) := by
  have n8 := h.c8
  have a := tf_size h sq T U (dd.length + 1) (Nat.le_refl _)
  have b := sf_size h sd T U dd.length (Nat.le_refl _)
  exact (a.sub (g.mul b)).up (by omega)
/-- one shape and so much of another one -/
def mixd (c : Nat) (us vs : List Int) (b : Int) : List Int := (List.range c).map fun i => us.getD i 0 + b * vs.getD i 0
theorem mixd_len (c : Nat) (us vs : List Int) (b : Int) : (mixd c us vs b).length = c := by
  unfold mixd
  rw [List.length_map, List.length_range]
theorem mixd_get {c : Nat} {us vs : List Int} {b : Int} {k : Nat} (hk : k < c) : (mixd c us vs b).getD k 0 = us.getD k 0 + b * vs.getD k 0 := by
  unfold mixd
  rw [List.getD_eq_getElem?_getD, List.getElem?_map, List.getElem?_range hk]
  rfl
theorem mixd_uv {c : Nat} {us vs : List Int} {b : Int} (hu : us.length = c) (hv : vs.length = c) (k : Nat) : uv (mixd c us vs b) k = uv us k + (b : Rat) * uv vs k := by
  unfold uv
  by_cases q : k < c
  · rw [mixd_get q, Rat.intCast_add, Rat.intCast_mul]
  · rw [getD_out (by rw [mixd_len]; omega), getD_out (by omega), getD_out (by omega)]
    show (0 : Rat) = 0 + _ * 0
    grind
theorem mixd_wv {c : Nat} {us vs : List Int} {b : Int} (hu : us.length = c) (hv : vs.length = c) (k : Nat) : wv (mixd c us vs b) k = wv us k + (b : Rat) * wv vs k := by
  cases k with
  | zero =>
    rw [wv_zero, wv_zero, wv_zero]
    grind
  | succ k =>
    rw [wv_succ, wv_succ, wv_succ]
    exact mixd_uv hu hv k
theorem prd_mix {dd ss : List Fr} {us vs : List Int} {p : Rat} {b : Int} (hu : us.length = dd.length) (hv : vs.length = dd.length) : prd dd ss p us (mixd dd.length us vs b) = prd dd ss p us us + prd dd ss p us vs * (b : Rat) := by
  unfold prd
  rw [tf_mix (w := wv us) (v := wv vs) (b := (b : Rat)) _ fun j _ => mixd_wv hu hv j, sf_mix (u := uv us) (v := uv vs) (b := (b : Rat)) _ fun j _ => mixd_uv hu hv j]
  grind
theorem mixd_trn {c : Nat} {us vs : List Int} {b : Int} (T : Trn us c 40) (U : Trn vs c 40) (hb : -4 ≤ b ∧ b ≤ 4) : Trn (mixd c us vs b) c 200 := by
  refine ⟨mixd_len .., fun x hx => ?_, by decide⟩
  obtain ⟨i, hi, rfl⟩ := List.mem_map.mp hx
  have t := T.get i
  have u := U.get i
  generalize us.getD i 0 = s at *
  generalize vs.getD i 0 = r at *
  have hm : (b * r).natAbs ≤ 4 * 40 := by
    rw [Int.natAbs_mul]
    exact Nat.mul_le_mul (by omega) (by omega)
  omega
theorem prd_nil {dd ss : List Fr} {us : List Int} {p : Rat} (h : ∀ x ∈ us, x = 0) : prd dd ss p us us = 0 := by
  have u0 : ∀ k, us.getD k 0 = 0 := fun k => by
    by_cases q : k < us.length
    · rw [List.getD_eq_getElem?_getD, List.getElem?_eq_getElem q]
      exact h _ (List.getElem_mem q)
    · rw [getD_out (by omega)]
  have eu : ∀ k, uv us k = 0 := fun k => by
    unfold uv
    rw [u0]
    rfl
  have ew : ∀ k, wv us k = 0 := fun k => by
    cases k with
    | zero => rfl
    | succ k => rw [wv_succ]; exact eu k
  unfold prd
  rw [tf_zero _ fun j _ => ew j, sf_zero _ fun j _ => eu j]
  grind
theorem some_turn {us : List Int} (h : ¬ ∀ x ∈ us, x = 0) : ∃ j, j < us.length ∧ uv us j ≠ 0 := by
  rcases Classical.em (∃ x ∈ us, x ≠ 0) with ⟨x, hx, ne⟩ | q
  · obtain ⟨j, hj, e⟩ := List.getElem_of_mem hx
    refine ⟨j, hj, ?_⟩
    unfold uv
    rw [List.getD_eq_getElem?_getD, List.getElem?_eq_getElem hj]
    show ((us[j] : Int) : Rat) ≠ 0
    rw [e]
    exact ratInt_ne ne
  · exact absurd (fun x hx => Classical.byContradiction fun z => q ⟨x, hx, z⟩) h
/-- what the quotient of a shape is -/
def quo (dd ss : List Fr) (us : List Int) : Rat := kf (jv ss) (wv us) (dd.length + 1) / jf (jv dd) (uv us) dd.length
theorem quo_facts {dd ss : List Fr} {us : List Int} (h : LN dd ss) (hu : us.length = dd.length) (hs : ∃ j, j < us.length ∧ uv us j ≠ 0) :
    0 < jf (jv dd) (uv us) dd.length ∧ 0 ≤ quo dd ss us ∧ prd dd ss (quo dd ss us) us us = 0 ∧ prd dd ss (quo dd ss us + 1 / 1000) us us < 0 ∧
    (cnt (jv dd) (jv ss) (quo dd ss us) (dd.length - 1) = 0 → ea (jv dd) (jv ss) (quo dd ss us) (dd.length - 1) = 0) ∧ cnt (jv dd) (jv ss) (quo dd ss us) (dd.length - 1) ≤ dd.length - 1 := by
  have n1 := h.c1
  have hl := h.len
  have jp := (jf_pos (J := jv dd) (u := uv us) dd.length (fun j hj => h.jpos hj)).2 (by rw [← hu]; exact hs)
  have kn := kf_nn (K := jv ss) (w := wv us) (dd.length + 1) (fun j hj => h.knn (by omega))
  have ne : jf (jv dd) (uv us) dd.length ≠ 0 := by grind
  have e : kf (jv ss) (wv us) (dd.length + 1) = quo dd ss us * jf (jv dd) (uv us) dd.length := by
    unfold quo
    generalize kf (jv ss) (wv us) (dd.length + 1) = a
    generalize jf (jv dd) (uv us) dd.length = b at ne
    grind
  have q := quot_ok (J := jv dd) (K := jv ss) (u := uv us) (w := wv us) (p := quo dd ss us) (n := dd.length - 1) (wv_zero us) (fun k _ => wv_succ us k)
      (by rw [show dd.length - 1 + 2 = dd.length + 1 by omega]; have := wv_end (us := us); rw [hu] at this; exact this) (fun j a b => h.kpos a (by omega))
      (by obtain ⟨j, a, b⟩ := hs; exact ⟨j, by omega, b⟩) (by rw [show dd.length - 1 + 2 = dd.length + 1 by omega, show dd.length - 1 + 1 = dd.length by omega]; exact e)
  refine ⟨jp, ?_, ?_, ?_, q.1, q.2⟩
  · unfold quo
    rw [Rat.div_def]
    exact Rat.mul_nonneg kn (Rat.le_of_lt (Rat.inv_pos.mpr jp))
  · rw [prd_self, e]
    grind
  · rw [prd_self, e]
    generalize jf (jv dd) (uv us) dd.length = b at jp
    have := Rat.mul_pos (show (0 : Rat) < 1 / 1000 by decide +kernel) jp
    grind
theorem prd_top (dd ss : List Fr) (us : List Int) : prd dd ss 0 us us / (prd dd ss 0 us us - prd dd ss 1 us us) = quo dd ss us := by
  rw [prd_self, prd_self]
  unfold quo
  congr 1
  · grind
  · grind
theorem prd_gap (dd ss : List Fr) (us : List Int) : prd dd ss 0 us us - prd dd ss 1 us us = jf (jv dd) (uv us) dd.length := by
  rw [prd_self, prd_self]
  grind
/-! ### shapes as data -/
def tupI (us : List Int) : PyData := .tuple (us.map .int)
theorem tupI_inj {u v : List Int} (h : tupI u = tupI v) : u = v := by
  unfold tupI at h
  simp only [PyData.tuple.injEq] at h
  exact map_int_inj h
theorem lineI_inj {a b c d : List Fr} {u v : List Int} (h : [lineD a b, tupI u] = [lineD c d, tupI v]) : a = c ∧ b = d ∧ u = v := by
  simp only [List.cons.injEq, and_true] at h
  obtain ⟨h1, h2⟩ := h
  obtain ⟨rfl, rfl⟩ := lineD_inj (a := a) (b := b) (c := c) (d := d) (by rw [h1])
  exact ⟨rfl, rfl, tupI_inj h2⟩
theorem lineII_inj {a b c d : List Fr} {p q : Fr} {u v x y : List Int} (h : [lineD a b, frD p, tupI u, tupI x] = [lineD c d, frD q, tupI v, tupI y]) : a = c ∧ b = d ∧ p = q ∧ u = v ∧ x = y := by
  simp only [List.cons.injEq, and_true] at h
  obtain ⟨h1, h2, h3, h4⟩ := h
  obtain ⟨rfl, rfl⟩ := lineD_inj (a := a) (b := b) (c := c) (d := d) (by rw [h1])
  exact ⟨rfl, rfl, frD_inj h2, tupI_inj h3, tupI_inj h4⟩
theorem lay_ints : ∀ r : List Int, PyData.canLayAll0 (r.map .int) = true ∧ PyData.depthAll (r.map .int) ≤ 1 ∧ PyData.hasDictAll (r.map .int) = false
  | [] => by simp [PyData.canLayAll0, PyData.depthAll, PyData.hasDictAll]
  | x :: r => by
    obtain ⟨a, b, c⟩ := lay_ints r
    simp [PyData.canLayAll0, PyData.depthAll, PyData.hasDictAll, PyData.canLay0, PyData.depth, PyData.hasDict, a, c] at b ⊢
    omega
theorem ints_shaped (r : List Int) : SeqAt.shaped (tupI r) = true ∧ (tupI r).hasDict = false := by
  obtain ⟨a, b, c⟩ := lay_ints r
  refine ⟨?_, by simpa [tupI, PyData.hasDict] using c⟩
  unfold SeqAt.shaped tupI
  simp [PyData.canLay0, PyData.depth, a]
  omega
theorem eqv_noughts : ∀ us : List Int, PyData.eqvAll (us.map .int) ((List.replicate us.length (0 : Int)).map .int) = true ↔ ∀ x ∈ us, x = 0
  | [] => by simp [PyData.eqvAll]
  | x :: r => by
    have := eqv_noughts r
    simp only [List.length_cons, List.replicate_succ, List.map_cons, PyData.eqvAll, PyData.eqv, Bool.and_eq_true, beq_iff_eq, this, List.mem_cons, forall_eq_or_imp]
theorem quo_size {dd ss : List Fr} {us : List Int} (h : LN dd ss) (sd : Small dd) (sq : Small ss) (T : Trn us dd.length 40) (jp : 0 < jf (jv dd) (uv us) dd.length) : GS 350 (quo dd ss us) := by
  have n8 := h.c8
  have a := tf_size h sq T T (dd.length + 1) (Nat.le_refl _)
  have b := sf_size h sd T T dd.length (Nat.le_refl _)
  rw [tf_self] at a
  rw [sf_self] at b
  exact (a.div b jp).up (by omega)
theorem gs_00 : GS 1 0 := ⟨0, 1, by decide, (by show (0 : Rat) * 1 = 0; decide +kernel), by decide, by decide⟩
theorem gs_11 : GS 1 1 := ⟨1, 1, by decide, (by show (1 : Rat) * 1 = 1; decide +kernel), by decide, by decide⟩
theorem am0_gs {p : Fr} (h : Am0 p) : GS 6 (val p) := by
  obtain ⟨a, b, c, d⟩ := h
  have := a.1
  exact GS.of a.1 (by omega) (by omega)
theorem am11 : Am0 (1, 1) := ⟨⟨by decide, by decide⟩, by decide, by decide, by decide⟩
theorem val_oneF : val (1, 1) = 1 := by
  unfold val
  decide +kernel
/-- the twists of a shape -/
def twl (us : List Int) (k : Nat) : List Int := (List.range k).map fun i => (0 :: us).getD (i + 1) 0 - (0 :: us).getD i 0
theorem twl_len (us : List Int) (k : Nat) : (twl us k).length = k := by
  unfold twl
  rw [List.length_map, List.length_range]
theorem twl_succ (us : List Int) (k : Nat) : twl us (k + 1) = twl us k ++ [(0 :: us).getD (k + 1) 0 - (0 :: us).getD k 0] := by
  unfold twl
  rw [List.range_succ, List.map_append]
  rfl
theorem twl_get {us : List Int} {k i : Nat} (hi : i < k) : (twl us k)[i]? = some ((0 :: us).getD (i + 1) 0 - (0 :: us).getD i 0) := by
  unfold twl
  rw [List.getElem?_map, List.getElem?_range hi]
  rfl
theorem mixd_succ {us vs : List Int} {b : Int} (k : Nat) : mixd (k + 1) us vs b = mixd k us vs b ++ [us.getD k 0 + b * vs.getD k 0] := by
  unfold mixd
  rw [List.range_succ, List.map_append]
  rfl
end Mx
namespace Mx
open PySem PySem.Spec PyProof.Rows L2 DL
end Mx
/-! What one number of a line does: the table's determinant goes straight in it, and the count changes at most once. -/
namespace Mx
open PySem

/-! ### the table's determinants, by powers of the pace -/
def one0 : Nat → Rat := fun k => if k = 0 then 1 else 0
/-- the determinants of the first i - 1 and of the first i rows -/
def dd2 (J K : Nat → Rat) : Nat → (Nat → Rat) × (Nat → Rat)
  | 0 => (fun _ => 0, one0)
  | i + 1 => ((dd2 J K i).2, fun k => (K i + K (i + 1)) * (dd2 J K i).2 k - J i * sh (dd2 J K i).2 k - K i * K i * (dd2 J K i).1 k)
def db (J K : Nat → Rat) (i : Nat) : Nat → Rat := (dd2 J K i).1
def dc (J K : Nat → Rat) (i : Nat) : Nat → Rat := (dd2 J K i).2
theorem db_zero (J K : Nat → Rat) (k : Nat) : db J K 0 k = 0 := rfl
theorem dc_zero (J K : Nat → Rat) : dc J K 0 = one0 := rfl
theorem db_succ (J K : Nat → Rat) (i : Nat) : db J K (i + 1) = dc J K i := rfl
theorem dc_succ (J K : Nat → Rat) (i k : Nat) : dc J K (i + 1) k = (K i + K (i + 1)) * dc J K i k - J i * sh (dc J K i) k - K i * K i * db J K i k := rfl
theorem sh_congr {f g : Nat → Rat} (h : ∀ k, f k = g k) (k : Nat) : sh f k = sh g k := by
  cases k with
  | zero => rfl
  | succ k => exact h k
/-- the product of the inner stiffnesses up to K i -/
def ip (K : Nat → Rat) : Nat → Rat
  | 0 => 1
  | i + 1 => ip K i * K (i + 1)
theorem ip_pos {K : Nat → Rat} : ∀ i, (∀ j, 0 < j → j ≤ i → 0 < K j) → 0 < ip K i
  | 0, _ => by show (0 : Rat) < 1; decide +kernel
  | i + 1, h => Rat.mul_pos (ip_pos i fun j a b => h j a (by omega)) (h (i + 1) (by omega) (by omega))
theorem dc_run {J K : Nat → Rat} : ∀ i, (∀ j, 0 < j → j ≤ i → K j ≠ 0) → ∀ k, dc J K i k = ip K i * tn J K i k ∧ K i * (dc J K i k - K i * db J K i k) = ip K i * tq J K i k
  | 0, _, k => by
    refine ⟨?_, ?_⟩
    · show one0 k = 1 * (if k = 0 then 1 else 0)
      unfold one0
      grind
    · show K 0 * (one0 k - K 0 * 0) = 1 * (if k = 0 then K 0 else 0)
      unfold one0
      split <;> grind
  | i + 1, h, k => by
    have ih := dc_run (J := J) (K := K) i fun j a b => h j a (by omega)
    have hs : sh (dc J K i) k = ip K i * sh (tn J K i) k := by
      cases k with
      | zero => show (0 : Rat) = _ * 0; grind
      | succ k => exact (ih k).1
    have hk := h (i + 1) (by omega) (by omega)
    obtain ⟨a, b⟩ := ih k
    have e1 : dc J K (i + 1) k = K (i + 1) * dc J K i k + ip K i * tq J K (i + 1) k := by
      rw [dc_succ, tq_succ, hs]
      grind
    refine ⟨?_, ?_⟩
    · rw [e1, tn_succ]
      show _ = ip K i * K (i + 1) * _
      grind
    · rw [e1, db_succ]
      show _ = ip K i * K (i + 1) * _
      grind
theorem dc_en {J K : Nat → Rat} (n : Nat) (h : ∀ j, 0 < j → j ≤ n → K j ≠ 0) (k : Nat) : dc J K (n + 1) k = ip K n * en J K n k := by
  have ih := dc_run (J := J) (K := K) n h
  have hs : sh (dc J K n) k = ip K n * sh (tn J K n) k := by
    cases k with
    | zero => show (0 : Rat) = _ * 0; grind
    | succ k => exact (ih k).1
  obtain ⟨a, b⟩ := ih k
  unfold en
  rw [dc_succ, tq_succ, hs]
  grind
/-- straight in a number -/
def Af (g : Rat → Nat → Rat) : Prop := ∃ a b : Nat → Rat, ∀ x k, g x k = a k + x * b k
theorem Af.at_ {g : Rat → Nat → Rat} (h : Af g) (x : Rat) (k : Nat) : g x k = g 0 k + x * (g 1 k - g 0 k) := by
  obtain ⟨a, b, e⟩ := h
  rw [e, e, e]
  grind
theorem Af.const (f : Nat → Rat) : Af fun _ => f := ⟨f, fun _ => 0, fun x k => by grind⟩
def upd1 (J : Nat → Rat) (i : Nat) (x : Rat) : Nat → Rat := fun j => if j = i then x else J j
theorem upd1_at (J : Nat → Rat) (i : Nat) (x : Rat) : upd1 J i x i = x := if_pos rfl
theorem upd1_ne (J : Nat → Rat) {i j : Nat} (x : Rat) (h : j ≠ i) : upd1 J i x j = J j := if_neg h
theorem dd2_congr {J K J' K' : Nat → Rat} : ∀ i, (∀ j, j < i → J' j = J j) → (∀ j, j ≤ i → K' j = K j) → dd2 J' K' i = dd2 J K i
  | 0, _, _ => rfl
  | i + 1, hJ, hK => by
    have ih := dd2_congr (J := J) (K := K) (J' := J') (K' := K') i (fun j h => hJ j (by omega)) (fun j h => hK j (by omega))
    show ((dd2 J' K' i).2, _) = ((dd2 J K i).2, _)
    rw [ih, hJ i (by omega), hK i (by omega), hK (i + 1) (by omega)]
theorem dd2_fix {J K : Nat → Rat} {i : Nat} (x y : Rat) : dd2 (upd1 J i x) K i = dd2 (upd1 J i y) K i := dd2_congr i (fun j h => by rw [upd1_ne _ _ (by omega), upd1_ne _ _ (by omega)]) fun _ _ => rfl
theorem dd2_fixK {J K : Nat → Rat} {i m : Nat} (h : m < i) (x y : Rat) : dd2 J (upd1 K i x) m = dd2 J (upd1 K i y) m := dd2_congr m (fun _ _ => rfl) fun j q => by rw [upd1_ne _ _ (by omega), upd1_ne _ _ (by omega)]
theorem Af.step {c b : Rat → Nat → Rat} (hc : Af c) (hb : Af b) (u v w : Rat) : Af fun x k => u * c x k - v * sh (c x) k - w * b x k := by
  obtain ⟨c1, c2, ec⟩ := hc
  obtain ⟨b1, b2, eb⟩ := hb
  refine ⟨fun k => u * c1 k - v * sh c1 k - w * b1 k, fun k => u * c2 k - v * sh c2 k - w * b2 k, fun x k => ?_⟩
  have hs : sh (c x) k = sh c1 k + x * sh c2 k := by
    cases k with
    | zero => show (0 : Rat) = 0 + x * 0; grind
    | succ k => exact ec x k
  show u * c x k - v * sh (c x) k - w * b x k = _
  rw [hs, ec, eb]
  grind
/-- with an inertia x -/
theorem af_disc (J K : Nat → Rat) (i : Nat) : ∀ d, (Af fun x => db (upd1 J i x) K (i + 1 + d)) ∧ Af fun x => dc (upd1 J i x) K (i + 1 + d)
  | 0 => by
    refine ⟨⟨dc (upd1 J i 0) K i, fun _ => 0, fun x k => ?_⟩, ⟨fun k => (K i + K (i + 1)) * dc (upd1 J i 0) K i k - K i * K i * db (upd1 J i 0) K i k, fun k => - sh (dc (upd1 J i 0) K i) k, fun x k => ?_⟩⟩
    · show (dd2 (upd1 J i x) K i).2 k = _
      rw [dd2_fix x 0]
      show dc (upd1 J i 0) K i k = _
      grind
    · show dc (upd1 J i x) K (i + 1) k = _
      rw [dc_succ, upd1_at]
      unfold dc db
      rw [dd2_fix x 0]
      grind
  | d + 1 => by
    obtain ⟨a, b⟩ := af_disc J K i d
    refine ⟨b, ?_⟩
    have := Af.step b a (K (i + 1 + d) + K (i + 1 + d + 1)) (J (i + 1 + d)) (K (i + 1 + d) * K (i + 1 + d))
    obtain ⟨c1, c2, e⟩ := this
    refine ⟨c1, c2, fun x k => ?_⟩
    rw [← e x k]
    show dc (upd1 J i x) K (i + 1 + d + 1) k = _
    rw [dc_succ, upd1_ne _ _ (by omega)]
/-- with a stiffness x -/
theorem af_shaft0 (J K : Nat → Rat) (i : Nat) : ∃ a c : Nat → Rat, ∀ x, (∀ k, db J (upd1 K i x) i k = c k) ∧ ∀ k, dc J (upd1 K i x) i k = a k + x * c k := by
  cases i with
  | zero =>
    refine ⟨one0, fun _ => 0, fun x => ⟨fun k => rfl, fun k => ?_⟩⟩
    show one0 k = _
    grind
  | succ i =>
    refine ⟨fun k => K i * dc J (upd1 K (i + 1) 0) i k - J i * sh (dc J (upd1 K (i + 1) 0) i) k - K i * K i * db J (upd1 K (i + 1) 0) i k, dc J (upd1 K (i + 1) 0) i, fun x => ⟨fun k => ?_, fun k => ?_⟩⟩
    · show (dd2 J (upd1 K (i + 1) x) i).2 k = _
      rw [dd2_fixK (by omega) x 0]
      rfl
    · rw [dc_succ, upd1_at, upd1_ne _ _ (by omega)]
      unfold dc db
      rw [dd2_fixK (by omega) x 0]
      grind
theorem af_shaft (J K : Nat → Rat) (i : Nat) : ∀ d, (Af fun x => db J (upd1 K i x) (i + 1 + d)) ∧ Af fun x => dc J (upd1 K i x) (i + 1 + d)
  | 0 => by
    obtain ⟨a, c, e⟩ := af_shaft0 J K i
    refine ⟨⟨a, c, fun x k => (e x).2 k⟩, ⟨fun k => K (i + 1) * a k - J i * sh a k, fun k => a k + K (i + 1) * c k - J i * sh c k, fun x k => ?_⟩⟩
    show dc J (upd1 K i x) (i + 1) k = _
    have hs : sh (dc J (upd1 K i x) i) k = sh a k + x * sh c k := by
      cases k with
      | zero => show (0 : Rat) = 0 + x * 0; grind
      | succ k => exact (e x).2 k
    rw [dc_succ, upd1_at, upd1_ne _ _ (by omega), hs, (e x).1, (e x).2]
    grind
  | d + 1 => by
    obtain ⟨a, b⟩ := af_shaft J K i d
    refine ⟨b, ?_⟩
    cases d with
    | zero =>
      have := Af.step b a (K (i + 1) + K (i + 1 + 1)) (J (i + 1)) (K (i + 1) * K (i + 1))
      obtain ⟨c1, c2, e⟩ := this
      refine ⟨c1, c2, fun x k => ?_⟩
      rw [← e x k]
      show dc J (upd1 K i x) (i + 1 + 1) k = _
      rw [dc_succ, upd1_ne _ _ (by omega), upd1_ne _ _ (by omega)]
    | succ d =>
      have := Af.step b a (K (i + 1 + (d + 1)) + K (i + 1 + (d + 1) + 1)) (J (i + 1 + (d + 1))) (K (i + 1 + (d + 1)) * K (i + 1 + (d + 1)))
      obtain ⟨c1, c2, e⟩ := this
      refine ⟨c1, c2, fun x k => ?_⟩
      rw [← e x k]
      show dc J (upd1 K i x) (i + 1 + (d + 1) + 1) k = _
      rw [dc_succ, upd1_ne _ _ (by omega), upd1_ne _ _ (by omega)]
/-- the last stiffness: the last determinant alone -/
theorem af_last (J K : Nat → Rat) (i : Nat) : Af fun x => dc J (upd1 K i x) i := by
  obtain ⟨a, c, e⟩ := af_shaft0 J K i
  exact ⟨a, c, fun x k => (e x).2 k⟩
theorem af_shaft_all (J K : Nat → Rat) {i n : Nat} (h : i ≤ n) : Af fun x => dc J (upd1 K i x) n := by
  by_cases q : i = n
  · subst q
    exact af_last J K i
  · obtain ⟨d, rfl⟩ : ∃ d, n = i + 1 + d := ⟨n - i - 1, by omega⟩
    exact (af_shaft J K i d).2
theorem af_disc_all (J K : Nat → Rat) {i n : Nat} (h : i < n) : Af fun x => dc (upd1 J i x) K n := by
  obtain ⟨d, rfl⟩ : ∃ d, n = i + 1 + d := ⟨n - i - 1, by omega⟩
  exact (af_disc J K i d).2
theorem dc_deg {J K : Nat → Rat} : ∀ i k, i < k → dc J K i k = 0 ∧ db J K i k = 0
  | 0, k, h => ⟨if_neg (by omega), rfl⟩
  | i + 1, k, h => by
    obtain ⟨a, b⟩ := dc_deg (J := J) (K := K) i k (by omega)
    refine ⟨?_, a⟩
    have hs : sh (dc J K i) k = 0 := by
      cases k with
      | zero => rfl
      | succ k => exact (dc_deg i k (by omega)).1
    rw [dc_succ, a, b, hs]
    grind

/-! ### two lines at one pace -/
theorem row_same {J K J' K' : Nat → Rat} {p : Rat} : ∀ i, (∀ j, j < i → J' j = J j) → (∀ j, j ≤ i → K' j = K j) → rowAt J' K' p i = rowAt J K p i
  | 0, _, hK => by
    show ((1 : Rat), K' 0) = (1, K 0)
    rw [hK 0 (by omega)]
  | i + 1, hJ, hK => by
    have ih := row_same (J := J) (K := K) (J' := J') (K' := K') (p := p) i (fun j h => hJ j (by omega)) (fun j h => hK j (by omega))
    unfold rowAt
    rw [ih, hJ i (by omega), hK (i + 1) (by omega)]
/-- the torques' and angles' cross product -/
def wr (J K J' K' : Nat → Rat) (p : Rat) (i : Nat) : Rat := ya J' K' p i * xa J K p i - ya J K p i * xa J' K' p i
theorem wr_step {J K J' K' : Nat → Rat} {p : Rat} {i : Nat} (hJ : J' i = J i) (hK : K' (i + 1) = K (i + 1)) (h0 : K (i + 1) ≠ 0) : wr J K J' K' p (i + 1) = wr J K J' K' p i := by
  unfold wr
  rw [xa_succ, xa_succ, ya_succ, ya_succ, hJ, hK]
  grind
theorem wr_from {J K J' K' : Nat → Rat} {p : Rat} {i : Nat} : ∀ d, (∀ j, i ≤ j → j < i + d → J' j = J j ∧ K' (j + 1) = K (j + 1) ∧ K (j + 1) ≠ 0) → wr J K J' K' p (i + d) = wr J K J' K' p i
  | 0, _ => rfl
  | d + 1, h => by
    obtain ⟨a, b, c⟩ := h (i + d) (by omega) (by omega)
    rw [← wr_from d fun j q1 q2 => h j q1 (by omega)]
    exact wr_step a b c
theorem wr_end {J K J' K' : Nat → Rat} {p : Rat} {n : Nat} : ea J' K' p n * xa J K p n - ea J K p n * xa J' K' p n = wr J K J' K' p n - p * (J' n - J n) * xa J K p n * xa J' K' p n + (K' (n + 1) - K (n + 1)) * xa J K p n * xa J' K' p n := by
  unfold ea wr
  rw [ya_succ, ya_succ]
  grind
theorem wr_same {J K J' K' : Nat → Rat} {p : Rat} {i : Nat} (h : rowAt J' K' p i = rowAt J K p i) : wr J K J' K' p i = 0 := by
  unfold wr xa ya
  rw [h]
  grind
theorem id_disc {J J' K : Nat → Rat} {p : Rat} {n i : Nat} (hi : i ≤ n) (hJ : ∀ j, j ≤ n → j ≠ i → J' j = J j) (hK : ∀ j, 0 < j → j ≤ n → K j ≠ 0) :
    ea J' K p n * xa J K p n - ea J K p n * xa J' K p n = -(p * (J' i - J i) * (xa J K p i * xa J K p i)) := by
  have s := row_same (J := J) (K := K) (J' := J') (K' := K) (p := p) i (fun j h => hJ j (by omega) (by omega)) fun _ _ => rfl
  have sx : xa J' K p i = xa J K p i := by unfold xa; rw [s]
  have w0 := wr_same s
  rw [wr_end]
  by_cases q : i = n
  · subst q
    rw [w0, sx]
    grind
  · obtain ⟨d, rfl⟩ : ∃ d, n = i + 1 + d := ⟨n - i - 1, by omega⟩
    have w1 : wr J K J' K p (i + 1) = -(p * (J' i - J i) * (xa J K p i * xa J K p i)) := by
      have h0 := hK (i + 1) (by omega) (by omega)
      have : wr J K J' K p (i + 1) = wr J K J' K p i - p * (J' i - J i) * (xa J K p i * xa J' K p i) := by
        unfold wr
        rw [xa_succ, xa_succ, ya_succ, ya_succ]
        grind
      rw [this, w0, sx]
      grind
    rw [wr_from d fun j q1 q2 => ⟨hJ j (by omega) (by omega), rfl, hK (j + 1) (by omega) (by omega)⟩, w1, hJ (i + 1 + d) (by omega) (by omega)]
    grind
/-- an inner stiffness -/
theorem id_inner {J K K' : Nat → Rat} {p : Rat} {n i : Nat} (hi : i < n) (hKe : ∀ j, j ≤ n + 1 → j ≠ i + 1 → K' j = K j) (hK : ∀ j, 0 < j → j ≤ n → K j ≠ 0) (hK' : K' (i + 1) ≠ 0) :
    ea J K' p n * xa J K p n - ea J K p n * xa J K' p n = (K' (i + 1) - K (i + 1)) * (ya J K p (i + 1) * ya J K p (i + 1)) / (K (i + 1) * K' (i + 1)) := by
  have s := row_same (J := J) (K := K) (J' := J) (K' := K') (p := p) i (fun _ _ => rfl) fun j h => hKe j (by omega) (by omega)
  have sx : xa J K' p i = xa J K p i := by unfold xa; rw [s]
  have sy : ya J K' p i = ya J K p i := by unfold ya; rw [s]
  have w0 := wr_same s
  have k0 := hK (i + 1) (by omega) (by omega)
  have sy1 : ya J K' p (i + 1) = ya J K p (i + 1) := by rw [ya_succ, ya_succ, sx, sy]
  have w1 : wr J K J K' p (i + 1) = (K' (i + 1) - K (i + 1)) * (ya J K p (i + 1) * ya J K p (i + 1)) / (K (i + 1) * K' (i + 1)) := by
    unfold wr
    rw [xa_succ, xa_succ, sy1, sx]
    grind
  obtain ⟨d, rfl⟩ : ∃ d, n = i + 1 + d := ⟨n - i - 1, by omega⟩
  rw [wr_end, wr_from d fun j q1 q2 => ⟨rfl, hKe (j + 1) (by omega) (by omega), hK (j + 1) (by omega) (by omega)⟩, w1, hKe (i + 1 + d + 1) (by omega) (by omega)]
  grind
theorem id_first {J K K' : Nat → Rat} {p : Rat} {n : Nat} (hKe : ∀ j, 0 < j → j ≤ n + 1 → K' j = K j) (hK : ∀ j, 0 < j → j ≤ n → K j ≠ 0) :
    ea J K' p n * xa J K p n - ea J K p n * xa J K' p n = K' 0 - K 0 := by
  have w0 : wr J K J K' p 0 = K' 0 - K 0 := by
    show K' 0 * 1 - K 0 * 1 = _
    grind
  have w1 : wr J K J K' p (0 + n) = wr J K J K' p 0 := wr_from n fun j q1 q2 => ⟨rfl, hKe (j + 1) (by omega) (by omega), hK (j + 1) (by omega) (by omega)⟩
  rw [Nat.zero_add] at w1
  rw [wr_end, w1, w0, hKe (n + 1) (by omega) (by omega)]
  grind
theorem id_last {J K K' : Nat → Rat} {p : Rat} {n : Nat} (hKe : ∀ j, j ≤ n → K' j = K j) :
    xa J K' p n = xa J K p n ∧ ea J K' p n * xa J K p n - ea J K p n * xa J K' p n = (K' (n + 1) - K (n + 1)) * (xa J K p n * xa J K p n) := by
  have s := row_same (J := J) (K := K) (J' := J) (K' := K') (p := p) n (fun _ _ => rfl) fun j h => hKe j h
  have sx : xa J K' p n = xa J K p n := by unfold xa; rw [s]
  refine ⟨sx, ?_⟩
  rw [wr_end, wr_same s, sx]
  grind

/-! ### parity -/
theorem sq_one {a z : Rat} (h : a * a = 1) : a * (a * z) = z ∧ -a * (a * z) = -z := ⟨by grind, by grind⟩
theorem par_nn {J K : Nat → Rat} {p : Rat} (n : Nat) : 0 ≤ alt (cnt J K p n) * ea J K p n := by
  rw [ea_ph]
  unfold cnt
  simp only
  obtain ⟨h1, h2⟩ := sq_one (z := K (n + 1) * (ph J K p n).2.1 + ((ph J K p n).2.2 - p * J n * (ph J K p n).2.1)) (alt_sq (ph J K p n).1)
  split
  · rename_i h
    rw [alt_succ, h2]
    grind
  · rename_i h
    rw [Nat.add_zero, h1]
    grind
theorem par_pos {J K : Nat → Rat} {p : Rat} {n : Nat} (h : ea J K p n ≠ 0) : 0 < alt (cnt J K p n) * ea J K p n := by
  have a := par_nn (J := J) (K := K) (p := p) n
  have b := alt_ne (cnt J K p n)
  have : alt (cnt J K p n) * ea J K p n ≠ 0 := fun z => h (prod_zero b z)
  grind
/-- where the end is 0, the last angle has the sign of the count -/
theorem par_last {J K : Nat → Rat} {p : Rat} {n : Nat} (hK : ∀ j, 0 < j → j ≤ n → 0 < K j) (h : ea J K p n = 0) : 0 < alt (cnt J K p n) * xa J K p n := by
  have hh := ph_hp (J := J) (p := p) n hK
  have e := ea_ph J K p n
  rw [h] at e
  have z := prod_zero (alt_ne _) e.symm
  have c : cnt J K p n = (ph J K p n).1 := by
    unfold cnt
    simp only
    rw [if_neg (by rw [z]; decide +kernel), Nat.add_zero]
  rw [c, (ph_row J K p n).1, (sq_one (alt_sq (ph J K p n).1)).1]
  rcases hh with q | ⟨q, r⟩
  · exact q
  · exfalso
    rw [q] at z
    grind
theorem alt_two {a b : Nat} (h : 0 < alt a * alt b) : a % 2 = b % 2 := by
  unfold alt at h
  split at h <;> split at h <;> first | omega | exact absurd h (by decide +kernel)
theorem alt_not {a b : Nat} (h : alt a * alt b < 0) : a % 2 ≠ b % 2 := by
  unfold alt at h
  split at h <;> split at h <;> first | omega | exact absurd h (by decide +kernel)
end Mx
/-! The counts on both sides of the turning amount. -/
namespace Mx
open PySem
/-- counts, ends and last angles by the amount in a slot; up: a greater amount makes slower -/
structure Fam (c : Rat → Nat) (E X : Rat → Rat) (up : Bool) : Prop where
  par : ∀ x, 0 < x → E x ≠ 0 → 0 < alt (c x) * E x
  last : ∀ x, 0 < x → E x = 0 → 0 < alt (c x) * X x
  mono : ∀ x y, 0 < x → x ≤ y → (up = true → c x ≤ c y ∧ c y ≤ c x + 1) ∧ (up = false → c y ≤ c x ∧ c x ≤ c y + 1)
  wr : ∀ x y, 0 < x → x < y → (up = true → E y * X x - E x * X y ≤ 0) ∧ (up = false → 0 ≤ E y * X x - E x * X y)
  both : ∀ x y, 0 < x → 0 < y → x ≠ y → E x = 0 → E y = 0 → ∀ u v, 0 < u → 0 < v → c u = c v
theorem mul_pos4 {a b x y : Rat} (h1 : 0 < a * x) (h2 : 0 < b * y) (h : 0 < x * y) : 0 < a * b := by
  have h3 := Rat.mul_pos h1 h2
  rcases Rat.le_total (a := a * b) (b := 0) with q | q
  · exfalso
    have : a * x * (b * y) = (a * b) * (x * y) := by grind
    rw [this] at h3
    have : (a * b) * (x * y) ≤ 0 := by
      have := Rat.mul_nonneg (show (0 : Rat) ≤ -(a * b) by grind) (Rat.le_of_lt h)
      grind
    grind
  · have : a * b ≠ 0 := fun z => by
      have e : a * x * (b * y) = (a * b) * (x * y) := by grind
      rw [e, z] at h3
      grind
    grind
theorem mul_neg4 {a b x y : Rat} (h1 : 0 < a * x) (h2 : 0 < b * y) (h : x * y < 0) : a * b < 0 := by
  have := mul_pos4 (a := a) (b := -b) (x := x) (y := -y) h1 (by grind) (by grind)
  grind
section
variable {c : Rat → Nat} {E X : Rat → Rat} {up : Bool} {a b : Rat} {m : Rat → Rat}
theorem Fam.same (F : Fam c E X up) {x y : Rat} (hx : 0 < x) (hy : 0 < y) (h : 0 < E x * E y) : c x = c y := by
  have ex : E x ≠ 0 := fun z => by rw [z] at h; grind
  have ey : E y ≠ 0 := fun z => by rw [z] at h; grind
  have p := alt_two (mul_pos4 (F.par x hx ex) (F.par y hy ey) h)
  rcases Rat.le_total (a := x) (b := y) with q | q
  · obtain ⟨m1, m2⟩ := F.mono x y hx q
    cases up with
    | true => have := m1 rfl; omega
    | false => have := m2 rfl; omega
  · obtain ⟨m1, m2⟩ := F.mono y x hy q
    cases up with
    | true => have := m1 rfl; omega
    | false => have := m2 rfl; omega
/-- no turning amount: one count -/
theorem Fam.flat (F : Fam c E X up) (hm : ∀ x, 0 < x → 0 < m x) (hE : ∀ x, 0 < x → E x * m x = a + x * b) (h : b = 0 ∨ ¬ 0 < -a / b) : ∀ x y, 0 < x → 0 < y → c x = c y := by
  have sg : ∀ x y, 0 < x → 0 < y → 0 < (a + x * b) * (a + y * b) → c x = c y := fun x y hx hy q => by
    refine F.same hx hy ?_
    rw [← hE x hx, ← hE y hy] at q
    have mp := Rat.mul_pos (hm x hx) (hm y hy)
    rcases Rat.le_total (a := E x * E y) (b := 0) with r | r
    · exfalso
      have := Rat.mul_nonneg (show (0 : Rat) ≤ -(E x * E y) by grind) (Rat.le_of_lt mp)
      grind
    · have : E x * E y ≠ 0 := fun z => by
        have e : E x * m x * (E y * m y) = (E x * E y) * (m x * m y) := by grind
        rw [e, z] at q
        grind
      grind
  intro x y hx hy
  by_cases hb : b = 0
  · by_cases ha : a = 0
    · have z : ∀ x, 0 < x → E x = 0 := fun x hx => by
        have := hE x hx
        rw [ha, hb] at this
        have h0 := hm x hx
        have : E x * m x = 0 := by grind
        rw [Rat.mul_comm] at this
        exact prod_zero (by grind) this
      exact F.both 1 2 (by decide +kernel) (by decide +kernel) (by decide +kernel) (z 1 (by decide +kernel)) (z 2 (by decide +kernel)) x y hx hy
    · refine sg x y hx hy ?_
      rw [hb]
      have := sq_nn a
      have n : a * a ≠ 0 := fun z => ha (sq_zero z)
      grind
  · have ht : ¬ 0 < -a / b := h.resolve_left hb
    refine sg x y hx hy ?_
    have e : -a / b * b = -a := by grind
    generalize -a / b = t at ht e
    have ea' : a = -(t * b) := by grind
    have x0 : 0 < x - t := by grind
    have y0 : 0 < y - t := by grind
    have b2 : 0 < b * b := by
      have := sq_nn b
      have n : b * b ≠ 0 := fun z => hb (sq_zero z)
      grind
    have := Rat.mul_pos (Rat.mul_pos x0 y0) b2
    have e2 : (a + x * b) * (a + y * b) = (x - t) * (y - t) * (b * b) := by rw [ea']; grind
    rw [e2]
    exact this
/-- at the turning amount the count is the lesser one -/
theorem Fam.turn (F : Fam c E X up) (hm : ∀ x, 0 < x → 0 < m x) (hE : ∀ x, 0 < x → E x * m x = a + x * b) (hb : b ≠ 0) {t : Rat} (et : t = -a / b) (ht : 0 < t) :
    (up = true → (∀ x, 0 < x → x ≤ t → c x = c t) ∧ ∀ x, t < x → c x = c t + 1) ∧ (up = false → (∀ x, 0 < x → x < t → c x = c t + 1) ∧ ∀ x, t ≤ x → c x = c t) := by
  have e : t * b = -a := by rw [et]; grind
  have z : E t = 0 := by
    have := hE t ht
    have h0 := hm t ht
    have q : E t * m t = 0 := by grind
    rw [Rat.mul_comm] at q
    exact prod_zero (by grind) q
  have nz : ∀ x, 0 < x → x ≠ t → E x ≠ 0 := fun x hx hne q => by
    have := hE x hx
    rw [q] at this
    have : (x - t) * b = 0 := by grind
    rw [Rat.mul_comm] at this
    have := prod_zero hb this
    grind
  have L := F.last t ht z
  have Xt : X t ≠ 0 := fun q => by rw [q] at L; grind
  refine ⟨fun hu => ?_, fun hu => ?_⟩
  · have above : ∀ x, t < x → c x = c t + 1 := fun x hx => by
      have x0 : 0 < x := by grind
      have w := (F.wr t x ht hx).1 hu
      rw [z] at w
      have n := nz x x0 (by grind)
      have pe := F.par x x0 n
      have w2 : E x * X t < 0 := by
        have : E x * X t ≠ 0 := fun q => Xt (prod_zero n q)
        grind
      have := alt_not (mul_neg4 pe L w2)
      have := (F.mono t x ht (by grind)).1 hu
      omega
    refine ⟨fun x hx hxt => ?_, above⟩
    have := (F.mono x t hx hxt).1 hu
    have h2 := above (t + 1) (by grind)
    have := (F.mono x (t + 1) hx (by grind)).1 hu
    omega
  · have below : ∀ x, 0 < x → x < t → c x = c t + 1 := fun x x0 hx => by
      have w := (F.wr x t x0 hx).2 hu
      rw [z] at w
      have n := nz x x0 (by grind)
      have pe := F.par x x0 n
      have w2 : E x * X t < 0 := by
        have : E x * X t ≠ 0 := fun q => Xt (prod_zero n q)
        grind
      have := alt_not (mul_neg4 pe L w2)
      have := (F.mono x t x0 (by grind)).2 hu
      omega
    refine ⟨below, fun x hx => ?_⟩
    have x0 : 0 < x := by grind
    have := (F.mono t x ht hx).2 hu
    have h0 : 0 < t / 2 := by grind
    have h2 := below (t / 2) h0 (by grind)
    have := (F.mono (t / 2) x h0 (by grind)).2 hu
    omega
end
/-! ### a line's slot -/
def sJ (J : Nat → Rat) (s : Bool) (i : Nat) (x : Rat) : Nat → Rat := if s then upd1 J i x else J
def sK (K : Nat → Rat) (s : Bool) (i : Nat) (x : Rat) : Nat → Rat := if s then K else upd1 K i x
/-- a line's numbers -/
structure Num (J K : Nat → Rat) (n : Nat) : Prop where
  j : ∀ i, i ≤ n → 0 < J i
  k : ∀ i, 0 < i → i ≤ n → 0 < K i
  k0 : 0 ≤ K 0
  kn : 0 ≤ K (n + 1)
def okS (s : Bool) (i n : Nat) : Prop := if s then i ≤ n else i ≤ n + 1
def inner (s : Bool) (i n : Nat) : Prop := s = false ∧ 0 < i ∧ i ≤ n
instance (s : Bool) (i n : Nat) : Decidable (inner s i n) := by unfold inner; infer_instance
theorem Num.put {J K : Nat → Rat} {n : Nat} (h : Num J K n) {s : Bool} {i : Nat} {x : Rat} (hx : 0 < x) : Num (sJ J s i x) (sK K s i x) n := by
  cases s with
  | true =>
    refine ⟨fun j hj => ?_, h.k, h.k0, h.kn⟩
    show 0 < upd1 J i x j
    unfold upd1
    split
    · exact hx
    · exact h.j j hj
  | false =>
    have g : ∀ j, 0 ≤ K j → 0 ≤ upd1 K i x j := fun j hj => by
      unfold upd1
      split
      · exact Rat.le_of_lt hx
      · exact hj
    refine ⟨h.j, fun j a b => ?_, g 0 h.k0, g (n + 1) h.kn⟩
    show 0 < upd1 K i x j
    unfold upd1
    split
    · exact hx
    · exact h.k j a b
theorem kne {K : Nat → Rat} {n : Nat} (h : ∀ i, 0 < i → i ≤ n → 0 < K i) : ∀ i, 0 < i → i ≤ n → K i ≠ 0 := fun i a b z => by
  have := h i a b
  rw [z] at this
  grind
theorem cnt_row {J K J' K' : Nat → Rat} {p : Rat} {n : Nat} (h : ∀ j, j ≤ n → xa J' K' p j = xa J K p j) (he : ea J' K' p n = ea J K p n) : cnt J' K' p n = cnt J K p n := by
  rw [← chs_cnt, ← chs_cnt, he]
  congr 3
  apply List.map_congr_left
  intro j hj
  rw [h j (by have := List.mem_range.mp hj; omega)]
theorem rat_nn_mul {a b : Rat} (h : 0 ≤ a) (hb : 0 ≤ b) : 0 ≤ a * b := Rat.mul_nonneg h hb
theorem fam_slot {J K : Nat → Rat} {p : Rat} {n : Nat} (h : Num J K n) (hp0 : 0 ≤ p) {s : Bool} {i : Nat} (hi : okS s i n) :
    Fam (fun x => cnt (sJ J s i x) (sK K s i x) p n) (fun x => ea (sJ J s i x) (sK K s i x) p n) (fun x => xa (sJ J s i x) (sK K s i x) p n) s := by
  refine ⟨fun x hx hne => par_pos hne, fun x hx he => par_last (h.put hx).k he, fun x y hx hxy => ?_, fun x y hx hxy => ?_, fun x y hx hy hne ex ey u v hu hv => ?_⟩
  · have hy : 0 < y := by grind
    have Nx := h.put (s := s) (i := i) hx
    have Ny := h.put (s := s) (i := i) hy
    cases s with
    | true =>
      have hi : i ≤ n := hi
      refine ⟨fun _ => ⟨?_, ?_⟩, (fun z => nomatch z)⟩
      · refine cnt_more hp0 n (fun j hj => ?_) h.k h.kn fun j hj => Rat.le_refl
        show upd1 J i x j ≤ upd1 J i y j
        unfold upd1
        split
        · exact hxy
        · exact Rat.le_refl
      · refine cnt_disc hi (fun j hj ne => ?_) h.k h.kn
        show upd1 J i x j = upd1 J i y j
        rw [upd1_ne _ _ ne, upd1_ne _ _ ne]
    | false =>
      have hi : i ≤ n + 1 := hi
      have off : ∀ j, j ≠ i → upd1 K i y j = upd1 K i x j := fun j ne => by rw [upd1_ne _ _ ne, upd1_ne _ _ ne]
      refine ⟨(fun z => nomatch z), fun _ => ⟨?_, ?_⟩⟩
      · refine cnt_more hp0 n (fun j hj => Rat.le_refl) Nx.k Nx.kn (fun j hj => ?_)
        show upd1 K i x j ≤ upd1 K i y j
        unfold upd1
        split
        · exact hxy
        · exact Rat.le_refl
      · show cnt J (upd1 K i x) p n ≤ cnt J (upd1 K i y) p n + 1
        rcases Nat.eq_zero_or_pos i with z | z
        · subst z
          exact cnt_first (fun j a b => off j (by omega)) Nx.k0 Nx.k Nx.kn
        · by_cases q : i = n + 1
          · exact cnt_last fun j hj => off j (by omega)
          · obtain ⟨m, rfl⟩ : ∃ m, i = m + 1 := ⟨i - 1, by omega⟩
            exact cnt_inner (i := m) (by omega) (fun j hj ne => off j ne) Nx.k Ny.k Nx.kn
  · have hy : 0 < y := by grind
    have Nx := h.put (s := s) (i := i) hx
    have Ny := h.put (s := s) (i := i) hy
    cases s with
    | true =>
      have hi : i ≤ n := hi
      refine ⟨fun _ => ?_, (fun z => nomatch z)⟩
      have e := id_disc (J := upd1 J i x) (J' := upd1 J i y) (K := K) (p := p) hi (fun j hj ne => by rw [upd1_ne _ _ ne, upd1_ne _ _ ne]) (kne h.k)
      rw [upd1_at, upd1_at] at e
      show ea (upd1 J i y) K p n * xa (upd1 J i x) K p n - ea (upd1 J i x) K p n * xa (upd1 J i y) K p n ≤ 0
      rw [e]
      have := rat_nn_mul (rat_nn_mul hp0 (show (0 : Rat) ≤ y - x by grind)) (sq_nn (xa (upd1 J i x) K p i))
      grind
    | false =>
      have hi : i ≤ n + 1 := hi
      have off : ∀ j, j ≠ i → upd1 K i y j = upd1 K i x j := fun j ne => by rw [upd1_ne _ _ ne, upd1_ne _ _ ne]
      refine ⟨(fun z => nomatch z), fun _ => ?_⟩
      show 0 ≤ ea J (upd1 K i y) p n * xa J (upd1 K i x) p n - ea J (upd1 K i x) p n * xa J (upd1 K i y) p n
      rcases Nat.eq_zero_or_pos i with z | z
      · subst z
        rw [id_first (fun j a b => off j (by omega)) (kne Nx.k), upd1_at, upd1_at]
        grind
      · by_cases q : i = n + 1
        · subst q
          rw [(id_last fun j hj => off j (by omega)).2, upd1_at, upd1_at]
          exact rat_nn_mul (by grind) (sq_nn _)
        · obtain ⟨m, rfl⟩ : ∃ m, i = m + 1 := ⟨i - 1, by omega⟩
          rw [id_inner (i := m) (by omega) (fun j hj ne => off j ne) (kne Nx.k) (by rw [upd1_at]; grind), upd1_at, upd1_at, Rat.div_def]
          have := Rat.inv_pos.mpr (Rat.mul_pos hx hy)
          exact rat_nn_mul (rat_nn_mul (by grind) (sq_nn _)) (Rat.le_of_lt this)
  · have Nx := h.put (s := s) (i := i) hx
    have Ny := h.put (s := s) (i := i) hy
    cases s with
    | true =>
      have hi : i ≤ n := hi
      have e := id_disc (J := upd1 J i x) (J' := upd1 J i y) (K := K) (p := p) hi (fun j hj ne => by rw [upd1_ne _ _ ne, upd1_ne _ _ ne]) (kne h.k)
      rw [upd1_at, upd1_at] at e
      have ex : ea (upd1 J i x) K p n = 0 := ex
      have ey : ea (upd1 J i y) K p n = 0 := ey
      rw [ex, ey] at e
      have z : p * (xa (upd1 J i x) K p i * xa (upd1 J i x) K p i) = 0 := by
        have ne : y - x ≠ 0 := fun q => hne (by grind)
        refine prod_zero ne ?_
        grind
      have z2 : p * xa (upd1 J i x) K p i = 0 := by
        by_cases q : p = 0
        · rw [q]; grind
        · rw [sq_zero (prod_zero q z)]; grind
      -- the row doesn't feel the amount
      have base : ∀ w, rowAt (upd1 J i w) K p i = rowAt (upd1 J i x) K p i := fun w => row_same i (fun j hj => by rw [upd1_ne _ _ (by omega), upd1_ne _ _ (by omega)]) fun _ _ => rfl
      have all : ∀ w d, rowAt (upd1 J i w) K p (i + d) = rowAt (upd1 J i x) K p (i + d) := fun w d => by
        induction d with
        | zero => exact base w
        | succ d ih =>
          have t : p * upd1 J i w (i + d) * (rowAt (upd1 J i x) K p (i + d)).1 = p * upd1 J i x (i + d) * (rowAt (upd1 J i x) K p (i + d)).1 := by
            by_cases q : d = 0
            · subst q
              have z3 : p * (rowAt (upd1 J i x) K p (i + 0)).1 = 0 := z2
              have a1 : p * upd1 J i w (i + 0) * (rowAt (upd1 J i x) K p (i + 0)).1 = upd1 J i w (i + 0) * (p * (rowAt (upd1 J i x) K p (i + 0)).1) := by grind
              have a2 : p * upd1 J i x (i + 0) * (rowAt (upd1 J i x) K p (i + 0)).1 = upd1 J i x (i + 0) * (p * (rowAt (upd1 J i x) K p (i + 0)).1) := by grind
              rw [a1, a2, z3]
              grind
            · rw [upd1_ne _ _ (by omega), upd1_ne _ _ (by omega)]
          show rowAt (upd1 J i w) K p (i + d + 1) = rowAt (upd1 J i x) K p (i + d + 1)
          unfold rowAt
          rw [ih, t]
      have alls : ∀ w j, rowAt (upd1 J i w) K p j = rowAt (upd1 J i x) K p j := fun w j => by
        by_cases q : j ≤ i
        · exact row_same j (fun m hm => by rw [upd1_ne _ _ (by omega), upd1_ne _ _ (by omega)]) fun _ _ => rfl
        · obtain ⟨d, rfl⟩ : ∃ d, j = i + d := ⟨j - i, by omega⟩
          exact all w d
      have cw : ∀ w, cnt (upd1 J i w) K p n = cnt (upd1 J i x) K p n := fun w => cnt_row (fun j hj => by unfold xa; rw [alls]) (by unfold ea xa ya; rw [alls w (n + 1), alls w n])
      show cnt (upd1 J i u) K p n = cnt (upd1 J i v) K p n
      rw [cw u, cw v]
    | false =>
      have hi : i ≤ n + 1 := hi
      have off : ∀ w j, j ≠ i → upd1 K i w j = upd1 K i x j := fun w j ne => by rw [upd1_ne _ _ ne, upd1_ne _ _ ne]
      have ex : ea J (upd1 K i x) p n = 0 := ex
      have ey : ea J (upd1 K i y) p n = 0 := ey
      show cnt J (upd1 K i u) p n = cnt J (upd1 K i v) p n
      rcases Nat.eq_zero_or_pos i with z | z
      · exfalso
        subst z
        have e := id_first (J := J) (p := p) (fun j a b => off y j (by omega)) (kne Nx.k)
        rw [ex, ey, upd1_at, upd1_at] at e
        grind
      · by_cases q : i = n + 1
        · exfalso
          subst q
          obtain ⟨_, e⟩ := id_last (J := J) (p := p) (n := n) fun j (hj : j ≤ n) => off y j (by omega)
          rw [ex, ey, upd1_at, upd1_at] at e
          have ne : y - x ≠ 0 := fun q => hne (by grind)
          have z2 : xa J (upd1 K (n + 1) x) p n = 0 := sq_zero (prod_zero ne (by grind))
          have L : 0 < alt (cnt J (upd1 K (n + 1) x) p n) * xa J (upd1 K (n + 1) x) p n := par_last Nx.k ex
          rw [z2] at L
          grind
        · obtain ⟨m, rfl⟩ : ∃ m, i = m + 1 := ⟨i - 1, by omega⟩
          have e := id_inner (J := J) (p := p) (i := m) (n := n) (by omega) (fun j hj ne => off y j ne) (kne Nx.k) (by rw [upd1_at]; grind)
          rw [ex, ey, upd1_at, upd1_at] at e
          have ne : y - x ≠ 0 := fun q => hne (by grind)
          have z2 : ya J (upd1 K (m + 1) x) p (m + 1) = 0 := by
            refine sq_zero (prod_zero ne ?_)
            have h1 : x ≠ 0 := by grind
            have h2 : y ≠ 0 := by grind
            grind
          have base : ∀ w j, j ≤ m → rowAt J (upd1 K (m + 1) w) p j = rowAt J (upd1 K (m + 1) x) p j := fun w j hj => row_same j (fun _ _ => rfl) fun a b => off w a (by omega)
          have yy : ∀ w, ya J (upd1 K (m + 1) w) p (m + 1) = 0 := fun w => by
            have : ya J (upd1 K (m + 1) w) p (m + 1) = ya J (upd1 K (m + 1) x) p (m + 1) := by
              rw [ya_succ, ya_succ]
              unfold xa ya
              rw [base w m (by omega)]
            rw [this, z2]
          have nxt : ∀ w, rowAt J (upd1 K (m + 1) w) p (m + 1) = rowAt J (upd1 K (m + 1) x) p (m + 1) := fun w => by
            have ax : ∀ w, xa J (upd1 K (m + 1) w) p (m + 1) = xa J (upd1 K (m + 1) x) p m := fun w => by
              rw [xa_succ, yy w, Rat.div_def]
              have : xa J (upd1 K (m + 1) w) p m = xa J (upd1 K (m + 1) x) p m := by unfold xa; rw [base w m (by omega)]
              grind
            refine Prod.ext ?_ ?_
            · show xa J (upd1 K (m + 1) w) p (m + 1) = xa J (upd1 K (m + 1) x) p (m + 1)
              rw [ax w, ax x]
            · show ya J (upd1 K (m + 1) w) p (m + 1) = ya J (upd1 K (m + 1) x) p (m + 1)
              rw [yy w, yy x]
          have all : ∀ w d, rowAt J (upd1 K (m + 1) w) p (m + 1 + d) = rowAt J (upd1 K (m + 1) x) p (m + 1 + d) := fun w d => by
            induction d with
            | zero => exact nxt w
            | succ d ih =>
              show rowAt J (upd1 K (m + 1) w) p (m + 1 + d + 1) = rowAt J (upd1 K (m + 1) x) p (m + 1 + d + 1)
              unfold rowAt
              rw [ih, off w (m + 1 + d + 1) (by omega)]
          have alls : ∀ w j, rowAt J (upd1 K (m + 1) w) p j = rowAt J (upd1 K (m + 1) x) p j := fun w j => by
            by_cases q : j ≤ m
            · exact base w j q
            · obtain ⟨d, rfl⟩ : ∃ d, j = m + 1 + d := ⟨j - (m + 1), by omega⟩
              exact all w d
          have cw : ∀ w, cnt J (upd1 K (m + 1) w) p n = cnt J (upd1 K (m + 1) x) p n := fun w => cnt_row (fun j hj => by unfold xa; rw [alls]) (by unfold ea xa ya; rw [alls w (n + 1), alls w n, off w (n + 1) (by omega)])
          rw [cw u, cw v]

/-! ### the end by the amount -/
theorem ip_congr {K K' : Nat → Rat} : ∀ n, (∀ j, 0 < j → j ≤ n → K' j = K j) → ip K' n = ip K n
  | 0, _ => rfl
  | n + 1, h => by
    show ip K' n * K' (n + 1) = ip K n * K (n + 1)
    rw [ip_congr n fun j a b => h j a (by omega), h (n + 1) (by omega) (by omega)]
theorem ip_upd {K : Nat → Rat} {i : Nat} (x : Rat) (h0 : 0 < i) : ∀ n, i ≤ n → ip (upd1 K i x) n = x * ip (upd1 K i 1) n
  | 0, h => by omega
  | n + 1, h => by
    show ip (upd1 K i x) n * upd1 K i x (n + 1) = x * (ip (upd1 K i 1) n * upd1 K i 1 (n + 1))
    by_cases q : i = n + 1
    · subst q
      rw [upd1_at, upd1_at, ip_congr (K := upd1 K (n + 1) 1) n fun j a b => by rw [upd1_ne _ _ (by omega), upd1_ne _ _ (by omega)]]
      grind
    · rw [ip_upd x h0 n (by omega), upd1_ne _ _ (by omega), upd1_ne _ _ (by omega)]
      grind
theorem ip_out {K : Nat → Rat} {i n : Nat} (x : Rat) (h : i = 0 ∨ n < i) : ip (upd1 K i x) n = ip K n := ip_congr n fun j a b => upd1_ne _ _ (by omega)
/-- what the amount itself multiplies the end by -/
def mS (s : Bool) (i n : Nat) (x : Rat) : Rat := if inner s i n then x else 1
/-- the product of the stiffnesses but the amount -/
def piS (K : Nat → Rat) (s : Bool) (i n : Nat) : Rat := ip (sK K s i 1) n
theorem ip_slot {K : Nat → Rat} {s : Bool} {i n : Nat} (x : Rat) (hi : okS s i n) : ip (sK K s i x) n = mS s i n x * piS K s i n := by
  unfold mS piS
  cases s with
  | true =>
    rw [if_neg (fun z => by cases z.1)]
    show ip K n = 1 * ip K n
    grind
  | false =>
    show ip (upd1 K i x) n = _ * ip (upd1 K i 1) n
    by_cases q : inner false i n
    · rw [if_pos q]
      exact ip_upd x q.2.1 n q.2.2
    · rw [if_neg q]
      have : i = 0 ∨ n < i := by
        by_cases z : i = 0
        · exact .inl z
        · refine .inr ?_
          by_cases w : i ≤ n
          · exact absurd ⟨rfl, by omega, w⟩ q
          · omega
      rw [ip_out x this, ip_out 1 this]
      grind
/-- the determinant with the amount x, by powers of the pace -/
def dS (J K : Nat → Rat) (s : Bool) (i n : Nat) (x : Rat) : Nat → Rat := dc (sJ J s i x) (sK K s i x) (n + 1)
theorem dS_af (J K : Nat → Rat) {s : Bool} {i n : Nat} (hi : okS s i n) (x : Rat) (k : Nat) : dS J K s i n x k = dS J K s i n 0 k + x * (dS J K s i n 1 k - dS J K s i n 0 k) := by
  cases s with
  | true => exact (af_disc_all J K (i := i) (n := n + 1) (by have : i ≤ n := hi; omega)).at_ x k
  | false => exact (af_shaft_all J K (i := i) (n := n + 1) hi).at_ x k
theorem dS_en {J K : Nat → Rat} {n : Nat} (h : Num J K n) {s : Bool} {i : Nat} (hi : okS s i n) {x : Rat} (hx : 0 < x) (k : Nat) : dS J K s i n x k = mS s i n x * piS K s i n * en (sJ J s i x) (sK K s i x) n k := by
  have N := h.put (s := s) (i := i) hx
  unfold dS
  rw [dc_en n (kne N.k), ip_slot x hi]
theorem piS_pos {J K : Nat → Rat} {n : Nat} (h : Num J K n) (s : Bool) (i : Nat) : 0 < piS K s i n := ip_pos n (h.put (J := J) (K := K) (s := s) (i := i) (x := 1) (by decide +kernel)).k
theorem mS_pos {s : Bool} {i n : Nat} {x : Rat} (hx : 0 < x) : 0 < mS s i n x := by
  unfold mS
  split
  · exact hx
  · decide +kernel
/-- the pair's values at a pace -/
def aS (J K : Nat → Rat) (s : Bool) (i n : Nat) (p : Rat) : Rat := fev (dS J K s i n 0) p (n + 2)
def bS (J K : Nat → Rat) (s : Bool) (i n : Nat) (p : Rat) : Rat := fev (fun k => dS J K s i n 1 k - dS J K s i n 0 k) p (n + 2)
theorem ea_slot {J K : Nat → Rat} {n : Nat} (h : Num J K n) {s : Bool} {i : Nat} (hi : okS s i n) {p x : Rat} (hx : 0 < x) :
    ea (sJ J s i x) (sK K s i x) p n * (mS s i n x * piS K s i n) = aS J K s i n p + x * bS J K s i n p := by
  have N := h.put (s := s) (i := i) hx
  rw [← fev_en (p := p) n (fun j q => N.j j (by omega)) N.k]
  have e1 : aS J K s i n p + x * bS J K s i n p = fev (dS J K s i n x) p (n + 2) := by
    have a : ∀ k, dS J K s i n x k = 1 * dS J K s i n 0 k + x * (dS J K s i n 1 k - dS J K s i n 0 k) := fun k => by
      rw [dS_af J K hi x k]
      grind
    rw [fev_congr a, fev_lin]
    unfold aS bS
    grind
  have e2 : ∀ k, dS J K s i n x k = (mS s i n x * piS K s i n) * en (sJ J s i x) (sK K s i x) n k + 0 * 0 := fun k => by
    rw [dS_en h hi hx]
    grind
  rw [e1, fev_congr e2, fev_lin (g := fun _ => 0)]
  grind
end Mx
/-! Rows of whole numbers: shifted, trimmed, their sizes; a line's table. -/
namespace Mx
open PySem
/-- times the pace; nothing stays nothing -/
def rsd (u : List Int) : List Int := if u = [] then [] else 0 :: u
theorem rsd_ne {u : List Int} (h : u ≠ []) : rsd u = 0 :: u := if_neg h
theorem rsd_nil : rsd [] = [] := if_pos rfl
theorem rsd_get (u : List Int) : (rsd u).getD 0 0 = 0 ∧ ∀ k, (rsd u).getD (k + 1) 0 = u.getD k 0 := by
  by_cases h : u = []
  · subst h
    rw [rsd_nil]
    exact ⟨rfl, fun k => rfl⟩
  · rw [rsd_ne h]
    exact ⟨rfl, fun k => by rw [List.getD_cons_succ]⟩
theorem rsd_len (u : List Int) : (rsd u).length ≤ u.length + 1 := by
  by_cases h : u = []
  · subst h
    rw [rsd_nil]
    exact Nat.zero_le _
  · rw [rsd_ne h]
    exact Nat.le_refl _
theorem rsd_bd {u : List Int} {e : Nat} (h : bd u e) : bd (rsd u) e := bd.of_get fun k => by
  obtain ⟨a, b⟩ := rsd_get u
  cases k with
  | zero => rw [a]; exact Nat.pow_pos (by decide)
  | succ k => rw [b]; exact h.get k
theorem rsd_sh {u : List Int} {c : Rat} {f : Nat → Rat} (r : ∀ k, ((u.getD k 0 : Int) : Rat) = c * f k) (k : Nat) : (((rsd u).getD k 0 : Int) : Rat) = c * sh f k := by
  obtain ⟨a, b⟩ := rsd_get u
  cases k with
  | zero =>
    rw [a]
    show ((0 : Int) : Rat) = c * 0
    have : ((0 : Int) : Rat) = 0 := rfl
    grind
  | succ k =>
    rw [b, r]
    rfl
theorem trim_split (u : List Int) : ∃ m, u = trim u ++ List.replicate m 0 := by
  have e : u.reverse = u.reverse.takeWhile (· == 0) ++ u.reverse.dropWhile (· == 0) := (List.takeWhile_append_dropWhile ..).symm
  refine ⟨(u.reverse.takeWhile (· == 0)).length, ?_⟩
  have z : u.reverse.takeWhile (· == 0) = List.replicate (u.reverse.takeWhile (· == 0)).length 0 := by
    apply List.eq_replicate_iff.mpr
    refine ⟨rfl, fun b hb => ?_⟩
    have := List.all_takeWhile (l := u.reverse) (p := (· == 0))
    have := List.all_eq_true.mp this b hb
    simpa using this
  have e2 := congrArg List.reverse e
  rw [List.reverse_reverse, List.reverse_append] at e2
  unfold trim
  generalize (u.reverse.takeWhile (· == 0)).length = m at z
  rw [z, List.reverse_replicate] at e2
  exact e2
theorem trim_get (u : List Int) (k : Nat) : (trim u).getD k 0 = u.getD k 0 := by
  obtain ⟨m, e⟩ := trim_split u
  conv => rhs; rw [e]
  by_cases h : k < (trim u).length
  · rw [List.getD_eq_getElem?_getD, List.getD_eq_getElem?_getD, List.getElem?_append_left h]
  · rw [getD_out (by omega), List.getD_eq_getElem?_getD, List.getElem?_append_right (by omega), List.getElem?_replicate]
    split <;> rfl
theorem trim_len (u : List Int) : (trim u).length ≤ u.length := by
  obtain ⟨m, e⟩ := trim_split u
  have := congrArg List.length e
  rw [List.length_append] at this
  omega
theorem dropWhile_head {p : Int → Bool} : ∀ l : List Int, ∀ x, (l.dropWhile p).head? = some x → p x = false
  | [], x, h => by simp at h
  | y :: ys, x, h => by
    rw [List.dropWhile_cons] at h
    split at h
    · exact dropWhile_head ys x h
    · rename_i q
      simp at h
      rw [← h]
      simpa using q
theorem trim_last (u : List Int) : (trim u).getLast? ≠ some 0 := by
  intro z
  unfold trim at z
  rw [List.getLast?_reverse] at z
  have := dropWhile_head _ _ z
  simp at this
theorem trim_bd {u : List Int} {e : Nat} (h : bd u e) : bd (trim u) e := bd.of_get fun k => by rw [trim_get]; exact h.get k
/-- the same numbers at all places, nothing but the lead last: the same row -/
theorem row_ext {u v : List Int} (hu : u.getLast? ≠ some 0) (hv : v.getLast? ≠ some 0) (h : ∀ k, u.getD k 0 = v.getD k 0) : u = v := by
  have aux : ∀ {u v : List Int}, u.getLast? ≠ some 0 → (∀ k, u.getD k 0 = v.getD k 0) → u.length ≤ v.length := fun {u v} hu h => by
    rcases Nat.lt_or_ge v.length u.length with q | q
    · exfalso
      apply hu
      rw [List.getLast?_eq_getElem?, List.getElem?_eq_getElem (by omega)]
      have := h (u.length - 1)
      rw [getD_out (u := v) (by omega), List.getD_eq_getElem?_getD, List.getElem?_eq_getElem (by omega)] at this
      exact congrArg some this
    · exact q
  have l := Nat.le_antisymm (aux hu h) (aux hv fun k => (h k).symm)
  apply List.ext_getElem l
  intro k h1 h2
  have := h k
  rw [List.getD_eq_getElem?_getD, List.getD_eq_getElem?_getD, List.getElem?_eq_getElem h1, List.getElem?_eq_getElem h2] at this
  exact this

/-! ### sizes by sums -/
def nr (f : Nat → Int) : Nat → Nat
  | 0 => 0
  | n + 1 => nr f n + (f n).natAbs
def nb (u : List Int) (c : Nat) : Prop := ∀ n, nr (fun k => u.getD k 0) n ≤ c
theorem nr_congr {f g : Nat → Int} (h : ∀ k, f k = g k) : ∀ n, nr f n = nr g n
  | 0 => rfl
  | n + 1 => by show nr f n + _ = nr g n + _; rw [nr_congr h n, h n]
theorem nr_lin {f g : Nat → Int} {a b : Int} : ∀ n, nr (fun k => a * f k + b * g k) n ≤ a.natAbs * nr f n + b.natAbs * nr g n
  | 0 => Nat.zero_le _
  | n + 1 => by
    show nr (fun k => a * f k + b * g k) n + (a * f n + b * g n).natAbs ≤ a.natAbs * (nr f n + (f n).natAbs) + b.natAbs * (nr g n + (g n).natAbs)
    have := nr_lin (f := f) (g := g) (a := a) (b := b) n
    have h := Int.natAbs_add_le (a * f n) (b * g n)
    rw [Int.natAbs_mul, Int.natAbs_mul] at h
    rw [Nat.mul_add, Nat.mul_add]
    omega
theorem nb.comb {u v : List Int} {a b : Int} {c d : Nat} (hu : nb u c) (hv : nb v d) : nb (comb a u b v) (a.natAbs * c + b.natAbs * d) := fun n => by
  rw [nr_congr (fun k => comb_get a u b v k) n]
  refine Nat.le_trans (nr_lin n) ?_
  have := Nat.mul_le_mul_left a.natAbs (hu n)
  have := Nat.mul_le_mul_left b.natAbs (hv n)
  omega
theorem nb.trim {u : List Int} {c : Nat} (h : nb u c) : nb (trim u) c := fun n => by
  rw [nr_congr (fun k => trim_get u k) n]
  exact h n
theorem nr_head {f : Nat → Int} : ∀ n, nr f (n + 1) = (f 0).natAbs + nr (fun k => f (k + 1)) n
  | 0 => by show 0 + (f 0).natAbs = (f 0).natAbs + 0; omega
  | n + 1 => by
    show nr f (n + 1) + (f (n + 1)).natAbs = (f 0).natAbs + (nr (fun k => f (k + 1)) n + (f (n + 1)).natAbs)
    rw [nr_head n]
    omega
theorem nb.rsd {u : List Int} {c : Nat} (h : nb u c) : nb (rsd u) c := fun n => by
  obtain ⟨a, b⟩ := rsd_get u
  cases n with
  | zero => exact Nat.zero_le _
  | succ n =>
    rw [nr_head, a, nr_congr b n]
    have := h n
    simpa using this
theorem nb.up {u : List Int} {c d : Nat} (h : nb u c) (q : c ≤ d) : nb u d := fun n => Nat.le_trans (h n) q
theorem nb.get {u : List Int} {c : Nat} (h : nb u c) (k : Nat) : (u.getD k 0).natAbs ≤ c := by
  have := h (k + 1)
  have e : nr (fun k => u.getD k 0) (k + 1) = nr (fun k => u.getD k 0) k + (u.getD k 0).natAbs := rfl
  omega
theorem nb.bd {u : List Int} {c e : Nat} (h : nb u c) (q : c < 2 ^ e) : bd u e := bd.of_get fun k => Nat.lt_of_le_of_lt (h.get k) q
theorem nb.tail {x : Int} {xs : List Int} {c : Nat} (h : nb (x :: xs) c) : ∃ d, nb xs d ∧ x.natAbs + d ≤ c := by
  refine ⟨c - x.natAbs, fun n => ?_, ?_⟩
  · have := h (n + 1)
    rw [nr_head] at this
    have e : nr (fun k => (x :: xs).getD (k + 1) 0) n = nr (fun k => xs.getD k 0) n := nr_congr (fun k => by rw [List.getD_cons_succ]) n
    rw [e] at this
    have e2 : ((x :: xs).getD 0 0) = x := rfl
    rw [e2] at this
    omega
  · have := h.get 0
    have e2 : ((x :: xs).getD 0 0) = x := rfl
    rw [e2] at this
    omega
theorem hor_nb {t b : Int} {M : Nat} (h1 : 1 ≤ M) (ht : t.natAbs ≤ M) (hb : b.natAbs ≤ M) : ∀ (u : List Int) (c : Nat), nb u c → (hor t b u).natAbs ≤ c * M ^ (u.length - 1)
  | [], c, _ => Nat.zero_le _
  | x :: xs, c, h => by
    obtain ⟨d, hd, hc⟩ := h.tail
    have ih := hor_nb h1 ht hb xs d hd
    show (hor t b xs * t + x * b ^ xs.length).natAbs ≤ c * M ^ (xs.length + 1 - 1)
    rw [Nat.add_sub_cancel]
    have a := Int.natAbs_add_le (hor t b xs * t) (x * b ^ xs.length)
    rw [Int.natAbs_mul, Int.natAbs_mul, Int.natAbs_pow] at a
    have p1 : b.natAbs ^ xs.length ≤ M ^ xs.length := Nat.pow_le_pow_left hb _
    have q1 : x.natAbs * b.natAbs ^ xs.length ≤ x.natAbs * M ^ xs.length := Nat.mul_le_mul_left _ p1
    have q2 : (hor t b xs).natAbs * t.natAbs ≤ d * M ^ xs.length := by
      cases xs with
      | nil => show 0 * _ ≤ _; omega
      | cons y ys =>
        have := Nat.mul_le_mul ih ht
        rw [Nat.mul_assoc, ← Nat.pow_succ] at this
        simpa using this
    have : (x.natAbs + d) * M ^ xs.length ≤ c * M ^ xs.length := Nat.mul_le_mul_right _ hc
    rw [Nat.add_mul] at this
    omega

/-! ### a row at a pace -/
def ev (u : List Int) (x : Rat) : Rat := fev (fun k => ((u.getD k 0 : Int) : Rat)) x u.length
theorem ev_rel {u : List Int} {c : Rat} {f : Nat → Rat} (r : ∀ k, ((u.getD k 0 : Int) : Rat) = c * f k) {n : Nat} (hz : ∀ k, n ≤ k → f k = 0) (hl : u.length ≤ n) (x : Rat) : ev u x = c * fev f x n := by
  unfold ev
  have z : ∀ k, u.length ≤ k → ((u.getD k 0 : Int) : Rat) = 0 := fun k hk => by rw [getD_out hk]; rfl
  obtain ⟨d, rfl⟩ : ∃ d, n = u.length + d := ⟨n - u.length, by omega⟩
  rw [← fev_more (f := fun k => ((u.getD k 0 : Int) : Rat)) z d, fev_congr (g := fun k => c * f k + 0 * 0) (fun k => by rw [r]; grind), fev_lin (g := fun _ => 0)]
  grind
theorem hor_ev {t b : Int} (hb : 0 < b) (u : List Int) : ((hor t b u : Int) : Rat) = (b : Rat) ^ (u.length - 1) * ev u ((t : Rat) / (b : Rat)) := by
  have h := hor_eq (t := t) (b := b) (by omega) u
  have nb := ratInt_ne (a := b) (by omega)
  cases u with
  | nil =>
    show ((0 : Int) : Rat) = _ * 0
    have : ((0 : Int) : Rat) = 0 := rfl
    grind
  | cons x xs =>
    rw [List.length_cons] at h ⊢
    rw [Nat.add_sub_cancel]
    rw [Rat.pow_succ] at h
    unfold ev
    rw [List.length_cons]
    generalize fev _ _ _ = z at *
    generalize ((hor t b (x :: xs) : Int) : Rat) = w at *
    have : (b : Rat) * (w - (b : Rat) ^ xs.length * z) = 0 := by grind
    have := prod_zero nb this
    grind

/-! ### the table of a line -/
structure Tb (dd ss : List Fr) : Prop where
  c1 : 1 ≤ dd.length
  c5 : dd.length ≤ 5
  len : ss.length = dd.length + 1
  dok : ∀ x ∈ dd, FOk x ∧ 0 ≤ x.1 ∧ x.1 < 64 ∧ x.2 < 64
  sok : ∀ x ∈ ss, FOk x ∧ 0 ≤ x.1 ∧ x.1 < 64 ∧ x.2 < 64
def scI (dd ss : List Fr) (i : Nat) : Nat := (((dd.getD i (0, 1)).2.natAbs.lcm (ss.getD i (0, 1)).2.natAbs).lcm (ss.getD (i + 1) (0, 1)).2.natAbs)
def scP (dd ss : List Fr) : Nat → Int
  | 0 => 1
  | i + 1 => scP dd ss i * (scI dd ss i : Int)
theorem Tb.d_get {dd ss : List Fr} (h : Tb dd ss) {i : Nat} (hi : i < dd.length) : ∃ x, dd[i]? = some x ∧ dd.getD i (0, 1) = x ∧ FOk x ∧ 0 ≤ x.1 ∧ x.1 < 64 ∧ x.2 < 64 := by
  refine ⟨dd[i], List.getElem?_eq_getElem hi, ?_, h.dok _ (List.getElem_mem hi)⟩
  rw [List.getD_eq_getElem?_getD, List.getElem?_eq_getElem hi]
  rfl
theorem Tb.s_get {dd ss : List Fr} (h : Tb dd ss) {i : Nat} (hi : i < ss.length) : ∃ x, ss[i]? = some x ∧ ss.getD i (0, 1) = x ∧ FOk x ∧ 0 ≤ x.1 ∧ x.1 < 64 ∧ x.2 < 64 := by
  refine ⟨ss[i], List.getElem?_eq_getElem hi, ?_, h.sok _ (List.getElem_mem hi)⟩
  rw [List.getD_eq_getElem?_getD, List.getElem?_eq_getElem hi]
  rfl
/-- a fraction times a multiple of its bottom -/
theorem val_scale {x : Fr} {s : Int} (h : 0 < x.2) (hd : x.2 ∣ s) : ((x.1 * (s / x.2) : Int) : Rat) = (s : Rat) * val x := by
  obtain ⟨c, rfl⟩ := hd
  rw [Int.mul_ediv_cancel_left _ (by omega)]
  have n := ratInt_ne (a := x.2) (by omega)
  unfold val
  rw [Rat.intCast_mul, Rat.intCast_mul]
  grind
theorem lcm3_dvd (a b c : Nat) : a ∣ (a.lcm b).lcm c ∧ b ∣ (a.lcm b).lcm c ∧ c ∣ (a.lcm b).lcm c :=
  ⟨Nat.dvd_trans (Nat.dvd_lcm_left a b) (Nat.dvd_lcm_left _ c), Nat.dvd_trans (Nat.dvd_lcm_right a b) (Nat.dvd_lcm_left _ c), Nat.dvd_lcm_right _ c⟩
theorem lcm_le_mul (a b : Nat) : a.lcm b ≤ a * b := by
  unfold Nat.lcm
  exact Nat.div_le_self _ _
theorem lcm3_lt {a b c : Nat} (ha : a < 64) (hb : b < 64) (hc : c < 64) : (a.lcm b).lcm c < 262144 := by
  have h1 := lcm_le_mul a b
  have h2 := lcm_le_mul (a.lcm b) c
  have h3 : a * b ≤ 63 * 63 := Nat.mul_le_mul (by omega) (by omega)
  have h4 : a.lcm b * c ≤ 3969 * 63 := Nat.mul_le_mul (by omega) (by omega)
  omega
theorem jv_set {r : List Fr} {i : Nat} (x : Fr) (hi : i < r.length) : jv (r.set i x) = upd1 (jv r) i (val x) := by
  funext j
  unfold jv upd1
  by_cases q : j = i
  · subst q
    rw [if_pos rfl, List.getD_eq_getElem?_getD, List.getElem?_set_self hi]
    rfl
  · rw [if_neg q, List.getD_eq_getElem?_getD, List.getElem?_set_ne (Ne.symm q), ← List.getD_eq_getElem?_getD]
end Mx
/-! Polynomials told by their values. -/
namespace Px
open PySem DL Mx
def pe : List Rat → Rat → Rat
  | [], _ => 0
  | a :: u, x => a + x * pe u x
def sdv (r : Rat) : List Rat → List Rat
  | [] => []
  | [_] => []
  | _ :: b :: u => pe (b :: u) r :: sdv r (b :: u)
theorem sdv_len (r : Rat) : ∀ u : List Rat, (sdv r u).length = u.length - 1
  | [] => rfl
  | [_] => rfl
  | _ :: b :: u => by
    show (sdv r (b :: u)).length + 1 = _
    rw [sdv_len r (b :: u)]
    rfl
theorem sdv_ev (r x : Rat) : ∀ u : List Rat, pe u x = pe u r + (x - r) * pe (sdv r u) x
  | [] => by
    show (0 : Rat) = 0 + (x - r) * 0
    grind
  | [a] => by
    show a + x * 0 = a + r * 0 + (x - r) * 0
    grind
  | a :: b :: u => by
    have ih := sdv_ev r x (b :: u)
    show a + x * pe (b :: u) x = a + r * pe (b :: u) r + (x - r) * (pe (b :: u) r + x * pe (sdv r (b :: u)) x)
    rw [ih]
    grind
theorem sdv_zero (r : Rat) : ∀ u : List Rat, (∀ y ∈ sdv r u, y = 0) → pe u r = 0 → ∀ y ∈ u, y = 0
  | [], _, _ => fun y hy => by simp at hy
  | [a], _, h => fun y hy => by
    have : a + r * 0 = 0 := h
    simp at hy
    rw [hy]
    grind
  | a :: b :: u, h, h2 => by
    have h1 : pe (b :: u) r = 0 := h _ (List.mem_cons_self ..)
    have ih := sdv_zero r (b :: u) (fun y hy => h y (List.mem_cons_of_mem _ hy)) h1
    have h2 : a + r * pe (b :: u) r = 0 := h2
    intro y hy
    rcases List.mem_cons.mp hy with rfl | hy
    · rw [h1] at h2
      grind
    · exact ih y hy
theorem pe_zero : ∀ (n : Nat) (u : List Rat) (m : Nat), u.length ≤ n → (∀ k : Nat, m ≤ k → pe u (k : Rat) = 0) → ∀ y ∈ u, y = 0
  | 0, u, m, hl, h => by
    obtain rfl : u = [] := List.length_eq_zero_iff.mp (by omega)
    intro y hy
    simp at hy
  | n + 1, u, m, hl, h => by
    have h0 := h m (Nat.le_refl _)
    refine sdv_zero (m : Rat) u (pe_zero n _ (m + 1) (by rw [sdv_len]; omega) fun k hk => ?_) h0
    have h1 := h k (by omega)
    rw [sdv_ev (m : Rat) (k : Rat) u, h0] at h1
    have ne : (k : Rat) - (m : Rat) ≠ 0 := fun z => by
      have : ((k : Nat) : Rat) = ((m : Nat) : Rat) := by grind
      have := Rat.natCast_inj.mp this
      omega
    have h1 : ((k : Rat) - (m : Rat)) * pe (sdv (m : Rat) u) (k : Rat) = 0 := by grind
    rcases Rat.mul_eq_zero.mp h1 with z | z
    · exact absurd z ne
    · exact z
theorem pe_get {u : List Rat} (h : ∀ x, pe u x = 0) (k : Nat) : u.getD k 0 = 0 := by
  rw [List.getD_eq_getElem?_getD]
  cases e : u[k]? with
  | none => rfl
  | some y => exact pe_zero u.length u 0 (Nat.le_refl _) (fun k _ => h _) y (List.mem_of_getElem? e)
theorem pe_ext : ∀ {u v : List Rat}, (∀ k, u.getD k 0 = v.getD k 0) → ∀ x, pe u x = pe v x
  | [], [], _, _ => rfl
  | a :: u, [], h, x => by
    have h0 : a = 0 := h 0
    have ih := pe_ext (u := u) (v := []) (fun k => by have := h (k + 1); simpa using this) x
    show a + x * pe u x = 0
    rw [ih, h0]
    show (0 : Rat) + x * 0 = 0
    grind
  | [], b :: v, h, x => by
    have h0 : 0 = b := h 0
    have ih := pe_ext (u := []) (v := v) (fun k => by have := h (k + 1); simpa using this) x
    show 0 = b + x * pe v x
    rw [← ih, ← h0]
    show 0 = (0 : Rat) + x * 0
    grind
  | a :: u, b :: v, h, x => by
    have h0 : a = b := h 0
    have ih := pe_ext (u := u) (v := v) (fun k => by have := h (k + 1); simpa using this) x
    show a + x * pe u x = b + x * pe v x
    rw [ih, h0]
def lin (a : Rat) (u : List Rat) (b : Rat) (v : List Rat) : List Rat := (List.range (max u.length v.length)).map fun k => a * u.getD k 0 + b * v.getD k 0
theorem get_out {α : Type} {u : List α} {k : Nat} {z : α} (h : u.length ≤ k) : u.getD k z = z := by
  rw [List.getD_eq_getElem?_getD, List.getElem?_eq_none h]
  rfl
theorem lin_get (a : Rat) (u : List Rat) (b : Rat) (v : List Rat) (k : Nat) : (lin a u b v).getD k 0 = a * u.getD k 0 + b * v.getD k 0 := by
  unfold lin
  by_cases h : k < max u.length v.length
  · rw [List.getD_eq_getElem?_getD, List.getElem?_map, List.getElem?_range h]
    rfl
  · rw [get_out (by simp; omega), get_out (u := u) (by omega), get_out (u := v) (by omega)]
    grind
theorem pe_tail (a : Rat) (u : List Rat) (x : Rat) : pe (a :: u) x = a + x * pe u x := rfl
theorem pe_lin' (a b x : Rat) : ∀ (n : Nat) (u v w : List Rat), u.length + v.length ≤ n → (∀ k, w.getD k 0 = a * u.getD k 0 + b * v.getD k 0) → pe w x = a * pe u x + b * pe v x
  | 0, u, v, w, hl, h => by
    obtain rfl : u = [] := List.length_eq_zero_iff.mp (by omega)
    obtain rfl : v = [] := List.length_eq_zero_iff.mp (by omega)
    rw [pe_ext (v := []) (fun k => by rw [h k]; show a * 0 + b * 0 = (0 : Rat); grind)]
    show (0 : Rat) = a * 0 + b * 0
    grind
  | n + 1, u, v, w, hl, h => by
    have ew : pe w x = pe ((a * u.getD 0 0 + b * v.getD 0 0) :: w.tail) x := pe_ext (fun k => by
      cases k with
      | zero => rw [h 0]; rfl
      | succ k =>
        cases w with
        | nil => rfl
        | cons c w => rfl) x
    have ht : ∀ (r : List Rat) (k : Nat), r.tail.getD k 0 = r.getD (k + 1) 0 := fun r k => by
      cases r with
      | nil => rfl
      | cons c r => rfl
    have eu : ∀ r : List Rat, pe r x = r.getD 0 0 + x * pe r.tail x := fun r => by
      cases r with
      | nil => show (0 : Rat) = 0 + x * 0; grind
      | cons c r => rfl
    by_cases z : u.length + v.length = 0
    · exact pe_lin' a b x n u v w (by omega) h
    · have ih := pe_lin' a b x n u.tail v.tail w.tail (by rw [List.length_tail, List.length_tail]; omega) (fun k => by rw [ht, ht, ht]; exact h (k + 1))
      rw [ew, pe_tail, ih, eu u, eu v]
      grind
theorem pe_lin {a b : Rat} {u v w : List Rat} (h : ∀ k, w.getD k 0 = a * u.getD k 0 + b * v.getD k 0) (x : Rat) : pe w x = a * pe u x + b * pe v x := pe_lin' a b x _ u v w (Nat.le_refl _) h
/-- two rows with values in proportion -/
theorem pe_prop {c : Rat} {u v : List Rat} (h : ∀ x, pe u x = c * pe v x) (k : Nat) : u.getD k 0 = c * v.getD k 0 := by
  have z := pe_get (u := lin 1 u (-c) v) (fun x => by
    rw [pe_lin (lin_get 1 u (-c) v), h x]
    grind) k
  rw [lin_get] at z
  grind
theorem pe_set (z x : Rat) : ∀ (u : List Rat) (k : Nat), k < u.length → pe (u.set k (u.getD k 0 + z)) x = pe u x + z * x ^ k
  | [], k, h => by simp at h
  | a :: u, 0, _ => by
    show a + z + x * pe u x = a + x * pe u x + z * x ^ 0
    rw [Rat.pow_zero]
    grind
  | a :: u, k + 1, h => by
    have ih := pe_set z x u k (by simpa using h)
    show a + x * pe (u.set k (u.getD k 0 + z)) x = a + x * pe u x + z * x ^ (k + 1)
    rw [ih, Rat.pow_succ]
    grind
theorem pe_take (x : Rat) : ∀ (u : List Rat) (k : Nat), k < u.length → pe (u.take (k + 1)) x = pe (u.take k) x + u.getD k 0 * x ^ k
  | [], k, h => by simp at h
  | a :: u, 0, _ => by
    show a + x * 0 = 0 + a * x ^ 0
    rw [Rat.pow_zero]
    grind
  | a :: u, k + 1, h => by
    have ih := pe_take x u k (by simpa using h)
    show a + x * pe (u.take (k + 1)) x = a + x * pe (u.take k) x + u.getD k 0 * x ^ (k + 1)
    rw [ih, Rat.pow_succ]
    grind
theorem pe_zeros (x : Rat) : ∀ n, pe (List.replicate n 0) x = 0
  | 0 => rfl
  | n + 1 => by
    show 0 + x * pe (List.replicate n 0) x = 0
    rw [pe_zeros x n]
    grind

theorem rpow_add (a : Rat) (m : Nat) : ∀ n : Nat, a ^ (m + n) = a ^ m * a ^ n
  | 0 => by rw [Nat.add_zero, Rat.pow_zero]; grind
  | n + 1 => by
    rw [← Nat.add_assoc, Rat.pow_succ, rpow_add a m n, Rat.pow_succ]
    grind
/-! ### rows of whole numbers -/
def ri (u : List Int) : List Rat := u.map fun z : Int => (z : Rat)
def pI (u : List Int) (x : Rat) : Rat := pe (ri u) x
theorem ri_get (u : List Int) (k : Nat) : (ri u).getD k 0 = ((u.getD k 0 : Int) : Rat) := by
  unfold ri
  rw [List.getD_eq_getElem?_getD, List.getD_eq_getElem?_getD, List.getElem?_map]
  cases u[k]? <;> rfl
theorem pI_trim (u : List Int) (x : Rat) : pI (trim u) x = pI u x := pe_ext (fun k => by rw [ri_get, ri_get, trim_get]) x
theorem pI_comb (a : Int) (u : List Int) (b : Int) (v : List Int) (x : Rat) : pI (comb a u b v) x = (a : Rat) * pI u x + (b : Rat) * pI v x :=
  pe_lin (fun k => by rw [ri_get, ri_get, ri_get, comb_get, Rat.intCast_add, Rat.intCast_mul, Rat.intCast_mul]) x
def n1 : List Int → Nat
  | [] => 0
  | a :: u => a.natAbs + n1 u
theorem n1_mem : ∀ {u : List Int} {x : Int}, x ∈ u → x.natAbs ≤ n1 u
  | a :: u, x, h => by
    rcases List.mem_cons.mp h with rfl | h
    · show _ ≤ _ + n1 u
      omega
    · have := n1_mem h
      show _ ≤ a.natAbs + n1 u
      omega
theorem n1_get (u : List Int) (k : Nat) : (u.getD k 0).natAbs ≤ n1 u := by
  rw [List.getD_eq_getElem?_getD]
  cases e : u[k]? with
  | none => exact Nat.zero_le _
  | some y => exact n1_mem (List.mem_of_getElem? e)
theorem n1_set (z : Int) : ∀ (u : List Int) (k : Nat), n1 (u.set k (u.getD k 0 + z)) ≤ n1 u + z.natAbs
  | [], k => by simp [n1]
  | a :: u, 0 => by
    show (a + z).natAbs + n1 u ≤ a.natAbs + n1 u + z.natAbs
    omega
  | a :: u, k + 1 => by
    have ih := n1_set z u k
    show a.natAbs + n1 (u.set k (u.getD k 0 + z)) ≤ a.natAbs + n1 u + z.natAbs
    omega
theorem n1_zeros : ∀ n, n1 (List.replicate n 0) = 0
  | 0 => rfl
  | n + 1 => by
    show (0 : Int).natAbs + n1 (List.replicate n 0) = 0
    rw [n1_zeros n]
    rfl
theorem n1_take : ∀ (u : List Int) (k : Nat), k < u.length → n1 (u.take (k + 1)) = n1 (u.take k) + (u.getD k 0).natAbs
  | [], k, h => by simp at h
  | a :: u, 0, _ => by
    show a.natAbs + 0 = 0 + a.natAbs
    omega
  | a :: u, k + 1, h => by
    have ih := n1_take u k (by simpa using h)
    show a.natAbs + n1 (u.take (k + 1)) = a.natAbs + n1 (u.take k) + (u.getD k 0).natAbs
    omega
theorem n1_takele : ∀ (u : List Int) (k : Nat), n1 (u.take k) ≤ n1 u
  | [], k => by simp [n1]
  | a :: u, 0 => Nat.zero_le _
  | a :: u, k + 1 => by
    have := n1_takele u k
    show a.natAbs + n1 (u.take k) ≤ a.natAbs + n1 u
    omega
theorem n1_comb' (a b : Int) : ∀ (n : Nat) (u v w : List Int), w.length ≤ n → (∀ k, w.getD k 0 = a * u.getD k 0 + b * v.getD k 0) → n1 w ≤ a.natAbs * n1 u + b.natAbs * n1 v
  | 0, u, v, w, hl, _ => by
    obtain rfl : w = [] := List.length_eq_zero_iff.mp (by omega)
    exact Nat.zero_le _
  | n + 1, u, v, w, hl, h => by
    cases w with
    | nil => exact Nat.zero_le _
    | cons c w =>
      have ht : ∀ (r : List Int) (k : Nat), r.tail.getD k 0 = r.getD (k + 1) 0 := fun r k => by
        cases r with
        | nil => rfl
        | cons c r => rfl
      have eu : ∀ r : List Int, n1 r = (r.getD 0 0).natAbs + n1 r.tail := fun r => by
        cases r with
        | nil => rfl
        | cons c r => rfl
      have ih := n1_comb' a b n u.tail v.tail w (by simpa using hl) (fun k => by rw [ht, ht]; exact h (k + 1))
      have h0 : c = a * u.getD 0 0 + b * v.getD 0 0 := h 0
      have ab := Int.natAbs_add_le (a * u.getD 0 0) (b * v.getD 0 0)
      rw [Int.natAbs_mul, Int.natAbs_mul] at ab
      show c.natAbs + n1 w ≤ _
      rw [eu u, eu v, h0, Nat.mul_add, Nat.mul_add]
      omega
theorem n1_comb (a : Int) (u : List Int) (b : Int) (v : List Int) : n1 (comb a u b v) ≤ a.natAbs * n1 u + b.natAbs * n1 v := n1_comb' a b _ u v _ (Nat.le_refl _) (comb_get a u b v)
theorem n1_trim (u : List Int) : n1 (trim u) ≤ n1 u := by
  have := n1_comb' 1 0 _ u [] (trim u) (Nat.le_refl _) (fun k => by rw [trim_get]; omega)
  simpa using this
theorem n1_bd {u : List Int} {e : Nat} (h : n1 u < 2 ^ e) : bd u e := fun x hx => Nat.lt_of_le_of_lt (n1_mem hx) h
theorem pI_get {u : List Int} (h : ∀ x, pI u x = 0) (k : Nat) : u.getD k 0 = 0 := by
  have := pe_get h k
  rw [ri_get] at this
  exact Rat.intCast_inj.mp this
theorem dvd_gcdL {d a : Int} : ∀ {v : List Int}, (∀ y ∈ v, d ∣ a * y) → d.natAbs ∣ a.natAbs * gcdL v
  | [], _ => by
    show _ ∣ a.natAbs * 0
    exact Nat.dvd_zero _
  | y :: v, h => by
    have h1 : d.natAbs ∣ a.natAbs * y.natAbs := by
      have := Int.natAbs_dvd_natAbs.mpr (h y (List.mem_cons_self ..))
      rwa [Int.natAbs_mul] at this
    have h2 := dvd_gcdL (v := v) fun z hz => h z (List.mem_cons_of_mem _ hz)
    show _ ∣ a.natAbs * Nat.gcd y.natAbs (gcdL v)
    rw [← Nat.gcd_mul_left]
    exact Nat.dvd_gcd h1 h2
theorem gcdL_some : ∀ {u : List Int}, gcdL u ≠ 0 → ∃ k, u.getD k 0 ≠ 0
  | [], h => absurd rfl h
  | x :: xs, h => by
    by_cases q : x = 0
    · subst q
      have : gcdL xs ≠ 0 := fun z => h (by show Nat.gcd (0 : Int).natAbs (gcdL xs) = 0; rw [z]; rfl)
      obtain ⟨k, hk⟩ := gcdL_some this
      exact ⟨k + 1, by rw [List.getD_cons_succ]; exact hk⟩
    · exact ⟨0, q⟩
theorem mem_get {u : List Int} {y : Int} (h : y ∈ u) : ∃ k, u.getD k 0 = y := by
  obtain ⟨k, hk, e⟩ := List.getElem_of_mem h
  exact ⟨k, by rw [List.getD_eq_getElem?_getD, List.getElem?_eq_getElem hk, ← e]; rfl⟩
/-- primitive rows with values in proportion are one -/
theorem prim_uniq {c : Rat} (hc : 0 < c) {u v : List Int} (h : ∀ x, pI u x = c * pI v x) (gu : gcdL u = 1) (gv : gcdL v = 1) (tu : u.getLast? ≠ some 0) (tv : v.getLast? ≠ some 0) : u = v := by
  have hk : ∀ k, ((u.getD k 0 : Int) : Rat) = c * ((v.getD k 0 : Int) : Rat) := fun k => by
    rw [← ri_get, ← ri_get]
    exact pe_prop h k
  obtain ⟨m, hm⟩ := gcdL_some (u := u) (by omega)
  have hv : v.getD m 0 ≠ 0 := fun z => by
    have := hk m
    rw [z] at this
    have z0 : ((0 : Int) : Rat) = 0 := rfl
    rw [z0] at this
    have e : ((u.getD m 0 : Int) : Rat) = ((0 : Int) : Rat) := by rw [this, z0]; grind
    exact hm (Rat.intCast_inj.mp e)
  have cross : ∀ k, u.getD k 0 * v.getD m 0 = u.getD m 0 * v.getD k 0 := fun k => by
    apply Rat.intCast_inj.mp
    rw [Rat.intCast_mul, Rat.intCast_mul, hk k, hk m]
    grind
  have d1 : (v.getD m 0).natAbs ∣ (u.getD m 0).natAbs * gcdL v := dvd_gcdL fun y hy => by
    obtain ⟨k, rfl⟩ := mem_get hy
    rw [← cross k]
    exact ⟨u.getD k 0, Int.mul_comm _ _⟩
  have d2 : (u.getD m 0).natAbs ∣ (v.getD m 0).natAbs * gcdL u := dvd_gcdL fun y hy => by
    obtain ⟨k, rfl⟩ := mem_get hy
    rw [Int.mul_comm, cross k]
    exact ⟨v.getD k 0, rfl⟩
  rw [gv, Nat.mul_one] at d1
  rw [gu, Nat.mul_one] at d2
  have ab := Nat.dvd_antisymm d1 d2
  have c1 : ∀ k, u.getD k 0 = v.getD k 0 := by
    have e : u.getD m 0 = v.getD m 0 ∨ u.getD m 0 = - v.getD m 0 := by omega
    rcases e with e | e
    · have : c = 1 := by
        have h1 := hk m
        rw [e] at h1
        have ne := ratInt_ne hv
        grind
      intro k
      have h1 := hk k
      rw [this] at h1
      exact Rat.intCast_inj.mp (by rw [h1]; grind)
    · exfalso
      have h1 := hk m
      rw [e, Rat.intCast_neg] at h1
      have ne := ratInt_ne hv
      have : c = -1 := by grind
      rw [this] at hc
      exact absurd hc (by decide)
  exact row_ext tu tv c1
theorem gcdL_scale (g : Int) : ∀ u : List Int, gcdL (u.map fun x => g * x) = g.natAbs * gcdL u
  | [] => rfl
  | y :: u => by
    show Nat.gcd (g * y).natAbs (gcdL (u.map fun x => g * x)) = g.natAbs * Nat.gcd y.natAbs (gcdL u)
    rw [gcdL_scale g u, Int.natAbs_mul, Nat.gcd_mul_left]
theorem div_gcd {u : List Int} {g : Int} (hg : 0 < g) (hd : ∀ x ∈ u, g ∣ x) : g.natAbs * gcdL (u.map fun x => x / g) = gcdL u := by
  rw [← gcdL_scale, List.map_map]
  congr 1
  have : ∀ x ∈ u, ((fun x => g * x) ∘ fun x => x / g) x = x := fun x hx => Int.mul_ediv_cancel' (hd x hx)
  conv => rhs; rw [← List.map_id u]
  exact List.map_congr_left this
theorem prim_gcd {u : List Int} (h : ∃ x ∈ u, x ≠ 0) : gcdL (prim u) = 1 := by
  have hg := gcdL_pos h
  have e := div_gcd (u := u) (g := ((gcdL u : Nat) : Int)) (by omega) (fun x hx => gcdL_dvd hx)
  rw [Int.natAbs_natCast] at e
  exact Nat.eq_of_mul_eq_mul_left hg (by rw [Nat.mul_one]; exact e)
theorem prim_pI (u : List Int) (h : ∃ x ∈ u, x ≠ 0) (x : Rat) : pI u x = ((gcdL u : Nat) : Rat) * pI (prim u) x := by
  have hg := gcdL_pos h
  have := pe_lin (a := ((gcdL u : Nat) : Rat)) (b := 0) (u := ri (prim u)) (v := []) (w := ri u) (fun k => by
    rw [ri_get, ri_get, prim_get]
    have hd : ((gcdL u : Nat) : Int) ∣ u.getD k 0 := by
      rw [List.getD_eq_getElem?_getD]
      cases e : u[k]? with
      | none => exact Int.dvd_zero _
      | some y => exact gcdL_dvd (List.mem_of_getElem? e)
    have e := Int.mul_ediv_cancel' hd
    have e2 : ((u.getD k 0 : Int) : Rat) = (((gcdL u : Nat) : Int) : Rat) * ((u.getD k 0 / ((gcdL u : Nat) : Int) : Int) : Rat) := by rw [← Rat.intCast_mul, e]
    rw [e2]
    show _ = _ + 0 * (([] : List Rat).getD k 0)
    have e3 : (((gcdL u : Nat) : Int) : Rat) = ((gcdL u : Nat) : Rat) := rfl
    rw [e3]
    grind) x
  unfold pI
  rw [this]
  grind
theorem prim_last {u : List Int} (h : ∃ x ∈ u, x ≠ 0) (ht : u.getLast? ≠ some 0) : (prim u).getLast? ≠ some 0 := by
  have hg := gcdL_pos h
  unfold prim
  rw [List.getLast?_map]
  cases e : u.getLast? with
  | none => simp
  | some y =>
    intro z
    have hy : y ≠ 0 := fun q => ht (by rw [e, q])
    have hd := gcdL_dvd (List.mem_of_getLast? e)
    have := Int.mul_ediv_cancel' hd
    have z' : y / ((gcdL u : Nat) : Int) = 0 := Option.some.inj z
    rw [z'] at this
    omega
/-! ### rows of fractions -/
def rf (r : List Fr) : List Rat := r.map val
def pF (r : List Fr) (x : Rat) : Rat := pe (rf r) x
theorem rf_get (r : List Fr) (k : Nat) : (rf r).getD k 0 = val (r.getD k (0, 1)) := by
  unfold rf
  rw [List.getD_eq_getElem?_getD, List.getD_eq_getElem?_getD, List.getElem?_map]
  cases r[k]? with
  | none => exact (by decide +kernel : (0 : Rat) = val (0, 1))
  | some y => rfl
/-- sizes: over one denominator -/
structure Rw (r : List Fr) (N e : Nat) : Prop where
  len : r.length ≤ N
  fo : ∀ x ∈ r, FOk x
  sz : ∃ S : Int, 0 < S ∧ S.natAbs < 2 ^ e ∧ ∀ x ∈ r, ∃ u : Int, u.natAbs < 2 ^ e ∧ val x * (S : Rat) = (u : Rat)
def Tr (r : List Fr) : Prop := ∀ x, r.getLast? = some x → x.1 ≠ 0
theorem Rw.sm {r : List Fr} {N e : Nat} (h : Rw r N e) (he : e ≤ 4000) : ∀ x ∈ r, Sm x := fun x hx => by
  obtain ⟨S, s0, s1, all⟩ := h.sz
  obtain ⟨u, hu, eu⟩ := all x hx
  have f := h.fo x hx
  obtain ⟨a, b, _⟩ := f.small s0 eu
  exact ⟨f.1, Nat.lt_of_le_of_lt a (pow_up hu he), Nat.lt_of_le_of_lt b (pow_up s1 he)⟩
theorem Rw.up {r : List Fr} {N e M f : Nat} (h : Rw r N e) (h1 : N ≤ M) (h2 : e ≤ f) : Rw r M f := by
  obtain ⟨S, s0, s1, all⟩ := h.sz
  exact ⟨Nat.le_trans h.len h1, h.fo, S, s0, pow_up s1 h2, fun x hx => by
    obtain ⟨u, hu, eu⟩ := all x hx
    exact ⟨u, pow_up hu h2, eu⟩⟩
theorem Rw.take {r : List Fr} {N e : Nat} (h : Rw r N e) (k : Nat) : Rw (r.take k) N e := by
  obtain ⟨S, s0, s1, all⟩ := h.sz
  exact ⟨by rw [List.length_take]; have := h.len; omega, fun x hx => h.fo x (List.mem_of_mem_take hx), S, s0, s1, fun x hx => all x (List.mem_of_mem_take hx)⟩
theorem pF_ext {r s : List Fr} (h : ∀ k, val (r.getD k (0, 1)) = val (s.getD k (0, 1))) (x : Rat) : pF r x = pF s x := pe_ext (fun k => by rw [rf_get, rf_get, h k]) x
end Px
/-! Machines: what hangs on a disc, held and free. -/
namespace Px
open PySem DL Mx
structure Mq where
  n : Nat
  J : Nat → Rat
  W : Nat → Rat
  K : Nat → Rat
  Q : Nat → Rat
  p : Nat → Nat
/-- the kids of a disc among the last m places -/
def kf (n : Nat) (p : Nat → Nat) (i : Nat) : Nat → List Nat
  | 0 => []
  | m + 1 => if i < n - (m + 1) ∧ p (n - (m + 1)) = i then (n - (m + 1)) :: kf n p i m else kf n p i m
def kids (n : Nat) (p : Nat → Nat) (i : Nat) : List Nat := kf n p i (n - (i + 1))
theorem kf_mem {n : Nat} {p : Nat → Nat} {i c : Nat} : ∀ {m}, c ∈ kf n p i m → i < c ∧ p c = i ∧ n - m ≤ c ∧ (m ≤ n → c < n)
  | 0, h => by simp [kf] at h
  | m + 1, h => by
    unfold kf at h
    split at h
    · rename_i q
      rcases List.mem_cons.mp h with rfl | h
      · exact ⟨q.1, q.2, Nat.le_refl _, fun z => by omega⟩
      · obtain ⟨a, b, c1, d⟩ := kf_mem h
        exact ⟨a, b, by omega, fun z => d (by omega)⟩
    · obtain ⟨a, b, c1, d⟩ := kf_mem h
      exact ⟨a, b, by omega, fun z => d (by omega)⟩
theorem kids_mem {n : Nat} {p : Nat → Nat} {i c : Nat} (h : c ∈ kids n p i) : i < c ∧ p c = i ∧ c < n := by
  obtain ⟨a, b, _, d⟩ := kf_mem h
  exact ⟨a, b, d (by omega)⟩
def hpl (s q : Nat → Rat) : List Nat → Rat × Rat
  | [] => (1, 0)
  | c :: cs => ((hpl s q cs).1 * s c, (hpl s q cs).2 * s c + (hpl s q cs).1 * q c)
theorem hpl_congr {s q s' q' : Nat → Rat} : ∀ {cs : List Nat}, (∀ c ∈ cs, s c = s' c ∧ q c = q' c) → hpl s q cs = hpl s' q' cs
  | [], _ => rfl
  | c :: cs, h => by
    have ih := hpl_congr (cs := cs) fun d hd => h d (List.mem_cons_of_mem _ hd)
    obtain ⟨h1, h2⟩ := h c (List.mem_cons_self ..)
    unfold hpl
    rw [ih, h1, h2]
def hf (M : Mq) (x : Rat) : Nat → Nat → Rat × Rat
  | 0, i => (1, M.W i - x * M.J i)
  | f + 1, i => ((hpl (fun c => (hf M x f c).2 + M.K c * (hf M x f c).1) (fun c => M.Q c * (hf M x f c).2) (kids M.n M.p i)).1,
    (M.W i - x * M.J i) * (hpl (fun c => (hf M x f c).2 + M.K c * (hf M x f c).1) (fun c => M.Q c * (hf M x f c).2) (kids M.n M.p i)).1 + (hpl (fun c => (hf M x f c).2 + M.K c * (hf M x f c).1) (fun c => M.Q c * (hf M x f c).2) (kids M.n M.p i)).2)
theorem hf_fuel (M : Mq) (x : Rat) : ∀ f i, M.n ≤ f + i → hf M x f i = hf M x (f + 1) i
  | 0, i, h => by
    have e : kids M.n M.p i = [] := by
      unfold kids
      rw [show M.n - (i + 1) = 0 by omega]
      rfl
    show _ = (_, _)
    rw [e]
    show ((1 : Rat), M.W i - x * M.J i) = (1, (M.W i - x * M.J i) * 1 + 0)
    congr 1
    grind
  | f + 1, i, h => by
    have e : hpl (fun c => (hf M x f c).2 + M.K c * (hf M x f c).1) (fun c => M.Q c * (hf M x f c).2) (kids M.n M.p i) = hpl (fun c => (hf M x (f + 1) c).2 + M.K c * (hf M x (f + 1) c).1) (fun c => M.Q c * (hf M x (f + 1) c).2) (kids M.n M.p i) := hpl_congr fun c hc => by
      obtain ⟨a, _, _⟩ := kids_mem hc
      rw [hf_fuel M x f c (by omega)]
      exact ⟨rfl, rfl⟩
    show (_, _) = (_, _)
    rw [e]
theorem hf_full (M : Mq) (x : Rat) (i : Nat) : ∀ f, M.n ≤ f → hf M x f i = hf M x M.n i := fun f h => by
  obtain ⟨d, rfl⟩ := Nat.exists_eq_add_of_le h
  induction d with
  | zero => rfl
  | succ d ih =>
    rw [show M.n + (d + 1) = (M.n + d) + 1 by omega, ← hf_fuel M x (M.n + d) i (by omega)]
    exact ih (by omega)
def hM (M : Mq) (x : Rat) (i : Nat) : Rat := (hf M x M.n i).1
def fM (M : Mq) (x : Rat) (i : Nat) : Rat := (hf M x M.n i).2
def sM (M : Mq) (x : Rat) (c : Nat) : Rat := fM M x c + M.K c * hM M x c
def qM (M : Mq) (x : Rat) (c : Nat) : Rat := M.Q c * fM M x c
theorem hM_eq (M : Mq) (x : Rat) (i : Nat) : hM M x i = (hpl (sM M x) (qM M x) (kids M.n M.p i)).1 ∧ fM M x i = (M.W i - x * M.J i) * (hpl (sM M x) (qM M x) (kids M.n M.p i)).1 + (hpl (sM M x) (qM M x) (kids M.n M.p i)).2 := by
  have e : hf M x M.n i = hf M x (M.n + 1) i := (hf_full M x i (M.n + 1) (by omega)).symm
  unfold hM fM
  rw [e]
  exact ⟨rfl, rfl⟩
theorem hM_kf (M : Mq) (x : Rat) {i : Nat} (hi : i < M.n) : hM M x i = (hpl (sM M x) (qM M x) (kf M.n M.p i (M.n - (i + 1)))).1 ∧ fM M x i = (M.W i - x * M.J i) * (hpl (sM M x) (qM M x) (kf M.n M.p i (M.n - (i + 1)))).1 + (hpl (sM M x) (qM M x) (kf M.n M.p i (M.n - (i + 1)))).2 := hM_eq M x i
/-- each row times a number -/
structure Sc (M N : Mq) (h : Nat → Rat) : Prop where
  n : N.n = M.n
  p : N.p = M.p
  pos : ∀ i, 0 < h i
  J : ∀ i, N.J i = h i * M.J i
  W : ∀ i, N.W i = h i * M.W i
  K : ∀ i, N.K i = h i * M.K i
  Q : ∀ i, 0 < i → N.Q i = h (M.p i) * M.Q i
theorem hpl_sc {s q s' q' d : Nat → Rat} {t : Rat} : ∀ {cs : List Nat}, (∀ c ∈ cs, 0 < d c) → ∃ D : Rat, 0 < D ∧ ∀ {s q s' q' : Nat → Rat}, (∀ c ∈ cs, s' c = d c * s c ∧ q' c = d c * t * q c) → (hpl s' q' cs).1 = D * (hpl s q cs).1 ∧ (hpl s' q' cs).2 = D * t * (hpl s q cs).2
  | [], _ => ⟨1, by decide, fun _ => ⟨by show (1 : Rat) = 1 * 1; grind, by show (0 : Rat) = 1 * t * 0; grind⟩⟩
  | c :: cs, hd => by
    obtain ⟨D, D0, hD⟩ := hpl_sc (s := s) (q := q) (s' := s') (q' := q') (d := d) (t := t) (cs := cs) fun c hc => hd c (List.mem_cons_of_mem _ hc)
    refine ⟨D * d c, Rat.mul_pos D0 (hd c (List.mem_cons_self ..)), fun {s q s' q'} h => ?_⟩
    obtain ⟨a1, a2⟩ := hD (s := s) (q := q) (s' := s') (q' := q') fun c hc => h c (List.mem_cons_of_mem _ hc)
    obtain ⟨b1, b2⟩ := h c (List.mem_cons_self ..)
    show (hpl s' q' cs).1 * s' c = _ * ((hpl s q cs).1 * s c) ∧ (hpl s' q' cs).2 * s' c + (hpl s' q' cs).1 * q' c = _ * ((hpl s q cs).2 * s c + (hpl s q cs).1 * q c)
    rw [a1, a2, b1, b2]
    constructor <;> grind
theorem sc_hf {M N : Mq} {h : Nat → Rat} (S : Sc M N h) : ∀ f, ∃ b : Nat → Rat, (∀ i, 0 < b i) ∧ ∀ x i, (hf N x f i).1 = b i * (hf M x f i).1 ∧ (hf N x f i).2 = b i * h i * (hf M x f i).2
  | 0 => ⟨fun _ => 1, fun _ => (by decide : (0 : Rat) < 1), fun x i => ⟨by show (1 : Rat) = 1 * 1; grind, by
      show N.W i - x * N.J i = 1 * h i * (M.W i - x * M.J i)
      rw [S.W, S.J]
      grind⟩⟩
  | f + 1 => by
    obtain ⟨b, b0, hb⟩ := sc_hf S f
    have ch : ∀ i, ∃ D : Rat, 0 < D ∧ ∀ {s q s' q' : Nat → Rat}, (∀ c ∈ kids M.n M.p i, s' c = (b c * h c) * s c ∧ q' c = (b c * h c) * h i * q c) → (hpl s' q' (kids M.n M.p i)).1 = D * (hpl s q (kids M.n M.p i)).1 ∧ (hpl s' q' (kids M.n M.p i)).2 = D * h i * (hpl s q (kids M.n M.p i)).2 := fun i =>
      hpl_sc (s := h) (q := h) (s' := h) (q' := h) (d := fun c => b c * h c) (t := h i) fun c _ => Rat.mul_pos (b0 c) (S.pos c)
    refine ⟨fun i => (ch i).choose, fun i => (ch i).choose_spec.1, fun x i => ?_⟩
    have key := (ch i).choose_spec.2 (s := fun c => (hf M x f c).2 + M.K c * (hf M x f c).1) (q := fun c => M.Q c * (hf M x f c).2) (s' := fun c => (hf N x f c).2 + N.K c * (hf N x f c).1) (q' := fun c => N.Q c * (hf N x f c).2) fun c hc => by
      obtain ⟨a1, a2, a3⟩ := kids_mem hc
      obtain ⟨e1, e2⟩ := hb x c
      rw [e1, e2, S.K, S.Q c (by omega), a2]
      constructor <;> grind
    obtain ⟨k1, k2⟩ := key
    have en : kids N.n N.p i = kids M.n M.p i := by rw [S.n, S.p]
    show (hpl _ _ (kids N.n N.p i)).1 = _ * (hpl _ _ (kids M.n M.p i)).1 ∧ (N.W i - x * N.J i) * (hpl _ _ (kids N.n N.p i)).1 + (hpl _ _ (kids N.n N.p i)).2 = _ * ((M.W i - x * M.J i) * (hpl _ _ (kids M.n M.p i)).1 + (hpl _ _ (kids M.n M.p i)).2)
    rw [en, k1, k2, S.W, S.J]
    constructor
    · rfl
    · grind
theorem Sc.at {M N : Mq} {h : Nat → Rat} (S : Sc M N h) : ∃ b : Nat → Rat, (∀ i, 0 < b i) ∧ ∀ x i, hM N x i = b i * hM M x i ∧ fM N x i = b i * h i * fM M x i := by
  obtain ⟨b, b0, hb⟩ := sc_hf S M.n
  refine ⟨b, b0, fun x i => ?_⟩
  unfold hM fM
  rw [S.n]
  exact hb x i
structure Mpos (M : Mq) : Prop where
  n : 0 < M.n
  p : ∀ i, 0 < i → i < M.n → M.p i < i
  J : ∀ i, i < M.n → 0 < M.J i
  W : ∀ i, i < M.n → 0 ≤ M.W i
  K : ∀ i, 0 < i → i < M.n → 0 < M.K i
  Q : ∀ i, 0 < i → i < M.n → 0 < M.Q i
theorem hpl_pos {s q : Nat → Rat} : ∀ {cs : List Nat}, (∀ c ∈ cs, 0 < s c ∧ 0 < q c) → 0 < (hpl s q cs).1 ∧ 0 ≤ (hpl s q cs).2
  | [], _ => ⟨(by decide : (0 : Rat) < 1), Rat.le_refl⟩
  | c :: cs, h => by
    obtain ⟨a, b⟩ := hpl_pos (cs := cs) fun c hc => h c (List.mem_cons_of_mem _ hc)
    obtain ⟨s0, q0⟩ := h c (List.mem_cons_self ..)
    refine ⟨Rat.mul_pos a s0, ?_⟩
    show 0 ≤ (hpl s q cs).2 * s c + (hpl s q cs).1 * q c
    have := Rat.mul_nonneg b (Rat.le_of_lt s0)
    have := Rat.mul_nonneg (Rat.le_of_lt a) (Rat.le_of_lt q0)
    grind
theorem hf_neg {M : Mq} (P : Mpos M) : ∀ f i, i < M.n → 0 < (hf M (-1) f i).1 ∧ 0 < (hf M (-1) f i).2
  | 0, i, hi => ⟨(by decide : (0 : Rat) < 1), by
    show 0 < M.W i - -1 * M.J i
    have := P.J i hi
    have := P.W i hi
    grind⟩
  | f + 1, i, hi => by
    obtain ⟨a, b⟩ := hpl_pos (s := fun c => (hf M (-1) f c).2 + M.K c * (hf M (-1) f c).1) (q := fun c => M.Q c * (hf M (-1) f c).2) (cs := kids M.n M.p i) fun c hc => by
      obtain ⟨a1, a2, a3⟩ := kids_mem hc
      obtain ⟨h0, f0⟩ := hf_neg P f c a3
      have k0 := P.K c (by omega) a3
      have q0 := P.Q c (by omega) a3
      have := Rat.mul_pos k0 h0
      exact ⟨by grind, Rat.mul_pos q0 f0⟩
    refine ⟨a, ?_⟩
    show 0 < (M.W i - -1 * M.J i) * (hpl _ _ (kids M.n M.p i)).1 + (hpl _ _ (kids M.n M.p i)).2
    have := P.J i hi
    have := P.W i hi
    have := Rat.mul_pos (show 0 < M.W i - -1 * M.J i by grind) a
    grind
theorem fM_neg {M : Mq} (P : Mpos M) {i : Nat} (hi : i < M.n) : 0 < hM M (-1) i ∧ 0 < fM M (-1) i := hf_neg P M.n i hi
/-- how many discs hang on one, this one with them -/
def wt (n : Nat) (p : Nat → Nat) : Nat → Nat → Nat
  | 0, _ => 1
  | f + 1, i => 1 + ((kids n p i).map (wt n p f)).sum
end Px
/-! Machines as data. -/
namespace Px
open PySem DL Mx
def frOf (q : Rat) : Fr := (q.num, (q.den : Int))
theorem frOf_ok (q : Rat) : FOk (frOf q) := ⟨by show (0 : Int) < (q.den : Int); have := q.den_pos; omega, by
  show Nat.gcd q.num.natAbs ((q.den : Int)).natAbs = 1
  rw [Int.natAbs_natCast]
  exact q.reduced⟩
theorem frOf_val (q : Rat) : val (frOf q) = q := by
  show ((q.num : Int) : Rat) / (((q.den : Int)) : Rat) = q
  rw [← Rat.divInt_eq_div]
  exact Rat.num_divInt_den q
structure Ds where
  J : Fr
  W : Fr
  p : Nat
  K : Fr
  R : Fr
def d0 : Ds := ⟨(1, 1), (0, 1), 0, (1, 1), (1, 1)⟩
def rootD (d : Ds) : PyData := .tuple [frD d.J, frD d.W]
def discD (d : Ds) : PyData := .tuple [frD d.J, frD d.W, .int (d.p : Int), frD d.K, frD d.R]
def machL : List Ds → List PyData
  | [] => []
  | d :: ds => rootD d :: ds.map discD
def machD (m : List Ds) : PyData := .tuple (machL m)
structure Frb (x : Fr) (B : Nat) : Prop where
  ok : FOk x
  b1 : x.1.natAbs < 2 ^ B
  b2 : x.2.natAbs < 2 ^ B
structure Dk (d : Ds) (B : Nat) : Prop where
  J : Frb d.J B
  J0 : 0 < d.J.1
  W : Frb d.W B
  W0 : 0 ≤ d.W.1
  K : Frb d.K B
  K0 : 0 < d.K.1
  R : Frb d.R B
  R0 : d.R.1 ≠ 0
/-- the root's idle numbers stand at one -/
def Rt (m : List Ds) : Prop := ∃ J W ds, m = ⟨J, W, 0, (1, 1), (1, 1)⟩ :: ds
structure Mach (m : List Ds) (B : Nat) : Prop where
  rt : Rt m
  n1 : 1 ≤ m.length
  n8 : m.length ≤ 8
  dk : ∀ i, Dk (m.getD i d0) B
  par : ∀ i, 0 < i → i < m.length → (m.getD i d0).p < i
theorem machL_len (m : List Ds) : (machL m).length = m.length := by
  cases m with
  | nil => rfl
  | cons d ds => show _ + 1 = _ + 1; rw [List.length_map]
theorem machL_root {m : List Ds} (h : 1 ≤ m.length) : (machL m)[0]? = some (rootD (m.getD 0 d0)) := by
  cases m with
  | nil => simp at h
  | cons d ds => rfl
theorem machL_disc {m : List Ds} {i : Nat} (h0 : 0 < i) (h : i < m.length) : (machL m)[i]? = some (discD (m.getD i d0)) := by
  cases m with
  | nil => simp at h
  | cons d ds =>
    cases i with
    | zero => omega
    | succ i =>
      show (ds.map discD)[i]? = _
      rw [List.getElem?_map, List.getElem?_eq_getElem (by simpa using h), List.getD_cons_succ, List.getD_eq_getElem?_getD, List.getElem?_eq_getElem (by simpa using h)]
      rfl
theorem discD_inj {a b : Ds} (h : discD a = discD b) : a = b := by
  unfold discD at h
  simp only [PyData.tuple.injEq, List.cons.injEq, and_true, PyData.int.injEq] at h
  obtain ⟨h1, h2, h3, h4, h5⟩ := h
  cases a
  cases b
  simp only [Ds.mk.injEq]
  exact ⟨frD_inj h1, frD_inj h2, by simp only at h3; omega, frD_inj h4, frD_inj h5⟩
theorem rootD_inj {a b : Ds} (h : rootD a = rootD b) : a.J = b.J ∧ a.W = b.W := by
  unfold rootD at h
  simp only [PyData.tuple.injEq, List.cons.injEq, and_true] at h
  exact ⟨frD_inj h.1, frD_inj h.2⟩
theorem map_disc_inj : ∀ {u v : List Ds}, u.map discD = v.map discD → u = v
  | [], [], _ => rfl
  | [], _ :: _, h => by cases h
  | _ :: _, [], h => by cases h
  | a :: u, b :: v, h => by
    simp only [List.map_cons, List.cons.injEq] at h
    rw [discD_inj h.1, map_disc_inj h.2]
theorem machD_inj {a b : List Ds} (h : machD a = machD b) (ha : Rt a) (hb : Rt b) : a = b := by
  obtain ⟨J, W, ds, rfl⟩ := ha
  obtain ⟨J', W', ds', rfl⟩ := hb
  have h : PyData.tuple (_ :: _) = PyData.tuple (_ :: _) := h
  simp only [PyData.tuple.injEq, List.cons.injEq] at h
  obtain ⟨h1, h2⟩ := h
  obtain ⟨q1, q2⟩ := rootD_inj h1
  simp only at q1 q2
  rw [q1, q2, map_disc_inj h2]
def mq (m : List Ds) : Mq := { n := m.length, J := fun i => val (m.getD i d0).J, W := fun i => val (m.getD i d0).W, K := fun i => val (m.getD i d0).K, Q := fun i => val (m.getD i d0).K * (val (m.getD i d0).R * val (m.getD i d0).R), p := fun i => (m.getD i d0).p }
theorem Mach.pos {m : List Ds} {B : Nat} (h : Mach m B) : Mpos (mq m) := by
  refine ⟨h.n1, fun i a b => h.par i a b, fun i _ => ?_, fun i _ => ?_, fun i _ _ => ?_, fun i _ _ => ?_⟩
  · exact (val_pos (h.dk i).J.ok.1).1.mpr (h.dk i).J0
  · exact (val_pos (h.dk i).W.ok.1).2.1.mpr (h.dk i).W0
  · exact (val_pos (h.dk i).K.ok.1).1.mpr (h.dk i).K0
  · have k0 := (val_pos (h.dk i).K.ok.1).1.mpr (h.dk i).K0
    have rp := val_pos (h.dk i).R.ok.1
    have r0 : val (m.getD i d0).R ≠ 0 := fun z => (h.dk i).R0 (rp.2.2.mp z)
    refine Rat.mul_pos k0 ?_
    have : val (m.getD i d0).R < 0 ∨ 0 < val (m.getD i d0).R := by grind
    rcases this with q | q
    · have := Rat.mul_pos (show 0 < - val (m.getD i d0).R by grind) (show 0 < - val (m.getD i d0).R by grind)
      grind
    · exact Rat.mul_pos q q
def scM (M : Mq) (h : Nat → Rat) : Mq := { n := M.n, p := M.p, J := fun i => h i * M.J i, W := fun i => h i * M.W i, K := fun i => h i * M.K i, Q := fun i => h (M.p i) * M.Q i }
theorem scM_ok (M : Mq) {h : Nat → Rat} (hp : ∀ i, 0 < h i) : Sc M (scM M h) h := ⟨rfl, rfl, hp, fun _ => rfl, fun _ => rfl, fun _ => rfl, fun _ _ => rfl⟩
/-! the scales of the rows -/
def pullF (d : Ds) : Fr := frOf (val d.K * (val d.R * val d.R))
def lcmI (a b : Int) : Int := ((a.natAbs.lcm b.natAbs : Nat) : Int)
theorem lcmI_pos {a b : Int} (ha : 0 < a) (hb : 0 < b) : 0 < lcmI a b := by
  unfold lcmI
  have := Nat.lcm_pos (m := a.natAbs) (n := b.natAbs) (by omega) (by omega)
  omega
theorem lcmI_l (a b : Int) : a ∣ lcmI a b := by
  unfold lcmI
  refine Int.natAbs_dvd_natAbs.mp ?_
  rw [Int.natAbs_natCast]
  exact Nat.dvd_lcm_left _ _
theorem lcmI_r (a b : Int) : b ∣ lcmI a b := by
  unfold lcmI
  refine Int.natAbs_dvd_natAbs.mp ?_
  rw [Int.natAbs_natCast]
  exact Nat.dvd_lcm_right _ _
theorem lcmI_lt {a b : Int} {m n : Nat} (ha : a.natAbs < 2 ^ m) (hb : b.natAbs < 2 ^ n) : (lcmI a b).natAbs < 2 ^ (m + n) := by
  unfold lcmI
  rw [Int.natAbs_natCast, Nat.pow_add]
  exact Nat.lt_of_le_of_lt (lcm_le_mul _ _) (Nat.mul_lt_mul'' ha hb)
def rs0 (m : List Ds) : List Int := m.map fun d => lcmI d.J.2 d.W.2
def rsStep (m : List Ds) (s : List Int) (c : Nat) : List Int :=
  (s.set c (lcmI (s.getD c 1) (m.getD c d0).K.2)).set (m.getD c d0).p (lcmI ((s.set c (lcmI (s.getD c 1) (m.getD c d0).K.2)).getD (m.getD c d0).p 1) (pullF (m.getD c d0)).2)
def rsN (m : List Ds) : Nat → List Int
  | 0 => rs0 m
  | j + 1 => rsStep m (rsN m j) (j + 1)
def rsL (m : List Ds) : List Int := rsN m (m.length - 1)
structure RsInv (m : List Ds) (B j : Nat) (s : List Int) : Prop where
  len : s.length = m.length
  pos : ∀ i, 0 < s.getD i 1
  bd : ∀ i, (s.getD i 1).natAbs < 2 ^ (2 * B + 1 + 4 * B * j)
  J : ∀ i, i < m.length → (m.getD i d0).J.2 ∣ s.getD i 1
  W : ∀ i, i < m.length → (m.getD i d0).W.2 ∣ s.getD i 1
  K : ∀ i, 0 < i → i ≤ j → i < m.length → (m.getD i d0).K.2 ∣ s.getD i 1
  Q : ∀ i, 0 < i → i ≤ j → i < m.length → (pullF (m.getD i d0)).2 ∣ s.getD (m.getD i d0).p 1
theorem Dk.pull {d : Ds} {B : Nat} (h : Dk d B) : FOk (pullF d) ∧ val (pullF d) = val d.K * (val d.R * val d.R) ∧ (pullF d).1.natAbs < 2 ^ (3 * B) ∧ (pullF d).2.natAbs < 2 ^ (3 * B) := by
  have f := frOf_ok (val d.K * (val d.R * val d.R))
  have v := frOf_val (val d.K * (val d.R * val d.R))
  refine ⟨f, v, ?_⟩
  obtain ⟨a, b, _⟩ := f.small (u := d.K.1 * (d.R.1 * d.R.1)) (S := d.K.2 * (d.R.2 * d.R.2)) (Int.mul_pos h.K.ok.1 (Int.mul_pos h.R.ok.1 h.R.ok.1)) (by
    rw [v, Rat.intCast_mul, Rat.intCast_mul, Rat.intCast_mul, Rat.intCast_mul]
    have k := val_mul h.K.ok.1
    have r := val_mul h.R.ok.1
    grind)
  have e : 3 * B = B + (B + B) := by omega
  rw [e]
  exact ⟨Nat.lt_of_le_of_lt a (natAbs_mul_lt h.K.b1 (natAbs_mul_lt h.R.b1 h.R.b1)), Nat.lt_of_le_of_lt b (natAbs_mul_lt h.K.b2 (natAbs_mul_lt h.R.b2 h.R.b2))⟩
theorem set_getD {s : List Int} {i : Nat} (v : Int) (h : i < s.length) (k : Nat) (z : Int) : (s.set i v).getD k z = if k = i then v else s.getD k z := by
  by_cases q : k = i
  · subst q
    rw [if_pos rfl, List.getD_eq_getElem?_getD, List.getElem?_set_self h]
    rfl
  · rw [if_neg q, List.getD_eq_getElem?_getD, List.getElem?_set_ne (Ne.symm q), ← List.getD_eq_getElem?_getD]
theorem rs_inv0 {m : List Ds} {B : Nat} (h : Mach m B) : RsInv m B 0 (rs0 m) := by
  have at_ : ∀ i, i < m.length → (rs0 m).getD i 1 = lcmI (m.getD i d0).J.2 (m.getD i d0).W.2 := fun i hi => by
    unfold rs0
    rw [List.getD_eq_getElem?_getD, List.getElem?_map, List.getD_eq_getElem?_getD, List.getElem?_eq_getElem hi]
    rfl
  have out : ∀ i, ¬ i < m.length → (rs0 m).getD i 1 = 1 := fun i hi => get_out (by unfold rs0; rw [List.length_map]; omega)
  refine ⟨by unfold rs0; rw [List.length_map], fun i => ?_, fun i => ?_, fun i hi => ?_, fun i hi => ?_, fun i a b => by omega, fun i a b => by omega⟩
  · by_cases hi : i < m.length
    · rw [at_ i hi]
      exact lcmI_pos (h.dk i).J.ok.1 (h.dk i).W.ok.1
    · rw [out i hi]
      decide
  · by_cases hi : i < m.length
    · rw [at_ i hi]
      exact pow_up (lcmI_lt (h.dk i).J.b2 (h.dk i).W.b2) (by omega)
    · rw [out i hi]
      exact Nat.one_lt_two_pow (by omega)
  · rw [at_ i hi]
    exact lcmI_l _ _
  · rw [at_ i hi]
    exact lcmI_r _ _
theorem rs_step {m : List Ds} {B j : Nat} (h : Mach m B) {s : List Int} (I : RsInv m B j s) (hj : j + 1 < m.length) : RsInv m B (j + 1) (rsStep m s (j + 1)) := by
  have pl := h.par (j + 1) (by omega) hj
  have dk := h.dk (j + 1)
  obtain ⟨pf, pv, p1, p2⟩ := dk.pull
  unfold rsStep
  generalize hp : (m.getD (j + 1) d0).p = p at *
  have l1 : j + 1 < s.length := by rw [I.len]; exact hj
  have l2 : p < (s.set (j + 1) (lcmI (s.getD (j + 1) 1) (m.getD (j + 1) d0).K.2)).length := by rw [List.length_set]; omega
  have g1 := fun k => set_getD (s := s) (lcmI (s.getD (j + 1) 1) (m.getD (j + 1) d0).K.2) l1 k 1
  have e1 : (s.set (j + 1) (lcmI (s.getD (j + 1) 1) (m.getD (j + 1) d0).K.2)).getD p 1 = s.getD p 1 := by rw [g1 p, if_neg (by omega)]
  rw [e1]
  have g2 := fun k => set_getD (s := s.set (j + 1) (lcmI (s.getD (j + 1) 1) (m.getD (j + 1) d0).K.2)) (lcmI (s.getD p 1) (pullF (m.getD (j + 1) d0)).2) l2 k 1
  have ln : (s.set (j + 1) (lcmI (s.getD (j + 1) 1) (m.getD (j + 1) d0).K.2)).length = s.length := List.length_set ..
  generalize s.set (j + 1) (lcmI (s.getD (j + 1) 1) (m.getD (j + 1) d0).K.2) = s1 at *
  have up : ∀ {x : Int} k, x ∣ s.getD k 1 → x ∣ (s1.set p (lcmI (s.getD p 1) (pullF (m.getD (j + 1) d0)).2)).getD k 1 := fun {x} k hx => by
    rw [g2 k]
    by_cases q : k = p
    · rw [if_pos q]
      rw [q] at hx
      exact Int.dvd_trans hx (lcmI_l _ _)
    · rw [if_neg q, g1 k]
      by_cases q2 : k = j + 1
      · rw [if_pos q2]
        rw [q2] at hx
        exact Int.dvd_trans hx (lcmI_l _ _)
      · rw [if_neg q2]
        exact hx
  have ex : 2 * B + 1 + 4 * B * (j + 1) = 2 * B + 1 + 4 * B * j + 4 * B := by rw [Nat.mul_add]; omega
  refine ⟨by rw [List.length_set, ln, I.len], fun k => ?_, fun k => ?_, fun k hk => up k (I.J k hk), fun k hk => up k (I.W k hk), fun k a b c => ?_, fun k a b c => ?_⟩
  · rw [g2 k]
    split
    · exact lcmI_pos (I.pos p) pf.1
    · rw [g1 k]
      split
      · exact lcmI_pos (I.pos _) dk.K.ok.1
      · exact I.pos k
  · rw [g2 k, ex]
    split
    · exact pow_up (lcmI_lt (I.bd p) p2) (by omega)
    · rw [g1 k]
      split
      · exact pow_up (lcmI_lt (I.bd _) dk.K.b2) (by omega)
      · exact pow_up (I.bd k) (by omega)
  · by_cases q : k = j + 1
    · rw [q, g2 (j + 1), if_neg (by omega), g1 (j + 1), if_pos rfl]
      exact lcmI_r _ _
    · exact up k (I.K k a (by omega) c)
  · by_cases q : k = j + 1
    · rw [q, hp, g2 p, if_pos rfl]
      exact lcmI_r _ _
    · exact up _ (I.Q k a (by omega) c)
theorem rs_all {m : List Ds} {B : Nat} (h : Mach m B) : ∀ j, j < m.length → RsInv m B j (rsN m j)
  | 0, _ => rs_inv0 h
  | j + 1, hj => rs_step h (rs_all h j (by omega)) hj
theorem rs_full {m : List Ds} {B : Nat} (h : Mach m B) : RsInv m B (m.length - 1) (rsL m) := rs_all h _ (by have := h.n1; omega)
end Px
/-! The determinants of a machine's table, disc by disc. -/
namespace Px
open PySem DL Mx L2
theorem Frb.sm {x : Fr} {B : Nat} (h : Frb x B) (hB : B ≤ 4000) : Sm x := ⟨h.ok.1, pow_up h.b1 hB, pow_up h.b2 hB⟩
theorem cdw {a b : Int} {e : Nat} (h0 : 0 < b) (h : b.natAbs < 2 ^ e) (he : e ≤ 9000) : L2.CDivW a b := by
  refine ⟨h0, ?_⟩
  have := (Nat.log2_lt (n := b.natAbs) (by omega)).mpr (pow_up h he)
  omega
theorem machL_at {m : List Ds} {i : Nat} {d : PyData} (h : (machL m)[i]? = some d) : i < m.length ∧ (d = rootD (m.getD i d0) ∨ d = discD (m.getD i d0)) ∧ (0 < i → d = discD (m.getD i d0)) := by
  have hi : i < m.length := by
    have := (List.getElem?_eq_some_iff.mp h).1
    rwa [machL_len] at this
  refine ⟨hi, ?_, fun h0 => ?_⟩
  · cases i with
    | zero =>
      rw [machL_root hi] at h
      exact .inl (Option.some.inj h).symm
    | succ i =>
      rw [machL_disc (by omega) hi] at h
      exact .inr (Option.some.inj h).symm
  · rw [machL_disc h0 hi] at h
    exact (Option.some.inj h).symm
theorem disc1 {a b : Ds} (h : [discD a] = [discD b]) : a = b := discD_inj (List.cons.inj h).1
theorem heads {D : PyData} {a b : Ds} (h1 : D = rootD a ∨ D = discD a) (h2 : D = rootD b ∨ D = discD b) : a.J = b.J ∧ a.W = b.W := by
  rcases h1 with rfl | rfl <;> rcases h2 with h2 | h2
  · exact rootD_inj h2
  · simp [rootD, discD] at h2
  · simp [rootD, discD] at h2
  · rw [discD_inj h2]
    exact ⟨rfl, rfl⟩
theorem ints_at {s : List Int} {j : Nat} (h : j < s.length) (z : Int) : atI (s.map PyData.int) (j : Int) = some (.int (s.getD j z)) := by
  rw [atI_n, List.getElem?_map, List.getD_eq_getElem?_getD, List.getElem?_eq_getElem h]
  rfl
theorem rows_at {s : List (List Int)} {j : Nat} (h : j < s.length) : atI (s.map rowD) (j : Int) = some (rowD (s.getD j [])) := by
  rw [atI_n, List.getElem?_map, List.getD_eq_getElem?_getD, List.getElem?_eq_getElem h]
  rfl
theorem setG {α : Type} {s : List α} {i : Nat} (v : α) (h : i < s.length) (k : Nat) (z : α) : (s.set i v).getD k z = if k = i then v else s.getD k z := by
  by_cases q : k = i
  · subst q
    rw [if_pos rfl, List.getD_eq_getElem?_getD, List.getElem?_set_self h]
    rfl
  · rw [if_neg q, List.getD_eq_getElem?_getD, List.getElem?_set_ne (Ne.symm q), ← List.getD_eq_getElem?_getD]
theorem sum_take : ∀ (a : List Nat) (k : Nat), k < a.length → (a.take (k + 1)).sum = (a.take k).sum + a.getD k 0
  | [], k, h => by simp at h
  | x :: a, 0, _ => by simp
  | x :: a, k + 1, h => by
    have := sum_take a k (by simpa using h)
    simp only [List.take_succ_cons, List.sum_cons, List.getD_cons_succ]
    omega
theorem sum_set : ∀ (a : List Nat) (k p v : Nat), p < k → p < a.length → ((a.set p v).take k).sum + a.getD p 0 = (a.take k).sum + v
  | [], k, p, v, _, h => by simp at h
  | x :: a, 0, p, v, h, _ => by omega
  | x :: a, k + 1, 0, v, _, _ => by simp; omega
  | x :: a, k + 1, p + 1, v, h, h2 => by
    have := sum_set a k p v (by omega) (by simpa using h2)
    simp only [List.set_cons_succ, List.take_succ_cons, List.sum_cons, List.getD_cons_succ]
    omega
theorem sum_two : ∀ (a : List Nat) (k p c : Nat), p < c → c < k → c < a.length → a.getD p 0 + a.getD c 0 ≤ (a.take k).sum := fun a k p c h1 h2 h3 => by
  have e1 := sum_take a c h3
  have e2 := sum_take a p (by omega)
  have mono : ∀ {m n : Nat}, m ≤ n → (a.take m).sum ≤ (a.take n).sum := fun {m n} h => by
    obtain ⟨d, rfl⟩ := Nat.exists_eq_add_of_le h
    induction d with
    | zero => exact Nat.le_refl _
    | succ d ih =>
      have ih := ih (by omega)
      by_cases q : m + d < a.length
      · have := sum_take a (m + d) q
        rw [show m + (d + 1) = m + d + 1 by omega]
        omega
      · have t1 := List.take_of_length_le (i := m + d) (l := a) (by omega)
        have t2 := List.take_of_length_le (i := m + (d + 1)) (l := a) (by omega)
        rw [t1] at ih
        rw [t2]
        exact ih
  have m1 := mono (show p + 1 ≤ c by omega)
  have m2 := mono (show c + 1 ≤ k by omega)
  omega
structure RInv (N : Mq) (X i : Nat) (hs qs : List (List Int)) (a : List Nat) : Prop where
  lh : hs.length = N.n
  lq : qs.length = N.n
  la : a.length = N.n
  vh : ∀ k x, k < N.n → pI (hs.getD k []) x = (hpl (sM N x) (qM N x) (kf N.n N.p k i)).1
  vq : ∀ k x, k < N.n → pI (qs.getD k []) x = (hpl (sM N x) (qM N x) (kf N.n N.p k i)).2
  bh : ∀ k, k < N.n → n1 (hs.getD k []) ≤ (16 * X) ^ a.getD k 0
  bq : ∀ k, k < N.n → n1 (qs.getD k []) ≤ 4 * X * (16 * X) ^ a.getD k 0
  gh : ∀ k, k < N.n → (hs.getD k []).length ≤ a.getD k 0 + 1
  gq : ∀ k, k < N.n → (qs.getD k []).length ≤ a.getD k 0 + 1
  sm : (a.take (N.n - i)).sum = i
theorem rinv0 (N : Mq) (X : Nat) : RInv N X 0 (List.replicate N.n [1]) (List.replicate N.n []) (List.replicate N.n 0) := by
  have g : ∀ {α : Type} (v z : α) k, k < N.n → (List.replicate N.n v).getD k z = v := fun {α} v z k hk => by
    rw [List.getD_eq_getElem?_getD, List.getElem?_replicate, if_pos hk]
    rfl
  refine ⟨List.length_replicate .., List.length_replicate .., List.length_replicate .., fun k x hk => ?_, fun k x hk => ?_, fun k hk => ?_, fun k hk => ?_, fun k hk => ?_, fun k hk => ?_, ?_⟩
  · rw [g _ _ k hk]
    show ((1 : Int) : Rat) + x * 0 = 1
    have : ((1 : Int) : Rat) = 1 := rfl
    rw [this]
    grind
  · rw [g _ _ k hk]
    rfl
  · rw [g _ _ k hk, g _ _ k hk]
    show 1 + 0 ≤ _
    simp
  · rw [g _ _ k hk]
    exact Nat.zero_le _
  · rw [g _ _ k hk]
    show 1 ≤ _
    omega
  · rw [g _ _ k hk]
    exact Nat.zero_le _
  · rw [Nat.sub_zero, List.take_of_length_le (by simp)]
    simp
theorem rinv_step {N : Mq} {X i : Nat} (hX : 0 < X) {hs qs : List (List Int)} {a : List Nat} (I : RInv N X i hs qs a) (hi : i + 1 < N.n) {c p : Nat} (hc : c = N.n - (i + 1)) (ep : N.p c = p) (hp : p < c)
    {t sh nq nh : List Int} (tv : ∀ x, pI t x = (N.W c - x * N.J c) * pI (hs.getD c []) x + pI (qs.getD c []) x) (tn : n1 t ≤ 2 * X * n1 (hs.getD c []) + n1 (qs.getD c [])) (tl : t.length ≤ max ((hs.getD c []).length + 1) (qs.getD c []).length)
    (sv : ∀ x, pI sh x = pI t x + N.K c * pI (hs.getD c []) x) (sn : n1 sh ≤ n1 t + X * n1 (hs.getD c [])) (sl : sh.length ≤ max t.length (hs.getD c []).length)
    (qv : ∀ x, pI nq x = pI (qs.getD p []) x * pI sh x + N.Q c * (pI t x * pI (hs.getD p []) x)) (qn : n1 nq ≤ n1 (qs.getD p []) * n1 sh + X * (n1 t * n1 (hs.getD p []))) (ql : nq.length ≤ max ((qs.getD p []).length + sh.length - 1) (t.length + (hs.getD p []).length - 1))
    (hv : ∀ x, pI nh x = pI (hs.getD p []) x * pI sh x) (hn : n1 nh ≤ n1 (hs.getD p []) * n1 sh) (hl : nh.length ≤ (hs.getD p []).length + sh.length - 1) :
    RInv N X (i + 1) (hs.set p nh) (qs.set p nq) (a.set p (a.getD p 0 + a.getD c 0 + 1)) := by
  have cn : c < N.n := by omega
  have pn : p < N.n := by omega
  have g1 := fun k => setG (s := hs) nh (by rw [I.lh]; exact pn) k []
  have g2 := fun k => setG (s := qs) nq (by rw [I.lq]; exact pn) k []
  have g3 := fun k => setG (s := a) (a.getD p 0 + a.getD c 0 + 1) (by rw [I.la]; exact pn) k 0
  have kc : ∀ k, k < N.n → kf N.n N.p k (i + 1) = if k = p then c :: kf N.n N.p k i else kf N.n N.p k i := fun k hk => by
    show (if k < N.n - (i + 1) ∧ N.p (N.n - (i + 1)) = k then _ else _) = _
    rw [← hc, ep]
    by_cases q : k = p
    · rw [if_pos ⟨by omega, q.symm⟩, if_pos q]
    · rw [if_neg (fun z => q z.2.symm), if_neg q]
  obtain ⟨eh, ef⟩ : (∀ x, hM N x c = pI (hs.getD c []) x) ∧ ∀ x, fM N x c = pI t x := by
    have e : N.n - (c + 1) = i := by omega
    refine ⟨fun x => ?_, fun x => ?_⟩
    · rw [(hM_kf N x cn).1, e, I.vh c x cn]
    · rw [(hM_kf N x cn).2, e, tv, I.vh c x cn, I.vq c x cn]
  have b1 := I.bh c cn
  have b2 := I.bq c cn
  have b3 := I.bh p pn
  have b4 := I.bq p pn
  generalize hU : 16 * X = U at *
  generalize eA : U ^ a.getD c 0 = A at *
  generalize eP : U ^ a.getD p 0 = Q at *
  have t6 : n1 t ≤ 6 * X * A := by
    have := Nat.mul_le_mul_left (2 * X) b1
    have e : 6 * X * A = 2 * X * A + 4 * X * A := by rw [← Nat.add_mul]; congr 1; omega
    omega
  have s7 : n1 sh ≤ 7 * X * A := by
    have := Nat.mul_le_mul_left X b1
    have e : 7 * X * A = 6 * X * A + X * A := by rw [← Nat.add_mul]; congr 1; omega
    omega
  have eU : U ^ (a.getD p 0 + a.getD c 0 + 1) = Q * A * (16 * X) := by rw [Nat.pow_succ, Nat.pow_add, eA, eP, hU]
  refine ⟨by rw [List.length_set]; exact I.lh, by rw [List.length_set]; exact I.lq, by rw [List.length_set]; exact I.la, fun k x hk => ?_, fun k x hk => ?_, fun k hk => ?_, fun k hk => ?_, fun k hk => ?_, fun k hk => ?_, ?_⟩
  · rw [g1 k, kc k hk]
    by_cases q : k = p
    · rw [if_pos q, if_pos q, q]
      show _ = (hpl (sM N x) (qM N x) (kf N.n N.p p i)).1 * sM N x c
      have es : sM N x c = pI sh x := by rw [sv, ← ef, ← eh]; rfl
      rw [hv, ← I.vh p x pn, es]
    · rw [if_neg q, if_neg q]
      exact I.vh k x hk
  · rw [g2 k, kc k hk]
    by_cases q : k = p
    · rw [if_pos q, if_pos q, q]
      show _ = (hpl (sM N x) (qM N x) (kf N.n N.p p i)).2 * sM N x c + (hpl (sM N x) (qM N x) (kf N.n N.p p i)).1 * qM N x c
      have es : sM N x c = pI sh x := by rw [sv, ← ef, ← eh]; rfl
      have eq : qM N x c = N.Q c * pI t x := by rw [← ef]; rfl
      rw [← I.vh p x pn, ← I.vq p x pn, es, eq, qv]
      grind
    · rw [if_neg q, if_neg q]
      exact I.vq k x hk
  · rw [g1 k, g3 k, hU]
    by_cases q : k = p
    · rw [if_pos q, if_pos q, eU]
      refine Nat.le_trans hn (Nat.le_trans (Nat.mul_le_mul b3 s7) ?_)
      have e : Q * A * (16 * X) = Q * (7 * X * A) + 9 * (Q * (X * A)) := by grind
      omega
    · rw [if_neg q, if_neg q, ← hU]
      exact I.bh k hk
  · rw [g2 k, g3 k, hU]
    by_cases q : k = p
    · rw [if_pos q, if_pos q, eU]
      refine Nat.le_trans qn ?_
      have h1 := Nat.mul_le_mul b4 s7
      have h2 := Nat.mul_le_mul_left X (Nat.mul_le_mul t6 b3)
      have e : 4 * X * (Q * A * (16 * X)) = 4 * X * Q * (7 * X * A) + X * (6 * X * A * Q) + 30 * (X * X * Q * A) := by grind
      omega
    · rw [if_neg q, if_neg q, ← hU]
      exact I.bq k hk
  · rw [g1 k, g3 k]
    by_cases q : k = p
    · rw [if_pos q, if_pos q]
      have := I.gh p pn
      have := I.gh c cn
      have := I.gq c cn
      omega
    · rw [if_neg q, if_neg q]
      exact I.gh k hk
  · rw [g2 k, g3 k]
    by_cases q : k = p
    · rw [if_pos q, if_pos q]
      have := I.gh p pn
      have := I.gq p pn
      have := I.gh c cn
      have := I.gq c cn
      omega
    · rw [if_neg q, if_neg q]
      exact I.gq k hk
  · have e1 := sum_set a (N.n - (i + 1)) p (a.getD p 0 + a.getD c 0 + 1) (by omega) (by rw [I.la]; exact pn)
    have e2 := sum_take a c (by rw [I.la]; exact cn)
    have e3 := I.sm
    rw [show N.n - i = c + 1 by omega] at e3
    rw [← hc] at e1 ⊢
    omega
theorem rinv_le {N : Mq} {X i : Nat} {hs qs : List (List Int)} {a : List Nat} (I : RInv N X i hs qs a) {k : Nat} (hk : k + i < N.n) : a.getD k 0 ≤ i := by
  have e := sum_take a k (by rw [I.la]; omega)
  have mono : ∀ {m n : Nat}, m ≤ n → (a.take m).sum ≤ (a.take n).sum := fun {m n} h => by
    obtain ⟨d, rfl⟩ := Nat.exists_eq_add_of_le h
    induction d with
    | zero => exact Nat.le_refl _
    | succ d ih =>
      have ih := ih (by omega)
      by_cases q : m + d < a.length
      · have := sum_take a (m + d) q
        rw [show m + (d + 1) = m + d + 1 by omega]
        omega
      · have t1 := List.take_of_length_le (i := m + d) (l := a) (by omega)
        have t2 := List.take_of_length_le (i := m + (d + 1)) (l := a) (by omega)
        rw [t1] at ih
        rw [t2]
        exact ih
  have := mono (show k + 1 ≤ N.n - i by omega)
  have := I.sm
  omega
theorem rinv_sizes {N : Mq} {X i e : Nat} {hs qs : List (List Int)} {a : List Nat} (hX : 0 < X) (I : RInv N X i hs qs a) (hi : i + 1 < N.n) (hU : (16 * X) ^ N.n < 2 ^ e) {c p : Nat} (hc : c = N.n - (i + 1)) (hp : p < c) :
    2 * X * n1 (hs.getD c []) < 2 ^ e ∧ n1 (hs.getD c []) < 2 ^ e ∧ n1 (qs.getD c []) < 2 ^ e ∧ n1 (hs.getD p []) < 2 ^ e ∧ n1 (qs.getD p []) < 2 ^ e ∧
    ∀ t, n1 t ≤ 2 * X * n1 (hs.getD c []) + n1 (qs.getD c []) → n1 t < 2 ^ e ∧ n1 t * n1 (hs.getD p []) < 2 ^ e ∧ ∀ s, n1 s ≤ n1 t + X * n1 (hs.getD c []) → n1 s < 2 ^ e ∧ n1 (qs.getD p []) * n1 s < 2 ^ e := by
  have cn : c < N.n := by omega
  have pn : p < N.n := by omega
  have two : a.getD p 0 + a.getD c 0 ≤ i := by
    have := sum_two a (N.n - i) p c hp (by omega) (by rw [I.la]; exact cn)
    have := I.sm
    omega
  have b1 := I.bh c cn
  have b2 := I.bq c cn
  have b3 := I.bh p pn
  have b4 := I.bq p pn
  have U1 : 1 ≤ 16 * X := by omega
  have up : ∀ {k : Nat}, k ≤ N.n → (16 * X) ^ k ≤ (16 * X) ^ N.n := fun h => Nat.pow_le_pow_right U1 h
  have one : ∀ {k : Nat}, k + 1 ≤ N.n → 16 * X * (16 * X) ^ k < 2 ^ e := fun {k} h => by
    have := up h
    rw [Nat.pow_succ, Nat.mul_comm] at this
    omega
  have c1 := one (k := a.getD c 0) (by omega)
  have c2 := one (k := a.getD p 0) (by omega)
  have c3 := one (k := a.getD p 0 + a.getD c 0 + 1) (by omega)
  rw [Nat.pow_succ, Nat.pow_add] at c3
  generalize (16 * X) ^ a.getD c 0 = A at *
  generalize (16 * X) ^ a.getD p 0 = Q at *
  have m1 := Nat.mul_le_mul_left (2 * X) b1
  have m2 := Nat.mul_le_mul_left X b1
  have e1 : 16 * X * A = 2 * X * A + 14 * (X * A) := by grind
  have e2 : 16 * X * A = A + (16 * X - 1) * A := by
    have : 16 * X = 1 + (16 * X - 1) := by omega
    conv => lhs; rw [this, Nat.add_mul, Nat.one_mul]
  have e3 : 16 * X * Q = Q + (16 * X - 1) * Q := by
    have : 16 * X = 1 + (16 * X - 1) := by omega
    conv => lhs; rw [this, Nat.add_mul, Nat.one_mul]
  have e4 : 16 * X * A = 4 * X * A + 12 * (X * A) := by grind
  have e5 : 16 * X * Q = 4 * X * Q + 12 * (X * Q) := by grind
  have e6 : 16 * X * (Q * A * (16 * X)) = 28 * (X * X * (Q * A)) + 228 * (X * X * (Q * A)) := by grind
  have e7 : 6 * X * A * Q = 6 * X * (Q * A) := by grind
  have XX : X * (Q * A) ≤ X * X * (Q * A) := by
    rw [Nat.mul_assoc X X]
    exact Nat.le_mul_of_pos_left _ hX
  refine ⟨by omega, by omega, by omega, by omega, by omega, fun t ht => ?_⟩
  have t6 : n1 t ≤ 6 * X * A := by
    have e : 6 * X * A = 2 * X * A + 4 * X * A := by rw [← Nat.add_mul]; congr 1; omega
    omega
  have e8 : 16 * X * A = 6 * X * A + 10 * (X * A) := by grind
  have q1 := Nat.mul_le_mul t6 b3
  have e9 : 6 * X * (Q * A) = 6 * (X * (Q * A)) := by rw [Nat.mul_assoc]
  refine ⟨by omega, by omega, fun s hs' => ?_⟩
  have s7 : n1 s ≤ 7 * X * A := by
    have e : 7 * X * A = 6 * X * A + X * A := by rw [← Nat.add_mul]; congr 1; omega
    omega
  have e10 : 16 * X * A = 7 * X * A + 9 * (X * A) := by grind
  have q2 := Nat.mul_le_mul b4 s7
  have e11 : 4 * X * Q * (7 * X * A) = 28 * (X * X * (Q * A)) := by grind
  exact ⟨by omega, by omega⟩
theorem rinv_end {N : Mq} {X e : Nat} {hs qs : List (List Int)} {a : List Nat} (hX : 0 < X) (h1 : 1 ≤ N.n) (I : RInv N X (N.n - 1) hs qs a) (hU : (16 * X) ^ N.n < 2 ^ e) :
    n1 (hs.getD 0 []) < 2 ^ e ∧ 2 * X * n1 (hs.getD 0 []) < 2 ^ e ∧ n1 (qs.getD 0 []) < 2 ^ e ∧ (hs.getD 0 []).length ≤ N.n ∧ (qs.getD 0 []).length ≤ N.n ∧ (∀ t, n1 t ≤ 2 * X * n1 (hs.getD 0 []) + n1 (qs.getD 0 []) → n1 t < 2 ^ e) ∧ ∀ x, pI (hs.getD 0 []) x = hM N x 0 ∧ fM N x 0 = (N.W 0 - x * N.J 0) * pI (hs.getD 0 []) x + pI (qs.getD 0 []) x := by
  have le := rinv_le I (k := 0) (by omega)
  have b1 := I.bh 0 (by omega)
  have b2 := I.bq 0 (by omega)
  have g1 := I.gh 0 (by omega)
  have g2 := I.gq 0 (by omega)
  have U1 : 1 ≤ 16 * X := by omega
  have c1 : 16 * X * (16 * X) ^ a.getD 0 0 < 2 ^ e := by
    have := Nat.pow_le_pow_right U1 (show a.getD 0 0 + 1 ≤ N.n by omega)
    rw [Nat.pow_succ, Nat.mul_comm] at this
    omega
  generalize (16 * X) ^ a.getD 0 0 = A at *
  have m1 := Nat.mul_le_mul_left (2 * X) b1
  have e1 : 16 * X * A = 2 * X * A + 14 * (X * A) := by grind
  have e2 : 16 * X * A = A + (16 * X - 1) * A := by
    have : 16 * X = 1 + (16 * X - 1) := by omega
    conv => lhs; rw [this, Nat.add_mul, Nat.one_mul]
  have e4 : 16 * X * A = 4 * X * A + 12 * (X * A) := by grind
  have e6 : 16 * X * A = 2 * X * A + 4 * X * A + 10 * (X * A) := by grind
  refine ⟨by omega, by omega, by omega, by omega, by omega, fun t ht => by omega, fun x => ?_⟩
  have k := hM_kf N x (i := 0) (by omega)
  rw [show N.n - (0 + 1) = N.n - 1 by omega] at k
  rw [k.1, k.2, I.vh 0 x (by omega), I.vq 0 x (by omega)]
  exact ⟨rfl, rfl⟩
def rsR (m : List Ds) (i : Nat) : Rat := (((rsL m).getD i 1 : Int) : Rat)
structure RootOk (m : List Ds) (h t : List Int) : Prop where
  hv : ∀ x, pI h x = hM (scM (mq m) (rsR m)) x 0
  tv : ∀ x, pI t x = fM (scM (mq m) (rsR m)) x 0
  hn : n1 h < 2 ^ 3901
  tn : n1 t < 2 ^ 3901
  hl : h.length ≤ 9
  tl : t.length ≤ 9
  tt : t.getLast? ≠ some 0
structure EndOk (m : List Ds) (u : List Int) : Prop where
  at_ : ∃ c : Rat, 0 < c ∧ ∀ x, pI u x = c * fM (mq m) x 0
  g : gcdL u = 1
  tt : u.getLast? ≠ some 0
  l : u.length ≤ 9
  b : bd u 3901
theorem EndOk.uniq {m n : List Ds} {u v : List Int} (h1 : EndOk m u) (h2 : EndOk n v) {z : Rat} (hz : 0 < z) (e : ∀ x, fM (mq n) x 0 = z * fM (mq m) x 0) : u = v := by
  obtain ⟨⟨c, c0, hc⟩, g1, t1, _, _⟩ := h1
  obtain ⟨⟨d, d0', hd⟩, g2, t2, _, _⟩ := h2
  have dz := Rat.mul_pos d0' hz
  have dzn : d * z ≠ 0 := fun q => by rw [q] at dz; exact absurd dz (by decide)
  refine prim_uniq (c := c * (d * z)⁻¹) (Rat.mul_pos c0 (Rat.inv_pos.mpr dz)) (fun x => ?_) g1 g2 t1 t2
  rw [hc, hd, e]
  grind
end Px
/-! Machines geared out, turned, grown; weights of subtrees. -/
namespace Px
open PySem DL Mx L2
/-! how many discs hang on one -/
def sm (n : Nat) (P : Nat → Bool) (w : Nat → Nat) : Nat → Nat
  | 0 => 0
  | m + 1 => (if P (n - (m + 1)) then w (n - (m + 1)) else 0) + sm n P w m
theorem sm_split {n : Nat} {P Q R : Nat → Bool} {w : Nat → Nat} : ∀ {m : Nat}, m ≤ n → (∀ j, n - m ≤ j → j < n → (P j = true ↔ Q j = true ∨ R j = true) ∧ ¬ (Q j = true ∧ R j = true)) → sm n P w m = sm n Q w m + sm n R w m
  | 0, _, _ => rfl
  | m + 1, hm, h => by
    have ih := sm_split (P := P) (Q := Q) (R := R) (w := w) (m := m) (by omega) fun j a b => h j (by omega) b
    obtain ⟨h1, h2⟩ := h (n - (m + 1)) (Nat.le_refl _) (by omega)
    unfold sm
    rw [ih]
    by_cases q : Q (n - (m + 1)) = true
    · have r : ¬ R (n - (m + 1)) = true := fun r => h2 ⟨q, r⟩
      rw [if_pos (h1.mpr (.inl q)), if_pos q, if_neg r]
      omega
    · by_cases r : R (n - (m + 1)) = true
      · rw [if_pos (h1.mpr (.inr r)), if_neg q, if_pos r]
        omega
      · rw [if_neg (fun z => (h1.mp z).elim q r), if_neg q, if_neg r]
        omega
theorem sm_le {n : Nat} {P Q : Nat → Bool} {w : Nat → Nat} : ∀ {m : Nat}, m ≤ n → (∀ j, n - m ≤ j → j < n → P j = true → Q j = true) → sm n P w m ≤ sm n Q w m
  | 0, _, _ => Nat.le_refl _
  | m + 1, hm, h => by
    have ih := sm_le (P := P) (Q := Q) (w := w) (m := m) (by omega) fun j a b => h j (by omega) b
    unfold sm
    by_cases q : P (n - (m + 1)) = true
    · rw [if_pos q, if_pos (h _ (Nat.le_refl _) (by omega) q)]
      omega
    · rw [if_neg q]
      omega
def wM (n : Nat) (p : Nat → Nat) (i : Nat) : Nat := wt n p n i
def wsum (n : Nat) (p : Nat → Nat) (cs : List Nat) : Nat := (cs.map (wM n p)).sum
theorem wt_fuel {n : Nat} {p : Nat → Nat} : ∀ f i, n ≤ f + i → wt n p f i = wt n p (f + 1) i
  | 0, i, h => by
    have e : kids n p i = [] := by
      unfold kids
      rw [show n - (i + 1) = 0 by omega]
      rfl
    show 1 = 1 + ((kids n p i).map _).sum
    rw [e]
    rfl
  | f + 1, i, h => by
    show 1 + ((kids n p i).map (wt n p f)).sum = 1 + ((kids n p i).map (wt n p (f + 1))).sum
    rw [List.map_congr_left fun c hc => wt_fuel f c (by have := (kids_mem hc).1; omega)]
theorem wM_eq (n : Nat) (p : Nat → Nat) (i : Nat) : wM n p i = 1 + wsum n p (kf n p i (n - (i + 1))) := by
  unfold wM
  rw [wt_fuel n i (by omega)]
  rfl
theorem wsum_sm (n : Nat) (p : Nat → Nat) (i : Nat) : ∀ m, wsum n p (kf n p i m) = sm n (fun c => decide (i < c ∧ p c = i)) (wM n p) m
  | 0 => rfl
  | m + 1 => by
    have ih := wsum_sm n p i m
    show wsum n p (if i < n - (m + 1) ∧ p (n - (m + 1)) = i then (n - (m + 1)) :: kf n p i m else kf n p i m) = (if decide (i < n - (m + 1) ∧ p (n - (m + 1)) = i) = true then _ else 0) + _
    by_cases q : i < n - (m + 1) ∧ p (n - (m + 1)) = i
    · rw [if_pos q, if_pos (decide_eq_true q), ← ih]
      rfl
    · rw [if_neg q, if_neg (by simpa using q), ← ih]
      omega
theorem w_roots {n : Nat} {p : Nat → Nat} (hp : ∀ i, 0 < i → i < n → p i < i) : ∀ m, m < n → sm n (fun c => decide (p c < n - m)) (wM n p) m = m
  | 0, _ => rfl
  | m + 1, hm => by
    have ih := w_roots hp m (by omega)
    have sp := sm_split (n := n) (P := fun c => decide (p c < n - m)) (Q := fun c => decide (p c < n - (m + 1))) (R := fun c => decide (n - (m + 1) < c ∧ p c = n - (m + 1))) (w := wM n p) (m := m) (by omega) fun j a b => by
      simp only [decide_eq_true_eq]
      omega
    have ew := wM_eq n p (n - (m + 1))
    rw [show n - (n - (m + 1) + 1) = m by omega, wsum_sm] at ew
    show (if decide (p (n - (m + 1)) < n - (m + 1)) = true then wM n p (n - (m + 1)) else 0) + _ = m + 1
    rw [if_pos (decide_eq_true (hp _ (by omega) (by omega))), ew]
    omega
theorem w_le {n : Nat} {p : Nat → Nat} (hp : ∀ i, 0 < i → i < n → p i < i) {i : Nat} (hi : i < n) : wM n p i ≤ n - i := by
  rw [wM_eq, wsum_sm]
  have h1 := w_roots hp (n - (i + 1)) (by omega)
  have h2 := sm_le (n := n) (P := fun c => decide (i < c ∧ p c = i)) (Q := fun c => decide (p c < n - (n - (i + 1)))) (w := wM n p) (m := n - (i + 1)) (by omega) fun j a b c => by
    simp only [decide_eq_true_eq] at c ⊢
    omega
  omega
/-! geared out -/
def gR (m : List Ds) : Nat → Nat → Rat
  | 0, _ => 1
  | f + 1, i => if 0 < i ∧ i < m.length then gR m f (m.getD i d0).p * val (m.getD i d0).R else 1
def gM (m : List Ds) (i : Nat) : Rat := gR m m.length i
theorem gR_fuel {m : List Ds} {B : Nat} (h : Mach m B) : ∀ f i, i ≤ f → gR m f i = gR m (f + 1) i
  | 0, i, hi => by
    show 1 = if 0 < i ∧ i < m.length then _ else 1
    rw [if_neg (by omega)]
  | f + 1, i, hi => by
    show (if _ then _ else _) = if _ then _ else _
    by_cases q : 0 < i ∧ i < m.length
    · rw [if_pos q, if_pos q, gR_fuel h f _ (by have := h.par i q.1 q.2; omega)]
    · rw [if_neg q, if_neg q]
theorem gM_zero (m : List Ds) : gM m 0 = 1 := by
  unfold gM
  cases m.length with
  | zero => rfl
  | succ n => show (if 0 < 0 ∧ _ then _ else 1) = 1; rw [if_neg (by omega)]
theorem gM_out {m : List Ds} {i : Nat} (h : ¬ i < m.length) : gM m i = 1 := by
  unfold gM
  cases e : m.length with
  | zero => rfl
  | succ n => show (if 0 < i ∧ i < m.length then _ else 1) = 1; rw [if_neg (by omega)]
theorem gM_step {m : List Ds} {B : Nat} (h : Mach m B) {i : Nat} (h0 : 0 < i) (hi : i < m.length) : gM m i = gM m (m.getD i d0).p * val (m.getD i d0).R := by
  have e : gM m i = gR m (m.length + 1) i := by
    unfold gM
    exact gR_fuel h m.length i (by omega)
  rw [e]
  show (if 0 < i ∧ i < m.length then gR m m.length (m.getD i d0).p * _ else 1) = _
  rw [if_pos ⟨h0, hi⟩]
  rfl
theorem val_ne {x : Fr} (h : FOk x) (n : x.1 ≠ 0) : val x ≠ 0 := fun z => n ((val_pos h.1).2.2.mp z)
theorem gM_ne {m : List Ds} {B : Nat} (h : Mach m B) : ∀ i, gM m i ≠ 0 := fun i => by
  induction i using Nat.strongRecOn with
  | ind i ih =>
    by_cases q : 0 < i ∧ i < m.length
    · rw [gM_step h q.1 q.2]
      intro z
      rcases Rat.mul_eq_zero.mp z with z | z
      · exact ih _ (h.par i q.1 q.2) z
      · exact val_ne (h.dk i).R.ok (h.dk i).R0 z
    · by_cases q2 : i < m.length
      · rw [show i = 0 by omega, gM_zero]
        decide
      · rw [gM_out q2]
        decide
def g2 (m : List Ds) (i : Nat) : Rat := gM m i * gM m i
theorem sq_pos {x : Rat} (h : x ≠ 0) : 0 < x * x := by
  have : x < 0 ∨ 0 < x := by grind
  rcases this with q | q
  · have := Rat.mul_pos (show 0 < - x by grind) (show 0 < - x by grind)
    grind
  · exact Rat.mul_pos q q
theorem g2_pos {m : List Ds} {B : Nat} (h : Mach m B) (i : Nat) : 0 < g2 m i := sq_pos (gM_ne h i)
/-- the parts of what a fraction with bounds gives -/
theorem frOf_mul {a b : Rat} {m n : Nat} (ha : (frOf a).1.natAbs < 2 ^ m ∧ (frOf a).2.natAbs < 2 ^ m) (hb : (frOf b).1.natAbs < 2 ^ n ∧ (frOf b).2.natAbs < 2 ^ n) : (frOf (a * b)).1.natAbs < 2 ^ (m + n) ∧ (frOf (a * b)).2.natAbs < 2 ^ (m + n) := by
  have fa := frOf_ok a
  have fb := frOf_ok b
  obtain ⟨s1, s2, _⟩ := (frOf_ok (a * b)).small (u := (frOf a).1 * (frOf b).1) (S := (frOf a).2 * (frOf b).2) (Int.mul_pos fa.1 fb.1) (by
    rw [frOf_val, Rat.intCast_mul, Rat.intCast_mul]
    have k := val_mul fa.1
    have r := val_mul fb.1
    rw [frOf_val] at k r
    grind)
  exact ⟨Nat.lt_of_le_of_lt s1 (natAbs_mul_lt ha.1 hb.1), Nat.lt_of_le_of_lt s2 (natAbs_mul_lt ha.2 hb.2)⟩
theorem frOf_fr {x : Fr} (h : FOk x) : frOf (val x) = x := FOk.inj (frOf_ok _) h (frOf_val _)
theorem frb_of {x : Fr} {B : Nat} (h : Frb x B) : (frOf (val x)).1.natAbs < 2 ^ B ∧ (frOf (val x)).2.natAbs < 2 ^ B := by
  rw [frOf_fr h.ok]
  exact ⟨h.b1, h.b2⟩
theorem gM_size {m : List Ds} {B b : Nat} (h : Mach m B) (hR : ∀ i, Frb (m.getD i d0).R b) : ∀ i, (frOf (gM m i)).1.natAbs < 2 ^ (b * i + 1) ∧ (frOf (gM m i)).2.natAbs < 2 ^ (b * i + 1) := fun i => by
  have one : ∀ k, (frOf 1).1.natAbs < 2 ^ (k + 1) ∧ (frOf 1).2.natAbs < 2 ^ (k + 1) := fun k => by
    have e : frOf 1 = (1, 1) := rfl
    rw [e]
    exact ⟨Nat.one_lt_two_pow (by omega), Nat.one_lt_two_pow (by omega)⟩
  induction i using Nat.strongRecOn with
  | ind i ih =>
    by_cases q : 0 < i ∧ i < m.length
    · rw [gM_step h q.1 q.2]
      have pl := h.par i q.1 q.2
      obtain ⟨a, c⟩ := frOf_mul (ih _ pl) (frb_of (hR i))
      have : b * (m.getD i d0).p + b ≤ b * i := by
        rw [← Nat.mul_succ]
        exact Nat.mul_le_mul_left _ pl
      exact ⟨pow_up a (by omega), pow_up c (by omega)⟩
    · have e : gM m i = 1 := by
        by_cases q2 : i < m.length
        · rw [show i = 0 by omega, gM_zero]
        · exact gM_out q2
      rw [e]
      exact one _
theorem g2_size {m : List Ds} {B b : Nat} (h : Mach m B) (hR : ∀ i, Frb (m.getD i d0).R b) {i : Nat} (hi : i < m.length) : (frOf (g2 m i)).1.natAbs < 2 ^ (2 * (b * (m.length - 1)) + 2) ∧ (frOf (g2 m i)).2.natAbs < 2 ^ (2 * (b * (m.length - 1)) + 2) := by
  have g := gM_size h hR i
  obtain ⟨a, c⟩ := frOf_mul g g
  have : b * i ≤ b * (m.length - 1) := Nat.mul_le_mul_left _ (by omega)
  exact ⟨pow_up a (by omega), pow_up c (by omega)⟩
def od (m : List Ds) (i : Nat) : Ds := if i = 0 then m.getD 0 d0 else ⟨frOf (val (m.getD i d0).J * g2 m i), frOf (val (m.getD i d0).W * g2 m i), (m.getD i d0).p, frOf (val (m.getD i d0).K * g2 m i), (1, 1)⟩
def outM (m : List Ds) : List Ds := (List.range m.length).map (od m)
theorem outM_len (m : List Ds) : (outM m).length = m.length := by unfold outM; rw [List.length_map, List.length_range]
theorem range_getD {n : Nat} {f : Nat → Ds} (i : Nat) : ((List.range n).map f).getD i d0 = if i < n then f i else d0 := by
  by_cases h : i < n
  · rw [if_pos h, List.getD_eq_getElem?_getD, List.getElem?_map, List.getElem?_range h]
    rfl
  · rw [if_neg h, get_out (by rw [List.length_map, List.length_range]; omega)]
theorem outM_at (m : List Ds) (i : Nat) : (outM m).getD i d0 = if i < m.length then od m i else d0 := range_getD i
theorem d0_k {B : Nat} (hB : 1 ≤ B) : Dk d0 B := by
  have o : (1 : Nat) < 2 ^ B := Nat.one_lt_two_pow (by omega)
  have f : Frb (1, 1) B := ⟨⟨by decide, by decide⟩, o, o⟩
  exact ⟨f, by decide, ⟨⟨by decide, by decide⟩, by show 0 < 2 ^ B; omega, o⟩, by decide, f, by decide, f, by decide⟩
theorem rt_range {n : Nat} {f : Nat → Ds} (h1 : 1 ≤ n) (h0 : ∃ J W, f 0 = ⟨J, W, 0, (1, 1), (1, 1)⟩) : Rt ((List.range n).map f) := by
  obtain ⟨J, W, e⟩ := h0
  obtain ⟨k, rfl⟩ : ∃ k, n = k + 1 := ⟨n - 1, by omega⟩
  rw [List.range_succ_eq_map, List.map_cons, e]
  exact ⟨J, W, _, rfl⟩
theorem Mach.root {m : List Ds} {B : Nat} (h : Mach m B) : ∃ J W, m.getD 0 d0 = ⟨J, W, 0, (1, 1), (1, 1)⟩ := by
  obtain ⟨J, W, ds, rfl⟩ := h.rt
  exact ⟨J, W, rfl⟩
theorem frOf_pos {q : Rat} (h : 0 < q) : 0 < (frOf q).1 := (val_pos (frOf_ok q).1).1.mp (by rw [frOf_val]; exact h)
theorem frOf_nn {q : Rat} (h : 0 ≤ q) : 0 ≤ (frOf q).1 := (val_pos (frOf_ok q).1).2.1.mp (by rw [frOf_val]; exact h)
theorem out_mach {m : List Ds} {B b : Nat} (h : Mach m B) (hR : ∀ i, Frb (m.getD i d0).R b) : Mach (outM m) (B + (2 * (b * (m.length - 1)) + 2)) := by
  have gp := g2_pos h
  refine ⟨rt_range h.n1 (by show ∃ J W, (if 0 = 0 then m.getD 0 d0 else _) = _; rw [if_pos rfl]; exact h.root), by rw [outM_len]; exact h.n1, by rw [outM_len]; exact h.n8, fun i => ?_, fun i i0 hi => ?_⟩
  · rw [outM_at]
    by_cases q : i < m.length
    · rw [if_pos q]
      unfold od
      by_cases z : i = 0
      · rw [if_pos z]
        have d := h.dk 0
        have up : ∀ {x : Fr}, Frb x B → Frb x (B + (2 * (b * (m.length - 1)) + 2)) := fun f => ⟨f.ok, pow_up f.b1 (by omega), pow_up f.b2 (by omega)⟩
        exact ⟨up d.J, d.J0, up d.W, d.W0, up d.K, d.K0, up d.R, d.R0⟩
      · rw [if_neg z]
        have d := h.dk i
        have gs := g2_size h hR q
        have mk : ∀ {x : Fr}, Frb x B → Frb (frOf (val x * g2 m i)) (B + (2 * (b * (m.length - 1)) + 2)) := fun f => by
          obtain ⟨a, c⟩ := frOf_mul (frb_of f) gs
          exact ⟨frOf_ok _, a, c⟩
        have o := (d0_k (B := B + (2 * (b * (m.length - 1)) + 2)) (by omega)).R
        exact ⟨mk d.J, frOf_pos (Rat.mul_pos ((val_pos d.J.ok.1).1.mpr d.J0) (gp i)), mk d.W, frOf_nn (Rat.mul_nonneg ((val_pos d.W.ok.1).2.1.mpr d.W0) (Rat.le_of_lt (gp i))), mk d.K, frOf_pos (Rat.mul_pos ((val_pos d.K.ok.1).1.mpr d.K0) (gp i)), o, by show (1 : Int) ≠ 0; decide⟩
    · rw [if_neg q]
      exact d0_k (by omega)
  · rw [outM_len] at hi
    rw [outM_at, if_pos hi]
    unfold od
    rw [if_neg (by omega)]
    exact h.par i i0 hi
theorem out_sc {m : List Ds} {B : Nat} (h : Mach m B) : Sc (mq m) (mq (outM m)) (g2 m) := by
  have one : val (1, 1) = 1 := by decide +kernel
  have g0 : g2 m 0 = 1 := by unfold g2; rw [gM_zero]; grind
  have go : ∀ {i}, ¬ i < m.length → g2 m i = 1 := fun h => by unfold g2; rw [gM_out h]; grind
  have o : ∀ {i}, ¬ i < m.length → m.getD i d0 = d0 := fun h => get_out (by omega)
  obtain ⟨J0, W0, r0⟩ := h.root
  refine ⟨outM_len m, funext fun i => ?_, g2_pos h, fun i => ?_, fun i => ?_, fun i => ?_, fun i i0 => ?_⟩
  · show ((outM m).getD i d0).p = (m.getD i d0).p
    rw [outM_at]
    by_cases q : i < m.length
    · rw [if_pos q]
      unfold od
      by_cases z : i = 0
      · rw [if_pos z, z]
      · rw [if_neg z]
    · rw [if_neg q, o q]
  · show val ((outM m).getD i d0).J = g2 m i * val (m.getD i d0).J
    rw [outM_at]
    by_cases q : i < m.length
    · rw [if_pos q]
      unfold od
      by_cases z : i = 0
      · rw [if_pos z, z, g0]
        grind
      · rw [if_neg z]
        show val (frOf _) = _
        rw [frOf_val]
        grind
    · rw [if_neg q, o q, go q]
      grind
  · show val ((outM m).getD i d0).W = g2 m i * val (m.getD i d0).W
    rw [outM_at]
    by_cases q : i < m.length
    · rw [if_pos q]
      unfold od
      by_cases z : i = 0
      · rw [if_pos z, z, g0]
        grind
      · rw [if_neg z]
        show val (frOf _) = _
        rw [frOf_val]
        grind
    · rw [if_neg q, o q, go q]
      grind
  · show val ((outM m).getD i d0).K = g2 m i * val (m.getD i d0).K
    rw [outM_at]
    by_cases q : i < m.length
    · rw [if_pos q]
      unfold od
      by_cases z : i = 0
      · rw [if_pos z, z, g0]
        grind
      · rw [if_neg z]
        show val (frOf _) = _
        rw [frOf_val]
        grind
    · rw [if_neg q, o q, go q]
      grind
  · show val ((outM m).getD i d0).K * (val ((outM m).getD i d0).R * val ((outM m).getD i d0).R) = g2 m (m.getD i d0).p * (val (m.getD i d0).K * (val (m.getD i d0).R * val (m.getD i d0).R))
    rw [outM_at]
    by_cases q : i < m.length
    · rw [if_pos q]
      unfold od
      rw [if_neg (by omega)]
      show val (frOf _) * (val (1, 1) * val (1, 1)) = _
      rw [frOf_val, one]
      unfold g2
      rw [gM_step h i0 q]
      grind
    · rw [if_neg q, o q, show d0.p = 0 from rfl, g0]
      grind
theorem cutD_one (ds : List PyData) : DL.cutD ds (some 1) none = ds.drop 1 := by
  unfold DL.cutD
  have e : HT.sIx ds.length 0 (some 1) = min 1 ds.length := by
    have := HT.sIx_nat ds.length 0 1
    exact this
  rw [HT.sIx_none, e]
  cases ds with
  | nil => rfl
  | cons d ds =>
    rw [show min 1 (d :: ds).length = 1 by rw [List.length_cons]; omega]
    exact List.take_of_length_le (by rw [List.length_drop]; omega)
theorem machL_drop {m : List Ds} {i : Nat} {d : PyData} (h : ((machL m).drop 1)[i]? = some d) : i + 1 < m.length ∧ d = discD (m.getD (i + 1) d0) := by
  rw [List.getElem?_drop, Nat.add_comm] at h
  obtain ⟨a, _, b⟩ := machL_at h
  exact ⟨a, b (by omega)⟩
theorem out_take {m : List Ds} {i : Nat} (hi : i + 1 < m.length) : (machL (outM m)).take (i + 2) = (machL (outM m)).take (i + 1) ++ [discD (od m (i + 1))] := by
  rw [List.take_add_one (i := i + 1), machL_disc (by omega) (by rw [outM_len]; exact hi), outM_at, if_pos hi]
  rfl
end Px
/-! Rows of fractions over one denominator. -/
namespace Px
open PySem DL Mx L2
def fS (S u : Int) : Fr := frOf ((u : Rat) / (S : Rat))
def rowS (U : List Int) (S : Int) : List Fr := U.map (fS S)
theorem fS_ok (S u : Int) : FOk (fS S u) := frOf_ok _
theorem fS_val (S u : Int) : val (fS S u) = (u : Rat) / (S : Rat) := frOf_val _
theorem fS_sm {S u : Int} (h : 0 < S) (h1 : u.natAbs < 2 ^ 4000) (h2 : S.natAbs < 2 ^ 4000) : Sm (fS S u) := by
  have n := ratInt_ne (a := S) (by omega)
  obtain ⟨a, b, _⟩ := (fS_ok S u).small (u := u) (S := S) h (by rw [fS_val]; grind)
  exact ⟨(fS_ok S u).1, Nat.lt_of_le_of_lt a h1, Nat.lt_of_le_of_lt b h2⟩
theorem fS_eq {x : Fr} {S u : Int} (f : FOk x) (h : val x = (u : Rat) / (S : Rat)) : x = fS S u := FOk.inj f (fS_ok S u) (by rw [h, fS_val])
theorem fS_self {x : Fr} (f : FOk x) : x = fS x.2 x.1 := fS_eq f rfl
theorem fS_zero (S : Int) : fS S 0 = (0, 1) := (fS_eq (x := (0, 1)) ⟨by decide, by decide⟩ (by
  rw [val_zero]
  have z0 : ((0 : Int) : Rat) = 0 := rfl
  rw [z0]
  grind)).symm
theorem rowS_len (U : List Int) (S : Int) : (rowS U S).length = U.length := List.length_map ..
theorem rowS_get (U : List Int) (S : Int) (k : Nat) : (rowS U S).getD k (0, 1) = fS S (U.getD k 0) := by
  unfold rowS
  rw [List.getD_eq_getElem?_getD, List.getD_eq_getElem?_getD, List.getElem?_map]
  cases U[k]? with
  | none => exact (fS_zero S).symm
  | some y => rfl
theorem rowS_ok (U : List Int) (S : Int) : ∀ y ∈ rowS U S, FOk y := fun y hy => by
  obtain ⟨u, _, rfl⟩ := List.mem_map.mp hy
  exact fS_ok S u
theorem rowS_sm {U : List Int} {S : Int} (h : 0 < S) (h1 : n1 U < 2 ^ 4000) (h2 : S.natAbs < 2 ^ 4000) : ∀ y ∈ rowS U S, Sm y := fun y hy => by
  obtain ⟨u, hu, rfl⟩ := List.mem_map.mp hy
  exact fS_sm h (Nat.lt_of_le_of_lt (n1_mem hu) h1) h2
theorem rowS_pF (U : List Int) (S : Int) (x : Rat) : pF (rowS U S) x = pI U x / (S : Rat) := by
  have := pe_lin (a := (S : Rat)⁻¹) (b := 0) (u := ri U) (v := []) (w := rf (rowS U S)) (fun k => by
    rw [rf_get, rowS_get, fS_val, ri_get]
    grind) x
  unfold pF pI
  rw [this]
  grind
theorem Tr_fst {t : List Fr} (h : Tr t) : (t.map Prod.fst).getLast? ≠ some 0 := by
  rw [List.getLast?_map]
  cases e : t.getLast? with
  | none => simp
  | some y =>
    intro z
    exact h y e (Option.some.inj z)
theorem fst_get (t : List Fr) (k : Nat) : (t.map Prod.fst).getD k 0 = (t.getD k (0, 1)).1 := by
  rw [List.getD_eq_getElem?_getD, List.getD_eq_getElem?_getD, List.getElem?_map]
  cases t[k]? <;> rfl
theorem get_ok {t : List Fr} (h : ∀ y ∈ t, FOk y) (k : Nat) : FOk (t.getD k (0, 1)) := by
  rw [List.getD_eq_getElem?_getD]
  cases e : t[k]? with
  | none => exact ⟨by decide, by decide⟩
  | some y => exact h y (List.mem_of_getElem? e)
theorem rowF_ext {t s : List Fr} (ht : ∀ y ∈ t, FOk y) (hs : ∀ y ∈ s, FOk y) (tt : Tr t) (ts : Tr s) (h : ∀ k, val (t.getD k (0, 1)) = val (s.getD k (0, 1))) : t = s := by
  have e : ∀ k, t.getD k (0, 1) = s.getD k (0, 1) := fun k => FOk.inj (get_ok ht k) (get_ok hs k) (h k)
  have l : t.map Prod.fst = s.map Prod.fst := row_ext (Tr_fst tt) (Tr_fst ts) fun k => by rw [fst_get, fst_get, e k]
  have ln : t.length = s.length := by
    have := congrArg List.length l
    rwa [List.length_map, List.length_map] at this
  refine List.ext_getElem ln fun k h1 h2 => ?_
  have := e k
  rw [List.getD_eq_getElem?_getD, List.getD_eq_getElem?_getD, List.getElem?_eq_getElem h1, List.getElem?_eq_getElem h2] at this
  exact this
theorem rowS_tr {U : List Int} {S : Int} (h : 0 < S) (t : U.getLast? ≠ some 0) : Tr (rowS U S) := fun y hy z => by
  unfold rowS at hy
  rw [List.getLast?_map] at hy
  cases e : U.getLast? with
  | none => rw [e] at hy; cases hy
  | some u =>
    rw [e] at hy
    obtain rfl := Option.some.inj hy
    have v := fS_val S u
    have z0 := ((val_pos (fS_ok S u).1).2.2).mpr z
    rw [z0] at v
    have n := ratInt_ne (a := S) (by omega)
    have : (u : Rat) = 0 := by grind
    have : u = 0 := Rat.intCast_inj.mp this
    exact t (by rw [e, this])
theorem rowS_uniq {t : List Fr} {U : List Int} {S : Int} (ht : ∀ y ∈ t, FOk y) (tt : Tr t) (h : 0 < S) (hv : ∀ x, pF t x = pI U x / (S : Rat)) : t = rowS (trim U) S := by
  refine rowF_ext ht (rowS_ok _ _) tt (rowS_tr h (trim_last _)) fun k => ?_
  have e := pe_prop (c := 1) (u := rf t) (v := rf (rowS (trim U) S)) (fun x => by
    have a := hv x
    have b := rowS_pF (trim U) S x
    rw [pI_trim] at b
    unfold pF at a b
    rw [a, b]
    grind) k
  rw [rf_get, rf_get] at e
  rw [e]
  grind
def mulL : List Int → List Int → List Int
  | [], _ => []
  | a :: u, v => comb a v 1 (0 :: mulL u v)
theorem mulL_pI : ∀ (u v : List Int) (x : Rat), pI (mulL u v) x = pI u x * pI v x
  | [], v, x => by
    show (0 : Rat) = 0 * _
    grind
  | a :: u, v, x => by
    have ih := mulL_pI u v x
    show pI (comb a v 1 (0 :: mulL u v)) x = ((a : Rat) + x * pI u x) * _
    rw [pI_comb]
    have e : pI (0 :: mulL u v) x = ((0 : Int) : Rat) + x * pI (mulL u v) x := rfl
    have z0 : ((0 : Int) : Rat) = 0 := rfl
    have z1 : ((1 : Int) : Rat) = 1 := rfl
    rw [e, ih, z0, z1]
    grind
theorem mulL_n1 : ∀ (u v : List Int), n1 (mulL u v) ≤ n1 u * n1 v
  | [], v => Nat.zero_le _
  | a :: u, v => by
    have ih := mulL_n1 u v
    have := n1_comb a v 1 (0 :: mulL u v)
    have e : n1 (0 :: mulL u v) = 0 + n1 (mulL u v) := rfl
    have o : (1 : Int).natAbs = 1 := rfl
    rw [e, o] at this
    show n1 (comb a v 1 (0 :: mulL u v)) ≤ (a.natAbs + n1 u) * n1 v
    rw [Nat.add_mul]
    omega
theorem mulL_len' : ∀ (u v : List Int), 1 ≤ v.length → (mulL u v).length ≤ u.length + v.length - 1
  | [], v, _ => Nat.zero_le _
  | a :: u, v, h => by
    have ih := mulL_len' u v h
    show (comb a v 1 (0 :: mulL u v)).length ≤ _
    rw [comb_len]
    simp only [List.length_cons]
    cases u with
    | nil =>
      show max v.length (([] : List Int).length + 1) ≤ _
      simp only [List.length_nil]
      omega
    | cons b u =>
      simp only [List.length_cons] at ih ⊢
      omega
theorem mulL_len (u v : List Int) : (trim (mulL u v)).length ≤ u.length + v.length - 1 := by
  by_cases h : 1 ≤ v.length
  · have := trim_len (mulL u v)
    have := mulL_len' u v h
    omega
  · obtain rfl : v = [] := List.length_eq_zero_iff.mp (by omega)
    have e : trim (mulL u []) = [] := row_ext (trim_last _) (by simp) fun k => by
      have := pI_get (u := mulL u []) (fun x => by
        rw [mulL_pI]
        show _ * (0 : Rat) = 0
        grind) k
      rw [trim_get, this]
      rfl
    rw [e]
    exact Nat.zero_le _
theorem mulL_last {u v : List Int} : (trim (mulL u v)).getLast? ≠ some 0 := trim_last _
theorem n1_of_bd : ∀ {u : List Int} {e : Nat}, bd u e → u.length ≤ 16 → n1 u < 2 ^ (e + 4)
  | u, e, h, hl => by
    have : ∀ (u : List Int), bd u e → n1 u ≤ u.length * 2 ^ e := fun u => by
      induction u with
      | nil => intro _; exact Nat.zero_le _
      | cons a u ih =>
        intro h
        have h1 := h a (List.mem_cons_self ..)
        have h2 := ih fun x hx => h x (List.mem_cons_of_mem _ hx)
        show a.natAbs + n1 u ≤ (u.length + 1) * 2 ^ e
        rw [Nat.add_mul]
        omega
    have h1 := this u h
    have h2 := Nat.mul_le_mul_right (2 ^ e) hl
    have p := Nat.two_pow_pos e
    rw [Nat.pow_add]
    by_cases q : u.length = 16
    · have h3 : n1 u ≤ u.length * (2 ^ e - 1) := by
        have : ∀ (u : List Int), bd u e → n1 u ≤ u.length * (2 ^ e - 1) := fun u => by
          induction u with
          | nil => intro _; exact Nat.zero_le _
          | cons a u ih =>
            intro h
            have h1 := h a (List.mem_cons_self ..)
            have h2 := ih fun x hx => h x (List.mem_cons_of_mem _ hx)
            show a.natAbs + n1 u ≤ (u.length + 1) * (2 ^ e - 1)
            rw [Nat.add_mul]
            omega
        exact this u h
      rw [q] at h3
      omega
    · have := Nat.mul_le_mul_right (2 ^ e) (show u.length ≤ 15 by omega)
      omega
/-! ### parts of a machine -/
def eW (B a : Nat) : Nat := (3 * B + 9) * a - (B + 8)
theorem eW_one (B : Nat) : eW B 1 = 2 * B + 1 := by unfold eW; omega
theorem eW_add (B : Nat) {a w : Nat} (ha : 1 ≤ a) (hw : 1 ≤ w) : eW B (a + w) = eW B a + eW B w + B + 8 := by
  unfold eW
  have h1 := Nat.mul_le_mul_left (3 * B + 9) ha
  have h2 := Nat.mul_le_mul_left (3 * B + 9) hw
  rw [Nat.mul_add]
  omega
theorem eW_le {B a : Nat} (hB : B ≤ 29) (ha : a ≤ 8) : eW B a ≤ 800 := by
  unfold eW
  have h1 := Nat.mul_le_mul_left (3 * B + 9) ha
  omega
theorem eW_mono {B a b : Nat} (h : a ≤ b) : eW B a ≤ eW B b := by
  unfold eW
  have h1 := Nat.mul_le_mul_left (3 * B + 9) h
  omega
structure Half (B a : Nat) (U V : List Int) (S : Int) : Prop where
  s0 : 0 < S
  sb : S.natAbs < 2 ^ eW B a
  nu : n1 U < 2 ^ eW B a
  nv : n1 V < 2 ^ eW B a
  lu : U.length ≤ a
  lv : V.length ≤ a + 1
  tu : U.getLast? ≠ some 0
  tv : V.getLast? ≠ some 0
structure PartsM (m : List Ds) (B i : Nat) (U V : List Int) (S : Int) : Prop where
  sz : Half B (wM (mq m).n (mq m).p i) U V S
  hv : ∀ x, pI U x = (S : Rat) * hM (mq m) x i
  fv : ∀ x, pI V x = (S : Rat) * fM (mq m) x i
structure PInv (m : List Ds) (B i k a : Nat) (U V : List Int) (S : Int) : Prop where
  a1 : 1 ≤ a
  sz : Half B a U V S
  wa : a + wsum (mq m).n (mq m).p (kf (mq m).n (mq m).p i ((mq m).n - k)) = wM (mq m).n (mq m).p i
  hv : ∀ x, pI U x * (hpl (sM (mq m) x) (qM (mq m) x) (kf (mq m).n (mq m).p i ((mq m).n - k))).1 = (S : Rat) * hM (mq m) x i
  fv : ∀ x, pI V x * (hpl (sM (mq m) x) (qM (mq m) x) (kf (mq m).n (mq m).p i ((mq m).n - k))).1 + pI U x * (hpl (sM (mq m) x) (qM (mq m) x) (kf (mq m).n (mq m).p i ((mq m).n - k))).2 = (S : Rat) * fM (mq m) x i
theorem kf_step {n : Nat} {p : Nat → Nat} {i k : Nat} (hk : k < n) (hi : i < k) : kf n p i (n - k) = if p k = i then k :: kf n p i (n - (k + 1)) else kf n p i (n - (k + 1)) := by
  have e : n - k = (n - (k + 1)) + 1 := by omega
  rw [e]
  show (if i < n - (n - (k + 1) + 1) ∧ p (n - (n - (k + 1) + 1)) = i then _ else _) = _
  rw [show n - (n - (k + 1) + 1) = k by omega]
  by_cases q : p k = i
  · rw [if_pos ⟨hi, q⟩, if_pos q]
  · rw [if_neg (fun z => q z.2), if_neg q]
theorem wM_pos (n : Nat) (p : Nat → Nat) (i : Nat) : 1 ≤ wM n p i := by
  rw [wM_eq]
  omega
theorem pinv_skip {m : List Ds} {B i k a : Nat} {U V : List Int} {S : Int} (I : PInv m B i k a U V S) (hk : k < m.length) (hi : i < k) (hp : (m.getD k d0).p ≠ i) : PInv m B i (k + 1) a U V S := by
  have e := kf_step (n := (mq m).n) (p := (mq m).p) (i := i) (k := k) hk hi
  rw [if_neg (show ¬ (mq m).p k = i from hp)] at e
  refine ⟨I.a1, I.sz, ?_, fun x => ?_, fun x => ?_⟩
  · rw [← e]; exact I.wa
  · rw [← e]; exact I.hv x
  · rw [← e]; exact I.fv x
/-- the rows after one twig more -/
def whL (k1 k2 : Int) (U' V' : List Int) : List Int := trim (comb k2 V' 1 (trim (comb k1 U' 0 [])))
def unL (k1 : Int) (k2 : Int) (U V U' V' : List Int) : List Int := trim (comb 1 (trim (mulL V (whL k1 k2 U' V'))) 1 (trim (mulL U (trim (comb k1 V' 0 [])))))
def toL (k1 k2 : Int) (U U' V' : List Int) : List Int := trim (mulL U (whL k1 k2 U' V'))
theorem n1_sc (k : Int) (u : List Int) : n1 (trim (comb k u 0 [])) ≤ k.natAbs * n1 u := by
  have a1 := n1_trim (comb k u 0 [])
  have a2 := n1_comb k u 0 []
  have : (0 : Int).natAbs * n1 [] = 0 := rfl
  omega
theorem pI_sc (k : Int) (u : List Int) (x : Rat) : pI (trim (comb k u 0 [])) x = (k : Rat) * pI u x := by
  rw [pI_trim, pI_comb]
  have z0 : ((0 : Int) : Rat) = 0 := rfl
  rw [z0]
  grind
theorem len_sc (k : Int) (u : List Int) : (trim (comb k u 0 [])).length ≤ u.length := by
  have a1 := trim_len (comb k u 0 [])
  rw [comb_len] at a1
  simp only [List.length_nil] at a1
  omega
theorem mul_bd {a b c d : Nat} (h1 : a < 2 ^ c) (h2 : b < 2 ^ d) : a * b < 2 ^ (c + d) := by
  rw [Nat.pow_add]
  exact Nat.mul_lt_mul'' h1 h2
structure Stp (B a w : Nat) (k1 k2 : Int) (U V U' V' : List Int) : Prop where
  kv : n1 (trim (comb k1 V' 0 [])) < 2 ^ (eW B w + B)
  kl : (trim (comb k1 V' 0 [])).length ≤ w + 1
  ku : n1 (trim (comb k1 U' 0 [])) < 2 ^ (eW B w + B)
  wn : n1 (whL k1 k2 U' V') < 2 ^ (eW B w + B + 1)
  wl : (whL k1 k2 U' V').length ≤ w + 1
  wv : ∀ x, pI (whL k1 k2 U' V') x = (k2 : Rat) * pI V' x + (k1 : Rat) * pI U' x
theorem stp {B a w : Nat} {k1 k2 : Int} {U V U' V' : List Int} {S S' : Int} (h : Half B a U V S) (h' : Half B w U' V' S') (b1 : k1.natAbs < 2 ^ B) (b2 : k2.natAbs < 2 ^ B) : Stp B a w k1 k2 U V U' V' := by
  have e1 := mul_bd b1 h'.nv
  have e2 := mul_bd b1 h'.nu
  have e3 := mul_bd b2 h'.nv
  rw [Nat.add_comm] at e1 e2 e3
  have s1 := n1_sc k1 V'
  have s2 := n1_sc k1 U'
  refine ⟨by omega, Nat.le_trans (len_sc _ _) h'.lv, by omega, ?_, ?_, fun x => ?_⟩
  · have a1 := n1_trim (comb k2 V' 1 (trim (comb k1 U' 0 [])))
    have a2 := n1_comb k2 V' 1 (trim (comb k1 U' 0 []))
    have o : (1 : Int).natAbs = 1 := rfl
    rw [o, Nat.one_mul] at a2
    unfold whL
    rw [Nat.pow_succ]
    omega
  · have a1 := trim_len (comb k2 V' 1 (trim (comb k1 U' 0 [])))
    rw [comb_len] at a1
    have := len_sc k1 U'
    have := h'.lu
    have := h'.lv
    unfold whL
    omega
  · unfold whL
    rw [pI_trim, pI_comb, pI_sc]
    have z1 : ((1 : Int) : Rat) = 1 := rfl
    rw [z1]
    grind
theorem pinv_step {m : List Ds} {B i k a : Nat} {U V U' V' : List Int} {S S' k1 k2 : Int} (I : PInv m B i k a U V S) (hk : k < m.length) (hi : i < k) (hp : (m.getD k d0).p = i) (P : PartsM m B k U' V' S') (k0 : 0 < k2) (b1 : k1.natAbs < 2 ^ B) (b2 : k2.natAbs < 2 ^ B) (hK : val (m.getD k d0).K = (k1 : Rat) / (k2 : Rat)) (hR : val (m.getD k d0).R = 1) :
    PInv m B i (k + 1) (a + wM (mq m).n (mq m).p k) (toL k1 k2 U U' V') (unL k1 k2 U V U' V') (S * (k2 * S')) := by
  have e := kf_step (n := (mq m).n) (p := (mq m).p) (i := i) (k := k) hk hi
  rw [if_pos (show (mq m).p k = i from hp)] at e
  have w1 := wM_pos (mq m).n (mq m).p k
  have wa := I.wa
  have hv := I.hv
  have fv := I.fv
  rw [e] at wa
  simp only [e] at hv fv
  have T := stp I.sz P.sz b1 b2
  have S0 := I.sz.s0
  have S1 := P.sz.s0
  have ea := eW_add B I.a1 w1
  have kn := ratInt_ne (a := k2) (by omega)
  refine ⟨by have := I.a1; omega, ⟨Int.mul_pos S0 (Int.mul_pos k0 S1), ?_, ?_, ?_, ?_, ?_, trim_last _, trim_last _⟩, ?_, fun x => ?_, fun x => ?_⟩
  · have := natAbs_mul_lt I.sz.sb (natAbs_mul_lt b2 P.sz.sb)
    exact pow_up this (by omega)
  · have := Nat.lt_of_le_of_lt (Nat.le_trans (n1_trim _) (mulL_n1 U (whL k1 k2 U' V'))) (mul_bd I.sz.nu T.wn)
    exact pow_up this (by omega)
  · have h1 := Nat.lt_of_le_of_lt (Nat.le_trans (n1_trim _) (mulL_n1 V (whL k1 k2 U' V'))) (mul_bd I.sz.nv T.wn)
    have h2 := Nat.lt_of_le_of_lt (Nat.le_trans (n1_trim _) (mulL_n1 U (trim (comb k1 V' 0 [])))) (mul_bd I.sz.nu T.kv)
    have h3 := n1_trim (comb 1 (trim (mulL V (whL k1 k2 U' V'))) 1 (trim (mulL U (trim (comb k1 V' 0 [])))))
    have h4 := n1_comb 1 (trim (mulL V (whL k1 k2 U' V'))) 1 (trim (mulL U (trim (comb k1 V' 0 []))))
    have o : (1 : Int).natAbs = 1 := rfl
    rw [o, Nat.one_mul, Nat.one_mul] at h4
    have h5 := pow_up (n := eW B a + eW B (wM (mq m).n (mq m).p k) + B + 1) h1 (by omega)
    have h6 := pow_up (n := eW B a + eW B (wM (mq m).n (mq m).p k) + B + 1) h2 (by omega)
    have h7 : n1 (unL k1 k2 U V U' V') < 2 ^ (eW B a + eW B (wM (mq m).n (mq m).p k) + B + 2) := by
      unfold unL
      rw [Nat.pow_succ]
      omega
    exact pow_up h7 (by omega)
  · have := mulL_len U (whL k1 k2 U' V')
    have := T.wl
    have := I.sz.lu
    unfold toL
    omega
  · have h1 := mulL_len V (whL k1 k2 U' V')
    have h2 := mulL_len U (trim (comb k1 V' 0 []))
    have h3 := trim_len (comb 1 (trim (mulL V (whL k1 k2 U' V'))) 1 (trim (mulL U (trim (comb k1 V' 0 [])))))
    rw [comb_len] at h3
    have := T.wl
    have := T.kl
    have := I.sz.lu
    have := I.sz.lv
    unfold unL
    omega
  · have : wsum (mq m).n (mq m).p (k :: kf (mq m).n (mq m).p i ((mq m).n - (k + 1))) = wM (mq m).n (mq m).p k + wsum (mq m).n (mq m).p (kf (mq m).n (mq m).p i ((mq m).n - (k + 1))) := rfl
    omega
  · have h1 := hv x
    have h2 := P.hv x
    have h3 := P.fv x
    have es : sM (mq m) x k = fM (mq m) x k + (k1 : Rat) / (k2 : Rat) * hM (mq m) x k := by rw [← hK]; rfl
    unfold hpl at h1
    rw [es] at h1
    unfold toL
    rw [pI_trim, mulL_pI, T.wv, h2, h3, Rat.intCast_mul, Rat.intCast_mul]
    generalize (hpl (sM (mq m) x) (qM (mq m) x) (kf (mq m).n (mq m).p i ((mq m).n - (k + 1)))).1 = h at *
    generalize pI U x = u at *
    generalize fM (mq m) x k = f at *
    generalize hM (mq m) x k = g at *
    have : u * ((k2 : Rat) * ((S' : Rat) * f) + (k1 : Rat) * ((S' : Rat) * g)) * h = (k2 : Rat) * (S' : Rat) * (u * (h * (f + (k1 : Rat) / (k2 : Rat) * g))) := by grind
    rw [this, h1]
    grind
  · have h0 := fv x
    have h2 := P.hv x
    have h3 := P.fv x
    have es : sM (mq m) x k = fM (mq m) x k + (k1 : Rat) / (k2 : Rat) * hM (mq m) x k := by rw [← hK]; rfl
    have eq : qM (mq m) x k = (k1 : Rat) / (k2 : Rat) * fM (mq m) x k := by
      show val (m.getD k d0).K * (val (m.getD k d0).R * val (m.getD k d0).R) * _ = _
      rw [hR, hK]
      grind
    unfold hpl at h0
    rw [es, eq] at h0
    unfold toL unL
    rw [pI_trim, pI_comb, pI_trim, pI_trim, pI_trim, mulL_pI, mulL_pI, mulL_pI, T.wv, pI_sc, h2, h3, Rat.intCast_mul, Rat.intCast_mul]
    have z1 : ((1 : Int) : Rat) = 1 := rfl
    rw [z1]
    generalize (hpl (sM (mq m) x) (qM (mq m) x) (kf (mq m).n (mq m).p i ((mq m).n - (k + 1)))).1 = h at *
    generalize (hpl (sM (mq m) x) (qM (mq m) x) (kf (mq m).n (mq m).p i ((mq m).n - (k + 1)))).2 = q at *
    generalize pI U x = u at *
    generalize pI V x = v at *
    generalize fM (mq m) x k = f at *
    generalize hM (mq m) x k = g at *
    have : (1 * (v * ((k2 : Rat) * ((S' : Rat) * f) + (k1 : Rat) * ((S' : Rat) * g))) + 1 * (u * ((k1 : Rat) * ((S' : Rat) * f)))) * h + u * ((k2 : Rat) * ((S' : Rat) * f) + (k1 : Rat) * ((S' : Rat) * g)) * q = (k2 : Rat) * (S' : Rat) * (v * (h * (f + (k1 : Rat) / (k2 : Rat) * g)) + u * (q * (f + (k1 : Rat) / (k2 : Rat) * g) + h * ((k1 : Rat) / (k2 : Rat) * f))) := by grind
    rw [this, h0]
    grind
theorem pinv0 {m : List Ds} {B i : Nat} {U V : List Int} {S : Int} (hi : i < m.length) (sz : Half B 1 U V S) (hu : ∀ x, pI U x = (S : Rat)) (hv : ∀ x, pI V x = (S : Rat) * ((mq m).W i - x * (mq m).J i)) : PInv m B i (i + 1) 1 U V S := by
  have k := fun x => hM_kf (mq m) x (i := i) hi
  refine ⟨Nat.le_refl _, sz, (wM_eq _ _ _).symm, fun x => ?_, fun x => ?_⟩
  · rw [(k x).1, hu]
  · rw [(k x).2, hu, hv]
    grind
theorem pinv_end {m : List Ds} {B i a : Nat} {U V : List Int} {S : Int} (I : PInv m B i m.length a U V S) : PartsM m B i U V S := by
  have e : (mq m).n - m.length = 0 := Nat.sub_self _
  have wa := I.wa
  have hv := I.hv
  have fv := I.fv
  rw [e] at wa
  simp only [e] at hv fv
  have ea : a = wM (mq m).n (mq m).p i := wa
  refine ⟨ea ▸ I.sz, fun x => ?_, fun x => ?_⟩
  · rw [← hv x]
    show _ = _ * (1 : Rat)
    grind
  · rw [← fv x]
    show _ = _ * (1 : Rat) + _ * (0 : Rat)
    grind
end Px
/-! Machines that are built, turned, grown; rows of the law's parts. -/
namespace Px
open PySem DL Mx L2
theorem mul_row {t : List Fr} {U V : List Int} {S T : Int} (fo : ∀ y ∈ t, FOk y) (tr : Tr t) (hS : 0 < S) (hT : 0 < T) (pv : ∀ x, pF t x = pF (rowS U S) x * pF (rowS V T) x) : t = rowS (trim (mulL U V)) (S * T) := by
  refine rowS_uniq fo tr (Int.mul_pos hS hT) fun x => ?_
  have a := ratInt_ne (a := S) (by omega)
  have b := ratInt_ne (a := T) (by omega)
  rw [pv, rowS_pF, rowS_pF, mulL_pI, Rat.intCast_mul]
  grind
theorem sc_row {t : List Fr} {k1 k2 : Int} {U : List Int} {T : Int} (fo : ∀ y ∈ t, FOk y) (tr : Tr t) (hk : 0 < k2) (hT : 0 < T) (pv : ∀ x, pF t x = pF (rowS [k1] k2) x * pF (rowS U T) x) : t = rowS (trim (comb k1 U 0 [])) (k2 * T) := by
  refine rowS_uniq fo tr (Int.mul_pos hk hT) fun x => ?_
  have a := ratInt_ne (a := k2) (by omega)
  have b := ratInt_ne (a := T) (by omega)
  have e := pI_sc k1 U x
  rw [pI_trim] at e
  have e1 : pI [k1] x = (k1 : Rat) + x * 0 := rfl
  rw [pv, rowS_pF, rowS_pF, e, e1, Rat.intCast_mul]
  grind
theorem add_row {t : List Fr} {U V : List Int} {S : Int} (fo : ∀ y ∈ t, FOk y) (tr : Tr t) (hS : 0 < S) (pv : ∀ x, pF t x = pF (rowS U S) x + pF (rowS V S) x) : t = rowS (trim (comb 1 U 1 V)) S := by
  refine rowS_uniq fo tr hS fun x => ?_
  have a := ratInt_ne (a := S) (by omega)
  have z1 : ((1 : Int) : Rat) = 1 := rfl
  rw [pv, rowS_pF, rowS_pF, pI_comb, z1]
  grind
theorem wh_row {t : List Fr} {k1 k2 : Int} {U V : List Int} {T : Int} (fo : ∀ y ∈ t, FOk y) (tr : Tr t) (hk : 0 < k2) (hT : 0 < T) (pv : ∀ x, pF t x = pF (rowS V T) x + pF (rowS (trim (comb k1 U 0 [])) (k2 * T)) x) : t = rowS (whL k1 k2 U V) (k2 * T) := by
  refine rowS_uniq fo tr (Int.mul_pos hk hT) fun x => ?_
  have a := ratInt_ne (a := k2) (by omega)
  have b := ratInt_ne (a := T) (by omega)
  have z1 : ((1 : Int) : Rat) = 1 := rfl
  rw [pv, rowS_pF, rowS_pF, pI_comb, z1, Rat.intCast_mul]
  grind
theorem fr_row {x : Fr} (f : FOk x) : [x] = rowS [x.1] x.2 := by
  show [x] = [fS x.2 x.1]
  rw [← fS_self f]
theorem Frb.up {x : Fr} {a b : Nat} (h : Frb x a) (l : a ≤ b) : Frb x b := ⟨h.ok, pow_up h.b1 l, pow_up h.b2 l⟩
theorem Mach.up {m : List Ds} {a b : Nat} (h : Mach m a) (l : a ≤ b) : Mach m b := ⟨h.rt, h.n1, h.n8, fun i => by
  have d := h.dk i
  exact ⟨d.J.up l, d.J0, d.W.up l, d.W0, d.K.up l, d.K0, d.R.up l, d.R0⟩, h.par⟩
theorem get_snoc {ms : List Ds} {d : Ds} (i : Nat) : (ms ++ [d]).getD i d0 = if i = ms.length then d else ms.getD i d0 := by
  rcases Nat.lt_trichotomy i ms.length with q | q | q
  · rw [if_neg (by omega), List.getD_eq_getElem?_getD, List.getElem?_append_left q, ← List.getD_eq_getElem?_getD]
  · rw [if_pos q, List.getD_eq_getElem?_getD, List.getElem?_append_right (by omega), q, Nat.sub_self]
    rfl
  · rw [if_neg (by omega), get_out (by rw [List.length_append]; simp; omega), get_out (by omega)]
theorem Mach.push {ms : List Ds} {B : Nat} (h : Mach ms B) {d : Ds} (k : Dk d B) (hp : d.p < ms.length) (l : ms.length < 8) : Mach (ms ++ [d]) B := by
  obtain ⟨J, W, ds, e⟩ := h.rt
  refine ⟨⟨J, W, ds ++ [d], by rw [e]; rfl⟩, by simp, by simp; omega, fun i => ?_, fun i i0 hi => ?_⟩
  · rw [get_snoc]
    split
    · exact k
    · exact h.dk i
  · rw [get_snoc]
    split
    · rename_i q
      rw [q]
      exact hp
    · rename_i q
      rw [List.length_append] at hi
      exact h.par i i0 (by simp at hi; omega)
theorem machL_snoc {ms : List Ds} (h : 1 ≤ ms.length) (d : Ds) : machL (ms ++ [d]) = machL ms ++ [discD d] := by
  cases ms with
  | nil => simp at h
  | cons a ms => show rootD a :: (ms ++ [d]).map discD = _; rw [List.map_append]; rfl
theorem mach_one {J W : Fr} {B : Nat} (hJ : Frb J B) (J0 : 0 < J.1) (hW : Frb W B) (W0 : 0 ≤ W.1) (hB : 1 ≤ B) : Mach [⟨J, W, 0, (1, 1), (1, 1)⟩] B := by
  have d := d0_k hB
  refine ⟨⟨J, W, [], rfl⟩, Nat.le_refl _, by simp, fun i => ?_, fun i i0 hi => ?_⟩
  · cases i with
    | zero => exact ⟨hJ, J0, hW, W0, d.K, d.K0, d.R, d.R0⟩
    | succ i => exact d
  · simp at hi
    omega
def disc5 (d : Ds) : List PyData := [frD d.J, frD d.W, .int (d.p : Int), frD d.K, frD d.R]
theorem machL_d5 {m : List Ds} : (machL m).drop 1 = ((m.drop 1).map disc5).map PyData.tuple := by
  cases m with
  | nil => rfl
  | cons a m =>
    show m.map discD = (m.map disc5).map PyData.tuple
    rw [List.map_map]
    rfl
theorem d5_at {m : List Ds} {i : Nat} {d : List PyData} (h : ((m.drop 1).map disc5)[i]? = some d) : i + 1 < m.length ∧ d = disc5 (m.getD (i + 1) d0) := by
  rw [List.getElem?_map, List.getElem?_drop, Nat.add_comm] at h
  cases e : m[i + 1]? with
  | none => rw [e] at h; cases h
  | some a =>
    rw [e] at h
    refine ⟨(List.getElem?_eq_some_iff.mp e).1, ?_⟩
    rw [List.getD_eq_getElem?_getD, e]
    exact (Option.some.inj h).symm
theorem hf_ext {M N : Mq} (en : N.n = M.n) (ep : N.p = M.p) (eJ : ∀ i, i < M.n → N.J i = M.J i) (eW : ∀ i, i < M.n → N.W i = M.W i) (eK : ∀ i, 0 < i → i < M.n → N.K i = M.K i) (eQ : ∀ i, 0 < i → i < M.n → N.Q i = M.Q i) (x : Rat) : ∀ f i, i < M.n → hf N x f i = hf M x f i
  | 0, i, hi => by
    show (1, N.W i - x * N.J i) = (1, M.W i - x * M.J i)
    rw [eJ i hi, eW i hi]
  | f + 1, i, hi => by
    have e : hpl (fun c => (hf N x f c).2 + N.K c * (hf N x f c).1) (fun c => N.Q c * (hf N x f c).2) (kids M.n M.p i) = hpl (fun c => (hf M x f c).2 + M.K c * (hf M x f c).1) (fun c => M.Q c * (hf M x f c).2) (kids M.n M.p i) := hpl_congr fun c hc => by
      obtain ⟨a1, a2, a3⟩ := kids_mem hc
      rw [hf_ext en ep eJ eW eK eQ x f c a3, eK c (by omega) a3, eQ c (by omega) a3]
      exact ⟨rfl, rfl⟩
    show ((hpl _ _ (kids N.n N.p i)).1, (N.W i - x * N.J i) * (hpl _ _ (kids N.n N.p i)).1 + (hpl _ _ (kids N.n N.p i)).2) = (_, _)
    rw [en, ep, e, eJ i hi, eW i hi]
theorem fM_ext {M N : Mq} (en : N.n = M.n) (ep : N.p = M.p) (eJ : ∀ i, i < M.n → N.J i = M.J i) (eW : ∀ i, i < M.n → N.W i = M.W i) (eK : ∀ i, 0 < i → i < M.n → N.K i = M.K i) (eQ : ∀ i, 0 < i → i < M.n → N.Q i = M.Q i) (x : Rat) {i : Nat} (hi : i < M.n) : fM N x i = fM M x i := by
  unfold fM
  rw [en, hf_ext en ep eJ eW eK eQ x M.n i hi]
structure Tw (a b : Ds) : Prop where
  J : a.J = b.J
  W : a.W = b.W
  p : a.p = b.p
  K : a.K = b.K
  R : val a.R * val a.R = val b.R * val b.R
theorem tw_fM {m m' : List Ds} (hl : m'.length = m.length) (h : ∀ i, i < m.length → Tw (m'.getD i d0) (m.getD i d0)) (x : Rat) {i : Nat} (hi : i < m.length) : fM (mq m') x i = fM (mq m) x i := by
  refine fM_ext (M := mq m) (N := mq m') hl (funext fun j => ?_) (fun j hj => ?_) (fun j hj => ?_) (fun j _ hj => ?_) (fun j _ hj => ?_) x hi
  · show (m'.getD j d0).p = (m.getD j d0).p
    by_cases q : j < m.length
    · exact (h j q).p
    · rw [get_out (by omega), get_out (by omega)]
  · show val (m'.getD j d0).J = _
    rw [(h j hj).J]
    rfl
  · show val (m'.getD j d0).W = _
    rw [(h j hj).W]
    rfl
  · show val (m'.getD j d0).K = _
    rw [(h j hj).K]
    rfl
  · show val (m'.getD j d0).K * (val (m'.getD j d0).R * val (m'.getD j d0).R) = _
    rw [(h j hj).K, (h j hj).R]
    rfl
structure Gw (y : Rat) (i : Nat) (a b : Ds) : Prop where
  J : val a.J = y * val b.J
  W : val a.W = y * val b.W
  p : a.p = b.p
  K : 0 < i → val a.K = y * val b.K
  R : a.R = b.R
theorem gw_fM {m m' : List Ds} {y : Rat} (y0 : 0 < y) (hl : m'.length = m.length) (h : ∀ i, i < m.length → Gw y i (m'.getD i d0) (m.getD i d0)) (hn : 0 < m.length) : ∃ z : Rat, 0 < z ∧ ∀ x, fM (mq m') x 0 = z * fM (mq m) x 0 := by
  obtain ⟨b, b0, hb⟩ := (scM_ok (mq m) (h := fun _ => y) fun _ => y0).at
  refine ⟨b 0 * y, Rat.mul_pos (b0 0) y0, fun x => ?_⟩
  rw [← (hb x 0).2]
  refine fM_ext (M := scM (mq m) fun _ => y) (N := mq m') hl (funext fun j => ?_) (fun j hj => ?_) (fun j hj => ?_) (fun j j0 hj => ?_) (fun j j0 hj => ?_) x hn
  · show (m'.getD j d0).p = (m.getD j d0).p
    by_cases q : j < m.length
    · exact (h j q).p
    · rw [get_out (by omega), get_out (by omega)]
  · exact (h j hj).J
  · exact (h j hj).W
  · exact (h j hj).K j0
  · show val (m'.getD j d0).K * (val (m'.getD j d0).R * val (m'.getD j d0).R) = y * (val (m.getD j d0).K * (val (m.getD j d0).R * val (m.getD j d0).R))
    rw [(h j hj).K j0, (h j hj).R]
    grind
theorem out_R {m : List Ds} (h : Rt m) (i : Nat) : ((outM m).getD i d0).R = (1, 1) := by
  obtain ⟨J, W, ds, e⟩ := h
  rw [outM_at]
  split
  · unfold od
    split
    · rw [e]; rfl
    · rfl
  · rfl
theorem gM_ones {m : List Ds} {B : Nat} (h : Mach m B) (hR : ∀ i, (m.getD i d0).R = (1, 1)) : ∀ i, gM m i = 1 := fun i => by
  induction i using Nat.strongRecOn with
  | ind i ih =>
    by_cases q : 0 < i ∧ i < m.length
    · rw [gM_step h q.1 q.2, ih _ (h.par i q.1 q.2), hR]
      decide +kernel
    · by_cases q2 : i < m.length
      · rw [show i = 0 by omega, gM_zero]
      · exact gM_out q2
theorem out_ones {m : List Ds} {B : Nat} (h : Mach m B) (hR : ∀ i, (m.getD i d0).R = (1, 1)) : outM m = m := by
  refine List.ext_getElem (outM_len m) fun k h1 h2 => ?_
  have e := outM_at m k
  rw [if_pos h2, List.getD_eq_getElem?_getD, List.getElem?_eq_getElem h1] at e
  have e2 : m.getD k d0 = m[k] := by rw [List.getD_eq_getElem?_getD, List.getElem?_eq_getElem h2]; rfl
  have e : (outM m)[k] = od m k := e
  rw [e, ← e2]
  unfold od
  have g : g2 m k = 1 := by unfold g2; rw [gM_ones h hR]; decide +kernel
  have o : ∀ q : Rat, q * 1 = q := fun q => by grind
  split
  · rename_i z
    rw [z]
  · have d := h.dk k
    rw [g, o, o, o, frOf_fr d.J.ok, frOf_fr d.W.ok, frOf_fr d.K.ok]
    have r := hR k
    generalize m.getD k d0 = a at r
    cases a
    simp only at r
    rw [r]
theorem end_pos {m : List Ds} {B : Nat} (h : Mach m B) {V : List Int} {c : Rat} (c0 : 0 < c) (hv : ∀ x, pI V x = c * fM (mq m) x 0) : ∃ z ∈ V, z ≠ 0 := by
  refine Classical.byContradiction fun no => ?_
  have z : ∀ z ∈ V, z = 0 := fun z hz => Classical.byContradiction fun q => no ⟨z, hz, q⟩
  have e0 : pI V (-1) = 0 := by
    have := pe_ext (u := ri V) (v := []) (fun k => by
      rw [ri_get, List.getD_eq_getElem?_getD]
      cases e : V[k]? with
      | none => rfl
      | some y => rw [z y (List.mem_of_getElem? e)]; rfl) (-1)
    exact this
  have e := hv (-1)
  rw [e0] at e
  have f0 := (fM_neg h.pos (i := 0) h.n1).2
  have := Rat.mul_pos c0 f0
  grind
theorem end_prim {m : List Ds} {B : Nat} (h : Mach m B) {V : List Int} {c : Rat} (c0 : 0 < c) (hv : ∀ x, pI V x = c * fM (mq m) x 0) (tv : V.getLast? ≠ some 0) (lv : V.length ≤ 9) (nv : n1 V < 2 ^ 3901) : EndOk m (prim V) := by
  have ne := end_pos h c0 hv
  have g0 : (0 : Rat) < ((gcdL V : Nat) : Rat) := Rat.natCast_pos.mpr (gcdL_pos ne)
  refine ⟨⟨((gcdL V : Nat) : Rat)⁻¹ * c, Rat.mul_pos (Rat.inv_pos.mpr g0) c0, fun x => ?_⟩, prim_gcd ne, prim_last ne tv, ?_, ?_⟩
  · have e := prim_pI V ne x
    rw [hv] at e
    have gn : ((gcdL V : Nat) : Rat) ≠ 0 := fun z => by rw [z] at g0; exact absurd g0 (by decide)
    grind
  · rw [prim_len]
    exact lv
  · intro y hy
    obtain ⟨k, rfl⟩ := mem_get hy
    exact Nat.lt_of_le_of_lt (Nat.le_trans (prim_abs V k) (n1_get V k)) nv
end Px
set_option maxRecDepth 100000
set_option maxHeartbeats 4000000
namespace Law
open PySem PySem.Spec PyProof.Rows L2 DL Mx Px
local macro_rules | `(tactic| walk_at "d") => `(tactic| first
  | with_reducible refine st_seq ?_ | with_reducible refine st_if ?_ | with_reducible refine st_ret ?_ | with_reducible refine st_next ?_
  | with_reducible refine et_or ?_ | with_reducible refine et_and ?_ | with_reducible refine et_not ?_ | with_reducible refine et_test ?_ | with_reducible refine et_B ?_
  | with_reducible refine ev_int ?_ | with_reducible refine ev_bl ?_ | with_reducible refine ev_non ?_ | with_reducible refine ev_str ?_
  | with_reducible refine ev_isiInt ?_ | with_reducible refine ev_isiBool ?_ | with_reducible refine ev_isiTup ?_
  | with_reducible refine ev_andV ?_ | with_reducible refine ev_orV ?_ | with_reducible refine ev_notV ?_ | with_reducible refine ev_if ?_ | with_reducible refine ev_chain ?_ | with_reducible refine ev_tup ?_ | with_reducible refine ev_lst ?_ | refine sz_and (by simp) ?_
  | with_reducible refine ev_op ?_ | with_reducible refine ev_un ?_ | with_reducible refine ev_sl ?_ | refine ev_lenOwn rfl ?_ | with_reducible refine ev_new (en_listQ ?_) | with_reducible refine ev_cb ?_ | with_reducible refine ev_dictD ?_ | with_reducible refine ev_isN ?_
  | with_reducible refine ea_cons ?_ | with_reducible refine ea_nil ?_ | with_reducible refine eo_no ?_ | with_reducible refine eo_some ?_
  | with_reducible refine co_lenT ?_ | with_reducible refine co_lenL ?_ | with_reducible refine co_abs ?_ | with_reducible refine co_int ?_ | with_reducible refine cok_gcd ?_
  | with_reducible refine rok_b0 ?_ | with_reducible refine rok_i0 ?_ | with_reducible refine rok_eqI ?_ | with_reducible refine rok_neI ?_ | with_reducible refine ro_add ?_ | with_reducible refine rok_notB ?_ | with_reducible refine rok_isB ?_
  | with_reducible refine ro_mulL (by decide) (by decide) ?_ | with_reducible refine so_tup ?_ | with_reducible refine so_lst ?_ | with_reducible refine uok_neg ?_
  | with_reducible refine tg_cons ?_ | with_reducible refine tg_nil ?_
  | refine ev_var rfl ?_
  | with_reducible refine ⟨_, rfl, ?_⟩
  | with_reducible refine ⟨_, Or.inl rfl, ?_⟩)
local macro_rules | `(tactic| walk_at "dd") => `(tactic| repeat walk_at "d")
local macro_rules | `(tactic| walk_at "d") => `(tactic| first | with_reducible refine ixf0 ?_ | with_reducible refine ixf1 ?_)
def topS (i : Nat) : Stmt := PySem.Challenge.pw_shaftshakes_k74_whole_ends_of_machines.main.body.getD i (.Pass ⟨0, 0, 0, 0⟩)
abbrev s_is_whole : Stmt := topS 2
abbrev N_is_whole : List Str := ["value"]
abbrev p_is_whole : List Str := ["value"]
theorem sc_is_whole : FnScope N_is_whole p_is_whole (defScope s_is_whole) := ⟨rfl, rfl, rfl, by decide +kernel, rfl, by decide +kernel, by decide +kernel⟩
abbrev s_is_fraction : Stmt := topS 3
abbrev N_is_fraction : List Str := ["value", "top", "bottom"]
abbrev p_is_fraction : List Str := ["value"]
theorem sc_is_fraction : FnScope N_is_fraction p_is_fraction (defScope s_is_fraction) := ⟨rfl, rfl, rfl, by decide +kernel, rfl, by decide +kernel, by decide +kernel⟩
abbrev s_lowest : Stmt := topS 4
abbrev N_lowest : List Str := ["top", "bottom", "shared"]
abbrev p_lowest : List Str := ["top", "bottom"]
theorem sc_lowest : FnScope N_lowest p_lowest (defScope s_lowest) := ⟨rfl, rfl, rfl, by decide +kernel, rfl, by decide +kernel, by decide +kernel⟩
abbrev s_multiplied : Stmt := topS 5
abbrev N_multiplied : List Str := ["first", "second"]
abbrev p_multiplied : List Str := ["first", "second"]
theorem sc_multiplied : FnScope N_multiplied p_multiplied (defScope s_multiplied) := ⟨rfl, rfl, rfl, by decide +kernel, rfl, by decide +kernel, by decide +kernel⟩
abbrev s_is_fraction_from_nought : Stmt := topS 6
abbrev N_is_fraction_from_nought : List Str := ["value"]
abbrev p_is_fraction_from_nought : List Str := ["value"]
theorem sc_is_fraction_from_nought : FnScope N_is_fraction_from_nought p_is_fraction_from_nought (defScope s_is_fraction_from_nought) := ⟨rfl, rfl, rfl, by decide +kernel, rfl, by decide +kernel, by decide +kernel⟩
abbrev s_is_amount : Stmt := topS 7
abbrev N_is_amount : List Str := ["value"]
abbrev p_is_amount : List Str := ["value"]
theorem sc_is_amount : FnScope N_is_amount p_is_amount (defScope s_is_amount) := ⟨rfl, rfl, rfl, by decide +kernel, rfl, by decide +kernel, by decide +kernel⟩
abbrev s_is_index : Stmt := topS 8
abbrev N_is_index : List Str := ["value", "size"]
abbrev p_is_index : List Str := ["value", "size"]
theorem sc_is_index : FnScope N_is_index p_is_index (defScope s_is_index) := ⟨rfl, rfl, rfl, by decide +kernel, rfl, by decide +kernel, by decide +kernel⟩
abbrev s_trimmed : Stmt := topS 10
abbrev N_trimmed : List Str := ["numbers", "size"]
abbrev p_trimmed : List Str := ["numbers"]
theorem sc_trimmed : FnScope N_trimmed p_trimmed (defScope s_trimmed) := ⟨rfl, rfl, rfl, by decide +kernel, rfl, by decide +kernel, by decide +kernel⟩
abbrev s_blend : Stmt := topS 11
abbrev N_blend : List Str := ["first", "times", "second", "other_times", "number", "sums", "place"]
abbrev p_blend : List Str := ["first", "times", "second", "other_times"]
theorem sc_blend : FnScope N_blend p_blend (defScope s_blend) := ⟨rfl, rfl, rfl, by decide +kernel, rfl, by decide +kernel, by decide +kernel⟩
abbrev s_product_of : Stmt := topS 12
abbrev N_product_of : List Str := ["first", "second", "sums", "place", "number", "step", "other_number"]
abbrev p_product_of : List Str := ["first", "second"]
theorem sc_product_of : FnScope N_product_of p_product_of (defScope s_product_of) := ⟨rfl, rfl, rfl, by decide +kernel, rfl, by decide +kernel, by decide +kernel⟩
abbrev s_content : Stmt := topS 13
abbrev N_content : List Str := ["polynomial", "shared", "number"]
abbrev p_content : List Str := ["polynomial"]
theorem sc_content : FnScope N_content p_content (defScope s_content) := ⟨rfl, rfl, rfl, by decide +kernel, rfl, by decide +kernel, by decide +kernel⟩
abbrev s_shrunk : Stmt := topS 14
abbrev N_shrunk : List Str := ["polynomial", "divisor", "number"]
abbrev p_shrunk : List Str := ["polynomial", "divisor"]
theorem sc_shrunk : FnScope N_shrunk p_shrunk (defScope s_shrunk) := ⟨rfl, rfl, rfl, by decide +kernel, rfl, by decide +kernel, by decide +kernel⟩
abbrev s_thinned : Stmt := topS 15
abbrev N_thinned : List Str := ["polynomial"]
abbrev p_thinned : List Str := ["polynomial"]
theorem sc_thinned : FnScope N_thinned p_thinned (defScope s_thinned) := ⟨rfl, rfl, rfl, by decide +kernel, rfl, by decide +kernel, by decide +kernel⟩
abbrev s_shaft_of : Stmt := topS 21
abbrev N_shaft_of : List Str := ["disc"]
abbrev p_shaft_of : List Str := ["disc"]
theorem sc_shaft_of : FnScope N_shaft_of p_shaft_of (defScope s_shaft_of) := ⟨rfl, rfl, rfl, by decide +kernel, rfl, by decide +kernel, by decide +kernel⟩
abbrev s_pull_of : Stmt := topS 22
abbrev N_pull_of : List Str := ["disc", "_", "stiffness", "ratio"]
abbrev p_pull_of : List Str := ["disc"]
theorem sc_pull_of : FnScope N_pull_of p_pull_of (defScope s_pull_of) := ⟨rfl, rfl, rfl, by decide +kernel, rfl, by decide +kernel, by decide +kernel⟩
abbrev s_row_scales : Stmt := topS 23
abbrev N_row_scales : List Str := ["machine", "scales", "place", "parent", "stiffness", "_", "disc"]
abbrev p_row_scales : List Str := ["machine"]
theorem sc_row_scales : FnScope N_row_scales p_row_scales (defScope s_row_scales) := ⟨rfl, rfl, rfl, by decide +kernel, rfl, by decide +kernel, by decide +kernel⟩
abbrev s_times_scale : Stmt := topS 24
abbrev N_times_scale : List Str := ["fraction", "scale"]
abbrev p_times_scale : List Str := ["fraction", "scale"]
theorem sc_times_scale : FnScope N_times_scale p_times_scale (defScope s_times_scale) := ⟨rfl, rfl, rfl, by decide +kernel, rfl, by decide +kernel, by decide +kernel⟩
abbrev s_free_part : Stmt := topS 25
abbrev N_free_part : List Str := ["disc", "scale", "held", "pulled", "own"]
abbrev p_free_part : List Str := ["disc", "scale", "held", "pulled"]
theorem sc_free_part : FnScope N_free_part p_free_part (defScope s_free_part) := ⟨rfl, rfl, rfl, by decide +kernel, rfl, by decide +kernel, by decide +kernel⟩
abbrev s_root_parts : Stmt := topS 26
abbrev N_root_parts : List Str := ["machine", "scales", "_", "held", "pulled", "place", "disc", "parent", "stiffness", "free", "shafted", "pull", "added"]
abbrev p_root_parts : List Str := ["machine"]
theorem sc_root_parts : FnScope N_root_parts p_root_parts (defScope s_root_parts) := ⟨rfl, rfl, rfl, by decide +kernel, rfl, by decide +kernel, by decide +kernel⟩
abbrev s_end_of_machine : Stmt := topS 27
abbrev N_end_of_machine : List Str := ["machine"]
abbrev p_end_of_machine : List Str := ["machine"]
theorem sc_end_of_machine : FnScope N_end_of_machine p_end_of_machine (defScope s_end_of_machine) := ⟨rfl, rfl, rfl, by decide +kernel, rfl, by decide +kernel, by decide +kernel⟩
abbrev s_is_machine_disc : Stmt := topS 30
abbrev N_is_machine_disc : List Str := ["value", "place", "parent", "stiffness", "ratio"]
abbrev p_is_machine_disc : List Str := ["value", "place"]
theorem sc_is_machine_disc : FnScope N_is_machine_disc p_is_machine_disc (defScope s_is_machine_disc) := ⟨rfl, rfl, rfl, by decide +kernel, rfl, by decide +kernel, by decide +kernel⟩
abbrev s_is_machine : Stmt := topS 31
abbrev N_is_machine : List Str := ["value", "place", "disc"]
abbrev p_is_machine : List Str := ["value"]
theorem sc_is_machine : FnScope N_is_machine p_is_machine (defScope s_is_machine) := ⟨rfl, rfl, rfl, by decide +kernel, rfl, by decide +kernel, by decide +kernel⟩
abbrev s_check_machine : Stmt := topS 32
abbrev N_check_machine : List Str := ["given"]
abbrev p_check_machine : List Str := ["given"]
theorem sc_check_machine : FnScope N_check_machine p_check_machine (defScope s_check_machine) := ⟨rfl, rfl, rfl, by decide +kernel, rfl, by decide +kernel, by decide +kernel⟩
abbrev s_ungeared : Stmt := topS 33
abbrev N_ungeared : List Str := ["machine", "squares", "discs", "disc", "parent", "stiffness", "ratio", "square", "row"]
abbrev p_ungeared : List Str := ["machine"]
theorem sc_ungeared : FnScope N_ungeared p_ungeared (defScope s_ungeared) := ⟨rfl, rfl, rfl, by decide +kernel, rfl, by decide +kernel, by decide +kernel⟩
abbrev s_machine_end : Stmt := topS 34
abbrev N_machine_end : List Str := ["machine"]
abbrev p_machine_end : List Str := ["machine"]
theorem sc_machine_end : FnScope N_machine_end p_machine_end (defScope s_machine_end) := ⟨rfl, rfl, rfl, by decide +kernel, rfl, by decide +kernel, by decide +kernel⟩
abbrev s__law_spring : Stmt := topS 36
abbrev N__law_spring : List Str := ["_law_script", "_law_turn", "_law_own", "_law_stirred", "_law_cell"]
abbrev p__law_spring : List Str := ["_law_script", "_law_turn"]
theorem sc__law_spring : FnScope N__law_spring p__law_spring (defScope s__law_spring) := ⟨rfl, rfl, rfl, by decide +kernel, rfl, by decide +kernel, by decide +kernel⟩
abbrev s__law_pull : Stmt := topS 37
abbrev N__law_pull : List Str := ["_law_spring_here", "_law_many", "_law_figure"]
abbrev p__law_pull : List Str := ["_law_spring_here", "_law_many"]
theorem sc__law_pull : FnScope N__law_pull p__law_pull (defScope s__law_pull) := ⟨rfl, rfl, rfl, by decide +kernel, rfl, by decide +kernel, by decide +kernel⟩
abbrev s__law_from : Stmt := topS 38
abbrev N__law_from : List Str := ["_law_spring_here", "_law_things"]
abbrev p__law_from : List Str := ["_law_spring_here", "_law_things"]
theorem sc__law_from : FnScope N__law_from p__law_from (defScope s__law_from) := ⟨rfl, rfl, rfl, by decide +kernel, rfl, by decide +kernel, by decide +kernel⟩
abbrev s__law_common : Stmt := topS 39
abbrev N__law_common : List Str := ["_law_one", "_law_two"]
abbrev p__law_common : List Str := ["_law_one", "_law_two"]
theorem sc__law_common : FnScope N__law_common p__law_common (defScope s__law_common) := ⟨rfl, rfl, rfl, by decide +kernel, rfl, by decide +kernel, by decide +kernel⟩
abbrev s__law_frac : Stmt := topS 40
abbrev N__law_frac : List Str := ["_law_one", "_law_two", "_law_part"]
abbrev p__law_frac : List Str := ["_law_one", "_law_two"]
theorem sc__law_frac : FnScope N__law_frac p__law_frac (defScope s__law_frac) := ⟨rfl, rfl, rfl, by decide +kernel, rfl, by decide +kernel, by decide +kernel⟩
abbrev s__law_plus : Stmt := topS 41
abbrev N__law_plus : List Str := ["_law_one", "_law_two"]
abbrev p__law_plus : List Str := ["_law_one", "_law_two"]
theorem sc__law_plus : FnScope N__law_plus p__law_plus (defScope s__law_plus) := ⟨rfl, rfl, rfl, by decide +kernel, rfl, by decide +kernel, by decide +kernel⟩
abbrev s__law_by : Stmt := topS 42
abbrev N__law_by : List Str := ["_law_one", "_law_two"]
abbrev p__law_by : List Str := ["_law_one", "_law_two"]
theorem sc__law_by : FnScope N__law_by p__law_by (defScope s__law_by) := ⟨rfl, rfl, rfl, by decide +kernel, rfl, by decide +kernel, by decide +kernel⟩
abbrev s__law_cut : Stmt := topS 43
abbrev N__law_cut : List Str := ["_law_row", "_law_many", "_law_turn"]
abbrev p__law_cut : List Str := ["_law_row"]
theorem sc__law_cut : FnScope N__law_cut p__law_cut (defScope s__law_cut) := ⟨rfl, rfl, rfl, by decide +kernel, rfl, by decide +kernel, by decide +kernel⟩
abbrev s__law_add : Stmt := topS 44
abbrev N__law_add : List Str := ["_law_one", "_law_two", "_law_long", "_law_first", "_law_second", "_law_k"]
abbrev p__law_add : List Str := ["_law_one", "_law_two"]
theorem sc__law_add : FnScope N__law_add p__law_add (defScope s__law_add) := ⟨rfl, rfl, rfl, by decide +kernel, rfl, by decide +kernel, by decide +kernel⟩
abbrev s__law_mul : Stmt := topS 45
abbrev N__law_mul : List Str := ["_law_one", "_law_two", "_law_found", "_law_k", "_law_i"]
abbrev p__law_mul : List Str := ["_law_one", "_law_two"]
theorem sc__law_mul : FnScope N__law_mul p__law_mul (defScope s__law_mul) := ⟨rfl, rfl, rfl, by decide +kernel, rfl, by decide +kernel, by decide +kernel⟩
abbrev s__law_thin : Stmt := topS 46
abbrev N__law_thin : List Str := ["_law_rows", "_law_under", "_law_part", "_law_row", "_law_each", "_law_whole"]
abbrev p__law_thin : List Str := ["_law_rows"]
theorem sc__law_thin : FnScope N__law_thin p__law_thin (defScope s__law_thin) := ⟨rfl, rfl, rfl, by decide +kernel, rfl, by decide +kernel, by decide +kernel⟩
abbrev s__law_weight : Stmt := topS 47
abbrev N__law_weight : List Str := ["_law_spring_here"]
abbrev p__law_weight : List Str := ["_law_spring_here"]
theorem sc__law_weight : FnScope N__law_weight p__law_weight (defScope s__law_weight) := ⟨rfl, rfl, rfl, by decide +kernel, rfl, by decide +kernel, by decide +kernel⟩
abbrev s__law_stay : Stmt := topS 48
abbrev N__law_stay : List Str := ["_law_spring_here"]
abbrev p__law_stay : List Str := ["_law_spring_here"]
theorem sc__law_stay : FnScope N__law_stay p__law_stay (defScope s__law_stay) := ⟨rfl, rfl, rfl, by decide +kernel, rfl, by decide +kernel, by decide +kernel⟩
abbrev s__law_ratio_of : Stmt := topS 49
abbrev N__law_ratio_of : List Str := ["_law_spring_here"]
abbrev p__law_ratio_of : List Str := ["_law_spring_here"]
theorem sc__law_ratio_of : FnScope N__law_ratio_of p__law_ratio_of (defScope s__law_ratio_of) := ⟨rfl, rfl, rfl, by decide +kernel, rfl, by decide +kernel, by decide +kernel⟩
abbrev s__law_machine : Stmt := topS 50
abbrev N__law_machine : List Str := ["_law_spring_here", "_law_most", "_law_many", "_law_found", "_law_twig", "_law_k", "_law_own", "_law_at", "_law_stiff", "_law_ratio"]
abbrev p__law_machine : List Str := ["_law_spring_here", "_law_most"]
theorem sc__law_machine : FnScope N__law_machine p__law_machine (defScope s__law_machine) := ⟨rfl, rfl, rfl, by decide +kernel, rfl, by decide +kernel, by decide +kernel⟩
abbrev s__law_out : Stmt := topS 51
abbrev N__law_out : List Str := ["_law_works", "_law_turns", "_law_found", "_law_inertia", "_law_shut", "_law_at", "_law_stiff", "_law_ratio", "_law_turn", "_law_square"]
abbrev p__law_out : List Str := ["_law_works"]
theorem sc__law_out : FnScope N__law_out p__law_out (defScope s__law_out) := ⟨rfl, rfl, rfl, by decide +kernel, rfl, by decide +kernel, by decide +kernel⟩
abbrev s__law_parts : Stmt := topS 52
abbrev N__law_parts : List Str := ["_law_works", "_law_at", "_law_top", "_law_under", "_law_k", "_law_one", "_law_two", "_law_whole"]
abbrev p__law_parts : List Str := ["_law_works", "_law_at"]
theorem sc__law_parts : FnScope N__law_parts p__law_parts (defScope s__law_parts) := ⟨rfl, rfl, rfl, by decide +kernel, rfl, by decide +kernel, by decide +kernel⟩
abbrev s__law_end : Stmt := topS 53
abbrev N__law_end : List Str := ["_law_works"]
abbrev p__law_end : List Str := ["_law_works"]
theorem sc__law_end : FnScope N__law_end p__law_end (defScope s__law_end) := ⟨rfl, rfl, rfl, by decide +kernel, rfl, by decide +kernel, by decide +kernel⟩
abbrev s__law_turned : Stmt := topS 54
abbrev N__law_turned : List Str := ["_law_spring_here", "_law_works", "_law_found", "_law_each", "_law_ratio"]
abbrev p__law_turned : List Str := ["_law_spring_here", "_law_works"]
theorem sc__law_turned : FnScope N__law_turned p__law_turned (defScope s__law_turned) := ⟨rfl, rfl, rfl, by decide +kernel, rfl, by decide +kernel, by decide +kernel⟩
abbrev s__law_grown : Stmt := topS 55
abbrev N__law_grown : List Str := ["_law_works", "_law_number", "_law_found", "_law_each"]
abbrev p__law_grown : List Str := ["_law_works", "_law_number"]
theorem sc__law_grown : FnScope N__law_grown p__law_grown (defScope s__law_grown) := ⟨rfl, rfl, rfl, by decide +kernel, rfl, by decide +kernel, by decide +kernel⟩
abbrev s__law_right : Stmt := topS 56
abbrev N__law_right : List Str := ["_law_spring_here", "_law_works", "_law_due", "_law_some", "_law_each"]
abbrev p__law_right : List Str := ["_law_spring_here"]
theorem sc__law_right : FnScope N__law_right p__law_right (defScope s__law_right) := ⟨rfl, rfl, rfl, by decide +kernel, rfl, by decide +kernel, by decide +kernel⟩
abbrev s_law : Stmt := topS 57
abbrev N_law : List Str := ["_law_script", "_law_turn"]
abbrev p_law : List Str := ["_law_script"]
theorem sc_law : FnScope N_law p_law (defScope s_law) := ⟨rfl, rfl, rfl, by decide +kernel, rfl, by decide +kernel, by decide +kernel⟩
def sx__law_thin_0 : Scope := { kind := .function, names := [(Str.ofString ".0", .local), (Str.ofString "_law_row", .local), (Str.ofString "_law_under", .cell)], isGenerator := false, isCoroutine := false, more := [] }
def sx__law_thin_1 : Scope := { kind := .function, names := [(Str.ofString ".0", .local), (Str.ofString "_law_row", .local), (Str.ofString "_law_part", .cell)], isGenerator := false, isCoroutine := false, more := [] }
structure Tx (K : PySem.W.Frag) (mg : Str → Option Value) where
  a_is_whole : Addr
  d_is_whole : FuncData
  F_is_whole : Fun K "is_whole" "is_whole" s_is_whole a_is_whole d_is_whole
  g_is_whole : mg "is_whole" = some (.ref a_is_whole)
  a_is_fraction : Addr
  d_is_fraction : FuncData
  F_is_fraction : Fun K "is_fraction" "is_fraction" s_is_fraction a_is_fraction d_is_fraction
  g_is_fraction : mg "is_fraction" = some (.ref a_is_fraction)
  a_lowest : Addr
  d_lowest : FuncData
  F_lowest : Fun K "lowest" "lowest" s_lowest a_lowest d_lowest
  g_lowest : mg "lowest" = some (.ref a_lowest)
  a_multiplied : Addr
  d_multiplied : FuncData
  F_multiplied : Fun K "multiplied" "multiplied" s_multiplied a_multiplied d_multiplied
  g_multiplied : mg "multiplied" = some (.ref a_multiplied)
  a_is_fraction_from_nought : Addr
  d_is_fraction_from_nought : FuncData
  F_is_fraction_from_nought : Fun K "is_fraction_from_nought" "is_fraction_from_nought" s_is_fraction_from_nought a_is_fraction_from_nought d_is_fraction_from_nought
  g_is_fraction_from_nought : mg "is_fraction_from_nought" = some (.ref a_is_fraction_from_nought)
  a_is_amount : Addr
  d_is_amount : FuncData
  F_is_amount : Fun K "is_amount" "is_amount" s_is_amount a_is_amount d_is_amount
  g_is_amount : mg "is_amount" = some (.ref a_is_amount)
  a_is_index : Addr
  d_is_index : FuncData
  F_is_index : Fun K "is_index" "is_index" s_is_index a_is_index d_is_index
  g_is_index : mg "is_index" = some (.ref a_is_index)
  a_trimmed : Addr
  d_trimmed : FuncData
  F_trimmed : Fun K "trimmed" "trimmed" s_trimmed a_trimmed d_trimmed
  g_trimmed : mg "trimmed" = some (.ref a_trimmed)
  a_blend : Addr
  d_blend : FuncData
  F_blend : Fun K "blend" "blend" s_blend a_blend d_blend
  g_blend : mg "blend" = some (.ref a_blend)
  a_product_of : Addr
  d_product_of : FuncData
  F_product_of : Fun K "product_of" "product_of" s_product_of a_product_of d_product_of
  g_product_of : mg "product_of" = some (.ref a_product_of)
  a_content : Addr
  d_content : FuncData
  F_content : Fun K "content" "content" s_content a_content d_content
  g_content : mg "content" = some (.ref a_content)
  a_shrunk : Addr
  d_shrunk : FuncData
  F_shrunk : Fun K "shrunk" "shrunk" s_shrunk a_shrunk d_shrunk
  g_shrunk : mg "shrunk" = some (.ref a_shrunk)
  a_thinned : Addr
  d_thinned : FuncData
  F_thinned : Fun K "thinned" "thinned" s_thinned a_thinned d_thinned
  g_thinned : mg "thinned" = some (.ref a_thinned)
  a_shaft_of : Addr
  d_shaft_of : FuncData
  F_shaft_of : Fun K "shaft_of" "shaft_of" s_shaft_of a_shaft_of d_shaft_of
  g_shaft_of : mg "shaft_of" = some (.ref a_shaft_of)
  a_pull_of : Addr
  d_pull_of : FuncData
  F_pull_of : Fun K "pull_of" "pull_of" s_pull_of a_pull_of d_pull_of
  g_pull_of : mg "pull_of" = some (.ref a_pull_of)
  a_row_scales : Addr
  d_row_scales : FuncData
  F_row_scales : Fun K "row_scales" "row_scales" s_row_scales a_row_scales d_row_scales
  g_row_scales : mg "row_scales" = some (.ref a_row_scales)
  a_times_scale : Addr
  d_times_scale : FuncData
  F_times_scale : Fun K "times_scale" "times_scale" s_times_scale a_times_scale d_times_scale
  g_times_scale : mg "times_scale" = some (.ref a_times_scale)
  a_free_part : Addr
  d_free_part : FuncData
  F_free_part : Fun K "free_part" "free_part" s_free_part a_free_part d_free_part
  g_free_part : mg "free_part" = some (.ref a_free_part)
  a_root_parts : Addr
  d_root_parts : FuncData
  F_root_parts : Fun K "root_parts" "root_parts" s_root_parts a_root_parts d_root_parts
  g_root_parts : mg "root_parts" = some (.ref a_root_parts)
  a_end_of_machine : Addr
  d_end_of_machine : FuncData
  F_end_of_machine : Fun K "end_of_machine" "end_of_machine" s_end_of_machine a_end_of_machine d_end_of_machine
  g_end_of_machine : mg "end_of_machine" = some (.ref a_end_of_machine)
  a_is_machine_disc : Addr
  d_is_machine_disc : FuncData
  F_is_machine_disc : Fun K "is_machine_disc" "is_machine_disc" s_is_machine_disc a_is_machine_disc d_is_machine_disc
  g_is_machine_disc : mg "is_machine_disc" = some (.ref a_is_machine_disc)
  a_is_machine : Addr
  d_is_machine : FuncData
  F_is_machine : Fun K "is_machine" "is_machine" s_is_machine a_is_machine d_is_machine
  g_is_machine : mg "is_machine" = some (.ref a_is_machine)
  a_check_machine : Addr
  d_check_machine : FuncData
  F_check_machine : Fun K "check_machine" "check_machine" s_check_machine a_check_machine d_check_machine
  g_check_machine : mg "check_machine" = some (.ref a_check_machine)
  a_ungeared : Addr
  d_ungeared : FuncData
  F_ungeared : Fun K "ungeared" "ungeared" s_ungeared a_ungeared d_ungeared
  g_ungeared : mg "ungeared" = some (.ref a_ungeared)
  a_machine_end : Addr
  d_machine_end : FuncData
  F_machine_end : Fun K "machine_end" "machine_end" s_machine_end a_machine_end d_machine_end
  g_machine_end : mg "machine_end" = some (.ref a_machine_end)
  a__law_spring : Addr
  d__law_spring : FuncData
  F__law_spring : Fun K "_law_spring" "_law_spring" s__law_spring a__law_spring d__law_spring
  g__law_spring : mg "_law_spring" = some (.ref a__law_spring)
  a__law_pull : Addr
  d__law_pull : FuncData
  F__law_pull : Fun K "_law_pull" "_law_pull" s__law_pull a__law_pull d__law_pull
  g__law_pull : mg "_law_pull" = some (.ref a__law_pull)
  a__law_from : Addr
  d__law_from : FuncData
  F__law_from : Fun K "_law_from" "_law_from" s__law_from a__law_from d__law_from
  g__law_from : mg "_law_from" = some (.ref a__law_from)
  a__law_common : Addr
  d__law_common : FuncData
  F__law_common : Fun K "_law_common" "_law_common" s__law_common a__law_common d__law_common
  g__law_common : mg "_law_common" = some (.ref a__law_common)
  a__law_frac : Addr
  d__law_frac : FuncData
  F__law_frac : Fun K "_law_frac" "_law_frac" s__law_frac a__law_frac d__law_frac
  g__law_frac : mg "_law_frac" = some (.ref a__law_frac)
  a__law_plus : Addr
  d__law_plus : FuncData
  F__law_plus : Fun K "_law_plus" "_law_plus" s__law_plus a__law_plus d__law_plus
  g__law_plus : mg "_law_plus" = some (.ref a__law_plus)
  a__law_by : Addr
  d__law_by : FuncData
  F__law_by : Fun K "_law_by" "_law_by" s__law_by a__law_by d__law_by
  g__law_by : mg "_law_by" = some (.ref a__law_by)
  a__law_cut : Addr
  d__law_cut : FuncData
  F__law_cut : Fun K "_law_cut" "_law_cut" s__law_cut a__law_cut d__law_cut
  g__law_cut : mg "_law_cut" = some (.ref a__law_cut)
  a__law_add : Addr
  d__law_add : FuncData
  F__law_add : Fun K "_law_add" "_law_add" s__law_add a__law_add d__law_add
  g__law_add : mg "_law_add" = some (.ref a__law_add)
  a__law_mul : Addr
  d__law_mul : FuncData
  F__law_mul : Fun K "_law_mul" "_law_mul" s__law_mul a__law_mul d__law_mul
  g__law_mul : mg "_law_mul" = some (.ref a__law_mul)
  a__law_thin : Addr
  d__law_thin : FuncData
  F__law_thin : Fun K "_law_thin" "_law_thin" s__law_thin a__law_thin d__law_thin
  g__law_thin : mg "_law_thin" = some (.ref a__law_thin)
  a__law_weight : Addr
  d__law_weight : FuncData
  F__law_weight : Fun K "_law_weight" "_law_weight" s__law_weight a__law_weight d__law_weight
  g__law_weight : mg "_law_weight" = some (.ref a__law_weight)
  a__law_stay : Addr
  d__law_stay : FuncData
  F__law_stay : Fun K "_law_stay" "_law_stay" s__law_stay a__law_stay d__law_stay
  g__law_stay : mg "_law_stay" = some (.ref a__law_stay)
  a__law_ratio_of : Addr
  d__law_ratio_of : FuncData
  F__law_ratio_of : Fun K "_law_ratio_of" "_law_ratio_of" s__law_ratio_of a__law_ratio_of d__law_ratio_of
  g__law_ratio_of : mg "_law_ratio_of" = some (.ref a__law_ratio_of)
  a__law_machine : Addr
  d__law_machine : FuncData
  F__law_machine : Fun K "_law_machine" "_law_machine" s__law_machine a__law_machine d__law_machine
  g__law_machine : mg "_law_machine" = some (.ref a__law_machine)
  a__law_out : Addr
  d__law_out : FuncData
  F__law_out : Fun K "_law_out" "_law_out" s__law_out a__law_out d__law_out
  g__law_out : mg "_law_out" = some (.ref a__law_out)
  a__law_parts : Addr
  d__law_parts : FuncData
  F__law_parts : Fun K "_law_parts" "_law_parts" s__law_parts a__law_parts d__law_parts
  g__law_parts : mg "_law_parts" = some (.ref a__law_parts)
  a__law_end : Addr
  d__law_end : FuncData
  F__law_end : Fun K "_law_end" "_law_end" s__law_end a__law_end d__law_end
  g__law_end : mg "_law_end" = some (.ref a__law_end)
  a__law_turned : Addr
  d__law_turned : FuncData
  F__law_turned : Fun K "_law_turned" "_law_turned" s__law_turned a__law_turned d__law_turned
  g__law_turned : mg "_law_turned" = some (.ref a__law_turned)
  a__law_grown : Addr
  d__law_grown : FuncData
  F__law_grown : Fun K "_law_grown" "_law_grown" s__law_grown a__law_grown d__law_grown
  g__law_grown : mg "_law_grown" = some (.ref a__law_grown)
  a__law_right : Addr
  d__law_right : FuncData
  F__law_right : Fun K "_law_right" "_law_right" s__law_right a__law_right d__law_right
  g__law_right : mg "_law_right" = some (.ref a__law_right)
  a_law : Addr
  d_law : FuncData
  F_law : Fun K "law" "law" s_law a_law d_law
  g_law : mg "law" = some (.ref a_law)
  t_MOST_DISCS : Tok
  c_MOST_DISCS : mg "MOST_DISCS" = some (.int 8 t_MOST_DISCS)
  k_ONE : Addr
  c_ONE : mg "ONE" = some (.ref k_ONE)
  v_ONE : CT K k_ONE (.tuple [.int 1, .int 1])
  n_abs : mg "abs" = none
  n_all : mg "all" = none
  n_bool : mg "bool" = none
  n_enumerate : mg "enumerate" = none
  l_gcd : mg "gcd" = some (.builtin "math.gcd")
  n_int : mg "int" = none
  n_isinstance : mg "isinstance" = none
  l_lcm : mg "lcm" = some (.builtin "math.lcm")
  n_len : mg "len" = none
  n_list : mg "list" = none
  n_max : mg "max" = none
  n_range : mg "range" = none
  n_repr : mg "repr" = none
  n_tuple : mg "tuple" = none
section
variable {P : Program} {w : World} {K : PySem.W.Frag} {mg : Str → Option Value} {base : Heap}
theorem b_is_whole (T : Tx K mg) : Binds K T.d_is_whole p_is_whole [] := T.F_is_whole.binds (ps := p_is_whole) fun _ _ _ _ _ _ us hl => match us, hl with | [_], _ => rfl
theorem b_is_fraction (T : Tx K mg) : Binds K T.d_is_fraction p_is_fraction [] := T.F_is_fraction.binds (ps := p_is_fraction) fun _ _ _ _ _ _ us hl => match us, hl with | [_], _ => rfl
theorem b_lowest (T : Tx K mg) : Binds K T.d_lowest p_lowest [] := T.F_lowest.binds (ps := p_lowest) fun _ _ _ _ _ _ us hl => match us, hl with | [_, _], _ => rfl
theorem b_multiplied (T : Tx K mg) : Binds K T.d_multiplied p_multiplied [] := T.F_multiplied.binds (ps := p_multiplied) fun _ _ _ _ _ _ us hl => match us, hl with | [_, _], _ => rfl
theorem b_is_fraction_from_nought (T : Tx K mg) : Binds K T.d_is_fraction_from_nought p_is_fraction_from_nought [] := T.F_is_fraction_from_nought.binds (ps := p_is_fraction_from_nought) fun _ _ _ _ _ _ us hl => match us, hl with | [_], _ => rfl
theorem b_is_amount (T : Tx K mg) : Binds K T.d_is_amount p_is_amount [] := T.F_is_amount.binds (ps := p_is_amount) fun _ _ _ _ _ _ us hl => match us, hl with | [_], _ => rfl
theorem b_is_index (T : Tx K mg) : Binds K T.d_is_index p_is_index [] := T.F_is_index.binds (ps := p_is_index) fun _ _ _ _ _ _ us hl => match us, hl with | [_, _], _ => rfl
theorem b_trimmed (T : Tx K mg) : Binds K T.d_trimmed p_trimmed [] := T.F_trimmed.binds (ps := p_trimmed) fun _ _ _ _ _ _ us hl => match us, hl with | [_], _ => rfl
theorem b_blend (T : Tx K mg) : Binds K T.d_blend p_blend [] := T.F_blend.binds (ps := p_blend) fun _ _ _ _ _ _ us hl => match us, hl with | [_, _, _, _], _ => rfl
theorem b_product_of (T : Tx K mg) : Binds K T.d_product_of p_product_of [] := T.F_product_of.binds (ps := p_product_of) fun _ _ _ _ _ _ us hl => match us, hl with | [_, _], _ => rfl
theorem b_content (T : Tx K mg) : Binds K T.d_content p_content [] := T.F_content.binds (ps := p_content) fun _ _ _ _ _ _ us hl => match us, hl with | [_], _ => rfl
theorem b_shrunk (T : Tx K mg) : Binds K T.d_shrunk p_shrunk [] := T.F_shrunk.binds (ps := p_shrunk) fun _ _ _ _ _ _ us hl => match us, hl with | [_, _], _ => rfl
theorem b_thinned (T : Tx K mg) : Binds K T.d_thinned p_thinned [] := T.F_thinned.binds (ps := p_thinned) fun _ _ _ _ _ _ us hl => match us, hl with | [_], _ => rfl
theorem b_shaft_of (T : Tx K mg) : Binds K T.d_shaft_of p_shaft_of [] := T.F_shaft_of.binds (ps := p_shaft_of) fun _ _ _ _ _ _ us hl => match us, hl with | [_], _ => rfl
theorem b_pull_of (T : Tx K mg) : Binds K T.d_pull_of p_pull_of [] := T.F_pull_of.binds (ps := p_pull_of) fun _ _ _ _ _ _ us hl => match us, hl with | [_], _ => rfl
theorem b_row_scales (T : Tx K mg) : Binds K T.d_row_scales p_row_scales [] := T.F_row_scales.binds (ps := p_row_scales) fun _ _ _ _ _ _ us hl => match us, hl with | [_], _ => rfl
theorem b_times_scale (T : Tx K mg) : Binds K T.d_times_scale p_times_scale [] := T.F_times_scale.binds (ps := p_times_scale) fun _ _ _ _ _ _ us hl => match us, hl with | [_, _], _ => rfl
theorem b_free_part (T : Tx K mg) : Binds K T.d_free_part p_free_part [] := T.F_free_part.binds (ps := p_free_part) fun _ _ _ _ _ _ us hl => match us, hl with | [_, _, _, _], _ => rfl
theorem b_root_parts (T : Tx K mg) : Binds K T.d_root_parts p_root_parts [] := T.F_root_parts.binds (ps := p_root_parts) fun _ _ _ _ _ _ us hl => match us, hl with | [_], _ => rfl
theorem b_end_of_machine (T : Tx K mg) : Binds K T.d_end_of_machine p_end_of_machine [] := T.F_end_of_machine.binds (ps := p_end_of_machine) fun _ _ _ _ _ _ us hl => match us, hl with | [_], _ => rfl
theorem b_is_machine_disc (T : Tx K mg) : Binds K T.d_is_machine_disc p_is_machine_disc [] := T.F_is_machine_disc.binds (ps := p_is_machine_disc) fun _ _ _ _ _ _ us hl => match us, hl with | [_, _], _ => rfl
theorem b_is_machine (T : Tx K mg) : Binds K T.d_is_machine p_is_machine [] := T.F_is_machine.binds (ps := p_is_machine) fun _ _ _ _ _ _ us hl => match us, hl with | [_], _ => rfl
theorem b_check_machine (T : Tx K mg) : Binds K T.d_check_machine p_check_machine [] := T.F_check_machine.binds (ps := p_check_machine) fun _ _ _ _ _ _ us hl => match us, hl with | [_], _ => rfl
theorem b_ungeared (T : Tx K mg) : Binds K T.d_ungeared p_ungeared [] := T.F_ungeared.binds (ps := p_ungeared) fun _ _ _ _ _ _ us hl => match us, hl with | [_], _ => rfl
theorem kb_ungeared (T : Tx K mg) : KBinds K T.d_ungeared p_ungeared p_ungeared gK gKV := Fun.kbinds T.F_ungeared (by decide) fun _ _ _ _ _ _ us hl => match us, hl with | [_], _ => rfl
theorem b_machine_end (T : Tx K mg) : Binds K T.d_machine_end p_machine_end [] := T.F_machine_end.binds (ps := p_machine_end) fun _ _ _ _ _ _ us hl => match us, hl with | [_], _ => rfl
theorem kb_machine_end (T : Tx K mg) : KBinds K T.d_machine_end p_machine_end p_machine_end gK gKV := Fun.kbinds T.F_machine_end (by decide) fun _ _ _ _ _ _ us hl => match us, hl with | [_], _ => rfl
theorem b__law_spring (T : Tx K mg) : Binds K T.d__law_spring p__law_spring [] := T.F__law_spring.binds (ps := p__law_spring) fun _ _ _ _ _ _ us hl => match us, hl with | [_, _], _ => rfl
theorem b__law_pull (T : Tx K mg) : Binds K T.d__law_pull p__law_pull [] := T.F__law_pull.binds (ps := p__law_pull) fun _ _ _ _ _ _ us hl => match us, hl with | [_, _], _ => rfl
theorem b__law_from (T : Tx K mg) : Binds K T.d__law_from p__law_from [] := T.F__law_from.binds (ps := p__law_from) fun _ _ _ _ _ _ us hl => match us, hl with | [_, _], _ => rfl
theorem b__law_common (T : Tx K mg) : Binds K T.d__law_common p__law_common [] := T.F__law_common.binds (ps := p__law_common) fun _ _ _ _ _ _ us hl => match us, hl with | [_, _], _ => rfl
theorem b__law_frac (T : Tx K mg) : Binds K T.d__law_frac p__law_frac [] := T.F__law_frac.binds (ps := p__law_frac) fun _ _ _ _ _ _ us hl => match us, hl with | [_, _], _ => rfl
theorem b__law_plus (T : Tx K mg) : Binds K T.d__law_plus p__law_plus [] := T.F__law_plus.binds (ps := p__law_plus) fun _ _ _ _ _ _ us hl => match us, hl with | [_, _], _ => rfl
theorem b__law_by (T : Tx K mg) : Binds K T.d__law_by p__law_by [] := T.F__law_by.binds (ps := p__law_by) fun _ _ _ _ _ _ us hl => match us, hl with | [_, _], _ => rfl
theorem b__law_cut (T : Tx K mg) : Binds K T.d__law_cut p__law_cut [] := T.F__law_cut.binds (ps := p__law_cut) fun _ _ _ _ _ _ us hl => match us, hl with | [_], _ => rfl
theorem b__law_add (T : Tx K mg) : Binds K T.d__law_add p__law_add [] := T.F__law_add.binds (ps := p__law_add) fun _ _ _ _ _ _ us hl => match us, hl with | [_, _], _ => rfl
theorem b__law_mul (T : Tx K mg) : Binds K T.d__law_mul p__law_mul [] := T.F__law_mul.binds (ps := p__law_mul) fun _ _ _ _ _ _ us hl => match us, hl with | [_, _], _ => rfl
theorem b__law_thin (T : Tx K mg) : Binds K T.d__law_thin p__law_thin [] := T.F__law_thin.binds (ps := p__law_thin) fun _ _ _ _ _ _ us hl => match us, hl with | [_], _ => rfl
theorem b__law_weight (T : Tx K mg) : Binds K T.d__law_weight p__law_weight [] := T.F__law_weight.binds (ps := p__law_weight) fun _ _ _ _ _ _ us hl => match us, hl with | [_], _ => rfl
theorem b__law_stay (T : Tx K mg) : Binds K T.d__law_stay p__law_stay [] := T.F__law_stay.binds (ps := p__law_stay) fun _ _ _ _ _ _ us hl => match us, hl with | [_], _ => rfl
theorem b__law_ratio_of (T : Tx K mg) : Binds K T.d__law_ratio_of p__law_ratio_of [] := T.F__law_ratio_of.binds (ps := p__law_ratio_of) fun _ _ _ _ _ _ us hl => match us, hl with | [_], _ => rfl
theorem b__law_machine (T : Tx K mg) : Binds K T.d__law_machine p__law_machine [] := T.F__law_machine.binds (ps := p__law_machine) fun _ _ _ _ _ _ us hl => match us, hl with | [_, _], _ => rfl
theorem b__law_out (T : Tx K mg) : Binds K T.d__law_out p__law_out [] := T.F__law_out.binds (ps := p__law_out) fun _ _ _ _ _ _ us hl => match us, hl with | [_], _ => rfl
theorem b__law_parts (T : Tx K mg) : Binds K T.d__law_parts p__law_parts [] := T.F__law_parts.binds (ps := p__law_parts) fun _ _ _ _ _ _ us hl => match us, hl with | [_, _], _ => rfl
theorem b__law_end (T : Tx K mg) : Binds K T.d__law_end p__law_end [] := T.F__law_end.binds (ps := p__law_end) fun _ _ _ _ _ _ us hl => match us, hl with | [_], _ => rfl
theorem b__law_turned (T : Tx K mg) : Binds K T.d__law_turned p__law_turned [] := T.F__law_turned.binds (ps := p__law_turned) fun _ _ _ _ _ _ us hl => match us, hl with | [_, _], _ => rfl
theorem b__law_grown (T : Tx K mg) : Binds K T.d__law_grown p__law_grown [] := T.F__law_grown.binds (ps := p__law_grown) fun _ _ _ _ _ _ us hl => match us, hl with | [_, _], _ => rfl
theorem b__law_right (T : Tx K mg) : Binds K T.d__law_right p__law_right [] := T.F__law_right.binds (ps := p__law_right) fun _ _ _ _ _ _ us hl => match us, hl with | [_], _ => rfl
theorem b_law (T : Tx K mg) : Binds K T.d_law p_law [] := T.F_law.binds (ps := p_law) fun _ _ _ _ _ _ us hl => match us, hl with | [_], _ => rfl
/-! ### is_whole -/
def isWholeD : PyData → Bool
  | .int _ => true
  | _ => false
theorem isWholeD_true {d : PyData} (h : isWholeD d = true) : ∃ i, d = .int i := by
  cases d <;> simp [isWholeD] at h
  exact ⟨_, rfl⟩
def pre_is_whole : List PyData → Prop := fun ds => ∃ v, ds = [v]
def post_is_whole : List PyData → PyData → Prop := fun ds d => ∃ v, ds = [v] ∧ d = .bool (isWholeD v)
abbrev sp_is_whole (K : PySem.W.Frag) : Sp := SpP K pre_is_whole post_is_whole
theorem len_is_whole (K : PySem.W.Frag) (vs : List V) (H : Hp) (Q : VK) (E : XK) (h : sp_is_whole K vs H Q E) : vs.length = p_is_whole.length := len_P (n := 1) h fun ds hp => by
  obtain ⟨v, e⟩ := hp
  rw [e]; rfl
def t_is_whole (K : PySem.W.Frag) : TS :=
  (tRet (tAndV (tCB (rIsi K) (tCons (tVar 0) (tCons (tC (.ty "int")) tNil))) (tNotV (tCB (rIsi K) (tCons (tVar 0) (tCons (tC (.ty "bool")) tNil))))))
theorem pure_is_whole (K : PySem.W.Frag) (vs : List V) (H : Hp) (Q : VK) (E : XK) (h : sp_is_whole K vs H Q E) : t_is_whole K { nx := fun _ H' => Q .non H', rt := Q } (L2.start N_is_whole vs) H := body_P h fun B ds hW hp => by
  obtain ⟨v, e⟩ := hp
  subst e
  unfold t_is_whole
  refine st_ret (ev_andV (ev_isiInt (ev_var rfl ⟨_, rfl, fun hb => ?_, fun hb => ⟨_, rfl, ?_⟩⟩)))
  · refine ev_notV (ev_isiBool (ev_var rfl ⟨_, rfl, _, rfl, ?_⟩))
    cases v <;> simp_all [isIntT, isBoolT, isWholeD]
  · cases v <;> simp_all [isIntT, isBoolT, isWholeD]
theorem ok_is_whole (T : Tx K mg) : FnOk P w K mg base CX0 1 T.a_is_whole T.d_is_whole p_is_whole (sp_is_whole K) := by
  refine T.F_is_whole.ok sc_is_whole (fun vs H Q E h => len_is_whole K vs H Q E h) (fun cdv A outer s H vs Q E hr h => ?_)
  exact ⟨t_is_whole K, (pss_one (ps_ret (pe_and (pe_callB call_isi (by rfl) T.n_isinstance (by decide +kernel) (pa_cons (pv 0) (pa_cons (pe_bltn (v := .ty "int") (by rfl) T.n_int (by decide +kernel) rfl) pa_nil))) (pe_one (pe_not (pe_callB call_isi (by rfl) T.n_isinstance (by decide +kernel) (pa_cons (pv 0) (pa_cons (pe_bltn (v := .ty "bool") (by rfl) T.n_bool (by decide +kernel) rfl) pa_nil)))))))), pure_is_whole K vs H Q E h⟩
/-! ### is_fraction -/
def isPairD : PyData → PyData → Bool
  | .int n, .int m => decide (0 < m) && decide (((Nat.gcd n.natAbs m.natAbs : Nat) : Int) = 1)
  | _, _ => false
def isTwoD : List PyData → Bool
  | [x, y] => isPairD x y
  | _ => false
def isFracD : PyData → Bool
  | .tuple ds => isTwoD ds
  | _ => false
theorem isFrac_len {xs : List PyData} (h : xs.length ≠ 2) : isFracD (.tuple xs) = false := by
  match xs with
  | [] => rfl
  | [a] => rfl
  | [a, b] => exact absurd rfl h
  | a :: b :: c :: r => rfl
theorem isFracD_true {d : PyData} (h : isFracD d = true) : ∃ n m : Int, d = .tuple [.int n, .int m] ∧ 0 < m ∧ Nat.gcd n.natAbs m.natAbs = 1 := by
  cases d with
  | tuple ds =>
    match ds with
    | [] => cases h
    | [a] => cases h
    | a :: b :: c :: r => cases h
    | [a, b] =>
      cases a with
      | int n =>
        cases b with
        | int m =>
          have h2 : (decide (0 < m) && decide (((Nat.gcd n.natAbs m.natAbs : Nat) : Int) = 1)) = true := h
          rw [Bool.and_eq_true] at h2
          have h3 := of_decide_eq_true h2.1
          have h4 := of_decide_eq_true h2.2
          exact ⟨n, m, rfl, h3, by omega⟩
        | _ => cases h
      | _ => cases b <;> cases h
  | _ => cases h
theorem isFracD_of {n m : Int} (h : 0 < m) (h2 : Nat.gcd n.natAbs m.natAbs = 1) : isFracD (.tuple [.int n, .int m]) = true := by
  show (decide (0 < m) && decide (((Nat.gcd n.natAbs m.natAbs : Nat) : Int) = 1)) = true
  rw [h2, decide_eq_true h]
  rfl
def pre_is_fraction : List PyData → Prop := fun ds => ∃ v, ds = [v]
def post_is_fraction : List PyData → PyData → Prop := fun ds d => ∃ v, ds = [v] ∧ d = .bool (isFracD v)
abbrev sp_is_fraction (K : PySem.W.Frag) : Sp := SpP K pre_is_fraction post_is_fraction
theorem len_is_fraction (K : PySem.W.Frag) (vs : List V) (H : Hp) (Q : VK) (E : XK) (h : sp_is_fraction K vs H Q E) : vs.length = p_is_fraction.length := len_P (n := 1) h fun ds hp => by
  obtain ⟨v, e⟩ := hp
  rw [e]; rfl
def t_is_fraction (K : PySem.W.Frag) : TS :=
  (tSeq (tIfS (tOr (tNot (tB (tCB (rIsi K) (tCons (tVar 0) (tCons (tC (.ty "tuple")) tNil))))) (tTest (tOp rNe (tCB (rLenQ K) (tCons (tVar 0) tNil)) (tC (.int 2))))) (tRet (tC (.bl false))) tNext)
  (tSeq (tAsg (tVar 0) (gTup K 2 (gCons (gName 1) (gCons (gName 2) gNil))))
  (tSeq (tIfS (tOr (tNot (tB (tCall (sp_is_whole K) [] E0 (tCons (tVar 1) tNil)))) (tNot (tB (tCall (sp_is_whole K) [] E0 (tCons (tVar 2) tNil))))) (tRet (tC (.bl false))) tNext)
  (tRet (tAndV (tOp (rI0 fun i j => .bl (decide (j < i))) (tVar 2) (tC (.int 0))) (tOp rEq (tCB rGcd (tCons (tVar 1) (tCons (tVar 2) tNil))) (tC (.int 1))))))))
theorem pure_is_fraction (K : PySem.W.Frag) (vs : List V) (H : Hp) (Q : VK) (E : XK) (h : sp_is_fraction K vs H Q E) : t_is_fraction K { nx := fun _ H' => Q .non H', rt := Q } (L2.start N_is_fraction vs) H := body_P h fun B ds hW hp => by
  obtain ⟨v, e⟩ := hp
  subst e
  unfold t_is_fraction
  refine st_seq (st_if (et_or (et_not (et_B (ev_isiTup (ev_var rfl ⟨_, rfl, fun hb => ?_, fun hb => ⟨fun _ => ?_, fun z => nomatch z⟩⟩))))))
  · obtain ⟨xs, rfl⟩ := isTupT_true (d := v) (by simpa using hb)
    refine et_test (ev_op (ev_cb (ea_cons (ev_var rfl (ea_nil (co_lenT (ev_int (rok_neI ⟨_, rfl, fun hb => ?_, fun hb => ?_⟩))))))))
    · refine st_ret (ev_bl ⟨_, rfl, ?_⟩)
      rw [isFrac_len]
      intro z
      rw [z] at hb
      cases hb
    · have hl : xs.length = 2 := by
        simp at hb
        omega
      obtain ⟨a, b, rfl⟩ : ∃ a b, xs = [a, b] := by
        match xs, hl with
        | [a, b], _ => exact ⟨a, b, rfl⟩
      refine st_next (st_seq (st_unpack (ev_var rfl ⟨_, rfl, rfl, tg_cons (tg_cons (tg_nil ?_))⟩)))
      refine st_seq (st_if (et_or (et_not (et_B (ev_callP (ea_cons (ev_var rfl (ea_nil ⟨⟨_, rfl⟩, fun d ⟨v, ev, ed⟩ => ?_⟩))))))))
      cases ev
      refine ⟨_, ed, fun hb => ?_, fun hb => ⟨fun _ => ?_, fun z => nomatch z⟩⟩
      · obtain ⟨n, rfl⟩ := isWholeD_true (d := a) (by simpa using hb)
        refine et_not (et_B (ev_callP (ea_cons (ev_var rfl (ea_nil ⟨⟨_, rfl⟩, fun d ⟨v, ev, ed⟩ => ?_⟩)))))
        cases ev
        refine ⟨_, ed, fun hb2 => ?_, fun hb2 => ?_⟩
        · refine st_ret (ev_bl ⟨_, rfl, ?_⟩)
          cases b <;> first | rfl | cases hb2
        · obtain ⟨m, rfl⟩ := isWholeD_true (d := b) (by simpa using hb2)
          refine st_next (st_ret (ev_andV (ev_op (ev_var rfl (ev_int (rok_b0 ⟨_, rfl, fun hb3 => ?_, fun hb3 => ?_⟩))))))
          · refine ev_op (ev_cb (ea_cons (ev_var rfl (ea_cons (ev_var rfl (ea_nil (cok_gcd (ev_int (rok_eqI ⟨_, rfl, ?_⟩)))))))))
            show _ = PyData.bool (decide (0 < m) && decide (((Nat.gcd n.natAbs m.natAbs : Nat) : Int) = 1))
            rw [hb3, Bool.true_and]
          · refine ⟨_, rfl, ?_⟩
            show _ = PyData.bool (decide (0 < m) && decide (((Nat.gcd n.natAbs m.natAbs : Nat) : Int) = 1))
            rw [hb3, Bool.false_and]
      · refine st_ret (ev_bl ⟨_, rfl, ?_⟩)
        cases a <;> first | rfl | cases hb
  · refine st_ret (ev_bl ⟨_, rfl, ?_⟩)
    cases v <;> first | rfl | cases hb
theorem frD_is {x : Fr} (h : FOk x) : isFracD (frD x) = true := by
  show (decide (0 < x.2) && decide (((Nat.gcd x.1.natAbs x.2.natAbs : Nat) : Int) = 1)) = true
  rw [decide_eq_true h.1, decide_eq_true (by rw [h.2]; rfl)]
  rfl

theorem ok_is_fraction (T : Tx K mg) : FnOk P w K mg base CX0 2 T.a_is_fraction T.d_is_fraction p_is_fraction (sp_is_fraction K) := by
  refine T.F_is_fraction.ok sc_is_fraction (fun vs H Q E h => len_is_fraction K vs H Q E h) (fun cdv A outer s H vs Q E hr h => ?_)
  exact ⟨t_is_fraction K, (pss_cons (ps_if (PW.pt (pw_or (pt_not (pt_val (pe_callB call_isi (by rfl) T.n_isinstance (by decide +kernel) (pa_cons (pv 0) (pa_cons (pe_bltn (v := .ty "tuple") (by rfl) T.n_tuple (by decide +kernel) rfl) pa_nil))))) (pw_or1 (pt_cmpR op_ne (pe_callB call_len_seq (by rfl) T.n_len (by decide +kernel) (pa_cons (pv 0) pa_nil)) pe_int (nomark _))))) (pss_one (ps_ret pe_bl)) pss_nil)
  (pss_cons (ps_asg (pv 0) (pg_tup (by rfl) (pgs_cons (pg_name (i := 1) sc_is_fraction.nd rfl (Or.inl rfl)) (pgs_cons (pg_name (i := 2) sc_is_fraction.nd rfl (Or.inl rfl)) pgs_nil))))
  (pss_cons (ps_if (PW.pt (pw_or (pt_not (pt_val (pe_call (ok_is_whole T) (hr.mono (by decide)) rfl T.g_is_whole T.F_is_whole.kp (b_is_whole T) .nil pass0 (pa_cons (pv 1) pa_nil)))) (pw_or1 (pt_not (pt_val (pe_call (ok_is_whole T) (hr.mono (by decide)) rfl T.g_is_whole T.F_is_whole.kp (b_is_whole T) .nil pass0 (pa_cons (pv 2) pa_nil))))))) (pss_one (ps_ret pe_bl)) pss_nil)
  (pss_one (ps_ret (pe_and (pe_cmpR op_gt (pv 2) pe_int (nomark _)) (pe_one (pe_cmpR op_eq (pe_callBfun cr_gcd (by rfl) T.l_gcd (pa_cons (pv 1) (pa_cons (pv 2) pa_nil))) pe_int (nomark _))))))))), pure_is_fraction K vs H Q E h⟩
/-! ### lowest -/

def pre_lowest : List PyData → Prop := fun ds => ∃ n m : Int, ds = [.int n, .int m] ∧ 0 < m ∧ m.natAbs < 2 ^ 9000
def post_lowest : List PyData → PyData → Prop := fun ds d => ∃ n m : Int, ds = [.int n, .int m] ∧ ∃ x : Fr, d = frD x ∧ FOk x ∧ val x = (n : Rat) / (m : Rat) ∧ x.1.natAbs ≤ n.natAbs ∧ x.2.natAbs ≤ m.natAbs
abbrev sp_lowest (K : PySem.W.Frag) : Sp := SpP K pre_lowest post_lowest
theorem len_lowest (K : PySem.W.Frag) (vs : List V) (H : Hp) (Q : VK) (E : XK) (h : sp_lowest K vs H Q E) : vs.length = p_lowest.length := len_P (n := 2) h fun ds hp => by
  obtain ⟨n, m, e, hm, hz⟩ := hp
  rw [e]; rfl
def t_lowest (K : PySem.W.Frag) : TS :=
  (tSeq (tAsg (tCB rGcd (tCons (tVar 0) (tCons (tVar 1) tNil))) (gName 2))
  (tRet (tTup (tCons (tOp rFdA (tVar 0) (tVar 2)) (tCons (tOp rFdA (tVar 1) (tVar 2)) tNil)))))
theorem pure_lowest (K : PySem.W.Frag) (vs : List V) (H : Hp) (Q : VK) (E : XK) (h : sp_lowest K vs H Q E) : t_lowest K { nx := fun _ H' => Q .non H', rt := Q } (L2.start N_lowest vs) H := body_P h fun B ds hW hp => by
  obtain ⟨n, m, e, hm, hz⟩ := hp
  subst e
  unfold t_lowest
  refine st_seq (st_asg (ev_cb (ea_cons (ev_var rfl (ea_cons (ev_var rfl (ea_nil (cok_gcd ?_))))))))
  have hg : 0 < Nat.gcd n.natAbs m.natAbs := Nat.gcd_pos_of_pos_right _ (by omega)
  have gl : Nat.gcd n.natAbs m.natAbs ≤ m.natAbs := Nat.le_of_dvd (by omega) (Nat.gcd_dvd_right _ _)
  obtain ⟨p, hp⟩ : ((Nat.gcd n.natAbs m.natAbs : Nat) : Int) ∣ n := Int.ofNat_dvd_left.mpr (Nat.gcd_dvd_left _ _)
  obtain ⟨r, hr⟩ : ((Nat.gcd n.natAbs m.natAbs : Nat) : Int) ∣ m := Int.ofNat_dvd_left.mpr (Nat.gcd_dvd_right _ _)
  have hc : Nat.gcd p.natAbs r.natAbs = 1 := by
    have e1 : n.natAbs = Nat.gcd n.natAbs m.natAbs * p.natAbs := by
      conv => lhs; rw [hp, Int.natAbs_mul, Int.natAbs_natCast]
    have e2 : m.natAbs = Nat.gcd n.natAbs m.natAbs * r.natAbs := by
      conv => lhs; rw [hr, Int.natAbs_mul, Int.natAbs_natCast]
    have e3 : Nat.gcd (Nat.gcd n.natAbs m.natAbs * p.natAbs) (Nat.gcd n.natAbs m.natAbs * r.natAbs) = Nat.gcd n.natAbs m.natAbs * Nat.gcd p.natAbs r.natAbs := Nat.gcd_mul_left ..
    rw [← e1, ← e2] at e3
    exact Nat.eq_of_mul_eq_mul_left hg (by rw [Nat.mul_one]; exact e3.symm)
  generalize Nat.gcd n.natAbs m.natAbs = g at *
  have hg0 : (0 : Int) < (g : Int) := by omega
  have dn : n / (g : Int) = p := by
    rw [hp]
    exact Int.mul_ediv_cancel_left _ (by omega)
  have dm : m / (g : Int) = r := by
    rw [hr]
    exact Int.mul_ediv_cancel_left _ (by omega)
  have cd : CDivW 0 (g : Int) := by
    refine ⟨hg0, ?_⟩
    have := lg (x := (g : Int)) (m := 9000) (by rw [Int.natAbs_natCast]; omega)
    rw [Int.natAbs_natCast] at this ⊢
    exact (Nat.log2_lt (by omega)).mpr (by omega)
  have cdn : CDivW n (g : Int) := cd
  have cdm : CDivW m (g : Int) := cd
  have rn := ratInt_ne (a := m) (by omega)
  have rg := ratInt_ne (a := (g : Int)) (by omega)
  have ln : p.natAbs ≤ n.natAbs := by
    rw [hp, Int.natAbs_mul, Int.natAbs_natCast]
    exact Nat.le_mul_of_pos_left _ hg
  have lm : r.natAbs ≤ m.natAbs := by
    rw [hr, Int.natAbs_mul, Int.natAbs_natCast]
    exact Nat.le_mul_of_pos_left _ hg
  have vp : (n : Rat) = (g : Int) * (p : Rat) := by
    conv => lhs; rw [hp]
    exact Rat.intCast_mul _ _
  have vr : (m : Rat) = (g : Int) * (r : Rat) := by
    conv => lhs; rw [hr]
    exact Rat.intCast_mul _ _
  have r0 : 0 < r := by
    rcases Int.lt_trichotomy r 0 with z | z | z
    · have := Int.mul_neg_of_pos_of_neg hg0 z
      omega
    · rw [z] at hr
      omega
    · exact z
  refine st_ret (ev_tup (ea_cons (ev_op (ev_var rfl (ev_var rfl (ro_fdW cdn ?_))))))
  refine ea_cons (ev_op (ev_var rfl (ev_var rfl (ro_fdW cdm (ea_nil ⟨by simp, n, m, rfl, (p, r), ?_, ⟨r0, hc⟩, ?_, ln, lm⟩)))))
  · rw [dn, dm]
    rfl
  · have := ratInt_ne (a := r) (by omega)
    unfold val
    rw [vp, vr]
    grind
theorem ok_lowest (T : Tx K mg) : FnOk P w K mg base CX0 1 T.a_lowest T.d_lowest p_lowest (sp_lowest K) := by
  refine T.F_lowest.ok sc_lowest (fun vs H Q E h => len_lowest K vs H Q E h) (fun cdv A outer s H vs Q E hr h => ?_)
  exact ⟨t_lowest K, (pss_cons (ps_set (i := 2) sc_lowest.nd rfl (Or.inl rfl) (pe_callBfun cr_gcd (by rfl) T.l_gcd (pa_cons (pv 0) (pa_cons (pv 1) pa_nil))))
  (pss_one (ps_ret (pe_tup (pa_cons (pe_op op_fdA (pv 0) (pv 2)) (pa_cons (pe_op op_fdA (pv 1) (pv 2)) pa_nil)))))), pure_lowest K vs H Q E h⟩
/-! ### multiplied -/

def pre_multiplied : List PyData → Prop := fun ds => ∃ x y : Fr, ds = [frD x, frD y] ∧ Sm x ∧ Sm y
def post_multiplied : List PyData → PyData → Prop := fun ds d => ∃ x y r : Fr, ds = [frD x, frD y] ∧ d = frD r ∧ FOk r ∧ val r = val x * val y ∧ r.1.natAbs ≤ (x.1 * y.1).natAbs ∧ r.2.natAbs ≤ (x.2 * y.2).natAbs
abbrev sp_multiplied (K : PySem.W.Frag) : Sp := SpP K pre_multiplied post_multiplied
theorem len_multiplied (K : PySem.W.Frag) (vs : List V) (H : Hp) (Q : VK) (E : XK) (h : sp_multiplied K vs H Q E) : vs.length = p_multiplied.length := len_P (n := 2) h fun ds hp => by
  obtain ⟨x, y, e, hx, hy⟩ := hp
  rw [e]; rfl
def t_multiplied (K : PySem.W.Frag) : TS :=
  (tRet (tCall (sp_lowest K) [] E0 (tCons (tOp (rMulA K) (tOp (rIx K) (tVar 0) (tC (.int 0))) (tOp (rIx K) (tVar 1) (tC (.int 0)))) (tCons (tOp (rMulA K) (tOp (rIx K) (tVar 0) (tC (.int 1))) (tOp (rIx K) (tVar 1) (tC (.int 1)))) tNil))))
theorem pure_multiplied (K : PySem.W.Frag) (vs : List V) (H : Hp) (Q : VK) (E : XK) (h : sp_multiplied K vs H Q E) : t_multiplied K { nx := fun _ H' => Q .non H', rt := Q } (L2.start N_multiplied vs) H := body_P h fun B ds hW hp => by
  obtain ⟨x, y, e, hx, hy⟩ := hp
  subst e
  unfold t_multiplied
  obtain ⟨x1, x2, x3⟩ := hx
  obtain ⟨y1, y2, y3⟩ := hy
  have nx := ratInt_ne (a := x.2) (by omega)
  have ny := ratInt_ne (a := y.2) (by omega)
  refine st_ret (ev_callP (ea_cons (ev_op (ev_op (ev_var rfl (ev_int (rok_ixsT (d := .int x.1) rfl (ev_op (ev_var rfl (ev_int (rok_ixsT (d := .int y.1) rfl (ro_mulW (mulW_of x2 y2 (by decide)) ?_))))))))))))
  refine ea_cons (ev_op (ev_op (ev_var rfl (ev_int (rok_ixsT (d := .int x.2) rfl (ev_op (ev_var rfl (ev_int (rok_ixsT (d := .int y.2) rfl (ro_mulW (mulW_of x3 y3 (by decide)) (ea_nil ⟨⟨_, _, rfl, Int.mul_pos x1 y1, pow_up (natAbs_mul_lt x3 y3) (by decide)⟩, fun d ⟨n', m', en, r, ed, f, v, l1, l2⟩ => ?_⟩)))))))))))
  simp only [List.cons.injEq, PyData.int.injEq, and_true] at en
  obtain ⟨rfl, rfl⟩ := en
  refine ⟨x, y, r, rfl, ed, f, ?_, l1, l2⟩
  rw [v]
  unfold val
  rw [Rat.intCast_mul, Rat.intCast_mul]
  grind
theorem ok_multiplied (T : Tx K mg) : FnOk P w K mg base CX0 2 T.a_multiplied T.d_multiplied p_multiplied (sp_multiplied K) := by
  refine T.F_multiplied.ok sc_multiplied (fun vs H Q E h => len_multiplied K vs H Q E h) (fun cdv A outer s H vs Q E hr h => ?_)
  exact ⟨t_multiplied K, (pss_one (ps_ret (pe_call (ok_lowest T) (hr.mono (by decide)) rfl T.g_lowest T.F_lowest.kp (b_lowest T) .nil pass0 (pa_cons (pe_op op_mulA (pe_ix ix_seq (pv 0) pe_int (fun _ _ => rfl)) (pe_ix ix_seq (pv 1) pe_int (fun _ _ => rfl))) (pa_cons (pe_op op_mulA (pe_ix ix_seq (pv 0) pe_int (fun _ _ => rfl)) (pe_ix ix_seq (pv 1) pe_int (fun _ _ => rfl))) pa_nil))))), pure_multiplied K vs H Q E h⟩
/-! ### is_fraction_from_nought -/
def numD : PyData → Int
  | .tuple (.int n :: _) => n
  | _ => 0
def isRowItem (d : PyData) : Bool := isFracD d && decide (0 ≤ numD d)
def isRowD (v : PyData) (n : Int) : Bool := match v with
  | .tuple xs => decide ((xs.length : Int) = n) && xs.all isRowItem
  | _ => false

def pre_is_fraction_from_nought : List PyData → Prop := fun ds => ∃ v, ds = [v]
def post_is_fraction_from_nought : List PyData → PyData → Prop := fun ds d => ∃ v, ds = [v] ∧ d = .bool (isRowItem v)
abbrev sp_is_fraction_from_nought (K : PySem.W.Frag) : Sp := SpP K pre_is_fraction_from_nought post_is_fraction_from_nought
theorem len_is_fraction_from_nought (K : PySem.W.Frag) (vs : List V) (H : Hp) (Q : VK) (E : XK) (h : sp_is_fraction_from_nought K vs H Q E) : vs.length = p_is_fraction_from_nought.length := len_P (n := 1) h fun ds hp => by
  obtain ⟨v, e⟩ := hp
  rw [e]; rfl
def t_is_fraction_from_nought (K : PySem.W.Frag) : TS :=
  (tRet (tAndV (tCall (sp_is_fraction K) [] E0 (tCons (tVar 0) tNil)) (tOp (rI0 fun i j => .bl (decide (j ≤ i))) (tOp (rIx K) (tVar 0) (tC (.int 0))) (tC (.int 0)))))
theorem pure_is_fraction_from_nought (K : PySem.W.Frag) (vs : List V) (H : Hp) (Q : VK) (E : XK) (h : sp_is_fraction_from_nought K vs H Q E) : t_is_fraction_from_nought K { nx := fun _ H' => Q .non H', rt := Q } (L2.start N_is_fraction_from_nought vs) H := body_P h fun B ds hW hp => by
  obtain ⟨v, e⟩ := hp
  subst e
  unfold t_is_fraction_from_nought
  refine st_ret (ev_andV (ev_callP (ea_cons (ev_var rfl (ea_nil ⟨⟨_, rfl⟩, fun d ⟨v', ev, ed⟩ => ?_⟩)))))
  cases ev
  refine ⟨_, ed, fun hb => ?_, fun hb => ⟨_, rfl, ?_⟩⟩
  · obtain ⟨p, q, rfl, hq, hg⟩ := isFracD_true hb
    refine ev_op (ev_op (ev_var rfl (ev_int (rok_ixsT (d := .int p) rfl (ev_int (rok_b0 ⟨_, rfl, ?_⟩))))))
    show _ = PyData.bool (isFracD (.tuple [.int p, .int q]) && decide (0 ≤ p))
    rw [hb, Bool.true_and]
  · show _ = PyData.bool (isFracD v && decide (0 ≤ numD v))
    rw [hb]
    rfl
theorem ok_is_fraction_from_nought (T : Tx K mg) : FnOk P w K mg base CX0 3 T.a_is_fraction_from_nought T.d_is_fraction_from_nought p_is_fraction_from_nought (sp_is_fraction_from_nought K) := by
  refine T.F_is_fraction_from_nought.ok sc_is_fraction_from_nought (fun vs H Q E h => len_is_fraction_from_nought K vs H Q E h) (fun cdv A outer s H vs Q E hr h => ?_)
  exact ⟨t_is_fraction_from_nought K, (pss_one (ps_ret (pe_and (pe_call (ok_is_fraction T) (hr.mono (by decide)) rfl T.g_is_fraction T.F_is_fraction.kp (b_is_fraction T) .nil pass0 (pa_cons (pv 0) pa_nil)) (pe_one (pe_cmpR op_ge (pe_ix ix_seq (pv 0) pe_int (fun _ _ => rfl)) pe_int (nomark _)))))), pure_is_fraction_from_nought K vs H Q E h⟩
/-! ### is_amount -/

def pre_is_amount : List PyData → Prop := fun ds => ∃ x : Fr, ds = [frD x] ∧ FOk x
def post_is_amount : List PyData → PyData → Prop := fun ds d => ∃ x : Fr, ds = [frD x] ∧ d = .bool (decide (0 < x.1))
abbrev sp_is_amount (K : PySem.W.Frag) : Sp := SpP K pre_is_amount post_is_amount
theorem len_is_amount (K : PySem.W.Frag) (vs : List V) (H : Hp) (Q : VK) (E : XK) (h : sp_is_amount K vs H Q E) : vs.length = p_is_amount.length := len_P (n := 1) h fun ds hp => by
  obtain ⟨x, e, fx⟩ := hp
  rw [e]; rfl
def t_is_amount (K : PySem.W.Frag) : TS :=
  (tRet (tAndV (tCall (sp_is_fraction K) [] E0 (tCons (tVar 0) tNil)) (tOp (rI0 fun i j => .bl (decide (j < i))) (tOp (rIx K) (tVar 0) (tC (.int 0))) (tC (.int 0)))))
theorem pure_is_amount (K : PySem.W.Frag) (vs : List V) (H : Hp) (Q : VK) (E : XK) (h : sp_is_amount K vs H Q E) : t_is_amount K { nx := fun _ H' => Q .non H', rt := Q } (L2.start N_is_amount vs) H := body_P h fun B ds hW hp => by
  obtain ⟨x, e, fx⟩ := hp
  subst e
  unfold t_is_amount
  refine st_ret (ev_andV (ev_callP (ea_cons (ev_var rfl (ea_nil ⟨⟨_, rfl⟩, fun d ⟨v', ev, ed⟩ => ?_⟩)))))
  cases ev
  rw [frD_is fx] at ed
  refine ⟨_, ed, fun _ => ?_, (fun z => nomatch z)⟩
  exact ev_op (ev_op (ev_var rfl (ev_int (rok_ixsT (d := .int x.1) rfl (ev_int (rok_b0 ⟨x, rfl, rfl⟩))))))
theorem ok_is_amount (T : Tx K mg) : FnOk P w K mg base CX0 3 T.a_is_amount T.d_is_amount p_is_amount (sp_is_amount K) := by
  refine T.F_is_amount.ok sc_is_amount (fun vs H Q E h => len_is_amount K vs H Q E h) (fun cdv A outer s H vs Q E hr h => ?_)
  exact ⟨t_is_amount K, (pss_one (ps_ret (pe_and (pe_call (ok_is_fraction T) (hr.mono (by decide)) rfl T.g_is_fraction T.F_is_fraction.kp (b_is_fraction T) .nil pass0 (pa_cons (pv 0) pa_nil)) (pe_one (pe_cmpR op_gt (pe_ix ix_seq (pv 0) pe_int (fun _ _ => rfl)) pe_int (nomark _)))))), pure_is_amount K vs H Q E h⟩
/-! ### is_index -/

def pre_is_index : List PyData → Prop := fun ds => ∃ a b : Int, ds = [.int a, .int b]
def post_is_index : List PyData → PyData → Prop := fun ds d => ∃ a b : Int, ds = [.int a, .int b] ∧ d = .bool (decide (0 ≤ a) && decide (a < b))
abbrev sp_is_index (K : PySem.W.Frag) : Sp := SpP K pre_is_index post_is_index
theorem len_is_index (K : PySem.W.Frag) (vs : List V) (H : Hp) (Q : VK) (E : XK) (h : sp_is_index K vs H Q E) : vs.length = p_is_index.length := len_P (n := 2) h fun ds hp => by
  obtain ⟨a, b, e⟩ := hp
  rw [e]; rfl
def t_is_index (K : PySem.W.Frag) : TS :=
  (tRet (tAndV (tCall (sp_is_whole K) [] E0 (tCons (tVar 0) tNil)) (tChain (rI0 fun i j => .bl (decide (i ≤ j))) (rI0 fun i j => .bl (decide (i < j))) (tC (.int 0)) (tVar 0) (tVar 1))))
theorem pure_is_index (K : PySem.W.Frag) (vs : List V) (H : Hp) (Q : VK) (E : XK) (h : sp_is_index K vs H Q E) : t_is_index K { nx := fun _ H' => Q .non H', rt := Q } (L2.start N_is_index vs) H := body_P h fun B ds hW hp => by
  obtain ⟨a, b, e⟩ := hp
  subst e
  unfold t_is_index
  refine st_ret (ev_andV (ev_callP (ea_cons (ev_var rfl (ea_nil ⟨⟨_, rfl⟩, fun d ⟨v, ev, ed⟩ => ?_⟩)))))
  cases ev
  subst ed
  refine ⟨true, rfl, fun _ => ?_, (fun z => nomatch z)⟩
  refine ev_chain (ev_int (ev_var rfl (rok_b0 ⟨_, rfl, fun hb => ?_, fun hb => ?_⟩)))
  · refine ev_var rfl (rok_b0 ⟨a, b, rfl, ?_⟩)
    rw [hb]
    rfl
  · refine ⟨a, b, rfl, ?_⟩
    rw [hb]
    rfl
theorem ok_is_index (T : Tx K mg) : FnOk P w K mg base CX0 2 T.a_is_index T.d_is_index p_is_index (sp_is_index K) := by
  refine T.F_is_index.ok sc_is_index (fun vs H Q E h => len_is_index K vs H Q E h) (fun cdv A outer s H vs Q E hr h => ?_)
  exact ⟨t_is_index K, (pss_one (ps_ret (pe_and (pe_call (ok_is_whole T) (hr.mono (by decide)) rfl T.g_is_whole T.F_is_whole.kp (b_is_whole T) .nil pass0 (pa_cons (pv 0) pa_nil)) (pe_one (pe_chain op_le op_lt pe_int (pv 0) (pv 1)))))), pure_is_index K vs H Q E h⟩
/-! ### trimmed -/
def pre_trimmed : List PyData → Prop := fun ds => ∃ ns : List Int, ds = [.list (ns.map .int)] ∧ ns.length ≤ 1000
def post_trimmed : List PyData → PyData → Prop := fun ds d => ∃ ns : List Int, ds = [.list (ns.map .int)] ∧ d = .tuple ((trim ns).map .int)
abbrev sp_trimmed (K : PySem.W.Frag) : Sp := SpP K pre_trimmed post_trimmed
theorem len_trimmed (K : PySem.W.Frag) (vs : List V) (H : Hp) (Q : VK) (E : XK) (h : sp_trimmed K vs H Q E) : vs.length = p_trimmed.length := len_P (n := 1) h fun ds hp => by
  obtain ⟨ns, e, hl⟩ := hp
  rw [e]; rfl
def t_trimmed (K : PySem.W.Frag) : TS :=
  (tSeq (tAsg (tCB (rLenQ K) (tCons (tVar 0) tNil)) (gName 1))
  (tSeq (tWhile (tAnd (tTest (tOp (rI0 fun i j => .bl (decide (j < i))) (tVar 1) (tC (.int 0)))) (tTest (tOp rEq (tOp (rIx K) (tVar 0) (tOp (rI0 fun i j => .int (i - j)) (tVar 1) (tC (.int 1)))) (tC (.int 0))))) (tAug 1 (tC (.int 1)) (ipI fun i j => i - j)))
  (tRet (tCB (rTupleQ K) (tCons (tSl (rSlX2 K) (tVar 0) tNoPart (tPart (tVar 1))) tNil)))))
theorem pure_trimmed (K : PySem.W.Frag) (vs : List V) (H : Hp) (Q : VK) (E : XK) (h : sp_trimmed K vs H Q E) : t_trimmed K { nx := fun _ H' => Q .non H', rt := Q } (L2.start N_trimmed vs) H := body_P h fun B ds hW hp => by
  obtain ⟨ns, e, hl⟩ := hp
  subst e
  unfold t_trimmed
  refine st_seq (st_asg (ev_cb (ea_cons (ev_var rfl (ea_nil (co_lenL ?_))))))
  rw [List.length_map]
  refine st_seq (st_while (fun m L2 Γ2 => L2 = [] ∧ Γ2 = [.d (.list (ns.map .int)), .d (.int (m : Int))] ∧ m ≤ ns.length ∧ ∀ x ∈ ns.drop m, x = 0) ns.length ⟨rfl, rfl, Nat.le_refl _, by simp⟩ ?_)
  rintro m L2 Γ2 ⟨rfl, rfl, hm, hz⟩
  walk_at "dd"
  refine ⟨fun hb => ?_, fun hb => ?_⟩
  · have hm0 : 0 < m := by
      have := of_decide_eq_true hb
      omega
    have hg : ns[m - 1]? = some (ns.getD (m - 1) 0) := by
      rw [List.getD_eq_getElem?_getD, List.getElem?_eq_getElem (by omega)]
      rfl
    walk_at "dd"
    refine rok_ixsL (d := .int (ns.getD (m - 1) 0)) ?_ ?_
    · rw [show ((m : Int) - 1) = ((m - 1 : Nat) : Int) by omega, atI_n, List.getElem?_map, hg]
      rfl
    walk_at "dd"
    refine ⟨fun hb2 => ?_, fun hb2 => ?_⟩
    · have e0 : ns.getD (m - 1) 0 = 0 := of_decide_eq_true hb2
      refine st_augI rfl (ev_int ⟨_, rfl, m - 1, by omega, rfl, ?_, by omega, fun x hx => ?_⟩)
      · rw [show ((m : Int) - 1) = ((m - 1 : Nat) : Int) by omega]
        rfl
      · have : ns.drop (m - 1) = ns.getD (m - 1) 0 :: ns.drop m := by
          rw [List.drop_eq_getElem_cons (by omega), show m - 1 + 1 = m by omega]
          rw [List.getD_eq_getElem?_getD, List.getElem?_eq_getElem (by omega)]
          rfl
        rw [this] at hx
        rcases List.mem_cons.mp hx with h | h
        · rw [h, e0]
        · exact hz x h
    · have e0 : ns.getD (m - 1) 0 ≠ 0 := of_decide_eq_false hb2
      walk_at "dd"
      refine co_tupL ⟨ns, rfl, ?_⟩
      rw [cutD_take _ (by rw [List.length_map]; exact hm), ← List.map_take, trim_take hz (fun _ => e0)]
  · have hm0 : m = 0 := by
      have := of_decide_eq_false hb
      omega
    subst hm0
    refine ⟨(fun z => nomatch z), fun _ => ?_⟩
    walk_at "dd"
    refine co_tupL ⟨ns, rfl, ?_⟩
    rw [cutD_take _ (by rw [List.length_map]; exact hm), ← List.map_take, trim_take hz (fun z => absurd z (by omega))]
theorem ok_trimmed (T : Tx K mg) : FnOk P w K mg base CX0 1 T.a_trimmed T.d_trimmed p_trimmed (sp_trimmed K) := by
  refine T.F_trimmed.ok sc_trimmed (fun vs H Q E h => len_trimmed K vs H Q E h) (fun cdv A outer s H vs Q E hr h => ?_)
  exact ⟨t_trimmed K, (pss_cons (ps_set (i := 1) sc_trimmed.nd rfl (Or.inl rfl) (pe_callB call_len_seq (by rfl) T.n_len (by decide +kernel) (pa_cons (pv 0) pa_nil)))
  (pss_cons (ps_while PassesOwn.never (PW.pt (pw_and (pt_cmpR op_gt (pv 1) pe_int (nomark _)) (pw_and1 (pt_cmpR op_eq (pe_ix ix_seq (pv 0) (pe_op op_sub (pv 1) pe_int) (fun _ _ => rfl)) pe_int (nomark _))))) (pss_one (ps_aug (i := 1) sc_trimmed.nd rfl (Or.inl rfl) pe_int ip_sub)))
  (pss_one (ps_ret (pe_callTy call_tuple_of (by rfl) T.n_tuple (by decide +kernel) (pa_cons (pe_slice sl_any (pv 0) po_none (po_some (pv 1))) pa_nil)))))), pure_trimmed K vs H Q E h⟩
/-! ### blend -/
def pre_blend : List PyData → Prop := fun ds => ∃ (u v : List Int) (a b : Int), ds = [.tuple (u.map .int), .int a, .tuple (v.map .int), .int b] ∧ u.length ≤ 400 ∧ v.length ≤ 400 ∧ a.natAbs < 2 ^ 4000 ∧ b.natAbs < 2 ^ 4000 ∧ bd u 4000 ∧ bd v 4000
def post_blend : List PyData → PyData → Prop := fun ds d => ∃ (u v : List Int) (a b : Int), ds = [.tuple (u.map .int), .int a, .tuple (v.map .int), .int b] ∧ d = .tuple ((trim (comb a u b v)).map .int)
abbrev sp_blend (K : PySem.W.Frag) : Sp := SpP K pre_blend post_blend
theorem len_blend (K : PySem.W.Frag) (vs : List V) (H : Hp) (Q : VK) (E : XK) (h : sp_blend K vs H Q E) : vs.length = p_blend.length := len_P (n := 4) h fun ds hp => by
  obtain ⟨u, v, a, b, e, hu, hv, ha, hb, bu, bv⟩ := hp
  rw [e]; rfl
def t_blend (K : PySem.W.Frag) : TS :=
  (tSeq (tAsg (tLc (iTup K (tVar 0)) (gName 4) tYes (tOp (rMulA K) (tVar 1) (tVar 4)) [4]) (gName 5))
  (tSeq (tDrop (tBM K "list" rExtend (tVar 5) (tCons (tOp (rMulA K) (tLst (tCons (tC (.int 0)) tNil)) (tOp (rI0 fun i j => .int (i - j)) (tCB (rLenQ K) (tCons (tVar 2) tNil)) (tCB (rLenQ K) (tCons (tVar 0) tNil)))) tNil)))
  (tSeq (tFor (iEnumT K (tCons (tVar 2) tNil)) (gTup K 2 (gCons (gName 6) (gCons (gName 4) gNil))) (tAugS (tVar 5) (tVar 6) (tOp (rMulA K) (tVar 3) (tVar 4)) (rGetL K) (ipI fun i j => i + j) rSetL))
  (tRet (tCall (sp_trimmed K) [] E0 (tCons (tVar 5) tNil))))))
theorem pure_blend (K : PySem.W.Frag) (vs : List V) (H : Hp) (Q : VK) (E : XK) (h : sp_blend K vs H Q E) : t_blend K { nx := fun _ H' => Q .non H', rt := Q } (L2.start N_blend vs) H := body_P h fun B ds hW hp => by
  obtain ⟨u, v, a, b, e, hu, hv, ha, hb, bu, bv⟩ := hp
  subst e
  unfold t_blend
  refine st_seq (st_own (en_lcT (wipe1 4) (ev_var rfl ⟨_, rfl, by simp; omega, fun i acc => acc = ((u.take i).map fun x => PyData.int (a * x)), ⟨rfl, fun i D d' acc hi hJ hin => ?_⟩, fun acc hJ => ?_⟩)))
  · obtain ⟨x, hx, rfl⟩ : ∃ x, u[i]? = some x ∧ d' = .int x := map_get hi
    refine et_yes ⟨fun _ => ?_, fun z => nomatch z⟩
    refine ev_op (ev_var rfl (ev_var rfl (ro_mulW (mulW_of (m := 4000) (n := 4000) ha (bu _ (List.mem_of_getElem? hx)) (by decide)) ?_)))
    subst hJ
    rw [List.take_add_one, hx, List.map_append]
    rfl
  · intro l
    rw [List.length_map, List.take_length] at hJ
    subst hJ
    refine st_seq (st_extend rfl ?_)
    walk_at "dd"
    refine ro_repN (by simp; omega) (by simp; omega) (by simp; omega) ⟨_, rfl, by simp; omega, ?_⟩
    have e1 : (u.map fun x => PyData.int (a * x)) ++ (List.replicate (((v.map PyData.int).length : Int) - ((u.map PyData.int).length : Int)).toNat [PyData.int 0]).flatten = (sums a u b v 0).map PyData.int := by
      rw [sums_zero, List.map_append, List.map_map, List.length_map, List.length_map, List.map_replicate, List.flatten_replicate_singleton]
      congr 2
      omega
    rw [e1]
    refine st_seq (st_forE (ea_cons (ev_var rfl (ea_nil ⟨_, rfl, fun i L2 Γ2 => ∃ s1 s2 : Sl, L2 = [l] ∧ Γ2 = [.d (.tuple (u.map .int)), .d (.int a), .d (.tuple (v.map .int)), .d (.int b), s1, .own l ((sums a u b v i).map .int), s2], ⟨_, _, rfl, rfl⟩, ?_, ?_⟩))))
    · rintro i d' L2 Γ2 g hi ⟨s1, s2, rfl, rfl⟩
      obtain ⟨y, hy, rfl⟩ : ∃ x, v[i]? = some x ∧ d' = .int x := map_get hi
      have hi2 : i < v.length := (List.getElem?_eq_some_iff.mp hy).1
      refine st_addOwn rfl (ev_var rfl ⟨i, a * u.getD i 0, rfl, ?_, ?_⟩)
      · rw [List.getElem?_map, sums_at a u b v i i (by omega), if_neg (by omega)]
        simp
      · refine ev_op (ev_var rfl (ev_var rfl (ro_mulW (mulW_of (m := 4000) (n := 4000) hb (bv _ (List.mem_of_getElem? hy)) (by decide)) ?_)))
        refine ⟨_, rfl, .d (.int y), .d (.int (i : Int)), rfl, ?_⟩
        rw [sums_step hy, List.map_set]
        rfl
    · rintro L2 Γ2 ⟨s1, s2, rfl, rfl⟩
      rw [List.length_map, sums_all]
      refine st_freeze 5 rfl (by simp) (st_ret (ev_callP (ea_cons (ev_var rfl (ea_nil ⟨⟨_, rfl, by rw [comb_len]; omega⟩, fun d ⟨ns, en, ed⟩ => ?_⟩)))))
      cases map_int_inj (by injection en with en; injection en)
      exact ⟨u, v, a, b, rfl, ed⟩
theorem ok_blend (T : Tx K mg) : FnOk P w K mg base CX0 2 T.a_blend T.d_blend p_blend (sp_blend K) := by
  refine T.F_blend.ok sc_blend (fun vs H Q E h => len_blend K vs H Q E h) (fun cdv A outer s H vs Q E hr h => ?_)
  exact ⟨t_blend K, (pss_cons (ps_setLc (i := 5) (own := [("number", 4)]) (by rfl) sc_blend.nd rfl rfl (sw_true rfl rfl rfl (by decide +kernel)) (pi_tup (pv 0)) (blkOk_by (own := [("number", 4)]) (N := N_blend) (sc := defScope s_blend) (by decide +kernel)) (fun _ _ _ _ _ => pg_name (i := 4) sc_blend.nd rfl (Or.inl rfl)) (fun _ _ _ _ _ => pts_nil) (fun _ _ _ _ _ => (pe_op op_mulA (pv 1) (pv 4))))
  (pss_cons (ps_expr (pe_bm PySem.F.plainAttrs_list PySem.F.slot_list_extend PySem.F.type_list_extend mt_extend (pv 5) (pa_cons (pe_op op_mulA (pe_lst (pa_cons pe_int pa_nil)) (pe_op op_sub (pe_callB call_len_seq (by rfl) T.n_len (by decide +kernel) (pa_cons (pv 2) pa_nil)) (pe_callB call_len_seq (by rfl) T.n_len (by decide +kernel) (pa_cons (pv 0) pa_nil)))) pa_nil)))
  (pss_cons (ps_for PassesOwn.never rfl (pi_enumT (by rfl) T.n_enumerate (pa_cons (pv 2) pa_nil)) (pg_tup (by rfl) (pgs_cons (pg_name (i := 6) sc_blend.nd rfl (Or.inl rfl)) (pgs_cons (pg_name (i := 4) sc_blend.nd rfl (Or.inl rfl)) pgs_nil))) (pss_one (ps_augS (pv 5) (pv 6) get_list (pe_op op_mulA (pv 3) (pv 4)) ip_add set_list)))
  (pss_one (ps_ret (pe_call (ok_trimmed T) (hr.mono (by decide)) rfl T.g_trimmed T.F_trimmed.kp (b_trimmed T) .nil pass0 (pa_cons (pv 5) pa_nil))))))), pure_blend K vs H Q E h⟩
/-! ### product_of -/

def pre_product_of : List PyData → Prop := fun ds => ∃ (u v : List Int) (e f : Nat), ds = [rowD u, rowD v] ∧ u.length ≤ 100 ∧ v.length ≤ 100 ∧ n1 u < 2 ^ e ∧ n1 v < 2 ^ f ∧ e ≤ 9000 ∧ f ≤ 9000
def post_product_of : List PyData → PyData → Prop := fun ds d => ∃ u v t : List Int, ds = [rowD u, rowD v] ∧ d = rowD t ∧ (∀ x, pI t x = pI u x * pI v x) ∧ n1 t ≤ n1 u * n1 v ∧ t.length ≤ u.length + v.length - 1
abbrev sp_product_of (K : PySem.W.Frag) : Sp := SpP K pre_product_of post_product_of
theorem len_product_of (K : PySem.W.Frag) (vs : List V) (H : Hp) (Q : VK) (E : XK) (h : sp_product_of K vs H Q E) : vs.length = p_product_of.length := len_P (n := 2) h fun ds hp => by
  obtain ⟨u, v, ee, ff, e, hl, hl2, bu, bv, he, hf⟩ := hp
  rw [e]; rfl
def t_product_of (K : PySem.W.Frag) : TS :=
  (tSeq (tIfS (tOr (tNot (tTru K (tVar 0))) (tNot (tTru K (tVar 1)))) (tRet (tTup tNil)) tNext)
  (tSeq (tAsg (tOp (rMulA K) (tLst (tCons (tC (.int 0)) tNil)) (tOp (rI0 fun i j => .int (i - j)) (tOp (rAddA K) (tCB (rLenQ K) (tCons (tVar 0) tNil)) (tCB (rLenQ K) (tCons (tVar 1) tNil))) (tC (.int 1)))) (gName 2))
  (tSeq (tFor (iEnumT K (tCons (tVar 0) tNil)) (gTup K 2 (gCons (gName 3) (gCons (gName 4) gNil))) (tFor (iEnumT K (tCons (tVar 1) tNil)) (gTup K 2 (gCons (gName 5) (gCons (gName 6) gNil))) (tAugS (tVar 2) (tOp (rAddA K) (tVar 3) (tVar 5)) (tOp (rMulA K) (tVar 4) (tVar 6)) (rGetL K) (ipI fun i j => i + j) rSetL)))
  (tRet (tCB (rTupleQ K) (tCons (tVar 2) tNil))))))
theorem pure_product_of (K : PySem.W.Frag) (vs : List V) (H : Hp) (Q : VK) (E : XK) (h : sp_product_of K vs H Q E) : t_product_of K { nx := fun _ H' => Q .non H', rt := Q } (L2.start N_product_of vs) H := body_P h fun B ds hW hp => by
  obtain ⟨u, v, ee, ff, e, hl, hl2, bu, bv, he, hf⟩ := hp
  subst e
  unfold t_product_of
  have zero : ∀ {w : List Int}, w = [] → (∀ x, pI w x = 0) ∧ n1 w = 0 := fun {w} e => by
    subst e
    exact ⟨fun x => rfl, rfl⟩
  have nil_ : ∀ {L : List Addr} {Γ : List Sl} {k : PyData → Prop}, (u = [] ∨ v = []) → EvP K B [] L Γ (tTup tNil) (post_product_of [rowD u, rowD v]) := fun {L Γ k} h => by
    refine ev_tup (ea_nil ⟨by simp, u, v, [], rfl, rfl, fun x => ?_, Nat.zero_le _, Nat.zero_le _⟩)
    show (0 : Rat) = _
    rcases h with h | h
    · rw [(zero h).1]
      grind
    · rw [(zero h).1]
      grind
  refine st_seq (st_if (et_or (et_not (et_tru (ev_var rfl ⟨trivial, fun hb => ?_, fun hb => ?_⟩)))))
  · have un : u ≠ [] := fun z => by
      subst z
      cases hb
    refine et_not (et_tru (ev_var rfl ⟨trivial, fun hb2 => ?_, fun hb2 => st_next ?_⟩))
    · have vn : v = [] := by
        cases v with
        | nil => rfl
        | cons x xs => cases hb2
      exact st_ret (nil_ (k := fun _ => True) (.inr vn))
    · have vn : v ≠ [] := fun z => by
        subst z
        cases hb2
      have lu : 0 < u.length := List.length_pos_iff.mpr un
      have lv : 0 < v.length := List.length_pos_iff.mpr vn
      refine st_seq (st_own (en_rep (ev_lst (ea_cons (ev_int (ea_nil ⟨by simp, ?_⟩))))))
      refine ev_op (ev_op (ev_cb (ea_cons (ev_var rfl (ea_nil (co_lenT (ev_cb (ea_cons (ev_var rfl (ea_nil (co_lenT (ro_add (ev_int (rok_i0 ?_))))))))))))))
      rw [List.length_map, List.length_map]
      refine ⟨[.int 0], _, rfl, rfl, by omega, by omega, by simp; omega, fun l => ?_⟩
      have e0 : (List.replicate ((u.length : Int) + (v.length : Int) - 1).toNat [PyData.int 0]).flatten = (List.replicate (u.length + v.length - 1) (0 : Int)).map PyData.int := by
        rw [List.flatten_replicate_singleton, List.map_replicate]
        congr 1
        omega
      rw [e0]
      refine st_seq (st_forE (ea_cons (ev_var rfl (ea_nil ⟨_, rfl, fun i L2 Γ2 => ∃ (w : List Int) (s3 s4 s5 s6 : Sl), L2 = [l] ∧ Γ2 = [.d (rowD u), .d (rowD v), .own l (w.map .int), s3, s4, s5, s6] ∧ w.length = u.length + v.length - 1 ∧ (∀ x, pI w x = pI (u.take i) x * pI v x) ∧ n1 w ≤ n1 (u.take i) * n1 v, ⟨_, _, _, _, _, rfl, rfl, List.length_replicate .., fun x => ?_, ?_⟩, ?_, ?_⟩))))
      · rw [List.take_zero]
        show pe (ri (List.replicate _ 0)) x = 0 * _
        unfold ri
        rw [List.map_replicate]
        show pe (List.replicate _ ((0 : Int) : Rat)) x = _
        have z0 : ((0 : Int) : Rat) = 0 := rfl
        rw [z0, pe_zeros]
        grind
      · rw [n1_zeros]
        exact Nat.zero_le _
      · rintro i d' L2 Γ2 g hi ⟨w, s3, s4, s5, s6, rfl, rfl, wl, wv, wn⟩
        obtain ⟨a, ha, rfl⟩ : ∃ x, u[i]? = some x ∧ d' = .int x := map_get hi
        have hi2 : i < u.length := (List.getElem?_eq_some_iff.mp ha).1
        have ga : u.getD i 0 = a := by rw [List.getD_eq_getElem?_getD, ha]; rfl
        refine st_forE (ea_cons (ev_var rfl (ea_nil ⟨_, rfl, fun j L3 Γ3 => ∃ (w : List Int) (s5 s6 : Sl), L3 = [l] ∧ Γ3 = [.d (rowD u), .d (rowD v), .own l (w.map .int), .d (.int (i : Int)), .d (.int a), s5, s6] ∧ w.length = u.length + v.length - 1 ∧ (∀ x, pI w x = pI (u.take i) x * pI v x + (a : Rat) * x ^ i * pI (v.take j) x) ∧ n1 w ≤ n1 (u.take i) * n1 v + a.natAbs * n1 (v.take j), ⟨w, _, _, rfl, rfl, wl, fun x => ?_, ?_⟩, ?_, ?_⟩)))
        · rw [wv, List.take_zero]
          show _ = _ + _ * (0 : Rat)
          grind
        · rw [List.take_zero]
          show _ ≤ _ + _ * 0
          omega
        · rintro j d2 L3 Γ3 g3 hj ⟨w, s5, s6, rfl, rfl, wl, wv, wn⟩
          obtain ⟨b, hb, rfl⟩ : ∃ x, v[j]? = some x ∧ d2 = .int x := map_get hj
          have hj2 : j < v.length := (List.getElem?_eq_some_iff.mp hb).1
          have gb : v.getD j 0 = b := by rw [List.getD_eq_getElem?_getD, hb]; rfl
          have hk : i + j < w.length := by omega
          have wk : w[i + j]? = some (w.getD (i + j) 0) := by
            rw [List.getD_eq_getElem?_getD, List.getElem?_eq_getElem hk]
            rfl
          have b1 : a.natAbs < 2 ^ 9000 := Nat.lt_of_le_of_lt (n1_mem (List.mem_of_getElem? ha)) (pow_up bu he)
          have b2 : b.natAbs < 2 ^ 9000 := Nat.lt_of_le_of_lt (n1_mem (List.mem_of_getElem? hb)) (pow_up bv hf)
          refine st_addOwn rfl (ev_op (ev_var rfl (ev_var rfl (ro_add ⟨i + j, w.getD (i + j) 0, by rw [show ((i : Int) + (j : Int)) = ((i + j : Nat) : Int) by omega], ?_, ?_⟩))))
          · rw [List.getElem?_map, wk]
            rfl
          · refine ev_op (ev_var rfl (ev_var rfl (ro_mulW (mulW_of (m := 9000) (n := 9000) b1 b2 (by decide)) ⟨_, rfl, w.set (i + j) (w.getD (i + j) 0 + a * b), .d (.int (j : Int)), .d (.int b), rfl, ?_, by rw [List.length_set]; exact wl, fun x => ?_, ?_⟩)))
            · rw [List.map_set]
              rfl
            · have e1 : pI (w.set (i + j) (w.getD (i + j) 0 + a * b)) x = pI w x + ((a * b : Int) : Rat) * x ^ (i + j) := by
                unfold pI
                have := pe_set ((a * b : Int) : Rat) x (ri w) (i + j) (by unfold ri; rw [List.length_map]; exact hk)
                rw [← this]
                congr 1
                rw [ri_get]
                unfold ri
                rw [List.map_set, Rat.intCast_add]
              have e2 : pI (v.take (j + 1)) x = pI (v.take j) x + (b : Rat) * x ^ j := by
                have := pe_take x (ri v) j (by unfold ri; rw [List.length_map]; exact hj2)
                rw [ri_get, gb] at this
                unfold pI
                unfold ri at this ⊢
                rw [List.map_take, List.map_take]
                exact this
              rw [e1, e2, wv, Rat.intCast_mul, rpow_add]
              grind
            · have e1 := n1_set (a * b) w (i + j)
              have e2 := n1_take v j hj2
              rw [gb] at e2
              rw [Int.natAbs_mul] at e1
              rw [e2, Nat.mul_add]
              omega
        · rintro L3 Γ3 ⟨w, s5, s6, rfl, rfl, wl, wv, wn⟩
          refine ⟨w, _, _, _, _, rfl, rfl, wl, fun x => ?_, ?_⟩
          · have e2 : pI (u.take (i + 1)) x = pI (u.take i) x + (a : Rat) * x ^ i := by
              have := pe_take x (ri u) i (by unfold ri; rw [List.length_map]; exact hi2)
              rw [ri_get, ga] at this
              unfold pI
              unfold ri at this ⊢
              rw [List.map_take, List.map_take]
              exact this
            rw [List.length_map, List.take_length] at wv
            rw [wv, e2]
            grind
          · have e2 := n1_take u i hi2
            rw [ga] at e2
            rw [List.length_map, List.take_length] at wn
            rw [e2, Nat.add_mul]
            omega
      · rintro L2 Γ2 ⟨w, s3, s4, s5, s6, rfl, rfl, wl, wv, wn⟩
        rw [List.length_map, List.take_length] at wv wn
        exact st_ret (ev_tupOwn rfl ⟨u, v, w, rfl, rfl, wv, wn, by omega⟩)
  · have un : u = [] := by
      cases u with
      | nil => rfl
      | cons x xs => cases hb
    exact ⟨fun _ => st_ret (nil_ (k := fun _ => True) (.inl un)), fun z => nomatch z⟩
theorem ok_product_of (T : Tx K mg) : FnOk P w K mg base CX0 1 T.a_product_of T.d_product_of p_product_of (sp_product_of K) := by
  refine T.F_product_of.ok sc_product_of (fun vs H Q E h => len_product_of K vs H Q E h) (fun cdv A outer s H vs Q E hr h => ?_)
  exact ⟨t_product_of K, (pss_cons (ps_if (PW.pt (pw_or (pt_not (pt_truth (pv 0) (by intro _; rfl))) (pw_or1 (pt_not (pt_truth (pv 1) (by intro _; rfl)))))) (pss_one (ps_ret (pe_tup pa_nil))) pss_nil)
  (pss_cons (ps_set (i := 2) sc_product_of.nd rfl (Or.inl rfl) (pe_op op_mulA (pe_lst (pa_cons pe_int pa_nil)) (pe_op op_sub (pe_op op_addA (pe_callB call_len_seq (by rfl) T.n_len (by decide +kernel) (pa_cons (pv 0) pa_nil)) (pe_callB call_len_seq (by rfl) T.n_len (by decide +kernel) (pa_cons (pv 1) pa_nil))) pe_int)))
  (pss_cons (ps_for PassesOwn.never rfl (pi_enumT (by rfl) T.n_enumerate (pa_cons (pv 0) pa_nil)) (pg_tup (by rfl) (pgs_cons (pg_name (i := 3) sc_product_of.nd rfl (Or.inl rfl)) (pgs_cons (pg_name (i := 4) sc_product_of.nd rfl (Or.inl rfl)) pgs_nil))) (pss_one (ps_for PassesOwn.never rfl (pi_enumT (by rfl) T.n_enumerate (pa_cons (pv 1) pa_nil)) (pg_tup (by rfl) (pgs_cons (pg_name (i := 5) sc_product_of.nd rfl (Or.inl rfl)) (pgs_cons (pg_name (i := 6) sc_product_of.nd rfl (Or.inl rfl)) pgs_nil))) (pss_one (ps_augS (pv 2) (pe_op op_addA (pv 3) (pv 5)) get_list (pe_op op_mulA (pv 4) (pv 6)) ip_add set_list)))))
  (pss_one (ps_ret (pe_callTy call_tuple_of (by rfl) T.n_tuple (by decide +kernel) (pa_cons (pv 2) pa_nil))))))), pure_product_of K vs H Q E h⟩
/-! ### content -/
def pre_content : List PyData → Prop := fun ds => ∃ u : List Int, ds = [.tuple (u.map .int)] ∧ u.length ≤ 400
def post_content : List PyData → PyData → Prop := fun ds d => ∃ u : List Int, ds = [.tuple (u.map .int)] ∧ d = .int ((gcdL u : Nat) : Int)
abbrev sp_content (K : PySem.W.Frag) : Sp := SpP K pre_content post_content
theorem len_content (K : PySem.W.Frag) (vs : List V) (H : Hp) (Q : VK) (E : XK) (h : sp_content K vs H Q E) : vs.length = p_content.length := len_P (n := 1) h fun ds hp => by
  obtain ⟨u, e, hl⟩ := hp
  rw [e]; rfl
def t_content (K : PySem.W.Frag) : TS :=
  (tSeq (tAsg (tC (.int 0)) (gName 1))
  (tSeq (tFor (iTup K (tVar 0)) (gName 2) (tSeq (tAsg (tCB rGcd (tCons (tVar 1) (tCons (tVar 2) tNil))) (gName 1))
  (tIfS (tTest (tOp rEq (tVar 1) (tC (.int 1)))) (tRet (tC (.int 1))) tNext)))
  (tRet (tVar 1))))
theorem pure_content (K : PySem.W.Frag) (vs : List V) (H : Hp) (Q : VK) (E : XK) (h : sp_content K vs H Q E) : t_content K { nx := fun _ H' => Q .non H', rt := Q } (L2.start N_content vs) H := body_P h fun B ds hW hp => by
  obtain ⟨u, e, hl⟩ := hp
  subst e
  unfold t_content
  refine st_seq (st_asg (ev_int ?_))
  refine st_seq (st_forT (ev_var rfl ⟨_, rfl, fun i L2 Γ2 => ∃ s : Sl, L2 = [] ∧ Γ2 = [.d (.tuple (u.map .int)), .d (.int ((gcdL (u.take i) : Nat) : Int)), s], ⟨_, rfl, rfl⟩, ?_, ?_⟩))
  · rintro i d' L2 Γ2 g hi ⟨s, rfl, rfl⟩
    obtain ⟨x, hx, rfl⟩ : ∃ x, u[i]? = some x ∧ d' = .int x := map_get hi
    have e1 : gcdL (u.take (i + 1)) = Nat.gcd ((gcdL (u.take i) : Nat) : Int).natAbs x.natAbs := by
      rw [List.take_add_one, hx, gcdL_append, Int.natAbs_natCast]
      simp [gcdL]
    refine st_seq (st_asg (ev_cb (ea_cons (ev_var rfl (ea_cons (ev_var rfl (ea_nil (cok_gcd ?_))))))))
    rw [← e1]
    walk_at "dd"
    refine ⟨fun hb => ?_, fun hb => ?_⟩
    · refine st_ret (ev_int ⟨u, rfl, ?_⟩)
      have h1 : gcdL (u.take (i + 1)) = 1 := by
        have := of_decide_eq_true hb
        omega
      have h2 : gcdL u ∣ gcdL (u.take (i + 1)) := by
        have := gcdL_append (u.take (i + 1)) (u.drop (i + 1))
        rw [List.take_append_drop] at this
        rw [this]
        exact Nat.gcd_dvd_left _ _
      rw [h1] at h2
      rw [Nat.dvd_one.mp h2]
      rfl
    · refine st_next ⟨_, rfl, rfl⟩
  · rintro L2 Γ2 ⟨s, rfl, rfl⟩
    refine st_ret (ev_var rfl ⟨u, rfl, ?_⟩)
    rw [List.length_map, List.take_length]
theorem ok_content (T : Tx K mg) : FnOk P w K mg base CX0 1 T.a_content T.d_content p_content (sp_content K) := by
  refine T.F_content.ok sc_content (fun vs H Q E h => len_content K vs H Q E h) (fun cdv A outer s H vs Q E hr h => ?_)
  exact ⟨t_content K, (pss_cons (ps_set (i := 1) sc_content.nd rfl (Or.inl rfl) pe_int)
  (pss_cons (ps_for PassesOwn.never rfl (pi_tup (pv 0)) (pg_name (i := 2) sc_content.nd rfl (Or.inl rfl)) (pss_cons (ps_set (i := 1) sc_content.nd rfl (Or.inl rfl) (pe_callBfun cr_gcd (by rfl) T.l_gcd (pa_cons (pv 1) (pa_cons (pv 2) pa_nil))))
  (pss_one (ps_if (pt_cmpR op_eq (pv 1) pe_int (nomark _)) (pss_one (ps_ret pe_int)) pss_nil))))
  (pss_one (ps_ret (pv 1))))), pure_content K vs H Q E h⟩
/-! ### shrunk -/


def pre_shrunk : List PyData → Prop := fun ds => ∃ (u : List Int) (g : Int), ds = [.tuple (u.map .int), .int g] ∧ u.length ≤ 400 ∧ CDivW 0 g
def post_shrunk : List PyData → PyData → Prop := fun ds d => ∃ (u : List Int) (g : Int), ds = [.tuple (u.map .int), .int g] ∧ d = .tuple ((u.map fun x => x / g).map .int)
abbrev sp_shrunk (K : PySem.W.Frag) : Sp := SpP K pre_shrunk post_shrunk
theorem len_shrunk (K : PySem.W.Frag) (vs : List V) (H : Hp) (Q : VK) (E : XK) (h : sp_shrunk K vs H Q E) : vs.length = p_shrunk.length := len_P (n := 2) h fun ds hp => by
  obtain ⟨u, g, e, hl, hz⟩ := hp
  rw [e]; rfl
def t_shrunk (K : PySem.W.Frag) : TS :=
  (tRet (tCB (rTupleQ K) (tCons (tLc (iTup K (tVar 0)) (gName 2) tYes (tOp rFdA (tVar 2) (tVar 1)) [2]) tNil)))
theorem pure_shrunk (K : PySem.W.Frag) (vs : List V) (H : Hp) (Q : VK) (E : XK) (h : sp_shrunk K vs H Q E) : t_shrunk K { nx := fun _ H' => Q .non H', rt := Q } (L2.start N_shrunk vs) H := body_P h fun B ds hW hp => by
  obtain ⟨u, g, e, hl, hz⟩ := hp
  subst e
  unfold t_shrunk
  refine st_ret (ev_cb (ea_cons (ev_new (en_lcT (wipe1 2) (ev_var rfl ⟨_, rfl, by simp; omega, fun i acc => acc = ((u.take i).map fun x => PyData.int (x / g)), ⟨rfl, fun i D d' acc hi hJ hin => ?_⟩, fun acc hJ => ?_⟩)))))
  · obtain ⟨x, hx, rfl⟩ : ∃ x, u[i]? = some x ∧ d' = .int x := map_get hi
    refine et_yes ⟨fun _ => ?_, fun z => nomatch z⟩
    refine ev_op (ev_var rfl (ev_var rfl (ro_fdW hz ?_)))
    subst hJ
    rw [List.take_add_one, hx, List.map_append]
    rfl
  · refine ea_nil (co_tupL ⟨u, g, rfl, ?_⟩)
    rw [hJ, List.length_map, List.take_length, List.map_map]
    rfl
theorem ok_shrunk (T : Tx K mg) : FnOk P w K mg base CX0 1 T.a_shrunk T.d_shrunk p_shrunk (sp_shrunk K) := by
  refine T.F_shrunk.ok sc_shrunk (fun vs H Q E h => len_shrunk K vs H Q E h) (fun cdv A outer s H vs Q E hr h => ?_)
  exact ⟨t_shrunk K, (pss_one (ps_ret (pe_callTy call_tuple_of (by rfl) T.n_tuple (by decide +kernel) (pa_cons (pe_lc (own := [("number", 2)]) (by rfl) sc_shrunk.nd (pi_tup (pv 0)) (blkOk_by (own := [("number", 2)]) (N := N_shrunk) (sc := defScope s_shrunk) (by decide +kernel)) (fun _ _ _ _ _ => pg_name (i := 2) sc_shrunk.nd rfl (Or.inl rfl)) (fun _ _ _ _ _ => pts_nil) (fun _ _ _ _ _ => (pe_op op_fdA (pv 2) (pv 1)))) pa_nil)))), pure_shrunk K vs H Q E h⟩
/-! ### thinned -/

def pre_thinned : List PyData → Prop := fun ds => ∃ u : List Int, ds = [.tuple (u.map .int)] ∧ u.length ≤ 400 ∧ bd u 4000 ∧ ∃ x ∈ u, x ≠ 0
def post_thinned : List PyData → PyData → Prop := fun ds d => ∃ u : List Int, ds = [.tuple (u.map .int)] ∧ d = .tuple ((prim u).map .int)
abbrev sp_thinned (K : PySem.W.Frag) : Sp := SpP K pre_thinned post_thinned
theorem len_thinned (K : PySem.W.Frag) (vs : List V) (H : Hp) (Q : VK) (E : XK) (h : sp_thinned K vs H Q E) : vs.length = p_thinned.length := len_P (n := 1) h fun ds hp => by
  obtain ⟨u, e, hl, hb, hn⟩ := hp
  rw [e]; rfl
def t_thinned (K : PySem.W.Frag) : TS :=
  (tRet (tCall (sp_shrunk K) [] E0 (tCons (tVar 0) (tCons (tCall (sp_content K) [] E0 (tCons (tVar 0) tNil)) tNil))))
theorem pure_thinned (K : PySem.W.Frag) (vs : List V) (H : Hp) (Q : VK) (E : XK) (h : sp_thinned K vs H Q E) : t_thinned K { nx := fun _ H' => Q .non H', rt := Q } (L2.start N_thinned vs) H := body_P h fun B ds hW hp => by
  obtain ⟨u, e, hl, hb, hn⟩ := hp
  subst e
  unfold t_thinned
  refine st_ret (ev_callP (ea_cons (ev_var rfl (ea_cons (ev_callP (ea_cons (ev_var rfl (ea_nil ⟨⟨u, rfl, hl⟩, fun d ⟨v, ev, ed⟩ => ?_⟩))))))))
  cases map_int_inj (by injection ev with ev; injection ev)
  subst ed
  have hg := gcdL_pos hn
  have hz : CDivW 0 ((gcdL u : Nat) : Int) := by
    obtain ⟨x, hx, hx0⟩ := hn
    refine ⟨by omega, ?_⟩
    have h1 := Int.natAbs_dvd_natAbs.mpr (gcdL_dvd hx)
    have h2 := Nat.le_of_dvd (by omega) h1
    have h3 : ((gcdL u : Nat) : Int).natAbs < 2 ^ 4000 := Nat.lt_of_le_of_lt h2 (hb x hx)
    have := lg h3
    omega
  refine ea_nil ⟨⟨u, _, rfl, hl, hz⟩, fun d ⟨u', g', e, ed⟩ => ⟨u, rfl, ?_⟩⟩
  simp only [List.cons.injEq, and_true, PyData.int.injEq, PyData.tuple.injEq] at e
  obtain ⟨e1, rfl⟩ := e
  obtain rfl := map_int_inj e1
  rw [ed]
  rfl
theorem ok_thinned (T : Tx K mg) : FnOk P w K mg base CX0 2 T.a_thinned T.d_thinned p_thinned (sp_thinned K) := by
  refine T.F_thinned.ok sc_thinned (fun vs H Q E h => len_thinned K vs H Q E h) (fun cdv A outer s H vs Q E hr h => ?_)
  exact ⟨t_thinned K, (pss_one (ps_ret (pe_call (ok_shrunk T) (hr.mono (by decide)) rfl T.g_shrunk T.F_shrunk.kp (b_shrunk T) .nil pass0 (pa_cons (pv 0) (pa_cons (pe_call (ok_content T) (hr.mono (by decide)) rfl T.g_content T.F_content.kp (b_content T) .nil pass0 (pa_cons (pv 0) pa_nil)) pa_nil))))), pure_thinned K vs H Q E h⟩
/-! ### shaft_of -/

def pre_shaft_of : List PyData → Prop := fun ds => ∃ d : Ds, ds = [discD d]
def post_shaft_of : List PyData → PyData → Prop := fun ds r => ∃ d : Ds, ds = [discD d] ∧ r = .tuple [.int (d.p : Int), frD d.K, frD d.R]
abbrev sp_shaft_of (K : PySem.W.Frag) : Sp := SpP K pre_shaft_of post_shaft_of
theorem len_shaft_of (K : PySem.W.Frag) (vs : List V) (H : Hp) (Q : VK) (E : XK) (h : sp_shaft_of K vs H Q E) : vs.length = p_shaft_of.length := len_P (n := 1) h fun ds hp => by
  obtain ⟨d, e⟩ := hp
  rw [e]; rfl
def t_shaft_of (K : PySem.W.Frag) : TS :=
  (tRet (tSl (rSlX2 K) (tVar 0) (tPart (tC (.int 2))) tNoPart))
theorem pure_shaft_of (K : PySem.W.Frag) (vs : List V) (H : Hp) (Q : VK) (E : XK) (h : sp_shaft_of K vs H Q E) : t_shaft_of K { nx := fun _ H' => Q .non H', rt := Q } (L2.start N_shaft_of vs) H := body_P h fun B ds hW hp => by
  obtain ⟨d, e⟩ := hp
  subst e
  unfold t_shaft_of
  exact st_ret (ev_sl (ev_var rfl (eo_some (ev_int ⟨_, rfl, eo_no (so_tup ⟨d, rfl, rfl⟩)⟩))))
theorem ok_shaft_of (T : Tx K mg) : FnOk P w K mg base CX0 1 T.a_shaft_of T.d_shaft_of p_shaft_of (sp_shaft_of K) := by
  refine T.F_shaft_of.ok sc_shaft_of (fun vs H Q E h => len_shaft_of K vs H Q E h) (fun cdv A outer s H vs Q E hr h => ?_)
  exact ⟨t_shaft_of K, (pss_one (ps_ret (pe_slice sl_any (pv 0) (po_some pe_int) po_none))), pure_shaft_of K vs H Q E h⟩
/-! ### pull_of -/

def pre_pull_of : List PyData → Prop := fun ds => ∃ (d : Ds) (B : Nat), ds = [discD d] ∧ Dk d B ∧ B ≤ 1000
def post_pull_of : List PyData → PyData → Prop := fun ds r => ∃ d : Ds, ds = [discD d] ∧ r = frD (pullF d)
abbrev sp_pull_of (K : PySem.W.Frag) : Sp := SpP K pre_pull_of post_pull_of
theorem len_pull_of (K : PySem.W.Frag) (vs : List V) (H : Hp) (Q : VK) (E : XK) (h : sp_pull_of K vs H Q E) : vs.length = p_pull_of.length := len_P (n := 1) h fun ds hp => by
  obtain ⟨d, B, e, h, hB⟩ := hp
  rw [e]; rfl
def t_pull_of (K : PySem.W.Frag) : TS :=
  (tSeq (tAsg (tCall (sp_shaft_of K) [] E0 (tCons (tVar 0) tNil)) (gTup K 3 (gCons (gName 1) (gCons (gName 2) (gCons (gName 3) gNil)))))
  (tRet (tCall (sp_multiplied K) [] E0 (tCons (tVar 2) (tCons (tCall (sp_multiplied K) [] E0 (tCons (tVar 3) (tCons (tVar 3) tNil))) tNil)))))
theorem pure_pull_of (K : PySem.W.Frag) (vs : List V) (H : Hp) (Q : VK) (E : XK) (h : sp_pull_of K vs H Q E) : t_pull_of K { nx := fun _ H' => Q .non H', rt := Q } (L2.start N_pull_of vs) H := body_P h fun B ds hW hp => by
  obtain ⟨d, B, e, h, hB⟩ := hp
  subst e
  unfold t_pull_of
  obtain ⟨pf, pv, _, _⟩ := h.pull
  refine st_seq (st_unpack (ev_callP (ea_cons (ev_var rfl (ea_nil ⟨⟨d, rfl⟩, fun r ⟨d2, e, ed⟩ => ?_⟩)))))
  obtain rfl := disc1 e
  subst ed
  refine ⟨_, rfl, rfl, tg_cons (tg_cons (tg_cons (tg_nil ?_)))⟩
  have sr := h.R.sm (show B ≤ 4000 by omega)
  have sk := h.K.sm (show B ≤ 4000 by omega)
  refine st_ret (ev_callP (ea_cons (ev_var rfl (ea_cons (ev_callP (ea_cons (ev_var rfl (ea_cons (ev_var rfl (ea_nil ⟨⟨d.R, d.R, rfl, sr, sr⟩, fun r ⟨x, y, r1, e, ed, f1, v1, a1, a2⟩ => ?_⟩))))))))))
  obtain ⟨rfl, rfl⟩ := frD2_inj e
  subst ed
  have s1 : Sm r1 := ⟨f1.1, Nat.lt_of_le_of_lt a1 (pow_up (natAbs_mul_lt h.R.b1 h.R.b1) (by omega)), Nat.lt_of_le_of_lt a2 (pow_up (natAbs_mul_lt h.R.b2 h.R.b2) (by omega))⟩
  refine ea_nil ⟨⟨d.K, r1, rfl, sk, s1⟩, fun r ⟨x, y, r2, e, ed, f2, v2, _, _⟩ => ?_⟩
  obtain ⟨rfl, rfl⟩ := frD2_inj e
  subst ed
  refine ⟨d, rfl, ?_⟩
  rw [FOk.inj f2 pf (by rw [v2, v1, pv])]
theorem ok_pull_of (T : Tx K mg) : FnOk P w K mg base CX0 3 T.a_pull_of T.d_pull_of p_pull_of (sp_pull_of K) := by
  refine T.F_pull_of.ok sc_pull_of (fun vs H Q E h => len_pull_of K vs H Q E h) (fun cdv A outer s H vs Q E hr h => ?_)
  exact ⟨t_pull_of K, (pss_cons (ps_asg (pe_call (ok_shaft_of T) (hr.mono (by decide)) rfl T.g_shaft_of T.F_shaft_of.kp (b_shaft_of T) .nil pass0 (pa_cons (pv 0) pa_nil)) (pg_tup (by rfl) (pgs_cons (pg_name (i := 1) sc_pull_of.nd rfl (Or.inl rfl)) (pgs_cons (pg_name (i := 2) sc_pull_of.nd rfl (Or.inl rfl)) (pgs_cons (pg_name (i := 3) sc_pull_of.nd rfl (Or.inl rfl)) pgs_nil)))))
  (pss_one (ps_ret (pe_call (ok_multiplied T) (hr.mono (by decide)) rfl T.g_multiplied T.F_multiplied.kp (b_multiplied T) .nil pass0 (pa_cons (pv 2) (pa_cons (pe_call (ok_multiplied T) (hr.mono (by decide)) rfl T.g_multiplied T.F_multiplied.kp (b_multiplied T) .nil pass0 (pa_cons (pv 3) (pa_cons (pv 3) pa_nil))) pa_nil)))))), pure_pull_of K vs H Q E h⟩
/-! ### row_scales -/

def pre_row_scales : List PyData → Prop := fun ds => ∃ (m : List Ds) (B : Nat), ds = [machD m] ∧ Mach m B ∧ B ≤ 30
def post_row_scales : List PyData → PyData → Prop := fun ds r => ∃ m : List Ds, ds = [machD m] ∧ Rt m ∧ r = .list ((rsL m).map .int)
abbrev sp_row_scales (K : PySem.W.Frag) : Sp := SpP K pre_row_scales post_row_scales
theorem len_row_scales (K : PySem.W.Frag) (vs : List V) (H : Hp) (Q : VK) (E : XK) (h : sp_row_scales K vs H Q E) : vs.length = p_row_scales.length := len_P (n := 1) h fun ds hp => by
  obtain ⟨m, B, e, h, hB⟩ := hp
  rw [e]; rfl
def t_row_scales (K : PySem.W.Frag) : TS :=
  (tSeq (tAsg (tLc (iTup K (tVar 0)) (gName 6) tYes (tCB rLcm2 (tCons (tOp (rIx K) (tOp (rIx K) (tVar 6) (tC (.int 0))) (tC (.int 1))) (tCons (tOp (rIx K) (tOp (rIx K) (tVar 6) (tC (.int 1))) (tC (.int 1))) tNil))) [6]) (gName 1))
  (tSeq (tFor (iRng2 (tCons (tC (.int 1)) (tCons (tCB (rLenQ K) (tCons (tVar 0) tNil)) tNil))) (gName 2) (tSeq (tAsg (tCall (sp_shaft_of K) [] E0 (tCons (tOp (rIx K) (tVar 0) (tVar 2)) tNil)) (gTup K 3 (gCons (gName 3) (gCons (gName 4) (gCons (gName 5) gNil)))))
  (tSeq (tAsg (tCB rLcm2 (tCons (tOp (rIx K) (tVar 1) (tVar 2)) (tCons (tOp (rIx K) (tVar 4) (tC (.int 1))) tNil))) (gSub (tVar 1) (tVar 2) rSetL))
  (tAsg (tCB rLcm2 (tCons (tOp (rIx K) (tVar 1) (tVar 3)) (tCons (tOp (rIx K) (tCall (sp_pull_of K) [] E0 (tCons (tOp (rIx K) (tVar 0) (tVar 2)) tNil)) (tC (.int 1))) tNil))) (gSub (tVar 1) (tVar 3) rSetL)))))
  (tRet (tVar 1))))
theorem pure_row_scales (K : PySem.W.Frag) (vs : List V) (H : Hp) (Q : VK) (E : XK) (h : sp_row_scales K vs H Q E) : t_row_scales K { nx := fun _ H' => Q .non H', rt := Q } (L2.start N_row_scales vs) H := body_P h fun B ds hW hp => by
  obtain ⟨m, B, e, h, hB⟩ := hp
  subst e
  unfold t_row_scales
  have n1 := h.n1
  have n8 := h.n8
  refine st_seq (st_own (en_lcT (wipe1 6) (ev_var rfl ⟨_, rfl, by rw [machL_len]; omega, fun i acc => acc = ((rs0 m).take i).map .int, ⟨rfl, fun i D d' acc hi hJ hin => ?_⟩, fun acc hJ => ?_⟩)))
  · obtain ⟨hl, hd, _⟩ := machL_at hi
    have dk := h.dk i
    have b1 : (m.getD i d0).J.2.natAbs < 2 ^ 1000 := pow_up dk.J.b2 (by omega)
    have b2 : (m.getD i d0).W.2.natAbs < 2 ^ 1000 := pow_up dk.W.b2 (by omega)
    refine et_yes ⟨fun _ => ?_, fun z => nomatch z⟩
    have fin : acc ++ [PyData.int (lcmI (m.getD i d0).J.2 (m.getD i d0).W.2)] = ((rs0 m).take (i + 1)).map .int := by
      have e : (rs0 m)[i]? = some (lcmI (m.getD i d0).J.2 (m.getD i d0).W.2) := by
        unfold rs0
        rw [List.getElem?_map, List.getD_eq_getElem?_getD, List.getElem?_eq_getElem hl]
        rfl
      rw [hJ, List.take_add_one, e, List.map_append]
      rfl
    rcases hd with rfl | rfl
    · exact ev_cb (ea_cons (ev_op (ev_op (ev_var rfl (ev_int (rok_ixsT (d := frD (m.getD i d0).J) rfl (ev_int (rok_ixsT (d := .int (m.getD i d0).J.2) rfl (ea_cons (ev_op (ev_op (ev_var rfl (ev_int (rok_ixsT (d := frD (m.getD i d0).W) rfl (ev_int (rok_ixsT (d := .int (m.getD i d0).W.2) rfl (ea_nil (cok_lcm2 b1 b2 fin))))))))))))))))))
    · exact ev_cb (ea_cons (ev_op (ev_op (ev_var rfl (ev_int (rok_ixsT (d := frD (m.getD i d0).J) rfl (ev_int (rok_ixsT (d := .int (m.getD i d0).J.2) rfl (ea_cons (ev_op (ev_op (ev_var rfl (ev_int (rok_ixsT (d := frD (m.getD i d0).W) rfl (ev_int (rok_ixsT (d := .int (m.getD i d0).W.2) rfl (ea_nil (cok_lcm2 b1 b2 fin))))))))))))))))))
  · intro l
    rw [machL_len, List.take_of_length_le (by unfold rs0; rw [List.length_map]; omega)] at hJ
    subst hJ
    refine st_seq (st_forR2 (ea_cons (ev_int (ea_cons (ev_cb (ea_cons (ev_var rfl (ea_nil (co_lenT (ea_nil ⟨_, _, rfl, by omega, by omega, by rw [machL_len]; omega, by rw [machL_len]; omega, fun i L2 Γ2 => ∃ s2 s3 s4 s5 s6 : Sl, L2 = [l] ∧ Γ2 = [.d (machD m), .own l ((rsN m i).map .int), s2, s3, s4, s5, s6], ⟨_, _, _, _, _, rfl, rfl⟩, ?_, ?_⟩))))))))))
    · rintro i L2 Γ2 hi ⟨s2, s3, s4, s5, s6, rfl, rfl⟩
      rw [machL_len] at hi
      have hi2 : i + 1 < m.length := by omega
      rw [show (1 : Int) + (i : Int) = ((i + 1 : Nat) : Int) by omega]
      have I := rs_all h i (by omega)
      have dk := h.dk (i + 1)
      have pl := h.par (i + 1) (by omega) hi2
      obtain ⟨pf, pv, p1, p2⟩ := dk.pull
      have mat : atI (machL m) ((i + 1 : Nat) : Int) = some (discD (m.getD (i + 1) d0)) := by rw [atI_n, machL_disc (by omega) hi2]
      have l1 : i + 1 < (rsN m i).length := by rw [I.len]; omega
      have l2 : (m.getD (i + 1) d0).p < (rsN m i).length := by rw [I.len]; omega
      have ex : 2 * B + 1 + 4 * B * i ≤ 1000 := by
        have : B * i ≤ 30 * 6 := Nat.mul_le_mul hB (by omega)
        have : 4 * B * i = 4 * (B * i) := Nat.mul_assoc ..
        omega
      refine st_seq (st_unpack (ev_callP (ea_cons (ev_op (ev_var rfl (ev_var rfl (rok_ixsT mat (ea_nil ⟨⟨_, rfl⟩, fun r ⟨d2, e, ed⟩ => ?_⟩))))))))
      obtain rfl := disc1 e
      subst ed
      refine ⟨_, rfl, rfl, tg_cons (tg_cons (tg_cons (tg_nil ?_)))⟩
      refine st_seq (st_setOwn rfl (ev_cb (ea_cons (ev_ixOwn rfl (ev_var rfl ⟨_, _, rfl, ints_at l1 1, ea_cons (ev_op (ev_var rfl (ev_int (rok_ixsT (d := .int (m.getD (i + 1) d0).K.2) rfl (ea_nil (cok_lcm2 (pow_up (I.bd _) ex) (pow_up dk.K.b2 (by omega)) (ev_var rfl ⟨i + 1, rfl, by rw [List.length_map]; exact l1, ?_⟩)))))))⟩)))))
      have l3 : (m.getD (i + 1) d0).p < ((rsN m i).set (i + 1) (lcmI ((rsN m i).getD (i + 1) 1) (m.getD (i + 1) d0).K.2)).length := by rw [List.length_set]; exact l2
      have g1 := set_getD (s := rsN m i) (lcmI ((rsN m i).getD (i + 1) 1) (m.getD (i + 1) d0).K.2) l1 (m.getD (i + 1) d0).p 1
      rw [if_neg (by omega)] at g1
      have em : ((rsN m i).map PyData.int).set (i + 1) (.int (lcmI ((rsN m i).getD (i + 1) 1) (m.getD (i + 1) d0).K.2)) = ((rsN m i).set (i + 1) (lcmI ((rsN m i).getD (i + 1) 1) (m.getD (i + 1) d0).K.2)).map .int := by rw [List.map_set]
      have em2 : ((rsN m i).map PyData.int).set (i + 1) (.int ((((rsN m i).getD (i + 1) 1).natAbs.lcm (m.getD (i + 1) d0).K.2.natAbs : Nat) : Int)) = ((rsN m i).set (i + 1) (lcmI ((rsN m i).getD (i + 1) 1) (m.getD (i + 1) d0).K.2)).map .int := em
      simp only [List.set_cons_succ, List.set_cons_zero]
      rw [em2]
      refine st_setOwn rfl (ev_cb (ea_cons (ev_ixOwn rfl (ev_var rfl ⟨_, _, rfl, ints_at l3 1, ea_cons (ev_op (ev_callP (ea_cons (ev_op (ev_var rfl (ev_var rfl (rok_ixsT mat (ea_nil ⟨⟨_, B, rfl, dk, by omega⟩, fun r ⟨d2, e, ed⟩ => ?_⟩))))))))⟩))))
      obtain rfl := disc1 e
      subst ed
      refine ev_int (rok_ixsT (d := .int (pullF (m.getD (i + 1) d0)).2) rfl (ea_nil (cok_lcm2 (by rw [g1]; exact pow_up (I.bd _) ex) (pow_up p2 (by omega)) (ev_var rfl ⟨_, rfl, by rw [List.length_map]; exact l3, .d (.int ((i + 1 : Nat) : Int)), .d (.int ((m.getD (i + 1) d0).p : Int)), .d (frD (m.getD (i + 1) d0).K), .d (frD (m.getD (i + 1) d0).R), s6, rfl, ?_⟩))))
      rw [← List.map_set]
      rfl
    · rintro L2 Γ2 ⟨s2, s3, s4, s5, s6, rfl, rfl⟩
      rw [machL_len]
      have e : ((m.length : Int) - 1).toNat = m.length - 1 := by omega
      rw [e]
      exact st_freeze 1 rfl (by simp) (st_ret (ev_var rfl ⟨m, rfl, h.rt, rfl⟩))
theorem ok_row_scales (T : Tx K mg) : FnOk P w K mg base CX0 4 T.a_row_scales T.d_row_scales p_row_scales (sp_row_scales K) := by
  refine T.F_row_scales.ok sc_row_scales (fun vs H Q E h => len_row_scales K vs H Q E h) (fun cdv A outer s H vs Q E hr h => ?_)
  exact ⟨t_row_scales K, (pss_cons (ps_setLc (i := 1) (own := [("disc", 6)]) (by rfl) sc_row_scales.nd rfl rfl (sw_true rfl rfl rfl (by decide +kernel)) (pi_tup (pv 0)) (blkOk_by (own := [("disc", 6)]) (N := N_row_scales) (sc := defScope s_row_scales) (by decide +kernel)) (fun _ _ _ _ _ => pg_name (i := 6) sc_row_scales.nd rfl (Or.inl rfl)) (fun _ _ _ _ _ => pts_nil) (fun _ _ _ _ _ => (pe_callBfun cr_lcm2 (by rfl) T.l_lcm (pa_cons (pe_ix ix_seq (pe_ix ix_seq (pv 6) pe_int (fun _ _ => rfl)) pe_int (fun _ _ => rfl)) (pa_cons (pe_ix ix_seq (pe_ix ix_seq (pv 6) pe_int (fun _ _ => rfl)) pe_int (fun _ _ => rfl)) pa_nil)))))
  (pss_cons (ps_for PassesOwn.never rfl (pi_range2 (by rfl) T.n_range (pa_cons pe_int (pa_cons (pe_callB call_len_seq (by rfl) T.n_len (by decide +kernel) (pa_cons (pv 0) pa_nil)) pa_nil))) (pg_name (i := 2) sc_row_scales.nd rfl (Or.inl rfl)) (pss_cons (ps_asg (pe_call (ok_shaft_of T) (hr.mono (by decide)) rfl T.g_shaft_of T.F_shaft_of.kp (b_shaft_of T) .nil pass0 (pa_cons (pe_ix ix_seq (pv 0) (pv 2) (fun _ _ => rfl)) pa_nil)) (pg_tup (by rfl) (pgs_cons (pg_name (i := 3) sc_row_scales.nd rfl (Or.inl rfl)) (pgs_cons (pg_name (i := 4) sc_row_scales.nd rfl (Or.inl rfl)) (pgs_cons (pg_name (i := 5) sc_row_scales.nd rfl (Or.inl rfl)) pgs_nil)))))
  (pss_cons (ps_asg (pe_callBfun cr_lcm2 (by rfl) T.l_lcm (pa_cons (pe_ix ix_seq (pv 1) (pv 2) (fun _ _ => rfl)) (pa_cons (pe_ix ix_seq (pv 4) pe_int (fun _ _ => rfl)) pa_nil))) (pg_sub (pv 1) (pv 2) set_list))
  (pss_one (ps_asg (pe_callBfun cr_lcm2 (by rfl) T.l_lcm (pa_cons (pe_ix ix_seq (pv 1) (pv 3) (fun _ _ => rfl)) (pa_cons (pe_ix ix_seq (pe_call (ok_pull_of T) (hr.mono (by decide)) rfl T.g_pull_of T.F_pull_of.kp (b_pull_of T) .nil pass0 (pa_cons (pe_ix ix_seq (pv 0) (pv 2) (fun _ _ => rfl)) pa_nil)) pe_int (fun _ _ => rfl)) pa_nil))) (pg_sub (pv 1) (pv 3) set_list))))))
  (pss_one (ps_ret (pv 1))))), pure_row_scales K vs H Q E h⟩
/-! ### times_scale -/

def pre_times_scale : List PyData → Prop := fun ds => ∃ (x : Fr) (s : Int), ds = [frD x, .int s] ∧ FOk x ∧ x.2 ∣ s ∧ 0 < s ∧ x.1.natAbs < 2 ^ 1000 ∧ s.natAbs < 2 ^ 1000
def post_times_scale : List PyData → PyData → Prop := fun ds r => ∃ (x : Fr) (s z : Int), ds = [frD x, .int s] ∧ r = .int z ∧ (z : Rat) = (s : Rat) * val x ∧ z.natAbs ≤ x.1.natAbs * s.natAbs
abbrev sp_times_scale (K : PySem.W.Frag) : Sp := SpP K pre_times_scale post_times_scale
theorem len_times_scale (K : PySem.W.Frag) (vs : List V) (H : Hp) (Q : VK) (E : XK) (h : sp_times_scale K vs H Q E) : vs.length = p_times_scale.length := len_P (n := 2) h fun ds hp => by
  obtain ⟨x, s, e, fx, hd, s0, b1, b2⟩ := hp
  rw [e]; rfl
def t_times_scale (K : PySem.W.Frag) : TS :=
  (tRet (tOp (rMulA K) (tOp (rIx K) (tVar 0) (tC (.int 0))) (tOp rFdA (tVar 1) (tOp (rIx K) (tVar 0) (tC (.int 1))))))
theorem pure_times_scale (K : PySem.W.Frag) (vs : List V) (H : Hp) (Q : VK) (E : XK) (h : sp_times_scale K vs H Q E) : t_times_scale K { nx := fun _ H' => Q .non H', rt := Q } (L2.start N_times_scale vs) H := body_P h fun B ds hW hp => by
  obtain ⟨x, s, e, fx, hd, s0, b1, b2⟩ := hp
  subst e
  unfold t_times_scale
  have x2 := fx.1
  have le : x.2.natAbs ≤ s.natAbs := Nat.le_of_dvd (by omega) (Int.natAbs_dvd_natAbs.mpr hd)
  have qb : (s / x.2).natAbs ≤ s.natAbs := by
    rw [Int.natAbs_ediv_of_dvd hd]
    exact Nat.div_le_self _ _
  refine st_ret (ev_op (ev_op (ev_var rfl (ev_int (rok_ixsT (d := .int x.1) rfl (ev_op (ev_var rfl (ev_op (ev_var rfl (ev_int (rok_ixsT (d := .int x.2) rfl (ro_fdW (cdw (e := 1000) x2 (Nat.lt_of_le_of_lt le b2) (by decide)) (ro_mulW (mulW_of b1 (Nat.lt_of_le_of_lt qb b2) (by decide)) ⟨x, s, _, rfl, rfl, val_scale x2 hd, ?_⟩)))))))))))))
  rw [Int.natAbs_mul]
  exact Nat.mul_le_mul_left _ qb
theorem ok_times_scale (T : Tx K mg) : FnOk P w K mg base CX0 1 T.a_times_scale T.d_times_scale p_times_scale (sp_times_scale K) := by
  refine T.F_times_scale.ok sc_times_scale (fun vs H Q E h => len_times_scale K vs H Q E h) (fun cdv A outer s H vs Q E hr h => ?_)
  exact ⟨t_times_scale K, (pss_one (ps_ret (pe_op op_mulA (pe_ix ix_seq (pv 0) pe_int (fun _ _ => rfl)) (pe_op op_fdA (pv 1) (pe_ix ix_seq (pv 0) pe_int (fun _ _ => rfl)))))), pure_times_scale K vs H Q E h⟩
/-! ### free_part -/

def pre_free_part : List PyData → Prop := fun ds => ∃ (d : Ds) (D : PyData) (s : Int) (h q : List Int), ds = [D, .int s, rowD h, rowD q] ∧ (D = rootD d ∨ D = discD d) ∧ FOk d.J ∧ FOk d.W ∧ d.J.2 ∣ s ∧ d.W.2 ∣ s ∧ 0 < s ∧ d.J.1.natAbs < 2 ^ 1000 ∧ d.W.1.natAbs < 2 ^ 1000 ∧ s.natAbs < 2 ^ 1000 ∧ h.length ≤ 50 ∧ q.length ≤ 50 ∧ n1 h < 2 ^ 4000 ∧ (d.W.1.natAbs * s.natAbs + d.J.1.natAbs * s.natAbs) * n1 h < 2 ^ 4000 ∧ n1 q < 2 ^ 4000
def post_free_part : List PyData → PyData → Prop := fun ds r => ∃ (D : PyData) (s : Int) (h q t : List Int), ds = [D, .int s, rowD h, rowD q] ∧ r = rowD t ∧ ∀ d : Ds, (D = rootD d ∨ D = discD d) → (∀ x, pI t x = ((s : Rat) * val d.W - x * ((s : Rat) * val d.J)) * pI h x + pI q x) ∧ n1 t ≤ (d.W.1.natAbs * s.natAbs + d.J.1.natAbs * s.natAbs) * n1 h + n1 q ∧ t.length ≤ max (h.length + 1) q.length ∧ t.getLast? ≠ some 0
abbrev sp_free_part (K : PySem.W.Frag) : Sp := SpP K pre_free_part post_free_part
theorem len_free_part (K : PySem.W.Frag) (vs : List V) (H : Hp) (Q : VK) (E : XK) (h : sp_free_part K vs H Q E) : vs.length = p_free_part.length := len_P (n := 4) h fun ds hp => by
  obtain ⟨d, D, s, h, q, e, hD, fJ, fW, dJ, dW, s0, j1, w1, s1, hl, ql, hb, hc, qb⟩ := hp
  rw [e]; rfl
def t_free_part (K : PySem.W.Frag) : TS :=
  (tSeq (tAsg (tTup (tCons (tCall (sp_times_scale K) [] E0 (tCons (tOp (rIx K) (tVar 0) (tC (.int 1))) (tCons (tVar 1) tNil))) (tCons (tUn (rU fun i => .int (-i)) (tCall (sp_times_scale K) [] E0 (tCons (tOp (rIx K) (tVar 0) (tC (.int 0))) (tCons (tVar 1) tNil)))) tNil))) (gName 4))
  (tRet (tCall (sp_blend K) [] E0 (tCons (tCall (sp_product_of K) [] E0 (tCons (tVar 4) (tCons (tVar 2) tNil))) (tCons (tC (.int 1)) (tCons (tVar 3) (tCons (tC (.int 1)) tNil)))))))
theorem pure_free_part (K : PySem.W.Frag) (vs : List V) (H : Hp) (Q : VK) (E : XK) (h : sp_free_part K vs H Q E) : t_free_part K { nx := fun _ H' => Q .non H', rt := Q } (L2.start N_free_part vs) H := body_P h fun B ds hW hp => by
  obtain ⟨d, D, s, h, q, e, hD, fJ, fW, dJ, dW, s0, j1, w1, s1, hl, ql, hb, hc, qb⟩ := hp
  subst e
  unfold t_free_part
  have inj : ∀ {a b : Fr} {s t : Int}, [frD a, PyData.int s] = [frD b, .int t] → a = b ∧ s = t := fun e => by
    simp only [List.cons.injEq, and_true, PyData.int.injEq] at e
    exact ⟨frD_inj e.1, e.2⟩
  have rinj : ∀ {a b c e : List Int}, [rowD a, rowD b] = [rowD c, rowD e] → a = c ∧ b = e := fun h => by
    simp only [List.cons.injEq, and_true, rowD, PyData.tuple.injEq] at h
    exact ⟨map_int_inj h.1, map_int_inj h.2⟩
  have rest : ∀ {L : List Addr} {Γ : List Sl} (w j : Int), (w : Rat) = (s : Rat) * val d.W → (j : Rat) = (s : Rat) * val d.J → w.natAbs ≤ d.W.1.natAbs * s.natAbs → j.natAbs ≤ d.J.1.natAbs * s.natAbs → Γ[2]? = some (.d (rowD h)) → Γ[3]? = some (.d (rowD q)) → Γ[4]? = some (.d (rowD [w, -j])) →
      EvP K B [] L Γ (tCall (sp_blend K) [] E0 (tCons (tCall (sp_product_of K) [] E0 (tCons (tVar 4) (tCons (tVar 2) tNil))) (tCons (tC (.int 1)) (tCons (tVar 3) (tCons (tC (.int 1)) tNil))))) (post_free_part [D, .int s, rowD h, rowD q]) := fun {L Γ} w j wv jv wb jb g2 g3 g4 => by
    have no : n1 [w, -j] ≤ d.W.1.natAbs * s.natAbs + d.J.1.natAbs * s.natAbs := by
      show w.natAbs + ((-j).natAbs + 0) ≤ _
      omega
    have b1 : n1 [w, -j] < 2 ^ 2001 := by
      have a1 : d.W.1.natAbs * s.natAbs < 2 ^ 2000 := by
        have := natAbs_mul_lt w1 s1
        rwa [Int.natAbs_mul] at this
      have a2 : d.J.1.natAbs * s.natAbs < 2 ^ 2000 := by
        have := natAbs_mul_lt j1 s1
        rwa [Int.natAbs_mul] at this
      have e2 : 2 ^ 2001 = 2 ^ 2000 * 2 := Nat.pow_succ ..
      omega
    refine ev_callP (ea_cons (ev_callP (ea_cons (ev_var g4 (ea_cons (ev_var g2 (ea_nil ⟨⟨[w, -j], h, 2001, 4000, rfl, by show 2 ≤ 100; decide, by omega, b1, hb, by decide, by decide⟩, fun r ⟨u, v, t, e, ed, tv, tn, tl⟩ => ?_⟩)))))))
    obtain ⟨rfl, rfl⟩ := rinj e
    subst ed
    have tb : n1 t < 2 ^ 4000 := Nat.lt_of_le_of_lt (Nat.le_trans tn (Nat.mul_le_mul_right _ no)) hc
    have tl2 : t.length ≤ h.length + 1 := by
      have : t.length ≤ 2 + h.length - 1 := tl
      omega
    have one : (1 : Int).natAbs < 2 ^ 4000 := Nat.one_lt_two_pow (by decide)
    refine ea_cons (ev_int (ea_cons (ev_var g3 (ea_cons (ev_int (ea_nil ⟨⟨t, q, 1, 1, rfl, by omega, by omega, one, one, n1_bd tb, n1_bd qb⟩, fun r ⟨u, v, a, b, e, ed⟩ => ?_⟩))))))
    have e2 : t = u ∧ a = 1 ∧ q = v ∧ b = 1 := by
      simp only [List.cons.injEq, and_true, rowD, PyData.tuple.injEq, PyData.int.injEq] at e
      exact ⟨map_int_inj e.1, e.2.1.symm, map_int_inj e.2.2.1, e.2.2.2.symm⟩
    obtain ⟨rfl, rfl, rfl, rfl⟩ := e2
    refine ⟨D, s, h, q, _, rfl, ed, fun d2 hD2 => ?_⟩
    obtain ⟨eJ, eW⟩ := heads hD hD2
    rw [← eJ, ← eW]
    refine ⟨fun x => ?_, ?_, ?_, trim_last _⟩
    · rw [pI_trim, pI_comb, tv]
      have o : pI [w, -j] x = (s : Rat) * val d.W - x * ((s : Rat) * val d.J) := by
        show (w : Rat) + x * (((-j : Int) : Rat) + x * 0) = _
        rw [wv, Rat.intCast_neg, jv]
        grind
      rw [o]
      have i1 : ((1 : Int) : Rat) = 1 := rfl
      rw [i1]
      grind
    · have a1 := n1_trim (comb 1 t 1 q)
      have a2 := n1_comb 1 t 1 q
      have a3 := Nat.le_trans tn (Nat.mul_le_mul_right (n1 h) no)
      have : (1 : Int).natAbs = 1 := rfl
      rw [this] at a2
      omega
    · have a1 := trim_len (comb 1 t 1 q)
      rw [comb_len] at a1
      omega
  rcases hD with rfl | rfl
  · refine st_seq (st_asg (ev_tup (ea_cons (ev_callP (ea_cons (ev_op (ev_var rfl (ev_int (rok_ixsT (d := frD d.W) rfl (ea_cons (ev_var rfl (ea_nil ⟨⟨d.W, s, rfl, fW, dW, s0, w1, s1⟩, fun r ⟨x, s', w, e, ed, wv, wb⟩ => ?_⟩))))))))))))
    obtain ⟨rfl, rfl⟩ := inj e
    subst ed
    refine ea_cons (ev_un (ev_callP (ea_cons (ev_op (ev_var rfl (ev_int (rok_ixsT (d := frD d.J) rfl (ea_cons (ev_var rfl (ea_nil ⟨⟨d.J, s, rfl, fJ, dJ, s0, j1, s1⟩, fun r ⟨x, s', j, e, ed, jv, jb⟩ => ?_⟩))))))))))
    obtain ⟨rfl, rfl⟩ := inj e
    subst ed
    exact uok_neg (ea_nil ⟨by simp, st_ret (rest w j wv jv wb jb rfl rfl rfl)⟩)
  · refine st_seq (st_asg (ev_tup (ea_cons (ev_callP (ea_cons (ev_op (ev_var rfl (ev_int (rok_ixsT (d := frD d.W) rfl (ea_cons (ev_var rfl (ea_nil ⟨⟨d.W, s, rfl, fW, dW, s0, w1, s1⟩, fun r ⟨x, s', w, e, ed, wv, wb⟩ => ?_⟩))))))))))))
    obtain ⟨rfl, rfl⟩ := inj e
    subst ed
    refine ea_cons (ev_un (ev_callP (ea_cons (ev_op (ev_var rfl (ev_int (rok_ixsT (d := frD d.J) rfl (ea_cons (ev_var rfl (ea_nil ⟨⟨d.J, s, rfl, fJ, dJ, s0, j1, s1⟩, fun r ⟨x, s', j, e, ed, jv, jb⟩ => ?_⟩))))))))))
    obtain ⟨rfl, rfl⟩ := inj e
    subst ed
    exact uok_neg (ea_nil ⟨by simp, st_ret (rest w j wv jv wb jb rfl rfl rfl)⟩)
theorem ok_free_part (T : Tx K mg) : FnOk P w K mg base CX0 3 T.a_free_part T.d_free_part p_free_part (sp_free_part K) := by
  refine T.F_free_part.ok sc_free_part (fun vs H Q E h => len_free_part K vs H Q E h) (fun cdv A outer s H vs Q E hr h => ?_)
  exact ⟨t_free_part K, (pss_cons (ps_set (i := 4) sc_free_part.nd rfl (Or.inl rfl) (pe_tup (pa_cons (pe_call (ok_times_scale T) (hr.mono (by decide)) rfl T.g_times_scale T.F_times_scale.kp (b_times_scale T) .nil pass0 (pa_cons (pe_ix ix_seq (pv 0) pe_int (fun _ _ => rfl)) (pa_cons (pv 1) pa_nil))) (pa_cons (pe_un un_neg (pe_call (ok_times_scale T) (hr.mono (by decide)) rfl T.g_times_scale T.F_times_scale.kp (b_times_scale T) .nil pass0 (pa_cons (pe_ix ix_seq (pv 0) pe_int (fun _ _ => rfl)) (pa_cons (pv 1) pa_nil)))) pa_nil))))
  (pss_one (ps_ret (pe_call (ok_blend T) (hr.mono (by decide)) rfl T.g_blend T.F_blend.kp (b_blend T) .nil pass0 (pa_cons (pe_call (ok_product_of T) (hr.mono (by decide)) rfl T.g_product_of T.F_product_of.kp (b_product_of T) .nil pass0 (pa_cons (pv 4) (pa_cons (pv 2) pa_nil))) (pa_cons pe_int (pa_cons (pv 3) (pa_cons pe_int pa_nil)))))))), pure_free_part K vs H Q E h⟩
/-! ### root_parts -/
theorem pow_size {B n : Nat} (h : (33 * B + 5) * n ≤ 3900) : (16 * 2 ^ (33 * B + 1)) ^ n < 2 ^ 3901 := by
  have e : 16 * 2 ^ (33 * B + 1) = 2 ^ (33 * B + 5) := by
    rw [show 33 * B + 5 = 4 + (33 * B + 1) by omega]
    generalize 33 * B + 1 = k
    rw [Nat.pow_add]
  rw [e, ← Nat.pow_mul]
  exact Nat.lt_of_le_of_lt (Nat.pow_le_pow_right (by decide) h) (Nat.pow_lt_pow_right (by decide) (by decide))
theorem bl_inj {u v p q : List Int} {a b c d : Int} (e : [rowD u, .int a, rowD v, .int b] = [rowD p, .int c, rowD q, .int d]) : u = p ∧ a = c ∧ v = q ∧ b = d := by
  simp only [List.cons.injEq, and_true, rowD, PyData.tuple.injEq, PyData.int.injEq] at e
  exact ⟨map_int_inj e.1, e.2.1, map_int_inj e.2.2.1, e.2.2.2⟩
theorem pr_inj {a b c e : List Int} (h : [rowD a, rowD b] = [rowD c, rowD e]) : a = c ∧ b = e := by
  simp only [List.cons.injEq, and_true, rowD, PyData.tuple.injEq] at h
  exact ⟨map_int_inj h.1, map_int_inj h.2⟩
theorem ts_inj {a b : Fr} {s t : Int} (e : [frD a, PyData.int s] = [frD b, .int t]) : a = b ∧ s = t := by
  simp only [List.cons.injEq, and_true, PyData.int.injEq] at e
  exact ⟨frD_inj e.1, e.2⟩

def pre_root_parts : List PyData → Prop := fun ds => ∃ (m : List Ds) (B : Nat), ds = [machD m] ∧ Mach m B ∧ B ≤ 29 ∧ (33 * B + 5) * m.length ≤ 3900
def post_root_parts : List PyData → PyData → Prop := fun ds r => ∃ (m : List Ds) (h t : List Int), ds = [machD m] ∧ Rt m ∧ r = .tuple [rowD h, rowD t] ∧ RootOk m h t
abbrev sp_root_parts (K : PySem.W.Frag) : Sp := SpP K pre_root_parts post_root_parts
theorem len_root_parts (K : PySem.W.Frag) (vs : List V) (H : Hp) (Q : VK) (E : XK) (h : sp_root_parts K vs H Q E) : vs.length = p_root_parts.length := len_P (n := 1) h fun ds hp => by
  obtain ⟨m, B, e, h, hB, hU0⟩ := hp
  rw [e]; rfl
def t_root_parts (K : PySem.W.Frag) : TS :=
  (tSeq (tAsg (tCall (sp_row_scales K) [] E0 (tCons (tVar 0) tNil)) (gName 1))
  (tSeq (tAsg (tLc (iTup K (tVar 0)) (gName 2) tYes (tTup (tCons (tC (.int 1)) tNil)) [2]) (gName 3))
  (tSeq (tAsg (tLc (iTup K (tVar 0)) (gName 2) tYes (tTup tNil) [2]) (gName 4))
  (tSeq (tFor (iRng3 (tCons (tOp (rI0 fun i j => .int (i - j)) (tCB (rLenQ K) (tCons (tVar 0) tNil)) (tC (.int 1))) (tCons (tC (.int 0)) (tCons (tUn (rU fun i => .int (-i)) (tC (.int 1))) tNil)))) (gName 5) (tSeq (tAsg (tOp (rIx K) (tVar 0) (tVar 5)) (gName 6))
  (tSeq (tAsg (tCall (sp_shaft_of K) [] E0 (tCons (tVar 6) tNil)) (gTup K 3 (gCons (gName 7) (gCons (gName 8) (gCons (gName 2) gNil)))))
  (tSeq (tAsg (tCall (sp_free_part K) [] E0 (tCons (tVar 6) (tCons (tOp (rIx K) (tVar 1) (tVar 5)) (tCons (tOp (rIx K) (tVar 3) (tVar 5)) (tCons (tOp (rIx K) (tVar 4) (tVar 5)) tNil))))) (gName 9))
  (tSeq (tAsg (tCall (sp_blend K) [] E0 (tCons (tVar 9) (tCons (tC (.int 1)) (tCons (tOp (rIx K) (tVar 3) (tVar 5)) (tCons (tCall (sp_times_scale K) [] E0 (tCons (tVar 8) (tCons (tOp (rIx K) (tVar 1) (tVar 5)) tNil))) tNil))))) (gName 10))
  (tSeq (tAsg (tCall (sp_times_scale K) [] E0 (tCons (tCall (sp_pull_of K) [] E0 (tCons (tVar 6) tNil)) (tCons (tOp (rIx K) (tVar 1) (tVar 7)) tNil))) (gName 11))
  (tSeq (tAsg (tCall (sp_product_of K) [] E0 (tCons (tVar 9) (tCons (tOp (rIx K) (tVar 3) (tVar 7)) tNil))) (gName 12))
  (tSeq (tAsg (tCall (sp_blend K) [] E0 (tCons (tCall (sp_product_of K) [] E0 (tCons (tOp (rIx K) (tVar 4) (tVar 7)) (tCons (tVar 10) tNil))) (tCons (tC (.int 1)) (tCons (tVar 12) (tCons (tVar 11) tNil))))) (gSub (tVar 4) (tVar 7) rSetL))
  (tAsg (tCall (sp_product_of K) [] E0 (tCons (tOp (rIx K) (tVar 3) (tVar 7)) (tCons (tVar 10) tNil))) (gSub (tVar 3) (tVar 7) rSetL))))))))))
  (tRet (tTup (tCons (tOp (rIx K) (tVar 3) (tC (.int 0))) (tCons (tCall (sp_free_part K) [] E0 (tCons (tOp (rIx K) (tVar 0) (tC (.int 0))) (tCons (tOp (rIx K) (tVar 1) (tC (.int 0))) (tCons (tOp (rIx K) (tVar 3) (tC (.int 0))) (tCons (tOp (rIx K) (tVar 4) (tC (.int 0))) tNil))))) tNil))))))))
theorem pure_root_parts (K : PySem.W.Frag) (vs : List V) (H : Hp) (Q : VK) (E : XK) (h : sp_root_parts K vs H Q E) : t_root_parts K { nx := fun _ H' => Q .non H', rt := Q } (L2.start N_root_parts vs) H := body_P h fun B ds hW hp => by
  obtain ⟨m, B, e, h, hB, hU0⟩ := hp
  subst e
  unfold t_root_parts
  have n1_ := h.n1
  have n8 := h.n8
  have hU := pow_size hU0
  have RS := rs_full h
  have X0 : 0 < 2 ^ (33 * B + 1) := Nat.two_pow_pos _
  have sb : ∀ k, ((rsL m).getD k 1).natAbs < 2 ^ (30 * B + 1) := fun k => by
    refine pow_up (RS.bd k) ?_
    have : B * (m.length - 1) ≤ B * 7 := Nat.mul_le_mul_left _ (by omega)
    have : 4 * B * (m.length - 1) = 4 * (B * (m.length - 1)) := Nat.mul_assoc ..
    omega
  have s1000 : ∀ k, ((rsL m).getD k 1).natAbs < 2 ^ 1000 := fun k => pow_up (sb k) (by omega)
  have szX : ∀ {x : Fr} {b : Nat} (k : Nat), x.1.natAbs < 2 ^ b → b ≤ 3 * B → x.1.natAbs * ((rsL m).getD k 1).natAbs ≤ 2 ^ (33 * B + 1) := fun {x b} k h1 h2 => by
    have e : 33 * B + 1 = 3 * B + (30 * B + 1) := by omega
    rw [e, Nat.pow_add]
    exact Nat.mul_le_mul (Nat.le_of_lt (pow_up h1 h2)) (Nat.le_of_lt (sb k))
  have up_ : ∀ {a : Nat}, a < 2 ^ 3901 → a < 2 ^ 4000 := fun h => pow_up h (by decide)
  refine st_seq (st_asg (ev_callP (ea_cons (ev_var rfl (ea_nil ⟨⟨m, B, rfl, h, by omega⟩, fun r ⟨m2, e, hr, ed⟩ => ?_⟩)))))
  obtain rfl := machD_inj (List.cons.inj e).1 h.rt hr
  subst ed
  refine st_seq (st_own (en_lcT (wipe1 2) (ev_var rfl ⟨_, rfl, by rw [machL_len]; omega, fun i acc => acc = (List.replicate i [1]).map rowD, ⟨rfl, fun i D d' acc hi hJ hin => et_yes ⟨fun _ => ev_tup (ea_cons (ev_int (ea_nil ⟨by simp, ?_⟩))), fun z => nomatch z⟩⟩, fun acc hJ l1 => ?_⟩)))
  · show acc ++ [_] = (List.replicate (i + 1) [1]).map rowD
    rw [hJ, List.replicate_succ', List.map_append]
    rfl
  rw [machL_len] at hJ
  subst hJ
  refine st_seq (st_own (en_lcT (wipe1 2) (ev_var rfl ⟨_, rfl, by rw [machL_len]; omega, fun i acc => acc = (List.replicate i []).map rowD, ⟨rfl, fun i D d' acc hi hJ hin => et_yes ⟨fun _ => ev_tup (ea_nil ⟨by simp, ?_⟩), fun z => nomatch z⟩⟩, fun acc hJ l2 => ?_⟩)))
  · show acc ++ [_] = (List.replicate (i + 1) []).map rowD
    rw [hJ, List.replicate_succ', List.map_append]
    rfl
  rw [machL_len] at hJ
  subst hJ
  refine st_seq (st_forRd (ea_cons (ev_op (ev_cb (ea_cons (ev_var rfl (ea_nil (co_lenT (ev_int (rok_i0 ?_))))))))))
  rw [machL_len]
  refine ea_cons (ev_int (ea_cons (ev_un (ev_int (uok_neg (ea_nil ⟨(m.length : Int) - 1, 0, rfl, by omega, by omega, by omega, by omega, fun i L2 Γ2 => ∃ (hs qs : List (List Int)) (a : List Nat) (s2 s5 s6 s7 s8 s9 s10 s11 s12 : Sl), L2 = [l2, l1] ∧ Γ2 = [.d (machD m), .d (.list ((rsL m).map .int)), s2, .own l1 (hs.map rowD), .own l2 (qs.map rowD), s5, s6, s7, s8, s9, s10, s11, s12] ∧ RInv (scM (mq m) (rsR m)) (2 ^ (33 * B + 1)) i hs qs a, ⟨_, _, _, _, _, _, _, _, _, _, _, _, rfl, rfl, rinv0 _ _⟩, ?_, ?_⟩))))))
  · rintro i L2 Γ2 hi ⟨hs, qs, a, s2, s5, s6, s7, s8, s9, s10, s11, s12, rfl, rfl, I⟩
    have hi2 : i + 1 < m.length := by omega
    rw [show (m.length : Int) - 1 - (i : Int) = ((m.length - (i + 1) : Nat) : Int) by omega]
    generalize hc : m.length - (i + 1) = c at *
    have c0 : 0 < c := by omega
    have cn : c < m.length := by omega
    have dk := h.dk c
    have pl := h.par c c0 cn
    obtain ⟨pf, pv, p1, p2⟩ := dk.pull
    have mat : atI (machL m) (c : Int) = some (discD (m.getD c d0)) := by rw [atI_n, machL_disc c0 cn]
    have ls : c < (rsL m).length := by rw [RS.len]; exact cn
    have ls2 : (m.getD c d0).p < (rsL m).length := by rw [RS.len]; omega
    have lh : c < hs.length := by rw [I.lh]; exact cn
    have lq : c < qs.length := by rw [I.lq]; exact cn
    have lh2 : (m.getD c d0).p < hs.length := by rw [I.lh]; exact Nat.lt_trans pl cn
    have lq2 : (m.getD c d0).p < qs.length := by rw [I.lq]; exact Nat.lt_trans pl cn
    have le : ∀ k, k ≤ c → a.getD k 0 ≤ i := fun k hk => rinv_le I (show k + i < m.length by omega)
    have gh := fun k (hk : k ≤ c) => Nat.le_trans (I.gh k (show k < m.length by omega)) (Nat.succ_le_succ (le k hk))
    have gq := fun k (hk : k ≤ c) => Nat.le_trans (I.gq k (show k < m.length by omega)) (Nat.succ_le_succ (le k hk))
    obtain ⟨z1, z2, z3, z4, z5, zt⟩ := rinv_sizes X0 I hi2 hU hc.symm pl
    have gh1 := gh c (Nat.le_refl _)
    have gq1 := gq c (Nat.le_refl _)
    have gh2 := gh (m.getD c d0).p (by omega)
    have gq2 := gq (m.getD c d0).p (by omega)
    have wj := Nat.add_le_add (szX c dk.W.b1 (by omega)) (szX c dk.J.b1 (by omega))
    refine st_seq (st_asg (ev_op (ev_var rfl (ev_var rfl (rok_ixsT mat ?_)))))
    refine st_seq (st_unpack (ev_callP (ea_cons (ev_var rfl (ea_nil ⟨⟨_, rfl⟩, fun r ⟨d2, e, ed⟩ => ?_⟩)))))
    obtain rfl := disc1 e
    subst ed
    refine ⟨_, rfl, rfl, tg_cons (tg_cons (tg_cons (tg_nil ?_)))⟩
    refine st_seq (st_asg (ev_callP (ea_cons (ev_var rfl (ea_cons (ev_op (ev_var rfl (ev_var rfl (rok_ixsL (ints_at ls 1) (ea_cons (ev_ixOwn rfl (ev_var rfl ⟨_, _, rfl, rows_at lh, ea_cons (ev_ixOwn rfl (ev_var rfl ⟨_, _, rfl, rows_at lq, ea_nil ⟨⟨m.getD c d0, _, _, _, _, rfl, .inr rfl, dk.J.ok, dk.W.ok, RS.J c cn, RS.W c cn, RS.pos c, pow_up dk.J.b1 (by omega), pow_up dk.W.b1 (by omega), s1000 c, by omega, by omega, up_ z2, Nat.lt_of_le_of_lt (Nat.mul_le_mul_right _ wj) (by rw [← Nat.two_mul]; exact up_ z1), up_ z3⟩, fun r ⟨D, s, hh, q, t, e, ed, fr⟩ => ?_⟩⟩))⟩))))))))))))
    have e2 : discD (m.getD c d0) = D ∧ (rsL m).getD c 1 = s ∧ hs.getD c [] = hh ∧ qs.getD c [] = q := by
      simp only [List.cons.injEq, and_true, rowD, PyData.tuple.injEq, PyData.int.injEq] at e
      exact ⟨e.1, e.2.1, map_int_inj e.2.2.1, map_int_inj e.2.2.2⟩
    obtain ⟨rfl, rfl, rfl, rfl⟩ := e2
    subst ed
    obtain ⟨tv, tn, tl, _⟩ := fr _ (.inr rfl)
    have tn' := Nat.le_trans tn (Nat.add_le_add_right (Nat.mul_le_mul_right _ wj) _)
    rw [← Nat.two_mul] at tn'
    obtain ⟨t1, t2, ts⟩ := zt t tn'
    have tl2 : t.length ≤ i + 2 := by omega
    have XB : 2 ^ (33 * B + 1) < 2 ^ 4000 := Nat.pow_lt_pow_right (by decide) (by omega)
    have one : (1 : Int).natAbs < 2 ^ 4000 := Nat.one_lt_two_pow (by decide)
    refine st_seq (st_asg (ev_callP (ea_cons (ev_var rfl (ea_cons (ev_int (ea_cons (ev_ixOwn rfl (ev_var rfl ⟨_, _, rfl, rows_at lh, ea_cons (ev_callP (ea_cons (ev_var rfl (ea_cons (ev_op (ev_var rfl (ev_var rfl (rok_ixsL (ints_at ls 1) (ea_nil ⟨⟨(m.getD c d0).K, _, rfl, dk.K.ok, RS.K c c0 (by omega) cn, RS.pos c, pow_up dk.K.b1 (by omega), s1000 c⟩, fun r ⟨x, s, k, e, ed, kv, kb⟩ => ?_⟩)))))))))⟩)))))))))
    obtain ⟨rfl, rfl⟩ := ts_inj e
    subst ed
    have kX := Nat.le_trans kb (szX c dk.K.b1 (by omega))
    refine ea_nil ⟨⟨t, _, 1, k, rfl, by omega, by omega, one, Nat.lt_of_le_of_lt kX XB, n1_bd (up_ t1), n1_bd (up_ z2)⟩, fun r ⟨u, v, a', b', e, ed⟩ => ?_⟩
    obtain ⟨rfl, rfl, rfl, rfl⟩ := bl_inj e
    subst ed
    have shv : ∀ x, pI (trim (comb 1 t k (hs.getD c []))) x = pI t x + (scM (mq m) (rsR m)).K c * pI (hs.getD c []) x := fun x => by
      rw [pI_trim, pI_comb, kv]
      have i1 : ((1 : Int) : Rat) = 1 := rfl
      rw [i1, Rat.one_mul]
      rfl
    have shn : n1 (trim (comb 1 t k (hs.getD c []))) ≤ n1 t + 2 ^ (33 * B + 1) * n1 (hs.getD c []) := by
      have a1 := n1_trim (comb 1 t k (hs.getD c []))
      have a2 := n1_comb 1 t k (hs.getD c [])
      have a3 := Nat.mul_le_mul_right (n1 (hs.getD c [])) kX
      have : (1 : Int).natAbs = 1 := rfl
      rw [this, Nat.one_mul] at a2
      omega
    have shl : (trim (comb 1 t k (hs.getD c []))).length ≤ max t.length (hs.getD c []).length := by
      have a1 := trim_len (comb 1 t k (hs.getD c []))
      rw [comb_len] at a1
      exact a1
    obtain ⟨y1, y2⟩ := ts _ shn
    generalize trim (comb 1 t k (hs.getD c [])) = sh at *
    refine st_seq (st_asg (ev_callP (ea_cons (ev_callP (ea_cons (ev_var rfl (ea_nil ⟨⟨_, B, rfl, dk, by omega⟩, fun r ⟨d2, e, ed⟩ => ?_⟩)))))))
    obtain rfl := disc1 e
    subst ed
    refine ea_cons (ev_op (ev_var rfl (ev_var rfl (rok_ixsL (ints_at ls2 1) (ea_nil ⟨⟨pullF _, _, rfl, pf, RS.Q c c0 (by omega) cn, RS.pos _, pow_up p1 (by omega), s1000 _⟩, fun r ⟨x, s, g', e, ed, gv, gb⟩ => ?_⟩)))))
    obtain ⟨rfl, rfl⟩ := ts_inj e
    subst ed
    have gX := Nat.le_trans gb (szX (m.getD c d0).p p1 (Nat.le_refl _))
    refine st_seq (st_asg (ev_callP (ea_cons (ev_var rfl (ea_cons (ev_ixOwn rfl (ev_var rfl ⟨_, _, rfl, rows_at lh2, ea_nil ⟨⟨t, _, 3901, 3901, rfl, by omega, by omega, t1, z4, by decide, by decide⟩, fun r ⟨u, v, ad, e, ed, av, an, al⟩ => ?_⟩⟩)))))))
    obtain ⟨rfl, rfl⟩ := pr_inj e
    subst ed
    refine st_seq (st_setOwn rfl (ev_callP (ea_cons (ev_callP (ea_cons (ev_ixOwn rfl (ev_var rfl ⟨_, _, rfl, rows_at lq2, ea_cons (ev_var rfl (ea_nil ⟨⟨_, sh, 3901, 3901, rfl, by omega, by omega, z5, y1, by decide, by decide⟩, fun r ⟨u, v, pq, e, ed, pv', pn, pl'⟩ => ?_⟩))⟩)))))))
    obtain ⟨rfl, rfl⟩ := pr_inj e
    subst ed
    refine ea_cons (ev_int (ea_cons (ev_var rfl (ea_cons (ev_var rfl (ea_nil ⟨⟨pq, ad, 1, g', rfl, by omega, by omega, one, Nat.lt_of_le_of_lt gX XB, n1_bd (up_ (Nat.lt_of_le_of_lt pn y2)), n1_bd (up_ (Nat.lt_of_le_of_lt an t2))⟩, fun r ⟨u, v, a', b', e, ed⟩ => ?_⟩))))))
    obtain ⟨rfl, rfl, rfl, rfl⟩ := bl_inj e
    subst ed
    refine ev_var rfl ⟨_, rfl, by rw [List.length_map]; exact lq2, ?_⟩
    refine st_setOwn rfl (ev_callP (ea_cons (ev_ixOwn rfl (ev_var rfl ⟨_, _, rfl, rows_at lh2, ea_cons (ev_var rfl (ea_nil ⟨⟨_, sh, 3901, 3901, rfl, by omega, by omega, z4, y1, by decide, by decide⟩, fun r ⟨u, v, nh, e, ed, hv', hn', hl'⟩ => ?_⟩))⟩))))
    obtain ⟨rfl, rfl⟩ := pr_inj e
    subst ed
    refine ev_var rfl ⟨_, rfl, by rw [List.length_map]; exact lh2, hs.set (m.getD c d0).p nh, qs.set (m.getD c d0).p (trim (comb 1 pq g' ad)), a.set (m.getD c d0).p (a.getD (m.getD c d0).p 0 + a.getD c 0 + 1), .d (frD (m.getD c d0).R), .d (.int (c : Int)), .d (discD (m.getD c d0)), .d (.int ((m.getD c d0).p : Int)), .d (frD (m.getD c d0).K), .d (rowD t), .d (rowD sh), .d (.int g'), .d (rowD ad), rfl, by rw [List.map_set, List.map_set]; rfl, ?_⟩
    refine rinv_step X0 I hi2 hc.symm rfl pl (t := t) (sh := sh) (fun x => ?_) tn' tl shv shn shl (fun x => ?_) ?_ ?_ hv' hn' hl'
    · rw [tv x]
      rfl
    · rw [pI_trim, pI_comb, pv', av, gv, pv]
      have i1 : ((1 : Int) : Rat) = 1 := rfl
      rw [i1, Rat.one_mul]
      rfl
    · have a1 := n1_trim (comb 1 pq g' ad)
      have a2 := n1_comb 1 pq g' ad
      have a3 := Nat.mul_le_mul gX an
      have : (1 : Int).natAbs = 1 := rfl
      rw [this, Nat.one_mul] at a2
      exact Nat.le_trans a1 (Nat.le_trans a2 (Nat.add_le_add pn a3))
    · have a1 := trim_len (comb 1 pq g' ad)
      rw [comb_len] at a1
      exact Nat.le_trans a1 (Nat.max_le.mpr ⟨Nat.le_trans pl' (Nat.le_max_left _ _), Nat.le_trans al (Nat.le_max_right _ _)⟩)
  · rintro L2 Γ2 ⟨hs, qs, a, s2, s5, s6, s7, s8, s9, s10, s11, s12, rfl, rfl, I⟩
    rw [show ((m.length : Int) - 1 - 0).toNat = m.length - 1 by omega] at I
    obtain ⟨w1, w2, w3, w4, w5, w6, w7⟩ := rinv_end X0 n1_ I hU
    have w4' : (hs.getD 0 []).length ≤ m.length := w4
    have w5' : (qs.getD 0 []).length ≤ m.length := w5
    have dk := h.dk 0
    have ls : 0 < (rsL m).length := by rw [RS.len]; omega
    have lh : 0 < hs.length := by rw [I.lh]; exact n1_
    have lq : 0 < qs.length := by rw [I.lq]; exact n1_
    have mat : atI (machL m) 0 = some (rootD (m.getD 0 d0)) := by
      have := atI_n (machL m) 0
      rw [machL_root n1_] at this
      exact this
    have wj := Nat.add_le_add (szX 0 dk.W.b1 (by omega)) (szX 0 dk.J.b1 (by omega))
    have z0 : atI (hs.map rowD) 0 = some (rowD (hs.getD 0 [])) := rows_at lh
    have zq : atI (qs.map rowD) 0 = some (rowD (qs.getD 0 [])) := rows_at lq
    have zs : atI ((rsL m).map PyData.int) 0 = some (.int ((rsL m).getD 0 1)) := ints_at ls 1
    refine st_ret (ev_tup (ea_cons (ev_ixOwn rfl (ev_int ⟨_, _, rfl, z0, ?_⟩))))
    refine ea_cons (ev_callP (ea_cons (ev_op (ev_var rfl (ev_int (rok_ixsT mat (ea_cons (ev_op (ev_var rfl (ev_int (rok_ixsL zs (ea_cons (ev_ixOwn rfl (ev_int ⟨_, _, rfl, z0, ea_cons (ev_ixOwn rfl (ev_int ⟨_, _, rfl, zq, ea_nil ⟨⟨m.getD 0 d0, _, _, _, _, rfl, .inl rfl, dk.J.ok, dk.W.ok, RS.J 0 n1_, RS.W 0 n1_, RS.pos 0, pow_up dk.J.b1 (by omega), pow_up dk.W.b1 (by omega), s1000 0, by omega, by omega, up_ w1, Nat.lt_of_le_of_lt (Nat.mul_le_mul_right _ wj) (by rw [← Nat.two_mul]; exact up_ w2), up_ w3⟩, fun r ⟨D, s, hh, q, t, e, ed, fr⟩ => ?_⟩⟩))⟩))))))))))))))
    have e2 : rootD (m.getD 0 d0) = D ∧ (rsL m).getD 0 1 = s ∧ hs.getD 0 [] = hh ∧ qs.getD 0 [] = q := by
      simp only [List.cons.injEq, and_true, rowD, PyData.tuple.injEq, PyData.int.injEq] at e
      exact ⟨e.1, e.2.1, map_int_inj e.2.2.1, map_int_inj e.2.2.2⟩
    obtain ⟨rfl, rfl, rfl, rfl⟩ := e2
    subst ed
    obtain ⟨tv, tn, tl, tt⟩ := fr _ (.inl rfl)
    have tn' := Nat.le_trans tn (Nat.add_le_add_right (Nat.mul_le_mul_right _ wj) _)
    rw [← Nat.two_mul] at tn'
    refine ea_nil ⟨by simp, m, _, t, rfl, h.rt, rfl, fun x => (w7 x).1, fun x => ?_, w1, w6 t tn', by omega, by omega, tt⟩
    rw [(w7 x).2, tv x]
    rfl
theorem ok_root_parts (T : Tx K mg) : FnOk P w K mg base CX0 5 T.a_root_parts T.d_root_parts p_root_parts (sp_root_parts K) := by
  refine T.F_root_parts.ok sc_root_parts (fun vs H Q E h => len_root_parts K vs H Q E h) (fun cdv A outer s H vs Q E hr h => ?_)
  exact ⟨t_root_parts K, (pss_cons (ps_set (i := 1) sc_root_parts.nd rfl (Or.inl rfl) (pe_call (ok_row_scales T) (hr.mono (by decide)) rfl T.g_row_scales T.F_row_scales.kp (b_row_scales T) .nil pass0 (pa_cons (pv 0) pa_nil)))
  (pss_cons (ps_setLc (i := 3) (own := [("_", 2)]) (by rfl) sc_root_parts.nd rfl rfl (sw_true rfl rfl rfl (by decide +kernel)) (pi_tup (pv 0)) (blkOk_by (own := [("_", 2)]) (N := N_root_parts) (sc := defScope s_root_parts) (by decide +kernel)) (fun _ _ _ _ _ => pg_name (i := 2) sc_root_parts.nd rfl (Or.inl rfl)) (fun _ _ _ _ _ => pts_nil) (fun _ _ _ _ _ => (pe_tup (pa_cons pe_int pa_nil))))
  (pss_cons (ps_setLc (i := 4) (own := [("_", 2)]) (by rfl) sc_root_parts.nd rfl rfl (sw_true rfl rfl rfl (by decide +kernel)) (pi_tup (pv 0)) (blkOk_by (own := [("_", 2)]) (N := N_root_parts) (sc := defScope s_root_parts) (by decide +kernel)) (fun _ _ _ _ _ => pg_name (i := 2) sc_root_parts.nd rfl (Or.inl rfl)) (fun _ _ _ _ _ => pts_nil) (fun _ _ _ _ _ => (pe_tup pa_nil)))
  (pss_cons (ps_for PassesOwn.never rfl (pi_range3 (by rfl) T.n_range (pa_cons (pe_op op_sub (pe_callB call_len_seq (by rfl) T.n_len (by decide +kernel) (pa_cons (pv 0) pa_nil)) pe_int) (pa_cons pe_int (pa_cons (pe_un un_neg pe_int) pa_nil)))) (pg_name (i := 5) sc_root_parts.nd rfl (Or.inl rfl)) (pss_cons (ps_set (i := 6) sc_root_parts.nd rfl (Or.inl rfl) (pe_ix ix_seq (pv 0) (pv 5) (fun _ _ => rfl)))
  (pss_cons (ps_asg (pe_call (ok_shaft_of T) (hr.mono (by decide)) rfl T.g_shaft_of T.F_shaft_of.kp (b_shaft_of T) .nil pass0 (pa_cons (pv 6) pa_nil)) (pg_tup (by rfl) (pgs_cons (pg_name (i := 7) sc_root_parts.nd rfl (Or.inl rfl)) (pgs_cons (pg_name (i := 8) sc_root_parts.nd rfl (Or.inl rfl)) (pgs_cons (pg_name (i := 2) sc_root_parts.nd rfl (Or.inl rfl)) pgs_nil)))))
  (pss_cons (ps_set (i := 9) sc_root_parts.nd rfl (Or.inl rfl) (pe_call (ok_free_part T) (hr.mono (by decide)) rfl T.g_free_part T.F_free_part.kp (b_free_part T) .nil pass0 (pa_cons (pv 6) (pa_cons (pe_ix ix_seq (pv 1) (pv 5) (fun _ _ => rfl)) (pa_cons (pe_ix ix_seq (pv 3) (pv 5) (fun _ _ => rfl)) (pa_cons (pe_ix ix_seq (pv 4) (pv 5) (fun _ _ => rfl)) pa_nil))))))
  (pss_cons (ps_set (i := 10) sc_root_parts.nd rfl (Or.inl rfl) (pe_call (ok_blend T) (hr.mono (by decide)) rfl T.g_blend T.F_blend.kp (b_blend T) .nil pass0 (pa_cons (pv 9) (pa_cons pe_int (pa_cons (pe_ix ix_seq (pv 3) (pv 5) (fun _ _ => rfl)) (pa_cons (pe_call (ok_times_scale T) (hr.mono (by decide)) rfl T.g_times_scale T.F_times_scale.kp (b_times_scale T) .nil pass0 (pa_cons (pv 8) (pa_cons (pe_ix ix_seq (pv 1) (pv 5) (fun _ _ => rfl)) pa_nil))) pa_nil))))))
  (pss_cons (ps_set (i := 11) sc_root_parts.nd rfl (Or.inl rfl) (pe_call (ok_times_scale T) (hr.mono (by decide)) rfl T.g_times_scale T.F_times_scale.kp (b_times_scale T) .nil pass0 (pa_cons (pe_call (ok_pull_of T) (hr.mono (by decide)) rfl T.g_pull_of T.F_pull_of.kp (b_pull_of T) .nil pass0 (pa_cons (pv 6) pa_nil)) (pa_cons (pe_ix ix_seq (pv 1) (pv 7) (fun _ _ => rfl)) pa_nil))))
  (pss_cons (ps_set (i := 12) sc_root_parts.nd rfl (Or.inl rfl) (pe_call (ok_product_of T) (hr.mono (by decide)) rfl T.g_product_of T.F_product_of.kp (b_product_of T) .nil pass0 (pa_cons (pv 9) (pa_cons (pe_ix ix_seq (pv 3) (pv 7) (fun _ _ => rfl)) pa_nil))))
  (pss_cons (ps_asg (pe_call (ok_blend T) (hr.mono (by decide)) rfl T.g_blend T.F_blend.kp (b_blend T) .nil pass0 (pa_cons (pe_call (ok_product_of T) (hr.mono (by decide)) rfl T.g_product_of T.F_product_of.kp (b_product_of T) .nil pass0 (pa_cons (pe_ix ix_seq (pv 4) (pv 7) (fun _ _ => rfl)) (pa_cons (pv 10) pa_nil))) (pa_cons pe_int (pa_cons (pv 12) (pa_cons (pv 11) pa_nil))))) (pg_sub (pv 4) (pv 7) set_list))
  (pss_one (ps_asg (pe_call (ok_product_of T) (hr.mono (by decide)) rfl T.g_product_of T.F_product_of.kp (b_product_of T) .nil pass0 (pa_cons (pe_ix ix_seq (pv 3) (pv 7) (fun _ _ => rfl)) (pa_cons (pv 10) pa_nil))) (pg_sub (pv 3) (pv 7) set_list)))))))))))
  (pss_one (ps_ret (pe_tup (pa_cons (pe_ix ix_seq (pv 3) pe_int (fun _ _ => rfl)) (pa_cons (pe_call (ok_free_part T) (hr.mono (by decide)) rfl T.g_free_part T.F_free_part.kp (b_free_part T) .nil pass0 (pa_cons (pe_ix ix_seq (pv 0) pe_int (fun _ _ => rfl)) (pa_cons (pe_ix ix_seq (pv 1) pe_int (fun _ _ => rfl)) (pa_cons (pe_ix ix_seq (pv 3) pe_int (fun _ _ => rfl)) (pa_cons (pe_ix ix_seq (pv 4) pe_int (fun _ _ => rfl)) pa_nil))))) pa_nil))))))))), pure_root_parts K vs H Q E h⟩
/-! ### end_of_machine -/

def pre_end_of_machine : List PyData → Prop := fun ds => ∃ (m : List Ds) (B : Nat), ds = [machD m] ∧ Mach m B ∧ B ≤ 29 ∧ (33 * B + 5) * m.length ≤ 3900
def post_end_of_machine : List PyData → PyData → Prop := fun ds r => ∃ (m : List Ds) (u : List Int), ds = [machD m] ∧ Rt m ∧ r = rowD u ∧ EndOk m u
abbrev sp_end_of_machine (K : PySem.W.Frag) : Sp := SpP K pre_end_of_machine post_end_of_machine
theorem len_end_of_machine (K : PySem.W.Frag) (vs : List V) (H : Hp) (Q : VK) (E : XK) (h : sp_end_of_machine K vs H Q E) : vs.length = p_end_of_machine.length := len_P (n := 1) h fun ds hp => by
  obtain ⟨m, B, e, h, hB, hU⟩ := hp
  rw [e]; rfl
def t_end_of_machine (K : PySem.W.Frag) : TS :=
  (tRet (tCall (sp_thinned K) [] E0 (tCons (tOp (rIx K) (tCall (sp_root_parts K) [] E0 (tCons (tVar 0) tNil)) (tC (.int 1))) tNil)))
theorem pure_end_of_machine (K : PySem.W.Frag) (vs : List V) (H : Hp) (Q : VK) (E : XK) (h : sp_end_of_machine K vs H Q E) : t_end_of_machine K { nx := fun _ H' => Q .non H', rt := Q } (L2.start N_end_of_machine vs) H := body_P h fun B ds hW hp => by
  obtain ⟨m, B, e, h, hB, hU⟩ := hp
  subst e
  unfold t_end_of_machine
  have RS := rs_full h
  refine st_ret (ev_callP (ea_cons (ev_op (ev_callP (ea_cons (ev_var rfl (ea_nil ⟨⟨m, B, rfl, h, hB, hU⟩, fun r ⟨m2, hh, t, e, hr, ed, R⟩ => ?_⟩)))))))
  obtain rfl := machD_inj (List.cons.inj e).1 h.rt hr
  subst ed
  have hp : ∀ i, 0 < rsR m i := fun i => ratInt_pos (RS.pos i)
  obtain ⟨b, b0, hb⟩ := (scM_ok (mq m) hp).at
  have tv : ∀ x, pI t x = b 0 * rsR m 0 * fM (mq m) x 0 := fun x => by rw [R.tv, (hb x 0).2]
  have ne : ∃ z ∈ t, z ≠ 0 := by
    refine Classical.byContradiction fun no => ?_
    have z : ∀ z ∈ t, z = 0 := fun z hz => Classical.byContradiction fun q => no ⟨z, hz, q⟩
    have e0 : pI t (-1) = 0 := by
      have := pe_ext (u := ri t) (v := []) (fun k => by
        rw [ri_get, List.getD_eq_getElem?_getD]
        cases e : t[k]? with
        | none => rfl
        | some y => rw [z y (List.mem_of_getElem? e)]; rfl) (-1)
      exact this
    have := tv (-1)
    rw [e0] at this
    have f0 := (fM_neg h.pos (i := 0) h.n1).2
    have := Rat.mul_pos (Rat.mul_pos (b0 0) (hp 0)) f0
    grind
  refine ev_int (rok_ixsT (d := rowD t) rfl (ea_nil ⟨⟨t, rfl, by have := R.tl; omega, n1_bd (pow_up R.tn (by decide)), ne⟩, fun r ⟨t2, e, ed⟩ => ?_⟩))
  have : t = t2 := map_int_inj (by injection e with e; injection e)
  subst this
  refine ⟨m, _, rfl, h.rt, ed, ⟨((gcdL t : Nat) : Rat)⁻¹ * (b 0 * rsR m 0), ?_, fun x => ?_⟩, prim_gcd ne, prim_last ne R.tt, ?_, ?_⟩
  · have g0 : (0 : Rat) < ((gcdL t : Nat) : Rat) := Rat.natCast_pos.mpr (gcdL_pos ne)
    exact Rat.mul_pos (Rat.inv_pos.mpr g0) (Rat.mul_pos (b0 0) (hp 0))
  · have g0 : (0 : Rat) < ((gcdL t : Nat) : Rat) := Rat.natCast_pos.mpr (gcdL_pos ne)
    have := prim_pI t ne x
    rw [tv] at this
    have gn : ((gcdL t : Nat) : Rat) ≠ 0 := fun z => by rw [z] at g0; exact absurd g0 (by decide)
    grind
  · rw [prim_len]
    exact R.tl
  · intro y hy
    obtain ⟨k, rfl⟩ := mem_get hy
    exact Nat.lt_of_le_of_lt (Nat.le_trans (prim_abs t k) (n1_get t k)) R.tn
theorem ok_end_of_machine (T : Tx K mg) : FnOk P w K mg base CX0 6 T.a_end_of_machine T.d_end_of_machine p_end_of_machine (sp_end_of_machine K) := by
  refine T.F_end_of_machine.ok sc_end_of_machine (fun vs H Q E h => len_end_of_machine K vs H Q E h) (fun cdv A outer s H vs Q E hr h => ?_)
  exact ⟨t_end_of_machine K, (pss_one (ps_ret (pe_call (ok_thinned T) (hr.mono (by decide)) rfl T.g_thinned T.F_thinned.kp (b_thinned T) .nil pass0 (pa_cons (pe_ix ix_seq (pe_call (ok_root_parts T) (hr.mono (by decide)) rfl T.g_root_parts T.F_root_parts.kp (b_root_parts T) .nil pass0 (pa_cons (pv 0) pa_nil)) pe_int (fun _ _ => rfl)) pa_nil)))), pure_end_of_machine K vs H Q E h⟩
/-! ### is_machine_disc -/
theorem frD_item {x : Fr} (h : FOk x) (h0 : 0 ≤ x.1) : isRowItem (frD x) = true := by
  show (decide (0 < x.2) && decide (((Nat.gcd x.1.natAbs x.2.natAbs : Nat) : Int) = 1) && decide (0 ≤ x.1)) = true
  rw [decide_eq_true h.1, decide_eq_true h0, decide_eq_true (by rw [h.2]; rfl)]
  rfl
theorem fr1 {x y : Fr} (h : [frD x] = [frD y]) : x = y := frD_inj (List.cons.inj h).1

def pre_is_machine_disc : List PyData → Prop := fun ds => ∃ (m : List Ds) (bb i : Nat) (d : PyData), ds = [d, .int (i : Int)] ∧ Mach m bb ∧ (machL m)[i]? = some d
def post_is_machine_disc : List PyData → PyData → Prop := fun ds r => r = .bool true
abbrev sp_is_machine_disc (K : PySem.W.Frag) : Sp := SpP K pre_is_machine_disc post_is_machine_disc
theorem len_is_machine_disc (K : PySem.W.Frag) (vs : List V) (H : Hp) (Q : VK) (E : XK) (h : sp_is_machine_disc K vs H Q E) : vs.length = p_is_machine_disc.length := len_P (n := 2) h fun ds hp => by
  obtain ⟨m, bb, i, d, e, h, hi⟩ := hp
  rw [e]; rfl
def t_is_machine_disc (K : PySem.W.Frag) : TS :=
  (tSeq (tIfS (tOr (tNot (tB (tCB (rIsi K) (tCons (tVar 0) (tCons (tC (.ty "tuple")) tNil))))) (tTest (tOp rNe (tCB (rLenQ K) (tCons (tVar 0) tNil)) (tIf (tTest (tOp rEq (tVar 1) (tC (.int 0)))) (tC (.int 2)) (tC (.int 5)))))) (tRet (tC (.bl false))) tNext)
  (tSeq (tIfS (tOr (tNot (tB (tCall (sp_is_amount K) [] E0 (tCons (tOp (rIx K) (tVar 0) (tC (.int 0))) tNil)))) (tNot (tB (tCall (sp_is_fraction_from_nought K) [] E0 (tCons (tOp (rIx K) (tVar 0) (tC (.int 1))) tNil))))) (tRet (tC (.bl false))) tNext)
  (tSeq (tIfS (tTest (tOp rEq (tVar 1) (tC (.int 0)))) (tRet (tC (.bl true))) tNext)
  (tSeq (tAsg (tCall (sp_shaft_of K) [] E0 (tCons (tVar 0) tNil)) (gTup K 3 (gCons (gName 2) (gCons (gName 3) (gCons (gName 4) gNil)))))
  (tRet (tAndV (tCall (sp_is_index K) [] E0 (tCons (tVar 2) (tCons (tVar 1) tNil))) (tAndV (tCall (sp_is_amount K) [] E0 (tCons (tVar 3) tNil)) (tAndV (tCall (sp_is_fraction K) [] E0 (tCons (tVar 4) tNil)) (tOp rNe (tOp (rIx K) (tVar 4) (tC (.int 0))) (tC (.int 0)))))))))))
theorem pure_is_machine_disc (K : PySem.W.Frag) (vs : List V) (H : Hp) (Q : VK) (E : XK) (h : sp_is_machine_disc K vs H Q E) : t_is_machine_disc K { nx := fun _ H' => Q .non H', rt := Q } (L2.start N_is_machine_disc vs) H := body_P h fun B ds hW hp => by
  obtain ⟨m, bb, i, d, e, h, hi⟩ := hp
  subst e
  unfold t_is_machine_disc
  obtain ⟨hl, hd, hd2⟩ := machL_at hi
  have dk := h.dk i
  have am : ∀ {L : List Addr} {Γ : List Sl} {te : TE} {k : PyData → Prop} (x : Fr), FOk x → 0 < x.1 → EvP K B [] L Γ te (fun d => d = frD x) → k (.bool true) → EvP K B [] L Γ (tCall (sp_is_amount K) [] E0 (tCons te tNil)) k := fun x fx x0 h hk => ev_callP (ea_cons (h.mono fun d ed => ea_nil ⟨⟨x, by rw [ed], fx⟩, fun r ⟨y, e, er⟩ => by
    subst ed
    obtain rfl := fr1 e
    rw [er, decide_eq_true x0]
    exact hk
  ⟩))
  have fn : ∀ {L : List Addr} {Γ : List Sl} {te : TE} {k : PyData → Prop} (x : Fr), FOk x → 0 ≤ x.1 → EvP K B [] L Γ te (fun d => d = frD x) → k (.bool true) → EvP K B [] L Γ (tCall (sp_is_fraction_from_nought K) [] E0 (tCons te tNil)) k := fun x fx x0 h hk => ev_callP (ea_cons (h.mono fun d ed => ea_nil ⟨⟨_, rfl⟩, fun r ⟨y, e, er⟩ => by
    subst ed
    cases e
    rw [er, frD_item fx x0]
    exact hk
  ⟩))
  rcases Nat.eq_zero_or_pos i with rfl | i0
  · have ed : d = rootD (m.getD 0 d0) := by
      rw [machL_root h.n1] at hi
      exact (Option.some.inj hi).symm
    subst ed
    refine st_seq (st_if (et_or (et_not (et_B (ev_isiTup (ev_var rfl ⟨_, rfl, fun hb => ?_, (fun z => nomatch z)⟩))))))
    refine et_test (ev_op (ev_cb (ea_cons (ev_var rfl (ea_nil (co_lenT (ev_if (et_test (ev_op (ev_var rfl (ev_int (rok_eqI ⟨_, rfl, fun _ => ev_int (rok_neI ⟨_, rfl, (fun hb => absurd hb (by simp)), fun _ => st_next ?_⟩), (fun hb => absurd hb (by simp))⟩))))))))))))
    refine st_seq (st_if (et_or (et_not (et_B (am (m.getD 0 d0).J dk.J.ok dk.J0 (ev_op (ev_var rfl (ev_int (rok_ixsT (d := frD (m.getD 0 d0).J) rfl rfl)))) ⟨_, rfl, fun _ => ?_, (fun z => nomatch z)⟩)))))
    refine et_not (et_B (fn (m.getD 0 d0).W dk.W.ok dk.W0 (ev_op (ev_var rfl (ev_int (rok_ixsT (d := frD (m.getD 0 d0).W) rfl rfl)))) ⟨_, rfl, (fun z => nomatch z), fun _ => st_next ?_⟩))
    exact st_seq (st_if (et_test (ev_op (ev_var rfl (ev_int (rok_eqI ⟨_, rfl, fun _ => st_ret (ev_bl rfl), (fun hb => absurd hb (by simp))⟩))))))
  · obtain rfl := hd2 i0
    refine st_seq (st_if (et_or (et_not (et_B (ev_isiTup (ev_var rfl ⟨_, rfl, fun hb => ?_, (fun z => nomatch z)⟩))))))
    have ni : ¬ (i : Int) = 0 := by omega
    refine et_test (ev_op (ev_cb (ea_cons (ev_var rfl (ea_nil (co_lenT (ev_if (et_test (ev_op (ev_var rfl (ev_int (rok_eqI ⟨_, rfl, (fun hb => absurd (of_decide_eq_true hb) ni), fun _ => ev_int (rok_neI ⟨_, rfl, (fun hb => absurd hb (by simp)), fun _ => st_next ?_⟩)⟩))))))))))))
    refine st_seq (st_if (et_or (et_not (et_B (am (m.getD i d0).J dk.J.ok dk.J0 (ev_op (ev_var rfl (ev_int (rok_ixsT (d := frD (m.getD i d0).J) rfl rfl)))) ⟨_, rfl, fun _ => ?_, (fun z => nomatch z)⟩)))))
    refine et_not (et_B (fn (m.getD i d0).W dk.W.ok dk.W0 (ev_op (ev_var rfl (ev_int (rok_ixsT (d := frD (m.getD i d0).W) rfl rfl)))) ⟨_, rfl, (fun z => nomatch z), fun _ => st_next ?_⟩))
    refine st_seq (st_if (et_test (ev_op (ev_var rfl (ev_int (rok_eqI ⟨_, rfl, (fun hb => absurd (of_decide_eq_true hb) ni), fun _ => st_next ?_⟩))))))
    refine st_seq (st_unpack (ev_callP (ea_cons (ev_var rfl (ea_nil ⟨⟨_, rfl⟩, fun r ⟨d2, e, ed⟩ => ?_⟩)))))
    obtain rfl := disc1 e
    subst ed
    refine ⟨_, rfl, rfl, tg_cons (tg_cons (tg_cons (tg_nil ?_)))⟩
    have pl := h.par i i0 hl
    refine st_ret (ev_andV (ev_callP (ea_cons (ev_var rfl (ea_cons (ev_var rfl (ea_nil ⟨⟨_, _, rfl⟩, fun r ⟨a, b, e, ed⟩ => ?_⟩)))))))
    simp only [List.cons.injEq, PyData.int.injEq, and_true] at e
    obtain ⟨rfl, rfl⟩ := e
    rw [decide_eq_true (show (0 : Int) ≤ ((m.getD i d0).p : Int) by omega), decide_eq_true (show ((m.getD i d0).p : Int) < (i : Int) by omega)] at ed
    refine ⟨_, ed, fun _ => ?_, (fun z => nomatch z)⟩
    refine ev_andV (am (m.getD i d0).K dk.K.ok dk.K0 (ev_var rfl rfl) ⟨_, rfl, fun _ => ?_, (fun z => nomatch z)⟩)
    refine ev_andV (ev_callP (ea_cons (ev_var rfl (ea_nil ⟨⟨_, rfl⟩, fun r ⟨v, e, ed⟩ => ?_⟩))))
    cases e
    rw [frD_is dk.R.ok] at ed
    refine ⟨_, ed, fun _ => ?_, (fun z => nomatch z)⟩
    refine ev_op (ev_op (ev_var rfl (ev_int (rok_ixsT (d := .int (m.getD i d0).R.1) rfl (ev_int (rok_neI ?_))))))
    show PyData.bool (!decide ((m.getD i d0).R.1 = 0)) = _
    rw [decide_eq_false dk.R0]
    rfl
theorem ok_is_machine_disc (T : Tx K mg) : FnOk P w K mg base CX0 4 T.a_is_machine_disc T.d_is_machine_disc p_is_machine_disc (sp_is_machine_disc K) := by
  refine T.F_is_machine_disc.ok sc_is_machine_disc (fun vs H Q E h => len_is_machine_disc K vs H Q E h) (fun cdv A outer s H vs Q E hr h => ?_)
  exact ⟨t_is_machine_disc K, (pss_cons (ps_if (PW.pt (pw_or (pt_not (pt_val (pe_callB call_isi (by rfl) T.n_isinstance (by decide +kernel) (pa_cons (pv 0) (pa_cons (pe_bltn (v := .ty "tuple") (by rfl) T.n_tuple (by decide +kernel) rfl) pa_nil))))) (pw_or1 (pt_cmpR op_ne (pe_callB call_len_seq (by rfl) T.n_len (by decide +kernel) (pa_cons (pv 0) pa_nil)) (pe_ifExp (pt_cmpR op_eq (pv 1) pe_int (nomark _)) pe_int pe_int) (nomark _))))) (pss_one (ps_ret pe_bl)) pss_nil)
  (pss_cons (ps_if (PW.pt (pw_or (pt_not (pt_val (pe_call (ok_is_amount T) (hr.mono (by decide)) rfl T.g_is_amount T.F_is_amount.kp (b_is_amount T) .nil pass0 (pa_cons (pe_ix ix_seq (pv 0) pe_int (fun _ _ => rfl)) pa_nil)))) (pw_or1 (pt_not (pt_val (pe_call (ok_is_fraction_from_nought T) (hr.mono (by decide)) rfl T.g_is_fraction_from_nought T.F_is_fraction_from_nought.kp (b_is_fraction_from_nought T) .nil pass0 (pa_cons (pe_ix ix_seq (pv 0) pe_int (fun _ _ => rfl)) pa_nil))))))) (pss_one (ps_ret pe_bl)) pss_nil)
  (pss_cons (ps_if (pt_cmpR op_eq (pv 1) pe_int (nomark _)) (pss_one (ps_ret pe_bl)) pss_nil)
  (pss_cons (ps_asg (pe_call (ok_shaft_of T) (hr.mono (by decide)) rfl T.g_shaft_of T.F_shaft_of.kp (b_shaft_of T) .nil pass0 (pa_cons (pv 0) pa_nil)) (pg_tup (by rfl) (pgs_cons (pg_name (i := 2) sc_is_machine_disc.nd rfl (Or.inl rfl)) (pgs_cons (pg_name (i := 3) sc_is_machine_disc.nd rfl (Or.inl rfl)) (pgs_cons (pg_name (i := 4) sc_is_machine_disc.nd rfl (Or.inl rfl)) pgs_nil)))))
  (pss_one (ps_ret (pe_and (pe_call (ok_is_index T) (hr.mono (by decide)) rfl T.g_is_index T.F_is_index.kp (b_is_index T) .nil pass0 (pa_cons (pv 2) (pa_cons (pv 1) pa_nil))) (pe_and (pe_call (ok_is_amount T) (hr.mono (by decide)) rfl T.g_is_amount T.F_is_amount.kp (b_is_amount T) .nil pass0 (pa_cons (pv 3) pa_nil)) (pe_and (pe_call (ok_is_fraction T) (hr.mono (by decide)) rfl T.g_is_fraction T.F_is_fraction.kp (b_is_fraction T) .nil pass0 (pa_cons (pv 4) pa_nil)) (pe_one (pe_cmpR op_ne (pe_ix ix_seq (pv 4) pe_int (fun _ _ => rfl)) pe_int (nomark _)))))))))))), pure_is_machine_disc K vs H Q E h⟩
/-! ### is_machine -/

def pre_is_machine : List PyData → Prop := fun ds => ∃ (m : List Ds) (bb : Nat), ds = [machD m] ∧ Mach m bb
def post_is_machine : List PyData → PyData → Prop := fun ds r => r = .bool true
abbrev sp_is_machine (K : PySem.W.Frag) : Sp := SpP K pre_is_machine post_is_machine
theorem len_is_machine (K : PySem.W.Frag) (vs : List V) (H : Hp) (Q : VK) (E : XK) (h : sp_is_machine K vs H Q E) : vs.length = p_is_machine.length := len_P (n := 1) h fun ds hp => by
  obtain ⟨m, bb, e, h⟩ := hp
  rw [e]; rfl
def t_is_machine (K : PySem.W.Frag) : TS :=
  (tSeq (tIfS (tOr (tNot (tB (tCB (rIsi K) (tCons (tVar 0) (tCons (tC (.ty "tuple")) tNil))))) (tNot (tTest (tChain (rI0 fun i j => .bl (decide (i ≤ j))) (rI0 fun i j => .bl (decide (i ≤ j))) (tC (.int 1)) (tCB (rLenQ K) (tCons (tVar 0) tNil)) (tC (.int 8)))))) (tRet (tC (.bl false))) tNext)
  (tRet (tCB (rAll K) (tCons (tLc (iEnumT K (tCons (tVar 0) tNil)) (gTwo K 1 2) tYes (tCall (sp_is_machine_disc K) [] E0 (tCons (tVar 2) (tCons (tVar 1) tNil))) [1, 2]) tNil))))
theorem pure_is_machine (K : PySem.W.Frag) (vs : List V) (H : Hp) (Q : VK) (E : XK) (h : sp_is_machine K vs H Q E) : t_is_machine K { nx := fun _ H' => Q .non H', rt := Q } (L2.start N_is_machine vs) H := body_P h fun B ds hW hp => by
  obtain ⟨m, bb, e, h⟩ := hp
  subst e
  unfold t_is_machine
  have n1_ := h.n1
  have n8 := h.n8
  refine st_seq (st_if (et_or (et_not (et_B (ev_isiTup (ev_var rfl ⟨_, rfl, fun hb => ?_, (fun z => nomatch z)⟩))))))
  refine et_not (et_test (ev_chain (ev_int (ev_cb (ea_cons (ev_var rfl (ea_nil (co_lenT (rok_b0 ⟨_, rfl, fun _ => ev_int (rok_b0 ⟨_, rfl, fun hb => ?_, fun hb => st_next ?_⟩), fun hb => ?_⟩)))))))))
  · rw [machL_len] at hb
    simp at hb
    omega
  · refine st_ret (ev_cb (ea_cons (ev_new (en_lcE (wipe2 1 2) (ea_cons (ev_var rfl (ea_nil ⟨_, rfl, by rw [machL_len]; omega, fun i acc => acc = (List.replicate i true).map PyData.bool, ⟨rfl, fun i D x y acc ⟨ex, hy⟩ hJ hin => ?_⟩, fun acc hJ => ?_⟩))))) ))
    · subst ex
      refine et_yes ⟨fun _ => ?_, fun z => nomatch z⟩
      refine ev_callP (ea_cons (ev_var rfl (ea_cons (ev_var rfl (ea_nil ⟨⟨m, bb, i, _, rfl, h, hy⟩, fun r er => ?_⟩)))))
      have er : r = .bool true := er
      subst er
      show acc ++ [_] = (List.replicate (i + 1) true).map PyData.bool
      rw [hJ, List.replicate_succ', List.map_append]
      rfl
    · refine ea_nil ?_
      subst hJ
      refine cok_all ?_
      rw [show (List.replicate _ true).all id = true by simp]
      rfl
  · rw [machL_len] at hb
    have := of_decide_eq_false hb
    omega
theorem ok_is_machine (T : Tx K mg) : FnOk P w K mg base CX0 5 T.a_is_machine T.d_is_machine p_is_machine (sp_is_machine K) := by
  refine T.F_is_machine.ok sc_is_machine (fun vs H Q E h => len_is_machine K vs H Q E h) (fun cdv A outer s H vs Q E hr h => ?_)
  exact ⟨t_is_machine K, (pss_cons (ps_if (PW.pt (pw_or (pt_not (pt_val (pe_callB call_isi (by rfl) T.n_isinstance (by decide +kernel) (pa_cons (pv 0) (pa_cons (pe_bltn (v := .ty "tuple") (by rfl) T.n_tuple (by decide +kernel) rfl) pa_nil))))) (pw_or1 (pt_not (pt_chain op_le op_le pe_int (pe_callB call_len_seq (by rfl) T.n_len (by decide +kernel) (pa_cons (pv 0) pa_nil)) (pe_glob rfl T.c_MOST_DISCS ⟨_, rfl⟩)))))) (pss_one (ps_ret pe_bl)) pss_nil)
  (pss_one (ps_ret (pe_callB (cr_all rfl) (by rfl) T.n_all (by decide +kernel) (pa_cons (pe_lc (own := [("place", 1), ("disc", 2)]) (by rfl) sc_is_machine.nd (pi_enumT (by rfl) T.n_enumerate (pa_cons (pv 0) pa_nil)) (blkOk_by (own := [("place", 1), ("disc", 2)]) (N := N_is_machine) (sc := defScope s_is_machine) (by decide +kernel)) (fun _ _ _ _ _ => pg_tup (by rfl) (pgs_cons (pg_name (i := 1) sc_is_machine.nd rfl (Or.inl rfl)) (pgs_cons (pg_name (i := 2) sc_is_machine.nd rfl (Or.inl rfl)) pgs_nil))) (fun _ _ _ _ _ => pts_nil) (fun _ _ _ _ _ => (pe_call (ok_is_machine_disc T) (hr.mono (by decide)) rfl T.g_is_machine_disc T.F_is_machine_disc.kp (b_is_machine_disc T) .nil pass0 (pa_cons (pv 2) (pa_cons (pv 1) pa_nil))))) pa_nil))))), pure_is_machine K vs H Q E h⟩
/-! ### check_machine -/

def pre_check_machine : List PyData → Prop := fun ds => ∃ (m : List Ds) (bb : Nat), ds = [machD m] ∧ Mach m bb
def post_check_machine : List PyData → PyData → Prop := fun ds r => r = .none
abbrev sp_check_machine (K : PySem.W.Frag) : Sp := SpP K pre_check_machine post_check_machine
theorem len_check_machine (K : PySem.W.Frag) (vs : List V) (H : Hp) (Q : VK) (E : XK) (h : sp_check_machine K vs H Q E) : vs.length = p_check_machine.length := len_P (n := 1) h fun ds hp => by
  obtain ⟨m, bb, e, h⟩ := hp
  rw [e]; rfl
def t_check_machine (K : PySem.W.Frag) : TS :=
  (tIfS (tNot (tB (tCall (sp_is_machine K) [] E0 (tCons (tVar 0) tNil)))) tNever tNext)
theorem pure_check_machine (K : PySem.W.Frag) (vs : List V) (H : Hp) (Q : VK) (E : XK) (h : sp_check_machine K vs H Q E) : t_check_machine K { nx := fun _ H' => Q .non H', rt := Q } (L2.start N_check_machine vs) H := body_P h fun B ds hW hp => by
  obtain ⟨m, bb, e, h⟩ := hp
  subst e
  unfold t_check_machine
  refine st_if (et_not (et_B (ev_callP (ea_cons (ev_var rfl (ea_nil ⟨⟨m, bb, rfl, h⟩, fun r er => ?_⟩))))))
  exact ⟨_, er, (fun z => nomatch z), fun _ => st_next rfl⟩
theorem ok_check_machine (T : Tx K mg) : FnOk P w K mg base CX0 6 T.a_check_machine T.d_check_machine p_check_machine (sp_check_machine K) := by
  refine T.F_check_machine.ok sc_check_machine (fun vs H Q E h => len_check_machine K vs H Q E h) (fun cdv A outer s H vs Q E hr h => ?_)
  exact ⟨t_check_machine K, (pss_one (ps_if (pt_not (pt_val (pe_call (ok_is_machine T) (hr.mono (by decide)) rfl T.g_is_machine T.F_is_machine.kp (b_is_machine T) .nil pass0 (pa_cons (pv 0) pa_nil)))) (pss_one ps_never) pss_nil)), pure_check_machine K vs H Q E h⟩
/-! ### ungeared -/

def pre_ungeared : List PyData → Prop := fun ds => ∃ (m : List Ds) (bb : Nat), ds = [machD m] ∧ Mach m bb ∧ bb ≤ 100
def post_ungeared : List PyData → PyData → Prop := fun ds r => ∃ m : List Ds, ds = [machD m] ∧ Rt m ∧ r = machD (outM m)
abbrev sp_ungeared (K : PySem.W.Frag) : Sp := SpP K pre_ungeared post_ungeared
theorem len_ungeared (K : PySem.W.Frag) (vs : List V) (H : Hp) (Q : VK) (E : XK) (h : sp_ungeared K vs H Q E) : vs.length = p_ungeared.length := len_P (n := 1) h fun ds hp => by
  obtain ⟨m, bb, e, h, hB⟩ := hp
  rw [e]; rfl
def t_ungeared (T : Tx K mg) : TS :=
  (tSeq (tDrop (tCall (sp_check_machine K) [] E0 (tCons (tVar 0) tNil)))
  (tSeq (tAsg (tLst (tCons (tC (.ref T.k_ONE)) tNil)) (gName 1))
  (tSeq (tAsg (tLst (tCons (tOp (rIx K) (tVar 0) (tC (.int 0))) tNil)) (gName 2))
  (tSeq (tFor (iTup K (tSl (rSlX2 K) (tVar 0) (tPart (tC (.int 1))) tNoPart)) (gName 3) (tSeq (tAsg (tCall (sp_shaft_of K) [] E0 (tCons (tVar 3) tNil)) (gTup K 3 (gCons (gName 4) (gCons (gName 5) (gCons (gName 6) gNil)))))
  (tSeq (tAsg (tCall (sp_multiplied K) [] E0 (tCons (tOp (rIx K) (tVar 1) (tVar 4)) (tCons (tCall (sp_multiplied K) [] E0 (tCons (tVar 6) (tCons (tVar 6) tNil))) tNil))) (gName 7))
  (tSeq (tDrop (tBM K "list" rAppend (tVar 1) (tCons (tVar 7) tNil)))
  (tSeq (tAsg (tTup (tCons (tCall (sp_multiplied K) [] E0 (tCons (tOp (rIx K) (tVar 3) (tC (.int 0))) (tCons (tVar 7) tNil))) (tCons (tCall (sp_multiplied K) [] E0 (tCons (tOp (rIx K) (tVar 3) (tC (.int 1))) (tCons (tVar 7) tNil))) (tCons (tVar 4) (tCons (tCall (sp_multiplied K) [] E0 (tCons (tVar 5) (tCons (tVar 7) tNil))) (tCons (tC (.ref T.k_ONE)) tNil)))))) (gName 8))
  (tDrop (tBM K "list" rAppend (tVar 2) (tCons (tVar 8) tNil))))))))
  (tRet (tCB (rTupleQ K) (tCons (tVar 2) tNil)))))))
theorem pure_ungeared (T : Tx K mg) (vs : List V) (H : Hp) (Q : VK) (E : XK) (h : sp_ungeared K vs H Q E) : t_ungeared T { nx := fun _ H' => Q .non H', rt := Q } (L2.start N_ungeared vs) H := body_P h fun B ds hW hp => by
  obtain ⟨m, bb, e, h, hB⟩ := hp
  subst e
  unfold t_ungeared
  have n1_ := h.n1
  have n8 := h.n8
  have hl := outM_len m
  have gs : ∀ {i : Nat}, i < m.length → Sm (frOf (g2 m i)) := fun {i} hi => by
    obtain ⟨a, b⟩ := g2_size h (fun i => (h.dk i).R) hi
    have : bb * (m.length - 1) ≤ 100 * 7 := Nat.mul_le_mul hB (by omega)
    exact ⟨(frOf_ok _).1, pow_up a (by omega), pow_up b (by omega)⟩
  refine st_seq (st_drop (ev_callP (ea_cons (ev_var rfl (ea_nil ⟨⟨m, bb, rfl, h⟩, fun r er => ?_⟩)))))
  refine st_seq (st_own (en_lst (ea_cons (ev_ct T.v_ONE (ea_nil ⟨by simp, fun l1 => ?_⟩)))))
  have mat : atI (machL m) 0 = some (rootD (m.getD 0 d0)) := by
    have := atI_n (machL m) 0
    rw [machL_root n1_] at this
    exact this
  refine st_seq (st_own (en_lst (ea_cons (ev_op (ev_var rfl (ev_int (rok_ixsT mat (ea_nil ⟨by simp, fun l2 => ?_⟩))))))))
  have i1 : [PyData.tuple [.int 1, .int 1]] = (List.range 1).map fun k => frD (frOf (g2 m k)) := by
    show [PyData.tuple [.int 1, .int 1]] = [frD (frOf (g2 m 0))]
    have : g2 m 0 = 1 := by unfold g2; rw [gM_zero]; grind
    rw [this]
    rfl
  have i2 : [rootD (m.getD 0 d0)] = (machL (outM m)).take 1 := by
    have : (machL (outM m))[0]? = some (rootD (m.getD 0 d0)) := by
      rw [machL_root (by rw [hl]; exact n1_), outM_at, if_pos (by omega)]
      rfl
    rw [List.take_add_one (i := 0), this]
    rfl
  rw [i1, i2]
  refine st_seq (st_forT (ev_sl (ev_var rfl (eo_some (ev_int ⟨_, rfl, eo_no (so_tup ⟨_, by rw [cutD_one], fun i L2 Γ2 => ∃ s3 s4 s5 s6 s7 s8 : Sl, L2 = [l2, l1] ∧ Γ2 = [.d (machD m), .own l1 ((List.range (i + 1)).map fun k => frD (frOf (g2 m k))), .own l2 ((machL (outM m)).take (i + 1)), s3, s4, s5, s6, s7, s8], ⟨_, _, _, _, _, _, rfl, rfl⟩, ?_, ?_⟩)⟩)))))
  · rintro i d' L2 Γ2 g hi ⟨s3, s4, s5, s6, s7, s8, rfl, rfl⟩
    obtain ⟨hi2, rfl⟩ := machL_drop hi
    have dk := h.dk (i + 1)
    have pl := h.par (i + 1) (by omega) hi2
    have smR := dk.R.sm (show bb ≤ 4000 by omega)
    have smK := dk.K.sm (show bb ≤ 4000 by omega)
    have smJ := dk.J.sm (show bb ≤ 4000 by omega)
    have smW := dk.W.sm (show bb ≤ 4000 by omega)
    refine st_seq (st_unpack (ev_callP (ea_cons (ev_var rfl (ea_nil ⟨⟨_, rfl⟩, fun r ⟨d2, e, ed⟩ => ?_⟩)))))
    obtain rfl := disc1 e
    subst ed
    refine ⟨_, rfl, rfl, tg_cons (tg_cons (tg_cons (tg_nil ?_)))⟩
    have at1 : atI ((List.range (i + 1)).map fun k => frD (frOf (g2 m k))) (((m.getD (i + 1) d0).p : Nat) : Int) = some (frD (frOf (g2 m (m.getD (i + 1) d0).p))) := by
      rw [atI_n, List.getElem?_map, List.getElem?_range pl]
      rfl
    refine st_seq (st_asg (ev_callP (ea_cons (ev_ixOwn rfl (ev_var rfl ⟨_, _, rfl, at1, ea_cons (ev_callP (ea_cons (ev_var rfl (ea_cons (ev_var rfl (ea_nil ⟨⟨_, _, rfl, smR, smR⟩, fun r ⟨x, y, r1, e, ed, f1, v1, a1, a2⟩ => ?_⟩))))))⟩)))))
    obtain ⟨rfl, rfl⟩ := frD2_inj e
    subst ed
    have s1 : Sm r1 := ⟨f1.1, Nat.lt_of_le_of_lt a1 (pow_up (natAbs_mul_lt dk.R.b1 dk.R.b1) (by omega)), Nat.lt_of_le_of_lt a2 (pow_up (natAbs_mul_lt dk.R.b2 dk.R.b2) (by omega))⟩
    refine ea_nil ⟨⟨_, r1, rfl, gs (by omega), s1⟩, fun r ⟨x, y, r2, e, ed, f2, v2, _, _⟩ => ?_⟩
    obtain ⟨rfl, rfl⟩ := frD2_inj e
    subst ed
    have er2 : r2 = frOf (g2 m (i + 1)) := FOk.inj f2 (frOf_ok _) (by
      rw [v2, v1, frOf_val, frOf_val]
      unfold g2
      rw [gM_step h (show 0 < i + 1 by omega) hi2]
      grind)
    subst er2
    refine st_seq (st_append rfl (by rw [List.length_map, List.length_range]; omega) (ev_var rfl ?_))
    have gq := gs hi2
    refine st_seq (st_asg (ev_tup (ea_cons (ev_callP (ea_cons (ev_op (ev_var rfl (ev_int (rok_ixsT (d := frD (m.getD (i + 1) d0).J) rfl (ea_cons (ev_var rfl (ea_nil ⟨⟨_, _, rfl, smJ, gq⟩, fun r ⟨x, y, rJ, e, ed, fJ, vJ, _, _⟩ => ?_⟩))))))))))))
    obtain ⟨rfl, rfl⟩ := frD2_inj e
    subst ed
    refine ea_cons (ev_callP (ea_cons (ev_op (ev_var rfl (ev_int (rok_ixsT (d := frD (m.getD (i + 1) d0).W) rfl (ea_cons (ev_var rfl (ea_nil ⟨⟨_, _, rfl, smW, gq⟩, fun r ⟨x, y, rW, e, ed, fW, vW, _, _⟩ => ?_⟩)))))))))
    obtain ⟨rfl, rfl⟩ := frD2_inj e
    subst ed
    refine ea_cons (ev_var rfl (ea_cons (ev_callP (ea_cons (ev_var rfl (ea_cons (ev_var rfl (ea_nil ⟨⟨_, _, rfl, smK, gq⟩, fun r ⟨x, y, rK, e, ed, fK, vK, _, _⟩ => ?_⟩))))))))
    obtain ⟨rfl, rfl⟩ := frD2_inj e
    subst ed
    refine ea_cons (ev_ct T.v_ONE (ea_nil ⟨by simp, ?_⟩))
    have row : PyData.tuple [frD rJ, frD rW, .int ((m.getD (i + 1) d0).p : Int), frD rK, .tuple [.int 1, .int 1]] = discD (od m (i + 1)) := by
      unfold od
      rw [if_neg (by omega), FOk.inj fJ (frOf_ok (val (m.getD (i + 1) d0).J * g2 m (i + 1))) (by rw [vJ, frOf_val, frOf_val]), FOk.inj fW (frOf_ok (val (m.getD (i + 1) d0).W * g2 m (i + 1))) (by rw [vW, frOf_val, frOf_val]), FOk.inj fK (frOf_ok (val (m.getD (i + 1) d0).K * g2 m (i + 1))) (by rw [vK, frOf_val, frOf_val])]
      rfl
    rw [row]
    refine st_append rfl (by rw [List.length_take]; omega) (ev_var rfl ⟨.d (discD (m.getD (i + 1) d0)), .d (.int ((m.getD (i + 1) d0).p : Int)), .d (frD (m.getD (i + 1) d0).K), .d (frD (m.getD (i + 1) d0).R), .d (frD (frOf (g2 m (i + 1)))), .d (discD (od m (i + 1))), rfl, ?_⟩)
    rw [out_take hi2, List.range_succ (n := i + 1), List.map_append]
    rfl
  · rintro L2 Γ2 ⟨s3, s4, s5, s6, s7, s8, rfl, rfl⟩
    refine st_ret (ev_tupOwn rfl ⟨m, rfl, h.rt, ?_⟩)
    rw [List.length_drop, machL_len, List.take_of_length_le (by rw [machL_len, hl]; omega)]
    rfl
theorem ok_ungeared (T : Tx K mg) : FnOk P w K mg base CX0 7 T.a_ungeared T.d_ungeared p_ungeared (sp_ungeared K) := by
  refine T.F_ungeared.ok sc_ungeared (fun vs H Q E h => len_ungeared K vs H Q E h) (fun cdv A outer s H vs Q E hr h => ?_)
  exact ⟨t_ungeared T, (pss_cons (ps_expr (pe_call (ok_check_machine T) (hr.mono (by decide)) rfl T.g_check_machine T.F_check_machine.kp (b_check_machine T) .nil pass0 (pa_cons (pv 0) pa_nil)))
  (pss_cons (ps_set (i := 1) sc_ungeared.nd rfl (Or.inl rfl) (pe_lst (pa_cons (pe_glob rfl T.c_ONE rfl) pa_nil)))
  (pss_cons (ps_set (i := 2) sc_ungeared.nd rfl (Or.inl rfl) (pe_lst (pa_cons (pe_ix ix_seq (pv 0) pe_int (fun _ _ => rfl)) pa_nil)))
  (pss_cons (ps_for PassesOwn.never rfl (pi_tup (pe_slice sl_any (pv 0) (po_some pe_int) po_none)) (pg_name (i := 3) sc_ungeared.nd rfl (Or.inl rfl)) (pss_cons (ps_asg (pe_call (ok_shaft_of T) (hr.mono (by decide)) rfl T.g_shaft_of T.F_shaft_of.kp (b_shaft_of T) .nil pass0 (pa_cons (pv 3) pa_nil)) (pg_tup (by rfl) (pgs_cons (pg_name (i := 4) sc_ungeared.nd rfl (Or.inl rfl)) (pgs_cons (pg_name (i := 5) sc_ungeared.nd rfl (Or.inl rfl)) (pgs_cons (pg_name (i := 6) sc_ungeared.nd rfl (Or.inl rfl)) pgs_nil)))))
  (pss_cons (ps_set (i := 7) sc_ungeared.nd rfl (Or.inl rfl) (pe_call (ok_multiplied T) (hr.mono (by decide)) rfl T.g_multiplied T.F_multiplied.kp (b_multiplied T) .nil pass0 (pa_cons (pe_ix ix_seq (pv 1) (pv 4) (fun _ _ => rfl)) (pa_cons (pe_call (ok_multiplied T) (hr.mono (by decide)) rfl T.g_multiplied T.F_multiplied.kp (b_multiplied T) .nil pass0 (pa_cons (pv 6) (pa_cons (pv 6) pa_nil))) pa_nil))))
  (pss_cons (ps_expr (pe_bm PySem.F.plainAttrs_list PySem.F.slot_list_append PySem.F.type_list_append mt_append (pv 1) (pa_cons (pv 7) pa_nil)))
  (pss_cons (ps_set (i := 8) sc_ungeared.nd rfl (Or.inl rfl) (pe_tup (pa_cons (pe_call (ok_multiplied T) (hr.mono (by decide)) rfl T.g_multiplied T.F_multiplied.kp (b_multiplied T) .nil pass0 (pa_cons (pe_ix ix_seq (pv 3) pe_int (fun _ _ => rfl)) (pa_cons (pv 7) pa_nil))) (pa_cons (pe_call (ok_multiplied T) (hr.mono (by decide)) rfl T.g_multiplied T.F_multiplied.kp (b_multiplied T) .nil pass0 (pa_cons (pe_ix ix_seq (pv 3) pe_int (fun _ _ => rfl)) (pa_cons (pv 7) pa_nil))) (pa_cons (pv 4) (pa_cons (pe_call (ok_multiplied T) (hr.mono (by decide)) rfl T.g_multiplied T.F_multiplied.kp (b_multiplied T) .nil pass0 (pa_cons (pv 5) (pa_cons (pv 7) pa_nil))) (pa_cons (pe_glob rfl T.c_ONE rfl) pa_nil)))))))
  (pss_one (ps_expr (pe_bm PySem.F.plainAttrs_list PySem.F.slot_list_append PySem.F.type_list_append mt_append (pv 2) (pa_cons (pv 8) pa_nil)))))))))
  (pss_one (ps_ret (pe_callTy call_tuple_of (by rfl) T.n_tuple (by decide +kernel) (pa_cons (pv 2) pa_nil)))))))), pure_ungeared T vs H Q E h⟩
/-! ### machine_end -/

def pre_machine_end : List PyData → Prop := fun ds => ∃ (m : List Ds) (bb : Nat), ds = [machD m] ∧ Mach m bb ∧ bb ≤ 29 ∧ (33 * bb + 5) * m.length ≤ 3900
def post_machine_end : List PyData → PyData → Prop := fun ds r => ∃ (m : List Ds) (u : List Int), ds = [machD m] ∧ Rt m ∧ r = rowD u ∧ EndOk m u
abbrev sp_machine_end (K : PySem.W.Frag) : Sp := SpP K pre_machine_end post_machine_end
theorem len_machine_end (K : PySem.W.Frag) (vs : List V) (H : Hp) (Q : VK) (E : XK) (h : sp_machine_end K vs H Q E) : vs.length = p_machine_end.length := len_P (n := 1) h fun ds hp => by
  obtain ⟨m, bb, e, h, hB, hU⟩ := hp
  rw [e]; rfl
def t_machine_end (K : PySem.W.Frag) : TS :=
  (tSeq (tDrop (tCall (sp_check_machine K) [] E0 (tCons (tVar 0) tNil)))
  (tRet (tCall (sp_end_of_machine K) [] E0 (tCons (tVar 0) tNil))))
theorem pure_machine_end (K : PySem.W.Frag) (vs : List V) (H : Hp) (Q : VK) (E : XK) (h : sp_machine_end K vs H Q E) : t_machine_end K { nx := fun _ H' => Q .non H', rt := Q } (L2.start N_machine_end vs) H := body_P h fun B ds hW hp => by
  obtain ⟨m, bb, e, h, hB, hU⟩ := hp
  subst e
  unfold t_machine_end
  refine st_seq (st_drop (ev_callP (ea_cons (ev_var rfl (ea_nil ⟨⟨m, bb, rfl, h⟩, fun r er => ?_⟩)))))
  exact st_ret (ev_callP (ea_cons (ev_var rfl (ea_nil ⟨⟨m, bb, rfl, h, hB, hU⟩, fun r hr => hr⟩))))
theorem ok_machine_end (T : Tx K mg) : FnOk P w K mg base CX0 7 T.a_machine_end T.d_machine_end p_machine_end (sp_machine_end K) := by
  refine T.F_machine_end.ok sc_machine_end (fun vs H Q E h => len_machine_end K vs H Q E h) (fun cdv A outer s H vs Q E hr h => ?_)
  exact ⟨t_machine_end K, (pss_cons (ps_expr (pe_call (ok_check_machine T) (hr.mono (by decide)) rfl T.g_check_machine T.F_check_machine.kp (b_check_machine T) .nil pass0 (pa_cons (pv 0) pa_nil)))
  (pss_one (ps_ret (pe_call (ok_end_of_machine T) (hr.mono (by decide)) rfl T.g_end_of_machine T.F_end_of_machine.kp (b_end_of_machine T) .nil pass0 (pa_cons (pv 0) pa_nil))))), pure_machine_end K vs H Q E h⟩
/-! ### _law_spring -/
def sp__law_spring (K : PySem.W.Frag) : Sp := fun vs H Q _ => ∃ (a : Addr) (ns : List Int) (n : Nat), vs = [.ref a, .int (n : Int)] ∧ SqL K H a (ns.map V.int) ∧ ns.length ≤ 63 ∧ n ≤ 100 ∧ ∀ p H', Same H H' → H p = none → WellAt H' p → Q (.ref p) H'
theorem len__law_spring (K : PySem.W.Frag) (vs : List V) (H : Hp) (Q : VK) (E : XK) (h : sp__law_spring K vs H Q E) : vs.length = p__law_spring.length := by
  obtain ⟨a, ns, n, rfl, _⟩ := h
  rfl
def t__law_spring (K : PySem.W.Frag) : TS :=
  (tSeq (tAsg (tIf (tTest (tOp (rI0 fun i j => .bl (decide (i < j))) (tVar 1) (tCB (rLenQ K) (tCons (tVar 0) tNil)))) (tCB rIntQ (tCons (tOp (rIx K) (tVar 0) (tVar 1)) tNil)) (tOp (rAddA K) (tOp (rAddA K) (tOp (rMulA K) (tC (.int 7349)) (tVar 1)) (tOp (rMulA K) (tC (.int 61)) (tCB (rLenQ K) (tCons (tVar 0) tNil)))) (tC (.int 17)))) (gName 2))
  (tSeq (tAsg (tOp (rAddA K) (tC (.int 5227)) (tOp (rMulA K) (tC (.int 1301)) (tVar 1))) (gName 3))
  (tSeq (tFor (iList K (tOp (rAddA K) (tCB (rListQ K) (tCons (tVar 0) tNil)) (tLst (tCons (tVar 2) tNil)))) (gName 4) (tAsg (tOp rModA (tCB rIntQ (tCons (tOp (rAddA K) (tOp (rAddA K) (tOp (rMulA K) (tVar 3) (tC (.int 39373))) (tOp rModA (tCB rIntQ (tCons (tVar 4) tNil)) (tC (.int 2147483587)))) (tC (.int 31))) tNil)) (tC (.int 2147483587))) (gName 3)))
  (tRet (tLst (tCons (tIf (tOr (tTest (tOp (rI0 fun i j => .bl (decide (i < j))) (tVar 2) (tC (.int 0)))) (tTest (tOp (rI0 fun i j => .bl (decide (j ≤ i))) (tVar 2) (tOp (rI CPow fun i j => .int (i ^ j.toNat)) (tC (.int 10)) (tC (.int 18)))))) (tCB rAbsQ (tCons (tVar 2) tNil)) (tC (.int 0))) (tCons (tVar 3) (tCons (tC (.int 0)) tNil))))))))
theorem pure__law_spring (K : PySem.W.Frag) (vs : List V) (H : Hp) (Q : VK) (E : XK) (h : sp__law_spring K vs H Q E) : t__law_spring K { nx := fun _ H' => Q .non H', rt := Q } (L2.start N__law_spring vs) H := by
  obtain ⟨a, ns, n, rfl, hS, hlen, hn, q⟩ := h
  unfold t__law_spring
  have own : ∀ Q : VK, (∀ o : Int, Q (.int o) H) → (tIf (tTest (tOp (rI0 fun i j => .bl (decide (i < j))) (tVar 1) (tCB (rLenQ K) (tCons (tVar 0) tNil)))) (tCB rIntQ (tCons (tOp (rIx K) (tVar 0) (tVar 1)) tNil)) (tOp (rAddA K) (tOp (rAddA K) (tOp (rMulA K) (tC (.int 7349)) (tVar 1)) (tOp (rMulA K) (tC (.int 61)) (tCB (rLenQ K) (tCons (tVar 0) tNil)))) (tC (.int 17)))) (L2.start N__law_spring [.ref a, .int (n : Int)]) H Q := fun Q q => by
    refine ⟨_, rfl, _, rfl, a, _, rfl, .inl hS, _, _, rfl, rfl, _, rfl, ?_⟩
    refine ite2 (fun hb => ?_) (fun hb => ?_)
    · have hb' : n < ns.length := by
        have := of_decide_eq_true hb
        rw [List.length_map] at this
        omega
      exact ⟨_, rfl, _, rfl, .inl ⟨a, _, (n : Int), .int ns[n], rfl, rfl, hS, atI_nat (by rw [List.getElem?_map, List.getElem?_eq_getElem hb']; rfl), .inl ⟨_, rfl, q _⟩⟩⟩
    · exact ⟨_, rfl, .inl ⟨_, _, rfl, rfl, .inl ⟨by decide, by decide⟩, ⟨_, rfl, a, _, rfl, .inl hS, .inl ⟨_, _, rfl, rfl, .inl ⟨by decide, by decide⟩, .inl ⟨_, _, rfl, rfl, .inl ⟨_, _, rfl, rfl, q _⟩⟩⟩⟩⟩⟩
  refine own _ fun o => ?_
  refine ⟨_, rfl, .inl ⟨_, _, rfl, rfl, .inl ⟨by decide, by decide⟩, .inl ⟨_, _, rfl, rfl, ?_⟩⟩⟩
  refine ⟨_, rfl, a, _, rfl, .inl hS, fun p hp => ?_⟩
  have s1 : Same H (upd H p (.lst (ns.map V.int))) := same_upd hp
  have e1 : (upd H p (.lst (ns.map V.int))) p = some (.lst (ns.map V.int)) := upd_same
  generalize upd H p (.lst (ns.map V.int)) = H1 at s1 e1 ⊢
  refine ⟨_, rfl, (by show 1 ≤ sizeLine; decide), fun p2 hp2 => .inr (.inr ?_)⟩
  have s2 : Same H1 (upd H1 p2 (.lst [V.int o])) := same_upd hp2
  have e2 : (upd H1 p2 (.lst [V.int o])) p2 = some (.lst [V.int o]) := upd_same
  have e1' := s2 _ _ e1
  generalize upd H1 p2 (.lst [V.int o]) = H2 at s2 e2 e1' ⊢
  refine ⟨p, p2, _, _, rfl, rfl, e1', e2, ?_, fun p3 hp3 => ?_⟩
  · rw [List.length_map]
    exact Nat.le_trans (show ns.length + 1 ≤ 100 by omega) (by decide)
  have s3 : Same H2 (upd H2 p3 (.lst (ns.map V.int ++ [V.int o]))) := same_upd hp3
  have e3 : (upd H2 p3 (.lst (ns.map V.int ++ [V.int o]))) p3 = some (.lst ((ns ++ [o]).map V.int)) := by rw [upd_same, List.map_append]; rfl
  generalize upd H2 p3 (.lst (ns.map V.int ++ [V.int o])) = H3 at s3 e3 ⊢
  refine ⟨p3, rfl, ⟨_, .inl (.inl e3)⟩, for_list (xs := (ns ++ [o]).map V.int) (fun i σ H' => ∃ (m : Int) (v : Option V), σ = [some (.ref a), some (.int (n : Int)), some (.int o), some (.int m), v] ∧ 0 ≤ m ∧ m < 2147483587 ∧ Same H3 H')
    ⟨_, none, rfl, by omega, by omega, Same.refl _⟩ (fun i σ H' _ ⟨m, v, _, _, _, s5⟩ => s5.seq (.inl (.inl e3))) (fun i x σ H' hi ⟨m, v, e, h0, h1, s5⟩ => ?_) (fun σ H' ⟨m, v, e, h0, h1, s5⟩ => ?_)⟩
  · subst e
    obtain ⟨z, rfl⟩ : ∃ z, x = V.int z := by
      rw [List.getElem?_map] at hi
      cases e : (ns ++ [o])[i]? with
      | none => rw [e] at hi; cases hi
      | some z => rw [e] at hi; exact ⟨z, (Option.some.inj hi).symm⟩
    refine ⟨_, rfl, .inl ⟨_, _, rfl, rfl, .inl ⟨by omega, by omega⟩, _, rfl, .inl ⟨_, rfl, .inl ⟨_, _, rfl, rfl, (by show (0 : Int) < 2147483587; decide), .inl ⟨_, _, rfl, rfl, .inl ⟨_, _, rfl, rfl, .inl ⟨_, rfl, .inl ⟨_, _, rfl, rfl, (by show (0 : Int) < 2147483587; decide), ?_⟩⟩⟩⟩⟩⟩⟩⟩
    exact ⟨_, some (.int z), rfl, Int.emod_nonneg _ (by decide), Int.emod_lt_of_pos _ (by decide), s5⟩
  · subst e
    have great : ∀ Q : VK, (∀ z : Int, 0 ≤ z → Q (.int z) H') → (tIf (tOr (tTest (tOp (rI0 fun i j => .bl (decide (i < j))) (tVar 2) (tC (.int 0)))) (tTest (tOp (rI0 fun i j => .bl (decide (j ≤ i))) (tVar 2) (tOp (rI CPow fun i j => .int (i ^ j.toNat)) (tC (.int 10)) (tC (.int 18)))))) (tCB rAbsQ (tCons (tVar 2) tNil)) (tC (.int 0))) [some (.ref a), some (.int (n : Int)), some (.int o), some (.int m), v] H' Q := fun Q q => by
      have ab : (tCB rAbsQ (tCons (tVar 2) tNil)) [some (.ref a), some (.int (n : Int)), some (.int o), some (.int m), v] H' Q := ⟨_, rfl, _, rfl, q _ (by split <;> omega)⟩
      have ze : (tC (.int 0)) [some (.ref a), some (.int (n : Int)), some (.int o), some (.int m), v] H' Q := q 0 (Int.le_refl _)
      refine ⟨_, rfl, _, _, rfl, rfl, _, rfl, ?_⟩
      refine ite2 (fun hb => ?_) (fun hb => ?_)
      · exact ab
      · refine ⟨_, rfl, _, _, rfl, rfl, ⟨by decide, by decide, by decide⟩, _, _, rfl, rfl, _, rfl, ?_⟩
        exact ite2 (fun hb => ab) (fun hb => ze)
    refine great _ fun z hz => ?_
    refine ⟨_, rfl, (by show 3 ≤ sizeLine; decide), fun p5 hp5 => ?_⟩
    have sa := ((s1.trans s2).trans s3).trans s5
    exact q p5 _ (sa.trans (same_upd hp5)) (sa.free hp5) ⟨z, m, 0, upd_same, hz, by omega, by omega⟩
theorem ok__law_spring (T : Tx K mg) : FnOk P w K mg base CX0 1 T.a__law_spring T.d__law_spring p__law_spring (sp__law_spring K) := by
  refine T.F__law_spring.ok sc__law_spring (fun vs H Q E h => len__law_spring K vs H Q E h) (fun cdv A outer s H vs Q E hr h => ?_)
  exact ⟨t__law_spring K, (pss_cons (ps_set (i := 2) sc__law_spring.nd rfl (Or.inl rfl) (pe_ifExp (pt_cmpR op_lt (pv 1) (pe_callB call_len_seq (by rfl) T.n_len (by decide +kernel) (pa_cons (pv 0) pa_nil)) (nomark _)) (pe_callTy call_int1 (by rfl) T.n_int (by decide +kernel) (pa_cons (pe_ix ix_seq (pv 0) (pv 1) (fun _ _ => rfl)) pa_nil)) (pe_op op_addA (pe_op op_addA (pe_op op_mulA pe_int (pv 1)) (pe_op op_mulA pe_int (pe_callB call_len_seq (by rfl) T.n_len (by decide +kernel) (pa_cons (pv 0) pa_nil)))) pe_int)))
  (pss_cons (ps_set (i := 3) sc__law_spring.nd rfl (Or.inl rfl) (pe_op op_addA pe_int (pe_op op_mulA pe_int (pv 1))))
  (pss_cons (ps_for PassesOwn.never rfl (pi_list (pe_op op_addA (pe_callTy call_list_of (by rfl) T.n_list (by decide +kernel) (pa_cons (pv 0) pa_nil)) (pe_lst (pa_cons (pv 2) pa_nil)))) (pg_name (i := 4) sc__law_spring.nd rfl (Or.inl rfl)) (pss_one (ps_set (i := 3) sc__law_spring.nd rfl (Or.inl rfl) (pe_op op_modA (pe_callTy call_int1 (by rfl) T.n_int (by decide +kernel) (pa_cons (pe_op op_addA (pe_op op_addA (pe_op op_mulA (pv 3) pe_int) (pe_op op_modA (pe_callTy call_int1 (by rfl) T.n_int (by decide +kernel) (pa_cons (pv 4) pa_nil)) pe_int)) pe_int) pa_nil)) pe_int))))
  (pss_one (ps_ret (pe_lst (pa_cons (pe_ifExp (PW.pt (pw_or (pt_cmpR op_lt (pv 2) pe_int (nomark _)) (pw_or1 (pt_cmpR op_ge (pv 2) (pe_op op_pow pe_int pe_int) (nomark _))))) (pe_callB call_abs (by rfl) T.n_abs (by decide +kernel) (pa_cons (pv 2) pa_nil)) pe_int) (pa_cons (pv 3) (pa_cons pe_int pa_nil))))))))), pure__law_spring K vs H Q E h⟩
/-! ### _law_pull -/

def pre__law_pull : List PyData → Prop := fun ds => ∃ m : Int, ds = [.int m] ∧ 0 < m ∧ m < 1000001
def post__law_pull : List PyData → PyData → Prop := fun ds d => ∃ m z : Int, ds = [.int m] ∧ d = .int z ∧ 0 ≤ z ∧ z < m
abbrev sp__law_pull (K : PySem.W.Frag) : Sp := SpW K pre__law_pull post__law_pull
theorem len__law_pull (K : PySem.W.Frag) (vs : List V) (H : Hp) (Q : VK) (E : XK) (h : sp__law_pull K vs H Q E) : vs.length = p__law_pull.length := len_W (n := 1) h fun ds hp => by
  obtain ⟨m, e, hm0, hm1⟩ := hp
  rw [e]; rfl
def t__law_pull (K : PySem.W.Frag) : TS :=
  (tSeq (tIfS (tTest (tOp (rI0 fun i j => .bl (decide (j < i))) (tOp (rIx K) (tVar 0) (tC (.int 0))) (tC (.int 0)))) (tSeq (tAsg (tOp rModA (tCB rIntQ (tCons (tOp (rIx K) (tVar 0) (tC (.int 0))) tNil)) (tVar 1)) (gName 2))
  (tSeq (tAsg (tOp rFdA (tOp (rIx K) (tVar 0) (tC (.int 0))) (tVar 1)) (gSub (tVar 0) (tC (.int 0)) rSetL))
  (tRet (tVar 2)))) tNext)
  (tSeq (tAsg (tOp (rAddA K) (tOp (rIx K) (tVar 0) (tC (.int 2))) (tC (.int 1))) (gSub (tVar 0) (tC (.int 2)) rSetL))
  (tSeq (tAsg (tOp rModA (tCB rIntQ (tCons (tOp (rAddA K) (tOp (rAddA K) (tOp (rMulA K) (tOp (rIx K) (tVar 0) (tC (.int 1))) (tC (.int 41358))) (tOp (rMulA K) (tC (.int 60013)) (tOp (rIx K) (tVar 0) (tC (.int 2))))) (tC (.int 7))) tNil)) (tC (.int 2147483579))) (gSub (tVar 0) (tC (.int 1)) rSetL))
  (tRet (tOp rModA (tCB rIntQ (tCons (tOp rFdA (tOp (rIx K) (tVar 0) (tC (.int 1))) (tC (.int 113))) tNil)) (tVar 1))))))
theorem pure__law_pull (K : PySem.W.Frag) (vs : List V) (H : Hp) (Q : VK) (E : XK) (h : sp__law_pull K vs H Q E) : t__law_pull K { nx := fun _ H' => Q .non H', rt := Q } (L2.start N__law_pull vs) H := body_W h (by decide) fun B w ds hp => by
  obtain ⟨m, e, hm0, hm1⟩ := hp
  subst e
  unfold t__law_pull
  refine st_seq (st_if (et_test (ev_op ?_)))
  refine ev_well rfl (ev_int ⟨0, rfl, .inl rfl, fun n hn _ => ?_⟩)
  refine ev_int (rok_b0 ⟨_, rfl, fun hb => ?_, fun hb => ?_⟩)
  · refine st_seq (st_asg (ev_op (ev_cb (ea_cons (ev_well rfl (ev_int ⟨0, rfl, .inl rfl, fun n hn _ => ea_nil (co_int (ev_var rfl (ro_mod hm0 ?_)))⟩))))))
    refine st_seq (st_setWell rfl (ev_op (ev_well rfl (ev_int ⟨0, rfl, .inl rfl, fun n2 hn2 _ => ev_var rfl (ro_fd ⟨hm0, by omega⟩ (ev_int ⟨_, 0, rfl, rfl, .inl rfl, fun _ => Int.ediv_nonneg (hn2 rfl) (by omega), fun z => absurd z (by decide), ?_⟩))⟩))))
    exact st_ret (ev_var rfl ⟨m, _, rfl, rfl, Int.emod_nonneg _ (by omega), Int.emod_lt_of_pos _ hm0⟩)
  · refine st_next (st_seq (st_setWell rfl ?_))
    refine ev_op (ev_well rfl (ev_int ⟨2, rfl, .inr (.inr rfl), fun n _ _ => ?_⟩))
    refine ev_int (ro_add ?_)
    refine ev_int ⟨_, 2, rfl, rfl, .inr (.inr rfl), by omega, by omega, ?_⟩
    refine st_seq (st_setWell rfl (ev_op (ev_cb (ea_cons (ev_op (ev_op (ev_op (ev_well rfl (ev_int ⟨1, rfl, .inr (.inl rfl), fun b _ hb => ?_⟩)))))))))
    refine ev_int (ro_mul (.inr (by decide)) (ev_op (ev_int (ev_well rfl (ev_int ⟨2, rfl, .inr (.inr rfl), fun c _ _ => ?_⟩)))))
    refine ro_mul (.inl (by decide)) (ro_add (ev_int (ro_add (ea_nil (co_int (ev_int (ro_mod (by decide) ?_)))))))
    refine ev_int ⟨_, 1, rfl, rfl, .inr (.inl rfl), by omega, fun _ => ⟨Int.emod_nonneg _ (by decide), Int.lt_trans (Int.emod_lt_of_pos _ (by decide)) (by decide)⟩, ?_⟩
    refine st_ret (ev_op (ev_cb (ea_cons (ev_op (ev_well rfl (ev_int ⟨1, rfl, .inr (.inl rfl), fun b _ hb => ?_⟩))))))
    refine ev_int (ro_fd (by decide) (ea_nil (co_int (ev_var rfl (ro_mod hm0 ?_)))))
    exact ⟨m, _, rfl, rfl, Int.emod_nonneg _ (by omega), Int.emod_lt_of_pos _ hm0⟩
theorem ok__law_pull (T : Tx K mg) : FnOk P w K mg base CX0 1 T.a__law_pull T.d__law_pull p__law_pull (sp__law_pull K) := by
  refine T.F__law_pull.ok sc__law_pull (fun vs H Q E h => len__law_pull K vs H Q E h) (fun cdv A outer s H vs Q E hr h => ?_)
  exact ⟨t__law_pull K, (pss_cons (ps_if (pt_cmpR op_gt (pe_ix ix_seq (pv 0) pe_int (fun _ _ => rfl)) pe_int (nomark _)) (pss_cons (ps_set (i := 2) sc__law_pull.nd rfl (Or.inl rfl) (pe_op op_modA (pe_callTy call_int1 (by rfl) T.n_int (by decide +kernel) (pa_cons (pe_ix ix_seq (pv 0) pe_int (fun _ _ => rfl)) pa_nil)) (pv 1)))
  (pss_cons (ps_asg (pe_op op_fdA (pe_ix ix_seq (pv 0) pe_int (fun _ _ => rfl)) (pv 1)) (pg_sub (pv 0) pe_int set_list))
  (pss_one (ps_ret (pv 2))))) pss_nil)
  (pss_cons (ps_asg (pe_op op_addA (pe_ix ix_seq (pv 0) pe_int (fun _ _ => rfl)) pe_int) (pg_sub (pv 0) pe_int set_list))
  (pss_cons (ps_asg (pe_op op_modA (pe_callTy call_int1 (by rfl) T.n_int (by decide +kernel) (pa_cons (pe_op op_addA (pe_op op_addA (pe_op op_mulA (pe_ix ix_seq (pv 0) pe_int (fun _ _ => rfl)) pe_int) (pe_op op_mulA pe_int (pe_ix ix_seq (pv 0) pe_int (fun _ _ => rfl)))) pe_int) pa_nil)) pe_int) (pg_sub (pv 0) pe_int set_list))
  (pss_one (ps_ret (pe_op op_modA (pe_callTy call_int1 (by rfl) T.n_int (by decide +kernel) (pa_cons (pe_op op_fdA (pe_ix ix_seq (pv 0) pe_int (fun _ _ => rfl)) pe_int) pa_nil)) (pv 1))))))), pure__law_pull K vs H Q E h⟩
/-! ### _law_from -/

def pre__law_from : List PyData → Prop := fun ds => ∃ xs : List PyData, ds = [.list xs] ∧ 0 < xs.length ∧ xs.length < 1000
def post__law_from : List PyData → PyData → Prop := fun ds d => ∃ xs : List PyData, ds = [.list xs] ∧ d ∈ xs
abbrev sp__law_from (K : PySem.W.Frag) : Sp := SpW K pre__law_from post__law_from
theorem len__law_from (K : PySem.W.Frag) (vs : List V) (H : Hp) (Q : VK) (E : XK) (h : sp__law_from K vs H Q E) : vs.length = p__law_from.length := len_W (n := 1) h fun ds hp => by
  obtain ⟨xs, e, h0, h1⟩ := hp
  rw [e]; rfl
def t__law_from (K : PySem.W.Frag) : TS :=
  (tRet (tOp (rIx K) (tVar 1) (tCall (sp__law_pull K) [] E0 (tCons (tVar 0) (tCons (tCB (rLenQ K) (tCons (tVar 1) tNil)) tNil)))))
theorem pure__law_from (K : PySem.W.Frag) (vs : List V) (H : Hp) (Q : VK) (E : XK) (h : sp__law_from K vs H Q E) : t__law_from K { nx := fun _ H' => Q .non H', rt := Q } (L2.start N__law_from vs) H := body_W h (by decide) fun B w ds hp => by
  obtain ⟨xs, e, h0, h1⟩ := hp
  subst e
  unfold t__law_from
  refine st_ret (ev_op (ev_var rfl (ev_callW rfl ?_)))
  walk_at "dd"
  refine ⟨⟨_, rfl, by omega, by omega⟩, fun d ⟨m, z, em, ed, hz0, hz1⟩ => ?_⟩
  cases em
  subst ed
  obtain ⟨j, rfl⟩ := Int.eq_ofNat_of_zero_le hz0
  have hj : j < xs.length := by omega
  exact rok_ixsL (d := xs[j]) (atI_nat (List.getElem?_eq_getElem hj)) ⟨xs, rfl, List.getElem_mem hj⟩
theorem ok__law_from (T : Tx K mg) : FnOk P w K mg base CX0 2 T.a__law_from T.d__law_from p__law_from (sp__law_from K) := by
  refine T.F__law_from.ok sc__law_from (fun vs H Q E h => len__law_from K vs H Q E h) (fun cdv A outer s H vs Q E hr h => ?_)
  exact ⟨t__law_from K, (pss_one (ps_ret (pe_ix ix_seq (pv 1) (pe_call (ok__law_pull T) (hr.mono (by decide)) rfl T.g__law_pull T.F__law_pull.kp (b__law_pull T) .nil pass0 (pa_cons (pv 0) (pa_cons (pe_callB call_len_seq (by rfl) T.n_len (by decide +kernel) (pa_cons (pv 1) pa_nil)) pa_nil))) (fun _ _ => rfl)))), pure__law_from K vs H Q E h⟩
/-! ### _law_common -/

def pre__law_common : List PyData → Prop := fun ds => ∃ a b : Int, ds = [.int a, .int b]
def post__law_common : List PyData → PyData → Prop := fun ds d => ∃ a b : Int, ds = [.int a, .int b] ∧ d = .int ((Nat.gcd a.natAbs b.natAbs : Nat) : Int)
abbrev sp__law_common (K : PySem.W.Frag) : Sp := SpP K pre__law_common post__law_common
theorem len__law_common (K : PySem.W.Frag) (vs : List V) (H : Hp) (Q : VK) (E : XK) (h : sp__law_common K vs H Q E) : vs.length = p__law_common.length := len_P (n := 2) h fun ds hp => by
  obtain ⟨a, b, e⟩ := hp
  rw [e]; rfl
def t__law_common (K : PySem.W.Frag) : TS :=
  (tSeq (tPar 0 1 (tCons (tCB rAbsQ (tCons (tVar 0) tNil)) (tCons (tCB rAbsQ (tCons (tVar 1) tNil)) tNil)))
  (tSeq (tWhile (tTest (tOp (rI0 fun i j => .bl (decide (j < i))) (tVar 1) (tC (.int 0)))) (tPar 0 1 (tCons (tVar 1) (tCons (tOp rModA (tCB rIntQ (tCons (tVar 0) tNil)) (tVar 1)) tNil))))
  (tRet (tVar 0))))
theorem pure__law_common (K : PySem.W.Frag) (vs : List V) (H : Hp) (Q : VK) (E : XK) (h : sp__law_common K vs H Q E) : t__law_common K { nx := fun _ H' => Q .non H', rt := Q } (L2.start N__law_common vs) H := body_P h fun B ds hW hp => by
  obtain ⟨a, b, e⟩ := hp
  subst e
  unfold t__law_common
  refine st_seq (st_par ?_)
  walk_at "dd"
  refine ⟨_, _, rfl, ?_⟩
  refine st_seq (st_while (fun m L2 Γ2 => ∃ x y : Int, L2 = [] ∧ Γ2 = [.d (.int x), .d (.int y)] ∧ 0 ≤ x ∧ 0 ≤ y ∧ m = y.toNat ∧ Nat.gcd x.natAbs y.natAbs = Nat.gcd a.natAbs b.natAbs) b.natAbs ⟨_, _, rfl, rfl, ?_, ?_, ?_, ?_⟩ ?_)
  · split <;> omega
  · split <;> omega
  · split <;> omega
  · congr 1 <;> (split <;> omega)
  · rintro m L2 Γ2 ⟨x, y, rfl, rfl, hx, hy, rfl, hg⟩
    walk_at "dd"
    refine ⟨fun hb => ?_, fun hb => ?_⟩
    · have hy' : 0 < y := of_decide_eq_true hb
      refine st_par ?_
      walk_at "dd"
      refine ro_mod hy' (ea_nil ⟨_, _, rfl, (x % y).toNat, ?_, y, x % y, rfl, rfl, hy, Int.emod_nonneg _ (by omega), rfl, ?_⟩)
      · have h1 := Int.emod_lt_of_pos x hy'
        have h2 := Int.emod_nonneg x (show y ≠ 0 by omega)
        omega
      · rw [← hg]
        have e1 : (x % y).natAbs = x.natAbs % y.natAbs := by
          obtain ⟨p, rfl⟩ := Int.eq_ofNat_of_zero_le hx
          obtain ⟨q, rfl⟩ := Int.eq_ofNat_of_zero_le hy
          rw [← Int.natCast_emod]
          simp only [Int.natAbs_natCast]
        rw [e1, Nat.gcd_comm x.natAbs y.natAbs, Nat.gcd_comm y.natAbs (x.natAbs % y.natAbs), ← Nat.gcd_rec]
    · have hy' : y = 0 := by
        have := of_decide_eq_false hb
        omega
      subst hy'
      refine st_ret (ev_var rfl ⟨a, b, rfl, ?_⟩)
      rw [← hg]
      show PyData.int x = PyData.int ((Nat.gcd x.natAbs 0 : Nat) : Int)
      rw [Nat.gcd_zero_right]
      congr 1
      omega
theorem ok__law_common (T : Tx K mg) : FnOk P w K mg base CX0 1 T.a__law_common T.d__law_common p__law_common (sp__law_common K) := by
  refine T.F__law_common.ok sc__law_common (fun vs H Q E h => len__law_common K vs H Q E h) (fun cdv A outer s H vs Q E hr h => ?_)
  exact ⟨t__law_common K, (pss_cons (ps_par (by rfl) sc__law_common.nd rfl rfl (by decide) rfl rfl (pa_cons (pe_callB call_abs (by rfl) T.n_abs (by decide +kernel) (pa_cons (pv 0) pa_nil)) (pa_cons (pe_callB call_abs (by rfl) T.n_abs (by decide +kernel) (pa_cons (pv 1) pa_nil)) pa_nil)) (by rfl))
  (pss_cons (ps_while PassesOwn.never (pt_cmpR op_gt (pv 1) pe_int (nomark _)) (pss_one (ps_par (by rfl) sc__law_common.nd rfl rfl (by decide) rfl rfl (pa_cons (pv 1) (pa_cons (pe_op op_modA (pe_callTy call_int1 (by rfl) T.n_int (by decide +kernel) (pa_cons (pv 0) pa_nil)) (pv 1)) pa_nil)) (by rfl))))
  (pss_one (ps_ret (pv 0))))), pure__law_common K vs H Q E h⟩
/-! ### _law_frac -/

def pre__law_frac : List PyData → Prop := fun ds => ∃ n m : Int, ds = [.int n, .int m] ∧ 0 < m ∧ m.natAbs < 2 ^ 9000
def post__law_frac : List PyData → PyData → Prop := fun ds d => ∃ n m : Int, ds = [.int n, .int m] ∧ ∃ x : Fr, d = frD x ∧ FOk x ∧ val x = (n : Rat) / (m : Rat) ∧ x.1.natAbs ≤ n.natAbs ∧ x.2.natAbs ≤ m.natAbs
abbrev sp__law_frac (K : PySem.W.Frag) : Sp := SpP K pre__law_frac post__law_frac
theorem len__law_frac (K : PySem.W.Frag) (vs : List V) (H : Hp) (Q : VK) (E : XK) (h : sp__law_frac K vs H Q E) : vs.length = p__law_frac.length := len_P (n := 2) h fun ds hp => by
  obtain ⟨n, m, e, hm, hz⟩ := hp
  rw [e]; rfl
def t__law_frac (K : PySem.W.Frag) : TS :=
  (tSeq (tAsg (tCall (sp__law_common K) [] E0 (tCons (tVar 0) (tCons (tVar 1) tNil))) (gName 2))
  (tSeq (tAsg (tIf (tTest (tOp (rI0 fun i j => .bl (decide (j < i))) (tVar 1) (tC (.int 0)))) (tVar 2) (tOp (rI0 fun i j => .int (i - j)) (tC (.int 0)) (tVar 2))) (gName 2))
  (tRet (tTup (tCons (tOp rFdA (tVar 0) (tVar 2)) (tCons (tOp rFdA (tVar 1) (tVar 2)) tNil))))))
theorem pure__law_frac (K : PySem.W.Frag) (vs : List V) (H : Hp) (Q : VK) (E : XK) (h : sp__law_frac K vs H Q E) : t__law_frac K { nx := fun _ H' => Q .non H', rt := Q } (L2.start N__law_frac vs) H := body_P h fun B ds hW hp => by
  obtain ⟨n, m, e, hm0, hz⟩ := hp
  subst e
  unfold t__law_frac
  have hm : m ≠ 0 := by omega
  refine st_seq (st_asg (ev_callP (ea_cons (ev_var rfl (ea_cons (ev_var rfl (ea_nil ⟨⟨_, _, rfl⟩, fun d ⟨a, b, eab, ed⟩ => ?_⟩)))))))
  cases eab
  subst ed
  have hg : 0 < Nat.gcd n.natAbs m.natAbs := Nat.gcd_pos_of_pos_right _ (by omega)
  have gl : Nat.gcd n.natAbs m.natAbs ≤ m.natAbs := Nat.le_of_dvd (by omega) (Nat.gcd_dvd_right _ _)
  obtain ⟨p, hp⟩ : ((Nat.gcd n.natAbs m.natAbs : Nat) : Int) ∣ n := Int.ofNat_dvd_left.mpr (Nat.gcd_dvd_left _ _)
  obtain ⟨r, hr⟩ : ((Nat.gcd n.natAbs m.natAbs : Nat) : Int) ∣ m := Int.ofNat_dvd_left.mpr (Nat.gcd_dvd_right _ _)
  have hc : Nat.gcd p.natAbs r.natAbs = 1 := by
    have e1 : n.natAbs = Nat.gcd n.natAbs m.natAbs * p.natAbs := by
      conv => lhs; rw [hp, Int.natAbs_mul, Int.natAbs_natCast]
    have e2 : m.natAbs = Nat.gcd n.natAbs m.natAbs * r.natAbs := by
      conv => lhs; rw [hr, Int.natAbs_mul, Int.natAbs_natCast]
    have e3 : Nat.gcd (Nat.gcd n.natAbs m.natAbs * p.natAbs) (Nat.gcd n.natAbs m.natAbs * r.natAbs) = Nat.gcd n.natAbs m.natAbs * Nat.gcd p.natAbs r.natAbs := Nat.gcd_mul_left ..
    rw [← e1, ← e2] at e3
    exact Nat.eq_of_mul_eq_mul_left hg (by rw [Nat.mul_one]; exact e3.symm)
  generalize Nat.gcd n.natAbs m.natAbs = g at *
  have hg0 : (0 : Int) < (g : Int) := by omega
  have dn : n / (g : Int) = p := by
    rw [hp]
    exact Int.mul_ediv_cancel_left _ (by omega)
  have dm : m / (g : Int) = r := by
    rw [hr]
    exact Int.mul_ediv_cancel_left _ (by omega)
  have cd : CDivW 0 (g : Int) := by
    refine ⟨hg0, ?_⟩
    have := lg (x := (g : Int)) (m := 9000) (by rw [Int.natAbs_natCast]; omega)
    rw [Int.natAbs_natCast] at this ⊢
    exact (Nat.log2_lt (by omega)).mpr (by omega)
  have cdn : CDivW n (g : Int) := cd
  have cdm : CDivW m (g : Int) := cd
  have rn := ratInt_ne hm
  have rg := ratInt_ne (a := (g : Int)) (by omega)
  have ln : p.natAbs ≤ n.natAbs := by
    rw [hp, Int.natAbs_mul, Int.natAbs_natCast]
    exact Nat.le_mul_of_pos_left _ hg
  have lm : r.natAbs ≤ m.natAbs := by
    rw [hr, Int.natAbs_mul, Int.natAbs_natCast]
    exact Nat.le_mul_of_pos_left _ hg
  have vp : (n : Rat) = (g : Int) * (p : Rat) := by
    conv => lhs; rw [hp]
    exact Rat.intCast_mul _ _
  have vr : (m : Rat) = (g : Int) * (r : Rat) := by
    conv => lhs; rw [hr]
    exact Rat.intCast_mul _ _
  refine st_seq (st_asg (ev_if (et_test (ev_op (ev_var rfl (ev_int (rok_b0 ⟨_, rfl, fun _ => ev_var rfl ?_, fun hb => absurd (of_decide_eq_false hb) (by omega)⟩)))))))
  have r0 : 0 < r := by
    rcases Int.lt_trichotomy r 0 with z | z | z
    · have := Int.mul_neg_of_pos_of_neg hg0 z
      omega
    · rw [z] at hr
      omega
    · exact z
  refine st_ret (ev_tup (ea_cons (ev_op (ev_var rfl (ev_var rfl (ro_fdW cdn ?_))))))
  refine ea_cons (ev_op (ev_var rfl (ev_var rfl (ro_fdW cdm (ea_nil ⟨by simp, n, m, rfl, (p, r), ?_, ⟨r0, hc⟩, ?_, ln, lm⟩)))))
  · rw [dn, dm]
    rfl
  · have := ratInt_ne (a := r) (by omega)
    unfold val
    rw [vp, vr]
    grind

theorem ok__law_frac (T : Tx K mg) : FnOk P w K mg base CX0 2 T.a__law_frac T.d__law_frac p__law_frac (sp__law_frac K) := by
  refine T.F__law_frac.ok sc__law_frac (fun vs H Q E h => len__law_frac K vs H Q E h) (fun cdv A outer s H vs Q E hr h => ?_)
  exact ⟨t__law_frac K, (pss_cons (ps_set (i := 2) sc__law_frac.nd rfl (Or.inl rfl) (pe_call (ok__law_common T) (hr.mono (by decide)) rfl T.g__law_common T.F__law_common.kp (b__law_common T) .nil pass0 (pa_cons (pv 0) (pa_cons (pv 1) pa_nil))))
  (pss_cons (ps_set (i := 2) sc__law_frac.nd rfl (Or.inl rfl) (pe_ifExp (pt_cmpR op_gt (pv 1) pe_int (nomark _)) (pv 2) (pe_op op_sub pe_int (pv 2))))
  (pss_one (ps_ret (pe_tup (pa_cons (pe_op op_fdA (pv 0) (pv 2)) (pa_cons (pe_op op_fdA (pv 1) (pv 2)) pa_nil))))))), pure__law_frac K vs H Q E h⟩
/-! ### _law_plus -/

def pre__law_plus : List PyData → Prop := fun ds => ∃ x y : Fr, ds = [frD x, frD y] ∧ Sm x ∧ Sm y
def post__law_plus : List PyData → PyData → Prop := fun ds d => ∃ x y r : Fr, ds = [frD x, frD y] ∧ d = frD r ∧ FOk r ∧ val r = val x + val y
abbrev sp__law_plus (K : PySem.W.Frag) : Sp := SpP K pre__law_plus post__law_plus
theorem len__law_plus (K : PySem.W.Frag) (vs : List V) (H : Hp) (Q : VK) (E : XK) (h : sp__law_plus K vs H Q E) : vs.length = p__law_plus.length := len_P (n := 2) h fun ds hp => by
  obtain ⟨x, y, e, hx, hy⟩ := hp
  rw [e]; rfl
def t__law_plus (K : PySem.W.Frag) : TS :=
  (tRet (tCall (sp__law_frac K) [] E0 (tCons (tOp (rAddA K) (tOp (rMulA K) (tOp (rIx K) (tVar 0) (tC (.int 0))) (tOp (rIx K) (tVar 1) (tC (.int 1)))) (tOp (rMulA K) (tOp (rIx K) (tVar 1) (tC (.int 0))) (tOp (rIx K) (tVar 0) (tC (.int 1))))) (tCons (tOp (rMulA K) (tOp (rIx K) (tVar 0) (tC (.int 1))) (tOp (rIx K) (tVar 1) (tC (.int 1)))) tNil))))
theorem pure__law_plus (K : PySem.W.Frag) (vs : List V) (H : Hp) (Q : VK) (E : XK) (h : sp__law_plus K vs H Q E) : t__law_plus K { nx := fun _ H' => Q .non H', rt := Q } (L2.start N__law_plus vs) H := body_P h fun B ds hW hp => by
  obtain ⟨x, y, e, hx, hy⟩ := hp
  subst e
  unfold t__law_plus
  obtain ⟨x1, x2, x3⟩ := hx
  obtain ⟨y1, y2, y3⟩ := hy
  have nx := ratInt_ne (a := x.2) (by omega)
  have ny := ratInt_ne (a := y.2) (by omega)
  refine st_ret (ev_callP ?_)
  walk_at "dd"
  refine ro_mulW (mulW_of x2 y3 (by decide)) ?_
  walk_at "dd"
  refine ro_mulW (mulW_of y2 x3 (by decide)) ?_
  walk_at "dd"
  refine ro_mulW (mulW_of x3 y3 (by decide)) ?_
  have hm : 0 < x.2 * y.2 := Int.mul_pos x1 y1
  refine ea_nil ⟨⟨_, _, rfl, hm, pow_up (natAbs_mul_lt x3 y3) (by decide)⟩, fun d ⟨n', m', en, r, ed, f, v, _, _⟩ => ?_⟩
  simp only [List.cons.injEq, PyData.int.injEq, and_true] at en
  obtain ⟨rfl, rfl⟩ := en
  refine ⟨x, y, r, rfl, ed, f, ?_⟩
  rw [v]
  unfold val
  rw [Rat.intCast_add, Rat.intCast_mul, Rat.intCast_mul, Rat.intCast_mul]
  grind
theorem ok__law_plus (T : Tx K mg) : FnOk P w K mg base CX0 3 T.a__law_plus T.d__law_plus p__law_plus (sp__law_plus K) := by
  refine T.F__law_plus.ok sc__law_plus (fun vs H Q E h => len__law_plus K vs H Q E h) (fun cdv A outer s H vs Q E hr h => ?_)
  exact ⟨t__law_plus K, (pss_one (ps_ret (pe_call (ok__law_frac T) (hr.mono (by decide)) rfl T.g__law_frac T.F__law_frac.kp (b__law_frac T) .nil pass0 (pa_cons (pe_op op_addA (pe_op op_mulA (pe_ix ix_seq (pv 0) pe_int (fun _ _ => rfl)) (pe_ix ix_seq (pv 1) pe_int (fun _ _ => rfl))) (pe_op op_mulA (pe_ix ix_seq (pv 1) pe_int (fun _ _ => rfl)) (pe_ix ix_seq (pv 0) pe_int (fun _ _ => rfl)))) (pa_cons (pe_op op_mulA (pe_ix ix_seq (pv 0) pe_int (fun _ _ => rfl)) (pe_ix ix_seq (pv 1) pe_int (fun _ _ => rfl))) pa_nil))))), pure__law_plus K vs H Q E h⟩
/-! ### _law_by -/

def pre__law_by : List PyData → Prop := fun ds => ∃ x y : Fr, ds = [frD x, frD y] ∧ Sm x ∧ Sm y
def post__law_by : List PyData → PyData → Prop := fun ds d => ∃ x y r : Fr, ds = [frD x, frD y] ∧ d = frD r ∧ FOk r ∧ val r = val x * val y
abbrev sp__law_by (K : PySem.W.Frag) : Sp := SpP K pre__law_by post__law_by
theorem len__law_by (K : PySem.W.Frag) (vs : List V) (H : Hp) (Q : VK) (E : XK) (h : sp__law_by K vs H Q E) : vs.length = p__law_by.length := len_P (n := 2) h fun ds hp => by
  obtain ⟨x, y, e, hx, hy⟩ := hp
  rw [e]; rfl
def t__law_by (K : PySem.W.Frag) : TS :=
  (tRet (tCall (sp__law_frac K) [] E0 (tCons (tOp (rMulA K) (tOp (rIx K) (tVar 0) (tC (.int 0))) (tOp (rIx K) (tVar 1) (tC (.int 0)))) (tCons (tOp (rMulA K) (tOp (rIx K) (tVar 0) (tC (.int 1))) (tOp (rIx K) (tVar 1) (tC (.int 1)))) tNil))))
theorem pure__law_by (K : PySem.W.Frag) (vs : List V) (H : Hp) (Q : VK) (E : XK) (h : sp__law_by K vs H Q E) : t__law_by K { nx := fun _ H' => Q .non H', rt := Q } (L2.start N__law_by vs) H := body_P h fun B ds hW hp => by
  obtain ⟨x, y, e, hx, hy⟩ := hp
  subst e
  unfold t__law_by
  obtain ⟨x1, x2, x3⟩ := hx
  obtain ⟨y1, y2, y3⟩ := hy
  have nx := ratInt_ne (a := x.2) (by omega)
  have ny := ratInt_ne (a := y.2) (by omega)
  refine st_ret (ev_callP ?_)
  walk_at "dd"
  refine ro_mulW (mulW_of x2 y2 (by decide)) ?_
  walk_at "dd"
  refine ro_mulW (mulW_of x3 y3 (by decide)) ?_
  have hm : 0 < x.2 * y.2 := Int.mul_pos x1 y1
  refine ea_nil ⟨⟨_, _, rfl, hm, pow_up (natAbs_mul_lt x3 y3) (by decide)⟩, fun d ⟨n', m', en, r, ed, f, v, _, _⟩ => ?_⟩
  simp only [List.cons.injEq, PyData.int.injEq, and_true] at en
  obtain ⟨rfl, rfl⟩ := en
  refine ⟨x, y, r, rfl, ed, f, ?_⟩
  rw [v]
  unfold val
  rw [Rat.intCast_mul, Rat.intCast_mul]
  grind
theorem ok__law_by (T : Tx K mg) : FnOk P w K mg base CX0 3 T.a__law_by T.d__law_by p__law_by (sp__law_by K) := by
  refine T.F__law_by.ok sc__law_by (fun vs H Q E h => len__law_by K vs H Q E h) (fun cdv A outer s H vs Q E hr h => ?_)
  exact ⟨t__law_by K, (pss_one (ps_ret (pe_call (ok__law_frac T) (hr.mono (by decide)) rfl T.g__law_frac T.F__law_frac.kp (b__law_frac T) .nil pass0 (pa_cons (pe_op op_mulA (pe_ix ix_seq (pv 0) pe_int (fun _ _ => rfl)) (pe_ix ix_seq (pv 1) pe_int (fun _ _ => rfl))) (pa_cons (pe_op op_mulA (pe_ix ix_seq (pv 0) pe_int (fun _ _ => rfl)) (pe_ix ix_seq (pv 1) pe_int (fun _ _ => rfl))) pa_nil))))), pure__law_by K vs H Q E h⟩
/-! ### _law_cut -/
theorem frow1 {r s : List Fr} (h : [frowD r] = [frowD s]) : r = s := by
  unfold frowD at h
  simp only [List.cons.injEq, PyData.list.injEq, and_true] at h
  exact mapF_inj h
theorem frow2 {r s r' s' : List Fr} (h : [frowD r, frowD s] = [frowD r', frowD s']) : r = r' ∧ s = s' := by
  unfold frowD at h
  simp only [List.cons.injEq, PyData.list.injEq, and_true] at h
  exact ⟨mapF_inj h.1, mapF_inj h.2⟩
/-- what is left of a row without the noughts at its end -/
theorem cut_row {r : List Fr} {m : Nat} (ho : ∀ y ∈ r, FOk y) (hm : m ≤ r.length) (hz : 0 < m → (r.getD (m - 1) (0, 1)).1 ≠ 0) (h0 : ∀ j, m ≤ j → (r.getD j (0, 1)).1 = 0) : (∀ y ∈ r.take m, FOk y) ∧ Tr (r.take m) ∧ ∀ x, pF (r.take m) x = pF r x := by
  refine ⟨fun y hy => ho y (List.mem_of_mem_take hy), fun y hy => ?_, fun x => pF_ext (fun k => ?_) x⟩
  · by_cases q : 0 < m
    · have e : (r.take m).getLast? = some (r.getD (m - 1) (0, 1)) := by
        rw [List.getLast?_eq_getElem?, List.length_take, Nat.min_eq_left hm, List.getElem?_take, if_pos (by omega), List.getD_eq_getElem?_getD, List.getElem?_eq_getElem (by omega)]
        rfl
      rw [e] at hy
      rw [← Option.some.inj hy]
      exact hz q
    · rw [show m = 0 by omega] at hy
      simp at hy
  · by_cases q : k < m
    · rw [List.getD_eq_getElem?_getD, List.getD_eq_getElem?_getD, List.getElem?_take, if_pos q]
    · have e : (r.take m).getD k (0, 1) = (0, 1) := get_out (by rw [List.length_take]; omega)
      have f := ((val_pos (get_ok ho k).1).2.2).mpr (h0 k (by omega))
      rw [e, val_zero, f]

def pre__law_cut : List PyData → Prop := fun ds => ∃ r : List Fr, ds = [frowD r] ∧ r.length ≤ 1000
def post__law_cut : List PyData → PyData → Prop := fun ds d => ∃ (r : List Fr) (m : Nat), ds = [frowD r] ∧ d = frowD (r.take m) ∧ m ≤ r.length ∧ (0 < m → (r.getD (m - 1) (0, 1)).1 ≠ 0) ∧ ∀ j, m ≤ j → (r.getD j (0, 1)).1 = 0
abbrev sp__law_cut (K : PySem.W.Frag) : Sp := SpP K pre__law_cut post__law_cut
theorem len__law_cut (K : PySem.W.Frag) (vs : List V) (H : Hp) (Q : VK) (E : XK) (h : sp__law_cut K vs H Q E) : vs.length = p__law_cut.length := len_P (n := 1) h fun ds hp => by
  obtain ⟨r, e, hl⟩ := hp
  rw [e]; rfl
def t__law_cut (K : PySem.W.Frag) : TS :=
  (tSeq (tAsg (tCB (rLenQ K) (tCons (tVar 0) tNil)) (gName 1))
  (tSeq (tFor (iRng1 (tCons (tCB (rLenQ K) (tCons (tVar 0) tNil)) tNil)) (gName 2) (tIfS (tAnd (tTest (tOp (rI0 fun i j => .bl (decide (j < i))) (tVar 1) (tC (.int 0)))) (tTest (tOp rEq (tOp (rIx K) (tOp (rIx K) (tVar 0) (tOp (rI0 fun i j => .int (i - j)) (tVar 1) (tC (.int 1)))) (tC (.int 0))) (tC (.int 0))))) (tAsg (tOp (rI0 fun i j => .int (i - j)) (tVar 1) (tC (.int 1))) (gName 1)) tNext))
  (tRet (tCB (rListQ K) (tCons (tSl (rSlX2 K) (tVar 0) tNoPart (tPart (tVar 1))) tNil)))))
theorem pure__law_cut (K : PySem.W.Frag) (vs : List V) (H : Hp) (Q : VK) (E : XK) (h : sp__law_cut K vs H Q E) : t__law_cut K { nx := fun _ H' => Q .non H', rt := Q } (L2.start N__law_cut vs) H := body_P h fun B ds hW hp => by
  obtain ⟨r, e, hl⟩ := hp
  subst e
  unfold t__law_cut
  have out : ∀ j, r.length ≤ j → (r.getD j (0, 1)).1 = 0 := fun j hj => by rw [get_out hj]
  refine st_seq (st_asg (ev_cb (ea_cons (ev_var rfl (ea_nil (co_lenL ?_))))))
  rw [List.length_map]
  refine st_seq (st_forR (ea_cons (ev_cb (ea_cons (ev_var rfl (ea_nil (co_lenL (ea_nil ⟨_, rfl, by omega, by first | omega | (simp; omega), fun i L2 Γ2 => ∃ (m : Nat) (s : Sl), L2 = [] ∧ Γ2 = [.d (frowD r), .d (.int (m : Int)), s] ∧ m ≤ r.length ∧ (m + i = r.length ∨ (0 < m → (r.getD (m - 1) (0, 1)).1 ≠ 0)) ∧ ∀ j, m ≤ j → (r.getD j (0, 1)).1 = 0, ⟨r.length, .un, rfl, rfl, Nat.le_refl _, .inl (by omega), out⟩, ?_, ?_⟩))))))))
  · rintro i L2 Γ2 hi ⟨m, s, rfl, rfl, hm, hz, h0⟩
    refine st_if (et_and (et_test (ev_op (ev_var rfl (ev_int (rok_b0 ⟨_, rfl, fun hb => ?_, fun hb => ⟨(fun z => nomatch z), fun _ => st_next ?_⟩⟩))))))
    · have m0 : 0 < m := by
        have := of_decide_eq_true hb
        omega
      have hx : atI (r.map frD) ((m : Int) - 1) = some (frD (r.getD (m - 1) (0, 1))) := by
        rw [show (m : Int) - 1 = ((m - 1 : Nat) : Int) by omega, atI_n, List.getElem?_map, List.getD_eq_getElem?_getD, List.getElem?_eq_getElem (by omega)]
        rfl
      refine et_test (ev_op (ev_op (ev_op (ev_var rfl (ev_op (ev_var rfl (ev_int (rok_i0 (rok_ixsL hx (ev_int (rok_ixsT (d := .int (r.getD (m - 1) (0, 1)).1) rfl (ev_int (rok_eqI ⟨_, rfl, fun hb2 => ?_, fun hb2 => ?_⟩)))))))))))))
      · refine st_asg (ev_op (ev_var rfl (ev_int (rok_i0 ⟨m - 1, .d (.int (i : Int)), rfl, ?_, by omega, ?_, fun j hj => ?_⟩))))
        · rw [show (m : Int) - 1 = ((m - 1 : Nat) : Int) by omega]
          rfl
        · rcases hz with q | q
          · exact .inl (by omega)
          · exact absurd (of_decide_eq_true hb2) (q m0)
        · by_cases q : j = m - 1
          · rw [q]
            exact of_decide_eq_true hb2
          · exact h0 j (by omega)
      · exact st_next ⟨m, .d (.int (i : Int)), rfl, rfl, hm, .inr fun _ => of_decide_eq_false hb2, h0⟩
    · have := of_decide_eq_false hb
      exact ⟨m, .d (.int (i : Int)), rfl, rfl, hm, .inr fun z => by omega, h0⟩
  · rintro L2 Γ2 ⟨m, s, rfl, rfl, hm, hz, h0⟩
    rw [List.length_map, Int.toNat_natCast] at hz
    refine st_ret (ev_new (en_listQ (ev_sl (ev_var rfl (eo_no (eo_some (ev_var rfl ⟨_, rfl, so_lst ⟨_, .inr rfl, ⟨r, m, rfl, ?_, hm, fun z => ?_, h0⟩⟩⟩)))))))
    · have e2 : DL.cutD (r.map frD) none (some (m : Int)) = (r.take m).map frD := by
        unfold DL.cutD
        rw [HT.sIx_none, HT.sIx_nat, List.length_map, Nat.min_eq_left hm, Nat.sub_zero, List.drop_zero, List.map_take]
      rw [e2]
      rfl
    · rcases hz with q | q
      · omega
      · exact q z
theorem ok__law_cut (T : Tx K mg) : FnOk P w K mg base CX0 1 T.a__law_cut T.d__law_cut p__law_cut (sp__law_cut K) := by
  refine T.F__law_cut.ok sc__law_cut (fun vs H Q E h => len__law_cut K vs H Q E h) (fun cdv A outer s H vs Q E hr h => ?_)
  exact ⟨t__law_cut K, (pss_cons (ps_set (i := 1) sc__law_cut.nd rfl (Or.inl rfl) (pe_callB call_len_seq (by rfl) T.n_len (by decide +kernel) (pa_cons (pv 0) pa_nil)))
  (pss_cons (ps_for PassesOwn.never rfl (pi_range1 (by rfl) T.n_range (pa_cons (pe_callB call_len_seq (by rfl) T.n_len (by decide +kernel) (pa_cons (pv 0) pa_nil)) pa_nil)) (pg_name (i := 2) sc__law_cut.nd rfl (Or.inl rfl)) (pss_one (ps_if (PW.pt (pw_and (pt_cmpR op_gt (pv 1) pe_int (nomark _)) (pw_and1 (pt_cmpR op_eq (pe_ix ix_seq (pe_ix ix_seq (pv 0) (pe_op op_sub (pv 1) pe_int) (fun _ _ => rfl)) pe_int (fun _ _ => rfl)) pe_int (nomark _))))) (pss_one (ps_set (i := 1) sc__law_cut.nd rfl (Or.inl rfl) (pe_op op_sub (pv 1) pe_int))) pss_nil)))
  (pss_one (ps_ret (pe_callTy call_list_of (by rfl) T.n_list (by decide +kernel) (pa_cons (pe_slice sl_any (pv 0) po_none (po_some (pv 1))) pa_nil)))))), pure__law_cut K vs H Q E h⟩
/-! ### _law_add -/

def pre__law_add : List PyData → Prop := fun ds => ∃ r s : List Fr, ds = [frowD r, frowD s] ∧ r.length ≤ 400 ∧ s.length ≤ 400 ∧ (∀ a ∈ r, Sm a) ∧ ∀ a ∈ s, Sm a
def post__law_add : List PyData → PyData → Prop := fun ds d => ∃ r s t : List Fr, ds = [frowD r, frowD s] ∧ d = frowD t ∧ (∀ y ∈ t, FOk y) ∧ Tr t ∧ ∀ x, pF t x = pF r x + pF s x
abbrev sp__law_add (K : PySem.W.Frag) : Sp := SpP K pre__law_add post__law_add
theorem len__law_add (K : PySem.W.Frag) (vs : List V) (H : Hp) (Q : VK) (E : XK) (h : sp__law_add K vs H Q E) : vs.length = p__law_add.length := len_P (n := 2) h fun ds hp => by
  obtain ⟨r, s, e, hl, hl2, hr, hs⟩ := hp
  rw [e]; rfl
def t__law_add (K : PySem.W.Frag) : TS :=
  (tSeq (tAsg (tCB rMax2Q (tCons (tCB (rLenQ K) (tCons (tVar 0) tNil)) (tCons (tCB (rLenQ K) (tCons (tVar 1) tNil)) tNil))) (gName 2))
  (tSeq (tAsg (tTup (tCons (tOp (rAddA K) (tCB (rListQ K) (tCons (tVar 0) tNil)) (tOp (rMulA K) (tLst (tCons (tTup (tCons (tC (.int 0)) (tCons (tC (.int 1)) tNil))) tNil)) (tOp (rI0 fun i j => .int (i - j)) (tVar 2) (tCB (rLenQ K) (tCons (tVar 0) tNil))))) (tCons (tOp (rAddA K) (tCB (rListQ K) (tCons (tVar 1) tNil)) (tOp (rMulA K) (tLst (tCons (tTup (tCons (tC (.int 0)) (tCons (tC (.int 1)) tNil))) tNil)) (tOp (rI0 fun i j => .int (i - j)) (tVar 2) (tCB (rLenQ K) (tCons (tVar 1) tNil))))) tNil))) (gTup K 2 (gCons (gName 3) (gCons (gName 4) gNil))))
  (tRet (tCall (sp__law_cut K) [] E0 (tCons (tLc (iRng1 (tCons (tVar 2) tNil)) (gName 5) tYes (tCall (sp__law_plus K) [] E0 (tCons (tOp (rIx K) (tVar 3) (tVar 5)) (tCons (tOp (rIx K) (tVar 4) (tVar 5)) tNil))) [5]) tNil)))))
theorem pure__law_add (K : PySem.W.Frag) (vs : List V) (H : Hp) (Q : VK) (E : XK) (h : sp__law_add K vs H Q E) : t__law_add K { nx := fun _ H' => Q .non H', rt := Q } (L2.start N__law_add vs) H := body_P h fun B ds hW hp => by
  obtain ⟨r, s, e, hl, hl2, hr, hs⟩ := hp
  subst e
  unfold t__law_add
  refine st_seq (st_asg (ev_cb (ea_cons (ev_cb (ea_cons (ev_var rfl (ea_nil (co_lenL (ea_cons (ev_cb (ea_cons (ev_var rfl (ea_nil (co_lenL (ea_nil (co_max ?_))))))))))))))))
  have e1 : (if (((s.map frD).length : Nat) : Int) > (((r.map frD).length : Nat) : Int) then (((s.map frD).length : Nat) : Int) else (((r.map frD).length : Nat) : Int)) = ((max r.length s.length : Nat) : Int) := by
    rw [List.length_map, List.length_map]
    split <;> omega
  rw [e1]
  refine st_seq (st_unpack ?_)
  walk_at "dd"
  refine ⟨_, .inr rfl, ?_⟩
  walk_at "dd"
  refine co_lenL ?_
  walk_at "dd"
  refine ro_repN (by simp; omega) (by simp; omega) (by simp; omega) (ro_catL (by simp; omega) ?_)
  walk_at "dd"
  refine ⟨_, .inr rfl, ?_⟩
  walk_at "dd"
  refine co_lenL ?_
  walk_at "dd"
  refine ro_repN (by simp; omega) (by simp; omega) (by simp; omega) (ro_catL (by simp; omega) ?_)
  rw [pad_eq r (by omega), pad_eq s (by omega)]
  refine ea_nil ⟨by simp, _, rfl, rfl, tg_cons (tg_cons (tg_nil ?_))⟩
  refine st_ret (ev_callP (ea_cons (ev_new (en_lcR (wipe1 5) (ea_cons (ev_var rfl (ea_nil ⟨_, rfl, by omega, by omega, fun i acc => ∃ t : List Fr, acc = t.map frD ∧ PartOk t i fun k => val (r.getD k (0, 1)) + val (s.getD k (0, 1)), ⟨⟨[], rfl, rfl, by simp, fun k hk => absurd hk (by omega)⟩, fun i D d' acc hi hJ hin => ?_⟩, fun acc hJ => ?_⟩)))))))
  · subst hi
    obtain ⟨t, rfl, ht⟩ := hJ
    refine et_yes ⟨fun _ => ?_, fun z => nomatch z⟩
    refine ev_callP ?_
    walk_at "dd"
    refine rok_ixsL (d := frD (r.getD i (0, 1))) (pad_at r (by omega)) ?_
    refine ea_cons ?_
    walk_at "dd"
    refine rok_ixsL (d := frD (s.getD i (0, 1))) (pad_at s (by omega)) (ea_nil ⟨⟨_, _, rfl, sm_getD hr i, sm_getD hs i⟩, fun d ⟨a', x', b, e, ed, f, v⟩ => ?_⟩)
    obtain ⟨rfl, rfl⟩ := frD2_inj e
    subst ed
    exact ⟨t ++ [b], by simp, ht.push f (by rw [v])⟩
  · obtain ⟨t, rfl, ht⟩ := hJ
    rw [Int.toNat_natCast] at ht
    refine ea_nil ⟨⟨t, rfl, by rw [ht.len]; omega⟩, fun d ⟨t', m, e, ed, hm, hz, h0⟩ => ?_⟩
    obtain rfl := frow1 e
    obtain ⟨f1, f2, f3⟩ := cut_row ht.ok hm hz h0
    refine ⟨r, s, _, rfl, ed, f1, f2, fun x => ?_⟩
    rw [f3]
    have := pe_lin (a := 1) (b := 1) (u := rf r) (v := rf s) (w := rf t) (fun k => by
      rw [rf_get, rf_get, rf_get]
      by_cases q : k < max r.length s.length
      · rw [ht.at_ k q]
        grind
      · rw [get_out (u := t) (by rw [ht.len]; omega), get_out (u := r) (by omega), get_out (u := s) (by omega), val_zero]
        grind) x
    unfold pF
    rw [this]
    grind
theorem ok__law_add (T : Tx K mg) : FnOk P w K mg base CX0 4 T.a__law_add T.d__law_add p__law_add (sp__law_add K) := by
  refine T.F__law_add.ok sc__law_add (fun vs H Q E h => len__law_add K vs H Q E h) (fun cdv A outer s H vs Q E hr h => ?_)
  exact ⟨t__law_add K, (pss_cons (ps_set (i := 2) sc__law_add.nd rfl (Or.inl rfl) (pe_callB (call_max2 rfl) (by rfl) T.n_max (by decide +kernel) (pa_cons (pe_callB call_len_seq (by rfl) T.n_len (by decide +kernel) (pa_cons (pv 0) pa_nil)) (pa_cons (pe_callB call_len_seq (by rfl) T.n_len (by decide +kernel) (pa_cons (pv 1) pa_nil)) pa_nil))))
  (pss_cons (ps_asg (pe_tup (pa_cons (pe_op op_addA (pe_callTy call_list_of (by rfl) T.n_list (by decide +kernel) (pa_cons (pv 0) pa_nil)) (pe_op op_mulA (pe_lst (pa_cons (pe_tup (pa_cons pe_int (pa_cons pe_int pa_nil))) pa_nil)) (pe_op op_sub (pv 2) (pe_callB call_len_seq (by rfl) T.n_len (by decide +kernel) (pa_cons (pv 0) pa_nil))))) (pa_cons (pe_op op_addA (pe_callTy call_list_of (by rfl) T.n_list (by decide +kernel) (pa_cons (pv 1) pa_nil)) (pe_op op_mulA (pe_lst (pa_cons (pe_tup (pa_cons pe_int (pa_cons pe_int pa_nil))) pa_nil)) (pe_op op_sub (pv 2) (pe_callB call_len_seq (by rfl) T.n_len (by decide +kernel) (pa_cons (pv 1) pa_nil))))) pa_nil))) (pg_tup (by rfl) (pgs_cons (pg_name (i := 3) sc__law_add.nd rfl (Or.inr rfl)) (pgs_cons (pg_name (i := 4) sc__law_add.nd rfl (Or.inr rfl)) pgs_nil))))
  (pss_one (ps_ret (pe_call (ok__law_cut T) (hr.mono (by decide)) rfl T.g__law_cut T.F__law_cut.kp (b__law_cut T) .nil pass0 (pa_cons (pe_lc (own := [("_law_k", 5)]) (by rfl) sc__law_add.nd (pi_range1 (by rfl) T.n_range (pa_cons (pv 2) pa_nil)) (blkOk_by (own := [("_law_k", 5)]) (N := N__law_add) (sc := defScope s__law_add) (by decide +kernel)) (fun _ _ _ _ _ => pg_name (i := 5) sc__law_add.nd rfl (Or.inl rfl)) (fun _ _ _ _ _ => pts_nil) (fun _ _ _ _ _ => (pe_call (ok__law_plus T) (hr.mono (by decide)) rfl T.g__law_plus T.F__law_plus.kp (b__law_plus T) .nil pass0 (pa_cons (pe_ix ix_seq (pv 3) (pv 5) (fun _ _ => rfl)) (pa_cons (pe_ix ix_seq (pv 4) (pv 5) (fun _ _ => rfl)) pa_nil))))) pa_nil)))))), pure__law_add K vs H Q E h⟩
/-! ### _law_mul -/

def pre__law_mul : List PyData → Prop := fun ds => ∃ (U V : List Int) (S T : Int) (e f : Nat), ds = [frowD (rowS U S), frowD (rowS V T)] ∧ 0 < S ∧ 0 < T ∧ U.length ≤ 100 ∧ V.length ≤ 100 ∧ n1 U < 2 ^ e ∧ n1 V < 2 ^ f ∧ S.natAbs < 2 ^ e ∧ T.natAbs < 2 ^ f ∧ e + f ≤ 4000
def post__law_mul : List PyData → PyData → Prop := fun ds d => ∃ r s t : List Fr, ds = [frowD r, frowD s] ∧ d = frowD t ∧ (∀ y ∈ t, FOk y) ∧ Tr t ∧ ∀ x, pF t x = pF r x * pF s x
abbrev sp__law_mul (K : PySem.W.Frag) : Sp := SpP K pre__law_mul post__law_mul
theorem len__law_mul (K : PySem.W.Frag) (vs : List V) (H : Hp) (Q : VK) (E : XK) (h : sp__law_mul K vs H Q E) : vs.length = p__law_mul.length := len_P (n := 2) h fun ds hp => by
  obtain ⟨U, V, A, T, ee, f, e, hS, hT, hl, hl2, bu, bv, bs, bt, hf⟩ := hp
  rw [e]; rfl
def t__law_mul (K : PySem.W.Frag) : TS :=
  (tSeq (tAsg (tOp (rMulA K) (tLst (tCons (tTup (tCons (tC (.int 0)) (tCons (tC (.int 1)) tNil))) tNil)) (tOp (rAddA K) (tCB (rLenQ K) (tCons (tVar 0) tNil)) (tCB (rLenQ K) (tCons (tVar 1) tNil)))) (gName 2))
  (tSeq (tFor (iRng1 (tCons (tCB (rLenQ K) (tCons (tVar 0) tNil)) tNil)) (gName 3) (tFor (iRng1 (tCons (tCB (rLenQ K) (tCons (tVar 1) tNil)) tNil)) (gName 4) (tAsg (tCall (sp__law_plus K) [] E0 (tCons (tOp (rIx K) (tVar 2) (tOp (rAddA K) (tVar 3) (tVar 4))) (tCons (tCall (sp__law_by K) [] E0 (tCons (tOp (rIx K) (tVar 0) (tVar 3)) (tCons (tOp (rIx K) (tVar 1) (tVar 4)) tNil))) tNil))) (gSub (tVar 2) (tOp (rAddA K) (tVar 3) (tVar 4)) rSetL))))
  (tRet (tCall (sp__law_cut K) [] E0 (tCons (tVar 2) tNil)))))
theorem pure__law_mul (K : PySem.W.Frag) (vs : List V) (H : Hp) (Q : VK) (E : XK) (h : sp__law_mul K vs H Q E) : t__law_mul K { nx := fun _ H' => Q .non H', rt := Q } (L2.start N__law_mul vs) H := body_P h fun B ds hW hp => by
  obtain ⟨U, V, A, T, ee, f, e, hS, hT, hl, hl2, bu, bv, bs, bt, hf⟩ := hp
  subst e
  unfold t__law_mul
  have hST : 0 < A * T := Int.mul_pos hS hT
  have rS := ratInt_ne (a := A) (by omega)
  have rT := ratInt_ne (a := T) (by omega)
  have sST : (A * T).natAbs < 2 ^ 4000 := pow_up (natAbs_mul_lt bs bt) hf
  have pUV : n1 U * n1 V < 2 ^ 4000 := pow_up (mul_bd bu bv) hf
  have bu' := pow_up bu (show ee ≤ 4000 by omega)
  have bv' := pow_up bv (show f ≤ 4000 by omega)
  have bs' := pow_up bs (show ee ≤ 4000 by omega)
  have bt' := pow_up bt (show f ≤ 4000 by omega)
  refine st_seq (st_own (en_rep (ev_lst (ea_cons (ev_tup (ea_cons (ev_int (ea_cons (ev_int (ea_nil ⟨by simp, ea_nil ⟨by simp, ?_⟩⟩))))))))))
  refine ev_op (ev_cb (ea_cons (ev_var rfl (ea_nil (co_lenL (ev_cb (ea_cons (ev_var rfl (ea_nil (co_lenL (ro_add ?_)))))))))))
  rw [List.length_map, List.length_map, rowS_len, rowS_len]
  refine ⟨[.tuple [.int 0, .int 1]], _, rfl, rfl, by omega, by omega, by simp; omega, fun l => ?_⟩
  have e0 : (List.replicate ((U.length : Int) + (V.length : Int)).toNat [PyData.tuple [.int 0, .int 1]]).flatten = (rowS (List.replicate (U.length + V.length) (0 : Int)) (A * T)).map frD := by
    unfold rowS
    rw [List.flatten_replicate_singleton, List.map_replicate, List.map_replicate, fS_zero]
    congr 1
  rw [e0]
  have lenU : (List.map frD (rowS U A)).length = U.length := by rw [List.length_map, rowS_len]
  have lenV : (List.map frD (rowS V T)).length = V.length := by rw [List.length_map, rowS_len]
  refine st_seq (st_forR (ea_cons (ev_cb (ea_cons (ev_var rfl (ea_nil (co_lenL (ea_nil ⟨_, rfl, by omega, by rw [lenU]; omega, fun i L2 Γ2 => ∃ (w : List Int) (s3 s4 : Sl), L2 = [l] ∧ Γ2 = [.d (frowD (rowS U A)), .d (frowD (rowS V T)), .own l ((rowS w (A * T)).map frD), s3, s4] ∧ w.length = U.length + V.length ∧ (∀ x, pI w x = pI (U.take i) x * pI V x) ∧ n1 w ≤ n1 (U.take i) * n1 V, ⟨_, _, _, rfl, rfl, List.length_replicate .., fun x => ?_, ?_⟩, ?_, ?_⟩))))))))
  · rw [List.take_zero]
    show pe (ri (List.replicate _ 0)) x = 0 * _
    unfold ri
    rw [List.map_replicate]
    show pe (List.replicate _ ((0 : Int) : Rat)) x = _
    have z0 : ((0 : Int) : Rat) = 0 := rfl
    rw [z0, pe_zeros, Rat.zero_mul]
  · rw [n1_zeros]
    exact Nat.zero_le _
  · rintro i L2 Γ2 hi ⟨w, s3, s4, rfl, rfl, wl, wv, wn⟩
    rw [lenU, Int.toNat_natCast] at hi
    refine st_forR (ea_cons (ev_cb (ea_cons (ev_var rfl (ea_nil (co_lenL (ea_nil ⟨_, rfl, by omega, by rw [lenV]; omega, fun j L3 Γ3 => ∃ (w : List Int) (s4 : Sl), L3 = [l] ∧ Γ3 = [.d (frowD (rowS U A)), .d (frowD (rowS V T)), .own l ((rowS w (A * T)).map frD), .d (.int (i : Int)), s4] ∧ w.length = U.length + V.length ∧ (∀ x, pI w x = pI (U.take i) x * pI V x + ((U.getD i 0 : Int) : Rat) * x ^ i * pI (V.take j) x) ∧ n1 w ≤ n1 (U.take i) * n1 V + (U.getD i 0).natAbs * n1 (V.take j), ⟨w, _, rfl, rfl, wl, fun x => ?_, ?_⟩, ?_, ?_⟩)))))))
    · rw [wv, List.take_zero]
      show _ = _ + _ * (0 : Rat)
      grind
    · rw [List.take_zero]
      show _ ≤ _ + _ * 0
      omega
    · rintro j L3 Γ3 hj ⟨w, s4, rfl, rfl, wl, wv, wn⟩
      rw [lenV, Int.toNat_natCast] at hj
      have hk : i + j < w.length := by omega
      have au : atI (List.map frD (rowS U A)) (i : Int) = some (frD (fS A (U.getD i 0))) := by
        rw [atI_n, List.getElem?_map]
        unfold rowS
        rw [List.getElem?_map, List.getD_eq_getElem?_getD, List.getElem?_eq_getElem hi]
        rfl
      have av : atI (List.map frD (rowS V T)) (j : Int) = some (frD (fS T (V.getD j 0))) := by
        rw [atI_n, List.getElem?_map]
        unfold rowS
        rw [List.getElem?_map, List.getD_eq_getElem?_getD, List.getElem?_eq_getElem hj]
        rfl
      have aw : atI (List.map frD (rowS w (A * T))) ((i : Int) + (j : Int)) = some (frD (fS (A * T) (w.getD (i + j) 0))) := by
        rw [show ((i : Int) + (j : Int)) = ((i + j : Nat) : Int) by omega, atI_n, List.getElem?_map]
        unfold rowS
        rw [List.getElem?_map, List.getD_eq_getElem?_getD, List.getElem?_eq_getElem hk]
        rfl
      have tk := n1_take U i hi
      have tl := n1_take V j hj
      have ul := n1_takele U (i + 1)
      have vl := n1_takele V (j + 1)
      have wb : n1 w < 2 ^ 4000 := by
        refine Nat.lt_of_le_of_lt ?_ pUV
        have h1 := Nat.mul_le_mul_right (n1 V) ul
        have h2 := Nat.mul_le_mul_left (U.getD i 0).natAbs (n1_takele V j)
        rw [tk, Nat.add_mul] at h1
        omega
      have pUj : ((U.getD i 0) * (V.getD j 0)).natAbs < 2 ^ 4000 := by
        rw [Int.natAbs_mul]
        exact Nat.lt_of_le_of_lt (Nat.mul_le_mul (n1_get U i) (n1_get V j)) pUV
      have su := fS_sm hS (Nat.lt_of_le_of_lt (n1_get U i) bu') bs'
      have sv := fS_sm hT (Nat.lt_of_le_of_lt (n1_get V j) bv') bt'
      have sw := fS_sm hST (Nat.lt_of_le_of_lt (n1_get w (i + j)) wb) sST
      have sp := fS_sm hST pUj sST
      have pv : val (fS A (U.getD i 0)) * val (fS T (V.getD j 0)) = ((U.getD i 0 * V.getD j 0 : Int) : Rat) / ((A * T : Int) : Rat) := by
        rw [fS_val, fS_val, Rat.intCast_mul, Rat.intCast_mul]
        grind
      refine st_setOwn rfl (ev_callP (ea_cons (ev_ixOwn rfl (ev_op (ev_var rfl (ev_var rfl (ro_add ⟨_, _, rfl, aw, ea_cons (ev_callP (ea_cons (ev_op (ev_var rfl (ev_var rfl (rok_ixsL au (ea_cons (ev_op (ev_var rfl (ev_var rfl (rok_ixsL av (ea_nil ⟨⟨_, _, rfl, su, sv⟩, fun d ⟨x, y, b, e, ed, fb, vb⟩ => ?_⟩))))))))))))⟩)))))))
      obtain ⟨rfl, rfl⟩ := frD2_inj e
      subst ed
      obtain rfl := fS_eq fb (by rw [vb, pv])
      refine ea_nil ⟨⟨_, _, rfl, sw, sp⟩, fun d ⟨x, y, b, e, ed, fb2, vb2⟩ => ?_⟩
      obtain ⟨rfl, rfl⟩ := frD2_inj e
      subst ed
      obtain rfl := fS_eq (S := A * T) (u := w.getD (i + j) 0 + U.getD i 0 * V.getD j 0) fb2 (by rw [vb2, fS_val, fS_val, Rat.intCast_add]; grind)
      refine ev_op (ev_var rfl (ev_var rfl (ro_add ⟨i + j, by rw [show ((i : Int) + (j : Int)) = ((i + j : Nat) : Int) from (Int.natCast_add i j).symm], by rw [List.length_map, rowS_len]; exact hk, w.set (i + j) (w.getD (i + j) 0 + U.getD i 0 * V.getD j 0), .d (.int (j : Int)), rfl, ?_, by rw [List.length_set]; exact wl, fun x => ?_, ?_⟩)))
      · unfold rowS
        rw [List.map_set, List.map_set]
        rfl
      · have e1 : pI (w.set (i + j) (w.getD (i + j) 0 + U.getD i 0 * V.getD j 0)) x = pI w x + ((U.getD i 0 * V.getD j 0 : Int) : Rat) * x ^ (i + j) := by
          unfold pI
          have := pe_set ((U.getD i 0 * V.getD j 0 : Int) : Rat) x (ri w) (i + j) (by unfold ri; rw [List.length_map]; exact hk)
          rw [← this]
          congr 1
          rw [ri_get]
          unfold ri
          rw [List.map_set, Rat.intCast_add]
        have e2 : pI (V.take (j + 1)) x = pI (V.take j) x + ((V.getD j 0 : Int) : Rat) * x ^ j := by
          have := pe_take x (ri V) j (by unfold ri; rw [List.length_map]; exact hj)
          rw [ri_get] at this
          unfold pI
          unfold ri at this ⊢
          rw [List.map_take, List.map_take]
          exact this
        rw [e1, e2, wv, Rat.intCast_mul, rpow_add]
        grind
      · have e1 := n1_set (U.getD i 0 * V.getD j 0) w (i + j)
        rw [Int.natAbs_mul] at e1
        rw [tl, Nat.mul_add]
        omega
    · rintro L3 Γ3 ⟨w, s4, rfl, rfl, wl, wv, wn⟩
      rw [lenV, Int.toNat_natCast, List.take_length] at wv wn
      refine ⟨w, _, _, rfl, rfl, wl, fun x => ?_, ?_⟩
      · have e2 : pI (U.take (i + 1)) x = pI (U.take i) x + ((U.getD i 0 : Int) : Rat) * x ^ i := by
          have := pe_take x (ri U) i (by unfold ri; rw [List.length_map]; exact hi)
          rw [ri_get] at this
          unfold pI
          unfold ri at this ⊢
          rw [List.map_take, List.map_take]
          exact this
        rw [wv, e2]
        grind
      · have e2 := n1_take U i hi
        rw [e2, Nat.add_mul]
        omega
  · rintro L2 Γ2 ⟨w, s3, s4, rfl, rfl, wl, wv, wn⟩
    rw [lenU, Int.toNat_natCast, List.take_length] at wv wn
    refine st_freeze 2 rfl (by simp) (st_ret (ev_callP (ea_cons (ev_var rfl (ea_nil ⟨⟨rowS w (A * T), rfl, by rw [rowS_len]; omega⟩, fun d ⟨t', m, e, ed, hm, hz, h0⟩ => ?_⟩)))))
    obtain rfl := frow1 e
    obtain ⟨f1, f2, f3⟩ := cut_row (rowS_ok _ _) hm hz h0
    refine ⟨rowS U A, rowS V T, _, rfl, ed, f1, f2, fun x => ?_⟩
    rw [f3, rowS_pF, rowS_pF, rowS_pF, wv, Rat.intCast_mul]
    grind
theorem ok__law_mul (T : Tx K mg) : FnOk P w K mg base CX0 4 T.a__law_mul T.d__law_mul p__law_mul (sp__law_mul K) := by
  refine T.F__law_mul.ok sc__law_mul (fun vs H Q E h => len__law_mul K vs H Q E h) (fun cdv A outer s H vs Q E hr h => ?_)
  exact ⟨t__law_mul K, (pss_cons (ps_set (i := 2) sc__law_mul.nd rfl (Or.inl rfl) (pe_op op_mulA (pe_lst (pa_cons (pe_tup (pa_cons pe_int (pa_cons pe_int pa_nil))) pa_nil)) (pe_op op_addA (pe_callB call_len_seq (by rfl) T.n_len (by decide +kernel) (pa_cons (pv 0) pa_nil)) (pe_callB call_len_seq (by rfl) T.n_len (by decide +kernel) (pa_cons (pv 1) pa_nil)))))
  (pss_cons (ps_for PassesOwn.never rfl (pi_range1 (by rfl) T.n_range (pa_cons (pe_callB call_len_seq (by rfl) T.n_len (by decide +kernel) (pa_cons (pv 0) pa_nil)) pa_nil)) (pg_name (i := 3) sc__law_mul.nd rfl (Or.inl rfl)) (pss_one (ps_for PassesOwn.never rfl (pi_range1 (by rfl) T.n_range (pa_cons (pe_callB call_len_seq (by rfl) T.n_len (by decide +kernel) (pa_cons (pv 1) pa_nil)) pa_nil)) (pg_name (i := 4) sc__law_mul.nd rfl (Or.inl rfl)) (pss_one (ps_asg (pe_call (ok__law_plus T) (hr.mono (by decide)) rfl T.g__law_plus T.F__law_plus.kp (b__law_plus T) .nil pass0 (pa_cons (pe_ix ix_seq (pv 2) (pe_op op_addA (pv 3) (pv 4)) (fun _ _ => rfl)) (pa_cons (pe_call (ok__law_by T) (hr.mono (by decide)) rfl T.g__law_by T.F__law_by.kp (b__law_by T) .nil pass0 (pa_cons (pe_ix ix_seq (pv 0) (pv 3) (fun _ _ => rfl)) (pa_cons (pe_ix ix_seq (pv 1) (pv 4) (fun _ _ => rfl)) pa_nil))) pa_nil))) (pg_sub (pv 2) (pe_op op_addA (pv 3) (pv 4)) set_list))))))
  (pss_one (ps_ret (pe_call (ok__law_cut T) (hr.mono (by decide)) rfl T.g__law_cut T.F__law_cut.kp (b__law_cut T) .nil pass0 (pa_cons (pv 2) pa_nil)))))), pure__law_mul K vs H Q E h⟩
/-! ### _law_thin -/

def pre__law_thin : List PyData → Prop := fun ds => ∃ (u : List Int) (S : Int), ds = [.list [frowD (rowS u S)]] ∧ 0 < S ∧ u.length ≤ 20 ∧ n1 u < 2 ^ 1200 ∧ S.natAbs < 2 ^ 1200 ∧ ∃ z ∈ u, z ≠ 0
def post__law_thin : List PyData → PyData → Prop := fun ds d => ∃ r : List Fr, ds = [.list [frowD r]] ∧ ∀ (u : List Int) (S : Int), r = rowS u S → 0 < S → d = .list [.list ((prim u).map .int)]
abbrev sp__law_thin (K : PySem.W.Frag) : Sp := SpP K pre__law_thin post__law_thin
theorem len__law_thin (K : PySem.W.Frag) (vs : List V) (H : Hp) (Q : VK) (E : XK) (h : sp__law_thin K vs H Q E) : vs.length = p__law_thin.length := len_P (n := 1) h fun ds hp => by
  obtain ⟨u, S, e, sp, lu, bu, bS, ne0⟩ := hp
  rw [e]; rfl
def t__law_thin (K : PySem.W.Frag) : TS :=
  (tSeq (tAsg (tTup (tCons (tC (.int 1)) (tCons (tC (.int 0)) tNil))) (gTup K 2 (gCons (gName 1) (gCons (gName 2) gNil))))
  (tSeq (tFor (iList K (tVar 0)) (gName 3) (tFor (iList K (tVar 3)) (gName 4) (tAsg (tOp (rMulA K) (tOp rFdA (tVar 1) (tCall (sp__law_common K) [] E0 (tCons (tVar 1) (tCons (tOp (rIx K) (tVar 4) (tC (.int 1))) tNil)))) (tOp (rIx K) (tVar 4) (tC (.int 1)))) (gName 1))))
  (tSeq (tAsg (tLc (iList K (tVar 0)) (gName 3) tYes (tLc (iList K (tVar 3)) (gName 4) tYes (tOp (rMulA K) (tOp (rIx K) (tVar 4) (tC (.int 0))) (tOp rFdA (tVar 1) (tOp (rIx K) (tVar 4) (tC (.int 1))))) [4]) [3]) (gName 5))
  (tSeq (tFor (iList K (tVar 5)) (gName 3) (tFor (iList K (tVar 3)) (gName 4) (tAsg (tCall (sp__law_common K) [] E0 (tCons (tVar 2) (tCons (tVar 4) tNil))) (gName 2))))
  (tRet (tLc (iList K (tVar 5)) (gName 3) tYes (tLc (iList K (tVar 3)) (gName 4) tYes (tOp rFdA (tVar 4) (tVar 2)) [4]) [3]))))))
theorem pure__law_thin (K : PySem.W.Frag) (vs : List V) (H : Hp) (Q : VK) (E : XK) (h : sp__law_thin K vs H Q E) : t__law_thin K { nx := fun _ H' => Q .non H', rt := Q } (L2.start N__law_thin vs) H := body_P h fun B ds hW hp => by
  obtain ⟨u, S, e, sp, lu, bu, bS, ne0⟩ := hp
  subst e
  unfold t__law_thin
  obtain ⟨n, hn0⟩ : ∃ n, u.getD n 0 ≠ 0 := by
    obtain ⟨z, hz, z0⟩ := ne0
    obtain ⟨k, hk⟩ := mem_get hz
    exact ⟨k, by rw [hk]; exact z0⟩
  have at_ : ∀ k, val ((rowS u S).getD k (0, 1)) * (S : Rat) = ((u.getD k 0 : Int) : Rat) := fun k => by
    have := ratInt_ne (a := S) (by omega)
    rw [rowS_get, fS_val]
    grind
  have ok_ := rowS_ok u S
  have lr := rowS_len u S
  obtain ⟨r, hr⟩ : ∃ r, r = rowS u S := ⟨_, rfl⟩
  rw [← hr] at at_ ok_ lr ⊢
  have sm : ∀ x ∈ r, 0 < x.2 ∧ x.2 ∣ S ∧ x.2.natAbs < 2 ^ 1200 := fun x hx => by
    obtain ⟨k, hk, e1⟩ := List.getElem_of_mem hx
    have v := at_ k
    rw [List.getD_eq_getElem?_getD, List.getElem?_eq_getElem hk] at v
    have v2 : val x * (S : Rat) = ((u.getD k 0 : Int) : Rat) := by rw [← e1]; exact v
    have f1 := ok_ x hx
    obtain ⟨s1, s2, c, _, hc, _⟩ := f1.small (u := u.getD k 0) sp v2
    exact ⟨f1.1, ⟨c, hc⟩, Nat.lt_of_le_of_lt s2 bS⟩
  refine st_seq (st_unpack ?_)
  walk_at "dd"
  refine ⟨rfl, ?_⟩
  walk_at "dd"
  refine (st_forL (ev_var rfl ⟨_, rfl, fun i L2 Γ2 => ∃ (U : Int) (s3 s4 : Sl), L2 = [] ∧ Γ2 = [.d (.list [frowD r]), .d (.int U), .d (.int 0), s3, s4, .un] ∧ 0 < U ∧ U ∣ S ∧ (i = 1 → ∀ x ∈ r, x.2 ∣ U), ⟨1, .un, .un, rfl, rfl, by decide, ⟨S, by omega⟩, fun z => by omega⟩, ?_, ?_⟩))
  · rintro i d' L2 Γ2 g hi ⟨U0, s3, s4, rfl, rfl, hU0, hd0, _⟩
    obtain ⟨rfl, rfl⟩ : i = 0 ∧ d' = frowD r := one_get hi
    refine st_forL (ev_var rfl ⟨r.map frD, rfl, fun i L2 Γ2 => ∃ (U : Int) (s4 : Sl), L2 = [] ∧ Γ2 = [.d (.list [frowD r]), .d (.int U), .d (.int 0), .d (frowD r), s4, .un] ∧ 0 < U ∧ U ∣ S ∧ ∀ x ∈ r.take i, x.2 ∣ U, ⟨U0, _, rfl, rfl, hU0, hd0, by simp⟩, ?_, ?_⟩)
    · rintro i d' L2 Γ2 g hi ⟨U, s4, rfl, rfl, hU, hd, ha⟩
      obtain ⟨x, hx, rfl⟩ : ∃ x, r[i]? = some x ∧ d' = frD x := map_getG hi
      obtain ⟨x1, x2, x3⟩ := sm x (List.mem_of_getElem? hx)
      have bU : U.natAbs < 2 ^ 1200 := Nat.lt_of_le_of_lt (Nat.le_of_dvd (by omega) (Int.natAbs_dvd_natAbs.mpr hd)) bS
      obtain ⟨t1, t2, t3, t4, t5⟩ := lcm_step hU x1 hd x2
      have gd : ((Nat.gcd U.natAbs x.2.natAbs : Nat) : Int) ∣ U := Int.ofNat_dvd_left.mpr (Nat.gcd_dvd_left _ _)
      have eg := Int.mul_ediv_assoc' x.2 gd
      have b9 : (U / ((Nat.gcd U.natAbs x.2.natAbs : Nat) : Int)).natAbs < 2 ^ 1200 := by
        rw [Int.natAbs_ediv_of_dvd gd]
        exact Nat.lt_of_le_of_lt (Nat.div_le_self _ _) bU
      refine st_asg (ev_op (ev_op (ev_var rfl (ev_callP (ea_cons (ev_var rfl (ea_cons (ev_op (ev_var rfl (ev_int (rok_ixsT (d := .int x.2) rfl (ea_nil ⟨⟨_, _, rfl⟩, fun d ⟨a, b, e, ed⟩ => ?_⟩))))))))))))
      simp only [List.cons.injEq, PyData.int.injEq, and_true] at e
      obtain ⟨rfl, rfl⟩ := e
      subst ed
      refine ro_fdW ⟨t1, ?_⟩ (ev_op (ev_var rfl (ev_int (rok_ixsT (d := .int x.2) rfl (ro_mulW (mulW_of b9 x3 (by decide)) ?_)))))
      · have : (((Nat.gcd U.natAbs x.2.natAbs : Nat) : Int)).natAbs < 2 ^ 1200 := by
          rw [Int.natAbs_natCast]
          exact Nat.lt_of_le_of_lt (Nat.gcd_le_right _ (by omega)) x3
        have := lg this
        omega
      rw [← eg]
      refine ⟨_, .d (frD x), rfl, rfl, t2, t5, fun y hy => ?_⟩
      · rw [List.take_add_one, hx] at hy
        rcases List.mem_append.mp hy with q | q
        · exact Int.dvd_trans (ha y q) t3
        · rw [List.mem_singleton.mp q]
          exact t4
    · rintro L2 Γ2 ⟨U, s4, rfl, rfl, hU, hd, ha⟩
      rw [List.length_map, List.take_length] at ha
      exact ⟨U, _, _, rfl, rfl, hU, hd, fun _ => ha⟩
  · rintro L2 Γ2 ⟨U, s3, s4, rfl, rfl, hU, hd, ha⟩
    have ha := ha rfl
    have bU : U.natAbs < 2 ^ 1200 := Nat.lt_of_le_of_lt (Nat.le_of_dvd (by omega) (Int.natAbs_dvd_natAbs.mpr hd)) bS
    obtain ⟨c, hc⟩ := hd
    have c0 : 0 < c := by
      rcases Int.lt_trichotomy c 0 with q | q | q
      · have := Int.mul_neg_of_pos_of_neg hU q
        omega
      · rw [q] at hc
        omega
      · exact q
    obtain ⟨w, hw⟩ : ∃ w : List Int, w = r.map fun x => x.1 * (U / x.2) := ⟨_, rfl⟩
    have lw : w.length = u.length := by rw [hw, List.length_map, lr]
    have wu : ∀ k, w.getD k 0 * c = u.getD k 0 := fun k => by
      by_cases hk : k < r.length
      · have hx : r[k]? = some r[k] := List.getElem?_eq_getElem hk
        generalize r[k] = x at hx
        obtain ⟨m, hm⟩ := ha x (List.mem_of_getElem? hx)
        obtain ⟨x1, _, _⟩ := sm x (List.mem_of_getElem? hx)
        have e1 : w.getD k 0 = x.1 * m := by
          rw [hw, List.getD_eq_getElem?_getD, List.getElem?_map, hx]
          show x.1 * (U / x.2) = _
          rw [hm, Int.mul_ediv_cancel_left _ (by omega)]
        have v := at_ k
        rw [List.getD_eq_getElem?_getD, hx] at v
        have v2 : val x = (u.getD k 0 : Int) / (S : Int) := by
          have := ratInt_ne (a := S) (by omega)
          have v3 : val x * (S : Rat) = ((u.getD k 0 : Int) : Rat) := v
          grind
        have e2 := (val_eq x1 sp).mp v2
        rw [e1]
        rw [hc, hm] at e2
        have : x.2 * (x.1 * m * c) = x.2 * u.getD k 0 := by
          rw [Int.mul_comm x.2 (u.getD k 0), ← e2]
          grind
        exact Int.eq_of_mul_eq_mul_left (by omega) this
      · rw [getD_out (u := w) (by omega), getD_out (u := u) (by omega)]
        omega
    have bw : bd w 1200 := bd.of_get fun k => by
      have h1 := wu k
      have h2 := (n1_bd bu).get k
      have : (w.getD k 0).natAbs ≤ (u.getD k 0).natAbs := by
        rw [← h1, Int.natAbs_mul]
        exact Nat.le_mul_of_pos_right _ (by omega)
      omega
    have wn : w.getD n 0 ≠ 0 := by
      intro z
      have := wu n
      rw [z, Int.zero_mul] at this
      exact hn0 this.symm
    have pw : prim w = prim u := prim_eq (a := c) (b := 1) c0 (by decide) (by omega) fun k => by
      have := wu k
      rw [Int.mul_comm, this]
      omega
    have gpos := gcdL_pos ⟨_, mem_getD wn, wn⟩
    have gz : CDivW 0 ((gcdL w : Nat) : Int) := by
      refine ⟨by omega, ?_⟩
      have h1 := Int.natAbs_dvd_natAbs.mpr (gcdL_dvd (mem_getD wn))
      have h2 := Nat.le_of_dvd (by omega) h1
      have := lg (Nat.lt_of_le_of_lt h2 (bw _ (mem_getD wn)))
      omega
    refine st_seq (st_asg (ev_new (en_lcL (wipe1 3) (ev_var rfl ⟨[frowD r], rfl, by simp, fun i acc => acc = if i = 0 then [] else [.list (w.map .int)], ⟨rfl, fun i D d' acc hi hJ hin => ?_⟩, fun acc hJ => ?_⟩))))
    · obtain ⟨rfl, rfl⟩ : i = 0 ∧ d' = frowD r := one_get hi
      refine et_yes ⟨fun _ => ?_, fun z => nomatch z⟩
      refine ev_new (en_lcL (wipe1 4) (ev_var rfl ⟨r.map frD, rfl, by simp; omega, fun i acc => acc = ((w.take i).map PyData.int), ⟨rfl, fun i D2 d' acc2 hi2 hJ2 hin2 => ?_⟩, fun acc2 hJ2 => ?_⟩))
      · obtain ⟨x, hx, rfl⟩ : ∃ x, r[i]? = some x ∧ d' = frD x := map_getG hi2
        obtain ⟨x1, x2, x3⟩ := sm x (List.mem_of_getElem? hx)
        obtain ⟨m, hm⟩ := ha x (List.mem_of_getElem? hx)
        refine et_yes ⟨fun _ => ?_, fun z => nomatch z⟩
        walk_at "dd"
        refine ro_fdW ⟨x1, by have := lg x3; omega⟩ ?_
        have hwi : w[i]? = some (x.1 * (U / x.2)) := by rw [hw, List.getElem?_map, hx]; rfl
        have q1 : U / x.2 = m := by rw [hm, Int.mul_ediv_cancel_left _ (by omega)]
        have q2 : (U / x.2).natAbs < 2 ^ 1200 := by
          rw [q1]
          have : m.natAbs ≤ U.natAbs := by
            rw [hm, Int.natAbs_mul]
            exact Nat.le_mul_of_pos_left _ (by omega)
          omega
        have q3 : x.1.natAbs < 2 ^ 1200 := by
          have h1 := bw _ (List.mem_of_getElem? hwi)
          have m0 : 0 < m := by
            rcases Int.lt_trichotomy m 0 with q | q | q
            · have := Int.mul_neg_of_pos_of_neg x1 q
              omega
            · rw [q] at hm
              omega
            · exact q
          have : x.1.natAbs ≤ (x.1 * (U / x.2)).natAbs := by
            rw [q1, Int.natAbs_mul]
            exact Nat.le_mul_of_pos_right _ (by omega)
          omega
        refine ro_mulW (mulW_of q3 q2 (by decide)) ?_
        subst hJ2
        rw [List.take_add_one, hwi, List.map_append]
        rfl
      · subst hJ
        rw [hJ2, List.length_map, lr, ← lw, List.take_length]
        rfl
    · subst hJ
      refine st_seq (st_forL (ev_var rfl ⟨[.list (w.map .int)], rfl, fun i L2 Γ2 => ∃ s3 s4 : Sl, L2 = [] ∧ Γ2 = [.d (.list [frowD r]), .d (.int U), .d (.int (if i = 0 then 0 else ((gcdL w : Nat) : Int))), s3, s4, .d (.list [.list (w.map .int)])], ⟨_, _, rfl, rfl⟩, ?_, ?_⟩))
      · rintro i d' L2 Γ2 g hi ⟨s3, s4, rfl, rfl⟩
        obtain ⟨rfl, rfl⟩ : i = 0 ∧ d' = .list (w.map .int) := one_get hi
        refine st_forL (ev_var rfl ⟨w.map .int, rfl, fun i L2 Γ2 => ∃ s4 : Sl, L2 = [] ∧ Γ2 = [.d (.list [frowD r]), .d (.int U), .d (.int ((gcdL (w.take i) : Nat) : Int)), .d (.list (w.map .int)), s4, .d (.list [.list (w.map .int)])], ⟨_, rfl, rfl⟩, ?_, ?_⟩)
        · rintro i d' L2 Γ2 g hi ⟨s4, rfl, rfl⟩
          obtain ⟨x, hx, rfl⟩ : ∃ x, w[i]? = some x ∧ d' = .int x := map_get hi
          refine st_asg (ev_callP ?_)
          walk_at "dd"
          refine ⟨⟨_, _, rfl⟩, fun d ⟨a, b, e, ed⟩ => ⟨.d (.int x), rfl, ?_⟩⟩
          simp only [List.cons.injEq, PyData.int.injEq, and_true] at e
          obtain ⟨rfl, rfl⟩ := e
          subst ed
          have e1 : gcdL (w.take (i + 1)) = Nat.gcd ((gcdL (w.take i) : Nat) : Int).natAbs x.natAbs := by
            rw [List.take_add_one, hx, gcdL_append, Int.natAbs_natCast]
            simp [gcdL]
          rw [e1]
          rfl
        · rintro L2 Γ2 ⟨s4, rfl, rfl⟩
          refine ⟨.d (.list (w.map .int)), s4, rfl, ?_⟩
          rw [List.length_map, List.take_length]
          rfl
      · rintro L2 Γ2 ⟨s3, s4, rfl, rfl⟩
        refine st_ret (ev_new (en_lcL (wipe1 3) (ev_var rfl ⟨[.list (w.map .int)], rfl, by simp, fun i acc => acc = if i = 0 then [] else [.list ((prim u).map .int)], ⟨rfl, fun i D d' acc hi hJ hin => ?_⟩, fun acc hJ => ?_⟩)))
        · obtain ⟨rfl, rfl⟩ : i = 0 ∧ d' = .list (w.map .int) := one_get hi
          refine et_yes ⟨fun _ => ?_, fun z => nomatch z⟩
          refine ev_new (en_lcL (wipe1 4) (ev_var rfl ⟨w.map .int, rfl, by simp; omega, fun i acc => acc = ((w.take i).map fun x => PyData.int (x / ((gcdL w : Nat) : Int))), ⟨rfl, fun i D2 d' acc2 hi2 hJ2 hin2 => ?_⟩, fun acc2 hJ2 => ?_⟩))
          · obtain ⟨x, hx, rfl⟩ : ∃ x, w[i]? = some x ∧ d' = .int x := map_get hi2
            refine et_yes ⟨fun _ => ?_, fun z => nomatch z⟩
            refine ev_op (ev_var rfl (ev_var rfl (ro_fdW gz ?_)))
            subst hJ2
            rw [List.take_add_one, hx, List.map_append]
            rfl
          · have e1 : acc2 = (prim w).map PyData.int := by
              rw [hJ2, List.length_map, List.take_length]
              unfold prim
              rw [List.map_map]
              rfl
            rw [e1]
            subst hJ
            rw [pw]
            rfl
        · refine ⟨r, rfl, fun u' S' hr' sp' => ?_⟩
          rw [hJ]
          have : prim u' = prim u := prim_eq (a := S) (b := S') sp sp' (by rw [← lr, hr', rowS_len]) fun k => by
            have h1 := at_ k
            rw [hr', rowS_get, fS_val] at h1
            have n1' := ratInt_ne (a := S') (by omega)
            have h3 : ((S * u'.getD k 0 : Int) : Rat) = ((S' * u.getD k 0 : Int) : Rat) := by
              rw [Rat.intCast_mul, Rat.intCast_mul, ← h1]
              grind
            exact Rat.intCast_inj.mp h3
          rw [this]
          rfl

theorem ok__law_thin (T : Tx K mg) : FnOk P w K mg base CX0 2 T.a__law_thin T.d__law_thin p__law_thin (sp__law_thin K) := by
  refine T.F__law_thin.ok sc__law_thin (fun vs H Q E h => len__law_thin K vs H Q E h) (fun cdv A outer s H vs Q E hr h => ?_)
  exact ⟨t__law_thin K, (pss_cons (ps_asg (pe_tup (pa_cons pe_int (pa_cons pe_int pa_nil))) (pg_tup (by rfl) (pgs_cons (pg_name (i := 1) sc__law_thin.nd rfl (Or.inr rfl)) (pgs_cons (pg_name (i := 2) sc__law_thin.nd rfl (Or.inr rfl)) pgs_nil))))
  (pss_cons (ps_for PassesOwn.never rfl (pi_list (pv 0)) (pg_name (i := 3) sc__law_thin.nd rfl (Or.inl rfl)) (pss_one (ps_for PassesOwn.never rfl (pi_list (pv 3)) (pg_name (i := 4) sc__law_thin.nd rfl (Or.inl rfl)) (pss_one (ps_set (i := 1) sc__law_thin.nd rfl (Or.inr rfl) (pe_op op_mulA (pe_op op_fdA (pv 1) (pe_call (ok__law_common T) (hr.mono (by decide)) rfl T.g__law_common T.F__law_common.kp (b__law_common T) .nil pass0 (pa_cons (pv 1) (pa_cons (pe_ix ix_seq (pv 4) pe_int (fun _ _ => rfl)) pa_nil)))) (pe_ix ix_seq (pv 4) pe_int (fun _ _ => rfl))))))))
  (pss_cons (ps_setLc (i := 5) (own := [("_law_row", 3)]) (by rfl) sc__law_thin.nd rfl rfl (sw_true rfl rfl rfl (by decide +kernel)) (pi_list (pv 0)) (blkOk_by (own := [("_law_row", 3)]) (N := N__law_thin) (sc := defScope s__law_thin) (by decide +kernel)) (fun _ _ _ _ _ => pg_name (i := 3) sc__law_thin.nd rfl (Or.inl rfl)) (fun _ _ _ _ _ => pts_nil) (fun _ _ _ _ _ => (pe_lc (own := [("_law_each", 4)]) (by rfl) sc__law_thin.nd (pi_list (pv 3)) (blkOk_by (own := [("_law_each", 4)]) (N := N__law_thin) (sc := sx__law_thin_0) (by decide +kernel)) (fun _ _ _ _ _ => pg_name (i := 4) sc__law_thin.nd rfl (Or.inl rfl)) (fun _ _ _ _ _ => pts_nil) (fun _ _ _ _ _ => (pe_op op_mulA (pe_ix ix_seq (pv 4) pe_int (fun _ _ => rfl)) (pe_op op_fdA (pv 1) (pe_ix ix_seq (pv 4) pe_int (fun _ _ => rfl))))))))
  (pss_cons (ps_for PassesOwn.never rfl (pi_list (pv 5)) (pg_name (i := 3) sc__law_thin.nd rfl (Or.inl rfl)) (pss_one (ps_for PassesOwn.never rfl (pi_list (pv 3)) (pg_name (i := 4) sc__law_thin.nd rfl (Or.inl rfl)) (pss_one (ps_set (i := 2) sc__law_thin.nd rfl (Or.inr rfl) (pe_call (ok__law_common T) (hr.mono (by decide)) rfl T.g__law_common T.F__law_common.kp (b__law_common T) .nil pass0 (pa_cons (pv 2) (pa_cons (pv 4) pa_nil))))))))
  (pss_one (ps_ret (pe_lc (own := [("_law_row", 3)]) (by rfl) sc__law_thin.nd (pi_list (pv 5)) (blkOk_by (own := [("_law_row", 3)]) (N := N__law_thin) (sc := defScope s__law_thin) (by decide +kernel)) (fun _ _ _ _ _ => pg_name (i := 3) sc__law_thin.nd rfl (Or.inl rfl)) (fun _ _ _ _ _ => pts_nil) (fun _ _ _ _ _ => (pe_lc (own := [("_law_each", 4)]) (by rfl) sc__law_thin.nd (pi_list (pv 3)) (blkOk_by (own := [("_law_each", 4)]) (N := N__law_thin) (sc := sx__law_thin_1) (by decide +kernel)) (fun _ _ _ _ _ => pg_name (i := 4) sc__law_thin.nd rfl (Or.inl rfl)) (fun _ _ _ _ _ => pts_nil) (fun _ _ _ _ _ => (pe_op op_fdA (pv 4) (pv 2)))))))))))), pure__law_thin K vs H Q E h⟩
/-! ### _law_weight -/

def pre__law_weight : List PyData → Prop := fun ds => True ∧ ds = []
def post__law_weight : List PyData → PyData → Prop := fun ds d => ∃ x : Fr, d = frD x ∧ Frb x 4 ∧ 0 < x.1
abbrev sp__law_weight (K : PySem.W.Frag) : Sp := SpW K pre__law_weight post__law_weight
theorem len__law_weight (K : PySem.W.Frag) (vs : List V) (H : Hp) (Q : VK) (E : XK) (h : sp__law_weight K vs H Q E) : vs.length = p__law_weight.length := len_W (n := 0) h fun ds hp => by
  obtain ⟨_, e⟩ := hp
  rw [e]; rfl
def t__law_weight (K : PySem.W.Frag) : TS :=
  (tRet (tCall (sp__law_from K) [] E0 (tCons (tVar 0) (tCons (tLst (tCons (tTup (tCons (tC (.int 1)) (tCons (tC (.int 1)) tNil))) (tCons (tTup (tCons (tC (.int 1)) (tCons (tC (.int 1)) tNil))) (tCons (tTup (tCons (tC (.int 2)) (tCons (tC (.int 1)) tNil))) (tCons (tTup (tCons (tC (.int 3)) (tCons (tC (.int 1)) tNil))) (tCons (tTup (tCons (tC (.int 1)) (tCons (tC (.int 2)) tNil))) (tCons (tCall (sp__law_frac K) [] E0 (tCons (tOp (rAddA K) (tC (.int 1)) (tCall (sp__law_pull K) [] E0 (tCons (tVar 0) (tCons (tC (.int 9)) tNil)))) (tCons (tOp (rAddA K) (tC (.int 1)) (tCall (sp__law_pull K) [] E0 (tCons (tVar 0) (tCons (tC (.int 4)) tNil)))) tNil))) tNil))))))) tNil))))
theorem pure__law_weight (K : PySem.W.Frag) (vs : List V) (H : Hp) (Q : VK) (E : XK) (h : sp__law_weight K vs H Q E) : t__law_weight K { nx := fun _ H' => Q .non H', rt := Q } (L2.start N__law_weight vs) H := body_W h (by decide) fun B w ds hp => by
  obtain ⟨_, e⟩ := hp
  subst e
  unfold t__law_weight
  refine st_ret (ev_callW rfl (ea_cons (ev_lst (ea_cons (ev_tup (ea_cons (ev_int (ea_cons (ev_int (ea_nil ⟨by simp, ?_⟩))))))))))
  refine ea_cons (ev_tup (ea_cons (ev_int (ea_cons (ev_int (ea_nil ⟨by simp, ?_⟩))))))
  refine ea_cons (ev_tup (ea_cons (ev_int (ea_cons (ev_int (ea_nil ⟨by simp, ?_⟩))))))
  refine ea_cons (ev_tup (ea_cons (ev_int (ea_cons (ev_int (ea_nil ⟨by simp, ?_⟩))))))
  refine ea_cons (ev_tup (ea_cons (ev_int (ea_cons (ev_int (ea_nil ⟨by simp, ?_⟩))))))
  refine ea_cons (ev_callP (ea_cons (ev_op (ev_int (ev_callW rfl (ea_cons (ev_int (ea_nil ⟨⟨_, rfl, by decide, by decide⟩, fun d ⟨m, a, em, ed, a0, a1⟩ => ?_⟩)))))))) 
  simp only [List.cons.injEq, PyData.int.injEq, and_true] at em
  subst em
  subst ed
  refine ro_add (ea_cons (ev_op (ev_int (ev_callW rfl (ea_cons (ev_int (ea_nil ⟨⟨_, rfl, by decide, by decide⟩, fun d ⟨m, b, em, ed, b0, b1⟩ => ?_⟩)))))))
  simp only [List.cons.injEq, PyData.int.injEq, and_true] at em
  subst em
  subst ed
  have le : (1 + b).natAbs < 2 ^ 9000 := Nat.lt_of_lt_of_le (show (1 + b).natAbs < 2 ^ 4 by omega) (Nat.pow_le_pow_right (by decide) (by decide))
  refine ro_add (ea_nil ⟨⟨_, _, rfl, by omega, le⟩, fun d ⟨n', m', e, x, ed, f, v, q1, q2⟩ => ?_⟩)
  simp only [List.cons.injEq, PyData.int.injEq, and_true] at e
  obtain ⟨rfl, rfl⟩ := e
  subst ed
  have x0 : 0 < x.1 := by
    refine (val_pos f.1).1.mp ?_
    rw [v, Rat.div_def]
    exact Rat.mul_pos (ratInt_pos (by omega)) (Rat.inv_pos.mpr (ratInt_pos (by omega)))
  have fx : Frb x 4 := ⟨f, Nat.lt_of_le_of_lt q1 (by omega), Nat.lt_of_le_of_lt q2 (by omega)⟩
  have ok : ∀ {a b : Int}, FOk (a, b) → a.natAbs < 16 → b.natAbs < 16 → Frb (a, b) 4 := fun f h1 h2 => ⟨f, h1, h2⟩
  refine ea_nil ⟨by simp, ea_nil ⟨⟨_, rfl, by simp, by simp⟩, fun d ⟨xs, ex, hd⟩ => ?_⟩⟩
  simp only [List.cons.injEq, PyData.list.injEq, and_true] at ex
  subst ex
  simp only [List.mem_cons, List.not_mem_nil, or_false] at hd
  rcases hd with rfl | rfl | rfl | rfl | rfl | rfl
  · exact ⟨(1, 1), rfl, ok ⟨by decide, by decide⟩ (by decide) (by decide), by decide⟩
  · exact ⟨(1, 1), rfl, ok ⟨by decide, by decide⟩ (by decide) (by decide), by decide⟩
  · exact ⟨(2, 1), rfl, ok ⟨by decide, by decide⟩ (by decide) (by decide), by decide⟩
  · exact ⟨(3, 1), rfl, ok ⟨by decide, by decide⟩ (by decide) (by decide), by decide⟩
  · exact ⟨(1, 2), rfl, ok ⟨by decide, by decide⟩ (by decide) (by decide), by decide⟩
  · exact ⟨x, rfl, fx, x0⟩
theorem ok__law_weight (T : Tx K mg) : FnOk P w K mg base CX0 3 T.a__law_weight T.d__law_weight p__law_weight (sp__law_weight K) := by
  refine T.F__law_weight.ok sc__law_weight (fun vs H Q E h => len__law_weight K vs H Q E h) (fun cdv A outer s H vs Q E hr h => ?_)
  exact ⟨t__law_weight K, (pss_one (ps_ret (pe_call (ok__law_from T) (hr.mono (by decide)) rfl T.g__law_from T.F__law_from.kp (b__law_from T) .nil pass0 (pa_cons (pv 0) (pa_cons (pe_lst (pa_cons (pe_tup (pa_cons pe_int (pa_cons pe_int pa_nil))) (pa_cons (pe_tup (pa_cons pe_int (pa_cons pe_int pa_nil))) (pa_cons (pe_tup (pa_cons pe_int (pa_cons pe_int pa_nil))) (pa_cons (pe_tup (pa_cons pe_int (pa_cons pe_int pa_nil))) (pa_cons (pe_tup (pa_cons pe_int (pa_cons pe_int pa_nil))) (pa_cons (pe_call (ok__law_frac T) (hr.mono (by decide)) rfl T.g__law_frac T.F__law_frac.kp (b__law_frac T) .nil pass0 (pa_cons (pe_op op_addA pe_int (pe_call (ok__law_pull T) (hr.mono (by decide)) rfl T.g__law_pull T.F__law_pull.kp (b__law_pull T) .nil pass0 (pa_cons (pv 0) (pa_cons pe_int pa_nil)))) (pa_cons (pe_op op_addA pe_int (pe_call (ok__law_pull T) (hr.mono (by decide)) rfl T.g__law_pull T.F__law_pull.kp (b__law_pull T) .nil pass0 (pa_cons (pv 0) (pa_cons pe_int pa_nil)))) pa_nil))) pa_nil))))))) pa_nil))))), pure__law_weight K vs H Q E h⟩
/-! ### _law_stay -/

def pre__law_stay : List PyData → Prop := fun ds => True ∧ ds = []
def post__law_stay : List PyData → PyData → Prop := fun ds d => ∃ x : Fr, d = frD x ∧ Frb x 4 ∧ 0 ≤ x.1
abbrev sp__law_stay (K : PySem.W.Frag) : Sp := SpW K pre__law_stay post__law_stay
theorem len__law_stay (K : PySem.W.Frag) (vs : List V) (H : Hp) (Q : VK) (E : XK) (h : sp__law_stay K vs H Q E) : vs.length = p__law_stay.length := len_W (n := 0) h fun ds hp => by
  obtain ⟨_, e⟩ := hp
  rw [e]; rfl
def t__law_stay (K : PySem.W.Frag) : TS :=
  (tRet (tCall (sp__law_from K) [] E0 (tCons (tVar 0) (tCons (tLst (tCons (tTup (tCons (tC (.int 0)) (tCons (tC (.int 1)) tNil))) (tCons (tTup (tCons (tC (.int 0)) (tCons (tC (.int 1)) tNil))) (tCons (tTup (tCons (tC (.int 1)) (tCons (tC (.int 1)) tNil))) (tCons (tCall (sp__law_weight K) [] E0 (tCons (tVar 0) tNil)) tNil))))) tNil))))
theorem pure__law_stay (K : PySem.W.Frag) (vs : List V) (H : Hp) (Q : VK) (E : XK) (h : sp__law_stay K vs H Q E) : t__law_stay K { nx := fun _ H' => Q .non H', rt := Q } (L2.start N__law_stay vs) H := body_W h (by decide) fun B w ds hp => by
  obtain ⟨_, e⟩ := hp
  subst e
  unfold t__law_stay
  refine st_ret (ev_callW rfl (ea_cons (ev_lst (ea_cons (ev_tup (ea_cons (ev_int (ea_cons (ev_int (ea_nil ⟨by simp, ?_⟩))))))))))
  refine ea_cons (ev_tup (ea_cons (ev_int (ea_cons (ev_int (ea_nil ⟨by simp, ?_⟩))))))
  refine ea_cons (ev_tup (ea_cons (ev_int (ea_cons (ev_int (ea_nil ⟨by simp, ?_⟩))))))
  refine ea_cons (ev_callW rfl (ea_nil ⟨⟨trivial, rfl⟩, fun X ⟨x, ex, fx, x0⟩ => ?_⟩))
  subst ex
  have ok : ∀ {a b : Int}, FOk (a, b) → a.natAbs < 16 → b.natAbs < 16 → Frb (a, b) 4 := fun f h1 h2 => ⟨f, h1, h2⟩
  refine ea_nil ⟨by simp, ea_nil ⟨⟨_, rfl, by simp, by simp⟩, fun d ⟨xs, ex, hd⟩ => ?_⟩⟩
  simp only [List.cons.injEq, PyData.list.injEq, and_true] at ex
  subst ex
  simp only [List.mem_cons, List.not_mem_nil, or_false] at hd
  rcases hd with rfl | rfl | rfl | rfl
  · exact ⟨(0, 1), rfl, ok ⟨by decide, by decide⟩ (by decide) (by decide), by decide⟩
  · exact ⟨(0, 1), rfl, ok ⟨by decide, by decide⟩ (by decide) (by decide), by decide⟩
  · exact ⟨(1, 1), rfl, ok ⟨by decide, by decide⟩ (by decide) (by decide), by decide⟩
  · exact ⟨x, rfl, fx, Int.le_of_lt x0⟩
theorem ok__law_stay (T : Tx K mg) : FnOk P w K mg base CX0 4 T.a__law_stay T.d__law_stay p__law_stay (sp__law_stay K) := by
  refine T.F__law_stay.ok sc__law_stay (fun vs H Q E h => len__law_stay K vs H Q E h) (fun cdv A outer s H vs Q E hr h => ?_)
  exact ⟨t__law_stay K, (pss_one (ps_ret (pe_call (ok__law_from T) (hr.mono (by decide)) rfl T.g__law_from T.F__law_from.kp (b__law_from T) .nil pass0 (pa_cons (pv 0) (pa_cons (pe_lst (pa_cons (pe_tup (pa_cons pe_int (pa_cons pe_int pa_nil))) (pa_cons (pe_tup (pa_cons pe_int (pa_cons pe_int pa_nil))) (pa_cons (pe_tup (pa_cons pe_int (pa_cons pe_int pa_nil))) (pa_cons (pe_call (ok__law_weight T) (hr.mono (by decide)) rfl T.g__law_weight T.F__law_weight.kp (b__law_weight T) .nil pass0 (pa_cons (pv 0) pa_nil)) pa_nil))))) pa_nil))))), pure__law_stay K vs H Q E h⟩
/-! ### _law_ratio_of -/

def pre__law_ratio_of : List PyData → Prop := fun ds => True ∧ ds = []
def post__law_ratio_of : List PyData → PyData → Prop := fun ds d => ∃ x : Fr, d = frD x ∧ Frb x 2 ∧ x.1 ≠ 0
abbrev sp__law_ratio_of (K : PySem.W.Frag) : Sp := SpW K pre__law_ratio_of post__law_ratio_of
theorem len__law_ratio_of (K : PySem.W.Frag) (vs : List V) (H : Hp) (Q : VK) (E : XK) (h : sp__law_ratio_of K vs H Q E) : vs.length = p__law_ratio_of.length := len_W (n := 0) h fun ds hp => by
  obtain ⟨_, e⟩ := hp
  rw [e]; rfl
def t__law_ratio_of (K : PySem.W.Frag) : TS :=
  (tRet (tCall (sp__law_from K) [] E0 (tCons (tVar 0) (tCons (tLst (tCons (tTup (tCons (tC (.int 1)) (tCons (tC (.int 1)) tNil))) (tCons (tTup (tCons (tC (.int 1)) (tCons (tC (.int 1)) tNil))) (tCons (tTup (tCons (tC (.int 1)) (tCons (tC (.int 1)) tNil))) (tCons (tTup (tCons (tC (.int 2)) (tCons (tC (.int 1)) tNil))) (tCons (tTup (tCons (tOp (rI0 fun i j => .int (i - j)) (tC (.int 0)) (tC (.int 1))) (tCons (tC (.int 1)) tNil))) (tCons (tTup (tCons (tC (.int 1)) (tCons (tC (.int 2)) tNil))) (tCons (tTup (tCons (tOp (rI0 fun i j => .int (i - j)) (tC (.int 0)) (tC (.int 3))) (tCons (tC (.int 2)) tNil))) tNil)))))))) tNil))))
theorem pure__law_ratio_of (K : PySem.W.Frag) (vs : List V) (H : Hp) (Q : VK) (E : XK) (h : sp__law_ratio_of K vs H Q E) : t__law_ratio_of K { nx := fun _ H' => Q .non H', rt := Q } (L2.start N__law_ratio_of vs) H := body_W h (by decide) fun B w ds hp => by
  obtain ⟨_, e⟩ := hp
  subst e
  unfold t__law_ratio_of
  refine st_ret (ev_callW rfl (ea_cons (ev_lst (ea_cons (ev_tup (ea_cons (ev_int (ea_cons (ev_int (ea_nil ⟨by simp, ?_⟩))))))))))
  refine ea_cons (ev_tup (ea_cons (ev_int (ea_cons (ev_int (ea_nil ⟨by simp, ?_⟩))))))
  refine ea_cons (ev_tup (ea_cons (ev_int (ea_cons (ev_int (ea_nil ⟨by simp, ?_⟩))))))
  refine ea_cons (ev_tup (ea_cons (ev_int (ea_cons (ev_int (ea_nil ⟨by simp, ?_⟩))))))
  refine ea_cons (ev_tup (ea_cons (ev_op (ev_int (ev_int (rok_i0 (ea_cons (ev_int (ea_nil ⟨by simp, ?_⟩)))))))))
  refine ea_cons (ev_tup (ea_cons (ev_int (ea_cons (ev_int (ea_nil ⟨by simp, ?_⟩))))))
  refine ea_cons (ev_tup (ea_cons (ev_op (ev_int (ev_int (rok_i0 (ea_cons (ev_int (ea_nil ⟨by simp, ?_⟩)))))))))
  have ok : ∀ {a b : Int}, FOk (a, b) → a.natAbs < 4 → b.natAbs < 4 → Frb (a, b) 2 := fun f h1 h2 => ⟨f, h1, h2⟩
  refine ea_nil ⟨by simp, ea_nil ⟨⟨_, rfl, by simp, by simp⟩, fun d ⟨xs, ex, hd⟩ => ?_⟩⟩
  simp only [List.cons.injEq, PyData.list.injEq, and_true] at ex
  subst ex
  simp only [List.mem_cons, List.not_mem_nil, or_false] at hd
  rcases hd with rfl | rfl | rfl | rfl | rfl | rfl | rfl
  · exact ⟨(1, 1), rfl, ok ⟨by decide, by decide⟩ (by decide) (by decide), by decide⟩
  · exact ⟨(1, 1), rfl, ok ⟨by decide, by decide⟩ (by decide) (by decide), by decide⟩
  · exact ⟨(1, 1), rfl, ok ⟨by decide, by decide⟩ (by decide) (by decide), by decide⟩
  · exact ⟨(2, 1), rfl, ok ⟨by decide, by decide⟩ (by decide) (by decide), by decide⟩
  · exact ⟨(-1, 1), rfl, ok ⟨by decide, by decide⟩ (by decide) (by decide), by decide⟩
  · exact ⟨(1, 2), rfl, ok ⟨by decide, by decide⟩ (by decide) (by decide), by decide⟩
  · exact ⟨(-3, 2), rfl, ok ⟨by decide, by decide⟩ (by decide) (by decide), by decide⟩
theorem ok__law_ratio_of (T : Tx K mg) : FnOk P w K mg base CX0 3 T.a__law_ratio_of T.d__law_ratio_of p__law_ratio_of (sp__law_ratio_of K) := by
  refine T.F__law_ratio_of.ok sc__law_ratio_of (fun vs H Q E h => len__law_ratio_of K vs H Q E h) (fun cdv A outer s H vs Q E hr h => ?_)
  exact ⟨t__law_ratio_of K, (pss_one (ps_ret (pe_call (ok__law_from T) (hr.mono (by decide)) rfl T.g__law_from T.F__law_from.kp (b__law_from T) .nil pass0 (pa_cons (pv 0) (pa_cons (pe_lst (pa_cons (pe_tup (pa_cons pe_int (pa_cons pe_int pa_nil))) (pa_cons (pe_tup (pa_cons pe_int (pa_cons pe_int pa_nil))) (pa_cons (pe_tup (pa_cons pe_int (pa_cons pe_int pa_nil))) (pa_cons (pe_tup (pa_cons pe_int (pa_cons pe_int pa_nil))) (pa_cons (pe_tup (pa_cons (pe_op op_sub pe_int pe_int) (pa_cons pe_int pa_nil))) (pa_cons (pe_tup (pa_cons pe_int (pa_cons pe_int pa_nil))) (pa_cons (pe_tup (pa_cons (pe_op op_sub pe_int pe_int) (pa_cons pe_int pa_nil))) pa_nil)))))))) pa_nil))))), pure__law_ratio_of K vs H Q E h⟩
/-! ### _law_machine -/

def pre__law_machine : List PyData → Prop := fun ds => ∃ k : Nat, ds = [.int (k : Int)] ∧ 1 ≤ k ∧ k ≤ 8
def post__law_machine : List PyData → PyData → Prop := fun ds d => ∃ (k : Nat) (m : List Ds), ds = [.int (k : Int)] ∧ d = machD m ∧ Mach m 4 ∧ m.length ≤ k ∧ ∀ i, Frb (m.getD i d0).R 2
abbrev sp__law_machine (K : PySem.W.Frag) : Sp := SpW K pre__law_machine post__law_machine
theorem len__law_machine (K : PySem.W.Frag) (vs : List V) (H : Hp) (Q : VK) (E : XK) (h : sp__law_machine K vs H Q E) : vs.length = p__law_machine.length := len_W (n := 1) h fun ds hp => by
  obtain ⟨k, e, k1, k8⟩ := hp
  rw [e]; rfl
def t__law_machine (K : PySem.W.Frag) : TS :=
  (tSeq (tPar 2 3 (tCons (tOp (rAddA K) (tC (.int 1)) (tCall (sp__law_pull K) [] E0 (tCons (tVar 0) (tCons (tVar 1) tNil)))) (tCons (tLst (tCons (tTup (tCons (tCall (sp__law_weight K) [] E0 (tCons (tVar 0) tNil)) (tCons (tCall (sp__law_stay K) [] E0 (tCons (tVar 0) tNil)) tNil))) tNil)) tNil)))
  (tSeq (tAsg (tTup (tCons (tCall (sp__law_weight K) [] E0 (tCons (tVar 0) tNil)) (tCons (tCall (sp__law_stay K) [] E0 (tCons (tVar 0) tNil)) tNil))) (gName 4))
  (tSeq (tFor (iRng2 (tCons (tC (.int 1)) (tCons (tVar 2) tNil))) (gName 5) (tSeq (tAsg (tIf (tTest (tOp rEq (tCall (sp__law_pull K) [] E0 (tCons (tVar 0) (tCons (tC (.int 2)) tNil))) (tC (.int 0)))) (tVar 4) (tTup (tCons (tCall (sp__law_weight K) [] E0 (tCons (tVar 0) tNil)) (tCons (tCall (sp__law_stay K) [] E0 (tCons (tVar 0) tNil)) tNil)))) (gName 6))
  (tSeq (tAsg (tIf (tTest (tOp (rI0 fun i j => .bl (decide (j < i))) (tCall (sp__law_pull K) [] E0 (tCons (tVar 0) (tCons (tC (.int 3)) tNil))) (tC (.int 0)))) (tCall (sp__law_pull K) [] E0 (tCons (tVar 0) (tCons (tVar 5) tNil))) (tC (.int 0))) (gName 7))
  (tSeq (tAsg (tIf (tAnd (tTest (tOp (rEqD K) (tVar 6) (tVar 4))) (tTest (tOp rEq (tCall (sp__law_pull K) [] E0 (tCons (tVar 0) (tCons (tC (.int 2)) tNil))) (tC (.int 0))))) (tTup (tCons (tTup (tCons (tC (.int 1)) (tCons (tC (.int 1)) tNil))) (tCons (tTup (tCons (tC (.int 1)) (tCons (tC (.int 1)) tNil))) tNil))) (tTup (tCons (tCall (sp__law_weight K) [] E0 (tCons (tVar 0) tNil)) (tCons (tCall (sp__law_ratio_of K) [] E0 (tCons (tVar 0) tNil)) tNil)))) (gTup K 2 (gCons (gName 8) (gCons (gName 9) gNil))))
  (tDrop (tBM K "list" rAppend (tVar 3) (tCons (tTup (tCons (tOp (rIx K) (tVar 6) (tC (.int 0))) (tCons (tOp (rIx K) (tVar 6) (tC (.int 1))) (tCons (tVar 7) (tCons (tVar 8) (tCons (tVar 9) tNil)))))) tNil)))))))
  (tRet (tCB (rTupleQ K) (tCons (tVar 3) tNil))))))
theorem pure__law_machine (K : PySem.W.Frag) (vs : List V) (H : Hp) (Q : VK) (E : XK) (h : sp__law_machine K vs H Q E) : t__law_machine K { nx := fun _ H' => Q .non H', rt := Q } (L2.start N__law_machine vs) H := body_W h (by decide) fun B w ds hp => by
  obtain ⟨k, e, k1, k8⟩ := hp
  subst e
  unfold t__law_machine
  have o2 : Frb (1, 1) 2 := ⟨⟨by decide, by decide⟩, by decide, by decide⟩
  have o4 : Frb (1, 1) 4 := ⟨⟨by decide, by decide⟩, by decide, by decide⟩
  refine st_seq (st_parDO (ev_op (ev_int (ev_callW rfl (ea_cons (ev_var rfl (ea_nil ⟨⟨_, rfl, by omega, by omega⟩, fun d ⟨m, a, em, ed, a0, a1⟩ => ?_⟩)))))))
  simp only [List.cons.injEq, PyData.int.injEq, and_true] at em
  subst em
  subst ed
  obtain ⟨n, hn⟩ : ∃ n : Nat, 1 + a = (n : Int) := ⟨(1 + a).toNat, by omega⟩
  refine ro_add (en_lst (ea_cons (ev_tup (ea_cons (ev_callW rfl (ea_nil ⟨⟨trivial, rfl⟩, fun X ⟨J, eJ, fJ, J0⟩ => ea_cons (ev_callW rfl (ea_nil ⟨⟨trivial, rfl⟩, fun X2 ⟨Wd, eW, fW, W0⟩ => ea_nil ⟨by simp, ea_nil ⟨by simp, fun l => ?_⟩⟩⟩))⟩))))))
  subst eJ
  subst eW
  rw [hn]
  refine st_seq (st_asg (ev_tup (ea_cons (ev_callW rfl (ea_nil ⟨⟨trivial, rfl⟩, fun X ⟨J2, eJ, fJ2, J20⟩ => ea_cons (ev_callW rfl (ea_nil ⟨⟨trivial, rfl⟩, fun X2 ⟨W2, eW, fW2, W20⟩ => ea_nil ⟨by simp, ?_⟩⟩))⟩)))))
  subst eJ
  subst eW
  refine st_seq (st_forR2 (ea_cons (ev_int (ea_cons (ev_var rfl (ea_nil ⟨1, _, rfl, by omega, by omega, by omega, by omega, fun i L2 Γ2 => ∃ (ms : List Ds) (s5 s6 s7 s8 s9 : Sl), L2 = [l] ∧ Γ2 = [.well w, .d (.int (k : Int)), .d (.int (n : Int)), .own l (machL ms), .d (.tuple [frD J2, frD W2]), s5, s6, s7, s8, s9] ∧ Mach ms 4 ∧ ms.length = i + 1 ∧ ∀ j, Frb (ms.getD j d0).R 2, ⟨[⟨J, Wd, 0, (1, 1), (1, 1)⟩], _, _, _, _, _, rfl, rfl, mach_one fJ J0 fW W0 (by decide), rfl, fun j => ?_⟩, ?_, ?_⟩))))))
  · cases j with
    | zero => exact o2
    | succ j => exact o2
  · rintro i L2 Γ2 hi ⟨ms, s5, s6, s7, s8, s9, rfl, rfl, hm, hl, hR⟩
    have hi2 : i + 1 < n := by omega
    rw [show (1 : Int) + (i : Int) = ((i + 1 : Nat) : Int) by omega]
    refine st_seq (st_asg (EvP.mono (k := fun d => ∃ J3 W3 : Fr, d = .tuple [frD J3, frD W3] ∧ Frb J3 4 ∧ 0 < J3.1 ∧ Frb W3 4 ∧ 0 ≤ W3.1) (ev_if (et_test (ev_op (ev_callW rfl (ea_cons (ev_int (ea_nil ⟨⟨_, rfl, by decide, by decide⟩, fun d ⟨m, z, em, ed, z0, z1⟩ => ?_⟩))))))) fun d ⟨J3, W3, ed, fJ3, J30, fW3, W30⟩ => ?_))
    · subst ed
      refine ev_int (rok_eqI ⟨_, rfl, fun _ => ev_var rfl ⟨J2, W2, rfl, fJ2, J20, fW2, W20⟩, fun _ => ev_tup (ea_cons (ev_callW rfl (ea_nil ⟨⟨trivial, rfl⟩, fun X ⟨J3, eJ, fJ3, J30⟩ => ea_cons (ev_callW rfl (ea_nil ⟨⟨trivial, rfl⟩, fun X2 ⟨W3, eW, fW3, W30⟩ => ea_nil ⟨by simp, J3, W3, by rw [eJ, eW], fJ3, J30, fW3, W30⟩⟩))⟩)))⟩)
    subst ed
    refine st_seq (st_asg (EvP.mono (k := fun d => ∃ p : Nat, d = .int (p : Int) ∧ p < i + 1) (ev_if (et_test (ev_op (ev_callW rfl (ea_cons (ev_int (ea_nil ⟨⟨_, rfl, by decide, by decide⟩, fun d ⟨m, z, em, ed, z0, z1⟩ => ?_⟩))))))) fun d ⟨p, ed, hp⟩ => ?_))
    · subst ed
      refine ev_int (rok_b0 ⟨_, rfl, fun _ => ev_callW rfl (ea_cons (ev_var rfl (ea_nil ⟨⟨_, rfl, by omega, by omega⟩, fun d ⟨m2, y, em2, ed2, y0, y1⟩ => ?_⟩))), fun _ => ev_int ⟨0, rfl, by omega⟩⟩)
      simp only [List.cons.injEq, PyData.int.injEq, and_true] at em2
      exact ⟨y.toNat, by rw [ed2, Int.toNat_of_nonneg y0], by omega⟩
    subst ed
    refine st_seq (st_unpack (EvP.mono (k := fun d => ∃ K3 R3 : Fr, d = .tuple [frD K3, frD R3] ∧ Frb K3 4 ∧ 0 < K3.1 ∧ Frb R3 2 ∧ R3.1 ≠ 0) (ev_if (et_and (et_test (ev_op (ev_var rfl (ev_var rfl (rok_eqD rfl rfl rfl rfl ?_))))))) fun d ⟨K3, R3, ed, fK3, K30, fR3, R30⟩ => ?_))
    · have els : ∀ {L : List Addr} {Γ : List Sl}, Γ[0]? = some (.well w) → EvP K B [] L Γ (tTup (tCons (tCall (sp__law_weight K) [] E0 (tCons (tVar 0) tNil)) (tCons (tCall (sp__law_ratio_of K) [] E0 (tCons (tVar 0) tNil)) tNil))) (fun d => ∃ K3 R3 : Fr, d = .tuple [frD K3, frD R3] ∧ Frb K3 4 ∧ 0 < K3.1 ∧ Frb R3 2 ∧ R3.1 ≠ 0) := fun {L Γ} hw => ev_tup (ea_cons (ev_callW hw (ea_nil ⟨⟨trivial, rfl⟩, fun X ⟨K3, eK, fK3, K30⟩ => ea_cons (ev_callW hw (ea_nil ⟨⟨trivial, rfl⟩, fun X2 ⟨R3, eR, fR3, R30⟩ => ea_nil ⟨by simp, K3, R3, by rw [eK, eR], fK3, K30, fR3, R30⟩⟩))⟩)))
      refine ⟨_, rfl, fun _ => et_test (ev_op (ev_callW rfl (ea_cons (ev_int (ea_nil ⟨⟨_, rfl, by decide, by decide⟩, fun d ⟨m, z, em, ed, z0, z1⟩ => ?_⟩))))), fun _ => ⟨(fun z => nomatch z), fun _ => els rfl⟩⟩
      subst ed
      refine ev_int (rok_eqI ⟨_, rfl, fun _ => ?_, fun _ => els rfl⟩)
      exact ev_tup (ea_cons (ev_tup (ea_cons (ev_int (ea_cons (ev_int (ea_nil ⟨by simp, ea_cons (ev_tup (ea_cons (ev_int (ea_cons (ev_int (ea_nil ⟨by simp, ea_nil ⟨by simp, (1, 1), (1, 1), rfl, o4, by decide, o2, by decide⟩⟩))))))⟩)))))))
    subst ed
    refine ⟨_, rfl, rfl, tg_cons (tg_cons (tg_nil ?_))⟩
    have dk : Dk ⟨J3, W3, p, K3, R3⟩ 4 := ⟨fJ3, J30, fW3, W30, fK3, K30, fR3.up (by decide), R30⟩
    refine st_append rfl (by rw [machL_len]; omega) (ev_tup (ea_cons (ev_op (ev_var rfl (ev_int (rok_ixsT (d := frD J3) rfl (ea_cons (ev_op (ev_var rfl (ev_int (rok_ixsT (d := frD W3) rfl (ea_cons (ev_var rfl (ea_cons (ev_var rfl (ea_cons (ev_var rfl (ea_nil ⟨by simp, ms ++ [⟨J3, W3, p, K3, R3⟩], .d (.int ((i + 1 : Nat) : Int)), .d (.tuple [frD J3, frD W3]), .d (.int (p : Int)), .d (frD K3), .d (frD R3), rfl, ?_, hm.push dk (by rw [hl]; exact hp) (by omega), by rw [List.length_append, hl]; rfl, fun j => ?_⟩))))))))))))))))))
    · rw [machL_snoc (by omega)]
      rfl
    · rw [get_snoc]
      split
      · exact fR3
      · exact hR j
  · rintro L2 Γ2 ⟨ms, s5, s6, s7, s8, s9, rfl, rfl, hm, hl, hR⟩
    exact st_ret (ev_tupOwn rfl ⟨k, ms, rfl, rfl, hm, by omega, hR⟩)
theorem ok__law_machine (T : Tx K mg) : FnOk P w K mg base CX0 5 T.a__law_machine T.d__law_machine p__law_machine (sp__law_machine K) := by
  refine T.F__law_machine.ok sc__law_machine (fun vs H Q E h => len__law_machine K vs H Q E h) (fun cdv A outer s H vs Q E hr h => ?_)
  have hu := hr.units
  exact ⟨t__law_machine K, (pss_cons (ps_par (by rfl) sc__law_machine.nd rfl rfl (by decide) rfl rfl (pa_cons (pe_op op_addA pe_int (pe_call (ok__law_pull T) (hr.mono (by decide)) rfl T.g__law_pull T.F__law_pull.kp (b__law_pull T) .nil pass0 (pa_cons (pv 0) (pa_cons (pv 1) pa_nil)))) (pa_cons (pe_lst (pa_cons (pe_tup (pa_cons (pe_call (ok__law_weight T) (hr.mono (by decide)) rfl T.g__law_weight T.F__law_weight.kp (b__law_weight T) .nil pass0 (pa_cons (pv 0) pa_nil)) (pa_cons (pe_call (ok__law_stay T) (hr.mono (by decide)) rfl T.g__law_stay T.F__law_stay.kp (b__law_stay T) .nil pass0 (pa_cons (pv 0) pa_nil)) pa_nil))) pa_nil)) pa_nil)) (by rfl))
  (pss_cons (ps_set (i := 4) sc__law_machine.nd rfl (Or.inl rfl) (pe_tup (pa_cons (pe_call (ok__law_weight T) (hr.mono (by decide)) rfl T.g__law_weight T.F__law_weight.kp (b__law_weight T) .nil pass0 (pa_cons (pv 0) pa_nil)) (pa_cons (pe_call (ok__law_stay T) (hr.mono (by decide)) rfl T.g__law_stay T.F__law_stay.kp (b__law_stay T) .nil pass0 (pa_cons (pv 0) pa_nil)) pa_nil))))
  (pss_cons (ps_for PassesOwn.never rfl (pi_range2 (by rfl) T.n_range (pa_cons pe_int (pa_cons (pv 2) pa_nil))) (pg_name (i := 5) sc__law_machine.nd rfl (Or.inl rfl)) (pss_cons (ps_set (i := 6) sc__law_machine.nd rfl (Or.inl rfl) (pe_ifExp (pt_cmpR op_eq (pe_call (ok__law_pull T) (hr.mono (by decide)) rfl T.g__law_pull T.F__law_pull.kp (b__law_pull T) .nil pass0 (pa_cons (pv 0) (pa_cons pe_int pa_nil))) pe_int (nomark _)) (pv 4) (pe_tup (pa_cons (pe_call (ok__law_weight T) (hr.mono (by decide)) rfl T.g__law_weight T.F__law_weight.kp (b__law_weight T) .nil pass0 (pa_cons (pv 0) pa_nil)) (pa_cons (pe_call (ok__law_stay T) (hr.mono (by decide)) rfl T.g__law_stay T.F__law_stay.kp (b__law_stay T) .nil pass0 (pa_cons (pv 0) pa_nil)) pa_nil)))))
  (pss_cons (ps_set (i := 7) sc__law_machine.nd rfl (Or.inl rfl) (pe_ifExp (pt_cmpR op_gt (pe_call (ok__law_pull T) (hr.mono (by decide)) rfl T.g__law_pull T.F__law_pull.kp (b__law_pull T) .nil pass0 (pa_cons (pv 0) (pa_cons pe_int pa_nil))) pe_int (nomark _)) (pe_call (ok__law_pull T) (hr.mono (by decide)) rfl T.g__law_pull T.F__law_pull.kp (b__law_pull T) .nil pass0 (pa_cons (pv 0) (pa_cons (pv 5) pa_nil))) pe_int))
  (pss_cons (ps_asg (pe_ifExp (PW.pt (pw_and (pt_cmpR (op_eqD hu) (pv 6) (pv 4) (nomark _)) (pw_and1 (pt_cmpR op_eq (pe_call (ok__law_pull T) (hr.mono (by decide)) rfl T.g__law_pull T.F__law_pull.kp (b__law_pull T) .nil pass0 (pa_cons (pv 0) (pa_cons pe_int pa_nil))) pe_int (nomark _))))) (pe_tup (pa_cons (pe_tup (pa_cons pe_int (pa_cons pe_int pa_nil))) (pa_cons (pe_tup (pa_cons pe_int (pa_cons pe_int pa_nil))) pa_nil))) (pe_tup (pa_cons (pe_call (ok__law_weight T) (hr.mono (by decide)) rfl T.g__law_weight T.F__law_weight.kp (b__law_weight T) .nil pass0 (pa_cons (pv 0) pa_nil)) (pa_cons (pe_call (ok__law_ratio_of T) (hr.mono (by decide)) rfl T.g__law_ratio_of T.F__law_ratio_of.kp (b__law_ratio_of T) .nil pass0 (pa_cons (pv 0) pa_nil)) pa_nil)))) (pg_tup (by rfl) (pgs_cons (pg_name (i := 8) sc__law_machine.nd rfl (Or.inl rfl)) (pgs_cons (pg_name (i := 9) sc__law_machine.nd rfl (Or.inl rfl)) pgs_nil))))
  (pss_one (ps_expr (pe_bm PySem.F.plainAttrs_list PySem.F.slot_list_append PySem.F.type_list_append mt_append (pv 3) (pa_cons (pe_tup (pa_cons (pe_ix ix_seq (pv 6) pe_int (fun _ _ => rfl)) (pa_cons (pe_ix ix_seq (pv 6) pe_int (fun _ _ => rfl)) (pa_cons (pv 7) (pa_cons (pv 8) (pa_cons (pv 9) pa_nil)))))) pa_nil))))))))
  (pss_one (ps_ret (pe_callTy call_tuple_of (by rfl) T.n_tuple (by decide +kernel) (pa_cons (pv 3) pa_nil))))))), pure__law_machine K vs H Q E h⟩
/-! ### _law_out -/
theorem rootAt {m : List Ds} (h : 1 ≤ m.length) : atI (machL m) 0 = some (rootD (m.getD 0 d0)) := by
  have := atI_n (machL m) 0
  rw [machL_root h] at this
  exact this

def pre__law_out : List PyData → Prop := fun ds => ∃ (m : List Ds) (bb : Nat), ds = [machD m] ∧ Mach m bb ∧ bb ≤ 100
def post__law_out : List PyData → PyData → Prop := fun ds r => ∃ m : List Ds, ds = [machD m] ∧ Rt m ∧ r = machD (outM m)
abbrev sp__law_out (K : PySem.W.Frag) : Sp := SpP K pre__law_out post__law_out
theorem len__law_out (K : PySem.W.Frag) (vs : List V) (H : Hp) (Q : VK) (E : XK) (h : sp__law_out K vs H Q E) : vs.length = p__law_out.length := len_P (n := 1) h fun ds hp => by
  obtain ⟨m, bb, e, h, hB⟩ := hp
  rw [e]; rfl
def t__law_out (K : PySem.W.Frag) : TS :=
  (tSeq (tPar 1 2 (tCons (tLst (tCons (tTup (tCons (tC (.int 1)) (tCons (tC (.int 1)) tNil))) tNil)) (tCons (tLst (tCons (tOp (rIx K) (tVar 0) (tC (.int 0))) tNil)) tNil)))
  (tSeq (tFor (iTup K (tSl (rSlX2 K) (tVar 0) (tPart (tC (.int 1))) tNoPart)) (gTup K 5 (gCons (gName 3) (gCons (gName 4) (gCons (gName 5) (gCons (gName 6) (gCons (gName 7) gNil)))))) (tSeq (tAsg (tCall (sp__law_by K) [] E0 (tCons (tOp (rIx K) (tVar 1) (tVar 5)) (tCons (tVar 7) tNil))) (gName 8))
  (tSeq (tDrop (tBM K "list" rAppend (tVar 1) (tCons (tVar 8) tNil)))
  (tSeq (tAsg (tCall (sp__law_by K) [] E0 (tCons (tVar 8) (tCons (tVar 8) tNil))) (gName 9))
  (tDrop (tBM K "list" rAppend (tVar 2) (tCons (tTup (tCons (tCall (sp__law_by K) [] E0 (tCons (tVar 3) (tCons (tVar 9) tNil))) (tCons (tCall (sp__law_by K) [] E0 (tCons (tVar 4) (tCons (tVar 9) tNil))) (tCons (tVar 5) (tCons (tCall (sp__law_by K) [] E0 (tCons (tVar 6) (tCons (tVar 9) tNil))) (tCons (tTup (tCons (tC (.int 1)) (tCons (tC (.int 1)) tNil))) tNil)))))) tNil)))))))
  (tRet (tCB (rTupleQ K) (tCons (tVar 2) tNil)))))
theorem pure__law_out (K : PySem.W.Frag) (vs : List V) (H : Hp) (Q : VK) (E : XK) (h : sp__law_out K vs H Q E) : t__law_out K { nx := fun _ H' => Q .non H', rt := Q } (L2.start N__law_out vs) H := body_P h fun B ds hW hp => by
  obtain ⟨m, bb, e, h, hB⟩ := hp
  subst e
  unfold t__law_out
  have n1_ := h.n1
  have n8 := h.n8
  have hl := outM_len m
  have gs : ∀ i, i < m.length → Sm (frOf (gM m i)) := fun i hi => by
    obtain ⟨a, b⟩ := gM_size h (fun i => (h.dk i).R) i
    have : bb * i ≤ 100 * 7 := Nat.mul_le_mul hB (by omega)
    exact ⟨(frOf_ok _).1, pow_up a (by omega), pow_up b (by omega)⟩
  have qs : ∀ {i : Nat}, i < m.length → Sm (frOf (g2 m i)) := fun {i} hi => by
    obtain ⟨a, b⟩ := g2_size h (fun i => (h.dk i).R) hi
    have : bb * (m.length - 1) ≤ 100 * 7 := Nat.mul_le_mul hB (by omega)
    exact ⟨(frOf_ok _).1, pow_up a (by omega), pow_up b (by omega)⟩
  refine st_seq (st_parOO (en_lst (ea_cons (ev_tup (ea_cons (ev_int (ea_cons (ev_int (ea_nil ⟨by simp, ea_nil ⟨by simp, fun l1 => en_lst (ea_cons (ev_op (ev_var rfl (ev_int (rok_ixsT (rootAt n1_) (ea_nil ⟨by simp, fun l2 hne => ?_⟩))))))⟩⟩)))))))))
  have i1 : [PyData.tuple [.int 1, .int 1]] = (List.range 1).map fun k => frD (frOf (gM m k)) := by
    show [PyData.tuple [.int 1, .int 1]] = [frD (frOf (gM m 0))]
    rw [gM_zero]
    rfl
  have i2 : [rootD (m.getD 0 d0)] = (machL (outM m)).take 1 := by
    have : (machL (outM m))[0]? = some (rootD (m.getD 0 d0)) := by
      rw [machL_root (by rw [hl]; exact n1_), outM_at, if_pos (by omega)]
      rfl
    rw [List.take_add_one (i := 0), this]
    rfl
  rw [i1, i2]
  refine st_seq (st_forTG (ev_sl (ev_var rfl (eo_some (ev_int ⟨_, rfl, eo_no (so_tup ⟨(m.drop 1).map disc5, by rw [cutD_one, machL_d5], fun d hd => ?_, fun i L2 Γ2 => ∃ s3 s4 s5 s6 s7 s8 s9 : Sl, L2 = [l2, l1] ∧ Γ2 = [.d (machD m), .own l1 ((List.range (i + 1)).map fun k => frD (frOf (gM m k))), .own l2 ((machL (outM m)).take (i + 1)), s3, s4, s5, s6, s7, s8, s9], ⟨_, _, _, _, _, _, _, rfl, rfl⟩, ?_, ?_⟩)⟩)))))
  · obtain ⟨a, _, rfl⟩ := List.mem_map.mp hd
    rfl
  · rintro i d' L2 Γ2 g hi ⟨s3, s4, s5, s6, s7, s8, s9, rfl, rfl⟩
    obtain ⟨hi2, rfl⟩ := d5_at hi
    have dk := h.dk (i + 1)
    have pl := h.par (i + 1) (by omega) hi2
    have smR := dk.R.sm (show bb ≤ 4000 by omega)
    have smK := dk.K.sm (show bb ≤ 4000 by omega)
    have smJ := dk.J.sm (show bb ≤ 4000 by omega)
    have smW := dk.W.sm (show bb ≤ 4000 by omega)
    refine tg_cons (tg_cons (tg_cons (tg_cons (tg_cons (tg_nil ?_)))))
    have at1 : atI ((List.range (i + 1)).map fun k => frD (frOf (gM m k))) (((m.getD (i + 1) d0).p : Nat) : Int) = some (frD (frOf (gM m (m.getD (i + 1) d0).p))) := by
      rw [atI_n, List.getElem?_map, List.getElem?_range pl]
      rfl
    refine st_seq (st_asg (ev_callP (ea_cons (ev_ixOwn rfl (ev_var rfl ⟨_, _, rfl, at1, ea_cons (ev_var rfl (ea_nil ⟨⟨_, _, rfl, gs _ (by omega), smR⟩, fun r ⟨x, y, r1, e, ed, f1, v1⟩ => ?_⟩))⟩)))))
    obtain ⟨rfl, rfl⟩ := frD2_inj e
    subst ed
    have er1 : r1 = frOf (gM m (i + 1)) := FOk.inj f1 (frOf_ok _) (by
      rw [v1, frOf_val, frOf_val, gM_step h (show 0 < i + 1 by omega) hi2])
    subst er1
    refine st_seq (st_append rfl (by rw [List.length_map, List.length_range]; omega) (ev_var rfl ?_))
    refine st_seq (st_asg (ev_callP (ea_cons (ev_var rfl (ea_cons (ev_var rfl (ea_nil ⟨⟨_, _, rfl, gs _ hi2, gs _ hi2⟩, fun r ⟨x, y, r2, e, ed, f2, v2⟩ => ?_⟩)))))))
    obtain ⟨rfl, rfl⟩ := frD2_inj e
    subst ed
    have er2 : r2 = frOf (g2 m (i + 1)) := FOk.inj f2 (frOf_ok _) (by
      rw [v2, frOf_val, frOf_val]
      rfl)
    subst er2
    have gq := qs hi2
    refine st_append rfl (by rw [List.length_take]; omega) (ev_tup (ea_cons (ev_callP (ea_cons (ev_var rfl (ea_cons (ev_var rfl (ea_nil ⟨⟨_, _, rfl, smJ, gq⟩, fun r ⟨x, y, rJ, e, ed, fJ, vJ⟩ => ?_⟩))))))))
    obtain ⟨rfl, rfl⟩ := frD2_inj e
    subst ed
    refine ea_cons (ev_callP (ea_cons (ev_var rfl (ea_cons (ev_var rfl (ea_nil ⟨⟨_, _, rfl, smW, gq⟩, fun r ⟨x, y, rW, e, ed, fW, vW⟩ => ?_⟩))))))
    obtain ⟨rfl, rfl⟩ := frD2_inj e
    subst ed
    refine ea_cons (ev_var rfl (ea_cons (ev_callP (ea_cons (ev_var rfl (ea_cons (ev_var rfl (ea_nil ⟨⟨_, _, rfl, smK, gq⟩, fun r ⟨x, y, rK, e, ed, fK, vK⟩ => ?_⟩))))))))
    obtain ⟨rfl, rfl⟩ := frD2_inj e
    subst ed
    refine ea_cons (ev_tup (ea_cons (ev_int (ea_cons (ev_int (ea_nil ⟨by simp, ea_nil ⟨by simp, ?_⟩⟩))))))
    have row : PyData.tuple [frD rJ, frD rW, .int ((m.getD (i + 1) d0).p : Int), frD rK, .tuple [.int 1, .int 1]] = discD (od m (i + 1)) := by
      unfold od
      rw [if_neg (by omega), FOk.inj fJ (frOf_ok (val (m.getD (i + 1) d0).J * g2 m (i + 1))) (by rw [vJ, frOf_val, frOf_val]), FOk.inj fW (frOf_ok (val (m.getD (i + 1) d0).W * g2 m (i + 1))) (by rw [vW, frOf_val, frOf_val]), FOk.inj fK (frOf_ok (val (m.getD (i + 1) d0).K * g2 m (i + 1))) (by rw [vK, frOf_val, frOf_val])]
      rfl
    rw [row]
    refine ⟨.d (frD (m.getD (i + 1) d0).J), .d (frD (m.getD (i + 1) d0).W), .d (.int ((m.getD (i + 1) d0).p : Int)), .d (frD (m.getD (i + 1) d0).K), .d (frD (m.getD (i + 1) d0).R), .d (frD (frOf (gM m (i + 1)))), .d (frD (frOf (g2 m (i + 1)))), rfl, ?_⟩
    rw [out_take hi2, List.range_succ (n := i + 1), List.map_append]
    rfl
  · rintro L2 Γ2 ⟨s3, s4, s5, s6, s7, s8, s9, rfl, rfl⟩
    refine st_ret (ev_tupOwn rfl ⟨m, rfl, h.rt, ?_⟩)
    rw [List.length_map, List.length_drop, List.take_of_length_le (by rw [machL_len, hl]; omega)]
    rfl
theorem ok__law_out (T : Tx K mg) : FnOk P w K mg base CX0 4 T.a__law_out T.d__law_out p__law_out (sp__law_out K) := by
  refine T.F__law_out.ok sc__law_out (fun vs H Q E h => len__law_out K vs H Q E h) (fun cdv A outer s H vs Q E hr h => ?_)
  exact ⟨t__law_out K, (pss_cons (ps_par (by rfl) sc__law_out.nd rfl rfl (by decide) rfl rfl (pa_cons (pe_lst (pa_cons (pe_tup (pa_cons pe_int (pa_cons pe_int pa_nil))) pa_nil)) (pa_cons (pe_lst (pa_cons (pe_ix ix_seq (pv 0) pe_int (fun _ _ => rfl)) pa_nil)) pa_nil)) (by rfl))
  (pss_cons (ps_for PassesOwn.never rfl (pi_tup (pe_slice sl_any (pv 0) (po_some pe_int) po_none)) (pg_tup (by rfl) (pgs_cons (pg_name (i := 3) sc__law_out.nd rfl (Or.inl rfl)) (pgs_cons (pg_name (i := 4) sc__law_out.nd rfl (Or.inl rfl)) (pgs_cons (pg_name (i := 5) sc__law_out.nd rfl (Or.inl rfl)) (pgs_cons (pg_name (i := 6) sc__law_out.nd rfl (Or.inl rfl)) (pgs_cons (pg_name (i := 7) sc__law_out.nd rfl (Or.inl rfl)) pgs_nil)))))) (pss_cons (ps_set (i := 8) sc__law_out.nd rfl (Or.inl rfl) (pe_call (ok__law_by T) (hr.mono (by decide)) rfl T.g__law_by T.F__law_by.kp (b__law_by T) .nil pass0 (pa_cons (pe_ix ix_seq (pv 1) (pv 5) (fun _ _ => rfl)) (pa_cons (pv 7) pa_nil))))
  (pss_cons (ps_expr (pe_bm PySem.F.plainAttrs_list PySem.F.slot_list_append PySem.F.type_list_append mt_append (pv 1) (pa_cons (pv 8) pa_nil)))
  (pss_cons (ps_set (i := 9) sc__law_out.nd rfl (Or.inl rfl) (pe_call (ok__law_by T) (hr.mono (by decide)) rfl T.g__law_by T.F__law_by.kp (b__law_by T) .nil pass0 (pa_cons (pv 8) (pa_cons (pv 8) pa_nil))))
  (pss_one (ps_expr (pe_bm PySem.F.plainAttrs_list PySem.F.slot_list_append PySem.F.type_list_append mt_append (pv 2) (pa_cons (pe_tup (pa_cons (pe_call (ok__law_by T) (hr.mono (by decide)) rfl T.g__law_by T.F__law_by.kp (b__law_by T) .nil pass0 (pa_cons (pv 3) (pa_cons (pv 9) pa_nil))) (pa_cons (pe_call (ok__law_by T) (hr.mono (by decide)) rfl T.g__law_by T.F__law_by.kp (b__law_by T) .nil pass0 (pa_cons (pv 4) (pa_cons (pv 9) pa_nil))) (pa_cons (pv 5) (pa_cons (pe_call (ok__law_by T) (hr.mono (by decide)) rfl T.g__law_by T.F__law_by.kp (b__law_by T) .nil pass0 (pa_cons (pv 6) (pa_cons (pv 9) pa_nil))) (pa_cons (pe_tup (pa_cons pe_int (pa_cons pe_int pa_nil))) pa_nil)))))) pa_nil))))))))
  (pss_one (ps_ret (pe_callTy call_tuple_of (by rfl) T.n_tuple (by decide +kernel) (pa_cons (pv 2) pa_nil)))))), pure__law_out K vs H Q E h⟩
/-! ### _law_parts -/

def pre__law_parts : Nat → List PyData → Prop
  | 0, _ => False
  | n + 1, ds => (fun n ds => ∃ (m : List Ds) (i : Nat), ds = [machD m, .int (i : Int)] ∧ Mach m 29 ∧ i < m.length ∧ m.length ≤ i + n + 1 ∧ ∀ j, (m.getD j d0).R = (1, 1)) n ds
def post__law_parts : List PyData → PyData → Prop := fun ds d => ∃ (m : List Ds) (i : Nat) (U V : List Int) (S : Int), ds = [machD m, .int (i : Int)] ∧ Rt m ∧ d = .tuple [frowD (rowS U S), frowD (rowS V S)] ∧ PartsM m 29 i U V S
abbrev spr__law_parts (K : PySem.W.Frag) (n : Nat) : Sp := SpP K (pre__law_parts n) post__law_parts
abbrev sp__law_parts (K : PySem.W.Frag) : Sp := spr__law_parts K 8
theorem len__law_parts (K : PySem.W.Frag) (m : Nat) (vs : List V) (H : Hp) (Q : VK) (E : XK) (h : spr__law_parts K m vs H Q E) : vs.length = p__law_parts.length := len_P (n := 2) h fun ds hp => by
  cases m with
  | zero => exact hp.elim
  | succ n =>
    obtain ⟨m, i, e, hh, hi, hn, hR⟩ := hp
    rw [e]; rfl
def t__law_parts (K : PySem.W.Frag) (n : Nat) : TS :=
  (tSeq (tPar 2 3 (tCons (tLst (tCons (tTup (tCons (tC (.int 1)) (tCons (tC (.int 1)) tNil))) tNil)) (tCons (tCall (sp__law_add K) [] E0 (tCons (tCall (sp__law_cut K) [] E0 (tCons (tLst (tCons (tOp (rIx K) (tOp (rIx K) (tVar 0) (tVar 1)) (tC (.int 1))) tNil)) tNil)) (tCons (tLst (tCons (tTup (tCons (tC (.int 0)) (tCons (tC (.int 1)) tNil))) (tCons (tTup (tCons (tOp (rI0 fun i j => .int (i - j)) (tC (.int 0)) (tOp (rIx K) (tOp (rIx K) (tOp (rIx K) (tVar 0) (tVar 1)) (tC (.int 0))) (tC (.int 0)))) (tCons (tOp (rIx K) (tOp (rIx K) (tOp (rIx K) (tVar 0) (tVar 1)) (tC (.int 0))) (tC (.int 1))) tNil))) tNil))) tNil))) tNil)))
  (tSeq (tFor (iRng2 (tCons (tOp (rAddA K) (tVar 1) (tC (.int 1))) (tCons (tCB (rLenQ K) (tCons (tVar 0) tNil)) tNil))) (gName 4) (tIfS (tTest (tOp rEq (tOp (rIx K) (tOp (rIx K) (tVar 0) (tVar 4)) (tC (.int 2))) (tVar 1))) (tSeq (tAsg (tCall (spr__law_parts K n) [] E0 (tCons (tVar 0) (tCons (tVar 4) tNil))) (gTup K 2 (gCons (gName 5) (gCons (gName 6) gNil))))
  (tSeq (tAsg (tCall (sp__law_add K) [] E0 (tCons (tVar 6) (tCons (tCall (sp__law_mul K) [] E0 (tCons (tLst (tCons (tOp (rIx K) (tOp (rIx K) (tVar 0) (tVar 4)) (tC (.int 3))) tNil)) (tCons (tVar 5) tNil))) tNil))) (gName 7))
  (tSeq (tAsg (tCall (sp__law_add K) [] E0 (tCons (tCall (sp__law_mul K) [] E0 (tCons (tVar 3) (tCons (tVar 7) tNil))) (tCons (tCall (sp__law_mul K) [] E0 (tCons (tVar 2) (tCons (tCall (sp__law_mul K) [] E0 (tCons (tLst (tCons (tOp (rIx K) (tOp (rIx K) (tVar 0) (tVar 4)) (tC (.int 3))) tNil)) (tCons (tVar 6) tNil))) tNil))) tNil))) (gName 3))
  (tAsg (tCall (sp__law_mul K) [] E0 (tCons (tVar 2) (tCons (tVar 7) tNil))) (gName 2))))) tNext))
  (tRet (tTup (tCons (tVar 2) (tCons (tVar 3) tNil))))))
theorem pure__law_parts (K : PySem.W.Frag) (n : Nat) (vs : List V) (H : Hp) (Q : VK) (E : XK) (h : spr__law_parts K (n + 1) vs H Q E) : t__law_parts K n { nx := fun _ H' => Q .non H', rt := Q } (L2.start N__law_parts vs) H := body_P h fun B ds hW hp => by
  obtain ⟨m, i, e, hh, hi, hn, hR⟩ := hp
  subst e
  unfold t__law_parts
  clear h
  have h := hh
  have n8 := h.n8
  have dk := h.dk i
  have e59 : eW 29 1 = 59 := eW_one 29
  have up4 : ∀ {a b : Nat}, a < 2 ^ b → b ≤ 4000 → a < 2 ^ 4000 := fun h l => pow_up h l
  obtain ⟨D, rest, mat, eD⟩ : ∃ D rest, (machL m)[i]? = some D ∧ D = .tuple (frD (m.getD i d0).J :: frD (m.getD i d0).W :: rest) := by
    cases i with
    | zero => exact ⟨_, [], machL_root hi, rfl⟩
    | succ i => exact ⟨_, _, machL_disc (by omega) hi, rfl⟩
  subst eD
  have mat : atI (machL m) (i : Int) = some (.tuple (frD (m.getD i d0).J :: frD (m.getD i d0).W :: rest)) := by rw [atI_n, mat]
  generalize hJ : (m.getD i d0).J = J at *
  generalize hW' : (m.getD i d0).W = Wd at *
  have a0 : atI (frD J :: frD Wd :: rest) 0 = some (frD J) := atI_nat (j := 0) rfl
  have a1 : atI (frD J :: frD Wd :: rest) 1 = some (frD Wd) := atI_nat (j := 1) rfl
  have fJ : Frb J 29 := by rw [← hJ]; exact dk.J
  have fW : Frb Wd 29 := by rw [← hW']; exact dk.W
  have J2 := fJ.ok.1
  have W2 := fW.ok.1
  refine st_seq (st_par (ea_cons (ev_lst (ea_cons (ev_tup (ea_cons (ev_int (ea_cons (ev_int (ea_nil ⟨by simp, ea_nil ⟨by simp, ?_⟩⟩))))))))))
  refine ea_cons (ev_callP (ea_cons (ev_callP (ea_cons (ev_lst (ea_cons (ev_op (ev_op (ev_var rfl (ev_var rfl (rok_ixsT mat (ev_int (rok_ixsT a1 (ea_nil ⟨by simp, ea_nil ⟨⟨[Wd], rfl, by simp⟩, fun d ⟨r, mm, e, ed, hm, hz, h0⟩ => ?_⟩⟩))))))))))))))
  obtain rfl := frow1 (r := [Wd]) e
  obtain ⟨f1, f2, f3⟩ := cut_row (fun y hy => by rw [List.mem_singleton.mp hy]; exact fW.ok) hm hz h0
  subst ed
  refine ea_cons (ev_lst (ea_cons (ev_tup (ea_cons (ev_int (ea_cons (ev_int (ea_nil ⟨by simp, ?_⟩)))))))) 
  refine ea_cons (ev_tup (ea_cons (ev_op (ev_int (ev_op (ev_op (ev_op (ev_var rfl (ev_var rfl (rok_ixsT mat (ev_int (rok_ixsT a0 (ev_int (rok_ixsT (d := .int J.1) rfl (rok_i0 ?_)))))))))))))))
  refine ea_cons (ev_op (ev_op (ev_op (ev_var rfl (ev_var rfl (rok_ixsT mat (ev_int (rok_ixsT a0 (ev_int (rok_ixsT (d := .int J.2) rfl (ea_nil ⟨by simp, ea_nil ⟨by simp, ?_⟩⟩)))))))))))
  have bJ : (0 - J.1).natAbs < 2 ^ 29 := by rw [Int.zero_sub, Int.natAbs_neg]; exact fJ.b1
  have sW : ∀ a ∈ [Wd].take mm, Sm a := fun a ha => by
    rw [List.mem_singleton.mp (List.mem_of_mem_take ha)]
    exact fW.sm (by decide)
  have sJ : ∀ a ∈ [((0 : Int), (1 : Int)), (0 - J.1, J.2)], Sm a := fun a ha => by
    simp only [List.mem_cons, List.not_mem_nil, or_false] at ha
    rcases ha with rfl | rfl
    · exact ⟨by decide, Nat.two_pow_pos _, Nat.one_lt_two_pow (by decide)⟩
    · exact ⟨J2, up4 bJ (by decide), up4 fJ.b2 (by decide)⟩
  refine ea_nil ⟨⟨[Wd].take mm, [(0, 1), (0 - J.1, J.2)], rfl, by rw [List.length_take]; simp; omega, by simp, sW, sJ⟩, fun d ⟨r, s, t, e, ed, fo, tr, vv⟩ => ?_⟩
  obtain ⟨rfl, rfl⟩ := frow2 (r := [Wd].take mm) (s := [(0, 1), (0 - J.1, J.2)]) e
  subst ed
  have S0 : 0 < Wd.2 * J.2 := Int.mul_pos W2 J2
  have rW := ratInt_ne (a := Wd.2) (by omega)
  have rJ := ratInt_ne (a := J.2) (by omega)
  have vt : ∀ x, pF t x = val Wd - x * val J := fun x => by
    have q1 : pF [Wd] x = val Wd + x * 0 := rfl
    have q2 : pF [((0 : Int), (1 : Int)), (0 - J.1, J.2)] x = val (0, 1) + x * (val (0 - J.1, J.2) + x * 0) := rfl
    have q3 : val (0 - J.1, J.2) = - val J := by
      unfold val
      show ((0 - J.1 : Int) : Rat) / _ = _
      rw [Int.zero_sub, Rat.intCast_neg]
      grind
    rw [vv, f3, q1, q2, q3, val_zero]
    grind
  have et : t = rowS (trim [Wd.1 * J.2, -(J.1 * Wd.2)]) (Wd.2 * J.2) := rowS_uniq fo tr S0 fun x => by
    have q : pI [Wd.1 * J.2, -(J.1 * Wd.2)] x = ((Wd.1 * J.2 : Int) : Rat) + x * (((-(J.1 * Wd.2) : Int) : Rat) + x * 0) := rfl
    rw [vt, q, Rat.intCast_neg, Rat.intCast_mul, Rat.intCast_mul, Rat.intCast_mul]
    unfold val
    grind
  subst et
  have e1 : PyData.list [PyData.tuple [.int 1, .int 1]] = frowD (rowS [Wd.2 * J.2] (Wd.2 * J.2)) := by
    show _ = PyData.list [frD (fS (Wd.2 * J.2) (Wd.2 * J.2))]
    have q : (1, 1) = fS (Wd.2 * J.2) (Wd.2 * J.2) := fS_eq ⟨by decide, by decide⟩ (by
      have := ratInt_ne (a := Wd.2 * J.2) (by omega)
      have o : val (1, 1) = 1 := by decide +kernel
      rw [o]
      grind)
    rw [← q]
    rfl
  rw [e1]
  have b58 := natAbs_mul_lt fW.b2 fJ.b2
  have c1 := natAbs_mul_lt fW.b1 fJ.b2
  have c2 := natAbs_mul_lt fJ.b1 fW.b2
  have hf0 : Half 29 1 [Wd.2 * J.2] (trim [Wd.1 * J.2, -(J.1 * Wd.2)]) (Wd.2 * J.2) := by
    have pe : (2 : Nat) ^ 59 = 2 ^ 58 + 2 ^ 58 := by decide
    refine ⟨S0, ?_, ?_, ?_, Nat.le_refl _, trim_len _, ?_, trim_last _⟩
    · rw [e59]
      exact pow_up b58 (by decide)
    · rw [e59]
      exact pow_up b58 (by decide)
    · rw [e59, pe]
      refine Nat.lt_of_le_of_lt (n1_trim _) ?_
      show (Wd.1 * J.2).natAbs + ((-(J.1 * Wd.2)).natAbs + 0) < _
      rw [Int.natAbs_neg]
      exact Nat.add_lt_add c1 c2
    · intro z
      have z : Wd.2 * J.2 = 0 := Option.some.inj z
      omega
  have I0 : PInv m 29 i (i + 1) 1 [Wd.2 * J.2] (trim [Wd.1 * J.2, -(J.1 * Wd.2)]) (Wd.2 * J.2) := pinv0 hi hf0 (fun x => by
    show ((Wd.2 * J.2 : Int) : Rat) + x * 0 = _
    grind) fun x => by
    have q : pI [Wd.1 * J.2, -(J.1 * Wd.2)] x = ((Wd.1 * J.2 : Int) : Rat) + x * (((-(J.1 * Wd.2) : Int) : Rat) + x * 0) := rfl
    have w1 : (mq m).W i = val Wd := by show val (m.getD i d0).W = _; rw [hW']
    have w2 : (mq m).J i = val J := by show val (m.getD i d0).J = _; rw [hJ]
    rw [pI_trim, q, w1, w2, Rat.intCast_neg, Rat.intCast_mul, Rat.intCast_mul, Rat.intCast_mul]
    unfold val
    grind
  refine ea_nil ⟨_, _, rfl, ?_⟩
  refine st_seq (st_forR2 (ea_cons (ev_op (ev_var rfl (ev_int (ro_add (ea_cons (ev_cb (ea_cons (ev_var rfl (ea_nil (co_lenT (ea_nil ⟨_, _, rfl, by omega, by omega, by rw [machL_len]; omega, by rw [machL_len]; omega, fun c L2 Γ2 => ∃ (a : Nat) (U V : List Int) (S : Int) (s4 s5 s6 s7 : Sl), L2 = [] ∧ Γ2 = [.d (machD m), .d (.int (i : Int)), .d (frowD (rowS U S)), .d (frowD (rowS V S)), s4, s5, s6, s7] ∧ PInv m 29 i (i + 1 + c) a U V S, ⟨_, _, _, _, _, _, _, _, rfl, rfl, I0⟩, ?_, ?_⟩)))))))))))))
  · rintro c L2 Γ2 hc ⟨a, U, V, S, s4, s5, s6, s7, rfl, rfl, I⟩
    rw [machL_len] at hc
    have hk : i + 1 + c < m.length := by omega
    rw [show (i : Int) + 1 + (c : Int) = ((i + 1 + c : Nat) : Int) by omega]
    generalize hkk : i + 1 + c = k at *
    have ek : i + 1 + (c + 1) = k + 1 := by omega
    have ik : i < k := by omega
    have kd := h.dk k
    have matk : atI (machL m) (k : Int) = some (discD (m.getD k d0)) := by rw [atI_n, machL_disc (by omega) hk]
    refine st_if (et_test (ev_op (ev_op (ev_op (ev_var rfl (ev_var rfl (rok_ixsT matk (ev_int (rok_ixsT (d := .int ((m.getD k d0).p : Int)) rfl (ev_var rfl (rok_eqI ⟨_, rfl, fun hb => ?_, fun hb => st_next ⟨a, U, V, S, .d (.int (k : Int)), s5, s6, s7, rfl, rfl, by
      rw [ek]
      exact pinv_skip I hk ik (fun q => by
        have := of_decide_eq_false hb
        omega)⟩⟩)))))))))))
    · have hp : (m.getD k d0).p = i := by
        have := of_decide_eq_true hb
        omega
      obtain ⟨n', rfl⟩ : ∃ n', n = n' + 1 := ⟨n - 1, by omega⟩
      refine st_seq (st_unpack (ev_callP (ea_cons (ev_var rfl (ea_cons (ev_var rfl (ea_nil ⟨⟨m, k, rfl, h, hk, by omega, hR⟩, fun d ⟨m2, k2, U', V', S', e, hr, ed, PM⟩ => ?_⟩)))))))
      have e2 : m = m2 ∧ k = k2 := by
        simp only [List.cons.injEq, and_true, PyData.int.injEq] at e
        exact ⟨machD_inj e.1 h.rt hr, by omega⟩
      obtain ⟨rfl, rfl⟩ := e2
      subst ed
      refine ⟨_, rfl, rfl, tg_cons (tg_cons (tg_nil ?_))⟩
      have sz := I.sz
      have sz' := PM.sz
      have wn : wM (mq m).n (mq m).p k ≤ 8 := by
        have := w_le (n := (mq m).n) (p := (mq m).p) (fun i a b => h.par i a b) (i := k) hk
        have : (mq m).n ≤ 8 := n8
        omega
      have an : a ≤ 8 := by
        have := w_le (n := (mq m).n) (p := (mq m).p) (fun i a b => h.par i a b) (i := i) hi
        have : (mq m).n ≤ 8 := n8
        have := I.wa
        omega
      have ea := eW_le (B := 29) (Nat.le_refl _) an
      have ew := eW_le (B := 29) (Nat.le_refl _) wn
      have T := stp sz sz' kd.K.b1 kd.K.b2
      have K0 := kd.K.ok.1
      have S0 := sz.s0
      have S1 := sz'.s0
      have KS := Int.mul_pos K0 S1
      have bKS : ((m.getD k d0).K.2 * S').natAbs < 2 ^ 829 := pow_up (natAbs_mul_lt kd.K.b2 sz'.sb) (by omega)
      have bSS : (S * ((m.getD k d0).K.2 * S')).natAbs < 2 ^ 1629 := pow_up (natAbs_mul_lt sz.sb bKS) (by omega)
      have one : ∀ {x : Int} {b : Nat}, x.natAbs < 2 ^ b → n1 [x] < 2 ^ b := fun h => h
      have eK := fr_row kd.K.ok
      have fnl := pinv_step I hk ik hp PM K0 kd.K.b1 kd.K.b2 rfl (by rw [hR]; decide +kernel)
      have lw := T.wl
      have lk := T.kl
      have lu := sz.lu
      have lv := sz.lv
      have lu' := sz'.lu
      have lv' := sz'.lv
      have lsc := len_sc (m.getD k d0).K.1 U'
      have mulK : ∀ {L : List Addr} {Γ : List Sl} {te : TE} {q : PyData → Prop} (X : List Int), Γ[0]? = some (.d (machD m)) → Γ[4]? = some (.d (.int (k : Int))) → EvP K B [] L Γ te (fun d => d = frowD (rowS X S')) → X.length ≤ 100 → n1 X < 2 ^ 800 → q (frowD (rowS (trim (comb (m.getD k d0).K.1 X 0 [])) ((m.getD k d0).K.2 * S'))) → EvP K B [] L Γ (tCall (sp__law_mul K) [] E0 (tCons (tLst (tCons (tOp (rIx K) (tOp (rIx K) (tVar 0) (tVar 4)) (tC (.int 3))) tNil)) (tCons te tNil))) q := fun X g0 g4 hte lX nX hq => by
        refine ev_callP (ea_cons (ev_lst (ea_cons (ev_op (ev_op (ev_var g0 (ev_var g4 (rok_ixsT matk (ev_int (rok_ixsT (d := frD (m.getD k d0).K) rfl (ea_nil ⟨by simp, ea_cons (hte.mono fun d ed => ea_nil ⟨⟨[(m.getD k d0).K.1], X, (m.getD k d0).K.2, S', 29, 800, ?_, K0, S1, by simp, lX, one kd.K.b1, nX, kd.K.b2, pow_up sz'.sb ew, by decide⟩, fun d ⟨r, s, t, e, ed2, fo, tr, vv⟩ => ?_⟩)⟩)))))))))))
        · rw [ed, ← eK]
          rfl
        · rw [ed] at e
          obtain ⟨rfl, rfl⟩ := frow2 (r := [(m.getD k d0).K]) (s := rowS X S') e
          subst ed2
          rw [eK] at vv
          have q2 := sc_row fo tr K0 S1 vv
          subst q2
          exact hq
      refine st_seq (st_asg (ev_callP (ea_cons (ev_var rfl (ea_cons (mulK U' rfl rfl (ev_var rfl rfl) (by omega) (pow_up sz'.nu ew) (ea_nil ⟨⟨rowS V' S', _, rfl, by rw [rowS_len]; omega, by rw [rowS_len]; omega, rowS_sm S1 (up4 sz'.nv (by omega)) (up4 sz'.sb (by omega)), rowS_sm KS (up4 T.ku (by omega)) (up4 bKS (by decide))⟩, fun d ⟨r, s, t, e, ed, fo, tr, vv⟩ => ?_⟩)))))))
      obtain ⟨rfl, rfl⟩ := frow2 e
      subst ed
      obtain rfl := wh_row fo tr K0 S1 vv
      have wn' : n1 (whL (m.getD k d0).K.1 (m.getD k d0).K.2 U' V') < 2 ^ 830 := pow_up T.wn (by omega)
      have ku' : n1 (trim (comb (m.getD k d0).K.1 V' 0 [])) < 2 ^ 830 := pow_up T.kv (by omega)
      have bKS' : ((m.getD k d0).K.2 * S').natAbs < 2 ^ 830 := pow_up bKS (by decide)
      refine st_seq (st_asg (ev_callP (ea_cons (ev_callP (ea_cons (ev_var rfl (ea_cons (ev_var rfl (ea_nil ⟨⟨V, whL (m.getD k d0).K.1 (m.getD k d0).K.2 U' V', S, (m.getD k d0).K.2 * S', 800, 830, rfl, S0, KS, by omega, by omega, pow_up sz.nv ea, wn', pow_up sz.sb ea, bKS', by decide⟩, fun d ⟨r, s, t, e, ed, fo, tr, vv⟩ => ?_⟩))))))))) 
      obtain ⟨rfl, rfl⟩ := frow2 e
      subst ed
      obtain rfl := mul_row fo tr S0 KS vv
      refine ea_cons (ev_callP (ea_cons (ev_var rfl (ea_cons (mulK V' rfl rfl (ev_var rfl rfl) (by omega) (pow_up sz'.nv ew) (ea_nil ⟨⟨U, _, S, (m.getD k d0).K.2 * S', 800, 830, rfl, S0, KS, by omega, by omega, pow_up sz.nu ea, ku', pow_up sz.sb ea, bKS', by decide⟩, fun d ⟨r, s, t, e, ed, fo, tr, vv⟩ => ?_⟩))))))
      obtain ⟨rfl, rfl⟩ := frow2 e
      subst ed
      obtain rfl := mul_row fo tr S0 KS vv
      have SS := Int.mul_pos S0 KS
      have q1 := mulL_len V (whL (m.getD k d0).K.1 (m.getD k d0).K.2 U' V')
      have q2 := mulL_len U (trim (comb (m.getD k d0).K.1 V' 0 []))
      have q3 := Nat.lt_of_le_of_lt (Nat.le_trans (n1_trim _) (mulL_n1 V (whL (m.getD k d0).K.1 (m.getD k d0).K.2 U' V'))) (mul_bd (pow_up sz.nv ea) wn')
      have q4 := Nat.lt_of_le_of_lt (Nat.le_trans (n1_trim _) (mulL_n1 U (trim (comb (m.getD k d0).K.1 V' 0 [])))) (mul_bd (pow_up sz.nu ea) ku')
      refine ea_nil ⟨⟨rowS (trim (mulL V (whL (m.getD k d0).K.1 (m.getD k d0).K.2 U' V'))) (S * ((m.getD k d0).K.2 * S')), rowS (trim (mulL U (trim (comb (m.getD k d0).K.1 V' 0 [])))) (S * ((m.getD k d0).K.2 * S')), rfl, by rw [rowS_len]; omega, by rw [rowS_len]; omega, rowS_sm SS (up4 q3 (by decide)) (up4 bSS (by decide)), rowS_sm SS (up4 q4 (by decide)) (up4 bSS (by decide))⟩, fun d ⟨r, s, t, e, ed, fo, tr, vv⟩ => ?_⟩
      obtain ⟨rfl, rfl⟩ := frow2 e
      subst ed
      obtain rfl := add_row fo tr SS vv
      refine st_asg (ev_callP (ea_cons (ev_var rfl (ea_cons (ev_var rfl (ea_nil ⟨⟨U, whL (m.getD k d0).K.1 (m.getD k d0).K.2 U' V', S, (m.getD k d0).K.2 * S', 800, 830, rfl, S0, KS, by omega, by omega, pow_up sz.nu ea, wn', pow_up sz.sb ea, bKS', by decide⟩, fun d ⟨r, s, t, e, ed, fo, tr, vv⟩ => ?_⟩)))))) 
      obtain ⟨rfl, rfl⟩ := frow2 e
      subst ed
      obtain rfl := mul_row fo tr S0 KS vv
      exact ⟨_, _, _, _, .d (.int (k : Int)), .d (frowD (rowS U' S')), .d (frowD (rowS V' S')), .d (frowD (rowS (whL (m.getD k d0).K.1 (m.getD k d0).K.2 U' V') ((m.getD k d0).K.2 * S'))), rfl, rfl, by rw [ek]; exact fnl⟩
  · rintro L2 Γ2 ⟨a, U, V, S, s4, s5, s6, s7, rfl, rfl, I⟩
    rw [machL_len, show i + 1 + (((m.length : Nat) : Int) - ((i : Int) + 1)).toNat = m.length by omega] at I
    exact st_ret (ev_tup (ea_cons (ev_var rfl (ea_cons (ev_var rfl (ea_nil ⟨by simp, m, i, U, V, S, rfl, h.rt, rfl, pinv_end I⟩))))))
theorem okr__law_parts (T : Tx K mg) : ∀ n : Nat, FnOk P w K mg base CX0 (5 + n) T.a__law_parts T.d__law_parts p__law_parts (spr__law_parts K n)
  | 0 => by
    refine T.F__law_parts.ok sc__law_parts (fun vs H Q E h => len__law_parts K 0 vs H Q E h) (fun cdv A outer s H vs Q E hr h => ?_)
    exact (noP h (fun ds hp => hp)).elim
  | n + 1 => by
    refine T.F__law_parts.ok sc__law_parts (fun vs H Q E h => len__law_parts K (n + 1) vs H Q E h) (fun cdv A outer s H vs Q E hr h => ?_)
    exact ⟨t__law_parts K n, (pss_cons (ps_par (by rfl) sc__law_parts.nd rfl rfl (by decide) rfl rfl (pa_cons (pe_lst (pa_cons (pe_tup (pa_cons pe_int (pa_cons pe_int pa_nil))) pa_nil)) (pa_cons (pe_call (ok__law_add T) (hr.mono (by first | omega | exact Nat.le_refl _ | (simp only [Nat.add_eq]; omega))) rfl T.g__law_add T.F__law_add.kp (b__law_add T) .nil pass0 (pa_cons (pe_call (ok__law_cut T) (hr.mono (by first | omega | exact Nat.le_refl _ | (simp only [Nat.add_eq]; omega))) rfl T.g__law_cut T.F__law_cut.kp (b__law_cut T) .nil pass0 (pa_cons (pe_lst (pa_cons (pe_ix ix_seq (pe_ix ix_seq (pv 0) (pv 1) (fun _ _ => rfl)) pe_int (fun _ _ => rfl)) pa_nil)) pa_nil)) (pa_cons (pe_lst (pa_cons (pe_tup (pa_cons pe_int (pa_cons pe_int pa_nil))) (pa_cons (pe_tup (pa_cons (pe_op op_sub pe_int (pe_ix ix_seq (pe_ix ix_seq (pe_ix ix_seq (pv 0) (pv 1) (fun _ _ => rfl)) pe_int (fun _ _ => rfl)) pe_int (fun _ _ => rfl))) (pa_cons (pe_ix ix_seq (pe_ix ix_seq (pe_ix ix_seq (pv 0) (pv 1) (fun _ _ => rfl)) pe_int (fun _ _ => rfl)) pe_int (fun _ _ => rfl)) pa_nil))) pa_nil))) pa_nil))) pa_nil)) (by rfl))
  (pss_cons (ps_for PassesOwn.never rfl (pi_range2 (by rfl) T.n_range (pa_cons (pe_op op_addA (pv 1) pe_int) (pa_cons (pe_callB call_len_seq (by rfl) T.n_len (by decide +kernel) (pa_cons (pv 0) pa_nil)) pa_nil))) (pg_name (i := 4) sc__law_parts.nd rfl (Or.inl rfl)) (pss_one (ps_if (pt_cmpR op_eq (pe_ix ix_seq (pe_ix ix_seq (pv 0) (pv 4) (fun _ _ => rfl)) pe_int (fun _ _ => rfl)) (pv 1) (nomark _)) (pss_cons (ps_asg (pe_call (okr__law_parts T n) (hr.mono (by first | omega | exact Nat.le_refl _ | (simp only [Nat.add_eq]; omega))) rfl T.g__law_parts T.F__law_parts.kp (b__law_parts T) .nil pass0 (pa_cons (pv 0) (pa_cons (pv 4) pa_nil))) (pg_tup (by rfl) (pgs_cons (pg_name (i := 5) sc__law_parts.nd rfl (Or.inl rfl)) (pgs_cons (pg_name (i := 6) sc__law_parts.nd rfl (Or.inl rfl)) pgs_nil))))
  (pss_cons (ps_set (i := 7) sc__law_parts.nd rfl (Or.inl rfl) (pe_call (ok__law_add T) (hr.mono (by first | omega | exact Nat.le_refl _ | (simp only [Nat.add_eq]; omega))) rfl T.g__law_add T.F__law_add.kp (b__law_add T) .nil pass0 (pa_cons (pv 6) (pa_cons (pe_call (ok__law_mul T) (hr.mono (by first | omega | exact Nat.le_refl _ | (simp only [Nat.add_eq]; omega))) rfl T.g__law_mul T.F__law_mul.kp (b__law_mul T) .nil pass0 (pa_cons (pe_lst (pa_cons (pe_ix ix_seq (pe_ix ix_seq (pv 0) (pv 4) (fun _ _ => rfl)) pe_int (fun _ _ => rfl)) pa_nil)) (pa_cons (pv 5) pa_nil))) pa_nil))))
  (pss_cons (ps_set (i := 3) sc__law_parts.nd rfl (Or.inl rfl) (pe_call (ok__law_add T) (hr.mono (by first | omega | exact Nat.le_refl _ | (simp only [Nat.add_eq]; omega))) rfl T.g__law_add T.F__law_add.kp (b__law_add T) .nil pass0 (pa_cons (pe_call (ok__law_mul T) (hr.mono (by first | omega | exact Nat.le_refl _ | (simp only [Nat.add_eq]; omega))) rfl T.g__law_mul T.F__law_mul.kp (b__law_mul T) .nil pass0 (pa_cons (pv 3) (pa_cons (pv 7) pa_nil))) (pa_cons (pe_call (ok__law_mul T) (hr.mono (by first | omega | exact Nat.le_refl _ | (simp only [Nat.add_eq]; omega))) rfl T.g__law_mul T.F__law_mul.kp (b__law_mul T) .nil pass0 (pa_cons (pv 2) (pa_cons (pe_call (ok__law_mul T) (hr.mono (by first | omega | exact Nat.le_refl _ | (simp only [Nat.add_eq]; omega))) rfl T.g__law_mul T.F__law_mul.kp (b__law_mul T) .nil pass0 (pa_cons (pe_lst (pa_cons (pe_ix ix_seq (pe_ix ix_seq (pv 0) (pv 4) (fun _ _ => rfl)) pe_int (fun _ _ => rfl)) pa_nil)) (pa_cons (pv 6) pa_nil))) pa_nil))) pa_nil))))
  (pss_one (ps_set (i := 2) sc__law_parts.nd rfl (Or.inl rfl) (pe_call (ok__law_mul T) (hr.mono (by first | omega | exact Nat.le_refl _ | (simp only [Nat.add_eq]; omega))) rfl T.g__law_mul T.F__law_mul.kp (b__law_mul T) .nil pass0 (pa_cons (pv 2) (pa_cons (pv 7) pa_nil)))))))) pss_nil)))
  (pss_one (ps_ret (pe_tup (pa_cons (pv 2) (pa_cons (pv 3) pa_nil))))))), pure__law_parts K n vs H Q E h⟩
theorem ok__law_parts (T : Tx K mg) : FnOk P w K mg base CX0 13 T.a__law_parts T.d__law_parts p__law_parts (sp__law_parts K) := okr__law_parts T 8
/-! ### _law_end -/

def pre__law_end : List PyData → Prop := fun ds => ∃ m : List Ds, ds = [machD m] ∧ Mach m 4 ∧ m.length ≤ 5 ∧ ∀ i, Frb (m.getD i d0).R 2
def post__law_end : List PyData → PyData → Prop := fun ds d => ∃ (m : List Ds) (u : List Int), ds = [machD m] ∧ Rt m ∧ d = .list (u.map .int) ∧ EndOk m u ∧ bd u 1000
abbrev sp__law_end (K : PySem.W.Frag) : Sp := SpP K pre__law_end post__law_end
theorem len__law_end (K : PySem.W.Frag) (vs : List V) (H : Hp) (Q : VK) (E : XK) (h : sp__law_end K vs H Q E) : vs.length = p__law_end.length := len_P (n := 1) h fun ds hp => by
  obtain ⟨m, e, h, h5, hR⟩ := hp
  rw [e]; rfl
def t__law_end (K : PySem.W.Frag) : TS :=
  (tRet (tOp (rIx K) (tCall (sp__law_thin K) [] E0 (tCons (tLst (tCons (tOp (rIx K) (tCall (sp__law_parts K) [] E0 (tCons (tCall (sp__law_out K) [] E0 (tCons (tVar 0) tNil)) (tCons (tC (.int 0)) tNil))) (tC (.int 1))) tNil)) tNil)) (tC (.int 0))))
theorem pure__law_end (K : PySem.W.Frag) (vs : List V) (H : Hp) (Q : VK) (E : XK) (h : sp__law_end K vs H Q E) : t__law_end K { nx := fun _ H' => Q .non H', rt := Q } (L2.start N__law_end vs) H := body_P h fun B ds hW hp => by
  obtain ⟨m, e, h, h5, hR⟩ := hp
  subst e
  unfold t__law_end
  have n1_ := h.n1
  have ho := out_mach h hR
  have hl := outM_len m
  have ho : Mach (outM m) 29 := ho.up (by omega)
  refine st_ret (ev_op (ev_callP (ea_cons (ev_lst (ea_cons (ev_op (ev_callP (ea_cons (ev_callP (ea_cons (ev_var rfl (ea_nil ⟨⟨m, 4, rfl, h, by decide⟩, fun d ⟨m2, e, hr, ed⟩ => ?_⟩))))))))))))
  obtain rfl := machD_inj (List.cons.inj e).1 h.rt hr
  subst ed
  refine ea_cons (ev_int (ea_nil ⟨⟨outM m, 0, rfl, ho, by omega, by rw [hl]; exact Nat.le_trans h5 (by decide), out_R h.rt⟩, fun d ⟨m2, i, U, V, S, e, hr, ed, PM⟩ => ?_⟩))
  have e2 : outM m = m2 ∧ 0 = i := by
    simp only [List.cons.injEq, and_true, PyData.int.injEq] at e
    exact ⟨machD_inj e.1 ho.rt hr, by omega⟩
  obtain ⟨rfl, rfl⟩ := e2
  subst ed
  have sz := PM.sz
  have wn : wM (mq (outM m)).n (mq (outM m)).p 0 ≤ 8 := by
    have := w_le (n := (mq (outM m)).n) (p := (mq (outM m)).p) (fun i a b => ho.par i a b) (i := 0) ho.n1
    have : (mq (outM m)).n ≤ 8 := ho.n8
    omega
  have ew := eW_le (B := 29) (Nat.le_refl _) wn
  have lv := sz.lv
  have nv : n1 V < 2 ^ 1000 := pow_up sz.nv (by omega)
  have S0 := sz.s0
  have sp : (0 : Rat) < (S : Rat) := ratInt_pos S0
  have fv : ∀ x, pI V x = (S : Rat) * fM (mq (outM m)) x 0 := PM.fv
  have ne := end_pos ho sp fv
  refine ev_int (rok_ixsT (d := frowD (rowS V S)) rfl (ea_nil ⟨by simp, ea_nil ⟨⟨V, S, rfl, S0, by omega, pow_up nv (by decide), pow_up sz.sb (by omega), ne⟩, fun d ⟨r, e, hd⟩ => ?_⟩⟩))
  have er : r = rowS V S := (frow1 (by
    simp only [List.cons.injEq, PyData.list.injEq, and_true] at e
    rw [e])).symm
  rw [hd V S er S0]
  obtain ⟨b, b0, hb⟩ := (out_sc h).at
  have hc : ∀ x, pI V x = ((S : Rat) * (b 0 * g2 m 0)) * fM (mq m) x 0 := fun x => by
    rw [fv, (hb x 0).2]
    grind
  have cp : 0 < (S : Rat) * (b 0 * g2 m 0) := Rat.mul_pos sp (Rat.mul_pos (b0 0) (g2_pos h 0))
  refine ev_int (rok_ixsL (d := .list ((prim V).map .int)) rfl ⟨m, prim V, rfl, h.rt, rfl, end_prim h cp hc sz.tv (by omega) (pow_up nv (by decide)), fun y hy => ?_⟩)
  obtain ⟨k, rfl⟩ := mem_get hy
  exact Nat.lt_of_le_of_lt (Nat.le_trans (prim_abs V k) (n1_get V k)) nv
theorem ok__law_end (T : Tx K mg) : FnOk P w K mg base CX0 14 T.a__law_end T.d__law_end p__law_end (sp__law_end K) := by
  refine T.F__law_end.ok sc__law_end (fun vs H Q E h => len__law_end K vs H Q E h) (fun cdv A outer s H vs Q E hr h => ?_)
  exact ⟨t__law_end K, (pss_one (ps_ret (pe_ix ix_seq (pe_call (ok__law_thin T) (hr.mono (by decide)) rfl T.g__law_thin T.F__law_thin.kp (b__law_thin T) .nil pass0 (pa_cons (pe_lst (pa_cons (pe_ix ix_seq (pe_call (ok__law_parts T) (hr.mono (by decide)) rfl T.g__law_parts T.F__law_parts.kp (b__law_parts T) .nil pass0 (pa_cons (pe_call (ok__law_out T) (hr.mono (by decide)) rfl T.g__law_out T.F__law_out.kp (b__law_out T) .nil pass0 (pa_cons (pv 0) pa_nil)) (pa_cons pe_int pa_nil))) pe_int (fun _ _ => rfl)) pa_nil)) pa_nil)) pe_int (fun _ _ => rfl)))), pure__law_end K vs H Q E h⟩
/-! ### _law_turned -/

def pre__law_turned : List PyData → Prop := fun ds => ∃ m : List Ds, ds = [machD m] ∧ Mach m 4 ∧ ∀ i, Frb (m.getD i d0).R 2
def post__law_turned : List PyData → PyData → Prop := fun ds d => ∃ m m2 : List Ds, ds = [machD m] ∧ Rt m ∧ d = machD m2 ∧ Mach m2 4 ∧ m2.length = m.length ∧ ∀ i, i < m.length → Tw (m2.getD i d0) (m.getD i d0)
abbrev sp__law_turned (K : PySem.W.Frag) : Sp := SpW K pre__law_turned post__law_turned
theorem len__law_turned (K : PySem.W.Frag) (vs : List V) (H : Hp) (Q : VK) (E : XK) (h : sp__law_turned K vs H Q E) : vs.length = p__law_turned.length := len_W (n := 1) h fun ds hp => by
  obtain ⟨m, e, h, hR⟩ := hp
  rw [e]; rfl
def t__law_turned (K : PySem.W.Frag) : TS :=
  (tSeq (tAsg (tLst (tCons (tOp (rIx K) (tVar 1) (tC (.int 0))) tNil)) (gName 2))
  (tSeq (tFor (iTup K (tSl (rSlX2 K) (tVar 1) (tPart (tC (.int 1))) tNoPart)) (gName 3) (tSeq (tAsg (tIf (tTest (tOp rEq (tCall (sp__law_pull K) [] E0 (tCons (tVar 0) (tCons (tC (.int 2)) tNil))) (tC (.int 0)))) (tOp (rIx K) (tVar 3) (tC (.int 4))) (tTup (tCons (tOp (rI0 fun i j => .int (i - j)) (tC (.int 0)) (tOp (rIx K) (tOp (rIx K) (tVar 3) (tC (.int 4))) (tC (.int 0)))) (tCons (tOp (rIx K) (tOp (rIx K) (tVar 3) (tC (.int 4))) (tC (.int 1))) tNil)))) (gName 4))
  (tDrop (tBM K "list" rAppend (tVar 2) (tCons (tOp (rAddA K) (tSl (rSlX2 K) (tVar 3) tNoPart (tPart (tC (.int 4)))) (tTup (tCons (tVar 4) tNil))) tNil)))))
  (tRet (tCB (rTupleQ K) (tCons (tVar 2) tNil)))))
theorem pure__law_turned (K : PySem.W.Frag) (vs : List V) (H : Hp) (Q : VK) (E : XK) (h : sp__law_turned K vs H Q E) : t__law_turned K { nx := fun _ H' => Q .non H', rt := Q } (L2.start N__law_turned vs) H := body_W h (by decide) fun B w ds hp => by
  obtain ⟨m, e, h, hR⟩ := hp
  subst e
  unfold t__law_turned
  have n1_ := h.n1
  have n8 := h.n8
  obtain ⟨J0, W0, er⟩ := h.root
  refine st_seq (st_own (en_lst (ea_cons (ev_op (ev_var rfl (ev_int (rok_ixsT (rootAt n1_) (ea_nil ⟨by simp, fun l => ?_⟩))))))))
  have dk0 := h.dk 0
  have m1 : Mach [⟨J0, W0, 0, (1, 1), (1, 1)⟩] 4 := by
    rw [er] at dk0
    exact mach_one dk0.J dk0.J0 dk0.W dk0.W0 (by decide)
  have i0 : [rootD (m.getD 0 d0)] = machL [⟨J0, W0, 0, (1, 1), (1, 1)⟩] := by rw [er]; rfl
  rw [i0]
  refine st_seq (st_forT (ev_sl (ev_var rfl (eo_some (ev_int ⟨_, rfl, eo_no (so_tup ⟨_, by rw [cutD_one], fun i L2 Γ2 => ∃ (ms : List Ds) (s3 s4 : Sl), L2 = [l] ∧ Γ2 = [.well w, .d (machD m), .own l (machL ms), s3, s4] ∧ Mach ms 4 ∧ ms.length = i + 1 ∧ ∀ j, j < i + 1 → Tw (ms.getD j d0) (m.getD j d0), ⟨_, _, _, rfl, rfl, m1, rfl, fun j hj => ?_⟩, ?_, ?_⟩)⟩)))))
  · obtain rfl : j = 0 := by omega
    rw [er]
    exact ⟨rfl, rfl, rfl, rfl, rfl⟩
  · rintro i d' L2 Γ2 g hi ⟨ms, s3, s4, rfl, rfl, hm, hl, tw⟩
    obtain ⟨hi2, rfl⟩ := machL_drop hi
    have dk := h.dk (i + 1)
    have pl := h.par (i + 1) (by omega) hi2
    have rb := hR (i + 1)
    refine st_seq (st_asg (EvP.mono (k := fun d => ∃ x : Fr, d = frD x ∧ Frb x 2 ∧ x.1 ≠ 0 ∧ val x * val x = val (m.getD (i + 1) d0).R * val (m.getD (i + 1) d0).R) (ev_if (et_test (ev_op (ev_callW rfl (ea_cons (ev_int (ea_nil ⟨⟨_, rfl, by decide, by decide⟩, fun d ⟨k, z, em, ed, z0, z1⟩ => ?_⟩))))))) fun d ⟨x, ed, fx, x0, vx⟩ => ?_))
    · subst ed
      refine ev_int (rok_eqI ⟨_, rfl, fun _ => ev_op (ev_var rfl (ev_int (rok_ixsT (d := frD (m.getD (i + 1) d0).R) rfl ⟨_, rfl, rb, dk.R0, rfl⟩))), fun _ => ?_⟩)
      refine ev_tup (ea_cons (ev_op (ev_int (ev_op (ev_op (ev_var rfl (ev_int (rok_ixsT (d := frD (m.getD (i + 1) d0).R) rfl (ev_int (rok_ixsT (d := .int (m.getD (i + 1) d0).R.1) rfl (rok_i0 (ea_cons (ev_op (ev_op (ev_var rfl (ev_int (rok_ixsT (d := frD (m.getD (i + 1) d0).R) rfl (ev_int (rok_ixsT (d := .int (m.getD (i + 1) d0).R.2) rfl (ea_nil ⟨by simp, (0 - (m.getD (i + 1) d0).R.1, (m.getD (i + 1) d0).R.2), rfl, ?_, ?_, ?_⟩))))))))))))))))))))
      · refine ⟨⟨rb.ok.1, ?_⟩, ?_, rb.b2⟩
        · show Nat.gcd (0 - (m.getD (i + 1) d0).R.1).natAbs _ = 1
          rw [Int.zero_sub, Int.natAbs_neg]
          exact rb.ok.2
        · show (0 - (m.getD (i + 1) d0).R.1).natAbs < _
          rw [Int.zero_sub, Int.natAbs_neg]
          exact rb.b1
      · have := dk.R0
        show 0 - (m.getD (i + 1) d0).R.1 ≠ 0
        omega
      · unfold val
        show ((0 - (m.getD (i + 1) d0).R.1 : Int) : Rat) / _ * (((0 - (m.getD (i + 1) d0).R.1 : Int) : Rat) / _) = _
        rw [Int.zero_sub, Rat.intCast_neg]
        grind
    subst ed
    generalize hd : m.getD (i + 1) d0 = a at *
    have nd : Dk ⟨a.J, a.W, a.p, a.K, x⟩ 4 := ⟨dk.J, dk.J0, dk.W, dk.W0, dk.K, dk.K0, fx.up (by decide), x0⟩
    have cut4 : DL.cutD [frD a.J, frD a.W, .int (a.p : Int), frD a.K, frD a.R] none (some 4) = [frD a.J, frD a.W, .int (a.p : Int), frD a.K] := rfl
    refine st_append rfl (by rw [machL_len]; omega) (ev_op (ev_sl (ev_var rfl (eo_no (eo_some (ev_int ⟨_, rfl, so_tup ?_⟩))))))
    rw [cut4]
    refine ev_tup (ea_cons (ev_var rfl (ea_nil ⟨by simp, ro_catT (by simp) ⟨ms ++ [⟨a.J, a.W, a.p, a.K, x⟩], .d (discD a), .d (frD x), rfl, ?_, hm.push nd (by show a.p < _; rw [hl]; exact pl) (by omega), by rw [List.length_append, hl]; rfl, fun j hj => ?_⟩⟩)))
    · rw [machL_snoc (by omega)]
      rfl
    · rw [get_snoc]
      split
      · rename_i q
        rw [q, hl, hd]
        exact ⟨rfl, rfl, rfl, rfl, vx⟩
      · exact tw j (by omega)
  · rintro L2 Γ2 ⟨ms, s3, s4, rfl, rfl, hm, hl, tw⟩
    rw [List.length_drop, machL_len, show m.length - 1 + 1 = m.length by omega] at hl tw
    exact st_ret (ev_tupOwn rfl ⟨m, ms, rfl, h.rt, rfl, hm, hl, tw⟩)
theorem ok__law_turned (T : Tx K mg) : FnOk P w K mg base CX0 2 T.a__law_turned T.d__law_turned p__law_turned (sp__law_turned K) := by
  refine T.F__law_turned.ok sc__law_turned (fun vs H Q E h => len__law_turned K vs H Q E h) (fun cdv A outer s H vs Q E hr h => ?_)
  exact ⟨t__law_turned K, (pss_cons (ps_set (i := 2) sc__law_turned.nd rfl (Or.inl rfl) (pe_lst (pa_cons (pe_ix ix_seq (pv 1) pe_int (fun _ _ => rfl)) pa_nil)))
  (pss_cons (ps_for PassesOwn.never rfl (pi_tup (pe_slice sl_any (pv 1) (po_some pe_int) po_none)) (pg_name (i := 3) sc__law_turned.nd rfl (Or.inl rfl)) (pss_cons (ps_set (i := 4) sc__law_turned.nd rfl (Or.inl rfl) (pe_ifExp (pt_cmpR op_eq (pe_call (ok__law_pull T) (hr.mono (by decide)) rfl T.g__law_pull T.F__law_pull.kp (b__law_pull T) .nil pass0 (pa_cons (pv 0) (pa_cons pe_int pa_nil))) pe_int (nomark _)) (pe_ix ix_seq (pv 3) pe_int (fun _ _ => rfl)) (pe_tup (pa_cons (pe_op op_sub pe_int (pe_ix ix_seq (pe_ix ix_seq (pv 3) pe_int (fun _ _ => rfl)) pe_int (fun _ _ => rfl))) (pa_cons (pe_ix ix_seq (pe_ix ix_seq (pv 3) pe_int (fun _ _ => rfl)) pe_int (fun _ _ => rfl)) pa_nil)))))
  (pss_one (ps_expr (pe_bm PySem.F.plainAttrs_list PySem.F.slot_list_append PySem.F.type_list_append mt_append (pv 2) (pa_cons (pe_op op_addA (pe_slice sl_any (pv 3) po_none (po_some pe_int)) (pe_tup (pa_cons (pv 4) pa_nil))) pa_nil))))))
  (pss_one (ps_ret (pe_callTy call_tuple_of (by rfl) T.n_tuple (by decide +kernel) (pa_cons (pv 2) pa_nil)))))), pure__law_turned K vs H Q E h⟩
/-! ### _law_grown -/

def pre__law_grown : List PyData → Prop := fun ds => ∃ (m : List Ds) (y : Fr), ds = [machD m, frD y] ∧ Mach m 4 ∧ Frb y 4 ∧ 0 < y.1
def post__law_grown : List PyData → PyData → Prop := fun ds d => ∃ (m : List Ds) (y : Fr) (m2 : List Ds), ds = [machD m, frD y] ∧ Rt m ∧ d = machD m2 ∧ Mach m2 8 ∧ m2.length = m.length ∧ ∀ i, i < m.length → Gw (val y) i (m2.getD i d0) (m.getD i d0)
abbrev sp__law_grown (K : PySem.W.Frag) : Sp := SpP K pre__law_grown post__law_grown
theorem len__law_grown (K : PySem.W.Frag) (vs : List V) (H : Hp) (Q : VK) (E : XK) (h : sp__law_grown K vs H Q E) : vs.length = p__law_grown.length := len_P (n := 2) h fun ds hp => by
  obtain ⟨m, y, e, h, fy, y0⟩ := hp
  rw [e]; rfl
def t__law_grown (K : PySem.W.Frag) : TS :=
  (tSeq (tAsg (tLst (tCons (tTup (tCons (tCall (sp__law_by K) [] E0 (tCons (tOp (rIx K) (tOp (rIx K) (tVar 0) (tC (.int 0))) (tC (.int 0))) (tCons (tVar 1) tNil))) (tCons (tCall (sp__law_by K) [] E0 (tCons (tOp (rIx K) (tOp (rIx K) (tVar 0) (tC (.int 0))) (tC (.int 1))) (tCons (tVar 1) tNil))) tNil))) tNil)) (gName 2))
  (tSeq (tFor (iTup K (tSl (rSlX2 K) (tVar 0) (tPart (tC (.int 1))) tNoPart)) (gName 3) (tDrop (tBM K "list" rAppend (tVar 2) (tCons (tTup (tCons (tCall (sp__law_by K) [] E0 (tCons (tOp (rIx K) (tVar 3) (tC (.int 0))) (tCons (tVar 1) tNil))) (tCons (tCall (sp__law_by K) [] E0 (tCons (tOp (rIx K) (tVar 3) (tC (.int 1))) (tCons (tVar 1) tNil))) (tCons (tOp (rIx K) (tVar 3) (tC (.int 2))) (tCons (tCall (sp__law_by K) [] E0 (tCons (tOp (rIx K) (tVar 3) (tC (.int 3))) (tCons (tVar 1) tNil))) (tCons (tOp (rIx K) (tVar 3) (tC (.int 4))) tNil)))))) tNil))))
  (tRet (tCB (rTupleQ K) (tCons (tVar 2) tNil)))))
theorem pure__law_grown (K : PySem.W.Frag) (vs : List V) (H : Hp) (Q : VK) (E : XK) (h : sp__law_grown K vs H Q E) : t__law_grown K { nx := fun _ H' => Q .non H', rt := Q } (L2.start N__law_grown vs) H := body_P h fun B ds hW hp => by
  obtain ⟨m, y, e, h, fy, y0⟩ := hp
  subst e
  unfold t__law_grown
  have n1_ := h.n1
  have n8 := h.n8
  obtain ⟨J0, W0, er⟩ := h.root
  have dk0 := h.dk 0
  rw [er] at dk0
  have yp : 0 < val y := (val_pos fy.ok.1).1.mpr y0
  have sy := fy.sm (show 4 ≤ 4000 by decide)
  have grow : ∀ {x r : Fr}, Frb x 4 → FOk r → val r = val x * val y → Frb r 8 ∧ (0 < x.1 → 0 < r.1) ∧ (0 ≤ x.1 → 0 ≤ r.1) := fun {x r} fx fr v => by
    have q := frOf_mul (frb_of fx) (frb_of fy)
    have e : r = frOf (val x * val y) := FOk.inj fr (frOf_ok _) (by rw [v, frOf_val])
    refine ⟨⟨fr, ?_, ?_⟩, fun h => ?_, fun h => ?_⟩
    · rw [e]; exact q.1
    · rw [e]; exact q.2
    · refine (val_pos fr.1).1.mp ?_
      rw [v]
      exact Rat.mul_pos ((val_pos fx.ok.1).1.mpr h) yp
    · refine (val_pos fr.1).2.1.mp ?_
      rw [v]
      exact Rat.mul_nonneg ((val_pos fx.ok.1).2.1.mpr h) (Rat.le_of_lt yp)
  have rA : atI (machL m) 0 = some (rootD (m.getD 0 d0)) := rootAt n1_
  rw [er] at rA
  refine st_seq (st_own (en_lst (ea_cons (ev_tup (ea_cons (ev_callP (ea_cons (ev_op (ev_op (ev_var rfl (ev_int (rok_ixsT rA (ev_int (rok_ixsT (d := frD J0) rfl (ea_cons (ev_var rfl (ea_nil ⟨⟨_, _, rfl, dk0.J.sm (by decide), sy⟩, fun d ⟨x, y2, rJ, e, ed, fJ, vJ⟩ => ?_⟩)))))))))))))))))
  obtain ⟨rfl, rfl⟩ := frD2_inj e
  subst ed
  refine ea_cons (ev_callP (ea_cons (ev_op (ev_op (ev_var rfl (ev_int (rok_ixsT rA (ev_int (rok_ixsT (d := frD W0) rfl (ea_cons (ev_var rfl (ea_nil ⟨⟨_, _, rfl, dk0.W.sm (by decide), sy⟩, fun d ⟨x, y2, rW, e, ed, fW, vW⟩ => ?_⟩))))))))))))
  obtain ⟨rfl, rfl⟩ := frD2_inj e
  subst ed
  refine ea_nil ⟨by simp, ea_nil ⟨by simp, fun l => ?_⟩⟩
  obtain ⟨gJ, gJ0, _⟩ := grow dk0.J fJ vJ
  obtain ⟨gW, _, gW0⟩ := grow dk0.W fW vW
  have m1 : Mach [⟨rJ, rW, 0, (1, 1), (1, 1)⟩] 8 := mach_one gJ (gJ0 dk0.J0) gW (gW0 dk0.W0) (by decide)
  have i0 : [PyData.tuple [frD rJ, frD rW]] = machL [⟨rJ, rW, 0, (1, 1), (1, 1)⟩] := rfl
  rw [i0]
  refine st_seq (st_forT (ev_sl (ev_var rfl (eo_some (ev_int ⟨_, rfl, eo_no (so_tup ⟨_, by rw [cutD_one], fun i L2 Γ2 => ∃ (ms : List Ds) (s3 : Sl), L2 = [l] ∧ Γ2 = [.d (machD m), .d (frD y), .own l (machL ms), s3] ∧ Mach ms 8 ∧ ms.length = i + 1 ∧ ∀ j, j < i + 1 → Gw (val y) j (ms.getD j d0) (m.getD j d0), ⟨_, _, rfl, rfl, m1, rfl, fun j hj => ?_⟩, ?_, ?_⟩)⟩)))))
  · obtain rfl : j = 0 := by omega
    rw [er]
    exact ⟨by rw [Rat.mul_comm]; exact vJ, by rw [Rat.mul_comm]; exact vW, rfl, fun z => absurd z (by omega), rfl⟩
  · rintro i d' L2 Γ2 g hi ⟨ms, s3, rfl, rfl, hm, hl, gw⟩
    obtain ⟨hi2, rfl⟩ := machL_drop hi
    have dk := h.dk (i + 1)
    have pl := h.par (i + 1) (by omega) hi2
    generalize hd : m.getD (i + 1) d0 = a at *
    refine st_append rfl (by rw [machL_len]; omega) (ev_tup (ea_cons (ev_callP (ea_cons (ev_op (ev_var rfl (ev_int (rok_ixsT (d := frD a.J) rfl (ea_cons (ev_var rfl (ea_nil ⟨⟨_, _, rfl, dk.J.sm (by decide), sy⟩, fun d ⟨x, y2, r1, e, ed, f1, v1⟩ => ?_⟩)))))))))))
    obtain ⟨rfl, rfl⟩ := frD2_inj e
    subst ed
    refine ea_cons (ev_callP (ea_cons (ev_op (ev_var rfl (ev_int (rok_ixsT (d := frD a.W) rfl (ea_cons (ev_var rfl (ea_nil ⟨⟨_, _, rfl, dk.W.sm (by decide), sy⟩, fun d ⟨x, y2, r2, e, ed, f2, v2⟩ => ?_⟩)))))))))
    obtain ⟨rfl, rfl⟩ := frD2_inj e
    subst ed
    refine ea_cons (ev_op (ev_var rfl (ev_int (rok_ixsT (d := .int (a.p : Int)) rfl (ea_cons (ev_callP (ea_cons (ev_op (ev_var rfl (ev_int (rok_ixsT (d := frD a.K) rfl (ea_cons (ev_var rfl (ea_nil ⟨⟨_, _, rfl, dk.K.sm (by decide), sy⟩, fun d ⟨x, y2, r3, e, ed, f3, v3⟩ => ?_⟩))))))))))))))
    obtain ⟨rfl, rfl⟩ := frD2_inj e
    subst ed
    obtain ⟨g1, g10, _⟩ := grow dk.J f1 v1
    obtain ⟨g2_, _, g20⟩ := grow dk.W f2 v2
    obtain ⟨g3, g30, _⟩ := grow dk.K f3 v3
    have nd : Dk ⟨r1, r2, a.p, r3, a.R⟩ 8 := ⟨g1, g10 dk.J0, g2_, g20 dk.W0, g3, g30 dk.K0, dk.R.up (by decide), dk.R0⟩
    refine ea_cons (ev_op (ev_var rfl (ev_int (rok_ixsT (d := frD a.R) rfl (ea_nil ⟨by simp, ms ++ [⟨r1, r2, a.p, r3, a.R⟩], .d (discD a), rfl, ?_, hm.push nd (by show a.p < _; rw [hl]; exact pl) (by omega), by rw [List.length_append, hl]; rfl, fun j hj => ?_⟩)))))
    · rw [machL_snoc (by omega)]
      rfl
    · rw [get_snoc]
      split
      · rename_i q
        rw [q, hl, hd]
        exact ⟨by rw [Rat.mul_comm]; exact v1, by rw [Rat.mul_comm]; exact v2, rfl, fun _ => by rw [Rat.mul_comm]; exact v3, rfl⟩
      · exact gw j (by omega)
  · rintro L2 Γ2 ⟨ms, s3, rfl, rfl, hm, hl, gw⟩
    rw [List.length_drop, machL_len, show m.length - 1 + 1 = m.length by omega] at hl gw
    exact st_ret (ev_tupOwn rfl ⟨m, y, ms, rfl, h.rt, rfl, hm, hl, gw⟩)
theorem ok__law_grown (T : Tx K mg) : FnOk P w K mg base CX0 4 T.a__law_grown T.d__law_grown p__law_grown (sp__law_grown K) := by
  refine T.F__law_grown.ok sc__law_grown (fun vs H Q E h => len__law_grown K vs H Q E h) (fun cdv A outer s H vs Q E hr h => ?_)
  exact ⟨t__law_grown K, (pss_cons (ps_set (i := 2) sc__law_grown.nd rfl (Or.inl rfl) (pe_lst (pa_cons (pe_tup (pa_cons (pe_call (ok__law_by T) (hr.mono (by decide)) rfl T.g__law_by T.F__law_by.kp (b__law_by T) .nil pass0 (pa_cons (pe_ix ix_seq (pe_ix ix_seq (pv 0) pe_int (fun _ _ => rfl)) pe_int (fun _ _ => rfl)) (pa_cons (pv 1) pa_nil))) (pa_cons (pe_call (ok__law_by T) (hr.mono (by decide)) rfl T.g__law_by T.F__law_by.kp (b__law_by T) .nil pass0 (pa_cons (pe_ix ix_seq (pe_ix ix_seq (pv 0) pe_int (fun _ _ => rfl)) pe_int (fun _ _ => rfl)) (pa_cons (pv 1) pa_nil))) pa_nil))) pa_nil)))
  (pss_cons (ps_for PassesOwn.never rfl (pi_tup (pe_slice sl_any (pv 0) (po_some pe_int) po_none)) (pg_name (i := 3) sc__law_grown.nd rfl (Or.inl rfl)) (pss_one (ps_expr (pe_bm PySem.F.plainAttrs_list PySem.F.slot_list_append PySem.F.type_list_append mt_append (pv 2) (pa_cons (pe_tup (pa_cons (pe_call (ok__law_by T) (hr.mono (by decide)) rfl T.g__law_by T.F__law_by.kp (b__law_by T) .nil pass0 (pa_cons (pe_ix ix_seq (pv 3) pe_int (fun _ _ => rfl)) (pa_cons (pv 1) pa_nil))) (pa_cons (pe_call (ok__law_by T) (hr.mono (by decide)) rfl T.g__law_by T.F__law_by.kp (b__law_by T) .nil pass0 (pa_cons (pe_ix ix_seq (pv 3) pe_int (fun _ _ => rfl)) (pa_cons (pv 1) pa_nil))) (pa_cons (pe_ix ix_seq (pv 3) pe_int (fun _ _ => rfl)) (pa_cons (pe_call (ok__law_by T) (hr.mono (by decide)) rfl T.g__law_by T.F__law_by.kp (b__law_by T) .nil pass0 (pa_cons (pe_ix ix_seq (pv 3) pe_int (fun _ _ => rfl)) (pa_cons (pv 1) pa_nil))) (pa_cons (pe_ix ix_seq (pv 3) pe_int (fun _ _ => rfl)) pa_nil)))))) pa_nil)))))
  (pss_one (ps_ret (pe_callTy call_tuple_of (by rfl) T.n_tuple (by decide +kernel) (pa_cons (pv 2) pa_nil)))))), pure__law_grown K vs H Q E h⟩
/-! ### _law_right -/
theorem no_ne {a b : PySem.Str} (e : a = b) (h : (!decide (a = b)) = true) : False := by
  rw [decide_eq_true e] at h
  cases h
theorem sho_row {u : List Int} (hl : u.length ≤ 9) (hb : bd u 1000) : Sho 1 17310 (rowD u) := sho_up (sho_tup (e := 0) (c := 1921) (ds := u.map .int) fun d hd => by
  obtain ⟨x, hx, rfl⟩ := List.mem_map.mp hd
  exact sho_int (pow_up (hb x hx) (by decide))) (Nat.le_refl _) (by rw [List.length_map]; omega)
theorem sho_mach {m : List Ds} {B : Nat} (h : Mach m B) (hB : B ≤ 1000) : Sho 3 160000 (machD m) := by
  have n8 := h.n8
  have fr : ∀ {x : Fr}, Frb x B → Sho 1 3849 (frD x) := fun f => sho_fr (pow_up f.b1 (by omega)) (pow_up f.b2 (by omega))
  refine sho_up (sho_tup (e := 2) (c := 19258) (ds := machL m) fun d hd => ?_) (Nat.le_refl _) (by rw [machL_len]; omega)
  obtain ⟨i, hi, e⟩ := List.getElem_of_mem hd
  have hi' : (machL m)[i]? = some d := by rw [List.getElem?_eq_getElem hi, e]
  obtain ⟨hl, hc, _⟩ := machL_at hi'
  have dk := h.dk i
  have dp : (m.getD i d0).p < 8 := by
    by_cases q : 0 < i
    · have := h.par i q hl
      omega
    · obtain ⟨J, W, er⟩ := h.root
      rw [show i = 0 by omega, er]
      show 0 < 8
      decide
  rcases hc with rfl | rfl
  · refine sho_up (sho_tup (e := 1) (c := 3849) (ds := [frD (m.getD i d0).J, frD (m.getD i d0).W]) fun d hd => ?_) (Nat.le_refl _) (by simp)
    simp only [List.mem_cons, List.not_mem_nil, or_false] at hd
    rcases hd with rfl | rfl
    · exact fr dk.J
    · exact fr dk.W
  · refine sho_up (sho_tup (e := 1) (c := 3849) (ds := [frD (m.getD i d0).J, frD (m.getD i d0).W, .int ((m.getD i d0).p : Int), frD (m.getD i d0).K, frD (m.getD i d0).R]) fun d hd => ?_) (Nat.le_refl _) (by simp)
    simp only [List.mem_cons, List.not_mem_nil, or_false] at hd
    rcases hd with rfl | rfl | rfl | rfl | rfl
    · exact fr dk.J
    · exact fr dk.W
    · exact sho_up (sho_int (Nat.lt_of_lt_of_le (show (((m.getD i d0).p : Nat) : Int).natAbs < 2 ^ 3 by omega) (Nat.pow_le_pow_right (by decide) (by decide)))) (by decide) (by decide)
    · exact fr dk.K
    · exact fr dk.R
theorem map_getM {f : List Ds → PyData} {xs : List (List Ds)} {i : Nat} {d : PyData} (h : (xs.map f)[i]? = some d) : ∃ n, xs[i]? = some n ∧ d = f n := by
  rw [List.getElem?_map] at h
  cases e : xs[i]? with
  | none => rw [e] at h; cases h
  | some n => rw [e] at h; exact ⟨n, rfl, (Option.some.inj h).symm⟩
def pre__law_right : List PyData → Prop := fun ds => True ∧ ds = []
def post__law_right : List PyData → PyData → Prop := fun ds d => d = .bool true
abbrev sp__law_right (K : PySem.W.Frag) : Sp := SpW K pre__law_right post__law_right
theorem len__law_right (K : PySem.W.Frag) (vs : List V) (H : Hp) (Q : VK) (E : XK) (h : sp__law_right K vs H Q E) : vs.length = p__law_right.length := len_W (n := 0) h fun ds hp => by
  obtain ⟨_, e⟩ := hp
  rw [e]; rfl
def t__law_right (K : PySem.W.Frag) : TS :=
  (tSeq (tAsg (tCall (sp__law_machine K) [] E0 (tCons (tVar 0) (tCons (tC (.int 5)) tNil))) (gName 1))
  (tSeq (tAsg (tCB (rTupleQ K) (tCons (tCall (sp__law_end K) [] E0 (tCons (tVar 1) tNil)) tNil)) (gName 2))
  (tSeq (tIfS (tOr (tTest (tOp rNotB (tCall (sp_is_machine K) [] E0 (tCons (tVar 1) tNil)) (tC (.bl true)))) (tOr (tTest (tOp rNe (tCB (rReprD K) (tCons (tCall (sp_machine_end K) [] E0 (tCons (tVar 1) tNil)) tNil)) (tCB (rReprD K) (tCons (tVar 2) tNil)))) (tTest (tOp rNe (tCB (rReprD K) (tCons (tCallK0 (sp_machine_end K) E0 (tCons (tVar 1) tNil)) tNil)) (tCB (rReprD K) (tCons (tVar 2) tNil)))))) (tRet (tC (.bl false))) tNext)
  (tSeq (tIfS (tOr (tTest (tOp rNe (tCB (rReprD K) (tCons (tCall (sp_ungeared K) [] E0 (tCons (tVar 1) tNil)) tNil)) (tCB (rReprD K) (tCons (tCall (sp__law_out K) [] E0 (tCons (tVar 1) tNil)) tNil)))) (tTest (tOp rNe (tCB (rReprD K) (tCons (tCallK0 (sp_ungeared K) E0 (tCons (tCall (sp_ungeared K) [] E0 (tCons (tVar 1) tNil)) tNil)) tNil)) (tCB (rReprD K) (tCons (tCall (sp__law_out K) [] E0 (tCons (tVar 1) tNil)) tNil))))) (tRet (tC (.bl false))) tNext)
  (tSeq (tAsg (tLst (tCons (tCall (sp_ungeared K) [] E0 (tCons (tVar 1) tNil)) (tCons (tCall (sp__law_turned K) [] E0 (tCons (tVar 0) (tCons (tVar 1) tNil))) (tCons (tCall (sp__law_grown K) [] E0 (tCons (tVar 1) (tCons (tCall (sp__law_weight K) [] E0 (tCons (tVar 0) tNil)) tNil))) tNil)))) (gName 3))
  (tRet (tOp rEq (tCB (rReprD K) (tCons (tLc (iList K (tVar 3)) (gName 4) tYes (tCall (sp_machine_end K) [] E0 (tCons (tVar 4) tNil)) [4]) tNil)) (tCB (rReprD K) (tCons (tLst (tCons (tVar 2) (tCons (tVar 2) (tCons (tVar 2) tNil)))) tNil)))))))))
theorem pure__law_right (K : PySem.W.Frag) (vs : List V) (H : Hp) (Q : VK) (E : XK) (h : sp__law_right K vs H Q E) : t__law_right K { nx := fun _ H' => Q .non H', rt := Q } (L2.start N__law_right vs) H := body_W h (by decide) fun B w ds hp => by
  obtain ⟨_, e⟩ := hp
  subst e
  unfold t__law_right
  refine st_seq (st_asg (ev_callW rfl (ea_cons (ev_int (ea_nil ⟨⟨5, rfl, by decide, by decide⟩, fun X ⟨k, m, e, ed, h, hk, hR⟩ => ?_⟩)))))
  have h5 : m.length ≤ 5 := by
    simp only [List.cons.injEq, and_true, PyData.int.injEq] at e
    omega
  subst ed
  refine st_seq (st_asg (ev_cb (ea_cons (ev_callP (ea_cons (ev_var rfl (ea_nil ⟨⟨m, rfl, h, h5, hR⟩, fun d ⟨m2, u, e, hr, ed, EO, ub⟩ => ?_⟩)))))))
  obtain rfl := machD_inj (List.cons.inj e).1 h.rt hr
  subst ed
  refine ea_nil (co_tupL ?_)
  have SH := sho_row EO.l ub
  have same : ∀ {n : List Ds} {v : List Int}, EndOk n v → (∃ z : Rat, 0 < z ∧ ∀ x, fM (mq n) x 0 = z * fM (mq m) x 0) → u = v := fun EN ⟨z, z0, hz⟩ => EO.uniq EN z0 hz
  have self : ∃ z : Rat, 0 < z ∧ ∀ x, fM (mq m) x 0 = z * fM (mq m) x 0 := ⟨1, by decide, fun x => by grind⟩
  have ho := out_mach h hR
  have hl := outM_len m
  have ho : Mach (outM m) 22 := ho.up (by omega)
  have so := sho_mach ho (by decide)
  have oo : outM (outM m) = outM m := out_ones ho (out_R h.rt)
  have fo : ∃ z : Rat, 0 < z ∧ ∀ x, fM (mq (outM m)) x 0 = z * fM (mq m) x 0 := by
    obtain ⟨b, b0, hb⟩ := (out_sc h).at
    exact ⟨b 0 * g2 m 0, Rat.mul_pos (b0 0) (g2_pos h 0), fun x => (hb x 0).2⟩
  have s4 : (33 * 4 + 5) * m.length ≤ 3900 := by omega
  refine st_seq (st_if (et_or (et_test (ev_op (ev_callP (ea_cons (ev_var rfl (ea_nil ⟨⟨m, 4, rfl, h⟩, fun r er => ?_⟩))))))))
  have er : r = .bool true := er
  subst er
  refine ev_bl (rok_notB ⟨_, rfl, fun _ => ?_, (fun hb => absurd hb (by decide))⟩)
  refine et_or (et_test (ev_op (ev_cb (ea_cons (ev_callP (ea_cons (ev_var rfl (ea_nil ⟨⟨m, 4, rfl, h, by decide, s4⟩, fun r ⟨m2, v, e, hr, er, EN⟩ => ?_⟩))))))))
  obtain rfl := machD_inj (List.cons.inj e).1 h.rt hr
  obtain rfl := same EN self
  subst er
  refine ea_nil (cok_show SH rfl (by decide) (by decide) (ev_cb (ea_cons (ev_var rfl (ea_nil (cok_show SH rfl (by decide) (by decide) (rok_neS ⟨_, rfl, fun _ => ?_, (fun hb => (no_ne rfl hb).elim)⟩)))))))
  refine et_test (ev_op (ev_cb (ea_cons (ev_callK0 (ea_cons (ev_var rfl (ea_nil ⟨⟨m, 4, rfl, h, by decide, s4⟩, fun r ⟨m2, v, e, hr, er, EN⟩ => ?_⟩)))))))
  obtain rfl := machD_inj (List.cons.inj e).1 h.rt hr
  obtain rfl := same EN self
  subst er
  refine ea_nil (cok_show SH rfl (by decide) (by decide) (ev_cb (ea_cons (ev_var rfl (ea_nil (cok_show SH rfl (by decide) (by decide) (rok_neS ⟨_, rfl, (fun hb => (no_ne rfl hb).elim), fun _ => st_next ?_⟩)))))))
  refine st_seq (st_if (et_or (et_test (ev_op (ev_cb (ea_cons (ev_callP (ea_cons (ev_var rfl (ea_nil ⟨⟨m, 4, rfl, h, by decide⟩, fun r ⟨m2, e, hr, er⟩ => ?_⟩))))))))))
  obtain rfl := machD_inj (List.cons.inj e).1 h.rt hr
  subst er
  refine ea_nil (cok_show so rfl (by decide) (by decide) (ev_cb (ea_cons (ev_callP (ea_cons (ev_var rfl (ea_nil ⟨⟨m, 4, rfl, h, by decide⟩, fun r ⟨m2, e, hr, er⟩ => ?_⟩)))))))
  obtain rfl := machD_inj (List.cons.inj e).1 h.rt hr
  subst er
  refine ea_nil (cok_show so rfl (by decide) (by decide) (rok_neS ⟨_, rfl, fun _ => ?_, (fun hb => (no_ne rfl hb).elim)⟩))
  refine et_test (ev_op (ev_cb (ea_cons (ev_callK0 (ea_cons (ev_callP (ea_cons (ev_var rfl (ea_nil ⟨⟨m, 4, rfl, h, by decide⟩, fun r ⟨m2, e, hr, er⟩ => ?_⟩)))))))))
  obtain rfl := machD_inj (List.cons.inj e).1 h.rt hr
  subst er
  refine ea_nil ⟨⟨outM m, 22, rfl, ho, by decide⟩, fun r ⟨m2, e, hr, er⟩ => ?_⟩
  obtain rfl := machD_inj (List.cons.inj e).1 ho.rt hr
  rw [oo] at er
  subst er
  refine ea_nil (cok_show so rfl (by decide) (by decide) (ev_cb (ea_cons (ev_callP (ea_cons (ev_var rfl (ea_nil ⟨⟨m, 4, rfl, h, by decide⟩, fun r ⟨m2, e, hr, er⟩ => ?_⟩)))))))
  obtain rfl := machD_inj (List.cons.inj e).1 h.rt hr
  subst er
  refine ea_nil (cok_show so rfl (by decide) (by decide) (rok_neS ⟨_, rfl, (fun hb => (no_ne rfl hb).elim), fun _ => st_next ?_⟩))
  refine st_seq (st_asg (ev_lst (ea_cons (ev_callP (ea_cons (ev_var rfl (ea_nil ⟨⟨m, 4, rfl, h, by decide⟩, fun r ⟨m2, e, hr, er⟩ => ?_⟩)))))))
  obtain rfl := machD_inj (List.cons.inj e).1 h.rt hr
  subst er
  refine ea_cons (ev_callW rfl (ea_cons (ev_var rfl (ea_nil ⟨⟨m, rfl, h, hR⟩, fun r ⟨m2, mt, e, hr, er, ht, lt, tw⟩ => ?_⟩))))
  obtain rfl := machD_inj (List.cons.inj e).1 h.rt hr
  subst er
  refine ea_cons (ev_callP (ea_cons (ev_var rfl (ea_cons (ev_callW rfl (ea_nil ⟨⟨trivial, rfl⟩, fun Y ⟨y, ey, fy, y0⟩ => ?_⟩))))))
  subst ey
  refine ea_nil ⟨⟨m, y, rfl, h, fy, y0⟩, fun r ⟨m2, y2, mg, e, hr, er, hg, lg_, gw⟩ => ?_⟩
  have e2 : m = m2 ∧ y = y2 := by
    simp only [List.cons.injEq, and_true] at e
    exact ⟨machD_inj e.1 h.rt hr, frD_inj e.2⟩
  obtain ⟨rfl, rfl⟩ := e2
  subst er
  have ft : ∃ z : Rat, 0 < z ∧ ∀ x, fM (mq mt) x 0 = z * fM (mq m) x 0 := ⟨1, by decide, fun x => by
    rw [tw_fM lt tw x h.n1]
    grind⟩
  have fg : ∃ z : Rat, 0 < z ∧ ∀ x, fM (mq mg) x 0 = z * fM (mq m) x 0 := gw_fM ((val_pos fy.ok.1).1.mpr y0) lg_ gw h.n1
  refine ea_nil ⟨by simp, ?_⟩
  have S3 : Sho 2 60000 (.list [rowD u, rowD u, rowD u]) := sho_up (sho_lst (e := 1) (c := 17310) (ds := [rowD u, rowD u, rowD u]) fun d hd => by
    simp only [List.mem_cons, List.not_mem_nil, or_false] at hd
    rcases hd with rfl | rfl | rfl <;> exact SH) (Nat.le_refl _) (by simp)
  have ends : ∀ (n : List Ds), n ∈ [outM m, mt, mg] → ∃ bb, Mach n bb ∧ bb ≤ 29 ∧ (33 * bb + 5) * n.length ≤ 3900 ∧ ∃ z : Rat, 0 < z ∧ ∀ x, fM (mq n) x 0 = z * fM (mq m) x 0 := fun n hn => by
    simp only [List.mem_cons, List.not_mem_nil, or_false] at hn
    rcases hn with rfl | rfl | rfl
    · exact ⟨22, ho, by decide, by omega, fo⟩
    · exact ⟨4, ht, by decide, by omega, ft⟩
    · exact ⟨8, hg, by decide, by omega, fg⟩
  refine st_ret (ev_op (ev_cb (ea_cons (ev_new (en_lcL (wipe1 4) (ev_var rfl ⟨[outM m, mt, mg].map machD, rfl, (by show 3 ≤ 100000; decide), fun i acc => acc = List.replicate i (rowD u), ⟨rfl, fun i D d' acc hi hJ hin => ?_⟩, fun acc hJ => ?_⟩))))))
  · obtain ⟨n, hn, rfl⟩ := map_getM hi
    obtain ⟨bb, hm, b29, hs, hz⟩ := ends n (List.mem_of_getElem? hn)
    refine et_yes ⟨fun _ => ?_, fun z => nomatch z⟩
    refine ev_callP (ea_cons (ev_var rfl (ea_nil ⟨⟨n, bb, rfl, hm, b29, hs⟩, fun r ⟨m2, v, e, hr, er, EN⟩ => ?_⟩)))
    obtain rfl := machD_inj (List.cons.inj e).1 hm.rt hr
    obtain rfl := same EN hz
    subst er
    show acc ++ [_] = List.replicate (i + 1) (rowD u)
    rw [hJ, List.replicate_succ']
  · have hJ : acc = [rowD u, rowD u, rowD u] := hJ
    subst hJ
    refine ea_nil (cok_show S3 rfl (by decide) (by decide) (ev_cb (ea_cons (ev_lst (ea_cons (ev_var rfl (ea_cons (ev_var rfl (ea_cons (ev_var rfl (ea_nil ⟨by simp, ea_nil (cok_show S3 rfl (by decide) (by decide) (rok_eqS ?_))⟩)))))))))))
    exact congrArg PyData.bool (decide_eq_true rfl)
theorem ok__law_right (T : Tx K mg) : FnG P w K mg base 15 T.a__law_right T.d__law_right p__law_right (sp__law_right K) := by
  refine Fun.okG T.F__law_right sc__law_right (fun vs H Q E h => len__law_right K vs H Q E h) (fun cdv A outer s H vs Q E gd hr h => ?_)
  have hu := hr.units
  exact ⟨t__law_right K, (pss_cons (ps_set (i := 1) sc__law_right.nd rfl (Or.inl rfl) (pe_call (ok__law_machine T) (hr.mono (by decide)) rfl T.g__law_machine T.F__law_machine.kp (b__law_machine T) .nil pass0 (pa_cons (pv 0) (pa_cons pe_int pa_nil))))
  (pss_cons (ps_set (i := 2) sc__law_right.nd rfl (Or.inl rfl) (pe_callTy call_tuple_of (by rfl) T.n_tuple (by decide +kernel) (pa_cons (pe_call (ok__law_end T) (hr.mono (by decide)) rfl T.g__law_end T.F__law_end.kp (b__law_end T) .nil pass0 (pa_cons (pv 1) pa_nil)) pa_nil)))
  (pss_cons (ps_if (PW.pt (pw_or (pt_cmpR op_notBl (pe_call (ok_is_machine T) (hr.mono (by decide)) rfl T.g_is_machine T.F_is_machine.kp (b_is_machine T) .nil pass0 (pa_cons (pv 1) pa_nil)) pe_bl (nomark _)) (pw_or (pt_cmpR op_ne (pe_callB (call_reprD hu gd) (by rfl) T.n_repr (by decide +kernel) (pa_cons (pe_call (ok_machine_end T) (hr.mono (by decide)) rfl T.g_machine_end T.F_machine_end.kp (b_machine_end T) .nil pass0 (pa_cons (pv 1) pa_nil)) pa_nil)) (pe_callB (call_reprD hu gd) (by rfl) T.n_repr (by decide +kernel) (pa_cons (pv 2) pa_nil)) (nomark _)) (pw_or1 (pt_cmpR op_ne (pe_callB (call_reprD hu gd) (by rfl) T.n_repr (by decide +kernel) (pa_cons (pe_callK0 (ok_machine_end T) (hr.mono (by decide)) rfl T.g_machine_end T.F_machine_end.kp (kb_machine_end T) pass0 (pk_cons (pv 1) pk_nil)) pa_nil)) (pe_callB (call_reprD hu gd) (by rfl) T.n_repr (by decide +kernel) (pa_cons (pv 2) pa_nil)) (nomark _)))))) (pss_one (ps_ret pe_bl)) pss_nil)
  (pss_cons (ps_if (PW.pt (pw_or (pt_cmpR op_ne (pe_callB (call_reprD hu gd) (by rfl) T.n_repr (by decide +kernel) (pa_cons (pe_call (ok_ungeared T) (hr.mono (by decide)) rfl T.g_ungeared T.F_ungeared.kp (b_ungeared T) .nil pass0 (pa_cons (pv 1) pa_nil)) pa_nil)) (pe_callB (call_reprD hu gd) (by rfl) T.n_repr (by decide +kernel) (pa_cons (pe_call (ok__law_out T) (hr.mono (by decide)) rfl T.g__law_out T.F__law_out.kp (b__law_out T) .nil pass0 (pa_cons (pv 1) pa_nil)) pa_nil)) (nomark _)) (pw_or1 (pt_cmpR op_ne (pe_callB (call_reprD hu gd) (by rfl) T.n_repr (by decide +kernel) (pa_cons (pe_callK0 (ok_ungeared T) (hr.mono (by decide)) rfl T.g_ungeared T.F_ungeared.kp (kb_ungeared T) pass0 (pk_cons (pe_call (ok_ungeared T) (hr.mono (by decide)) rfl T.g_ungeared T.F_ungeared.kp (b_ungeared T) .nil pass0 (pa_cons (pv 1) pa_nil)) pk_nil)) pa_nil)) (pe_callB (call_reprD hu gd) (by rfl) T.n_repr (by decide +kernel) (pa_cons (pe_call (ok__law_out T) (hr.mono (by decide)) rfl T.g__law_out T.F__law_out.kp (b__law_out T) .nil pass0 (pa_cons (pv 1) pa_nil)) pa_nil)) (nomark _))))) (pss_one (ps_ret pe_bl)) pss_nil)
  (pss_cons (ps_set (i := 3) sc__law_right.nd rfl (Or.inl rfl) (pe_lst (pa_cons (pe_call (ok_ungeared T) (hr.mono (by decide)) rfl T.g_ungeared T.F_ungeared.kp (b_ungeared T) .nil pass0 (pa_cons (pv 1) pa_nil)) (pa_cons (pe_call (ok__law_turned T) (hr.mono (by decide)) rfl T.g__law_turned T.F__law_turned.kp (b__law_turned T) .nil pass0 (pa_cons (pv 0) (pa_cons (pv 1) pa_nil))) (pa_cons (pe_call (ok__law_grown T) (hr.mono (by decide)) rfl T.g__law_grown T.F__law_grown.kp (b__law_grown T) .nil pass0 (pa_cons (pv 1) (pa_cons (pe_call (ok__law_weight T) (hr.mono (by decide)) rfl T.g__law_weight T.F__law_weight.kp (b__law_weight T) .nil pass0 (pa_cons (pv 0) pa_nil)) pa_nil))) pa_nil)))))
  (pss_one (ps_ret (pe_cmpR op_eq (pe_callB (call_reprD hu gd) (by rfl) T.n_repr (by decide +kernel) (pa_cons (pe_lc (own := [("_law_each", 4)]) (by rfl) sc__law_right.nd (pi_list (pv 3)) (blkOk_by (own := [("_law_each", 4)]) (N := N__law_right) (sc := defScope s__law_right) (by decide +kernel)) (fun _ _ _ _ _ => pg_name (i := 4) sc__law_right.nd rfl (Or.inl rfl)) (fun _ _ _ _ _ => pts_nil) (fun _ _ _ _ _ => (pe_call (ok_machine_end T) (hr.mono (by decide)) rfl T.g_machine_end T.F_machine_end.kp (b_machine_end T) .nil pass0 (pa_cons (pv 4) pa_nil)))) pa_nil)) (pe_callB (call_reprD hu gd) (by rfl) T.n_repr (by decide +kernel) (pa_cons (pe_lst (pa_cons (pv 2) (pa_cons (pv 2) (pa_cons (pv 2) pa_nil)))) pa_nil)) (nomark _))))))))), pure__law_right K vs H Q E h⟩
/-! ### law -/
def sp_law (K : PySem.W.Frag) : Sp := fun vs H Q _ => ∃ (a : Addr) (ns : List Int), vs = [.ref a] ∧ SqL K H a (ns.map V.int) ∧ ns.length ≤ 63 ∧ ∀ H', Q (.bl true) H'
theorem len_law (K : PySem.W.Frag) (vs : List V) (H : Hp) (Q : VK) (E : XK) (h : sp_law K vs H Q E) : vs.length = p_law.length := by
  obtain ⟨a, ns, rfl, _⟩ := h
  rfl
def t_law (K : PySem.W.Frag) : TS :=
  (tRet (tCB (rAll K) (tCons (tLc (iRng1 (tCons (tC (.int 2)) tNil)) (gName 1) tYes (tCall (sp__law_right K) [] E0 (tCons (tCall (sp__law_spring K) [] E0 (tCons (tVar 0) (tCons (tVar 1) tNil))) tNil)) [1]) tNil)))
theorem pure_law (K : PySem.W.Frag) (vs : List V) (H : Hp) (Q : VK) (E : XK) (h : sp_law K vs H Q E) : t_law K { nx := fun _ H' => Q .non H', rt := Q } (L2.start N_law vs) H := by
  obtain ⟨a, ns, rfl, hS, hlen, q⟩ := h
  unfold t_law
  refine ⟨2, rfl, by decide, by decide, fun D hD => lc_range (lo := 0) (n := 2) (fun i H' => Same H H' ∧ H' D = some (.lst (List.replicate i (V.bl true)))) ⟨same_upd hD, upd_same⟩ (fun i H' hi S => ?_) (fun H' S => ?_)⟩
  · obtain ⟨s2, hDl⟩ := S
    rw [show (0 : Int) + (i : Int) = (i : Int) from Int.zero_add _]
    refine ⟨rfl, ?_⟩
    refine iteT (B := Same H H' ∧ H' D = some (.lst (List.replicate (i + 1) (V.bl true)))) ?_
    refine ⟨_, rfl, _, rfl, ?_⟩
    unfold tNil
    show sp__law_spring K [.ref a, .int (i : Int)] H' _ E0
    refine ⟨a, ns, i, rfl, s2.seq hS, hlen, by omega, fun w H3 s3 hw hwell => ?_⟩
    show sp__law_right K [.ref w] H3 _ E0
    refine ⟨[w], w, [], [], rfl, List.mem_singleton.mpr rfl, hwell, fun m hm => ?_, .nil, ⟨trivial, rfl⟩, fun v d H4 hk _ dn hd => ?_⟩
    · rw [List.mem_singleton.mp hm]
      obtain ⟨n, b, c, e, _⟩ := hwell
      exact ⟨_, e⟩
    · rw [show d = .bool true from hd] at dn
      rw [dn_bool dn]
      have Dw : D ≠ w := fun z => by
        rw [z, hw] at hDl
        cases hDl
      refine ⟨_, hk D _ Dw (s3 _ _ hDl), ?_, fun b o e => ?_, ?_⟩
      · rw [List.length_replicate]
        exact Nat.lt_of_lt_of_le (show i < 1000 by omega) (by decide)
      · have bD : b ≠ D := fun z => by
          rw [z, hD] at e
          cases e
        have bw : b ≠ w := fun z => by
          have := s2 _ _ e
          rw [z, hw] at this
          cases this
        rw [upd_ne bD]
        exact hk b o bw (s3 _ _ (s2 _ _ e))
      · rw [upd_same, List.replicate_succ']
  · refine ⟨D, List.replicate 2 true, rfl, .inl (.inl ?_), ?_⟩
    · rw [S.2]
      rfl
    · exact q H'
theorem ok_law (T : Tx K mg) : FnG P w K mg base 16 T.a_law T.d_law p_law (sp_law K) := by
  refine Fun.okG T.F_law sc_law (fun vs H Q E h => len_law K vs H Q E h) (fun cdv A outer s H vs Q E gd hr h => ?_)
  exact ⟨t_law K, (pss_one (ps_ret (pe_callB (cr_all rfl) (by rfl) T.n_all (by decide +kernel) (pa_cons (pe_lc (own := [("_law_turn", 1)]) (by rfl) sc_law.nd (pi_range1 (by rfl) T.n_range (pa_cons pe_int pa_nil)) (blkOk_by (own := [("_law_turn", 1)]) (N := N_law) (sc := defScope s_law) (by decide +kernel)) (fun _ _ _ _ _ => pg_name (i := 1) sc_law.nd rfl (Or.inl rfl)) (fun _ _ _ _ _ => pts_nil) (fun _ _ _ _ _ => (pe_callG (ok__law_right T) (hr.mono (by decide)) gd rfl T.g__law_right T.F__law_right.kp (b__law_right T) (pa_cons (pe_call (ok__law_spring T) (hr.mono (by decide)) rfl T.g__law_spring T.F__law_spring.kp (b__law_spring T) .nil pass0 (pa_cons (pv 0) (pa_cons (pv 1) pa_nil))) pa_nil)))) pa_nil)))), pure_law K vs H Q E h⟩
end
theorem all_mk {l : PySem.W.OpenLaw} {w : World} {K : PySem.W.Frag} {h : Heap} {mg : Str → Option Value} {fa : Addr} (X : K.In h) (G : h.Ns mainGlobals mg) (hfa : mg "law" = some (.ref fa))
    {f_is_whole f_is_fraction f_lowest f_multiplied f_is_fraction_from_nought f_is_amount f_is_index f_trimmed f_blend f_product_of f_content f_shrunk f_thinned f_shaft_of f_pull_of f_row_scales f_times_scale f_free_part f_root_parts f_end_of_machine f_is_machine_disc f_is_machine f_check_machine f_ungeared f_machine_end f__law_spring f__law_pull f__law_from f__law_common f__law_frac f__law_plus f__law_by f__law_cut f__law_add f__law_mul f__law_thin f__law_weight f__law_stay f__law_ratio_of f__law_machine f__law_out f__law_parts f__law_end f__law_turned f__law_grown f__law_right f_law  : Addr} {od_is_whole an_is_whole od_is_fraction an_is_fraction od_lowest an_lowest od_multiplied an_multiplied od_is_fraction_from_nought an_is_fraction_from_nought od_is_amount an_is_amount od_is_index an_is_index od_trimmed an_trimmed od_blend an_blend od_product_of an_product_of od_content an_content od_shrunk an_shrunk od_thinned an_thinned od_shaft_of an_shaft_of od_pull_of an_pull_of od_row_scales an_row_scales od_times_scale an_times_scale od_free_part an_free_part od_root_parts an_root_parts od_end_of_machine an_end_of_machine od_is_machine_disc an_is_machine_disc od_is_machine an_is_machine od_check_machine an_check_machine od_ungeared an_ungeared od_machine_end an_machine_end od__law_spring an__law_spring od__law_pull an__law_pull od__law_from an__law_from od__law_common an__law_common od__law_frac an__law_frac od__law_plus an__law_plus od__law_by an__law_by od__law_cut an__law_cut od__law_add an__law_add od__law_mul an__law_mul od__law_thin an__law_thin od__law_weight an__law_weight od__law_stay an__law_stay od__law_ratio_of an__law_ratio_of od__law_machine an__law_machine od__law_out an__law_out od__law_parts an__law_parts od__law_end an__law_end od__law_turned an__law_turned od__law_grown an__law_grown od__law_right an__law_right od_law an_law : Option Addr} {sl_is_whole sl_is_fraction sl_lowest sl_multiplied sl_is_fraction_from_nought sl_is_amount sl_is_index sl_trimmed sl_blend sl_product_of sl_content sl_shrunk sl_thinned sl_shaft_of sl_pull_of sl_row_scales sl_times_scale sl_free_part sl_root_parts sl_end_of_machine sl_is_machine_disc sl_is_machine sl_check_machine sl_ungeared sl_machine_end sl__law_spring sl__law_pull sl__law_from sl__law_common sl__law_frac sl__law_plus sl__law_by sl__law_cut sl__law_add sl__law_mul sl__law_thin sl__law_weight sl__law_stay sl__law_ratio_of sl__law_machine sl__law_out sl__law_parts sl__law_end sl__law_turned sl__law_grown sl__law_right sl_law : Array (Option Value)} {oc_is_whole kV_is_whole dc_is_whole pm_is_whole cd_is_whole ct_is_whole oc_is_fraction kV_is_fraction dc_is_fraction pm_is_fraction cd_is_fraction ct_is_fraction oc_lowest kV_lowest dc_lowest pm_lowest cd_lowest ct_lowest oc_multiplied kV_multiplied dc_multiplied pm_multiplied cd_multiplied ct_multiplied oc_is_fraction_from_nought kV_is_fraction_from_nought dc_is_fraction_from_nought pm_is_fraction_from_nought cd_is_fraction_from_nought ct_is_fraction_from_nought oc_is_amount kV_is_amount dc_is_amount pm_is_amount cd_is_amount ct_is_amount oc_is_index kV_is_index dc_is_index pm_is_index cd_is_index ct_is_index oc_trimmed kV_trimmed dc_trimmed pm_trimmed cd_trimmed ct_trimmed oc_blend kV_blend dc_blend pm_blend cd_blend ct_blend oc_product_of kV_product_of dc_product_of pm_product_of cd_product_of ct_product_of oc_content kV_content dc_content pm_content cd_content ct_content oc_shrunk kV_shrunk dc_shrunk pm_shrunk cd_shrunk ct_shrunk oc_thinned kV_thinned dc_thinned pm_thinned cd_thinned ct_thinned oc_shaft_of kV_shaft_of dc_shaft_of pm_shaft_of cd_shaft_of ct_shaft_of oc_pull_of kV_pull_of dc_pull_of pm_pull_of cd_pull_of ct_pull_of oc_row_scales kV_row_scales dc_row_scales pm_row_scales cd_row_scales ct_row_scales oc_times_scale kV_times_scale dc_times_scale pm_times_scale cd_times_scale ct_times_scale oc_free_part kV_free_part dc_free_part pm_free_part cd_free_part ct_free_part oc_root_parts kV_root_parts dc_root_parts pm_root_parts cd_root_parts ct_root_parts oc_end_of_machine kV_end_of_machine dc_end_of_machine pm_end_of_machine cd_end_of_machine ct_end_of_machine oc_is_machine_disc kV_is_machine_disc dc_is_machine_disc pm_is_machine_disc cd_is_machine_disc ct_is_machine_disc oc_is_machine kV_is_machine dc_is_machine pm_is_machine cd_is_machine ct_is_machine oc_check_machine kV_check_machine dc_check_machine pm_check_machine cd_check_machine ct_check_machine oc_ungeared kV_ungeared dc_ungeared pm_ungeared cd_ungeared ct_ungeared oc_machine_end kV_machine_end dc_machine_end pm_machine_end cd_machine_end ct_machine_end oc__law_spring kV__law_spring dc__law_spring pm__law_spring cd__law_spring ct__law_spring oc__law_pull kV__law_pull dc__law_pull pm__law_pull cd__law_pull ct__law_pull oc__law_from kV__law_from dc__law_from pm__law_from cd__law_from ct__law_from oc__law_common kV__law_common dc__law_common pm__law_common cd__law_common ct__law_common oc__law_frac kV__law_frac dc__law_frac pm__law_frac cd__law_frac ct__law_frac oc__law_plus kV__law_plus dc__law_plus pm__law_plus cd__law_plus ct__law_plus oc__law_by kV__law_by dc__law_by pm__law_by cd__law_by ct__law_by oc__law_cut kV__law_cut dc__law_cut pm__law_cut cd__law_cut ct__law_cut oc__law_add kV__law_add dc__law_add pm__law_add cd__law_add ct__law_add oc__law_mul kV__law_mul dc__law_mul pm__law_mul cd__law_mul ct__law_mul oc__law_thin kV__law_thin dc__law_thin pm__law_thin cd__law_thin ct__law_thin oc__law_weight kV__law_weight dc__law_weight pm__law_weight cd__law_weight ct__law_weight oc__law_stay kV__law_stay dc__law_stay pm__law_stay cd__law_stay ct__law_stay oc__law_ratio_of kV__law_ratio_of dc__law_ratio_of pm__law_ratio_of cd__law_ratio_of ct__law_ratio_of oc__law_machine kV__law_machine dc__law_machine pm__law_machine cd__law_machine ct__law_machine oc__law_out kV__law_out dc__law_out pm__law_out cd__law_out ct__law_out oc__law_parts kV__law_parts dc__law_parts pm__law_parts cd__law_parts ct__law_parts oc__law_end kV__law_end dc__law_end pm__law_end cd__law_end ct__law_end oc__law_turned kV__law_turned dc__law_turned pm__law_turned cd__law_turned ct__law_turned oc__law_grown kV__law_grown dc__law_grown pm__law_grown cd__law_grown ct__law_grown oc__law_right kV__law_right dc__law_right pm__law_right cd__law_right ct__law_right oc_law kV_law dc_law pm_law cd_law ct_law : Value} {k_ONE : Addr} {od_ONE : Option Addr} {t0_ONE t1_ONE : Tok} {n_ONE : Nat} {sl_ONE : Array (Option Value)} {t_MOST_DISCS : Tok}
    (a_is_whole : PySem.W.nsIn K mainGlobals "is_whole" = some (some (.ref f_is_whole)))
    (l_is_whole : K.lookup f_is_whole = some ⟨oc_is_whole, od_is_whole, .func (PySem.W.fnOf "is_whole" "is_whole" (defArgs s_is_whole) (defBody s_is_whole) (defScope s_is_whole) .none kV_is_whole dc_is_whole pm_is_whole an_is_whole cd_is_whole ct_is_whole), sl_is_whole⟩)
    (c_is_whole : PySem.W.codeIn K cd_is_whole "is_whole" = true)
    (k_is_whole : PySem.W.keepIn K (.ref f_is_whole) = true)
    (a_is_fraction : PySem.W.nsIn K mainGlobals "is_fraction" = some (some (.ref f_is_fraction)))
    (l_is_fraction : K.lookup f_is_fraction = some ⟨oc_is_fraction, od_is_fraction, .func (PySem.W.fnOf "is_fraction" "is_fraction" (defArgs s_is_fraction) (defBody s_is_fraction) (defScope s_is_fraction) .none kV_is_fraction dc_is_fraction pm_is_fraction an_is_fraction cd_is_fraction ct_is_fraction), sl_is_fraction⟩)
    (c_is_fraction : PySem.W.codeIn K cd_is_fraction "is_fraction" = true)
    (k_is_fraction : PySem.W.keepIn K (.ref f_is_fraction) = true)
    (a_lowest : PySem.W.nsIn K mainGlobals "lowest" = some (some (.ref f_lowest)))
    (l_lowest : K.lookup f_lowest = some ⟨oc_lowest, od_lowest, .func (PySem.W.fnOf "lowest" "lowest" (defArgs s_lowest) (defBody s_lowest) (defScope s_lowest) .none kV_lowest dc_lowest pm_lowest an_lowest cd_lowest ct_lowest), sl_lowest⟩)
    (c_lowest : PySem.W.codeIn K cd_lowest "lowest" = true)
    (k_lowest : PySem.W.keepIn K (.ref f_lowest) = true)
    (a_multiplied : PySem.W.nsIn K mainGlobals "multiplied" = some (some (.ref f_multiplied)))
    (l_multiplied : K.lookup f_multiplied = some ⟨oc_multiplied, od_multiplied, .func (PySem.W.fnOf "multiplied" "multiplied" (defArgs s_multiplied) (defBody s_multiplied) (defScope s_multiplied) .none kV_multiplied dc_multiplied pm_multiplied an_multiplied cd_multiplied ct_multiplied), sl_multiplied⟩)
    (c_multiplied : PySem.W.codeIn K cd_multiplied "multiplied" = true)
    (k_multiplied : PySem.W.keepIn K (.ref f_multiplied) = true)
    (a_is_fraction_from_nought : PySem.W.nsIn K mainGlobals "is_fraction_from_nought" = some (some (.ref f_is_fraction_from_nought)))
    (l_is_fraction_from_nought : K.lookup f_is_fraction_from_nought = some ⟨oc_is_fraction_from_nought, od_is_fraction_from_nought, .func (PySem.W.fnOf "is_fraction_from_nought" "is_fraction_from_nought" (defArgs s_is_fraction_from_nought) (defBody s_is_fraction_from_nought) (defScope s_is_fraction_from_nought) .none kV_is_fraction_from_nought dc_is_fraction_from_nought pm_is_fraction_from_nought an_is_fraction_from_nought cd_is_fraction_from_nought ct_is_fraction_from_nought), sl_is_fraction_from_nought⟩)
    (c_is_fraction_from_nought : PySem.W.codeIn K cd_is_fraction_from_nought "is_fraction_from_nought" = true)
    (k_is_fraction_from_nought : PySem.W.keepIn K (.ref f_is_fraction_from_nought) = true)
    (a_is_amount : PySem.W.nsIn K mainGlobals "is_amount" = some (some (.ref f_is_amount)))
    (l_is_amount : K.lookup f_is_amount = some ⟨oc_is_amount, od_is_amount, .func (PySem.W.fnOf "is_amount" "is_amount" (defArgs s_is_amount) (defBody s_is_amount) (defScope s_is_amount) .none kV_is_amount dc_is_amount pm_is_amount an_is_amount cd_is_amount ct_is_amount), sl_is_amount⟩)
    (c_is_amount : PySem.W.codeIn K cd_is_amount "is_amount" = true)
    (k_is_amount : PySem.W.keepIn K (.ref f_is_amount) = true)
    (a_is_index : PySem.W.nsIn K mainGlobals "is_index" = some (some (.ref f_is_index)))
    (l_is_index : K.lookup f_is_index = some ⟨oc_is_index, od_is_index, .func (PySem.W.fnOf "is_index" "is_index" (defArgs s_is_index) (defBody s_is_index) (defScope s_is_index) .none kV_is_index dc_is_index pm_is_index an_is_index cd_is_index ct_is_index), sl_is_index⟩)
    (c_is_index : PySem.W.codeIn K cd_is_index "is_index" = true)
    (k_is_index : PySem.W.keepIn K (.ref f_is_index) = true)
    (a_trimmed : PySem.W.nsIn K mainGlobals "trimmed" = some (some (.ref f_trimmed)))
    (l_trimmed : K.lookup f_trimmed = some ⟨oc_trimmed, od_trimmed, .func (PySem.W.fnOf "trimmed" "trimmed" (defArgs s_trimmed) (defBody s_trimmed) (defScope s_trimmed) .none kV_trimmed dc_trimmed pm_trimmed an_trimmed cd_trimmed ct_trimmed), sl_trimmed⟩)
    (c_trimmed : PySem.W.codeIn K cd_trimmed "trimmed" = true)
    (k_trimmed : PySem.W.keepIn K (.ref f_trimmed) = true)
    (a_blend : PySem.W.nsIn K mainGlobals "blend" = some (some (.ref f_blend)))
    (l_blend : K.lookup f_blend = some ⟨oc_blend, od_blend, .func (PySem.W.fnOf "blend" "blend" (defArgs s_blend) (defBody s_blend) (defScope s_blend) .none kV_blend dc_blend pm_blend an_blend cd_blend ct_blend), sl_blend⟩)
    (c_blend : PySem.W.codeIn K cd_blend "blend" = true)
    (k_blend : PySem.W.keepIn K (.ref f_blend) = true)
    (a_product_of : PySem.W.nsIn K mainGlobals "product_of" = some (some (.ref f_product_of)))
    (l_product_of : K.lookup f_product_of = some ⟨oc_product_of, od_product_of, .func (PySem.W.fnOf "product_of" "product_of" (defArgs s_product_of) (defBody s_product_of) (defScope s_product_of) .none kV_product_of dc_product_of pm_product_of an_product_of cd_product_of ct_product_of), sl_product_of⟩)
    (c_product_of : PySem.W.codeIn K cd_product_of "product_of" = true)
    (k_product_of : PySem.W.keepIn K (.ref f_product_of) = true)
    (a_content : PySem.W.nsIn K mainGlobals "content" = some (some (.ref f_content)))
    (l_content : K.lookup f_content = some ⟨oc_content, od_content, .func (PySem.W.fnOf "content" "content" (defArgs s_content) (defBody s_content) (defScope s_content) .none kV_content dc_content pm_content an_content cd_content ct_content), sl_content⟩)
    (c_content : PySem.W.codeIn K cd_content "content" = true)
    (k_content : PySem.W.keepIn K (.ref f_content) = true)
    (a_shrunk : PySem.W.nsIn K mainGlobals "shrunk" = some (some (.ref f_shrunk)))
    (l_shrunk : K.lookup f_shrunk = some ⟨oc_shrunk, od_shrunk, .func (PySem.W.fnOf "shrunk" "shrunk" (defArgs s_shrunk) (defBody s_shrunk) (defScope s_shrunk) .none kV_shrunk dc_shrunk pm_shrunk an_shrunk cd_shrunk ct_shrunk), sl_shrunk⟩)
    (c_shrunk : PySem.W.codeIn K cd_shrunk "shrunk" = true)
    (k_shrunk : PySem.W.keepIn K (.ref f_shrunk) = true)
    (a_thinned : PySem.W.nsIn K mainGlobals "thinned" = some (some (.ref f_thinned)))
    (l_thinned : K.lookup f_thinned = some ⟨oc_thinned, od_thinned, .func (PySem.W.fnOf "thinned" "thinned" (defArgs s_thinned) (defBody s_thinned) (defScope s_thinned) .none kV_thinned dc_thinned pm_thinned an_thinned cd_thinned ct_thinned), sl_thinned⟩)
    (c_thinned : PySem.W.codeIn K cd_thinned "thinned" = true)
    (k_thinned : PySem.W.keepIn K (.ref f_thinned) = true)
    (a_shaft_of : PySem.W.nsIn K mainGlobals "shaft_of" = some (some (.ref f_shaft_of)))
    (l_shaft_of : K.lookup f_shaft_of = some ⟨oc_shaft_of, od_shaft_of, .func (PySem.W.fnOf "shaft_of" "shaft_of" (defArgs s_shaft_of) (defBody s_shaft_of) (defScope s_shaft_of) .none kV_shaft_of dc_shaft_of pm_shaft_of an_shaft_of cd_shaft_of ct_shaft_of), sl_shaft_of⟩)
    (c_shaft_of : PySem.W.codeIn K cd_shaft_of "shaft_of" = true)
    (k_shaft_of : PySem.W.keepIn K (.ref f_shaft_of) = true)
    (a_pull_of : PySem.W.nsIn K mainGlobals "pull_of" = some (some (.ref f_pull_of)))
    (l_pull_of : K.lookup f_pull_of = some ⟨oc_pull_of, od_pull_of, .func (PySem.W.fnOf "pull_of" "pull_of" (defArgs s_pull_of) (defBody s_pull_of) (defScope s_pull_of) .none kV_pull_of dc_pull_of pm_pull_of an_pull_of cd_pull_of ct_pull_of), sl_pull_of⟩)
    (c_pull_of : PySem.W.codeIn K cd_pull_of "pull_of" = true)
    (k_pull_of : PySem.W.keepIn K (.ref f_pull_of) = true)
    (a_row_scales : PySem.W.nsIn K mainGlobals "row_scales" = some (some (.ref f_row_scales)))
    (l_row_scales : K.lookup f_row_scales = some ⟨oc_row_scales, od_row_scales, .func (PySem.W.fnOf "row_scales" "row_scales" (defArgs s_row_scales) (defBody s_row_scales) (defScope s_row_scales) .none kV_row_scales dc_row_scales pm_row_scales an_row_scales cd_row_scales ct_row_scales), sl_row_scales⟩)
    (c_row_scales : PySem.W.codeIn K cd_row_scales "row_scales" = true)
    (k_row_scales : PySem.W.keepIn K (.ref f_row_scales) = true)
    (a_times_scale : PySem.W.nsIn K mainGlobals "times_scale" = some (some (.ref f_times_scale)))
    (l_times_scale : K.lookup f_times_scale = some ⟨oc_times_scale, od_times_scale, .func (PySem.W.fnOf "times_scale" "times_scale" (defArgs s_times_scale) (defBody s_times_scale) (defScope s_times_scale) .none kV_times_scale dc_times_scale pm_times_scale an_times_scale cd_times_scale ct_times_scale), sl_times_scale⟩)
    (c_times_scale : PySem.W.codeIn K cd_times_scale "times_scale" = true)
    (k_times_scale : PySem.W.keepIn K (.ref f_times_scale) = true)
    (a_free_part : PySem.W.nsIn K mainGlobals "free_part" = some (some (.ref f_free_part)))
    (l_free_part : K.lookup f_free_part = some ⟨oc_free_part, od_free_part, .func (PySem.W.fnOf "free_part" "free_part" (defArgs s_free_part) (defBody s_free_part) (defScope s_free_part) .none kV_free_part dc_free_part pm_free_part an_free_part cd_free_part ct_free_part), sl_free_part⟩)
    (c_free_part : PySem.W.codeIn K cd_free_part "free_part" = true)
    (k_free_part : PySem.W.keepIn K (.ref f_free_part) = true)
    (a_root_parts : PySem.W.nsIn K mainGlobals "root_parts" = some (some (.ref f_root_parts)))
    (l_root_parts : K.lookup f_root_parts = some ⟨oc_root_parts, od_root_parts, .func (PySem.W.fnOf "root_parts" "root_parts" (defArgs s_root_parts) (defBody s_root_parts) (defScope s_root_parts) .none kV_root_parts dc_root_parts pm_root_parts an_root_parts cd_root_parts ct_root_parts), sl_root_parts⟩)
    (c_root_parts : PySem.W.codeIn K cd_root_parts "root_parts" = true)
    (k_root_parts : PySem.W.keepIn K (.ref f_root_parts) = true)
    (a_end_of_machine : PySem.W.nsIn K mainGlobals "end_of_machine" = some (some (.ref f_end_of_machine)))
    (l_end_of_machine : K.lookup f_end_of_machine = some ⟨oc_end_of_machine, od_end_of_machine, .func (PySem.W.fnOf "end_of_machine" "end_of_machine" (defArgs s_end_of_machine) (defBody s_end_of_machine) (defScope s_end_of_machine) .none kV_end_of_machine dc_end_of_machine pm_end_of_machine an_end_of_machine cd_end_of_machine ct_end_of_machine), sl_end_of_machine⟩)
    (c_end_of_machine : PySem.W.codeIn K cd_end_of_machine "end_of_machine" = true)
    (k_end_of_machine : PySem.W.keepIn K (.ref f_end_of_machine) = true)
    (a_is_machine_disc : PySem.W.nsIn K mainGlobals "is_machine_disc" = some (some (.ref f_is_machine_disc)))
    (l_is_machine_disc : K.lookup f_is_machine_disc = some ⟨oc_is_machine_disc, od_is_machine_disc, .func (PySem.W.fnOf "is_machine_disc" "is_machine_disc" (defArgs s_is_machine_disc) (defBody s_is_machine_disc) (defScope s_is_machine_disc) .none kV_is_machine_disc dc_is_machine_disc pm_is_machine_disc an_is_machine_disc cd_is_machine_disc ct_is_machine_disc), sl_is_machine_disc⟩)
    (c_is_machine_disc : PySem.W.codeIn K cd_is_machine_disc "is_machine_disc" = true)
    (k_is_machine_disc : PySem.W.keepIn K (.ref f_is_machine_disc) = true)
    (a_is_machine : PySem.W.nsIn K mainGlobals "is_machine" = some (some (.ref f_is_machine)))
    (l_is_machine : K.lookup f_is_machine = some ⟨oc_is_machine, od_is_machine, .func (PySem.W.fnOf "is_machine" "is_machine" (defArgs s_is_machine) (defBody s_is_machine) (defScope s_is_machine) .none kV_is_machine dc_is_machine pm_is_machine an_is_machine cd_is_machine ct_is_machine), sl_is_machine⟩)
    (c_is_machine : PySem.W.codeIn K cd_is_machine "is_machine" = true)
    (k_is_machine : PySem.W.keepIn K (.ref f_is_machine) = true)
    (a_check_machine : PySem.W.nsIn K mainGlobals "check_machine" = some (some (.ref f_check_machine)))
    (l_check_machine : K.lookup f_check_machine = some ⟨oc_check_machine, od_check_machine, .func (PySem.W.fnOf "check_machine" "check_machine" (defArgs s_check_machine) (defBody s_check_machine) (defScope s_check_machine) .none kV_check_machine dc_check_machine pm_check_machine an_check_machine cd_check_machine ct_check_machine), sl_check_machine⟩)
    (c_check_machine : PySem.W.codeIn K cd_check_machine "check_machine" = true)
    (k_check_machine : PySem.W.keepIn K (.ref f_check_machine) = true)
    (a_ungeared : PySem.W.nsIn K mainGlobals "ungeared" = some (some (.ref f_ungeared)))
    (l_ungeared : K.lookup f_ungeared = some ⟨oc_ungeared, od_ungeared, .func (PySem.W.fnOf "ungeared" "ungeared" (defArgs s_ungeared) (defBody s_ungeared) (defScope s_ungeared) .none kV_ungeared dc_ungeared pm_ungeared an_ungeared cd_ungeared ct_ungeared), sl_ungeared⟩)
    (c_ungeared : PySem.W.codeIn K cd_ungeared "ungeared" = true)
    (k_ungeared : PySem.W.keepIn K (.ref f_ungeared) = true)
    (a_machine_end : PySem.W.nsIn K mainGlobals "machine_end" = some (some (.ref f_machine_end)))
    (l_machine_end : K.lookup f_machine_end = some ⟨oc_machine_end, od_machine_end, .func (PySem.W.fnOf "machine_end" "machine_end" (defArgs s_machine_end) (defBody s_machine_end) (defScope s_machine_end) .none kV_machine_end dc_machine_end pm_machine_end an_machine_end cd_machine_end ct_machine_end), sl_machine_end⟩)
    (c_machine_end : PySem.W.codeIn K cd_machine_end "machine_end" = true)
    (k_machine_end : PySem.W.keepIn K (.ref f_machine_end) = true)
    (a__law_spring : PySem.W.nsIn K mainGlobals "_law_spring" = some (some (.ref f__law_spring)))
    (l__law_spring : K.lookup f__law_spring = some ⟨oc__law_spring, od__law_spring, .func (PySem.W.fnOf "_law_spring" "_law_spring" (defArgs s__law_spring) (defBody s__law_spring) (defScope s__law_spring) .none kV__law_spring dc__law_spring pm__law_spring an__law_spring cd__law_spring ct__law_spring), sl__law_spring⟩)
    (c__law_spring : PySem.W.codeIn K cd__law_spring "_law_spring" = true)
    (k__law_spring : PySem.W.keepIn K (.ref f__law_spring) = true)
    (a__law_pull : PySem.W.nsIn K mainGlobals "_law_pull" = some (some (.ref f__law_pull)))
    (l__law_pull : K.lookup f__law_pull = some ⟨oc__law_pull, od__law_pull, .func (PySem.W.fnOf "_law_pull" "_law_pull" (defArgs s__law_pull) (defBody s__law_pull) (defScope s__law_pull) .none kV__law_pull dc__law_pull pm__law_pull an__law_pull cd__law_pull ct__law_pull), sl__law_pull⟩)
    (c__law_pull : PySem.W.codeIn K cd__law_pull "_law_pull" = true)
    (k__law_pull : PySem.W.keepIn K (.ref f__law_pull) = true)
    (a__law_from : PySem.W.nsIn K mainGlobals "_law_from" = some (some (.ref f__law_from)))
    (l__law_from : K.lookup f__law_from = some ⟨oc__law_from, od__law_from, .func (PySem.W.fnOf "_law_from" "_law_from" (defArgs s__law_from) (defBody s__law_from) (defScope s__law_from) .none kV__law_from dc__law_from pm__law_from an__law_from cd__law_from ct__law_from), sl__law_from⟩)
    (c__law_from : PySem.W.codeIn K cd__law_from "_law_from" = true)
    (k__law_from : PySem.W.keepIn K (.ref f__law_from) = true)
    (a__law_common : PySem.W.nsIn K mainGlobals "_law_common" = some (some (.ref f__law_common)))
    (l__law_common : K.lookup f__law_common = some ⟨oc__law_common, od__law_common, .func (PySem.W.fnOf "_law_common" "_law_common" (defArgs s__law_common) (defBody s__law_common) (defScope s__law_common) .none kV__law_common dc__law_common pm__law_common an__law_common cd__law_common ct__law_common), sl__law_common⟩)
    (c__law_common : PySem.W.codeIn K cd__law_common "_law_common" = true)
    (k__law_common : PySem.W.keepIn K (.ref f__law_common) = true)
    (a__law_frac : PySem.W.nsIn K mainGlobals "_law_frac" = some (some (.ref f__law_frac)))
    (l__law_frac : K.lookup f__law_frac = some ⟨oc__law_frac, od__law_frac, .func (PySem.W.fnOf "_law_frac" "_law_frac" (defArgs s__law_frac) (defBody s__law_frac) (defScope s__law_frac) .none kV__law_frac dc__law_frac pm__law_frac an__law_frac cd__law_frac ct__law_frac), sl__law_frac⟩)
    (c__law_frac : PySem.W.codeIn K cd__law_frac "_law_frac" = true)
    (k__law_frac : PySem.W.keepIn K (.ref f__law_frac) = true)
    (a__law_plus : PySem.W.nsIn K mainGlobals "_law_plus" = some (some (.ref f__law_plus)))
    (l__law_plus : K.lookup f__law_plus = some ⟨oc__law_plus, od__law_plus, .func (PySem.W.fnOf "_law_plus" "_law_plus" (defArgs s__law_plus) (defBody s__law_plus) (defScope s__law_plus) .none kV__law_plus dc__law_plus pm__law_plus an__law_plus cd__law_plus ct__law_plus), sl__law_plus⟩)
    (c__law_plus : PySem.W.codeIn K cd__law_plus "_law_plus" = true)
    (k__law_plus : PySem.W.keepIn K (.ref f__law_plus) = true)
    (a__law_by : PySem.W.nsIn K mainGlobals "_law_by" = some (some (.ref f__law_by)))
    (l__law_by : K.lookup f__law_by = some ⟨oc__law_by, od__law_by, .func (PySem.W.fnOf "_law_by" "_law_by" (defArgs s__law_by) (defBody s__law_by) (defScope s__law_by) .none kV__law_by dc__law_by pm__law_by an__law_by cd__law_by ct__law_by), sl__law_by⟩)
    (c__law_by : PySem.W.codeIn K cd__law_by "_law_by" = true)
    (k__law_by : PySem.W.keepIn K (.ref f__law_by) = true)
    (a__law_cut : PySem.W.nsIn K mainGlobals "_law_cut" = some (some (.ref f__law_cut)))
    (l__law_cut : K.lookup f__law_cut = some ⟨oc__law_cut, od__law_cut, .func (PySem.W.fnOf "_law_cut" "_law_cut" (defArgs s__law_cut) (defBody s__law_cut) (defScope s__law_cut) .none kV__law_cut dc__law_cut pm__law_cut an__law_cut cd__law_cut ct__law_cut), sl__law_cut⟩)
    (c__law_cut : PySem.W.codeIn K cd__law_cut "_law_cut" = true)
    (k__law_cut : PySem.W.keepIn K (.ref f__law_cut) = true)
    (a__law_add : PySem.W.nsIn K mainGlobals "_law_add" = some (some (.ref f__law_add)))
    (l__law_add : K.lookup f__law_add = some ⟨oc__law_add, od__law_add, .func (PySem.W.fnOf "_law_add" "_law_add" (defArgs s__law_add) (defBody s__law_add) (defScope s__law_add) .none kV__law_add dc__law_add pm__law_add an__law_add cd__law_add ct__law_add), sl__law_add⟩)
    (c__law_add : PySem.W.codeIn K cd__law_add "_law_add" = true)
    (k__law_add : PySem.W.keepIn K (.ref f__law_add) = true)
    (a__law_mul : PySem.W.nsIn K mainGlobals "_law_mul" = some (some (.ref f__law_mul)))
    (l__law_mul : K.lookup f__law_mul = some ⟨oc__law_mul, od__law_mul, .func (PySem.W.fnOf "_law_mul" "_law_mul" (defArgs s__law_mul) (defBody s__law_mul) (defScope s__law_mul) .none kV__law_mul dc__law_mul pm__law_mul an__law_mul cd__law_mul ct__law_mul), sl__law_mul⟩)
    (c__law_mul : PySem.W.codeIn K cd__law_mul "_law_mul" = true)
    (k__law_mul : PySem.W.keepIn K (.ref f__law_mul) = true)
    (a__law_thin : PySem.W.nsIn K mainGlobals "_law_thin" = some (some (.ref f__law_thin)))
    (l__law_thin : K.lookup f__law_thin = some ⟨oc__law_thin, od__law_thin, .func (PySem.W.fnOf "_law_thin" "_law_thin" (defArgs s__law_thin) (defBody s__law_thin) (defScope s__law_thin) .none kV__law_thin dc__law_thin pm__law_thin an__law_thin cd__law_thin ct__law_thin), sl__law_thin⟩)
    (c__law_thin : PySem.W.codeIn K cd__law_thin "_law_thin" = true)
    (k__law_thin : PySem.W.keepIn K (.ref f__law_thin) = true)
    (a__law_weight : PySem.W.nsIn K mainGlobals "_law_weight" = some (some (.ref f__law_weight)))
    (l__law_weight : K.lookup f__law_weight = some ⟨oc__law_weight, od__law_weight, .func (PySem.W.fnOf "_law_weight" "_law_weight" (defArgs s__law_weight) (defBody s__law_weight) (defScope s__law_weight) .none kV__law_weight dc__law_weight pm__law_weight an__law_weight cd__law_weight ct__law_weight), sl__law_weight⟩)
    (c__law_weight : PySem.W.codeIn K cd__law_weight "_law_weight" = true)
    (k__law_weight : PySem.W.keepIn K (.ref f__law_weight) = true)
    (a__law_stay : PySem.W.nsIn K mainGlobals "_law_stay" = some (some (.ref f__law_stay)))
    (l__law_stay : K.lookup f__law_stay = some ⟨oc__law_stay, od__law_stay, .func (PySem.W.fnOf "_law_stay" "_law_stay" (defArgs s__law_stay) (defBody s__law_stay) (defScope s__law_stay) .none kV__law_stay dc__law_stay pm__law_stay an__law_stay cd__law_stay ct__law_stay), sl__law_stay⟩)
    (c__law_stay : PySem.W.codeIn K cd__law_stay "_law_stay" = true)
    (k__law_stay : PySem.W.keepIn K (.ref f__law_stay) = true)
    (a__law_ratio_of : PySem.W.nsIn K mainGlobals "_law_ratio_of" = some (some (.ref f__law_ratio_of)))
    (l__law_ratio_of : K.lookup f__law_ratio_of = some ⟨oc__law_ratio_of, od__law_ratio_of, .func (PySem.W.fnOf "_law_ratio_of" "_law_ratio_of" (defArgs s__law_ratio_of) (defBody s__law_ratio_of) (defScope s__law_ratio_of) .none kV__law_ratio_of dc__law_ratio_of pm__law_ratio_of an__law_ratio_of cd__law_ratio_of ct__law_ratio_of), sl__law_ratio_of⟩)
    (c__law_ratio_of : PySem.W.codeIn K cd__law_ratio_of "_law_ratio_of" = true)
    (k__law_ratio_of : PySem.W.keepIn K (.ref f__law_ratio_of) = true)
    (a__law_machine : PySem.W.nsIn K mainGlobals "_law_machine" = some (some (.ref f__law_machine)))
    (l__law_machine : K.lookup f__law_machine = some ⟨oc__law_machine, od__law_machine, .func (PySem.W.fnOf "_law_machine" "_law_machine" (defArgs s__law_machine) (defBody s__law_machine) (defScope s__law_machine) .none kV__law_machine dc__law_machine pm__law_machine an__law_machine cd__law_machine ct__law_machine), sl__law_machine⟩)
    (c__law_machine : PySem.W.codeIn K cd__law_machine "_law_machine" = true)
    (k__law_machine : PySem.W.keepIn K (.ref f__law_machine) = true)
    (a__law_out : PySem.W.nsIn K mainGlobals "_law_out" = some (some (.ref f__law_out)))
    (l__law_out : K.lookup f__law_out = some ⟨oc__law_out, od__law_out, .func (PySem.W.fnOf "_law_out" "_law_out" (defArgs s__law_out) (defBody s__law_out) (defScope s__law_out) .none kV__law_out dc__law_out pm__law_out an__law_out cd__law_out ct__law_out), sl__law_out⟩)
    (c__law_out : PySem.W.codeIn K cd__law_out "_law_out" = true)
    (k__law_out : PySem.W.keepIn K (.ref f__law_out) = true)
    (a__law_parts : PySem.W.nsIn K mainGlobals "_law_parts" = some (some (.ref f__law_parts)))
    (l__law_parts : K.lookup f__law_parts = some ⟨oc__law_parts, od__law_parts, .func (PySem.W.fnOf "_law_parts" "_law_parts" (defArgs s__law_parts) (defBody s__law_parts) (defScope s__law_parts) .none kV__law_parts dc__law_parts pm__law_parts an__law_parts cd__law_parts ct__law_parts), sl__law_parts⟩)
    (c__law_parts : PySem.W.codeIn K cd__law_parts "_law_parts" = true)
    (k__law_parts : PySem.W.keepIn K (.ref f__law_parts) = true)
    (a__law_end : PySem.W.nsIn K mainGlobals "_law_end" = some (some (.ref f__law_end)))
    (l__law_end : K.lookup f__law_end = some ⟨oc__law_end, od__law_end, .func (PySem.W.fnOf "_law_end" "_law_end" (defArgs s__law_end) (defBody s__law_end) (defScope s__law_end) .none kV__law_end dc__law_end pm__law_end an__law_end cd__law_end ct__law_end), sl__law_end⟩)
    (c__law_end : PySem.W.codeIn K cd__law_end "_law_end" = true)
    (k__law_end : PySem.W.keepIn K (.ref f__law_end) = true)
    (a__law_turned : PySem.W.nsIn K mainGlobals "_law_turned" = some (some (.ref f__law_turned)))
    (l__law_turned : K.lookup f__law_turned = some ⟨oc__law_turned, od__law_turned, .func (PySem.W.fnOf "_law_turned" "_law_turned" (defArgs s__law_turned) (defBody s__law_turned) (defScope s__law_turned) .none kV__law_turned dc__law_turned pm__law_turned an__law_turned cd__law_turned ct__law_turned), sl__law_turned⟩)
    (c__law_turned : PySem.W.codeIn K cd__law_turned "_law_turned" = true)
    (k__law_turned : PySem.W.keepIn K (.ref f__law_turned) = true)
    (a__law_grown : PySem.W.nsIn K mainGlobals "_law_grown" = some (some (.ref f__law_grown)))
    (l__law_grown : K.lookup f__law_grown = some ⟨oc__law_grown, od__law_grown, .func (PySem.W.fnOf "_law_grown" "_law_grown" (defArgs s__law_grown) (defBody s__law_grown) (defScope s__law_grown) .none kV__law_grown dc__law_grown pm__law_grown an__law_grown cd__law_grown ct__law_grown), sl__law_grown⟩)
    (c__law_grown : PySem.W.codeIn K cd__law_grown "_law_grown" = true)
    (k__law_grown : PySem.W.keepIn K (.ref f__law_grown) = true)
    (a__law_right : PySem.W.nsIn K mainGlobals "_law_right" = some (some (.ref f__law_right)))
    (l__law_right : K.lookup f__law_right = some ⟨oc__law_right, od__law_right, .func (PySem.W.fnOf "_law_right" "_law_right" (defArgs s__law_right) (defBody s__law_right) (defScope s__law_right) .none kV__law_right dc__law_right pm__law_right an__law_right cd__law_right ct__law_right), sl__law_right⟩)
    (c__law_right : PySem.W.codeIn K cd__law_right "_law_right" = true)
    (k__law_right : PySem.W.keepIn K (.ref f__law_right) = true)
    (a_law : PySem.W.nsIn K mainGlobals "law" = some (some (.ref f_law)))
    (l_law : K.lookup f_law = some ⟨oc_law, od_law, .func (PySem.W.fnOf "law" "law" (defArgs s_law) (defBody s_law) (defScope s_law) .none kV_law dc_law pm_law an_law cd_law ct_law), sl_law⟩)
    (c_law : PySem.W.codeIn K cd_law "law" = true)
    (k_law : PySem.W.keepIn K (.ref f_law) = true)
    (q_MOST_DISCS : PySem.W.nsIn K mainGlobals "MOST_DISCS" = some (some (.int 8 t_MOST_DISCS)))
    (q_ONE : PySem.W.nsIn K mainGlobals "ONE" = some (some (.ref k_ONE))) (l_ONE : K.lookup k_ONE = some ⟨.type "tuple", od_ONE, .seq #[.int 1 t0_ONE, .int 1 t1_ONE] n_ONE, sl_ONE⟩)
    (q_abs : PySem.W.nsIn K mainGlobals "abs" = some none)
    (q_all : PySem.W.nsIn K mainGlobals "all" = some none)
    (q_bool : PySem.W.nsIn K mainGlobals "bool" = some none)
    (q_enumerate : PySem.W.nsIn K mainGlobals "enumerate" = some none)
    (q_gcd : PySem.W.nsIn K mainGlobals "gcd" = some (some (.builtin "math.gcd")))
    (q_int : PySem.W.nsIn K mainGlobals "int" = some none)
    (q_isinstance : PySem.W.nsIn K mainGlobals "isinstance" = some none)
    (q_lcm : PySem.W.nsIn K mainGlobals "lcm" = some (some (.builtin "math.lcm")))
    (q_len : PySem.W.nsIn K mainGlobals "len" = some none)
    (q_list : PySem.W.nsIn K mainGlobals "list" = some none)
    (q_max : PySem.W.nsIn K mainGlobals "max" = some none)
    (q_range : PySem.W.nsIn K mainGlobals "range" = some none)
    (q_repr : PySem.W.nsIn K mainGlobals "repr" = some none)
    (q_tuple : PySem.W.nsIn K mainGlobals "tuple" = some none) :
    ∃ fd : FuncData, (∀ (s : Shared) (v : Value), BindsTo s fd ⟨[v], []⟩ [("_law_script", v)]) ∧ ∀ base : Heap, K.In base → base.Ns mainGlobals mg → FnG l.prog w K mg base 16 fa fd ["_law_script"] (sp_law K) := by
  have e := hfa.symm.trans (PySem.W.mg_of X G a_law)
  cases e
  have T : { T : Tx K mg // T.a_law = fa ∧ T.d_law = PySem.W.fnOf "law" "law" (defArgs s_law) (defBody s_law) (defScope s_law) .none kV_law dc_law pm_law an_law cd_law ct_law } := ⟨{ a_is_whole := f_is_whole, d_is_whole := _, F_is_whole := fun_mk l_is_whole c_is_whole k_is_whole, g_is_whole := PySem.W.mg_of X G a_is_whole, a_is_fraction := f_is_fraction, d_is_fraction := _, F_is_fraction := fun_mk l_is_fraction c_is_fraction k_is_fraction, g_is_fraction := PySem.W.mg_of X G a_is_fraction, a_lowest := f_lowest, d_lowest := _, F_lowest := fun_mk l_lowest c_lowest k_lowest, g_lowest := PySem.W.mg_of X G a_lowest, a_multiplied := f_multiplied, d_multiplied := _, F_multiplied := fun_mk l_multiplied c_multiplied k_multiplied, g_multiplied := PySem.W.mg_of X G a_multiplied, a_is_fraction_from_nought := f_is_fraction_from_nought, d_is_fraction_from_nought := _, F_is_fraction_from_nought := fun_mk l_is_fraction_from_nought c_is_fraction_from_nought k_is_fraction_from_nought, g_is_fraction_from_nought := PySem.W.mg_of X G a_is_fraction_from_nought, a_is_amount := f_is_amount, d_is_amount := _, F_is_amount := fun_mk l_is_amount c_is_amount k_is_amount, g_is_amount := PySem.W.mg_of X G a_is_amount, a_is_index := f_is_index, d_is_index := _, F_is_index := fun_mk l_is_index c_is_index k_is_index, g_is_index := PySem.W.mg_of X G a_is_index, a_trimmed := f_trimmed, d_trimmed := _, F_trimmed := fun_mk l_trimmed c_trimmed k_trimmed, g_trimmed := PySem.W.mg_of X G a_trimmed, a_blend := f_blend, d_blend := _, F_blend := fun_mk l_blend c_blend k_blend, g_blend := PySem.W.mg_of X G a_blend, a_product_of := f_product_of, d_product_of := _, F_product_of := fun_mk l_product_of c_product_of k_product_of, g_product_of := PySem.W.mg_of X G a_product_of, a_content := f_content, d_content := _, F_content := fun_mk l_content c_content k_content, g_content := PySem.W.mg_of X G a_content, a_shrunk := f_shrunk, d_shrunk := _, F_shrunk := fun_mk l_shrunk c_shrunk k_shrunk, g_shrunk := PySem.W.mg_of X G a_shrunk, a_thinned := f_thinned, d_thinned := _, F_thinned := fun_mk l_thinned c_thinned k_thinned, g_thinned := PySem.W.mg_of X G a_thinned, a_shaft_of := f_shaft_of, d_shaft_of := _, F_shaft_of := fun_mk l_shaft_of c_shaft_of k_shaft_of, g_shaft_of := PySem.W.mg_of X G a_shaft_of, a_pull_of := f_pull_of, d_pull_of := _, F_pull_of := fun_mk l_pull_of c_pull_of k_pull_of, g_pull_of := PySem.W.mg_of X G a_pull_of, a_row_scales := f_row_scales, d_row_scales := _, F_row_scales := fun_mk l_row_scales c_row_scales k_row_scales, g_row_scales := PySem.W.mg_of X G a_row_scales, a_times_scale := f_times_scale, d_times_scale := _, F_times_scale := fun_mk l_times_scale c_times_scale k_times_scale, g_times_scale := PySem.W.mg_of X G a_times_scale, a_free_part := f_free_part, d_free_part := _, F_free_part := fun_mk l_free_part c_free_part k_free_part, g_free_part := PySem.W.mg_of X G a_free_part, a_root_parts := f_root_parts, d_root_parts := _, F_root_parts := fun_mk l_root_parts c_root_parts k_root_parts, g_root_parts := PySem.W.mg_of X G a_root_parts, a_end_of_machine := f_end_of_machine, d_end_of_machine := _, F_end_of_machine := fun_mk l_end_of_machine c_end_of_machine k_end_of_machine, g_end_of_machine := PySem.W.mg_of X G a_end_of_machine, a_is_machine_disc := f_is_machine_disc, d_is_machine_disc := _, F_is_machine_disc := fun_mk l_is_machine_disc c_is_machine_disc k_is_machine_disc, g_is_machine_disc := PySem.W.mg_of X G a_is_machine_disc, a_is_machine := f_is_machine, d_is_machine := _, F_is_machine := fun_mk l_is_machine c_is_machine k_is_machine, g_is_machine := PySem.W.mg_of X G a_is_machine, a_check_machine := f_check_machine, d_check_machine := _, F_check_machine := fun_mk l_check_machine c_check_machine k_check_machine, g_check_machine := PySem.W.mg_of X G a_check_machine, a_ungeared := f_ungeared, d_ungeared := _, F_ungeared := fun_mk l_ungeared c_ungeared k_ungeared, g_ungeared := PySem.W.mg_of X G a_ungeared, a_machine_end := f_machine_end, d_machine_end := _, F_machine_end := fun_mk l_machine_end c_machine_end k_machine_end, g_machine_end := PySem.W.mg_of X G a_machine_end, a__law_spring := f__law_spring, d__law_spring := _, F__law_spring := fun_mk l__law_spring c__law_spring k__law_spring, g__law_spring := PySem.W.mg_of X G a__law_spring, a__law_pull := f__law_pull, d__law_pull := _, F__law_pull := fun_mk l__law_pull c__law_pull k__law_pull, g__law_pull := PySem.W.mg_of X G a__law_pull, a__law_from := f__law_from, d__law_from := _, F__law_from := fun_mk l__law_from c__law_from k__law_from, g__law_from := PySem.W.mg_of X G a__law_from, a__law_common := f__law_common, d__law_common := _, F__law_common := fun_mk l__law_common c__law_common k__law_common, g__law_common := PySem.W.mg_of X G a__law_common, a__law_frac := f__law_frac, d__law_frac := _, F__law_frac := fun_mk l__law_frac c__law_frac k__law_frac, g__law_frac := PySem.W.mg_of X G a__law_frac, a__law_plus := f__law_plus, d__law_plus := _, F__law_plus := fun_mk l__law_plus c__law_plus k__law_plus, g__law_plus := PySem.W.mg_of X G a__law_plus, a__law_by := f__law_by, d__law_by := _, F__law_by := fun_mk l__law_by c__law_by k__law_by, g__law_by := PySem.W.mg_of X G a__law_by, a__law_cut := f__law_cut, d__law_cut := _, F__law_cut := fun_mk l__law_cut c__law_cut k__law_cut, g__law_cut := PySem.W.mg_of X G a__law_cut, a__law_add := f__law_add, d__law_add := _, F__law_add := fun_mk l__law_add c__law_add k__law_add, g__law_add := PySem.W.mg_of X G a__law_add, a__law_mul := f__law_mul, d__law_mul := _, F__law_mul := fun_mk l__law_mul c__law_mul k__law_mul, g__law_mul := PySem.W.mg_of X G a__law_mul, a__law_thin := f__law_thin, d__law_thin := _, F__law_thin := fun_mk l__law_thin c__law_thin k__law_thin, g__law_thin := PySem.W.mg_of X G a__law_thin, a__law_weight := f__law_weight, d__law_weight := _, F__law_weight := fun_mk l__law_weight c__law_weight k__law_weight, g__law_weight := PySem.W.mg_of X G a__law_weight, a__law_stay := f__law_stay, d__law_stay := _, F__law_stay := fun_mk l__law_stay c__law_stay k__law_stay, g__law_stay := PySem.W.mg_of X G a__law_stay, a__law_ratio_of := f__law_ratio_of, d__law_ratio_of := _, F__law_ratio_of := fun_mk l__law_ratio_of c__law_ratio_of k__law_ratio_of, g__law_ratio_of := PySem.W.mg_of X G a__law_ratio_of, a__law_machine := f__law_machine, d__law_machine := _, F__law_machine := fun_mk l__law_machine c__law_machine k__law_machine, g__law_machine := PySem.W.mg_of X G a__law_machine, a__law_out := f__law_out, d__law_out := _, F__law_out := fun_mk l__law_out c__law_out k__law_out, g__law_out := PySem.W.mg_of X G a__law_out, a__law_parts := f__law_parts, d__law_parts := _, F__law_parts := fun_mk l__law_parts c__law_parts k__law_parts, g__law_parts := PySem.W.mg_of X G a__law_parts, a__law_end := f__law_end, d__law_end := _, F__law_end := fun_mk l__law_end c__law_end k__law_end, g__law_end := PySem.W.mg_of X G a__law_end, a__law_turned := f__law_turned, d__law_turned := _, F__law_turned := fun_mk l__law_turned c__law_turned k__law_turned, g__law_turned := PySem.W.mg_of X G a__law_turned, a__law_grown := f__law_grown, d__law_grown := _, F__law_grown := fun_mk l__law_grown c__law_grown k__law_grown, g__law_grown := PySem.W.mg_of X G a__law_grown, a__law_right := f__law_right, d__law_right := _, F__law_right := fun_mk l__law_right c__law_right k__law_right, g__law_right := PySem.W.mg_of X G a__law_right, a_law := fa, d_law := _, F_law := fun_mk l_law c_law k_law, g_law := PySem.W.mg_of X G a_law, t_MOST_DISCS := t_MOST_DISCS, c_MOST_DISCS := PySem.W.mg_of X G q_MOST_DISCS, k_ONE := k_ONE, c_ONE := PySem.W.mg_of X G q_ONE, v_ONE := ct_pair l_ONE, n_abs := PySem.W.mg_none_of X G q_abs, n_all := PySem.W.mg_none_of X G q_all, n_bool := PySem.W.mg_none_of X G q_bool, n_enumerate := PySem.W.mg_none_of X G q_enumerate, l_gcd := PySem.W.mg_of X G q_gcd, n_int := PySem.W.mg_none_of X G q_int, n_isinstance := PySem.W.mg_none_of X G q_isinstance, l_lcm := PySem.W.mg_of X G q_lcm, n_len := PySem.W.mg_none_of X G q_len, n_list := PySem.W.mg_none_of X G q_list, n_max := PySem.W.mg_none_of X G q_max, n_range := PySem.W.mg_none_of X G q_range, n_repr := PySem.W.mg_none_of X G q_repr, n_tuple := PySem.W.mg_none_of X G q_tuple }, rfl, rfl⟩
  obtain ⟨T, e1, e2⟩ := T
  refine ⟨T.d_law, fun s v => by rw [e2]; exact .of_eq rfl, fun base _ _ => ?_⟩
  have := ok_law (P := l.prog) (w := w) (base := base) T
  rw [e1] at this
  exact this
theorem walk {l : PySem.W.OpenLaw} {q : Program} {loose : List Str} {XP : (Str → Option Value) → Heap → Prop} {YP : World → Heap → Prop} {d : DefRec} {K : Params → PySem.W.Frag} (hn : l.most = some 63) (hdf : d.params.defaults = [])
    (hY : ∀ (w : World) (h : Heap), YP w h → (K w.params).In h)
    (F : ∀ (w : World) (mg : Str → Option Value) (fa : Addr) (h : Heap), (K w.params).In h → h.Ns mainGlobals mg → mg d.name = some (.ref fa) →
      ∃ fd : FuncData, (∀ (s : Shared) (u : Value), BindsTo s fd ⟨[u], []⟩ [("_law_script", u)]) ∧ ∀ base : Heap, (K w.params).In base → base.Ns mainGlobals mg → FnG l.prog w (K w.params) mg base 16 fa fd ["_law_script"] (sp_law (K w.params))) :
    PySem.W.WalkO q loose XP YP l.row.toRowW d [] (fun f vs => PySem.call f vs) :=
  DL.walk_ofG (n := 63) (k := 16) (x := "_law_script") (sp := sp_law) hn (by decide) hdf ⟨rfl, by decide, by decide⟩ hY F (fun _ _ a ns hl hS => ⟨a, ns, rfl, hS, hl, fun _ => rfl⟩)
end Law
open PySem PySem.W PyProof.Rows
set_option maxRecDepth 100000 in
set_option maxHeartbeats 0 in
theorem PySem.Challenge.cw_shaftshakes_k74_whole_ends_of_machines_holds : PySem.Challenge.rw_shaftshakes_k74_whole_ends_of_machines.Holds := by
  w_on; o_law; k_head; (case hw => w_witness2)
  k_fill
  refine Law.walk (l := PySem.Challenge.rw_shaftshakes_k74_whole_ends_of_machines) rfl rfl (fun w h Y => PySem.W.kIn_of Y) ?F
  case F =>
    intro w mg fa h KX G hmg
    refine' Law.all_mk KX G hmg ?a_is_whole ?l_is_whole ?c_is_whole ?k_is_whole ?a_is_fraction ?l_is_fraction ?c_is_fraction ?k_is_fraction ?a_lowest ?l_lowest ?c_lowest ?k_lowest ?a_multiplied ?l_multiplied ?c_multiplied ?k_multiplied ?a_is_fraction_from_nought ?l_is_fraction_from_nought ?c_is_fraction_from_nought ?k_is_fraction_from_nought ?a_is_amount ?l_is_amount ?c_is_amount ?k_is_amount ?a_is_index ?l_is_index ?c_is_index ?k_is_index ?a_trimmed ?l_trimmed ?c_trimmed ?k_trimmed ?a_blend ?l_blend ?c_blend ?k_blend ?a_product_of ?l_product_of ?c_product_of ?k_product_of ?a_content ?l_content ?c_content ?k_content ?a_shrunk ?l_shrunk ?c_shrunk ?k_shrunk ?a_thinned ?l_thinned ?c_thinned ?k_thinned ?a_shaft_of ?l_shaft_of ?c_shaft_of ?k_shaft_of ?a_pull_of ?l_pull_of ?c_pull_of ?k_pull_of ?a_row_scales ?l_row_scales ?c_row_scales ?k_row_scales ?a_times_scale ?l_times_scale ?c_times_scale ?k_times_scale ?a_free_part ?l_free_part ?c_free_part ?k_free_part ?a_root_parts ?l_root_parts ?c_root_parts ?k_root_parts ?a_end_of_machine ?l_end_of_machine ?c_end_of_machine ?k_end_of_machine ?a_is_machine_disc ?l_is_machine_disc ?c_is_machine_disc ?k_is_machine_disc ?a_is_machine ?l_is_machine ?c_is_machine ?k_is_machine ?a_check_machine ?l_check_machine ?c_check_machine ?k_check_machine ?a_ungeared ?l_ungeared ?c_ungeared ?k_ungeared ?a_machine_end ?l_machine_end ?c_machine_end ?k_machine_end ?a__law_spring ?l__law_spring ?c__law_spring ?k__law_spring ?a__law_pull ?l__law_pull ?c__law_pull ?k__law_pull ?a__law_from ?l__law_from ?c__law_from ?k__law_from ?a__law_common ?l__law_common ?c__law_common ?k__law_common ?a__law_frac ?l__law_frac ?c__law_frac ?k__law_frac ?a__law_plus ?l__law_plus ?c__law_plus ?k__law_plus ?a__law_by ?l__law_by ?c__law_by ?k__law_by ?a__law_cut ?l__law_cut ?c__law_cut ?k__law_cut ?a__law_add ?l__law_add ?c__law_add ?k__law_add ?a__law_mul ?l__law_mul ?c__law_mul ?k__law_mul ?a__law_thin ?l__law_thin ?c__law_thin ?k__law_thin ?a__law_weight ?l__law_weight ?c__law_weight ?k__law_weight ?a__law_stay ?l__law_stay ?c__law_stay ?k__law_stay ?a__law_ratio_of ?l__law_ratio_of ?c__law_ratio_of ?k__law_ratio_of ?a__law_machine ?l__law_machine ?c__law_machine ?k__law_machine ?a__law_out ?l__law_out ?c__law_out ?k__law_out ?a__law_parts ?l__law_parts ?c__law_parts ?k__law_parts ?a__law_end ?l__law_end ?c__law_end ?k__law_end ?a__law_turned ?l__law_turned ?c__law_turned ?k__law_turned ?a__law_grown ?l__law_grown ?c__law_grown ?k__law_grown ?a__law_right ?l__law_right ?c__law_right ?k__law_right ?a_law ?l_law ?c_law ?k_law ?q_MOST_DISCS ?q_ONE ?l_ONE ?q_abs ?q_all ?q_bool ?q_enumerate ?q_gcd ?q_int ?q_isinstance ?q_lcm ?q_len ?q_list ?q_max ?q_range ?q_repr ?q_tuple
    (case a_is_whole => k_is)
    (case l_is_whole => k_is)
    (case c_is_whole => k_is)
    (case k_is_whole => k_is)
    (case a_is_fraction => k_is)
    (case l_is_fraction => k_is)
    (case c_is_fraction => k_is)
    (case k_is_fraction => k_is)
    (case a_lowest => k_is)
    (case l_lowest => k_is)
    (case c_lowest => k_is)
    (case k_lowest => k_is)
    (case a_multiplied => k_is)
    (case l_multiplied => k_is)
    (case c_multiplied => k_is)
    (case k_multiplied => k_is)
    (case a_is_fraction_from_nought => k_is)
    (case l_is_fraction_from_nought => k_is)
    (case c_is_fraction_from_nought => k_is)
    (case k_is_fraction_from_nought => k_is)
    (case a_is_amount => k_is)
    (case l_is_amount => k_is)
    (case c_is_amount => k_is)
    (case k_is_amount => k_is)
    (case a_is_index => k_is)
    (case l_is_index => k_is)
    (case c_is_index => k_is)
    (case k_is_index => k_is)
    (case a_trimmed => k_is)
    (case l_trimmed => k_is)
    (case c_trimmed => k_is)
    (case k_trimmed => k_is)
    (case a_blend => k_is)
    (case l_blend => k_is)
    (case c_blend => k_is)
    (case k_blend => k_is)
    (case a_product_of => k_is)
    (case l_product_of => k_is)
    (case c_product_of => k_is)
    (case k_product_of => k_is)
    (case a_content => k_is)
    (case l_content => k_is)
    (case c_content => k_is)
    (case k_content => k_is)
    (case a_shrunk => k_is)
    (case l_shrunk => k_is)
    (case c_shrunk => k_is)
    (case k_shrunk => k_is)
    (case a_thinned => k_is)
    (case l_thinned => k_is)
    (case c_thinned => k_is)
    (case k_thinned => k_is)
    (case a_shaft_of => k_is)
    (case l_shaft_of => k_is)
    (case c_shaft_of => k_is)
    (case k_shaft_of => k_is)
    (case a_pull_of => k_is)
    (case l_pull_of => k_is)
    (case c_pull_of => k_is)
    (case k_pull_of => k_is)
    (case a_row_scales => k_is)
    (case l_row_scales => k_is)
    (case c_row_scales => k_is)
    (case k_row_scales => k_is)
    (case a_times_scale => k_is)
    (case l_times_scale => k_is)
    (case c_times_scale => k_is)
    (case k_times_scale => k_is)
    (case a_free_part => k_is)
    (case l_free_part => k_is)
    (case c_free_part => k_is)
    (case k_free_part => k_is)
    (case a_root_parts => k_is)
    (case l_root_parts => k_is)
    (case c_root_parts => k_is)
    (case k_root_parts => k_is)
    (case a_end_of_machine => k_is)
    (case l_end_of_machine => k_is)
    (case c_end_of_machine => k_is)
    (case k_end_of_machine => k_is)
    (case a_is_machine_disc => k_is)
    (case l_is_machine_disc => k_is)
    (case c_is_machine_disc => k_is)
    (case k_is_machine_disc => k_is)
    (case a_is_machine => k_is)
    (case l_is_machine => k_is)
    (case c_is_machine => k_is)
    (case k_is_machine => k_is)
    (case a_check_machine => k_is)
    (case l_check_machine => k_is)
    (case c_check_machine => k_is)
    (case k_check_machine => k_is)
    (case a_ungeared => k_is)
    (case l_ungeared => k_is)
    (case c_ungeared => k_is)
    (case k_ungeared => k_is)
    (case a_machine_end => k_is)
    (case l_machine_end => k_is)
    (case c_machine_end => k_is)
    (case k_machine_end => k_is)
    (case a__law_spring => k_is)
    (case l__law_spring => k_is)
    (case c__law_spring => k_is)
    (case k__law_spring => k_is)
    (case a__law_pull => k_is)
    (case l__law_pull => k_is)
    (case c__law_pull => k_is)
    (case k__law_pull => k_is)
    (case a__law_from => k_is)
    (case l__law_from => k_is)
    (case c__law_from => k_is)
    (case k__law_from => k_is)
    (case a__law_common => k_is)
    (case l__law_common => k_is)
    (case c__law_common => k_is)
    (case k__law_common => k_is)
    (case a__law_frac => k_is)
    (case l__law_frac => k_is)
    (case c__law_frac => k_is)
    (case k__law_frac => k_is)
    (case a__law_plus => k_is)
    (case l__law_plus => k_is)
    (case c__law_plus => k_is)
    (case k__law_plus => k_is)
    (case a__law_by => k_is)
    (case l__law_by => k_is)
    (case c__law_by => k_is)
    (case k__law_by => k_is)
    (case a__law_cut => k_is)
    (case l__law_cut => k_is)
    (case c__law_cut => k_is)
    (case k__law_cut => k_is)
    (case a__law_add => k_is)
    (case l__law_add => k_is)
    (case c__law_add => k_is)
    (case k__law_add => k_is)
    (case a__law_mul => k_is)
    (case l__law_mul => k_is)
    (case c__law_mul => k_is)
    (case k__law_mul => k_is)
    (case a__law_thin => k_is)
    (case l__law_thin => k_is)
    (case c__law_thin => k_is)
    (case k__law_thin => k_is)
    (case a__law_weight => k_is)
    (case l__law_weight => k_is)
    (case c__law_weight => k_is)
    (case k__law_weight => k_is)
    (case a__law_stay => k_is)
    (case l__law_stay => k_is)
    (case c__law_stay => k_is)
    (case k__law_stay => k_is)
    (case a__law_ratio_of => k_is)
    (case l__law_ratio_of => k_is)
    (case c__law_ratio_of => k_is)
    (case k__law_ratio_of => k_is)
    (case a__law_machine => k_is)
    (case l__law_machine => k_is)
    (case c__law_machine => k_is)
    (case k__law_machine => k_is)
    (case a__law_out => k_is)
    (case l__law_out => k_is)
    (case c__law_out => k_is)
    (case k__law_out => k_is)
    (case a__law_parts => k_is)
    (case l__law_parts => k_is)
    (case c__law_parts => k_is)
    (case k__law_parts => k_is)
    (case a__law_end => k_is)
    (case l__law_end => k_is)
    (case c__law_end => k_is)
    (case k__law_end => k_is)
    (case a__law_turned => k_is)
    (case l__law_turned => k_is)
    (case c__law_turned => k_is)
    (case k__law_turned => k_is)
    (case a__law_grown => k_is)
    (case l__law_grown => k_is)
    (case c__law_grown => k_is)
    (case k__law_grown => k_is)
    (case a__law_right => k_is)
    (case l__law_right => k_is)
    (case c__law_right => k_is)
    (case k__law_right => k_is)
    (case a_law => k_is)
    (case l_law => k_is)
    (case c_law => k_is)
    (case k_law => k_is)
    (case q_MOST_DISCS => k_is)
    (case q_ONE => k_is)
    (case l_ONE => k_is)
    (case q_abs => k_is)
    (case q_all => k_is)
    (case q_bool => k_is)
    (case q_enumerate => k_is)
    (case q_gcd => k_is)
    (case q_int => k_is)
    (case q_isinstance => k_is)
    (case q_lcm => k_is)
    (case q_len => k_is)
    (case q_list => k_is)
    (case q_max => k_is)
    (case q_range => k_is)
    (case q_repr => k_is)
    (case q_tuple => k_is)
