import PyProof.Rows.All
import Wide.All
import OpenK.AllK
import Wide.FinOn
import HandS.ForMost
import HandS.IsInst
import HandS.Walk
import HandS.Strs
import HandS.SortInts
import HandS.Zip
import HandS.RevRange
import HandS.TupAny
import HandS.Wide
import HandS.Conv
import HandS.Rev
import HandS.Style
import HandS.Deep
import PyProof.TypeEq
import PyProof.TypeOfCall
import PyProof.InstEq
import PyProof.NeKinds
import HandS.Set
import HandS.SetFor
import HandS.TupSets
import PyProof.MeetsSeq2
import KE.GoesSet
import HandS.More
import HandS.EndBits
import PySem.Challenge.RW_holepairs_k01_pieces_and_heaps
set_option Elab.async false
set_option linter.all false
set_option maxRecDepth 100000
set_option maxHeartbeats 4000000
/-! data in heaps, and what expressions and statements make of data -/
namespace PD
open PySem PySem.Spec PyProof.Rows L2

abbrev Fr := PySem.W.Frag

theorem rd_mono {H H' : Hp} {a : Addr} {u : HO} (e : Same H H') (h : Rd H a u) : Rd H' a u := by
  rcases h with h | ⟨o, h⟩
  · exact .inl (e _ _ h)
  · exact .inr ⟨o, e _ _ h⟩
mutual
/-- data at any depth, all of it tracked -/
inductive Dq (H : Hp) : V → PyData → Prop
  | non : Dq H .non .none
  | bl (b : Bool) : Dq H (.bl b) (.bool b)
  | int (i : Int) : Dq H (.int i) (.int i)
  | str (x : Str) : Dq H (.str x) (.str x)
  | lst {a : Addr} {xs : List V} {ds : List PyData} : Rd H a (.lst xs) → DqAll H xs ds → Dq H (.ref a) (.list ds)
  | tup {a : Addr} {xs : List V} {ds : List PyData} : Rd H a (.tup xs) → DqAll H xs ds → Dq H (.ref a) (.tuple ds)
inductive DqAll (H : Hp) : List V → List PyData → Prop
  | nil : DqAll H [] []
  | cons {v : V} {vs : List V} {d : PyData} {ds : List PyData} : Dq H v d → DqAll H vs ds → DqAll H (v :: vs) (d :: ds)
end
theorem sql_of {K : Fr} {H : Hp} {a : Addr} {xs : List V} (h : Rd H a (.lst xs)) : SqL K H a xs := .inl h
theorem sqt_of {K : Fr} {H : Hp} {a : Addr} {xs : List V} (h : Rd H a (.tup xs)) : SqT K H a xs := .inl h
mutual
theorem dq_dp {K : Fr} {H : Hp} : ∀ (d : PyData) {v : V}, Dq H v d → Dp K H v d
  | .none, _, h => by cases h; exact .non
  | .bool b, _, h => by cases h; exact .bl b
  | .int i, _, h => by cases h; exact .int i
  | .str x, _, h => by cases h; exact .str x
  | .list ds, _, h => by
    cases h with
    | lst s a => exact .lst (.inl s) (dqAll_dp ds a)
  | .tuple ds, _, h => by
    cases h with
    | tup s a => exact .tup (.inl s) (dqAll_dp ds a)
  | .dict _, _, h => by cases h
theorem dqAll_dp {K : Fr} {H : Hp} : ∀ (ds : List PyData) {vs : List V}, DqAll H vs ds → DpAll K H vs ds
  | [], _, h => by cases h; exact .nil
  | d :: ds, _, h => by
    cases h with
    | cons h1 h2 => exact .cons (dq_dp d h1) (dqAll_dp ds h2)
end
mutual
theorem dp_mono {H H' : Hp} (e : Same H H') : ∀ (d : PyData) {v : V}, Dq H v d → Dq H' v d
  | .none, _, h => by cases h; exact .non
  | .bool b, _, h => by cases h; exact .bl b
  | .int i, _, h => by cases h; exact .int i
  | .str x, _, h => by cases h; exact .str x
  | .list ds, _, h => by
    cases h with
    | lst s a => exact .lst (rd_mono e s) (dpAll_mono e ds a)
  | .tuple ds, _, h => by
    cases h with
    | tup s a => exact .tup (rd_mono e s) (dpAll_mono e ds a)
  | .dict _, _, h => by cases h
theorem dpAll_mono {H H' : Hp} (e : Same H H') : ∀ (ds : List PyData) {vs : List V}, DqAll H vs ds → DqAll H' vs ds
  | [], _, h => by cases h; exact .nil
  | d :: ds, _, h => by
    cases h with
    | cons h1 h2 => exact .cons (dp_mono e d h1) (dpAll_mono e ds h2)
end

section
variable {H : Hp} {v : V}
theorem dp_int {i : Int} (h : Dq H v (.int i)) : v = .int i := by cases h; rfl
theorem dp_bl {b : Bool} (h : Dq H v (.bool b)) : v = .bl b := by cases h; rfl
theorem dp_str {x : Str} (h : Dq H v (.str x)) : v = .str x := by cases h; rfl
theorem dp_non (h : Dq H v .none) : v = .non := by cases h; rfl
theorem dp_lst {ds : List PyData} (h : Dq H v (.list ds)) : ∃ a xs, v = .ref a ∧ Rd H a (.lst xs) ∧ DqAll H xs ds := by
  cases h with
  | lst s a => exact ⟨_, _, rfl, s, a⟩
theorem dp_tup {ds : List PyData} (h : Dq H v (.tuple ds)) : ∃ a xs, v = .ref a ∧ Rd H a (.tup xs) ∧ DqAll H xs ds := by
  cases h with
  | tup s a => exact ⟨_, _, rfl, s, a⟩
theorem dpa_len : ∀ {vs : List V} {ds : List PyData}, DqAll H vs ds → vs.length = ds.length
  | _, _, .nil => rfl
  | _, _, .cons _ t => congrArg (· + 1) (dpa_len t)
theorem dpa_app : ∀ {vs ws : List V} {ds es : List PyData}, DqAll H vs ds → DqAll H ws es → DqAll H (vs ++ ws) (ds ++ es)
  | _, _, _, _, .nil, h => h
  | _, _, _, _, .cons a t, h => .cons a (dpa_app t h)
theorem dpa_take : ∀ (n : Nat) {vs : List V} {ds : List PyData}, DqAll H vs ds → DqAll H (vs.take n) (ds.take n)
  | 0, _, _, _ => .nil
  | _ + 1, _, _, .nil => .nil
  | n + 1, _, _, .cons a t => .cons a (dpa_take n t)
theorem dpa_drop : ∀ (n : Nat) {vs : List V} {ds : List PyData}, DqAll H vs ds → DqAll H (vs.drop n) (ds.drop n)
  | 0, _, _, h => h
  | _ + 1, _, _, .nil => .nil
  | n + 1, _, _, .cons a t => dpa_drop n t
theorem dpa_rev : ∀ {vs : List V} {ds : List PyData}, DqAll H vs ds → DqAll H vs.reverse ds.reverse
  | _, _, .nil => .nil
  | _, _, .cons a t => by
    rw [List.reverse_cons, List.reverse_cons]
    exact dpa_app (dpa_rev t) (.cons a .nil)
theorem dpa_get : ∀ {vs : List V} {ds : List PyData} {i : Nat} {x : V}, DqAll H vs ds → vs[i]? = some x → ∃ d, ds[i]? = some d ∧ Dq H x d
  | _, _, 0, _, .cons a t, h => by
    have e := Option.some.inj h
    subst e
    exact ⟨_, rfl, a⟩
  | _, _, i + 1, _, .cons a t, h => dpa_get (i := i) t h
theorem dpa_at : ∀ {vs : List V} {ds : List PyData} {i : Nat} {d : PyData}, DqAll H vs ds → ds[i]? = some d → ∃ x, vs[i]? = some x ∧ Dq H x d
  | _, _, 0, _, .cons a t, h => by
    have e := Option.some.inj h
    subst e
    exact ⟨_, rfl, a⟩
  | _, _, i + 1, _, .cons a t, h => dpa_at (i := i) t h
theorem dpa_ints : ∀ {vs : List V} {ns : List Int}, DqAll H vs (ns.map PyData.int) → vs = ns.map V.int
  | _, [], .nil => rfl
  | _, n :: ns, .cons a t => by
    rw [dp_int a, dpa_ints t]
    rfl
theorem dpa_of_ints : ∀ (ns : List Int), DqAll H (ns.map V.int) (ns.map PyData.int)
  | [] => .nil
  | n :: ns => .cons (.int n) (dpa_of_ints ns)
theorem dpa_bls : ∀ {vs : List V} {bs : List Bool}, DqAll H vs (bs.map PyData.bool) → vs = bs.map V.bl
  | _, [], .nil => rfl
  | _, n :: ns, .cons a t => by
    rw [dp_bl a, dpa_bls t]
    rfl
end

/-! ### values by content -/
inductive W where
  | d (x : PyData)
  | ty (n : String)
  | dI (kvs : List (Int × PyData))
  | dT (kvs : List (List Int × PyData))

def Rw (K : Fr) (B : Hp) (v : V) : W → Prop
  | .d x => Dq B v x
  | .ty n => v = .ty n
  | .dI kvs => ∃ a vs, v = .ref a ∧ Rd B a (.dK vs) ∧ vs.map (·.1) = kvs.map (fun p => Sum.inl p.1) ∧ DqAll B (vs.map (·.2)) (kvs.map (·.2))
  | .dT kvs => ∃ a vs, v = .ref a ∧ Rd B a (.dT vs) ∧ vs.map (·.1) = kvs.map (fun p => p.1.map Sum.inl) ∧ DqAll B (vs.map (·.2)) (kvs.map (·.2))
theorem rw_mono {K : Fr} {B B' : Hp} (e : Same B B') {v : V} : ∀ {w : W}, Rw K B v w → Rw K B' v w
  | .d x, h => dp_mono e x h
  | .ty _, h => h
  | .dI _, ⟨a, vs, h1, h2, h3, h4⟩ => ⟨a, vs, h1, rd_mono e h2, h3, dpAll_mono e _ h4⟩
  | .dT _, ⟨a, vs, h1, h2, h3, h4⟩ => ⟨a, vs, h1, rd_mono e h2, h3, dpAll_mono e _ h4⟩
inductive RwAll (K : Fr) (B : Hp) : List V → List W → Prop
  | nil : RwAll K B [] []
  | cons {v : V} {vs : List V} {w : W} {ws : List W} : Rw K B v w → RwAll K B vs ws → RwAll K B (v :: vs) (w :: ws)
theorem rwa_mono {K : Fr} {B B' : Hp} (e : Same B B') : ∀ {vs : List V} {ws : List W}, RwAll K B vs ws → RwAll K B' vs ws
  | _, _, .nil => .nil
  | _, _, .cons a t => .cons (rw_mono e a) (rwa_mono e t)
theorem rwa_len {K : Fr} {B : Hp} : ∀ {vs : List V} {ws : List W}, RwAll K B vs ws → vs.length = ws.length
  | _, _, .nil => rfl
  | _, _, .cons _ t => congrArg (· + 1) (rwa_len t)
/-- data only -/
theorem rwa_d {K : Fr} {B : Hp} : ∀ {vs : List V} {ds : List PyData}, RwAll K B vs (ds.map W.d) → DqAll B vs ds
  | _, [], .nil => .nil
  | _, _ :: _, .cons a t => .cons a (rwa_d t)

/-! ### the still part B of the heap H grows -/
structure Grow (B H B' H' : Hp) : Prop where
  b : Same B B'
  h : Same H H'
  s : Same B' H'
  n : ∀ p o, B' p = some o → B p = none → H p = none
theorem Grow.refl {B H : Hp} (s : Same B H) : Grow B H B H := ⟨Same.refl _, Same.refl _, s, fun p o h h' => by rw [h] at h'; cases h'⟩
theorem Grow.trans {B H B1 H1 B2 H2 : Hp} (a : Grow B H B1 H1) (c : Grow B1 H1 B2 H2) : Grow B H B2 H2 :=
  ⟨a.b.trans c.b, a.h.trans c.h, c.s, fun p o h h' => by
    cases e : B1 p with
    | none => exact a.h.free (c.n p o h e)
    | some u => exact a.n p u e h'⟩
/-- a new object that stays as it is -/
theorem Grow.new {B H : Hp} (s : Same B H) {p : Addr} {o : HO} (h : H p = none) : Grow B H (upd B p o) (upd H p o) := by
  have hb : B p = none := s.free h
  refine ⟨fun a u e => by rw [upd_ne (ne_of_none e hb)]; exact e, fun a u e => by rw [upd_ne (ne_of_none e h)]; exact e, fun a u e => ?_, fun q u e e' => ?_⟩
  · by_cases z : a = p
    · subst z
      rw [upd_same] at e ⊢
      exact e
    · rw [upd_ne z] at e ⊢
      exact s a u e
  · by_cases z : q = p
    · rw [z]; exact h
    · rw [upd_ne z, e'] at e
      cases e
/-- a new object that stays out of B -/
theorem Grow.own {B H : Hp} (s : Same B H) {p : Addr} {o : HO} (h : H p = none) : Grow B H B (upd H p o) :=
  ⟨Same.refl _, fun a u e => by rw [upd_ne (ne_of_none e h)]; exact e, fun a u e => by rw [upd_ne (ne_of_none (s _ _ e) h)]; exact s _ _ e, fun q u e e' => by rw [e] at e'; cases e'⟩
/-- an object of H's own comes to B -/
theorem Grow.still {B0 H0 B H : Hp} (g : Grow B0 H0 B H) {p : Addr} {o : HO} (h : H p = some o) (h0 : H0 p = none) (hb : B p = none) : Grow B0 H0 (upd B p o) H := by
  have hb0 : B0 p = none := g.b.free hb
  refine ⟨fun a u e => by rw [upd_ne (ne_of_none e hb0)]; exact g.b a u e, g.h, fun a u e => ?_, fun q u e e' => ?_⟩
  · by_cases z : a = p
    · subst z
      rw [upd_same] at e
      rw [h]; exact e
    · rw [upd_ne z] at e
      exact g.s a u e
  · by_cases z : q = p
    · rw [z]; exact h0
    · rw [upd_ne z] at e
      exact g.n q u e e'
/-- an object of one's own is changed -/
theorem Grow.put {B0 H0 B H : Hp} (g : Grow B0 H0 B H) {p : Addr} {o : HO} (h0 : H0 p = none) (hb : B p = none) : Grow B0 H0 B (upd H p o) :=
  ⟨g.b, fun a u e => by rw [upd_ne (ne_of_none e h0)]; exact g.h a u e, fun a u e => by rw [upd_ne (ne_of_none e hb)]; exact g.s a u e, g.n⟩

/-! ### the slots of a frame -/
inductive Sl where
  | no
  | w (x : W)
  | ow (xs : List PyData)
  | oI (kvs : List (Int × PyData))
  | oT (kvs : List (List Int × PyData))
abbrev Ro := List Sl
def Sl.own : Sl → Bool
  | .ow _ => true
  | .oI _ => true
  | .oT _ => true
  | _ => false
/-- what stands at an own address -/
def OwnAt (K : Fr) (B : Hp) : Sl → HO → Prop
  | .ow xs, o => ∃ vs, o = .lst vs ∧ DqAll B vs xs
  | .oI kvs, o => ∃ vs, o = .dK vs ∧ vs.map (·.1) = kvs.map (fun p => Sum.inl p.1) ∧ DqAll B (vs.map (·.2)) (kvs.map (·.2))
  | .oT kvs, o => ∃ vs, o = .dT vs ∧ vs.map (·.1) = kvs.map (fun p => p.1.map Sum.inl) ∧ DqAll B (vs.map (·.2)) (kvs.map (·.2))
  | _, _ => False
theorem own_mono {K : Fr} {B B' : Hp} (e : Same B B') {o : HO} : ∀ {sl : Sl}, OwnAt K B sl o → OwnAt K B' sl o
  | .ow _, ⟨vs, h, t⟩ => ⟨vs, h, dpAll_mono e _ t⟩
  | .oI _, ⟨vs, h, h2, t⟩ => ⟨vs, h, h2, dpAll_mono e _ t⟩
  | .oT _, ⟨vs, h, h2, t⟩ => ⟨vs, h, h2, dpAll_mono e _ t⟩
structure Slots (K : Fr) (H0 B H : Hp) (σ : L2.St) (ρ : Ro) : Prop where
  len : σ.length = ρ.length
  wat : ∀ (i : Nat) (w : W), ρ[i]? = some (Sl.w w) → ∃ v, σ[i]? = some (some v) ∧ Rw K B v w
  oat : ∀ (i : Nat) (s : Sl), ρ[i]? = some s → s.own = true → ∃ (p : Addr) (o : HO), σ[i]? = some (some (V.ref p)) ∧ H0 p = none ∧ B p = none ∧ H p = some o ∧ OwnAt K B s o
  apart : ∀ (i j : Nat) (s t : Sl) (p : Addr), ρ[i]? = some s → ρ[j]? = some t → s.own = true → t.own = true → σ[i]? = some (some (V.ref p)) → σ[j]? = some (some (V.ref p)) → i = j
section
variable {K : Fr} {H0 B H B' H' : Hp} {σ : L2.St} {ρ : Ro}
theorem Slots.mono (S : Slots K H0 B H σ ρ) (s : Same B H) (g : Grow B H B' H') : Slots K H0 B' H' σ ρ := by
  refine ⟨S.len, fun i w h => ?_, fun i sl h o => ?_, S.apart⟩
  · obtain ⟨v, h1, h2⟩ := S.wat i w h
    exact ⟨v, h1, rw_mono g.b h2⟩
  · obtain ⟨p, u, h1, h2, h3, h4, h5⟩ := S.oat i sl h o
    refine ⟨p, u, h1, h2, ?_, g.h p u h4, own_mono g.b h5⟩
    cases e : B' p with
    | none => rfl
    | some q =>
      have z := g.n p q e h3
      rw [z] at h4
      cases h4
/-- a slot is given a value by content -/
theorem Slots.setW (S : Slots K H0 B H σ ρ) {i : Nat} {v : V} {w : W} (h : Rw K B v w) : Slots K H0 B H (σ.set i (some v)) (ρ.set i (.w w)) := by
  refine ⟨by rw [List.length_set, List.length_set]; exact S.len, fun j x hj => ?_, fun j s hj ho => ?_, fun j k s t p hj hk hs ht h1 h2 => ?_⟩
  · by_cases e : i = j
    · subst e
      have hl : i < ρ.length := by
        have := (List.getElem?_eq_some_iff.mp hj).1
        rwa [List.length_set] at this
      rw [List.getElem?_set_self hl] at hj
      cases hj
      exact ⟨v, List.getElem?_set_self (by rw [S.len]; exact hl), h⟩
    · rw [List.getElem?_set_ne e] at hj ⊢
      exact S.wat j x hj
  · by_cases e : i = j
    · subst e
      have hl : i < ρ.length := by
        have := (List.getElem?_eq_some_iff.mp hj).1
        rwa [List.length_set] at this
      rw [List.getElem?_set_self hl] at hj
      cases hj
      cases ho
    · rw [List.getElem?_set_ne e] at hj ⊢
      exact S.oat j s hj ho
  · have nj : i ≠ j := fun e => by
      subst e
      have hl : i < ρ.length := by
        have := (List.getElem?_eq_some_iff.mp hj).1
        rwa [List.length_set] at this
      rw [List.getElem?_set_self hl] at hj
      cases hj
      cases hs
    have nk : i ≠ k := fun e => by
      subst e
      have hl : i < ρ.length := by
        have := (List.getElem?_eq_some_iff.mp hk).1
        rwa [List.length_set] at this
      rw [List.getElem?_set_self hl] at hk
      cases hk
      cases ht
    rw [List.getElem?_set_ne nj] at hj h1
    rw [List.getElem?_set_ne nk] at hk h2
    exact S.apart j k s t p hj hk hs ht h1 h2
/-- a slot is given an object of one's own, that no other slot has -/
theorem Slots.setO (S : Slots K H0 B H σ ρ) {i : Nat} {p : Addr} {o : HO} {s : Sl} (hs : s.own = true) (h0 : H0 p = none) (hb : B p = none) (hp : H p = some o) (ho : OwnAt K B s o)
    (hn : ∀ (j : Nat) (t : Sl), i ≠ j → ρ[j]? = some t → t.own = true → σ[j]? ≠ some (some (V.ref p))) : Slots K H0 B H (σ.set i (some (.ref p))) (ρ.set i s) := by
  refine ⟨by rw [List.length_set, List.length_set]; exact S.len, fun j x hj => ?_, fun j t hj hto => ?_, fun j k t u q hj hk ht hu h1 h2 => ?_⟩
  · by_cases e : i = j
    · subst e
      have hl : i < ρ.length := by
        have := (List.getElem?_eq_some_iff.mp hj).1
        rwa [List.length_set] at this
      rw [List.getElem?_set_self hl] at hj
      cases hj
      cases hs
    · rw [List.getElem?_set_ne e] at hj ⊢
      exact S.wat j x hj
  · by_cases e : i = j
    · subst e
      have hl : i < ρ.length := by
        have := (List.getElem?_eq_some_iff.mp hj).1
        rwa [List.length_set] at this
      rw [List.getElem?_set_self hl] at hj
      cases hj
      exact ⟨p, o, List.getElem?_set_self (by rw [S.len]; exact hl), h0, hb, hp, ho⟩
    · rw [List.getElem?_set_ne e] at hj ⊢
      exact S.oat j t hj hto
  · by_cases ej : i = j
    · by_cases ek : i = k
      · rw [← ej, ← ek]
      · subst ej
        exfalso
        have hl : i < σ.length := by
          have := (List.getElem?_eq_some_iff.mp h1).1
          rwa [List.length_set] at this
        rw [List.getElem?_set_self hl] at h1
        cases h1
        rw [List.getElem?_set_ne ek] at hk h2
        exact hn k u ek hk hu h2
    · by_cases ek : i = k
      · subst ek
        exfalso
        have hl : i < σ.length := by
          have := (List.getElem?_eq_some_iff.mp h2).1
          rwa [List.length_set] at this
        rw [List.getElem?_set_self hl] at h2
        cases h2
        rw [List.getElem?_set_ne ej] at hj h1
        exact hn j t ej hj ht h1
      · rw [List.getElem?_set_ne ej] at hj h1
        rw [List.getElem?_set_ne ek] at hk h2
        exact S.apart j k t u q hj hk ht hu h1 h2
/-- the own object in slot i is changed -/
theorem Slots.put (S : Slots K H0 B H σ ρ) {i : Nat} {p : Addr} {o : HO} {s s' : Sl} (hi : ρ[i]? = some s) (hs : s.own = true) (hs' : s'.own = true) (hv : σ[i]? = some (some (V.ref p))) (ho : OwnAt K B s' o) :
    Slots K H0 B (upd H p o) σ (ρ.set i s') := by
  have hl : i < ρ.length := (List.getElem?_eq_some_iff.mp hi).1
  refine ⟨by rw [List.length_set]; exact S.len, fun j x hj => ?_, fun j t hj hto => ?_, fun j k t u q hj hk ht hu h1 h2 => ?_⟩
  · by_cases e : i = j
    · subst e
      rw [List.getElem?_set_self hl] at hj
      cases hj
      cases hs'
    · rw [List.getElem?_set_ne e] at hj
      exact S.wat j x hj
  · obtain ⟨p1, o1, g1, g2, g3, g4, g5⟩ := S.oat i s hi hs
    rw [hv] at g1
    cases g1
    by_cases e : i = j
    · subst e
      rw [List.getElem?_set_self hl] at hj
      cases hj
      exact ⟨p, o, hv, g2, g3, upd_same, ho⟩
    · rw [List.getElem?_set_ne e] at hj
      obtain ⟨q, u, f1, f2, f3, f4, f5⟩ := S.oat j t hj hto
      refine ⟨q, u, f1, f2, f3, ?_, f5⟩
      rw [upd_ne (show q ≠ p from fun z => e (S.apart i j s t p hi hj hs hto hv (by rw [← z]; exact f1)))]
      exact f4
  · have r : ∀ (m : Nat) (t : Sl), (ρ.set i s')[m]? = some t → t.own = true → ∃ t', ρ[m]? = some t' ∧ t'.own = true := fun m t hm ht => by
      by_cases e : i = m
      · subst e
        exact ⟨s, hi, hs⟩
      · rw [List.getElem?_set_ne e] at hm
        exact ⟨t, hm, ht⟩
    obtain ⟨t', a1, a2⟩ := r j t hj ht
    obtain ⟨u', b1, b2⟩ := r k u hk hu
    exact S.apart j k t' u' q a1 b1 a2 b2 h1 h2
/-- a slot is forgotten -/
theorem Slots.forget (S : Slots K H0 B H σ ρ) (i : Nat) (x : Option V) : Slots K H0 B H (σ.set i x) (ρ.set i .no) := by
  refine ⟨by rw [List.length_set, List.length_set]; exact S.len, fun j y hj => ?_, fun j t hj hto => ?_, fun j k t u q hj hk ht hu h1 h2 => ?_⟩
  · by_cases e : i = j
    · subst e
      have hl : i < ρ.length := by
        have := (List.getElem?_eq_some_iff.mp hj).1
        rwa [List.length_set] at this
      rw [List.getElem?_set_self hl] at hj
      cases hj
    · rw [List.getElem?_set_ne e] at hj ⊢
      exact S.wat j y hj
  · by_cases e : i = j
    · subst e
      have hl : i < ρ.length := by
        have := (List.getElem?_eq_some_iff.mp hj).1
        rwa [List.length_set] at this
      rw [List.getElem?_set_self hl] at hj
      cases hj
      cases hto
    · rw [List.getElem?_set_ne e] at hj ⊢
      exact S.oat j t hj hto
  · have n : ∀ (m : Nat) (t : Sl), (ρ.set i .no)[m]? = some t → t.own = true → i ≠ m := fun m t hm ht e => by
      subst e
      have hl : i < ρ.length := by
        have := (List.getElem?_eq_some_iff.mp hm).1
        rwa [List.length_set] at this
      rw [List.getElem?_set_self hl] at hm
      cases hm
      cases ht
    have nj := n j t hj ht
    have nk := n k u hk hu
    rw [List.getElem?_set_ne nj] at hj h1
    rw [List.getElem?_set_ne nk] at hk h2
    exact S.apart j k t u q hj hk ht hu h1 h2
def wipeR (ρ : Ro) : List Nat → Ro
  | [] => ρ
  | v :: vs => (wipeR ρ vs).set v .no
theorem Slots.wipe (S : Slots K H0 B H σ ρ) : ∀ vs : List Nat, Slots K H0 B H (L2.wipe σ vs) (wipeR ρ vs)
  | [] => S
  | v :: vs => (Slots.wipe S vs).forget v none
end
end PD

/-! expressions, tests, statements by content -/
namespace PD
open PySem PySem.Spec PyProof.Rows L2

section
variable (K : Fr)
def tD (f : Ro → Option W) : TE := fun σ H Q => ∃ H0 B ρ w, Same B H ∧ Slots K H0 B H σ ρ ∧ f ρ = some w ∧ ∀ v B' H', Grow B H B' H' → Rw K B' v w → Q v H'
/-- a new list, out of B -/
def tN (f : Ro → Option (List PyData)) : TE := fun σ H Q => ∃ H0 B ρ xs, Same B H ∧ Slots K H0 B H σ ρ ∧ f ρ = some xs ∧
  ∀ p vs B' H', Grow B H B' H' → H p = none → B' p = none → H' p = some (.lst vs) → DqAll B' vs xs → Q (.ref p) H'
def tT (f : Ro → Option Bool) : TT := fun σ H Q => ∃ H0 B ρ b, Same B H ∧ Slots K H0 B H σ ρ ∧ f ρ = some b ∧ ∀ B' H', Grow B H B' H' → Q b H'
def tAs (f : Ro → Option (List W)) : TA := fun σ H Q => ∃ H0 B ρ ws, Same B H ∧ Slots K H0 B H σ ρ ∧ f ρ = some ws ∧ ∀ vs B' H', Grow B H B' H' → RwAll K B' vs ws → Q vs H'
end
abbrev PD (X : Cx) (e : Expr) (f : Ro → Option W) : Prop := PE X e (tD X.K f)
abbrev PN (X : Cx) (e : Expr) (f : Ro → Option (List PyData)) : Prop := PE X e (tN X.K f)
abbrev PB (X : Cx) (e : Expr) (f : Ro → Option Bool) : Prop := PT X e (tT X.K f)
abbrev PL (X : Cx) (es : List Expr) (f : Ro → Option (List W)) : Prop := PA X es (tAs X.K f)

section
variable {X : Cx}
theorem pe_imp {e : Expr} {t t' : TE} (h : PE X e t) (i : ∀ σ H Q, t' σ H Q → t σ H Q) : PE X e t' := ⟨fun pins s σ H Q I q => h.run pins s σ H Q I (i σ H Q q)⟩
theorem pt_imp {e : Expr} {t t' : TT} (h : PT X e t) (i : ∀ σ H Q, t' σ H Q → t σ H Q) : PT X e t' := ⟨fun pins s σ H Q I q => h.run pins s σ H Q I (i σ H Q q)⟩
theorem pw_imp {e : Expr} {t t' : TT} (h : PW X e t) (i : ∀ σ H Q, t' σ H Q → t σ H Q) : PW X e t' := ⟨fun wh pins s σ H Q I q => h.run wh pins s σ H Q I (i σ H Q q)⟩
theorem pa_imp {es : List Expr} {t t' : TA} (h : PA X es t) (i : ∀ σ H Q, t' σ H Q → t σ H Q) : PA X es t' := ⟨fun pos pins s σ H Q I q => h.run pos pins s σ H Q I (i σ H Q q)⟩
theorem ps_imp {st : Stmt} {t t' : TS} (h : PS X st t) (i : ∀ D σ H, t' D σ H → t D σ H) : PS X st t' := ⟨fun pins s σ H D I q => h.run pins s σ H D I (i D σ H q)⟩
theorem pss_imp {st : List Stmt} {t t' : TS} (h : PSs X st t) (i : ∀ D σ H, t' D σ H → t D σ H) : PSs X st t' := ⟨fun pins s σ H D I q => h.run pins s σ H D I (i D σ H q)⟩
end

/-! ### operations by content -/
/-- what r asks of two values follows from their contents -/
def Giv2 (K : Fr) (r : R2) (g : W → W → Option W) : Prop := ∀ (B H : Hp) (x y : V) (a b w : W) (Q : VK), Same B H → Rw K B x a → Rw K B y b → g a b = some w →
  (∀ v B' H', Grow B H B' H' → Rw K B' v w → Q v H') → r x y H Q
def GivU (K : Fr) (r : V → Hp → VK → Prop) (g : W → Option W) : Prop := ∀ (B H : Hp) (x : V) (a w : W) (Q : VK), Same B H → Rw K B x a → g a = some w →
  (∀ v B' H', Grow B H B' H' → Rw K B' v w → Q v H') → r x H Q
def GivC (K : Fr) (r : List V → Hp → VK → Prop) (g : List W → Option W) : Prop := ∀ (B H : Hp) (xs : List V) (ws : List W) (w : W) (Q : VK), Same B H → RwAll K B xs ws → g ws = some w →
  (∀ v B' H', Grow B H B' H' → Rw K B' v w → Q v H') → r xs H Q
/-- .. a new list -/
def GivN (K : Fr) (r : List V → Hp → VK → Prop) (g : List W → Option (List PyData)) : Prop := ∀ (B H : Hp) (xs : List V) (ws : List W) (ys : List PyData) (Q : VK), Same B H → RwAll K B xs ws → g ws = some ys →
  (∀ p vs B' H', Grow B H B' H' → H p = none → B' p = none → H' p = some (.lst vs) → DqAll B' vs ys → Q (.ref p) H') → r xs H Q
def f1 (g : W → Option W) (fa : Ro → Option W) : Ro → Option W := fun ρ => (fa ρ).bind g
def f2 (g : W → W → Option W) (fa fb : Ro → Option W) : Ro → Option W := fun ρ => (fa ρ).bind fun a => (fb ρ).bind fun b => g a b

section
variable {X : Cx} {K : Fr} {σ : L2.St} {H : Hp} {a b c e : Expr} {es : List Expr} {fa fb fc : Ro → Option W} {pos : Pos}

theorem td_bin {r : R2} {g : W → W → Option W} (hg : Giv2 K r g) {Q : VK} (h : tD K (f2 g fa fb) σ H Q) : tOp r (tD K fa) (tD K fb) σ H Q := by
  obtain ⟨H0, B, ρ, w, s, S, e, q⟩ := h
  unfold f2 at e
  cases ea : fa ρ with
  | none => rw [ea] at e; cases e
  | some x =>
    rw [ea] at e
    cases eb : fb ρ with
    | none => rw [eb] at e; cases e
    | some y =>
      rw [eb] at e
      refine ⟨H0, B, ρ, x, s, S, ea, fun v1 B1 H1 g1 r1 => ⟨H0, B1, ρ, y, g1.s, S.mono s g1, eb, fun v2 B2 H2 g2 r2 => ?_⟩⟩
      exact hg B2 H2 v1 v2 x y w Q g2.s (rw_mono g2.b r1) r2 e fun v B' H' g' r' => q v B' H' ((g1.trans g2).trans g') r'
theorem pd_bin {op : Operator} {r : R2} {g : W → W → Option W} (ho : OpR X (binaryOp op) r) (hg : Giv2 X.K r g) (ha : PD X a fa) (hb : PD X b fb) : PD X (.BinOp a op b pos) (f2 g fa fb) :=
  pe_imp (pe_op ho ha hb) fun _ _ _ h => td_bin hg h
theorem pd_un {op : UnaryOp} {r : V → Hp → VK → Prop} {g : W → Option W} (ho : UnR X (unaryOp op) r) (hg : GivU X.K r g) (ha : PD X a fa) : PD X (.UnaryOp op a pos) (f1 g fa) :=
  pe_imp (pe_un ho ha) fun σ H Q h => by
    obtain ⟨H0, B, ρ, w, s, S, e, q⟩ := h
    unfold f1 at e
    cases ea : fa ρ with
    | none => rw [ea] at e; cases e
    | some x =>
      rw [ea] at e
      exact ⟨H0, B, ρ, x, s, S, ea, fun v1 B1 H1 g1 r1 => hg B1 H1 v1 x w Q g1.s r1 e fun v B' H' g' r' => q v B' H' (g1.trans g') r'⟩
theorem pd_cmp {op : CmpOp} {r : R2} {g : W → W → Option W} (ho : OpR X (compareOp op) r) (hg : Giv2 X.K r g) (hm : behindInMarks op b = false) (ha : PD X a fa) (hb : PD X b fb) : PD X (.Compare a [op] [b] pos) (f2 g fa fb) :=
  pe_imp (pe_cmpR ho ha hb hm) fun _ _ _ h => td_bin hg h
def isB : W → Option Bool
  | .d (.bool b) => some b
  | _ => none
def fB (f : Ro → Option W) : Ro → Option Bool := fun ρ => (f ρ).bind isB
theorem isB_eq {w : W} {b : Bool} (h : isB w = some b) : w = .d (.bool b) := by
  unfold isB at h
  split at h
  · cases h; rfl
  · cases h
theorem tt_of {t : TE} (ht : ∀ Q, tD K fa σ H Q → t σ H Q) {Q : Bool → Hp → Prop} (h : tT K (fB fa) σ H Q) : tTest t σ H Q := by
  obtain ⟨H0, B, ρ, w, s, S, e, q⟩ := h
  unfold fB at e
  cases ea : fa ρ with
  | none => rw [ea] at e; cases e
  | some x =>
    rw [ea] at e
    have z := isB_eq e
    subst z
    exact ht _ ⟨H0, B, ρ, _, s, S, ea, fun v B' H' g r => ⟨w, dp_bl r, q B' H' g⟩⟩
theorem pb_cmp {op : CmpOp} {r : R2} {g : W → W → Option W} (ho : OpR X (compareOp op) r) (hg : Giv2 X.K r g) (hm : behindInMarks op b = false) (ha : PD X a fa) (hb : PD X b fb) : PB X (.Compare a [op] [b] pos) (fB (f2 g fa fb)) :=
  pt_imp (pt_cmpR ho ha hb hm) fun _ _ _ h => tt_of (fun _ h => td_bin hg h) h
/-- a test by the value's being True or False (a name, a call ..) -/
theorem pb_val (ha : PD X a fa) (he : ∀ whole, isTrue a X.env whole = (do let v ← whole; standAt a.pos; holding [v] (truthy v)) := by intro _; rfl) : PB X a (fB fa) :=
  pt_imp (pt_val ha he) fun _ _ _ h => tt_of (fun _ h => h) h
/-! chains -/
def f3 (g g' : W → W → Option W) (fa fb fc : Ro → Option W) : Ro → Option W := fun ρ => (fa ρ).bind fun a => (fb ρ).bind fun b => (g a b).bind fun z => match z with
  | .d (.bool true) => (fc ρ).bind fun c => g' b c
  | .d (.bool false) => some (.d (.bool false))
  | _ => none
theorem td_chain {r r' : R2} {g g' : W → W → Option W} (hg : Giv2 K r g) (hg' : Giv2 K r' g') {Q : VK} (h : tD K (f3 g g' fa fb fc) σ H Q) : tChain r r' (tD K fa) (tD K fb) (tD K fc) σ H Q := by
  obtain ⟨H0, B, ρ, w, s, S, e, q⟩ := h
  unfold f3 at e
  cases ea : fa ρ with
  | none => rw [ea] at e; cases e
  | some x =>
    rw [ea] at e
    cases eb : fb ρ with
    | none => rw [eb] at e; cases e
    | some y =>
      rw [eb] at e
      simp only [Option.bind_some] at e
      cases ez : g x y with
      | none => rw [ez] at e; cases e
      | some z =>
        rw [ez] at e
        refine ⟨H0, B, ρ, x, s, S, ea, fun v1 B1 H1 g1 r1 => ⟨H0, B1, ρ, y, g1.s, S.mono s g1, eb, fun v2 B2 H2 g2 r2 => ?_⟩⟩
        refine hg B2 H2 v1 v2 x y z _ g2.s (rw_mono g2.b r1) r2 ez fun v3 B3 H3 g3 r3 => ?_
        have G := (g1.trans g2).trans g3
        simp only [Option.bind_some] at e
        split at e
        · rename_i hz
          refine ⟨true, dp_bl r3, iteT ?_⟩
          cases ec : fc ρ with
          | none => rw [ec] at e; cases e
          | some u =>
            rw [ec] at e
            refine ⟨H0, B3, ρ, u, G.s, S.mono s G, ec, fun v4 B4 H4 g4 r4 => ?_⟩
            exact hg' B4 H4 v2 v4 y u w Q g4.s (rw_mono (g3.b.trans g4.b) r2) r4 e fun v B' H' g' r' => q v B' H' ((G.trans g4).trans g') r'
        · refine ⟨false, dp_bl r3, iteF ?_⟩
          cases e
          exact q _ B3 H3 G (.bl false)
        · cases e
theorem pd_chain {op op' : CmpOp} {r r' : R2} {g g' : W → W → Option W} (ho : OpR X (compareOp op) r) (hg : Giv2 X.K r g) (ho' : OpR X (compareOp op') r') (hg' : Giv2 X.K r' g') (ha : PD X a fa) (hb : PD X b fb) (hc : PD X c fc)
    (hm : lastMarks [op, op'] [b, c] = false := by with_unfolding_all rfl) : PD X (.Compare a [op, op'] [b, c] pos) (f3 g g' fa fb fc) :=
  pe_imp (pe_chain ho ho' ha hb hc hm) fun _ _ _ h => td_chain hg hg' h
theorem pb_chain {op op' : CmpOp} {r r' : R2} {g g' : W → W → Option W} (ho : OpR X (compareOp op) r) (hg : Giv2 X.K r g) (ho' : OpR X (compareOp op') r') (hg' : Giv2 X.K r' g') (ha : PD X a fa) (hb : PD X b fb) (hc : PD X c fc)
    (hm : lastMarks [op, op'] [b, c] = false := by with_unfolding_all rfl) : PB X (.Compare a [op, op'] [b, c] pos) (fB (f3 g g' fa fb fc)) :=
  pt_imp (pt_chain ho ho' ha hb hc hm) fun _ _ _ h => tt_of (fun _ h => td_chain hg hg' h) h
/-! names, constants -/
def fV (i : Nat) : Ro → Option W := fun ρ => match ρ[i]? with
  | some (.w w) => some w
  | _ => none
theorem pd_var (i : Nat) {x : Str} (hN : X.N[i]? = some x := by rfl) (hv : Vis X.env.scope x := by first | exact Or.inl rfl | exact Or.inr (Or.inl rfl) | exact Or.inr (Or.inr rfl)) (hd : (x == ("__debug__" : Str)) = false := by decide)
    (hcd : (x == ("__classdict__" : Str)) = false := by decide) : PD X (.Name x pos) (fV i) :=
  pe_imp (pe_var hN hv hd hcd) fun σ H Q h => by
    obtain ⟨H0, B, ρ, w, s, S, e, q⟩ := h
    unfold fV at e
    split at e
    · rename_i w' hw
      cases e
      obtain ⟨v, h1, h2⟩ := S.wat i _ hw
      exact ⟨v, h1, q v B H (Grow.refl s) h2⟩
    · cases e
def fC (w : W) : Ro → Option W := fun _ => some w
theorem td_c {v : V} {d : PyData} (hd : ∀ B, Dq B v d) {Q : VK} (h : tD K (fC (.d d)) σ H Q) : tC v σ H Q := by
  obtain ⟨H0, B, ρ, w, s, S, e, q⟩ := h
  cases e
  exact q v B H (Grow.refl s) (hd B)
theorem pd_int {i : Int} {j} : PD X (.Constant (.int i) j pos) (fC (.d (.int i))) := pe_imp pe_int fun _ _ _ h => td_c (fun _ => .int i) h
theorem pd_bl {i : Bool} {j} : PD X (.Constant (.bool i) j pos) (fC (.d (.bool i))) := pe_imp pe_bl fun _ _ _ h => td_c (fun _ => .bl i) h
theorem pd_str {i : Str} {j} : PD X (.Constant (.str i) j pos) (fC (.d (.str i))) := pe_imp pe_str fun _ _ _ h => td_c (fun _ => .str i) h
theorem pd_non {j} : PD X (.Constant .none j pos) (fC (.d .none)) := pe_imp pe_non fun _ _ _ h => td_c (fun _ => .non) h
theorem pd_glob {x : Str} {i : Int} (hg : Gl X x) (hm : ∃ t, X.mg x = some (.int i t)) (hd : (x == ("__debug__" : Str)) = false := by decide) : PD X (.Name x pos) (fC (.d (.int i))) := by
  obtain ⟨t, hm⟩ := hm
  exact pe_imp (pe_glob (v := .int i) hg hm ⟨t, rfl⟩ hd) fun _ _ _ h => td_c (fun _ => .int i) h
theorem pd_ty {x : Str} {n : String} (hg : Gl X x) (hm : X.mg x = none) (hv : bootBuiltins x = some (.type n)) (hn : x ≠ "__name__" := by decide) (hd : (x == ("__debug__" : Str)) = false := by decide) : PD X (.Name x pos) (fC (.ty n)) :=
  pe_imp (pe_bltn (v := .ty n) hg hm hv rfl hn hd) fun σ H Q h => by
    obtain ⟨H0, B, ρ, w, s, S, e, q⟩ := h
    cases e
    exact q _ B H (Grow.refl s) rfl
/-! tests put together -/
variable {tA tB' : TT} {rest : List Expr} {ga gb : Ro → Option Bool}
def fAnd (ga gb : Ro → Option Bool) : Ro → Option Bool := fun ρ => (ga ρ).bind fun x => if x = true then gb ρ else some false
def fOr (ga gb : Ro → Option Bool) : Ro → Option Bool := fun ρ => (ga ρ).bind fun x => if x = true then some true else gb ρ
def fNot (ga : Ro → Option Bool) : Ro → Option Bool := fun ρ => (ga ρ).map fun x => !x
def fIf {α : Type} (ga : Ro → Option Bool) (f g : Ro → Option α) : Ro → Option α := fun ρ => (ga ρ).bind fun x => if x = true then f ρ else g ρ
abbrev PWB (X : Cx) (e : Expr) (f : Ro → Option Bool) : Prop := PW X e (tT X.K f)
theorem tt_and {Q : Bool → Hp → Prop} (h : tT K (fAnd ga gb) σ H Q) : tAnd (tT K ga) (tT K gb) σ H Q := by
  obtain ⟨H0, B, ρ, w, s, S, e, q⟩ := h
  unfold fAnd at e
  cases ea : ga ρ with
  | none => rw [ea] at e; cases e
  | some x =>
    rw [ea] at e
    refine ⟨H0, B, ρ, x, s, S, ea, fun B1 H1 g1 => ?_⟩
    cases x with
    | true => exact iteT ⟨H0, B1, ρ, w, g1.s, S.mono s g1, e, fun B2 H2 g2 => q B2 H2 (g1.trans g2)⟩
    | false =>
      cases e
      exact iteF (q B1 H1 g1)
theorem tt_or {Q : Bool → Hp → Prop} (h : tT K (fOr ga gb) σ H Q) : tOr (tT K ga) (tT K gb) σ H Q := by
  obtain ⟨H0, B, ρ, w, s, S, e, q⟩ := h
  unfold fOr at e
  cases ea : ga ρ with
  | none => rw [ea] at e; cases e
  | some x =>
    rw [ea] at e
    refine ⟨H0, B, ρ, x, s, S, ea, fun B1 H1 g1 => ?_⟩
    cases x with
    | false => exact iteF ⟨H0, B1, ρ, w, g1.s, S.mono s g1, e, fun B2 H2 g2 => q B2 H2 (g1.trans g2)⟩
    | true =>
      cases e
      exact iteT (q B1 H1 g1)
theorem pwb_and (ha : PB X a ga) (hb : PWB X (.BoolOp .And (b :: rest) pos) gb) : PWB X (.BoolOp .And (a :: b :: rest) pos) (fAnd ga gb) := pw_imp (pw_and ha hb) fun _ _ _ h => tt_and h
theorem pwb_and1 (ha : PB X a ga) : PWB X (.BoolOp .And [a] pos) ga := pw_and1 ha
theorem pwb_or (ha : PB X a ga) (hb : PWB X (.BoolOp .Or (b :: rest) pos) gb) : PWB X (.BoolOp .Or (a :: b :: rest) pos) (fOr ga gb) := pw_imp (pw_or ha hb) fun _ _ _ h => tt_or h
theorem pwb_or1 (ha : PB X a ga) : PWB X (.BoolOp .Or [a] pos) ga := pw_or1 ha
theorem pb_w (h : PWB X a ga) : PB X a ga := h.pt
theorem pb_not (ha : PB X a ga) : PB X (.UnaryOp .Not a pos) (fNot ga) := pt_imp (pt_not ha) fun σ H Q h => by
  obtain ⟨H0, B, ρ, w, s, S, e, q⟩ := h
  unfold fNot at e
  cases ea : ga ρ with
  | none => rw [ea] at e; cases e
  | some x =>
    rw [ea] at e
    cases e
    exact ⟨H0, B, ρ, x, s, S, ea, q⟩
/-- and, or, not as values (of bools) -/
def fAndV (fa fb : Ro → Option W) : Ro → Option W := fun ρ => ((fa ρ).bind isB).bind fun x => if x = true then fb ρ else some (.d (.bool false))
def fOrV (fa fb : Ro → Option W) : Ro → Option W := fun ρ => ((fa ρ).bind isB).bind fun x => if x = true then some (.d (.bool true)) else fb ρ
theorem pd_andV (ha : PD X a fa) (hb : PD X (.BoolOp .And (b :: rest) pos) fb) : PD X (.BoolOp .And (a :: b :: rest) pos) (fAndV fa fb) := pe_imp (pe_and ha hb) fun σ H Q h => by
  obtain ⟨H0, B, ρ, w, s, S, e, q⟩ := h
  unfold fAndV at e
  cases ea : fa ρ with
  | none => rw [ea] at e; cases e
  | some x =>
    rw [ea, Option.bind_some] at e
    cases eb : isB x with
    | none => rw [eb] at e; cases e
    | some k =>
      rw [eb] at e
      have z := isB_eq eb
      subst z
      refine ⟨H0, B, ρ, _, s, S, ea, fun v B1 H1 g1 r1 => ⟨k, dp_bl r1, ?_⟩⟩
      cases k with
      | true => exact iteT ⟨H0, B1, ρ, w, g1.s, S.mono s g1, e, fun v B2 H2 g2 r2 => q v B2 H2 (g1.trans g2) r2⟩
      | false =>
        cases e
        exact iteF (q _ B1 H1 g1 (.bl false))
theorem pd_orV (ha : PD X a fa) (hb : PD X (.BoolOp .Or (b :: rest) pos) fb) : PD X (.BoolOp .Or (a :: b :: rest) pos) (fOrV fa fb) := pe_imp (pe_or ha hb) fun σ H Q h => by
  obtain ⟨H0, B, ρ, w, s, S, e, q⟩ := h
  unfold fOrV at e
  cases ea : fa ρ with
  | none => rw [ea] at e; cases e
  | some x =>
    rw [ea, Option.bind_some] at e
    cases eb : isB x with
    | none => rw [eb] at e; cases e
    | some k =>
      rw [eb] at e
      have z := isB_eq eb
      subst z
      refine ⟨H0, B, ρ, _, s, S, ea, fun v B1 H1 g1 r1 => ⟨k, dp_bl r1, ?_⟩⟩
      cases k with
      | false => exact iteF ⟨H0, B1, ρ, w, g1.s, S.mono s g1, e, fun v B2 H2 g2 r2 => q v B2 H2 (g1.trans g2) r2⟩
      | true =>
        cases e
        exact iteT (q _ B1 H1 g1 (.bl true))
theorem pd_oneV {op} (h : PD X a fa) : PD X (.BoolOp op [a] pos) fa := pe_one h
def fNotV (fa : Ro → Option W) : Ro → Option W := fun ρ => ((fa ρ).bind isB).map fun x => .d (.bool (!x))
theorem pd_notV (ha : PD X a fa) : PD X (.UnaryOp .Not a pos) (fNotV fa) := pe_imp (pe_not ha) fun σ H Q h => by
  obtain ⟨H0, B, ρ, w, s, S, e, q⟩ := h
  unfold fNotV at e
  cases ea : fa ρ with
  | none => rw [ea] at e; cases e
  | some x =>
    rw [ea, Option.bind_some] at e
    cases eb : isB x with
    | none => rw [eb] at e; cases e
    | some k =>
      rw [eb] at e
      have z := isB_eq eb
      subst z
      cases e
      exact ⟨H0, B, ρ, _, s, S, ea, fun v B1 H1 g1 r1 => ⟨k, dp_bl r1, q _ B1 H1 g1 (.bl _)⟩⟩
theorem pd_ifExp (hc : PB X c ga) (ha : PD X a fa) (hb : PD X b fb) : PD X (.IfExp c a b pos) (fIf ga fa fb) := pe_imp (pe_ifExp hc ha hb) fun σ H Q h => by
  obtain ⟨H0, B, ρ, w, s, S, e, q⟩ := h
  unfold fIf at e
  cases ea : ga ρ with
  | none => rw [ea] at e; cases e
  | some x =>
    rw [ea] at e
    refine ⟨H0, B, ρ, x, s, S, ea, fun B1 H1 g1 => ?_⟩
    cases x with
    | true => exact iteT ⟨H0, B1, ρ, w, g1.s, S.mono s g1, e, fun v B2 H2 g2 r2 => q v B2 H2 (g1.trans g2) r2⟩
    | false => exact iteF ⟨H0, B1, ρ, w, g1.s, S.mono s g1, e, fun v B2 H2 g2 r2 => q v B2 H2 (g1.trans g2) r2⟩
/-! argument lists, displays, new lists as data -/
def fNil : Ro → Option (List W) := fun _ => some []
def fCons (fa : Ro → Option W) (fr : Ro → Option (List W)) : Ro → Option (List W) := fun ρ => (fa ρ).bind fun x => (fr ρ).bind fun xs => some (x :: xs)
theorem pl_nil : PL X [] fNil := pa_imp pa_nil fun σ H Q h => by
  obtain ⟨H0, B, ρ, w, s, S, e, q⟩ := h
  cases e
  exact q [] B H (Grow.refl s) .nil
theorem pl_cons {fr : Ro → Option (List W)} (ha : PD X e fa) (hr : PL X es fr) (hs : starEach (e :: es) X.env = (false, eval e X.env) :: starEach es X.env := by rfl) : PL X (e :: es) (fCons fa fr) := pa_imp (pa_cons ha hr hs) fun σ H Q h => by
  obtain ⟨H0, B, ρ, w, s, S, e, q⟩ := h
  unfold fCons at e
  cases ea : fa ρ with
  | none => rw [ea] at e; cases e
  | some x =>
    rw [ea] at e
    cases eb : fr ρ with
    | none => rw [eb] at e; cases e
    | some xs =>
      rw [eb] at e
      cases e
      exact ⟨H0, B, ρ, x, s, S, ea, fun v B1 H1 g1 r1 => ⟨H0, B1, ρ, xs, g1.s, S.mono s g1, eb, fun vs B2 H2 g2 r2 => q _ B2 H2 (g1.trans g2) (.cons (rw_mono g2.b r1) r2)⟩⟩
/-- the contents, all data -/
def datas : List W → Option (List PyData)
  | [] => some []
  | .d x :: ws => (datas ws).map (x :: ·)
  | _ :: _ => none
theorem datas_all {B : Hp} : ∀ {ws : List W} {xs : List PyData} {vs : List V}, datas ws = some xs → RwAll K B vs ws → DqAll B vs xs
  | [], _, _, h, .nil => by cases h; exact .nil
  | .d x :: ws, _, _, h, .cons a t => by
    unfold datas at h
    cases e : datas ws with
    | none => rw [e] at h; cases h
    | some ys =>
      rw [e] at h
      cases h
      exact .cons a (datas_all e t)
  | .ty _ :: _, _, _, h, _ => by cases h
  | .dI _ :: _, _, _, h, _ => by cases h
  | .dT _ :: _, _, _, h, _ => by cases h
theorem big {n : Nat} (h : n ≤ 100000) : n ≤ sizeLine := Nat.le_trans h (by decide)
theorem bigl {n : Nat} (h : n < 100000) : n < sizeLine := Nat.lt_of_lt_of_le h (by decide)
def fDs (fr : Ro → Option (List W)) : Ro → Option (List PyData) := fun ρ => (fr ρ).bind fun ws => (datas ws).bind fun xs => if xs.length ≤ 100000 then some xs else none
def fTup (f : Ro → Option (List PyData)) : Ro → Option W := fun ρ => (f ρ).map fun xs => .d (.tuple xs)
def fLst (f : Ro → Option (List PyData)) : Ro → Option W := fun ρ => (f ρ).map fun xs => .d (.list xs)
theorem pd_tup {fr : Ro → Option (List W)} {x1} (h : PL X es fr) : PD X (.Tuple es x1 pos) (fTup (fDs fr)) := pe_imp (pe_tup h) fun σ H Q h => by
  obtain ⟨H0, B, ρ, w, s, S, e, q⟩ := h
  unfold fTup fDs at e
  cases eb : fr ρ with
  | none => rw [eb] at e; cases e
  | some ws =>
    rw [eb, Option.bind_some] at e
    cases ed : datas ws with
    | none => rw [ed] at e; cases e
    | some xs =>
      rw [ed, Option.bind_some] at e
      by_cases hl : xs.length ≤ 100000
      · rw [if_pos hl] at e
        cases e
        refine ⟨H0, B, ρ, ws, s, S, eb, fun vs B1 H1 g1 r1 => ⟨?_, fun p hp => ?_⟩⟩
        · rw [dpa_len (datas_all ed r1)]
          exact big hl
        · have g2 := Grow.new g1.s (o := .tup vs) hp
          exact q _ _ _ (g1.trans g2) (.tup (.inl upd_same) (dpAll_mono g2.b _ (datas_all ed r1)))
      · rw [if_neg hl] at e
        cases e
theorem pn_lst {fr : Ro → Option (List W)} (h : PL X es fr) : PN X (.List es pos) (fDs fr) := pe_imp (pe_lst h) fun σ H Q h => by
  obtain ⟨H0, B, ρ, w, s, S, e, q⟩ := h
  unfold fDs at e
  cases eb : fr ρ with
  | none => rw [eb] at e; cases e
  | some ws =>
    rw [eb, Option.bind_some] at e
    cases ed : datas ws with
    | none => rw [ed] at e; cases e
    | some xs =>
      rw [ed, Option.bind_some] at e
      by_cases hl : xs.length ≤ 100000
      · rw [if_pos hl] at e
        cases e
        refine ⟨H0, B, ρ, ws, s, S, eb, fun vs B1 H1 g1 r1 => ⟨?_, fun p hp => ?_⟩⟩
        · rw [dpa_len (datas_all ed r1)]
          exact big hl
        · have g2 := Grow.own g1.s (o := .lst vs) hp
          exact q _ vs _ _ (g1.trans g2) (g1.h.free hp) (g1.s.free hp) upd_same (datas_all ed r1)
      · rw [if_neg hl] at e
        cases e
/-- a new list as a datum -/
theorem td_n {f : Ro → Option (List PyData)} {Q : VK} (h : tD K (fLst f) σ H Q) : tN K f σ H Q := by
  obtain ⟨H0, B, ρ, w, s, S, e, q⟩ := h
  unfold fLst at e
  cases eb : f ρ with
  | none => rw [eb] at e; cases e
  | some xs =>
    rw [eb] at e
    cases e
    refine ⟨H0, B, ρ, xs, s, S, eb, fun p vs B' H' g hp hb h' ha => ?_⟩
    have g' := g.still h' hp hb
    exact q _ _ _ g' (.lst (.inl upd_same) (dpAll_mono (fun a u e => by rw [upd_ne (ne_of_none e hb)]; exact e) _ ha))
theorem pd_n {f : Ro → Option (List PyData)} (h : PN X e f) : PD X e (fLst f) := pe_imp h fun _ _ _ h => td_n h
/-! calls -/
def fA (g : List W → Option W) (fr : Ro → Option (List W)) : Ro → Option W := fun ρ => (fr ρ).bind g
def fAN (g : List W → Option (List PyData)) (fr : Ro → Option (List W)) : Ro → Option (List PyData) := fun ρ => (fr ρ).bind g
theorem td_cb {r : List V → Hp → VK → Prop} {g : List W → Option W} {fr : Ro → Option (List W)} (hg : GivC K r g) {Q : VK} (h : tD K (fA g fr) σ H Q) : tCB r (tAs K fr) σ H Q := by
  obtain ⟨H0, B, ρ, w, s, S, e, q⟩ := h
  unfold fA at e
  cases eb : fr ρ with
  | none => rw [eb] at e; cases e
  | some ws =>
    rw [eb, Option.bind_some] at e
    exact ⟨H0, B, ρ, ws, s, S, eb, fun vs B1 H1 g1 r1 => hg B1 H1 vs ws w Q g1.s r1 e fun v B' H' g' r' => q v B' H' (g1.trans g') r'⟩
theorem tn_cb {r : List V → Hp → VK → Prop} {g : List W → Option (List PyData)} {fr : Ro → Option (List W)} (hg : GivN K r g) {Q : VK} (h : tN K (fAN g fr) σ H Q) : tCB r (tAs K fr) σ H Q := by
  obtain ⟨H0, B, ρ, w, s, S, e, q⟩ := h
  unfold fAN at e
  cases eb : fr ρ with
  | none => rw [eb] at e; cases e
  | some ws =>
    rw [eb, Option.bind_some] at e
    exact ⟨H0, B, ρ, ws, s, S, eb, fun vs B1 H1 g1 r1 => hg B1 H1 vs ws w Q g1.s r1 e fun p vs B' H' g' hp hb h' r' => q p vs B' H' (g1.trans g') (g1.h.free hp) hb h' r'⟩
theorem pd_callB {r : List V → Hp → VK → Prop} {g : List W → Option W} {fr : Ro → Option (List W)} {id : String} {x : Str} {p : Pos} (hc : CallR X (.builtin id) r) (hg' : GivC X.K r g) (hg : Gl X x) (hm : X.mg x = none) (hv : bootBuiltins x = some (.builtin id)) (ha : PL X (e :: es) fr) (hn : x ≠ "__name__" := by decide) (hdb : (x == ("__debug__" : Str)) = false := by decide)
    (he : starEach (e :: es) X.env = (false, eval e X.env) :: starEach es X.env := by rfl) (hpl : (backTo pos (starEach es X.env)).any (·.1) = false := by rfl) : PD X (.Call (.Name x p) (e :: es) [] pos) (fA g fr) :=
  pe_imp (pe_callB hc hg hm hv ha hn hdb he hpl) fun _ _ _ h => td_cb hg' h
theorem pd_callTy {r : List V → Hp → VK → Prop} {g : List W → Option W} {fr : Ro → Option (List W)} {id : String} {x : Str} {p : Pos} (hc : CallR X (.type id) r) (hg' : GivC X.K r g) (hg : Gl X x) (hm : X.mg x = none) (hv : bootBuiltins x = some (.type id)) (ha : PL X (e :: es) fr) (hn : x ≠ "__name__" := by decide) (hdb : (x == ("__debug__" : Str)) = false := by decide)
    (he : starEach (e :: es) X.env = (false, eval e X.env) :: starEach es X.env := by rfl) (hpl : (backTo pos (starEach es X.env)).any (·.1) = false := by rfl) : PD X (.Call (.Name x p) (e :: es) [] pos) (fA g fr) :=
  pe_imp (pe_callTy hc hg hm hv ha hn hdb he hpl) fun _ _ _ h => td_cb hg' h
theorem pn_callB {r : List V → Hp → VK → Prop} {g : List W → Option (List PyData)} {fr : Ro → Option (List W)} {id : String} {x : Str} {p : Pos} (hc : CallR X (.builtin id) r) (hg' : GivN X.K r g) (hg : Gl X x) (hm : X.mg x = none) (hv : bootBuiltins x = some (.builtin id)) (ha : PL X (e :: es) fr) (hn : x ≠ "__name__" := by decide) (hdb : (x == ("__debug__" : Str)) = false := by decide)
    (he : starEach (e :: es) X.env = (false, eval e X.env) :: starEach es X.env := by rfl) (hpl : (backTo pos (starEach es X.env)).any (·.1) = false := by rfl) : PN X (.Call (.Name x p) (e :: es) [] pos) (fAN g fr) :=
  pe_imp (pe_callB hc hg hm hv ha hn hdb he hpl) fun _ _ _ h => tn_cb hg' h
theorem pn_callTy {r : List V → Hp → VK → Prop} {g : List W → Option (List PyData)} {fr : Ro → Option (List W)} {id : String} {x : Str} {p : Pos} (hc : CallR X (.type id) r) (hg' : GivN X.K r g) (hg : Gl X x) (hm : X.mg x = none) (hv : bootBuiltins x = some (.type id)) (ha : PL X (e :: es) fr) (hn : x ≠ "__name__" := by decide) (hdb : (x == ("__debug__" : Str)) = false := by decide)
    (he : starEach (e :: es) X.env = (false, eval e X.env) :: starEach es X.env := by rfl) (hpl : (backTo pos (starEach es X.env)).any (·.1) = false := by rfl) : PN X (.Call (.Name x p) (e :: es) [] pos) (fAN g fr) :=
  pe_imp (pe_callTy hc hg hm hv ha hn hdb he hpl) fun _ _ _ h => tn_cb hg' h
end
/-! ### what a def promises -/
def spD (K : Fr) (g : List W → Option W) : Sp := fun vs H Q _ => ∃ B ws w, Same B H ∧ RwAll K B vs ws ∧ g ws = some w ∧ ∀ v B' H', Grow B H B' H' → Rw K B' v w → Q v H'
def spN (K : Fr) (g : List W → Option (List PyData)) : Sp := fun vs H Q _ => ∃ B ws xs, Same B H ∧ RwAll K B vs ws ∧ g ws = some xs ∧
  ∀ p us B' H', Grow B H B' H' → H p = none → B' p = none → H' p = some (.lst us) → DqAll B' us xs → Q (.ref p) H'
section
variable {X : Cx} {fr : Ro → Option (List W)} {k : Nat} {f : Addr} {fd : FuncData} {ps : List Str} {x : Str} {p pos : Pos} {e : Expr} {es : List Expr}
theorem pd_call {g : List W → Option W} (F : FnOk X.prog X.w X.K X.mg X.base CX0 k f fd ps (spD X.K g)) (hr : Room k X.A) (hg : Gl X x) (hm : X.mg x = some (.ref f)) (hk : PySem.W.keepIn X.K (.ref f) = true) (hb : Binds X.K fd ps [])
    (ha : PL X (e :: es) fr) (hdb : (x == ("__debug__" : Str)) = false := by decide) (he : starEach (e :: es) X.env = (false, eval e X.env) :: starEach es X.env := by rfl) (hpl : (backTo pos (starEach es X.env)).any (·.1) = false := by rfl) :
    PD X (.Call (.Name x p) (e :: es) [] pos) (fA g fr) := pe_imp (pe_call F hr hg hm hk hb .nil pass0 ha hdb he hpl) fun σ H Q h => by
  obtain ⟨H0, B, ρ, w, s, S, e, q⟩ := h
  unfold fA at e
  cases eb : fr ρ with
  | none => rw [eb] at e; cases e
  | some ws =>
    rw [eb, Option.bind_some] at e
    refine ⟨H0, B, ρ, ws, s, S, eb, fun vs B1 H1 g1 r1 => ?_⟩
    show spD X.K g (vs ++ []) H1 Q E0
    rw [List.append_nil]
    exact ⟨B1, ws, w, g1.s, r1, e, fun v B' H' g' r' => q v B' H' (g1.trans g') r'⟩
theorem pn_call {g : List W → Option (List PyData)} (F : FnOk X.prog X.w X.K X.mg X.base CX0 k f fd ps (spN X.K g)) (hr : Room k X.A) (hg : Gl X x) (hm : X.mg x = some (.ref f)) (hk : PySem.W.keepIn X.K (.ref f) = true) (hb : Binds X.K fd ps [])
    (ha : PL X (e :: es) fr) (hdb : (x == ("__debug__" : Str)) = false := by decide) (he : starEach (e :: es) X.env = (false, eval e X.env) :: starEach es X.env := by rfl) (hpl : (backTo pos (starEach es X.env)).any (·.1) = false := by rfl) :
    PN X (.Call (.Name x p) (e :: es) [] pos) (fAN g fr) := pe_imp (pe_call F hr hg hm hk hb .nil pass0 ha hdb he hpl) fun σ H Q h => by
  obtain ⟨H0, B, ρ, w, s, S, e, q⟩ := h
  unfold fAN at e
  cases eb : fr ρ with
  | none => rw [eb] at e; cases e
  | some ws =>
    rw [eb, Option.bind_some] at e
    refine ⟨H0, B, ρ, ws, s, S, eb, fun vs B1 H1 g1 r1 => ?_⟩
    show spN X.K g (vs ++ []) H1 Q E0
    rw [List.append_nil]
    exact ⟨B1, ws, w, g1.s, r1, e, fun p us B' H' g' hp hb h' r' => q p us B' H' (g1.trans g') (g1.h.free hp) hb h' r'⟩
end

/-! ### statements -/
inductive Out where
  | nx (ρ : Ro)
  | rt (w : W)
  | rn (xs : List PyData)
  | bk (ρ : Ro)
  | ct (ρ : Ro)
def EndsAs (K : Fr) (B0 H0 Bs : Hp) (D : Ends) : Out → Prop
  | .nx ρ => ∀ σ B H, Grow B0 H0 B H → Same Bs B → Slots K H0 B H σ ρ → D.nx σ H
  | .rt w => ∀ v B H, Grow B0 H0 B H → Rw K B v w → D.rt v H
  | .rn xs => ∀ p vs B H, Grow B0 H0 B H → H0 p = none → B p = none → H p = some (.lst vs) → DqAll B vs xs → D.rt (.ref p) H
  | .bk ρ => ∀ σ B H, Grow B0 H0 B H → Same Bs B → Slots K H0 B H σ ρ → D.bk σ H
  | .ct ρ => ∀ σ B H, Grow B0 H0 B H → Same Bs B → Slots K H0 B H σ ρ → D.ct σ H
theorem EndsAs.mono {K : Fr} {B0 H0 B1 B2 : Hp} {D : Ends} (s : Same B1 B2) : ∀ {o : Out}, EndsAs K B0 H0 B1 D o → EndsAs K B0 H0 B2 D o
  | .nx _, h => fun σ B H g s' S => h σ B H g (s.trans s') S
  | .rt _, h => h
  | .rn _, h => h
  | .bk _, h => fun σ B H g s' S => h σ B H g (s.trans s') S
  | .ct _, h => fun σ B H g s' S => h σ B H g (s.trans s') S
def tS (K : Fr) (F : Ro → Option Out) : TS := fun D σ H => ∃ B0 H0 B ρ out, Grow B0 H0 B H ∧ Slots K H0 B H σ ρ ∧ F ρ = some out ∧ EndsAs K B0 H0 B D out
abbrev PC (X : Cx) (st : Stmt) (F : Ro → Option Out) : Prop := PS X st (tS X.K F)
abbrev PCs (X : Cx) (st : List Stmt) (F : Ro → Option Out) : Prop := PSs X st (tS X.K F)
def seqF (F G : Ro → Option Out) : Ro → Option Out := fun ρ => (F ρ).bind fun o => match o with
  | .nx ρ' => G ρ'
  | o => some o
section
variable {X : Cx} {K : Fr} {st : Stmt} {rest : List Stmt} {F G : Ro → Option Out} {e : Expr} {fa : Ro → Option W} {pos : Pos}
theorem ts_seq {D : Ends} {σ : L2.St} {H : Hp} (h : tS K (seqF F G) D σ H) : tSeq (tS K F) (tS K G) D σ H := by
  obtain ⟨B0, H0, B, ρ, out, g, S, e, q⟩ := h
  unfold seqF at e
  cases ef : F ρ with
  | none => rw [ef] at e; cases e
  | some o =>
    rw [ef, Option.bind_some] at e
    refine ⟨B0, H0, B, ρ, o, g, S, ef, ?_⟩
    cases o with
    | nx ρ' => exact fun σ1 B1 H1 g1 s1 S1 => ⟨B0, H0, B1, ρ', out, g1, S1, e, q.mono s1⟩
    | rt w => cases e; exact q
    | rn xs => cases e; exact q
    | bk ρ' => cases e; exact q
    | ct ρ' => cases e; exact q
theorem pc_cons (h1 : PC X st F) (h2 : PCs X rest G) : PCs X (st :: rest) (seqF F G) := pss_imp (pss_cons h1 h2) fun _ _ _ h => ts_seq h
theorem pc_one (h1 : PC X st F) : PCs X [st] F := pss_one h1
def nxF : Ro → Option Out := fun ρ => some (.nx ρ)
theorem pc_nil : PCs X [] nxF := pss_imp pss_nil fun D σ H h => by
  obtain ⟨B0, H0, B, ρ, out, g, S, e, q⟩ := h
  cases e
  exact q σ B H g (Same.refl _) S
theorem pc_doc {x j pos'} : PC X (.Expr (.Constant (.str x) j pos) pos') nxF := ps_imp ps_doc fun D σ H h => by
  obtain ⟨B0, H0, B, ρ, out, g, S, e, q⟩ := h
  cases e
  exact q σ B H g (Same.refl _) S
def ifF (c : Ro → Option Bool) (F G : Ro → Option Out) : Ro → Option Out := fun ρ => (c ρ).bind fun b => if b = true then F ρ else G ρ
theorem pc_if {c : Expr} {fc : Ro → Option Bool} {a b : List Stmt} (hc : PB X c fc) (ha : PCs X a F) (hb : PCs X b G) : PC X (.If c a b pos) (ifF fc F G) := ps_imp (ps_if hc ha hb) fun D σ H h => by
  obtain ⟨B0, H0, B, ρ, out, g, S, e, q⟩ := h
  unfold ifF at e
  cases ec : fc ρ with
  | none => rw [ec] at e; cases e
  | some b =>
    rw [ec, Option.bind_some] at e
    refine ⟨H0, B, ρ, b, g.s, S, ec, fun B1 H1 g1 => ?_⟩
    cases b with
    | true => exact iteT ⟨B0, H0, B1, ρ, out, g.trans g1, S.mono g.s g1, e, q.mono g1.b⟩
    | false => exact iteF ⟨B0, H0, B1, ρ, out, g.trans g1, S.mono g.s g1, e, q.mono g1.b⟩
def setF (i : Nat) (fa : Ro → Option W) : Ro → Option Out := fun ρ => (fa ρ).map fun w => .nx (ρ.set i (.w w))
theorem pc_set {x : Str} {pos' : Pos} (i : Nat) (he : PD X e fa) (hN : X.N.Nodup) (hi : X.N[i]? = some x := by rfl) (hx : Loc X.env.scope x := by first | exact Or.inl rfl | exact Or.inr rfl) (hs : swapsWith e (some (.Name x pos')) pos.line X.env = pure false := by rfl) (hf : X.fn x = true ∨ X.env.scope.names.lookup x = some .local := by first | exact .inl rfl | exact .inr rfl) :
    PC X (.Assign [.Name x pos'] e pos) (setF i fa) := ps_imp (ps_set (i := i) hN hi hx he hs hf) fun D σ H h => by
  obtain ⟨B0, H0, B, ρ, out, g, S, e, q⟩ := h
  unfold setF at e
  cases ea : fa ρ with
  | none => rw [ea] at e; cases e
  | some w =>
    rw [ea] at e
    cases e
    exact ⟨H0, B, ρ, w, g.s, S, ea, fun v B1 H1 g1 r1 => q _ B1 H1 (g.trans g1) g1.b ((S.mono g.s g1).setW r1)⟩
def setN (i : Nat) (fa : Ro → Option (List PyData)) : Ro → Option Out := fun ρ => (fa ρ).map fun xs => .nx (ρ.set i (.ow xs))
theorem pc_setN {f : Ro → Option (List PyData)} {x : Str} {pos' : Pos} (i : Nat) (he : PN X e f) (hN : X.N.Nodup) (hi : X.N[i]? = some x := by rfl) (hx : Loc X.env.scope x := by first | exact Or.inl rfl | exact Or.inr rfl) (hs : swapsWith e (some (.Name x pos')) pos.line X.env = pure false := by rfl) (hf : X.fn x = true ∨ X.env.scope.names.lookup x = some .local := by first | exact .inl rfl | exact .inr rfl) :
    PC X (.Assign [.Name x pos'] e pos) (setN i f) := ps_imp (ps_set (i := i) hN hi hx he hs hf) fun D σ H h => by
  obtain ⟨B0, H0, B, ρ, out, g, S, e, q⟩ := h
  unfold setN at e
  cases ea : f ρ with
  | none => rw [ea] at e; cases e
  | some xs =>
    rw [ea] at e
    cases e
    refine ⟨H0, B, ρ, xs, g.s, S, ea, fun p vs B1 H1 g1 hp hb h1 r1 => q _ B1 H1 (g.trans g1) g1.b ((S.mono g.s g1).setO rfl (g.h.free hp) hb h1 ⟨vs, rfl, r1⟩ fun j t _ hj ht z => ?_)⟩
    obtain ⟨p', o, e1, _, _, e4, _⟩ := S.oat j t hj ht
    rw [z] at e1
    cases e1
    rw [hp] at e4
    cases e4
def retF (fa : Ro → Option W) : Ro → Option Out := fun ρ => (fa ρ).map .rt
theorem pc_ret (he : PD X e fa) : PC X (.Return (some e) pos) (retF fa) := ps_imp (ps_ret he) fun D σ H h => by
  obtain ⟨B0, H0, B, ρ, out, g, S, e, q⟩ := h
  unfold retF at e
  cases ea : fa ρ with
  | none => rw [ea] at e; cases e
  | some w =>
    rw [ea] at e
    cases e
    exact ⟨H0, B, ρ, w, g.s, S, ea, fun v B1 H1 g1 r1 => q v B1 H1 (g.trans g1) r1⟩
def retNF (f : Ro → Option (List PyData)) : Ro → Option Out := fun ρ => (f ρ).map .rn
theorem pc_retN {f : Ro → Option (List PyData)} (he : PN X e f) : PC X (.Return (some e) pos) (retNF f) := ps_imp (ps_ret he) fun D σ H h => by
  obtain ⟨B0, H0, B, ρ, out, g, S, e, q⟩ := h
  unfold retNF at e
  cases ea : f ρ with
  | none => rw [ea] at e; cases e
  | some w =>
    rw [ea] at e
    cases e
    exact ⟨H0, B, ρ, w, g.s, S, ea, fun p vs B1 H1 g1 hp hb h1 r1 => q p vs B1 H1 (g.trans g1) (g.h.free hp) hb h1 r1⟩
/-- return of a list of one's own -/
def retOF (i : Nat) : Ro → Option Out := fun ρ => match ρ[i]? with
  | some (.ow xs) => some (.rn xs)
  | _ => none
theorem pc_retO (i : Nat) {x : Str} {pos' : Pos} (hN : X.N[i]? = some x := by rfl) (hv : Vis X.env.scope x := by first | exact Or.inl rfl | exact Or.inr (Or.inl rfl) | exact Or.inr (Or.inr rfl)) (hd : (x == ("__debug__" : Str)) = false := by decide)
    (hcd : (x == ("__classdict__" : Str)) = false := by decide) : PC X (.Return (some (.Name x pos')) pos) (retOF i) := ps_imp (ps_ret (pe_var hN hv hd hcd)) fun D σ H h => by
  obtain ⟨B0, H0, B, ρ, out, g, S, e, q⟩ := h
  unfold retOF at e
  split at e
  · rename_i xs hx
    cases e
    obtain ⟨p, o, e1, e2, e3, e4, vs, rfl, e5⟩ := S.oat i _ hx rfl
    exact ⟨.ref p, e1, q p vs B H g e2 e3 e4 e5⟩
  · cases e
def brkF : Ro → Option Out := fun ρ => some (.bk ρ)
theorem pc_brk : PC X (.Break pos) brkF := ps_imp ps_break fun D σ H h => by
  obtain ⟨B0, H0, B, ρ, out, g, S, e, q⟩ := h
  cases e
  exact q σ B H g (Same.refl _) S
/-- the list of one's own in slot i stays as it is from here on -/
def fzR (i : Nat) (ρ : Ro) : Ro := match ρ[i]? with
  | some (.ow xs) => ρ.set i (.w (.d (.list xs)))
  | some (.oI kvs) => ρ.set i (.w (.dI kvs))
  | some (.oT kvs) => ρ.set i (.w (.dT kvs))
  | _ => ρ
theorem still_slots {B0 H0 B H : Hp} {σ : L2.St} {ρ : Ro} (g : Grow B0 H0 B H) (S : Slots K H0 B H σ ρ) {i : Nat} {s : Sl} {w : W} (hi : ρ[i]? = some s) (hs : s.own = true)
    (hw : ∀ (p : Addr) (o : HO) (B' : Hp), Same B B' → B' p = some o → OwnAt K B s o → Rw K B' (.ref p) w) : ∃ B', Grow B0 H0 B' H ∧ Same B B' ∧ Slots K H0 B' H σ (ρ.set i (.w w)) := by
  obtain ⟨p, o, e1, e2, e3, e4, e5⟩ := S.oat i s hi hs
  have hl : i < ρ.length := (List.getElem?_eq_some_iff.mp hi).1
  have sb : Same B (upd B p o) := fun a u e => by rw [upd_ne (ne_of_none e e3)]; exact e
  refine ⟨upd B p o, g.still e4 e2 e3, sb, ?_⟩
  have hr : Rw K (upd B p o) (.ref p) w := hw p o _ sb upd_same e5
  refine ⟨by rw [List.length_set]; exact S.len, fun j x hj => ?_, fun j t hj ht => ?_, fun j k t u q hj hk ht hu h1 h2 => ?_⟩
  · by_cases e : i = j
    · subst e
      rw [List.getElem?_set_self hl] at hj
      cases hj
      exact ⟨_, e1, hr⟩
    · rw [List.getElem?_set_ne e] at hj
      obtain ⟨v, h1, h2⟩ := S.wat j x hj
      exact ⟨v, h1, rw_mono sb h2⟩
  · by_cases e : i = j
    · subst e
      rw [List.getElem?_set_self hl] at hj
      cases hj
      cases ht
    · rw [List.getElem?_set_ne e] at hj
      obtain ⟨q, u, f1, f2, f3, f4, f5⟩ := S.oat j t hj ht
      refine ⟨q, u, f1, f2, ?_, f4, own_mono sb f5⟩
      rw [upd_ne (show q ≠ p from fun z => e (S.apart i j s t p hi hj hs ht e1 (by rw [← z]; exact f1)))]
      exact f3
  · have n : ∀ (m : Nat) (t : Sl), (ρ.set i (.w w))[m]? = some t → t.own = true → i ≠ m := fun m t hm ht e => by
      subst e
      rw [List.getElem?_set_self hl] at hm
      cases hm
      cases ht
    have nj := n j t hj ht
    have nk := n k u hk hu
    rw [List.getElem?_set_ne nj] at hj
    rw [List.getElem?_set_ne nk] at hk
    exact S.apart j k t u q hj hk ht hu h1 h2
theorem fz_slots {B0 H0 B H : Hp} {σ : L2.St} {ρ : Ro} (i : Nat) (g : Grow B0 H0 B H) (S : Slots K H0 B H σ ρ) : ∃ B', Grow B0 H0 B' H ∧ Same B B' ∧ Slots K H0 B' H σ (fzR i ρ) := by
  unfold fzR
  split
  · rename_i xs hi
    refine still_slots g S hi rfl fun p o B' sb hp ho => ?_
    obtain ⟨vs, rfl, r⟩ := ho
    exact .lst (.inl hp) (dpAll_mono sb _ r)
  · rename_i kvs hi
    refine still_slots g S hi rfl fun p o B' sb hp ho => ?_
    obtain ⟨vs, rfl, r1, r⟩ := ho
    exact ⟨p, vs, rfl, .inl hp, r1, dpAll_mono sb _ r⟩
  · rename_i kvs hi
    refine still_slots g S hi rfl fun p o B' sb hp ho => ?_
    obtain ⟨vs, rfl, r1, r⟩ := ho
    exact ⟨p, vs, rfl, .inl hp, r1, dpAll_mono sb _ r⟩
  · exact ⟨B, g, Same.refl _, S⟩
theorem pc_fz (i : Nat) (h : PCs X rest F) : PCs X rest (fun ρ => F (fzR i ρ)) := pss_imp h fun D σ H h => by
  obtain ⟨B0, H0, B, ρ, out, g, S, e, q⟩ := h
  obtain ⟨B', g', sb, S'⟩ := fz_slots i g S
  exact ⟨B0, H0, B', fzR i ρ, out, g', S', e, q.mono sb⟩
end

/-! ### a def by its body -/
def startR (n : Nat) (ws : List W) : Ro := ws.map .w ++ List.replicate (n - ws.length) .no
theorem start_slots {K : Fr} {B H : Hp} {vs : List V} {ws : List W} (N : List Str) (s : Same B H) (r : RwAll K B vs ws) (hl : ws.length ≤ N.length) : Slots K H B H (L2.start N vs) (startR N.length ws) := by
  have el := rwa_len r
  have none_own : ∀ (i : Nat) (s : Sl), (startR N.length ws)[i]? = some s → s.own = true → False := fun i s h ho => by
    unfold startR at h
    by_cases hi : i < ws.length
    · rw [List.getElem?_append_left (by simpa using hi), List.getElem?_map] at h
      cases e : ws[i]? with
      | none => rw [e] at h; cases h
      | some w => rw [e] at h; cases h; cases ho
    · rw [List.getElem?_append_right (by simpa using hi)] at h
      have := (List.getElem?_eq_some_iff.mp h).2
      rw [List.getElem_replicate] at this
      subst this
      cases ho
  refine ⟨?_, fun i w h => ?_, fun i s h ho => (none_own i s h ho).elim, fun i j s t p h _ ho => (none_own i s h ho).elim⟩
  · unfold L2.start startR
    rw [List.length_append, List.length_append, List.length_map, List.length_map, List.length_replicate, List.length_replicate, el]
  · unfold startR at h
    by_cases hi : i < ws.length
    · rw [List.getElem?_append_left (by simpa using hi), List.getElem?_map] at h
      cases e : ws[i]? with
      | none => rw [e] at h; cases h
      | some w' =>
        rw [e] at h
        cases h
        have at' : ∀ {vs : List V} {ws : List W} {i : Nat}, RwAll K B vs ws → ws[i]? = some w → ∃ v, vs[i]? = some v ∧ Rw K B v w := by
          intro vs ws i r
          induction r generalizing i with
          | nil => intro h; simp at h
          | cons a t ih =>
            intro h
            cases i with
            | zero =>
              have z := Option.some.inj h
              subst z
              exact ⟨_, rfl, a⟩
            | succ i => exact ih (i := i) h
        obtain ⟨v, hv, rv⟩ := at' r e
        refine ⟨v, ?_, rv⟩
        unfold L2.start
        rw [List.getElem?_append_left (by rw [List.length_map, el]; exact hi), List.getElem?_map, hv]
        rfl
    · rw [List.getElem?_append_right (by simpa using hi)] at h
      have := (List.getElem?_eq_some_iff.mp h).2
      rw [List.getElem_replicate] at this
      cases this
def retD : Option Out → Option W
  | some (.rt w) => some w
  | some (.rn xs) => some (.d (.list xs))
  | some (.nx _) => some (.d .none)
  | _ => none
def retL : Option Out → Option (List PyData)
  | some (.rn xs) => some xs
  | _ => none
section
variable {P : Program} {w : World} {K : Fr} {mg : Str → Option Value} {base : Heap}
theorem okD {x qual : Str} {st : Stmt} {f : Addr} {fd : FuncData} {N ps : List Str} {k : Nat} {g : List W → Option W} (F : Fun K x qual st f fd) (S : FnScope N ps (defScope st)) (hl : ps.length ≤ N.length)
    (hlen : ∀ ws w, g ws = some w → ws.length = ps.length)
    (hx : ∃ Fm : Ro → Option Out, (∀ (cdv : Value) (A : Around) (outer : List Env) (s : Shared) (H : Hp) (E : XK), Room k (A.deeper (envOfC qual (defScope st) s.heap.objs.size f cdv)) → PCs (cxOf CX0 P w K mg base N qual (defScope st) f cdv A outer s H E).nox (defBody st) Fm) ∧
      ∀ ws w, g ws = some w → retD (Fm (startR N.length ws)) = some w) : FnOk P w K mg base CX0 (k + 1) f fd ps (spD K g) := by
  obtain ⟨Fm, hb, hg⟩ := hx
  refine F.ok S (fun vs H Q E h => ?_) (fun cdv A outer s H vs Q E hr h => ?_)
  · obtain ⟨B, ws, w, _, r, e, _⟩ := h
    rw [rwa_len r]
    exact hlen ws w e
  · obtain ⟨B, ws, w, sm, r, e, q⟩ := h
    refine ⟨_, hb cdv A outer s H E hr, ?_⟩
    have h1 := hg ws w e
    unfold retD at h1
    split at h1
    · rename_i u hu
      cases h1
      exact ⟨B, H, B, _, _, Grow.refl sm, start_slots N sm r (by rw [hlen ws _ e]; exact hl), hu, q⟩
    · rename_i u hu
      cases h1
      refine ⟨B, H, B, _, _, Grow.refl sm, start_slots N sm r (by rw [hlen ws _ e]; exact hl), hu, fun p vs B' H' g' hp hb' h' ha => ?_⟩
      exact q _ _ _ (g'.still h' hp hb') (.lst (.inl upd_same) (dpAll_mono (fun a u e => by rw [upd_ne (ne_of_none e hb')]; exact e) _ ha))
    · rename_i u hu
      cases h1
      exact ⟨B, H, B, _, _, Grow.refl sm, start_slots N sm r (by rw [hlen ws _ e]; exact hl), hu, fun σ B' H' g' _ _ => q _ B' H' g' .non⟩
    · cases h1
theorem okN {x qual : Str} {st : Stmt} {f : Addr} {fd : FuncData} {N ps : List Str} {k : Nat} {g : List W → Option (List PyData)} (F : Fun K x qual st f fd) (S : FnScope N ps (defScope st)) (hl : ps.length ≤ N.length)
    (hlen : ∀ ws w, g ws = some w → ws.length = ps.length)
    (hx : ∃ Fm : Ro → Option Out, (∀ (cdv : Value) (A : Around) (outer : List Env) (s : Shared) (H : Hp) (E : XK), Room k (A.deeper (envOfC qual (defScope st) s.heap.objs.size f cdv)) → PCs (cxOf CX0 P w K mg base N qual (defScope st) f cdv A outer s H E).nox (defBody st) Fm) ∧
      ∀ ws w, g ws = some w → retL (Fm (startR N.length ws)) = some w) : FnOk P w K mg base CX0 (k + 1) f fd ps (spN K g) := by
  obtain ⟨Fm, hb, hg⟩ := hx
  refine F.ok S (fun vs H Q E h => ?_) (fun cdv A outer s H vs Q E hr h => ?_)
  · obtain ⟨B, ws, w, _, r, e, _⟩ := h
    rw [rwa_len r]
    exact hlen ws w e
  · obtain ⟨B, ws, w, sm, r, e, q⟩ := h
    refine ⟨_, hb cdv A outer s H E hr, ?_⟩
    have h1 := hg ws w e
    unfold retL at h1
    split at h1
    · rename_i u hu
      cases h1
      exact ⟨B, H, B, _, _, Grow.refl sm, start_slots N sm r (by rw [hlen ws _ e]; exact hl), hu, q⟩
    · cases h1
end
end PD

/-! loops, comprehensions, what is walked, by content -/
namespace PD
open PySem PySem.Spec PyProof.Rows L2

/-! ### slots off a list of targets -/
theorem wipe_at (σ : L2.St) : ∀ (vs : List Nat) (j : Nat), (L2.wipe σ vs)[j]? = if j ∈ vs then (σ[j]?).map (fun _ => none) else σ[j]?
  | [], j => by simp [L2.wipe]
  | v :: vs, j => by
    show ((L2.wipe σ vs).set v none)[j]? = _
    rw [List.getElem?_set, wipe_at σ vs j, L2.wipe_length]
    by_cases e : v = j
    · subst e
      rw [if_pos rfl, if_pos List.mem_cons_self]
      by_cases hl : v < σ.length
      · rw [if_pos hl, List.getElem?_eq_getElem hl]
        rfl
      · rw [if_neg hl, List.getElem?_eq_none (by omega)]
        rfl
    · rw [if_neg e]
      have h : (j ∈ v :: vs) ↔ (j ∈ vs) := by
        rw [List.mem_cons]
        exact ⟨fun z => z.resolve_left fun q => e q.symm, .inr⟩
      simp only [h]
theorem wipe_eq {σ τ : L2.St} {vs : List Nat} (hl : σ.length = τ.length) (h : ∀ j, j ∉ vs → σ[j]? = τ[j]?) : L2.wipe σ vs = L2.wipe τ vs := by
  apply List.ext_getElem?
  intro j
  rw [wipe_at, wipe_at]
  by_cases hj : j ∈ vs
  · rw [if_pos hj, if_pos hj]
    by_cases hjl : j < σ.length
    · rw [List.getElem?_eq_getElem hjl, List.getElem?_eq_getElem (by omega)]
      rfl
    · rw [List.getElem?_eq_none (by omega), List.getElem?_eq_none (by omega)]
  · rw [if_neg hj, if_neg hj]
    exact h j hj
/-- σ' is σ but at the places is -/
def Off (is : List Nat) (σ σ' : L2.St) : Prop := σ'.length = σ.length ∧ ∀ j, j ∉ is → σ'[j]? = σ[j]?
theorem Off.refl (is : List Nat) (σ : L2.St) : Off is σ σ := ⟨rfl, fun _ _ => rfl⟩
theorem Off.trans {is js : List Nat} {σ σ1 σ2 : L2.St} (a : Off is σ σ1) (b : Off js σ1 σ2) : Off (is ++ js) σ σ2 :=
  ⟨b.1.trans a.1, fun j h => by
    rw [List.mem_append, not_or] at h
    rw [b.2 j h.2, a.2 j h.1]⟩
theorem Off.set (i : Nat) (σ : L2.St) (x : Option V) : Off [i] σ (σ.set i x) := ⟨List.length_set, fun j h => List.getElem?_set_ne (by simpa using fun e : i = j => h (by simp [e]))⟩
theorem Off.wipe {is vs : List Nat} {σ σ' : L2.St} (o : Off is (L2.wipe σ vs) σ') (h : ∀ i ∈ is, i ∈ vs) : L2.wipe σ' vs = L2.wipe σ vs := by
  have e : L2.wipe (L2.wipe σ vs) vs = L2.wipe σ vs := by
    apply List.ext_getElem?
    intro j
    rw [wipe_at, wipe_at]
    by_cases hj : j ∈ vs
    · rw [if_pos hj, if_pos hj]
      cases σ[j]? <;> rfl
    · rw [if_neg hj, if_neg hj]
  rw [← e]
  exact wipe_eq o.1 fun j hj => o.2 j fun z => hj (h j z)

/-! ### targets -/
def tG (K : Fr) (is : List Nat) (g : W → Ro → Option Ro) : TG := fun v σ H Q => ∃ H0 B ρ w ρ', Same B H ∧ Slots K H0 B H σ ρ ∧ Rw K B v w ∧ g w ρ = some ρ' ∧ ∀ σ', Off is σ σ' → Slots K H0 B H σ' ρ' → Q σ' H
def tGs (K : Fr) (is : List Nat) (g : List PyData → Ro → Option Ro) : TGs := fun vs σ H Q => ∃ H0 B ρ ds ρ', Same B H ∧ Slots K H0 B H σ ρ ∧ DqAll B vs ds ∧ g ds ρ = some ρ' ∧ ∀ σ', Off is σ σ' → Slots K H0 B H σ' ρ' → Q σ' H
abbrev PGD (X : Cx) (tg : Expr) (is : List Nat) (g : W → Ro → Option Ro) : Prop := PG X tg (tG X.K is g)
abbrev PGDs (X : Cx) (tgs : List Expr) (is : List Nat) (g : List PyData → Ro → Option Ro) : Prop := PGs X tgs (tGs X.K is g)
section
variable {X : Cx} {pos : Pos}
theorem pg_imp {e : Expr} {t t' : TG} (h : PG X e t) (i : ∀ v σ H Q, t' v σ H Q → t v σ H Q) : PG X e t' := ⟨fun pins s σ H v u Q I r q => h.run pins s σ H v u Q I r (i v σ H Q q)⟩
theorem pgs_imp {e : List Expr} {t t' : TGs} (h : PGs X e t) (i : ∀ v σ H Q, t' v σ H Q → t v σ H Q) : PGs X e t' := ⟨fun pins s σ H v u Q I r q => h.run pins s σ H v u Q I r (i v σ H Q q)⟩
def gN (i : Nat) : W → Ro → Option Ro := fun w ρ => some (ρ.set i (.w w))
theorem pgd_name (i : Nat) {x : Str} (hN : X.N.Nodup) (hi : X.N[i]? = some x := by rfl) (hx : Loc X.env.scope x := by first | exact .inl rfl | exact .inr rfl) (hf : X.fn x = true ∨ X.env.scope.names.lookup x = some .local := by first | exact .inl rfl | exact .inr rfl) : PGD X (.Name x pos) [i] (gN i) :=
  pg_imp (pg_name hN hi hx hf) fun v σ H Q h => by
    obtain ⟨H0, B, ρ, w, ρ', s, S, r, e, q⟩ := h
    cases e
    exact q _ (Off.set i σ _) (S.setW r)
def gsN : List PyData → Ro → Option Ro := fun ds ρ => match ds with
  | [] => some ρ
  | _ :: _ => none
def gsC (g : W → Ro → Option Ro) (gs : List PyData → Ro → Option Ro) : List PyData → Ro → Option Ro := fun ds ρ => match ds with
  | [] => none
  | d :: ds => (g (.d d) ρ).bind (gs ds)
theorem pgds_nil : PGDs X [] [] gsN := pgs_imp pgs_nil fun v σ H Q h => by
  obtain ⟨H0, B, ρ, ds, ρ', s, S, r, e, q⟩ := h
  cases r with
  | nil =>
    cases e
    exact ⟨rfl, q σ (Off.refl _ _) S⟩
  | cons a t => cases e
theorem pgds_cons {t : Expr} {ts : List Expr} {is js : List Nat} {g : W → Ro → Option Ro} {gs : List PyData → Ro → Option Ro} (h1 : PGD X t is g) (h2 : PGDs X ts js gs) (hs : (assignEach (t :: ts) X.env).map (·.2) = assign t X.env :: (assignEach ts X.env).map (·.2) := by rfl) :
    PGDs X (t :: ts) (is ++ js) (gsC g gs) := pgs_imp (pgs_cons h1 h2 hs) fun v σ H Q h => by
  obtain ⟨H0, B, ρ, ds, ρ', s, S, r, e, q⟩ := h
  cases r with
  | nil => cases e
  | cons a t =>
    unfold gsC at e
    rename_i v vs d ds
    dsimp only at e
    cases e1 : g (.d d) ρ with
    | none => rw [e1] at e; cases e
    | some ρ1 =>
      rw [e1] at e
      exact ⟨_, _, rfl, H0, B, ρ, .d d, ρ1, s, S, a, e1, fun σ1 o1 S1 => ⟨H0, B, ρ1, ds, ρ', s, S1, t, e, fun σ2 o2 S2 => q σ2 (o1.trans o2) S2⟩⟩
def gT (n : Nat) (gs : List PyData → Ro → Option Ro) : W → Ro → Option Ro := fun w ρ => match w with
  | .d (.tuple ds) => if ds.length = n then gs ds ρ else none
  | _ => none
theorem pgd_tup {es : List Expr} {k n : Nat} {is : List Nat} {gs : List PyData → Ro → Option Ro} (hc : X.calm = true) (h : PGDs X es is gs) (hn : (assignEach es X.env).length = n := by rfl) (hst : (assignEach es X.env).findIdx? (·.1) = none := by rfl) :
    PGD X (.Tuple es k pos) is (gT n gs) := pg_imp (pg_tup hc h hn hst) fun v σ H Q h => by
  obtain ⟨H0, B, ρ, w, ρ', s, S, r, e, q⟩ := h
  unfold gT at e
  split at e
  · rename_i ds
    obtain ⟨a, xs, rfl, h1, h2⟩ := dp_tup r
    by_cases hl : ds.length = n
    · rw [if_pos hl] at e
      exact ⟨a, xs, rfl, sqt_of (rd_mono s h1), by rw [dpa_len h2]; exact hl, H0, B, ρ, ds, ρ', s, S, h2, e, q⟩
    · rw [if_neg hl] at e
      cases e
  · cases e
/-- a, b = e -/
def setG (g : W → Ro → Option Ro) (fa : Ro → Option W) : Ro → Option Out := fun ρ => (fa ρ).bind fun w => (g w ρ).map .nx
theorem pc_asg {tg e : Expr} {is : List Nat} {g : W → Ro → Option Ro} {fa : Ro → Option W} (he : PD X e fa) (hg : PGD X tg is g) (hs : swapsWithSole [tg] e pos.line X.env = pure false := by rfl) (hw : swappedStores [tg] e X.env = pure none := by rfl)
    (h1 : (assignEach [tg] X.env).map (·.2) = [assign tg X.env] := by rfl) : PC X (.Assign [tg] e pos) (setG g fa) := ps_imp (ps_asg he hg hs hw h1) fun D σ H h => by
  obtain ⟨B0, H0, B, ρ, out, g', S, e, q⟩ := h
  unfold setG at e
  cases ea : fa ρ with
  | none => rw [ea] at e; cases e
  | some w =>
    rw [ea, Option.bind_some] at e
    cases eg : g w ρ with
    | none => rw [eg] at e; cases e
    | some ρ' =>
      rw [eg] at e
      cases e
      exact ⟨H0, B, ρ, w, g'.s, S, ea, fun v B1 H1 g1 r1 => ⟨H0, B1, ρ, w, ρ', g1.s, S.mono g'.s g1, r1, eg, fun σ' _ S' => q σ' B1 H1 (g'.trans g1) g1.b S'⟩⟩
/-- a, b = x, y: plain local names -/
def parF (i j : Nat) (fa fb : Ro → Option W) : Ro → Option Out := fun ρ => (fa ρ).bind fun a => (fb ρ).map fun b => .nx ((ρ.set i (.w a)).set j (.w b))
end

/-! ### what is walked -/
def WalkD (K : Fr) (J : It) (ws : List W) (B : Hp) : Prop := ∀ B2 H2, Same B B2 → Same B2 H2 →
  (∀ i, i < ws.length → J.go i H2 ∧ ∀ x H3, J.yld i H2 x H3 → ∃ B3 w, Grow B2 H2 B3 H3 ∧ ws[i]? = some w ∧ Rw K B3 x w) ∧ J.stop ws.length H2
def tI (K : Fr) (f : Ro → Option (List W)) : TI := fun σ H R => ∃ H0 B ρ ws, Same B H ∧ Slots K H0 B H σ ρ ∧ f ρ = some ws ∧ ∀ J B' H', Grow B H B' H' → WalkD K J ws B' → R J H'
abbrev PW (X : Cx) (tg iter : Expr) (f : Ro → Option (List W)) : Prop := PI X tg iter (tI X.K f)
section
variable {X : Cx} {tg : Expr} {pos : Pos}
theorem pi_imp {e : Expr} {t t' : TI} (h : PI X tg e t) (i : ∀ σ H R, t' σ H R → t σ H R) : PI X tg e t' := ⟨fun pins s σ H R I q => h.run pins s σ H R I (i σ H R q)⟩
theorem walkd_list {K : Fr} {B : Hp} {a : Addr} {xs : List V} {ds : List PyData} (h : Rd B a (.lst xs)) (r : DqAll B xs ds) : WalkD K (Itl K a) (ds.map .d) B := fun B2 H2 s1 s2 => by
  have hl := dpa_len r
  have h2 : SqL K H2 a xs := .inl (rd_mono (s1.trans s2) h)
  refine ⟨fun i hi => ?_, xs, h2, by rw [List.length_map, hl]; exact Nat.le_refl _⟩
  rw [List.length_map, ← hl] at hi
  refine ⟨⟨xs, xs[i], h2, List.getElem?_eq_getElem hi⟩, fun x H3 y => ?_⟩
  obtain ⟨rfl, y⟩ := y
  obtain ⟨d, e, rd⟩ := dpa_get r (y xs h2)
  exact ⟨B2, .d d, Grow.refl s2, by rw [List.getElem?_map, e]; rfl, dp_mono s1 d rd⟩
theorem walkd_tup {K : Fr} {B : Hp} {a : Addr} {xs : List V} {ds : List PyData} (h : Rd B a (.tup xs)) (r : DqAll B xs ds) : WalkD K (Itt K a) (ds.map .d) B := fun B2 H2 s1 s2 => by
  have hl := dpa_len r
  have h2 : SqT K H2 a xs := .inl (rd_mono (s1.trans s2) h)
  refine ⟨fun i hi => ?_, xs, h2, by rw [List.length_map, hl]; exact Nat.le_refl _⟩
  rw [List.length_map, ← hl] at hi
  refine ⟨⟨xs, xs[i], h2, List.getElem?_eq_getElem hi⟩, fun x H3 y => ?_⟩
  obtain ⟨rfl, y⟩ := y
  obtain ⟨d, e, rd⟩ := dpa_get r (y xs h2)
  exact ⟨B2, .d d, Grow.refl s2, by rw [List.getElem?_map, e]; rfl, dp_mono s1 d rd⟩
def lstW : W → Option (List W)
  | .d (.list ds) => some (ds.map .d)
  | _ => none
def tupW : W → Option (List W)
  | .d (.tuple ds) => some (ds.map .d)
  | _ => none
def fSeq (g : W → Option (List W)) (fa : Ro → Option W) : Ro → Option (List W) := fun ρ => (fa ρ).bind g
theorem pw_list {e : Expr} {fa : Ro → Option W} (h : PD X e fa) : PW X tg e (fSeq lstW fa) := pi_imp (pi_list h) fun σ H R h => by
  obtain ⟨H0, B, ρ, ws, s, S, e, q⟩ := h
  unfold fSeq at e
  cases ea : fa ρ with
  | none => rw [ea] at e; cases e
  | some w =>
    rw [ea, Option.bind_some] at e
    refine ⟨H0, B, ρ, w, s, S, ea, fun v B1 H1 g1 r1 => ?_⟩
    unfold lstW at e
    split at e
    · cases e
      obtain ⟨a, xs, rfl, h1, h2⟩ := dp_lst r1
      exact ⟨a, rfl, ⟨xs, .inl (rd_mono g1.s h1)⟩, q _ B1 H1 g1 (walkd_list h1 h2)⟩
    · cases e
theorem pw_tup {e : Expr} {fa : Ro → Option W} (h : PD X e fa) : PW X tg e (fSeq tupW fa) := pi_imp (pi_tup h) fun σ H R h => by
  obtain ⟨H0, B, ρ, ws, s, S, e, q⟩ := h
  unfold fSeq at e
  cases ea : fa ρ with
  | none => rw [ea] at e; cases e
  | some w =>
    rw [ea, Option.bind_some] at e
    refine ⟨H0, B, ρ, w, s, S, ea, fun v B1 H1 g1 r1 => ?_⟩
    unfold tupW at e
    split at e
    · cases e
      obtain ⟨a, xs, rfl, h1, h2⟩ := dp_tup r1
      exact ⟨a, rfl, ⟨xs, .inl (rd_mono g1.s h1)⟩, q _ B1 H1 g1 (walkd_tup h1 h2)⟩
    · cases e
/-- range(n) -/
def rngW (lo : Int) (n : Nat) : List W := (List.range n).map fun (k : Nat) => .d (.int (lo + (k : Int)))
theorem walkd_rng {K : Fr} {B : Hp} (lo : Int) (n : Nat) : WalkD K (Itr lo n) (rngW lo n) B := fun B2 H2 s1 s2 => by
  have hl : (rngW lo n).length = n := by unfold rngW; rw [List.length_map, List.length_range]
  refine ⟨fun i hi => ?_, by rw [hl]; exact Nat.le_refl n⟩
  rw [hl] at hi
  refine ⟨hi, fun x H3 y => ?_⟩
  obtain ⟨rfl, rfl⟩ := y
  refine ⟨B2, .d (.int (lo + (i : Int))), Grow.refl s2, ?_, .int _⟩
  unfold rngW
  rw [List.getElem?_map, List.getElem?_range hi]
  rfl
def rng1W : List W → Option (List W)
  | [.d (.int n)] => if n.natAbs ≤ 10000000 then some (rngW 0 n.toNat) else none
  | _ => none
def fRng (g : List W → Option (List W)) (fr : Ro → Option (List W)) : Ro → Option (List W) := fun ρ => (fr ρ).bind g
theorem pw_rng1 {a : Expr} {fr : Ro → Option (List W)} {p : Pos} (hg : Gl X "range") (hm : X.mg "range" = none) (ha : PL X [a] fr) (hs : starEach [a] X.env = [(false, eval a X.env)] := by rfl) : PW X tg (.Call (.Name "range" p) [a] [] pos) (fRng rng1W fr) := pi_imp (pi_range1 hg hm ha hs) fun σ H R h => by
  obtain ⟨H0, B, ρ, ws, s, S, e, q⟩ := h
  unfold fRng at e
  cases ea : fr ρ with
  | none => rw [ea] at e; cases e
  | some w =>
    rw [ea, Option.bind_some] at e
    refine ⟨H0, B, ρ, w, s, S, ea, fun vs B1 H1 g1 r1 => ?_⟩
    unfold rng1W at e
    split at e
    · rename_i n
      split at e
      · rename_i hc
        cases e
        cases r1 with
        | cons a t =>
          cases t
          exact ⟨n, by rw [dp_int a], by omega, by omega, q _ B1 H1 g1 (walkd_rng 0 n.toNat)⟩
      · cases e
    · cases e
def rng2W : List W → Option (List W)
  | [.d (.int i), .d (.int j)] => if i.natAbs ≤ 10000000 ∧ j.natAbs ≤ 10000000 then some (rngW i (j - i).toNat) else none
  | _ => none
theorem pw_rng2 {a b : Expr} {fr : Ro → Option (List W)} {p : Pos} (hg : Gl X "range") (hm : X.mg "range" = none) (ha : PL X [a, b] fr) (hs : starEach [a, b] X.env = [(false, eval a X.env), (false, eval b X.env)] := by rfl) (hs2 : starEach [b] X.env = [(false, eval b X.env)] := by rfl) :
    PW X tg (.Call (.Name "range" p) [a, b] [] pos) (fRng rng2W fr) := pi_imp (pi_range2 hg hm ha hs hs2) fun σ H R h => by
  obtain ⟨H0, B, ρ, ws, s, S, e, q⟩ := h
  unfold fRng at e
  cases ea : fr ρ with
  | none => rw [ea] at e; cases e
  | some w =>
    rw [ea, Option.bind_some] at e
    refine ⟨H0, B, ρ, w, s, S, ea, fun vs B1 H1 g1 r1 => ?_⟩
    unfold rng2W at e
    split at e
    · rename_i i j
      split at e
      · rename_i hc
        cases e
        cases r1 with
        | cons a t =>
          cases t with
          | cons b t =>
            cases t
            exact ⟨i, j, by rw [dp_int a, dp_int b], ⟨by omega, by omega, by omega, by omega⟩, q _ B1 H1 g1 (walkd_rng i _)⟩
      · cases e
    · cases e
/-- reversed(range(n)) -/
def rrgW (n : Nat) : List W := (List.range n).map fun (k : Nat) => .d (.int ((n : Int) - 1 - (k : Int)))
def fRrg (fa : Ro → Option W) : Ro → Option (List W) := fun ρ => (fa ρ).bind fun w => match w with
  | .d (.int n) => if n.natAbs ≤ 10000000 then some (rrgW n.toNat) else none
  | _ => none
theorem pw_rrg {a : Expr} {fa : Ro → Option W} {p p2 pos2 : Pos} (hg : Gl X "reversed") (hm : X.mg "reversed" = none) (hg2 : Gl X "range") (hm2 : X.mg "range" = none) (ha : PD X a fa) (na : starEach [a] X.env = (false, eval a X.env) :: starEach [] X.env := by rfl)
    (hs : starEach [.Call (.Name "range" p2) [a] [] pos2] X.env = (false, eval (.Call (.Name "range" p2) [a] [] pos2) X.env) :: starEach [] X.env := by rfl) :
    PW X tg (.Call (.Name "reversed" p) [.Call (.Name "range" p2) [a] [] pos2] [] pos) (fRrg fa) := pi_imp (pi_revR hg hm (prg_1 hg2 hm2 ha na) hs) fun σ H R h => by
  obtain ⟨H0, B, ρ, ws, s, S, e, q⟩ := h
  unfold fRrg at e
  cases ea : fa ρ with
  | none => rw [ea] at e; cases e
  | some w =>
    rw [ea, Option.bind_some] at e
    refine ⟨H0, B, ρ, w, s, S, ea, fun v B1 H1 g1 r1 => ?_⟩
    split at e
    · rename_i n
      split at e
      · rename_i hc
        cases e
        refine ⟨n, dp_int r1, by omega, by omega, by omega, by omega, ?_⟩
        refine q _ B1 H1 g1 fun B2 H2 s1 s2 => ?_
        have hl : (rrgW n.toNat).length = n.toNat := by unfold rrgW; rw [List.length_map, List.length_range]
        refine ⟨fun i hi => ?_, by rw [hl]; show (n - 0).toNat ≤ n.toNat; omega⟩
        rw [hl] at hi
        refine ⟨by show i < (n - 0).toNat; omega, fun x H3 y => ?_⟩
        obtain ⟨rfl, rfl⟩ := y
        refine ⟨B2, .d (.int ((n.toNat : Int) - 1 - (i : Int))), Grow.refl s2, ?_, ?_⟩
        · unfold rrgW
          rw [List.getElem?_map, List.getElem?_range hi]
          rfl
        · have ez : (0 : Int) + (((n - 0).toNat : Nat) : Int) - 1 + (i : Int) * (-1) = (n.toNat : Int) - 1 - (i : Int) := by omega
          rw [ez]
          exact .int _
      · cases e
    · cases e
/-- enumerate(list) -/
def enumW : List W → Option (List W)
  | [.d (.list ds)] => some ((List.range ds.length).map fun (k : Nat) => .d (.tuple [.int (k : Int), ds.getD k .none]))
  | _ => none
theorem pw_enum {e : Expr} {fr : Ro → Option (List W)} {p tpos : Pos} {elts : List Expr} {kk : Nat} (hg : Gl X "enumerate") (hm : X.mg "enumerate" = none) (ha : PL X [e] fr) (hs : starEach [e] X.env = [(false, eval e X.env)] := by rfl) :
    PW X (.Tuple elts kk tpos) (.Call (.Name "enumerate" p) [e] [] pos) (fRng enumW fr) := pi_imp (pi_enum hg hm ha hs) fun σ H R h => by
  obtain ⟨H0, B, ρ, ws, s, S, e, q⟩ := h
  unfold fRng at e
  cases ea : fr ρ with
  | none => rw [ea] at e; cases e
  | some w =>
    rw [ea, Option.bind_some] at e
    refine ⟨H0, B, ρ, w, s, S, ea, fun vs B1 H1 g1 r1 => ?_⟩
    unfold enumW at e
    split at e
    · rename_i ds
      cases e
      cases r1 with
      | cons a t =>
        cases t
        obtain ⟨p, xs, rfl, h1, h2⟩ := dp_lst a
        refine ⟨p, xs, rfl, sql_of (rd_mono g1.s h1), q _ B1 H1 g1 fun B2 H2 s1 s2 => ?_⟩
        have hl := dpa_len h2
        have h3 : SqL X.K H2 _ xs := .inl (rd_mono (s1.trans s2) h1)
        refine ⟨fun i hi => ?_, xs, h3, by rw [List.length_map, List.length_range, hl]; exact Nat.le_refl _⟩
        rw [List.length_map, List.length_range] at hi
        refine ⟨⟨xs, xs[i]'(by omega), h3, List.getElem?_eq_getElem (by omega)⟩, fun v H3 y => ?_⟩
        obtain ⟨T, x, rfl, hT, rfl, y⟩ := y
        obtain ⟨d, e, rd⟩ := dpa_get h2 (y xs h3)
        have g3 := Grow.new s2 (o := .tup [.int (i : Nat), x]) hT
        refine ⟨_, .d (.tuple [.int (i : Int), d]), g3, ?_, Dq.tup (.inl upd_same) (.cons (.int _) (.cons (dp_mono (s1.trans g3.b) d rd) .nil))⟩
        rw [List.getElem?_map, List.getElem?_range hi]
        show some (W.d (.tuple [.int (i : Int), ds.getD i .none])) = _
        rw [List.getD_eq_getElem?_getD, e]
        rfl
    · cases e
/-- zip of two lists, of two tuples -/
def zipD (ds es : List PyData) : List W := (List.range (min ds.length es.length)).map fun (k : Nat) => .d (.tuple [ds.getD k .none, es.getD k .none])
def zipW : List W → Option (List W)
  | [.d (.list ds), .d (.list es)] => some (zipD ds es)
  | [.d (.tuple ds), .d (.tuple es)] => some (zipD ds es)
  | _ => none
theorem zip_len (ds es : List PyData) : (zipD ds es).length = min ds.length es.length := by unfold zipD; rw [List.length_map, List.length_range]
theorem zip_at {ds es : List PyData} {i : Nat} {d e : PyData} (hd : ds[i]? = some d) (he : es[i]? = some e) : (zipD ds es)[i]? = some (.d (.tuple [d, e])) := by
  have h1 := (List.getElem?_eq_some_iff.mp hd).1
  have h2 := (List.getElem?_eq_some_iff.mp he).1
  unfold zipD
  rw [List.getElem?_map, List.getElem?_range (by omega)]
  show some (W.d (.tuple [ds.getD i .none, es.getD i .none])) = _
  rw [List.getD_eq_getElem?_getD, List.getD_eq_getElem?_getD, hd, he]
  rfl
theorem pw_zip {e e2 : Expr} {fr : Ro → Option (List W)} {p tpos : Pos} {elts : List Expr} {kk : Nat} (hg : Gl X "zip") (hm : X.mg "zip" = none) (ha : PL X [e, e2] fr)
    (hs : starEach [e, e2] X.env = (false, eval e X.env) :: starEach [e2] X.env := by rfl) (hpl : (backTo pos (starEach [e2] X.env)).any (·.1) = false := by rfl) :
    PW X (.Tuple elts kk tpos) (.Call (.Name "zip" p) [e, e2] [] pos) (fRng zipW fr) := pi_imp (RZ.pi_zipA hg hm ha hs hpl) fun σ H R h => by
  obtain ⟨H0, B, ρ, ws, s, S, e, q⟩ := h
  unfold fRng at e
  cases ea : fr ρ with
  | none => rw [ea] at e; cases e
  | some w =>
    rw [ea, Option.bind_some] at e
    refine ⟨H0, B, ρ, w, s, S, ea, fun vs B1 H1 g1 r1 => ?_⟩
    unfold zipW at e
    split at e
    · rename_i ds es
      cases e
      cases r1 with
      | cons a t =>
        cases t with
        | cons b t =>
          cases t
          obtain ⟨pa, xs, rfl, h1, h2⟩ := dp_lst a
          obtain ⟨pb, ys, rfl, k1, k2⟩ := dp_lst b
          refine ⟨pa, pb, xs, ys, rfl, .inl ⟨sql_of (rd_mono g1.s h1), sql_of (rd_mono g1.s k1), q _ B1 H1 g1 fun B2 H2 s1 s2 => ?_⟩⟩
          have hl := dpa_len h2
          have kl := dpa_len k2
          have h3 : SqL X.K H2 _ xs := .inl (rd_mono (s1.trans s2) h1)
          have k3 : SqL X.K H2 _ ys := .inl (rd_mono (s1.trans s2) k1)
          refine ⟨fun i hi => ?_, xs, ys, h3, k3, by rw [zip_len]; omega⟩
          rw [zip_len] at hi
          refine ⟨⟨xs, ys, xs[i]'(by omega), ys[i]'(by omega), h3, k3, List.getElem?_eq_getElem (by omega), List.getElem?_eq_getElem (by omega)⟩, fun v H3 y => ?_⟩
          obtain ⟨T, x, z, rfl, hT, rfl, y1, y2⟩ := y
          obtain ⟨d, ed, rd⟩ := dpa_get h2 (y1 xs h3)
          obtain ⟨d', ed', rd'⟩ := dpa_get k2 (y2 ys k3)
          have g3 := Grow.new s2 (o := .tup [x, z]) hT
          exact ⟨_, _, g3, zip_at ed ed', Dq.tup (.inl upd_same) (.cons (dp_mono (s1.trans g3.b) d rd) (.cons (dp_mono (s1.trans g3.b) d' rd') .nil))⟩
    · rename_i ds es
      cases e
      cases r1 with
      | cons a t =>
        cases t with
        | cons b t =>
          cases t
          obtain ⟨pa, xs, rfl, h1, h2⟩ := dp_tup a
          obtain ⟨pb, ys, rfl, k1, k2⟩ := dp_tup b
          refine ⟨pa, pb, xs, ys, rfl, .inr ⟨sqt_of (rd_mono g1.s h1), sqt_of (rd_mono g1.s k1), q _ B1 H1 g1 fun B2 H2 s1 s2 => ?_⟩⟩
          have hl := dpa_len h2
          have kl := dpa_len k2
          have h3 : SqT X.K H2 _ xs := .inl (rd_mono (s1.trans s2) h1)
          have k3 : SqT X.K H2 _ ys := .inl (rd_mono (s1.trans s2) k1)
          refine ⟨fun i hi => ?_, xs, ys, h3, k3, by rw [zip_len]; omega⟩
          rw [zip_len] at hi
          refine ⟨⟨xs, ys, xs[i]'(by omega), ys[i]'(by omega), h3, k3, List.getElem?_eq_getElem (by omega), List.getElem?_eq_getElem (by omega)⟩, fun v H3 y => ?_⟩
          obtain ⟨T, x, z, rfl, hT, rfl, y1, y2⟩ := y
          obtain ⟨d, ed, rd⟩ := dpa_get h2 (y1 xs h3)
          obtain ⟨d', ed', rd'⟩ := dpa_get k2 (y2 ys k3)
          have g3 := Grow.new s2 (o := .tup [x, z]) hT
          exact ⟨_, _, g3, zip_at ed ed', Dq.tup (.inl upd_same) (.cons (dp_mono (s1.trans g3.b) d rd) (.cons (dp_mono (s1.trans g3.b) d' rd') .nil))⟩
    · cases e
end

/-! ### for -/
def forF (g : W → Ro → Option Ro) (body : Ro → Option Out) : List W → Ro → Option Out
  | [], ρ => some (.nx ρ)
  | w :: ws, ρ => (g w ρ).bind fun ρ1 => (body ρ1).bind fun o => match o with
    | .nx ρ' => forF g body ws ρ'
    | .ct ρ' => forF g body ws ρ'
    | .bk ρ' => some (.nx ρ')
    | .rt w => some (.rt w)
    | .rn xs => some (.rn xs)
def loopF (fi : Ro → Option (List W)) (g : W → Ro → Option Ro) (body : Ro → Option Out) : Ro → Option Out := fun ρ => (fi ρ).bind fun ws => forF g body ws ρ
theorem ts_for {K : Fr} {fi : Ro → Option (List W)} {is : List Nat} {g : W → Ro → Option Ro} {fb : Ro → Option Out} {D : Ends} {σ : L2.St} {H : Hp} (h : tS K (loopF fi g fb) D σ H) : tFor (tI K fi) (tG K is g) (tS K fb) D σ H := by
  obtain ⟨B0, H0, B, ρ, out, gr, S, e, q⟩ := h
  unfold loopF at e
  cases ei : fi ρ with
  | none => rw [ei] at e; cases e
  | some ws =>
    rw [ei, Option.bind_some] at e
    refine ⟨H0, B, ρ, ws, gr.s, S, ei, fun J B1 H1 g1 wk => ?_⟩
    refine ⟨fun i m σ' H' => m = ws.length - i ∧ i ≤ ws.length ∧ ∃ B' ρ', Grow B0 H0 B' H' ∧ Same B1 B' ∧ Slots K H0 B' H' σ' ρ' ∧ forF g fb (ws.drop i) ρ' = some out,
      ⟨ws.length, by simp, Nat.zero_le _, B1, ρ, gr.trans g1, Same.refl _, S.mono gr.s g1, by rw [List.drop_zero]; exact e⟩, fun i m σ' H' hW => ?_⟩
    obtain ⟨rfl, hi, B', ρ', g2, s2, S2, e2⟩ := hW
    obtain ⟨w1, w2⟩ := wk B' H' s2 g2.s
    by_cases hlt : i < ws.length
    · obtain ⟨go, yld⟩ := w1 i hlt
      refine .inr ⟨go, fun σ3 H3 => ∃ B3 ρ3, Grow B0 H0 B3 H3 ∧ Same B1 B3 ∧ Slots K H0 B3 H3 σ3 ρ3 ∧ forF g fb (ws.drop (i + 1)) ρ3 = some out, fun σ3 H3 hN => ⟨ws.length - (i + 1), by omega, rfl, hlt, hN⟩, fun x H3 y => ?_⟩
      obtain ⟨B3, w, g3, ew, rw3⟩ := yld x H3 y
      have ed : ws.drop i = w :: ws.drop (i + 1) := by
        rw [List.drop_eq_getElem_cons hlt]
        congr 1
        rw [List.getElem?_eq_getElem hlt] at ew
        exact Option.some.inj ew
      rw [ed] at e2
      unfold forF at e2
      cases eg : g w ρ' with
      | none => rw [eg] at e2; cases e2
      | some ρ1 =>
        rw [eg, Option.bind_some] at e2
        cases eb : fb ρ1 with
        | none => rw [eb] at e2; cases e2
        | some o =>
          rw [eb, Option.bind_some] at e2
          refine ⟨H0, B3, ρ', w, ρ1, g3.s, S2.mono g2.s g3, rw3, eg, fun σ4 _ S4 => ⟨B0, H0, B3, ρ1, o, g2.trans g3, S4, eb, ?_⟩⟩
          cases o with
          | nx ρ2 => exact fun σ5 B5 H5 g5 s5 S5 => ⟨B5, ρ2, g5, (s2.trans g3.b).trans s5, S5, e2⟩
          | ct ρ2 => exact fun σ5 B5 H5 g5 s5 S5 => ⟨B5, ρ2, g5, (s2.trans g3.b).trans s5, S5, e2⟩
          | bk ρ2 =>
            cases e2
            exact fun σ5 B5 H5 g5 s5 S5 => q σ5 B5 H5 g5 (((g1.b.trans s2).trans g3.b).trans s5) S5
          | rt w => cases e2; exact q
          | rn xs => cases e2; exact q
    · have ez : i = ws.length := by omega
      subst ez
      rw [List.drop_length] at e2
      cases e2
      exact .inl ⟨w2, q σ' B' H' g2 (g1.b.trans s2) S2⟩
theorem pc_for {X : Cx} {tg iter : Expr} {body : List Stmt} {pos : Pos} {fi : Ro → Option (List W)} {is : List Nat} {g : W → Ro → Option Ro} {fb : Ro → Option Out} (hc : X.calm = true) (hi : PW X tg iter fi) (hg : PGD X tg is g) (hb : PCs X body fb)
    (hp : PassesOwn (model X.prog X.w) X.A X.env X.xe) (hs : ∀ x, foldedSetIterable iter X.env x = pure x := by intro _; rfl) : PC X (.For tg iter body [] pos) (loopF fi g fb) :=
  ps_imp (ps_for hp hc hi hg hb hs) fun _ _ _ h => ts_for h
/-! ### while -/
def whileF (c : Ro → Option Bool) (fb : Ro → Option Out) : Nat → Ro → Option Out
  | 0, _ => none
  | n + 1, ρ => (c ρ).bind fun b => if b = true then (fb ρ).bind fun o => match o with
      | .nx ρ' => whileF c fb n ρ'
      | .ct ρ' => whileF c fb n ρ'
      | .bk ρ' => some (.nx ρ')
      | .rt w => some (.rt w)
      | .rn xs => some (.rn xs)
    else some (.nx ρ)
theorem pc_while {X : Cx} {c : Expr} {body : List Stmt} {pos : Pos} {fc : Ro → Option Bool} {fb : Ro → Option Out} (n : Ro → Nat) (hc : PB X c fc) (hb : PCs X body fb) (hp : PassesOwn (model X.prog X.w) X.A X.env X.xe) : PC X (.While c body [] pos) (fun ρ => whileF fc fb (n ρ) ρ) :=
  ps_imp (ps_while hp hc hb) fun D σ H h => by
    obtain ⟨B0, H0, B, ρ, out, gr, S, e, q⟩ := h
    refine ⟨fun m σ' H' => ∃ B' ρ', Grow B0 H0 B' H' ∧ Same B B' ∧ Slots X.K H0 B' H' σ' ρ' ∧ whileF fc fb m ρ' = some out, ⟨n ρ, B, ρ, gr, Same.refl _, S, e⟩, fun m σ' H' hW => ?_⟩
    obtain ⟨B', ρ', g2, s2, S2, e2⟩ := hW
    cases m with
    | zero => cases e2
    | succ m =>
      unfold whileF at e2
      cases ec : fc ρ' with
      | none => rw [ec] at e2; cases e2
      | some b =>
        rw [ec, Option.bind_some] at e2
        refine ⟨H0, B', ρ', b, g2.s, S2, ec, fun B3 H3 g3 => ?_⟩
        cases b with
        | true =>
          rw [if_pos rfl] at e2
          refine iteT ⟨fun σ4 H4 => ∃ B4 ρ4, Grow B0 H0 B4 H4 ∧ Same B B4 ∧ Slots X.K H0 B4 H4 σ4 ρ4 ∧ whileF fc fb m ρ4 = some out, fun σ4 H4 hN => ⟨m, Nat.lt_succ_self _, hN⟩, ?_⟩
          cases eb : fb ρ' with
          | none => rw [eb] at e2; cases e2
          | some o =>
            rw [eb, Option.bind_some] at e2
            refine ⟨B0, H0, B3, ρ', o, g2.trans g3, S2.mono g2.s g3, eb, ?_⟩
            cases o with
            | nx ρ2 => exact fun σ5 B5 H5 g5 s5 S5 => ⟨B5, ρ2, g5, (s2.trans g3.b).trans s5, S5, e2⟩
            | ct ρ2 => exact fun σ5 B5 H5 g5 s5 S5 => ⟨B5, ρ2, g5, (s2.trans g3.b).trans s5, S5, e2⟩
            | bk ρ2 =>
              cases e2
              exact fun σ5 B5 H5 g5 s5 S5 => q σ5 B5 H5 g5 ((s2.trans g3.b).trans s5) S5
            | rt w => cases e2; exact q
            | rn xs => cases e2; exact q
        | false =>
          rw [if_neg Bool.false_ne_true] at e2
          cases e2
          exact iteF (q σ' B3 H3 (g2.trans g3) (s2.trans g3.b) (S2.mono g2.s g3))

/-! ### comprehensions -/
def datW : W → Option PyData
  | .d x => some x
  | _ => none
def lcF (g : W → Ro → Option Ro) (ft : Ro → Option Bool) (fe : Ro → Option W) (ρ : Ro) : List W → Option (List PyData)
  | [] => some []
  | w :: ws => (g w ρ).bind fun ρ1 => (ft ρ1).bind fun b => if b = true then (fe ρ1).bind fun x => (datW x).bind fun d => (lcF g ft fe ρ ws).map (d :: ·) else lcF g ft fe ρ ws
def fLc (vs : List Nat) (fi : Ro → Option (List W)) (g : W → Ro → Option Ro) (ft : Ro → Option Bool) (fe : Ro → Option W) : Ro → Option (List PyData) := fun ρ => (fi ρ).bind fun ws => if ws.length ≤ 100000 then lcF g ft fe (wipeR ρ vs) ws else none
theorem lcF_len {g : W → Ro → Option Ro} {ft : Ro → Option Bool} {fe : Ro → Option W} {ρ : Ro} : ∀ {ws : List W} {xs : List PyData}, lcF g ft fe ρ ws = some xs → xs.length ≤ ws.length
  | [], _, h => by cases h; exact Nat.le_refl _
  | w :: ws, xs, h => by
    unfold lcF at h
    cases e1 : g w ρ with
    | none => rw [e1] at h; cases h
    | some ρ1 =>
      rw [e1, Option.bind_some] at h
      cases e2 : ft ρ1 with
      | none => rw [e2] at h; cases h
      | some b =>
        rw [e2, Option.bind_some] at h
        cases b with
        | true =>
          rw [if_pos rfl] at h
          cases e3 : fe ρ1 with
          | none => rw [e3] at h; cases h
          | some x =>
            rw [e3, Option.bind_some] at h
            cases e4 : datW x with
            | none => rw [e4] at h; cases h
            | some d =>
              rw [e4, Option.bind_some] at h
              cases e5 : lcF g ft fe ρ ws with
              | none => rw [e5] at h; cases h
              | some ys =>
                rw [e5] at h
                cases h
                exact Nat.succ_le_succ (lcF_len e5)
        | false =>
          rw [if_neg Bool.false_ne_true] at h
          exact Nat.le_succ_of_le (lcF_len h)
def fYes : Ro → Option Bool := fun _ => some true
theorem tt_yes {K : Fr} {σ : L2.St} {H : Hp} {Q : Bool → Hp → Prop} (h : tT K fYes σ H Q) : tYes σ H Q := by
  obtain ⟨H0, B, ρ, w, s, S, e, q⟩ := h
  cases e
  exact q B H (Grow.refl s)
theorem tn_lc {K : Fr} {vs is : List Nat} {fi : Ro → Option (List W)} {g : W → Ro → Option Ro} {ft : Ro → Option Bool} {fe : Ro → Option W} {σ : L2.St} {H : Hp} {Q : VK} (his : ∀ i ∈ is, i ∈ vs) (h : tN K (fLc vs fi g ft fe) σ H Q) :
    tLc (tI K fi) (tG K is g) (tT K ft) (tD K fe) vs σ H Q := by
  obtain ⟨H0, B, ρ, xs, s, S, e, q⟩ := h
  unfold fLc at e
  cases ei : fi ρ with
  | none => rw [ei] at e; cases e
  | some ws =>
    rw [ei, Option.bind_some] at e
    by_cases hz : ws.length ≤ 100000
    · rw [if_pos hz] at e
      refine ⟨H0, B, ρ, ws, s, S, ei, fun J B1 H1 g1 wk Dl hD => ?_⟩
      have hDb : B1 Dl = none := g1.s.free hD
      refine ⟨fun i m H' => m = ws.length - i ∧ i ≤ ws.length ∧ ∃ B' us ys zs, Same B1 B' ∧ Same B' H' ∧ Same H1 H' ∧ (∀ p o, B' p = some o → B1 p = none → H1 p = none) ∧ B' Dl = none ∧ H' Dl = some (.lst us) ∧ DqAll B' us ys ∧ us.length ≤ i ∧
        lcF g ft fe (wipeR ρ vs) (ws.drop i) = some zs ∧ xs = ys ++ zs, ⟨ws.length, by simp, Nat.zero_le _, B1, [], [], xs, Same.refl _, ?_, ?_, ?_, hDb, upd_same, .nil, Nat.le_refl _, by rw [List.drop_zero]; exact e, rfl⟩, fun i m H' hW => ?_⟩
      · exact fun a u e => by rw [upd_ne (ne_of_none (g1.s _ _ e) hD)]; exact g1.s _ _ e
      · exact fun a u e => by rw [upd_ne (ne_of_none e hD)]; exact e
      · exact fun p o e e' => by rw [e] at e'; cases e'
      · obtain ⟨rfl, hi, B', us, ys, zs, s1, s2, s3, n4, hb, hd, ha, hu, el, rfl⟩ := hW
        obtain ⟨w1, w2⟩ := wk B' H' s1 s2
        by_cases hlt : i < ws.length
        · obtain ⟨go, yld⟩ := w1 i hlt
          refine .inr ⟨go, fun H3 => ∃ B3 us ys' zs', Same B1 B3 ∧ Same B3 H3 ∧ Same H1 H3 ∧ (∀ p o, B3 p = some o → B1 p = none → H1 p = none) ∧ B3 Dl = none ∧ H3 Dl = some (.lst us) ∧ DqAll B3 us ys' ∧ us.length ≤ i + 1 ∧
            lcF g ft fe (wipeR ρ vs) (ws.drop (i + 1)) = some zs' ∧ ys ++ zs = ys' ++ zs', fun H3 hN => ⟨ws.length - (i + 1), by omega, rfl, hlt, hN⟩, fun x H3 y => ?_⟩
          obtain ⟨B3, w, g3, ew, rw3⟩ := yld x H3 y
          have ed : ws.drop i = w :: ws.drop (i + 1) := by
            rw [List.drop_eq_getElem_cons hlt]
            congr 1
            rw [List.getElem?_eq_getElem hlt] at ew
            exact Option.some.inj ew
          rw [ed] at el
          unfold lcF at el
          have Gs : Grow B H B' H' := ⟨g1.b.trans s1, g1.h.trans s3, s2, fun p o e1 e2 => by
            cases e3 : B1 p with
            | none => exact g1.h.free (n4 p o e1 e3)
            | some u => exact g1.n p u e3 e2⟩
          have Sw : Slots K H0 B3 H3 (L2.wipe σ vs) (wipeR ρ vs) := (S.mono s (Gs.trans g3)).wipe vs
          have hb3 : B3 Dl = none := by
            cases z : B3 Dl with
            | none => rfl
            | some u =>
              have := g3.n Dl u z hb
              rw [hd] at this
              cases this
          have hd3 : H3 Dl = some (.lst us) := g3.h _ _ hd
          cases eg : g w (wipeR ρ vs) with
          | none => rw [eg] at el; cases el
          | some ρ1 =>
            rw [eg, Option.bind_some] at el
            refine ⟨H0, B3, wipeR ρ vs, w, ρ1, g3.s, Sw, rw3, eg, fun σ4 o4 S4 => ⟨o4.wipe his, ?_⟩⟩
            cases et : ft ρ1 with
            | none => rw [et] at el; cases el
            | some b =>
              rw [et, Option.bind_some] at el
              refine ⟨H0, B3, ρ1, b, g3.s, S4, et, fun B5 H5 g5 => ?_⟩
              have G5 := g3.trans g5
              cases b with
              | false =>
                rw [if_neg Bool.false_ne_true] at el
                refine iteF ⟨B5, us, ys, zs, s1.trans G5.b, g5.s, s3.trans G5.h, ?_, ?_, g5.h _ _ hd3, dpAll_mono G5.b _ ha, Nat.le_succ_of_le hu, el, rfl⟩
                · intro p o e1 e2
                  cases e3 : B' p with
                  | none => exact s3.free (G5.n p o e1 e3)
                  | some u => exact n4 p u e3 e2
                · cases z : B5 Dl with
                  | none => rfl
                  | some u =>
                    have := g5.n Dl u z hb3
                    rw [hd3] at this
                    cases this
              | true =>
                rw [if_pos rfl] at el
                refine iteT ?_
                cases ef : fe ρ1 with
                | none => rw [ef] at el; cases el
                | some x1 =>
                  rw [ef, Option.bind_some] at el
                  refine ⟨H0, B5, ρ1, x1, g5.s, S4.mono g3.s g5, ef, fun v B6 H6 g6 r6 => ?_⟩
                  have G6 := G5.trans g6
                  cases ex : datW x1 with
                  | none => rw [ex] at el; cases el
                  | some d =>
                    rw [ex, Option.bind_some] at el
                    have hx : x1 = .d d := by
                      unfold datW at ex
                      split at ex
                      · cases ex; rfl
                      · cases ex
                    subst hx
                    cases ez : lcF g ft fe (wipeR ρ vs) (ws.drop (i + 1)) with
                    | none => rw [ez] at el; cases el
                    | some zs' =>
                      rw [ez] at el
                      cases el
                      have hd6 : H6 Dl = some (.lst us) := g6.h _ _ (g5.h _ _ hd3)
                      have hb6 : B6 Dl = none := by
                        cases z : B6 Dl with
                        | none => rfl
                        | some u =>
                          have := (g5.trans g6).n Dl u z hb3
                          rw [hd3] at this
                          cases this
                      refine ⟨us, hd6, bigl (by omega), B6, us ++ [v], ys ++ [d], zs', s1.trans G6.b, ?_, ?_, ?_, hb6, upd_same, dpa_app (dpAll_mono G6.b _ ha) (.cons r6 .nil), ?_, rfl, by rw [List.append_assoc]; rfl⟩
                      · exact fun a u e => by rw [upd_ne (ne_of_none e hb6)]; exact g6.s _ _ e
                      · exact fun a u e => by rw [upd_ne (ne_of_none e hD)]; exact G6.h _ _ (s3 _ _ e)
                      · intro p o e1 e2
                        cases e3 : B' p with
                        | none => exact s3.free (G6.n p o e1 e3)
                        | some u => exact n4 p u e3 e2
                      · rw [List.length_append, List.length_singleton]
                        omega
        · have ez : i = ws.length := by omega
          subst ez
          rw [List.drop_length] at el
          cases el
          rw [List.append_nil] at q
          refine .inl ⟨w2, q Dl us B' H' ⟨g1.b.trans s1, g1.h.trans s3, s2, fun p o e1 e2 => ?_⟩ (g1.h.free hD) hb hd ha⟩
          cases e3 : B1 p with
          | none => exact g1.h.free (n4 p o e1 e3)
          | some u => exact g1.n p u e3 e2
    · rw [if_neg hz] at e
      cases e
section
variable {X : Cx} {elt tg iter : Expr} {ifs : List Expr} {scope : Scope} {own : List (Str × Nat)} {pos : Pos} {is : List Nat} {fi : Ro → Option (List W)} {g : W → Ro → Option Ro} {ft : Ro → Option Bool} {fe : Ro → Option W}
theorem pts_imp {t t' : TT} (h : PTs X ifs t) (i : ∀ σ H Q, t' σ H Q → t σ H Q) : PTs X ifs t' := ⟨fun pins s σ H Q I q => h.run pins s σ H Q I (i σ H Q q)⟩
abbrev PBs (X : Cx) (ifs : List Expr) (f : Ro → Option Bool) : Prop := PTs X ifs (tT X.K f)
theorem pbs_nil : PBs X [] fYes := pts_imp pts_nil fun _ _ _ h => tt_yes h
theorem pbs_one {c : Expr} {fc : Ro → Option Bool} (h : PB X c fc) : PBs X [c] fc := pts_one h
theorem pn_lc (own : List (Str × Nat)) (hc : X.calm = true) (hN : X.N.Nodup) (hi : PW X tg iter fi) (ok : BlkOk X.N X.env.scope scope own)
    (hg : ∀ (s : Shared) (H : Hp) (C : Addr) (cl : List (Str × Addr)) (fp : List Addr), PGD (X.blk s H scope (compEnvC scope cl C X.env) fp) tg is g) (ht : ∀ (s : Shared) (H : Hp) (C : Addr) (cl : List (Str × Addr)) (fp : List Addr), PBs (X.blk s H scope (compEnvC scope cl C X.env) fp) ifs ft)
    (he : ∀ (s : Shared) (H : Hp) (C : Addr) (cl : List (Str × Addr)) (fp : List Addr), PD (X.blk s H scope (compEnvC scope cl C X.env) fp) elt fe) (his : ∀ i ∈ is, i ∈ own.map (·.2) := by decide) (hs : ∀ x, foldedSetIterable iter X.env x = pure x := by intro _; rfl) :
    PN X (.ListComp elt [⟨tg, iter, ifs, 0⟩] scope pos) (fLc (own.map (·.2)) fi g ft fe) := pe_imp (pe_lc hc hN hi ok hg ht he hs) fun _ _ _ h => tn_lc his h
/-- name = [..] -/
theorem pc_setLc (i : Nat) {y : Str} {py spos : Pos} (own : List (Str × Nat)) (hc : X.calm = true) (hN : X.N.Nodup) (hi : PW X tg iter fi) (ok : BlkOk X.N X.env.scope scope own)
    (hg : ∀ (s : Shared) (H : Hp) (C : Addr) (cl : List (Str × Addr)) (fp : List Addr), PGD (X.blk s H scope (compEnvC scope cl C X.env) fp) tg is g) (ht : ∀ (s : Shared) (H : Hp) (C : Addr) (cl : List (Str × Addr)) (fp : List Addr), PBs (X.blk s H scope (compEnvC scope cl C X.env) fp) ifs ft)
    (he : ∀ (s : Shared) (H : Hp) (C : Addr) (cl : List (Str × Addr)) (fp : List Addr), PD (X.blk s H scope (compEnvC scope cl C X.env) fp) elt fe) (his : ∀ i ∈ is, i ∈ own.map (·.2) := by decide)
    (hy : X.N[i]? = some y := by rfl) (hyl : X.env.scope.names.lookup y = some .local := by rfl) (hsw : swapsWith (.ListComp elt [⟨tg, iter, ifs, 0⟩] scope pos) (some (.Name y py)) spos.line X.env = pure true := by exact sw_true rfl rfl rfl rfl) (hs : ∀ x, foldedSetIterable iter X.env x = pure x := by intro _; rfl) :
    PC X (.Assign [.Name y py] (.ListComp elt [⟨tg, iter, ifs, 0⟩] scope pos) spos) (setN i (fLc (own.map (·.2)) fi g ft fe)) := ps_imp (ps_setLc hc hN hy hyl hsw hi ok hg ht he hs) fun D σ H h => by
  obtain ⟨B0, H0, B, ρ, out, g, S, e, q⟩ := h
  unfold setN at e
  cases ea : fLc (own.map (·.2)) fi _ ft fe ρ with
  | none => rw [ea] at e; cases e
  | some xs =>
    rw [ea] at e
    cases e
    refine tn_lc his ⟨H0, B, ρ, xs, g.s, S, ea, fun p vs B1 H1 g1 hp hb h1 r1 => q _ B1 H1 (g.trans g1) g1.b ((S.mono g.s g1).setO rfl (g.h.free hp) hb h1 ⟨vs, rfl, r1⟩ fun j t _ hj ht z => ?_)⟩
    obtain ⟨p', o, e1, _, _, e4, _⟩ := S.oat j t hj ht
    rw [z] at e1
    cases e1
    rw [hp] at e4
    cases e4
end
end PD

/-! operators, tests, built-ins by content -/
namespace PD
open PySem PySem.Spec PyProof.Rows L2

theorem slot_ty_ne : Slot "type" (cmpInfo .NotEq).2.1 "object.__ne__" := by
  refine .of (owner := "object") (n := "__ne__") ?_ (by decide +kernel) (by decide +kernel) (by decide +kernel) ?_ ?_
  · rw [typeLookup_type, builtinLookup_eq_fast]; kernel_rfl
  · first | exact .inl (by decide +kernel) | exact .inr (by decide +kernel)
  · rw [isSubtype_type]; kernel_rfl
theorem slot_ty_ne2 : Slot "type" (cmpInfo .NotEq).2.2 "object.__ne__" := slot_ty_ne
section
variable {P : Program} {w : World} {A : Around} {E : Value → Shared → Prop} {s : Shared} {Q : Value → Shared → Prop} {m n : String}
theorem ne_ty_call (hm : ∀ s' : Shared, s'.TypeIs (.type m) "type") (h : Q (if (Value.type m == Value.type n) = true then .bool false else .notImplemented) s) :
    wpAny (model P w) A (call (.builtin "object.__ne__") [.type m, .type n]) Q E s := by
  refine wpAny_call_entry slot_ty_ne (hm s) F.cmpEntry_ne ?_ (F.cmpArgs_ne _ _)
  unfold Builtin.«object.__ne__»
  refine wpAny_bind (m := slotArgs "__ne__" 1 _) (wpAny_pure ?_)
  dsimp only
  refine wpAny_bind (wpAny_cRoomFor_or (.inl rfl) ?_)
  cases hk : (Value.type m == Value.type n) with
  | true =>
    rw [hk, if_pos rfl] at h
    refine wpAny_bind (wpAny_callSpecialIfBound?_slot (hm s) TypeEq.slot_type_eq (call_gives TypeEq.slot_type_eq (hm s) PySem.F.entry_object_eq (PySem.F.args_object_eq_2 _ _) (TypeEq.object_eq_same rfl hk) ?_))
    show wpAny (model P w) _ (truthy (.bool true) >>= fun b => ret (Value.bool (!b))) _ _ _
    exact wpAny_bind (wpAny_truthy_bool (wpAny_pure ⟨_, rfl, h⟩))
  | false =>
    rw [hk, if_neg Bool.false_ne_true] at h
    refine wpAny_bind (wpAny_callSpecialIfBound?_slot (hm s) TypeEq.slot_type_eq (call_gives TypeEq.slot_type_eq (hm s) PySem.F.entry_object_eq (PySem.F.args_object_eq_2 _ _) (TypeEq.object_eq_other rfl hk) ?_))
    exact wpAny_pure ⟨_, rfl, h⟩
theorem ne_ty (hm : ∀ s' : Shared, s'.TypeIs (.type m) "type") (hn : ∀ s' : Shared, s'.TypeIs (.type n) "type") (h : Q (.bool (!(Value.type m == Value.type n))) s) : wpAny (model P w) A (compareOp .NotEq (.type m) (.type n)) Q E s := by
  show wpAny _ A (richCompare .NotEq _ _) Q E s
  cases hk : (Value.type m == Value.type n) with
  | true =>
    rw [hk] at h
    refine wpAny_richCompare_same (T := "type") (hm s) (hn s) slot_ty_ne (ne_ty_call hm ?_)
    rw [if_pos hk]
    exact ⟨(fun e => by cases e), h⟩
  | false =>
    rw [hk] at h
    have hk' : ¬ (Value.type n == Value.type m) = true := fun e => by
      have e2 := eq_of_beq e
      rw [← e2] at hk
      simp at hk
    rcases hi : cmpInfo CmpOp.NotEq with ⟨sym, f, r⟩
    have h1 := slot_ty_ne
    have h2 := slot_ty_ne2
    rw [hi] at h1 h2
    simp only [richCompare, hi, (hm s).oneThing_none]
    try with_reducible refine wpAny_holding ?_
    refine wpAny_bind (wpAny_cRoomFor_or (.inl rfl) ?_)
    refine wpAny_bind (wpAny_typeOf (hm s) (wpAny_bind (wpAny_typeOf (hn s) ?_)))
    simp only [bne_self_eq_false, Bool.false_eq_true, if_false, pure_bind, Bool.not_false, if_true]
    refine wpAny_bind (m := tryCompare _ _ _) (wpAny_tryCompare_declines (hm s) h1 (ne_ty_call hm ⟨by rw [if_neg (by rw [hk]; exact Bool.false_ne_true)], ?_⟩))
    refine wpAny_bind (m := tryCompare _ _ _) (wpAny_tryCompare_declines (hn s) h2 (ne_ty_call hn ⟨by rw [if_neg hk'], ?_⟩))
    exact wpAny_bind (wpAny_rule (wpAny_bind (wpAny_of_eq (isSame_plain rfl) (wpAny_pure (by rw [hk]; exact h)))))
end

theorem opR_or {X : Cx} {f : Value → Value → Sem Value} {r r' : R2} (h : OpR X f r) (h' : OpR X f r') : OpR X f (fun x y H Q => r x y H Q ∨ r' x y H Q) := by
  intro pins s σ H x y v u Q I rx ry q
  rcases q with q | q
  · exact h pins s σ H x y v u Q I rx ry q
  · exact h' pins s σ H x y v u Q I rx ry q
/-! ### two ints -/
def iW (c : Int → Int → Bool) (g : Int → Int → Int) : W → W → Option W
  | .d (.int i), .d (.int j) => if c i j = true then some (.d (.int (g i j))) else none
  | _, _ => none
theorem iW_inv {c : Int → Int → Bool} {g : Int → Int → Int} {a b w : W} (h : iW c g a b = some w) : ∃ i j, a = .d (.int i) ∧ b = .d (.int j) ∧ c i j = true ∧ w = .d (.int (g i j)) := by
  unfold iW at h
  split at h
  · rename_i i j
    split at h
    · rename_i hc
      cases h
      exact ⟨i, j, rfl, rfl, hc, rfl⟩
    · cases h
  · cases h
theorem giv_rI {K : Fr} {C : Int → Int → Prop} {c : Int → Int → Bool} {g : Int → Int → Int} (hc : ∀ i j, c i j = true → C i j) : Giv2 K (rI C fun i j => .int (g i j)) (iW c g) := fun B H x y a b w Q s ra rb h q => by
  obtain ⟨i, j, rfl, rfl, h1, rfl⟩ := iW_inv h
  exact ⟨i, j, dp_int ra, dp_int rb, hc i j h1, q _ B H (Grow.refl s) (.int _)⟩
theorem giv_rI0 {K : Fr} {c : Int → Int → Bool} {g : Int → Int → Int} : Giv2 K (rI0 fun i j => .int (g i j)) (iW c g) := fun B H x y a b w Q s ra rb h q => by
  obtain ⟨i, j, rfl, rfl, h1, rfl⟩ := iW_inv h
  exact ⟨i, j, dp_int ra, dp_int rb, q _ B H (Grow.refl s) (.int _)⟩
def always : Int → Int → Bool := fun _ _ => true
def cMul : Int → Int → Bool := fun i j => decide (i.natAbs.log2 + j.natAbs.log2 < 100000000)
def cDivP : Int → Int → Bool := fun _ j => decide (0 < j ∧ j.natAbs.log2 < 9000)
def cModP : Int → Int → Bool := fun _ j => decide (0 < j)
def cPowP : Int → Int → Bool := fun i j => decide (0 ≤ j ∧ j ≤ 1000000 ∧ i.natAbs < 2 ^ 64)
def cShrP : Int → Int → Bool := fun _ j => decide (0 ≤ j)
def CMulX (i j : Int) : Prop := i.natAbs.log2 + j.natAbs.log2 < 100000000
theorem CMulX.ok {i j : Int} (h : CMulX i j) : IntMulOk i j := by
  have bd : ∀ x : Int, Builtin.Int.intBits x ≤ x.natAbs.log2 + 1 := fun x => by unfold Builtin.Int.intBits; split <;> omega
  have p := bd i
  have q := bd j
  unfold CMulX at h
  have ln : bitsLine = 134217728 := by decide
  intro z
  have z2 := (Bool.and_eq_true _ _ ▸ z).2
  unfold Builtin.Int.intTooBig at z2
  have z4 := of_decide_eq_true z2
  rw [ln] at z4
  omega
section
variable {X : Cx}
theorem op_mulX : OpR X (binaryOp .Mult) (rI CMulX fun i j => .int (i * j)) := opI fun _ _ _ _ _ _ _ hc q => mul_int q hc.ok
def subW := iW always (fun i j => i - j)
def mulW := iW cMul (fun i j => i * j)
def divW := iW cDivP (fun i j => i / j)
def modW := iW cModP (fun i j => i % j)
def powW := iW cPowP (fun i j => i ^ j.toNat)
def shlW := iW cPowP (fun i j => i * 2 ^ j.toNat)
def shrW := iW cShrP (fun i j => i / 2 ^ j.toNat)
def andW := iW always Builtin.bitAnd
def xorW := iW always Builtin.bitXor
variable {a b : Expr} {fa fb : Ro → Option W} {pos : Pos}
theorem pd_sub (ha : PD X a fa) (hb : PD X b fb) : PD X (.BinOp a .Sub b pos) (f2 subW fa fb) := pd_bin op_sub giv_rI0 ha hb
theorem pd_mul (ha : PD X a fa) (hb : PD X b fb) : PD X (.BinOp a .Mult b pos) (f2 mulW fa fb) := pd_bin op_mulX (giv_rI fun i j h => by first | exact of_decide_eq_true (p := i.natAbs.log2 + j.natAbs.log2 < 100000000) h | exact of_decide_eq_true (p := 0 < j ∧ j.natAbs.log2 < 9000) h | exact of_decide_eq_true (p := 0 < j) h | exact of_decide_eq_true (p := 0 ≤ j ∧ j ≤ 1000000 ∧ i.natAbs < 2 ^ 64) h | exact of_decide_eq_true (p := 0 ≤ j) h) ha hb
theorem pd_div (ha : PD X a fa) (hb : PD X b fb) : PD X (.BinOp a .FloorDiv b pos) (f2 divW fa fb) := pd_bin op_fdivW (giv_rI fun i j h => by first | exact of_decide_eq_true (p := i.natAbs.log2 + j.natAbs.log2 < 100000000) h | exact of_decide_eq_true (p := 0 < j ∧ j.natAbs.log2 < 9000) h | exact of_decide_eq_true (p := 0 < j) h | exact of_decide_eq_true (p := 0 ≤ j ∧ j ≤ 1000000 ∧ i.natAbs < 2 ^ 64) h | exact of_decide_eq_true (p := 0 ≤ j) h) ha hb
theorem pd_mod (ha : PD X a fa) (hb : PD X b fb) : PD X (.BinOp a .Mod b pos) (f2 modW fa fb) := pd_bin op_mod (giv_rI fun i j h => by first | exact of_decide_eq_true (p := i.natAbs.log2 + j.natAbs.log2 < 100000000) h | exact of_decide_eq_true (p := 0 < j ∧ j.natAbs.log2 < 9000) h | exact of_decide_eq_true (p := 0 < j) h | exact of_decide_eq_true (p := 0 ≤ j ∧ j ≤ 1000000 ∧ i.natAbs < 2 ^ 64) h | exact of_decide_eq_true (p := 0 ≤ j) h) ha hb
theorem pd_pow (ha : PD X a fa) (hb : PD X b fb) : PD X (.BinOp a .Pow b pos) (f2 powW fa fb) := pd_bin op_pow (giv_rI fun i j h => by first | exact of_decide_eq_true (p := i.natAbs.log2 + j.natAbs.log2 < 100000000) h | exact of_decide_eq_true (p := 0 < j ∧ j.natAbs.log2 < 9000) h | exact of_decide_eq_true (p := 0 < j) h | exact of_decide_eq_true (p := 0 ≤ j ∧ j ≤ 1000000 ∧ i.natAbs < 2 ^ 64) h | exact of_decide_eq_true (p := 0 ≤ j) h) ha hb
theorem pd_shl (ha : PD X a fa) (hb : PD X b fb) : PD X (.BinOp a .LShift b pos) (f2 shlW fa fb) := pd_bin op_shl (giv_rI fun i j h => by first | exact of_decide_eq_true (p := i.natAbs.log2 + j.natAbs.log2 < 100000000) h | exact of_decide_eq_true (p := 0 < j ∧ j.natAbs.log2 < 9000) h | exact of_decide_eq_true (p := 0 < j) h | exact of_decide_eq_true (p := 0 ≤ j ∧ j ≤ 1000000 ∧ i.natAbs < 2 ^ 64) h | exact of_decide_eq_true (p := 0 ≤ j) h) ha hb
theorem pd_shr (ha : PD X a fa) (hb : PD X b fb) : PD X (.BinOp a .RShift b pos) (f2 shrW fa fb) := pd_bin op_shr (giv_rI fun i j h => by first | exact of_decide_eq_true (p := i.natAbs.log2 + j.natAbs.log2 < 100000000) h | exact of_decide_eq_true (p := 0 < j ∧ j.natAbs.log2 < 9000) h | exact of_decide_eq_true (p := 0 < j) h | exact of_decide_eq_true (p := 0 ≤ j ∧ j ≤ 1000000 ∧ i.natAbs < 2 ^ 64) h | exact of_decide_eq_true (p := 0 ≤ j) h) ha hb
theorem pd_band (ha : PD X a fa) (hb : PD X b fb) : PD X (.BinOp a .BitAnd b pos) (f2 andW fa fb) := pd_bin op_and giv_rI0 ha hb
theorem pd_bxor (ha : PD X a fa) (hb : PD X b fb) : PD X (.BinOp a .BitXor b pos) (f2 xorW fa fb) := pd_bin op_xor giv_rI0 ha hb
def negW : W → Option W
  | .d (.int i) => some (.d (.int (-i)))
  | _ => none
theorem pd_neg (ha : PD X a fa) : PD X (.UnaryOp .USub a pos) (f1 negW fa) := pd_un un_neg (fun B H x a w Q s ra h q => by
  unfold negW at h
  split at h
  · rename_i i
    cases h
    exact ⟨i, dp_int ra, q _ B H (Grow.refl s) (.int _)⟩
  · cases h) ha
/-! ### + : ints, lists, tuples -/
theorem lists_of {pins : List (Addr × Obj)} {σ : L2.St} {H : Hp} {s : Shared} {a : Addr} {xs : List V} (I : Inv X pins σ H s) (h : Rd H a (.lst xs)) :
    xs.length ≤ sizeLine ∧ ∃ (us : List Value) (n : Nat), Vals xs us ∧ xs.length = us.length ∧ IsL s.heap a us.toArray n := by
  obtain ⟨z, us, n, r, e⟩ := h.ok I.hok
  exact ⟨z, us, n, r, r.length, e⟩
def rCatL : R2 := fun x y H Q => ∃ l b xs zs, x = .ref l ∧ y = .ref b ∧ Rd H l (.lst xs) ∧ Rd H b (.lst zs) ∧ xs.length + zs.length ≤ sizeLine ∧ ∀ p, H p = none → Q (.ref p) (upd H p (.lst (xs ++ zs)))
theorem op_catL : OpR X (binaryOp .Add) rCatL := by
  rintro pins s σ H x y v u Q I rx ry ⟨l, b, xs, zs, rfl, rfl, h1, h2, hz, q⟩
  cases rx; cases ry
  obtain ⟨_, us, n1, r1, z1, e1⟩ := lists_of I h1
  obtain ⟨_, ws, n2, r2, z2, e2⟩ := lists_of I h2
  refine PySem.P.add_list (s := s) e1 e2 ?_ (by simp only [List.size_toArray]; omega)
  rw [show us.toArray ++ ws.toArray = (us ++ ws).toArray by simp]
  have r3 := r1.append r2
  exact ⟨.ref _, _, I.lnew (t' := s.toks) r3 (by rw [List.length_append]; exact hz), rfl, q _ I.fresh⟩
def addW : W → W → Option W
  | .d (.int i), .d (.int j) => some (.d (.int (i + j)))
  | .d (.list xs), .d (.list ys) => if xs.length + ys.length ≤ 100000 then some (.d (.list (xs ++ ys))) else none
  | .d (.tuple xs), .d (.tuple ys) => if xs.length + ys.length ≤ 100000 then some (.d (.tuple (xs ++ ys))) else none
  | _, _ => none
theorem new_tup {B H : Hp} (s : Same B H) {p : Addr} {xs : List V} {ds : List PyData} (hp : H p = none) (r : DqAll B xs ds) {K : Fr} : Grow B H (upd B p (.tup xs)) (upd H p (.tup xs)) ∧ Rw K (upd B p (.tup xs)) (.ref p) (.d (.tuple ds)) := by
  have g := Grow.new s (o := .tup xs) hp
  exact ⟨g, .tup (.inl upd_same) (dpAll_mono g.b _ r)⟩
theorem new_lst {B H : Hp} (s : Same B H) {p : Addr} {xs : List V} {ds : List PyData} (hp : H p = none) (r : DqAll B xs ds) {K : Fr} : Grow B H (upd B p (.lst xs)) (upd H p (.lst xs)) ∧ Rw K (upd B p (.lst xs)) (.ref p) (.d (.list ds)) := by
  have g := Grow.new s (o := .lst xs) hp
  exact ⟨g, .lst (.inl upd_same) (dpAll_mono g.b _ r)⟩
theorem pd_add (ha : PD X a fa) (hb : PD X b fb) : PD X (.BinOp a .Add b pos) (f2 addW fa fb) :=
  pd_bin (opR_or op_add (opR_or op_catL op_catA)) (fun B H x y a b w Q s ra rb h q => by
    unfold addW at h
    split at h
    · rename_i i j
      cases h
      exact .inl ⟨i, j, dp_int ra, dp_int rb, q _ B H (Grow.refl s) (.int _)⟩
    · split at h
      · rename_i hz
        cases h
        obtain ⟨p1, us, rfl, h1, k1⟩ := dp_lst ra
        obtain ⟨p2, vs, rfl, h2, k2⟩ := dp_lst rb
        refine .inr (.inl ⟨p1, p2, us, vs, rfl, rfl, rd_mono s h1, rd_mono s h2, big (by rw [dpa_len k1, dpa_len k2]; exact hz), fun p hp => ?_⟩)
        obtain ⟨g, r⟩ := new_lst (K := X.K) s hp (dpa_app k1 k2)
        exact q _ _ _ g r
      · cases h
    · split at h
      · rename_i hz
        cases h
        obtain ⟨p1, us, rfl, h1, k1⟩ := dp_tup ra
        obtain ⟨p2, vs, rfl, h2, k2⟩ := dp_tup rb
        refine .inr (.inr ⟨p1, p2, us, vs, rfl, rfl, sqt_of (rd_mono s h1), sqt_of (rd_mono s h2), big (by rw [dpa_len k1, dpa_len k2]; exact hz), fun e => ?_, fun _ e => ?_, fun _ _ p hp => ?_⟩)
        · subst e
          cases k1
          exact q _ B H (Grow.refl s) rb
        · subst e
          cases k2
          rw [List.append_nil] at q
          exact q _ B H (Grow.refl s) ra
        · obtain ⟨g, r⟩ := new_tup (K := X.K) s hp (dpa_app k1 k2)
          exact q _ _ _ g r
      · cases h
    · cases h) ha hb
/-! ### comparisons -/
def cmpW (p : Int → Int → Bool) : W → W → Option W
  | .d (.int i), .d (.int j) => some (.d (.bool (p i j)))
  | _, _ => none
theorem giv_cmp {K : Fr} {p : Int → Int → Bool} : Giv2 K (rI0 fun i j => .bl (p i j)) (cmpW p) := fun B H x y a b w Q s ra rb h q => by
  unfold cmpW at h
  split at h
  · rename_i i j
    cases h
    exact ⟨i, j, dp_int ra, dp_int rb, q _ B H (Grow.refl s) (.bl _)⟩
  · cases h
def ltW := cmpW fun i j => decide (i < j)
def leW := cmpW fun i j => decide (i ≤ j)
def gtW := cmpW fun i j => decide (j < i)
def geW := cmpW fun i j => decide (j ≤ i)
theorem nomk {op : CmpOp} (b : Expr) (h : op ≠ .In := by decide) (h2 : op ≠ .NotIn := by decide) : behindInMarks op b = false := nobehind b h h2
theorem pd_lt (ha : PD X a fa) (hb : PD X b fb) : PD X (.Compare a [.Lt] [b] pos) (f2 ltW fa fb) := pd_cmp op_lt giv_cmp (nomk b) ha hb
theorem pd_le (ha : PD X a fa) (hb : PD X b fb) : PD X (.Compare a [.LtE] [b] pos) (f2 leW fa fb) := pd_cmp op_le giv_cmp (nomk b) ha hb
theorem pd_gt (ha : PD X a fa) (hb : PD X b fb) : PD X (.Compare a [.Gt] [b] pos) (f2 gtW fa fb) := pd_cmp op_gt giv_cmp (nomk b) ha hb
theorem pd_ge (ha : PD X a fa) (hb : PD X b fb) : PD X (.Compare a [.GtE] [b] pos) (f2 geW fa fb) := pd_cmp op_ge giv_cmp (nomk b) ha hb
theorem pb_lt (ha : PD X a fa) (hb : PD X b fb) : PB X (.Compare a [.Lt] [b] pos) (fB (f2 ltW fa fb)) := pb_cmp op_lt giv_cmp (nomk b) ha hb
theorem pb_le (ha : PD X a fa) (hb : PD X b fb) : PB X (.Compare a [.LtE] [b] pos) (fB (f2 leW fa fb)) := pb_cmp op_le giv_cmp (nomk b) ha hb
theorem pb_gt (ha : PD X a fa) (hb : PD X b fb) : PB X (.Compare a [.Gt] [b] pos) (fB (f2 gtW fa fb)) := pb_cmp op_gt giv_cmp (nomk b) ha hb
theorem pb_ge (ha : PD X a fa) (hb : PD X b fb) : PB X (.Compare a [.GtE] [b] pos) (fB (f2 geW fa fb)) := pb_cmp op_ge giv_cmp (nomk b) ha hb
/-- 0 <= x < n and the like -/
theorem pd_lele {c : Expr} {fc : Ro → Option W} (ha : PD X a fa) (hb : PD X b fb) (hc : PD X c fc) (hm : lastMarks [.LtE, .LtE] [b, c] = false := by with_unfolding_all rfl) : PD X (.Compare a [.LtE, .LtE] [b, c] pos) (f3 leW leW fa fb fc) := pd_chain op_le giv_cmp op_le giv_cmp ha hb hc hm
theorem pb_lele {c : Expr} {fc : Ro → Option W} (ha : PD X a fa) (hb : PD X b fb) (hc : PD X c fc) (hm : lastMarks [.LtE, .LtE] [b, c] = false := by with_unfolding_all rfl) : PB X (.Compare a [.LtE, .LtE] [b, c] pos) (fB (f3 leW leW fa fb fc)) := pb_chain op_le giv_cmp op_le giv_cmp ha hb hc hm
theorem pd_lelt {c : Expr} {fc : Ro → Option W} (ha : PD X a fa) (hb : PD X b fb) (hc : PD X c fc) (hm : lastMarks [.LtE, .Lt] [b, c] = false := by with_unfolding_all rfl) : PD X (.Compare a [.LtE, .Lt] [b, c] pos) (f3 leW ltW fa fb fc) := pd_chain op_le giv_cmp op_lt giv_cmp ha hb hc hm
theorem pb_lelt {c : Expr} {fc : Ro → Option W} (ha : PD X a fa) (hb : PD X b fb) (hc : PD X c fc) (hm : lastMarks [.LtE, .Lt] [b, c] = false := by with_unfolding_all rfl) : PB X (.Compare a [.LtE, .Lt] [b, c] pos) (fB (f3 leW ltW fa fb fc)) := pb_chain op_le giv_cmp op_lt giv_cmp ha hb hc hm
/-! == and != -/
def metaB (n : String) : Bool := n == "int" || n == "str" || n == "bool" || n == "NoneType" || n == "list" || n == "tuple" || n == "dict"
theorem meta_ok {n : String} (h : metaB n = true) : ∀ s : Shared, s.TypeIs (.type n) "type" := by
  unfold metaB at h
  simp only [Bool.or_eq_true, beq_iff_eq] at h
  rcases h with (((((h | h) | h) | h) | h) | h) | h
  · subst h; exact TypeEq.meta_int
  · subst h; exact TypeEq.meta_str
  · subst h; exact TypeEq.meta_bool
  · subst h; exact TypeEq.meta_NoneType
  · subst h; exact TypeEq.meta_list
  · subst h; exact TypeEq.meta_tuple
  · subst h; exact TypeEq.meta_dict
theorem ty_beq (m n : String) : (Value.type m == Value.type n) = decide (m = n) := by
  by_cases e : m = n
  · subst e
    rw [beq_self_eq_true]
    exact (decide_eq_true rfl).symm
  · rw [decide_eq_false e]
    exact beq_eq_false_iff_ne.mpr fun z => e (by injection z)
def rEqT : R2 := fun x y H Q => ∃ m n, x = .ty m ∧ y = .ty n ∧ metaB m = true ∧ metaB n = true ∧ Q (.bl (decide (m = n))) H
def rNeT : R2 := fun x y H Q => ∃ m n, x = .ty m ∧ y = .ty n ∧ metaB m = true ∧ metaB n = true ∧ Q (.bl (!decide (m = n))) H
theorem op_eqT : OpR X (compareOp .Eq) rEqT := by
  rintro pins s σ H x y v u Q I rx ry ⟨m, n, rfl, rfl, hm, hn, q⟩
  cases rx; cases ry
  by_cases e : m = n
  · subst e
    exact TypeEq.eq_type_same (meta_ok hm) ⟨.bl true, H, I, rfl, by rw [decide_eq_true rfl] at q; exact q⟩
  · refine TypeEq.eq_type_other (meta_ok hm) (meta_ok hn) (by rw [ty_beq, decide_eq_false e]) ⟨.bl false, H, I, rfl, ?_⟩
    rw [decide_eq_false e] at q
    exact q
theorem op_neT : OpR X (compareOp .NotEq) rNeT := by
  rintro pins s σ H x y v u Q I rx ry ⟨m, n, rfl, rfl, hm, hn, q⟩
  cases rx; cases ry
  exact ne_ty (meta_ok hm) (meta_ok hn) ⟨_, H, I, by rw [ty_beq]; rfl, q⟩
def eqW : W → W → Option W
  | .d x, .d y => if (SeqAt.shaped x && SeqAt.shaped y) = true then some (.d (.bool (PyData.eqv x y))) else none
  | .ty m, .ty n => if (metaB m && metaB n) = true then some (.d (.bool (decide (m = n)))) else none
  | _, _ => none
def neW : W → W → Option W
  | .d x, .d y => if (SeqAt.shaped x && SeqAt.shaped y) = true then some (.d (.bool (!PyData.eqv x y))) else none
  | .ty m, .ty n => if (metaB m && metaB n) = true then some (.d (.bool (!decide (m = n)))) else none
  | _, _ => none
theorem giv_eq {K : Fr} : Giv2 K (fun x y H Q => rEqD K x y H Q ∨ rEqT x y H Q) eqW := fun B H x y a b w Q s ra rb h q => by
  unfold eqW at h
  split at h
  · rename_i d e
    split at h
    · rename_i hs
      rw [Bool.and_eq_true] at hs
      cases h
      exact .inl ⟨d, e, dq_dp _ (dp_mono s _ ra), dq_dp _ (dp_mono s _ rb), hs.1, hs.2, q _ B H (Grow.refl s) (.bl _)⟩
    · cases h
  · rename_i m n
    split at h
    · rename_i hs
      rw [Bool.and_eq_true] at hs
      cases h
      exact .inr ⟨m, n, ra, rb, hs.1, hs.2, q _ B H (Grow.refl s) (.bl _)⟩
    · cases h
  · cases h
theorem giv_ne {K : Fr} : Giv2 K (fun x y H Q => rNeD K x y H Q ∨ rNeT x y H Q) neW := fun B H x y a b w Q s ra rb h q => by
  unfold neW at h
  split at h
  · rename_i d e
    split at h
    · rename_i hs
      rw [Bool.and_eq_true] at hs
      cases h
      exact .inl ⟨d, e, dq_dp _ (dp_mono s _ ra), dq_dp _ (dp_mono s _ rb), hs.1, hs.2, q _ B H (Grow.refl s) (.bl _)⟩
    · cases h
  · rename_i m n
    split at h
    · rename_i hs
      rw [Bool.and_eq_true] at hs
      cases h
      exact .inr ⟨m, n, ra, rb, hs.1, hs.2, q _ B H (Grow.refl s) (.bl _)⟩
    · cases h
  · cases h
theorem pd_eq (hu : X.A.units + 64 < cLine) (ha : PD X a fa) (hb : PD X b fb) : PD X (.Compare a [.Eq] [b] pos) (f2 eqW fa fb) := pd_cmp (opR_or (op_eqD hu) op_eqT) giv_eq (nomk b) ha hb
theorem pd_ne (hu : X.A.units + 64 < cLine) (ha : PD X a fa) (hb : PD X b fb) : PD X (.Compare a [.NotEq] [b] pos) (f2 neW fa fb) := pd_cmp (opR_or (op_neD hu) op_neT) giv_ne (nomk b) ha hb
theorem pb_eq (hu : X.A.units + 64 < cLine) (ha : PD X a fa) (hb : PD X b fb) : PB X (.Compare a [.Eq] [b] pos) (fB (f2 eqW fa fb)) := pb_cmp (opR_or (op_eqD hu) op_eqT) giv_eq (nomk b) ha hb
theorem pb_ne (hu : X.A.units + 64 < cLine) (ha : PD X a fa) (hb : PD X b fb) : PB X (.Compare a [.NotEq] [b] pos) (fB (f2 neW fa fb)) := pb_cmp (opR_or (op_neD hu) op_neT) giv_ne (nomk b) ha hb
/-! ### built-ins -/
theorem rwa1 {K : Fr} {B : Hp} {vs : List V} {w : W} (h : RwAll K B vs [w]) : ∃ v, vs = [v] ∧ Rw K B v w := by
  cases h with
  | cons a t =>
    cases t
    exact ⟨_, rfl, a⟩
theorem rwa2 {K : Fr} {B : Hp} {vs : List V} {w u : W} (h : RwAll K B vs [w, u]) : ∃ v x, vs = [v, x] ∧ Rw K B v w ∧ Rw K B x u := by
  cases h with
  | cons a t =>
    cases t with
    | cons b t =>
      cases t
      exact ⟨_, _, rfl, a, b⟩
/-- the name of a datum's own type -/
def tyN : PyData → String
  | .none => "NoneType"
  | .bool _ => "bool"
  | .int _ => "int"
  | .str _ => "str"
  | .list _ => "list"
  | .tuple _ => "tuple"
  | .dict _ => "dict"
theorem tyx_of {K : Fr} {B H : Hp} {v : V} : ∀ {d : PyData}, Same B H → Dq B v d → TyX K H v (.type (tyN d))
  | .none, s, h => by cases h; exact .base .non
  | .bool b, s, h => by cases h; exact .base (.bl b)
  | .int i, s, h => by cases h; exact .base (.int i)
  | .str x, s, h => by cases h; exact .base (.str x)
  | .list ds, s, h => by
    cases h with
    | lst r _ =>
      rcases rd_mono s r with e | ⟨o, e⟩
      · exact .base (.lst e)
      · exact .base (.frz e)
  | .tuple ds, s, h => by
    cases h with
    | tup r _ =>
      rcases rd_mono s r with e | ⟨o, e⟩
      · exact .base (.tup e)
      · exact .fTuple e
  | .dict _, s, h => by cases h
/-- isinstance(x, T): of which data it is told True -/
def isiB (d : PyData) (n : String) : Option Bool := kitB (tyN d) n
def isiW : List W → Option W
  | [.d x, .ty n] => (isiB x n).map fun b => .d (.bool b)
  | _ => none
theorem giv_isi {K : Fr} : GivC K (rIsi K) isiW := fun B H xs ws w Q s r h q => by
  unfold isiW at h
  split at h
  · rename_i x n
    cases e : isiB x n with
    | none => rw [e] at h; cases h
    | some b =>
      rw [e] at h
      cases h
      obtain ⟨v, c, rfl, r1, r2⟩ := rwa2 r
      cases (show c = V.ty n from r2)
      exact ⟨v, .ty n, .type (tyN x), .type n, b, rfl, .ty n, tyx_of s r1, kit_ty e, q _ B H (Grow.refl s) (.bl b)⟩
  · cases h
theorem pd_isi {e1 e2 : Expr} {fr : Ro → Option (List W)} {p : Pos} (hg : Gl X "isinstance") (hm : X.mg "isinstance" = none) (ha : PL X [e1, e2] fr)
    (he : starEach [e1, e2] X.env = (false, eval e1 X.env) :: starEach [e2] X.env := by rfl) (hpl : (backTo pos (starEach [e2] X.env)).any (·.1) = false := by rfl) : PD X (.Call (.Name "isinstance" p) [e1, e2] [] pos) (fA isiW fr) :=
  pd_callB call_isi giv_isi hg hm (by decide +kernel) ha (by decide) (by decide) he hpl
/-- isinstance(x, (tuple, list)) -/
def fIsi2 (m n : String) (fa : Ro → Option W) : Ro → Option W := fun ρ => (fa ρ).bind fun w => match w with
  | .d x => (isiB x m).bind fun b => (isiB x n).map fun c => .d (.bool (b || c))
  | _ => none
theorem pd_isi2 {e1 : Expr} {m n : Str} {m' n' : String} {k : Nat} {p p1 p2 tp : Pos} (hg : Gl X "isinstance") (hm : X.mg "isinstance" = none) (h1 : PD X e1 fa) (hg1 : Gl X m) (hm1 : X.mg m = none) (hv1 : bootBuiltins m = some (.type m')) (hg2 : Gl X n) (hm2 : X.mg n = none) (hv2 : bootBuiltins n = some (.type n'))
    (hn1 : m ≠ "__name__" := by decide) (hd1 : (m == ("__debug__" : Str)) = false := by decide) (hn2 : n ≠ "__name__" := by decide) (hd2 : (n == ("__debug__" : Str)) = false := by decide)
    (st : starEach [.Name m p1, .Name n p2] X.env = (false, eval (.Name m p1) X.env) :: starEach [.Name n p2] X.env := by rfl) (st2 : starEach [.Name n p2] X.env = (false, eval (.Name n p2) X.env) :: starEach [] X.env := by rfl)
    (st3 : starEach [e1, .Tuple [.Name m p1, .Name n p2] k tp] X.env = (false, eval e1 X.env) :: starEach [.Tuple [.Name m p1, .Name n p2] k tp] X.env := by rfl) (st4 : starEach [.Tuple [.Name m p1, .Name n p2] k tp] X.env = (false, eval (.Tuple [.Name m p1, .Name n p2] k tp) X.env) :: starEach [] X.env := by rfl)
    (hpl : (backTo pos (starEach [.Tuple [.Name m p1, .Name n p2] k tp] X.env)).any (·.1) = false := by rfl) :
    PD X (.Call (.Name "isinstance" p) [e1, .Tuple [.Name m p1, .Name n p2] k tp] [] pos) (fIsi2 m' n' fa) :=
  pe_imp (pe_callB call_isiT hg hm (by decide +kernel) (pa_cons h1 (pa_cons (pe_tup (pa_cons (pe_bltn (v := .ty m') hg1 hm1 hv1 rfl hn1 hd1) (pa_cons (pe_bltn (v := .ty n') hg2 hm2 hv2 rfl hn2 hd2) pa_nil st2) st)) pa_nil st4) st3) (by decide) (by decide) st3 hpl) fun σ H Q h => by
    obtain ⟨H0, B, ρ, w, s, S, e, q⟩ := h
    unfold fIsi2 at e
    cases ea : fa ρ with
    | none => rw [ea] at e; cases e
    | some x =>
      rw [ea, Option.bind_some] at e
      refine ⟨H0, B, ρ, x, s, S, ea, fun v B1 H1 g1 r1 => ⟨by show 2 ≤ sizeLine; decide, fun T hT => ?_⟩⟩
      split at e
      · rename_i d
        cases eb : isiB d m' with
        | none => rw [eb] at e; cases e
        | some b =>
          rw [eb, Option.bind_some] at e
          cases ec : isiB d n' with
          | none => rw [ec] at e; cases e
          | some c =>
            rw [ec] at e
            cases e
            have g2 := Grow.new g1.s (o := .tup [.ty m', .ty n']) hT
            refine ⟨v, T, [.ty m', .ty n'], .type (tyN d), [.type m', .type n'], b || c, rfl, upd_same, .cons (.ty m') (.cons (.ty n') .nil), tyx_of g2.s (dp_mono g2.b _ r1), kitAny_cons (kit_ty eb) (fun hb => ?_) (fun hb => by rw [hb]; rfl), q _ _ _ (g1.trans g2) (.bl _)⟩
            subst hb
            exact kitAny_cons (kit_ty ec) (fun hc => by subst hc; exact kitAny_nil) fun hc => by rw [hc]; rfl
      · cases e
/-- type(x) -/
def typW : List W → Option W
  | [.d x] => some (.ty (tyN x))
  | _ => none
def rTyD : List V → Hp → VK → Prop := fun xs H Q => ∃ (x : V) (d : PyData), xs = [x] ∧ Dq H x d ∧ Q (.ty (tyN d)) H
theorem call_tyD : CallR X (.type "type") rTyD := by
  rintro pins s σ H xs us Q I r ⟨x, d, rfl, t, q⟩
  obtain ⟨u, rfl, rx⟩ := vals1 r
  have fin : ∀ (h1 : s.TypeIs u (tyN d)) (h2 : (Value.type (tyN d) == Value.type "builtin_function_or_method") = false), wpAny (model X.prog X.w) X.A (call (.type "type") [u]) (EP X pins σ Q) X.xe s := fun h1 h2 => call_type_of h1 h2 ⟨.ty (tyN d), H, I, rfl, q⟩
  cases t with
  | non => cases rx; exact fin (show typeOf _ = _ by kernel_rfl) (by decide +kernel)
  | bl b => cases rx; exact fin (typeIs_bool' s b) (show (Value.type "bool" == _) = false by decide +kernel)
  | int i => obtain ⟨k, rfl⟩ := rx; exact fin (typeIs_int s i k) (show (Value.type "int" == _) = false by decide +kernel)
  | str z => obtain ⟨k, rfl⟩ := rx; exact fin (typeIs_str s z k) (show (Value.type "str" == _) = false by decide +kernel)
  | lst e _ =>
    cases rx
    obtain ⟨_, us, n, _, _, ob⟩ := lists_of I e
    exact fin ⟨_, ob, rfl⟩ (show (Value.type "list" == _) = false by decide +kernel)
  | tup e _ =>
    cases rx
    obtain ⟨its, rv, p, _⟩ := I.tuple (sqt_of e)
    exact fin p.typeIs (show (Value.type "tuple" == _) = false by decide +kernel)
theorem giv_typ {K : Fr} : GivC K rTyD typW := fun B H xs ws w Q s r h q => by
  unfold typW at h
  split at h
  · rename_i x
    cases h
    obtain ⟨v, rfl, r1⟩ := rwa1 r
    exact ⟨v, x, rfl, dp_mono s _ r1, q _ B H (Grow.refl s) rfl⟩
  · cases h
theorem pd_type {e1 : Expr} {fr : Ro → Option (List W)} {p : Pos} (hg : Gl X "type") (hm : X.mg "type" = none) (ha : PL X [e1] fr)
    (he : starEach [e1] X.env = (false, eval e1 X.env) :: starEach [] X.env := by rfl) (hpl : (backTo pos (starEach [] X.env)).any (·.1) = false := by rfl) : PD X (.Call (.Name "type" p) [e1] [] pos) (fA typW fr) :=
  pd_callTy call_tyD giv_typ hg hm (by decide +kernel) ha (by decide) (by decide) he hpl
/-! kinds asked for by `is` -/
/-- what tells built-in kinds alone -/
def TyF (f : Ro → Option W) : Prop := ∀ ρ w, f ρ = some w → ∃ n, w = .ty n
theorem tyF_typ {fr : Ro → Option (List W)} : TyF (fA typW fr) := fun ρ w h => by
  unfold fA at h
  cases e : fr ρ with
  | none => rw [e] at h; cases h
  | some ws =>
    rw [e, Option.bind_some] at h
    unfold typW at h
    split at h
    · cases h; exact ⟨_, rfl⟩
    · cases h
def tisW : W → W → Option W
  | .ty m, .ty n => if (metaB m && metaB n) = true then some (.d (.bool (decide (m = n)))) else none
  | _, _ => none
def tinW : W → W → Option W
  | .ty m, .ty n => if (metaB m && metaB n) = true then some (.d (.bool (!decide (m = n)))) else none
  | _, _ => none
theorem giv_tis {K : Fr} : Giv2 K (fun x y H Q => ∃ m n, x = .ty m ∧ y = .ty n ∧ Q (.bl (decide (m = n))) H) tisW := fun B H x y a b w Q s ra rb h q => by
  unfold tisW at h
  split at h
  · rename_i m n
    split at h
    · cases h
      exact ⟨m, n, ra, rb, q _ B H (Grow.refl s) (.bl _)⟩
    · cases h
  · cases h
theorem giv_tin {K : Fr} : Giv2 K (fun x y H Q => ∃ m n, x = .ty m ∧ y = .ty n ∧ Q (.bl (!decide (m = n))) H) tinW := fun B H x y a b w Q s ra rb h q => by
  unfold tinW at h
  split at h
  · rename_i m n
    split at h
    · cases h
      exact ⟨m, n, ra, rb, q _ B H (Grow.refl s) (.bl _)⟩
    · cases h
  · cases h
theorem tis_eq {fa fb : Ro → Option W} (h : TyF fa) : f2 tisW fa fb = f2 eqW fa fb := by
  funext ρ
  unfold f2
  cases ea : fa ρ with
  | none => rfl
  | some a =>
    obtain ⟨n, rfl⟩ := h ρ a ea
    rw [Option.bind_some, Option.bind_some]
    cases fb ρ with
    | none => rfl
    | some b =>
      rw [Option.bind_some, Option.bind_some]
      cases b <;> rfl
theorem tin_eq {fa fb : Ro → Option W} (h : TyF fa) : f2 tinW fa fb = f2 neW fa fb := by
  funext ρ
  unfold f2
  cases ea : fa ρ with
  | none => rfl
  | some a =>
    obtain ⟨n, rfl⟩ := h ρ a ea
    rw [Option.bind_some, Option.bind_some]
    cases fb ρ with
    | none => rfl
    | some b =>
      rw [Option.bind_some, Option.bind_some]
      cases b <;> rfl
theorem pd_tis {X : Cx} {a b : Expr} {fa fb : Ro → Option W} {pos : Pos} (ht : TyF fa) (ha : PD X a fa) (hb : PD X b fb) (hm : behindInMarks .Is b = false := by rfl) : PD X (.Compare a [.Is] [b] pos) (f2 eqW fa fb) := by
  rw [← tis_eq ht]
  exact pd_cmp op_isTy giv_tis hm ha hb
theorem pb_tin {X : Cx} {a b : Expr} {fa fb : Ro → Option W} {pos : Pos} (ht : TyF fa) (ha : PD X a fa) (hb : PD X b fb) (hm : behindInMarks .IsNot b = false := by rfl) : PB X (.Compare a [.IsNot] [b] pos) (fB (f2 neW fa fb)) := by
  rw [← tin_eq ht]
  exact pb_cmp op_isNotTy giv_tin hm ha hb
/-- len -/
def lenW : List W → Option W
  | [.d (.list ds)] => some (.d (.int (ds.length : Int)))
  | [.d (.tuple ds)] => some (.d (.int (ds.length : Int)))
  | _ => none
theorem giv_len {K : Fr} : GivC K (fun xs H Q => ∃ p ys, xs = [V.ref p] ∧ (SqL K H p ys ∨ SqT K H p ys) ∧ Q (.int ys.length) H) lenW := fun B H xs ws w Q s r h q => by
  unfold lenW at h
  split at h
  · rename_i ds
    cases h
    obtain ⟨v, rfl, r1⟩ := rwa1 r
    obtain ⟨p, ys, rfl, h1, h2⟩ := dp_lst r1
    exact ⟨p, ys, rfl, .inl (sql_of (rd_mono s h1)), by rw [dpa_len h2]; exact q _ B H (Grow.refl s) (.int _)⟩
  · rename_i ds
    cases h
    obtain ⟨v, rfl, r1⟩ := rwa1 r
    obtain ⟨p, ys, rfl, h1, h2⟩ := dp_tup r1
    exact ⟨p, ys, rfl, .inr (sqt_of (rd_mono s h1)), by rw [dpa_len h2]; exact q _ B H (Grow.refl s) (.int _)⟩
  · cases h
theorem pd_len {e1 : Expr} {fr : Ro → Option (List W)} {p : Pos} (hg : Gl X "len") (hm : X.mg "len" = none) (ha : PL X [e1] fr)
    (he : starEach [e1] X.env = (false, eval e1 X.env) :: starEach [] X.env := by rfl) (hpl : (backTo pos (starEach [] X.env)).any (·.1) = false := by rfl) : PD X (.Call (.Name "len" p) [e1] [] pos) (fA lenW fr) :=
  pd_callB call_len_seq giv_len hg hm PySem.boot_len ha (by decide) (by decide) he hpl
/-- list(x) of a list or a tuple -/
def listW : List W → Option (List PyData)
  | [.d (.list ds)] => some ds
  | [.d (.tuple ds)] => some ds
  | _ => none
theorem giv_list {K : Fr} : GivN K (fun xs H Q => ∃ p ys, xs = [V.ref p] ∧ (SqL K H p ys ∨ SqT K H p ys) ∧ ∀ l, H l = none → Q (.ref l) (upd H l (.lst ys))) listW := fun B H xs ws w Q s r h q => by
  unfold listW at h
  split at h
  · cases h
    obtain ⟨v, rfl, r1⟩ := rwa1 r
    obtain ⟨p, ys, rfl, h1, h2⟩ := dp_lst r1
    exact ⟨p, ys, rfl, .inl (sql_of (rd_mono s h1)), fun l hl => q l ys B _ (Grow.own s hl) hl (s.free hl) upd_same h2⟩
  · cases h
    obtain ⟨v, rfl, r1⟩ := rwa1 r
    obtain ⟨p, ys, rfl, h1, h2⟩ := dp_tup r1
    exact ⟨p, ys, rfl, .inr (sqt_of (rd_mono s h1)), fun l hl => q l ys B _ (Grow.own s hl) hl (s.free hl) upd_same h2⟩
  · cases h
theorem pn_list {e1 : Expr} {fr : Ro → Option (List W)} {p : Pos} (hg : Gl X "list") (hm : X.mg "list" = none) (ha : PL X [e1] fr)
    (he : starEach [e1] X.env = (false, eval e1 X.env) :: starEach [] X.env := by rfl) (hpl : (backTo pos (starEach [] X.env)).any (·.1) = false := by rfl) : PN X (.Call (.Name "list" p) [e1] [] pos) (fAN listW fr) :=
  pn_callTy call_list_of giv_list hg hm (by decide +kernel) ha (by decide) (by decide) he hpl
/-- tuple(x) of a list or a tuple -/
def tupleW : List W → Option W
  | [.d (.list ds)] => some (.d (.tuple ds))
  | [.d (.tuple ds)] => some (.d (.tuple ds))
  | _ => none
theorem giv_tuple {K : Fr} : GivC K (fun xs H Q => ∃ p ys, xs = [V.ref p] ∧ ((SqL K H p ys ∧ ∀ l, H l = none → Q (.ref l) (upd H l (.tup ys))) ∨ (SqT K H p ys ∧ Q (.ref p) H))) tupleW := fun B H xs ws w Q s r h q => by
  unfold tupleW at h
  split at h
  · cases h
    obtain ⟨v, rfl, r1⟩ := rwa1 r
    obtain ⟨p, ys, rfl, h1, h2⟩ := dp_lst r1
    refine ⟨p, ys, rfl, .inl ⟨sql_of (rd_mono s h1), fun l hl => ?_⟩⟩
    obtain ⟨g, rr⟩ := new_tup (K := K) s hl h2
    exact q _ _ _ g rr
  · cases h
    obtain ⟨v, rfl, r1⟩ := rwa1 r
    obtain ⟨p, ys, rfl, h1, h2⟩ := dp_tup r1
    exact ⟨p, ys, rfl, .inr ⟨sqt_of (rd_mono s h1), q _ B H (Grow.refl s) r1⟩⟩
  · cases h
theorem pd_tuple {e1 : Expr} {fr : Ro → Option (List W)} {p : Pos} (hg : Gl X "tuple") (hm : X.mg "tuple" = none) (ha : PL X [e1] fr)
    (he : starEach [e1] X.env = (false, eval e1 X.env) :: starEach [] X.env := by rfl) (hpl : (backTo pos (starEach [] X.env)).any (·.1) = false := by rfl) : PD X (.Call (.Name "tuple" p) [e1] [] pos) (fA tupleW fr) :=
  pd_callTy call_tuple_of giv_tuple hg hm (by decide +kernel) ha (by decide) (by decide) he hpl
/-- the ints, the truths of a list -/
def intsOf : List PyData → Option (List Int)
  | [] => some []
  | .int i :: ds => (intsOf ds).map (i :: ·)
  | _ :: _ => none
theorem intsOf_eq : ∀ {ds : List PyData} {ns : List Int}, intsOf ds = some ns → ds = ns.map .int
  | [], _, h => by cases h; rfl
  | .int i :: ds, ns, h => by
    unfold intsOf at h
    cases e : intsOf ds with
    | none => rw [e] at h; cases h
    | some ms =>
      rw [e] at h
      cases h
      rw [intsOf_eq e]
      rfl
  | .none :: _, _, h => by cases h
  | .bool _ :: _, _, h => by cases h
  | .str _ :: _, _, h => by cases h
  | .list _ :: _, _, h => by cases h
  | .tuple _ :: _, _, h => by cases h
  | .dict _ :: _, _, h => by cases h
theorem intsOf_map : ∀ ns : List Int, intsOf (ns.map .int) = some ns
  | [] => rfl
  | n :: ns => by
    show (intsOf (ns.map .int)).map (n :: ·) = _
    rw [intsOf_map ns]
    rfl
def blsOf : List PyData → Option (List Bool)
  | [] => some []
  | .bool i :: ds => (blsOf ds).map (i :: ·)
  | _ :: _ => none
theorem blsOf_eq : ∀ {ds : List PyData} {ns : List Bool}, blsOf ds = some ns → ds = ns.map .bool
  | [], _, h => by cases h; rfl
  | .bool i :: ds, ns, h => by
    unfold blsOf at h
    cases e : blsOf ds with
    | none => rw [e] at h; cases h
    | some ms =>
      rw [e] at h
      cases h
      rw [blsOf_eq e]
      rfl
  | .none :: _, _, h => by cases h
  | .int _ :: _, _, h => by cases h
  | .str _ :: _, _, h => by cases h
  | .list _ :: _, _, h => by cases h
  | .tuple _ :: _, _, h => by cases h
  | .dict _ :: _, _, h => by cases h
theorem blsOf_map : ∀ ns : List Bool, blsOf (ns.map .bool) = some ns
  | [] => rfl
  | n :: ns => by
    show (blsOf (ns.map .bool)).map (n :: ·) = _
    rw [blsOf_map ns]
    rfl
/-- all(list of truths) -/
def allW : List W → Option W
  | [.d (.list ds)] => (blsOf ds).map fun bs => .d (.bool (bs.all id))
  | _ => none
theorem giv_all {K : Fr} : GivC K (rAll K) allW := fun B H xs ws w Q s r h q => by
  unfold allW at h
  split at h
  · rename_i ds
    cases e : blsOf ds with
    | none => rw [e] at h; cases h
    | some bs =>
      rw [e] at h
      cases h
      obtain ⟨v, rfl, r1⟩ := rwa1 r
      obtain ⟨p, ys, rfl, h1, h2⟩ := dp_lst r1
      rw [blsOf_eq e] at h2
      have e2 := dpa_bls h2
      subst e2
      exact ⟨p, bs, rfl, sql_of (rd_mono s h1), q _ B H (Grow.refl s) (.bl _)⟩
  · cases h
theorem pd_all {e1 : Expr} {fr : Ro → Option (List W)} {p : Pos} (hc : X.calm = true) (hg : Gl X "all") (hm : X.mg "all" = none) (ha : PL X [e1] fr)
    (he : starEach [e1] X.env = (false, eval e1 X.env) :: starEach [] X.env := by rfl) (hpl : (backTo pos (starEach [] X.env)).any (·.1) = false := by rfl) : PD X (.Call (.Name "all" p) [e1] [] pos) (fA allW fr) :=
  pd_callB (cr_all hc) giv_all hg hm (by decide +kernel) ha (by decide) (by decide) he hpl
/-- sorted(list of ints) -/
def isortI (ns : List Int) : List Int := ns.mergeSort (fun a b => decide (a ≤ b))
theorem isort_eq {ns ms : List Int} (h : ms.Perm ns) (p : ms.Pairwise (· ≤ ·)) : ms = isortI ns := by
  refine List.Perm.eq_of_pairwise (le := fun a b : Int => a ≤ b) (fun a b _ _ h1 h2 => Int.le_antisymm h1 h2) p ?_ (h.trans (List.mergeSort_perm _ _).symm)
  have q := List.pairwise_mergeSort (le := fun a b : Int => decide (a ≤ b)) (fun a b c h1 h2 => by simp at *; omega) (fun a b => by simp; omega) ns
  exact q.imp fun h => by simpa using h
def sortW : List W → Option (List PyData)
  | [.d (.list ds)] => (intsOf ds).map fun ns => (isortI ns).map .int
  | _ => none
theorem giv_sort {K : Fr} : GivN K (rSortedI K) sortW := fun B H xs ws w Q s r h q => by
  unfold sortW at h
  split at h
  · rename_i ds
    cases e : intsOf ds with
    | none => rw [e] at h; cases h
    | some ns =>
      rw [e] at h
      cases h
      obtain ⟨v, rfl, r1⟩ := rwa1 r
      obtain ⟨p, ys, rfl, h1, h2⟩ := dp_lst r1
      rw [intsOf_eq e] at h2
      have e2 := dpa_ints h2
      subst e2
      refine ⟨p, ns, rfl, sql_of (rd_mono s h1), fun ns' l hp hs hl => ?_⟩
      rw [isort_eq hp hs]
      exact q l _ B _ (Grow.own s hl) hl (s.free hl) upd_same (dpa_of_ints _)
  · cases h
theorem pn_sort {e1 : Expr} {fr : Ro → Option (List W)} {p : Pos} (hg : Gl X "sorted") (hm : X.mg "sorted" = none) (ha : PL X [e1] fr)
    (he : starEach [e1] X.env = (false, eval e1 X.env) :: starEach [] X.env := by rfl) (hpl : (backTo pos (starEach [] X.env)).any (·.1) = false := by rfl) : PN X (.Call (.Name "sorted" p) [e1] [] pos) (fAN sortW fr) :=
  pn_callB cr_sortedI giv_sort hg hm (by decide +kernel) ha (by decide) (by decide) he hpl
/-! ### items and slices -/
def ixW : W → W → Option W
  | .d (.list ds), .d (.int i) => (atI ds i).map .d
  | .d (.tuple ds), .d (.int i) => (atI ds i).map .d
  | _, _ => none
theorem atI_rel {B : Hp} {vs : List V} {ds : List PyData} {i : Int} {d : PyData} (r : DqAll B vs ds) (h : atI ds i = some d) : ∃ v, atI vs i = some v ∧ Dq B v d := by
  unfold atI at h ⊢
  rw [dpa_len r]
  cases e : ixN ds.length i with
  | none => rw [e] at h; cases h
  | some j =>
    rw [e, Option.bind_some] at h
    rw [Option.bind_some]
    exact dpa_at r h
theorem pd_ix (hs : PlainIx b) (ha : PD X a fa) (hb : PD X b fb) : PD X (.Subscript a b pos) (f2 ixW fa fb) := pe_imp (pe_ix (IxR.or ix_list ix_tup) ha hb hs) fun σ H Q h => td_bin (fun B H x y a b w Q s ra rb h q => by
  unfold ixW at h
  split at h
  · rename_i ds i
    cases e : atI ds i with
    | none => rw [e] at h; cases h
    | some d =>
      rw [e] at h
      cases h
      obtain ⟨p, ys, rfl, h1, h2⟩ := dp_lst ra
      obtain ⟨v, e2, rv⟩ := atI_rel h2 e
      exact .inl ⟨p, ys, i, v, rfl, dp_int rb, sql_of (rd_mono s h1), e2, q _ B H (Grow.refl s) rv⟩
  · rename_i ds i
    cases e : atI ds i with
    | none => rw [e] at h; cases h
    | some d =>
      rw [e] at h
      cases h
      obtain ⟨p, ys, rfl, h1, h2⟩ := dp_tup ra
      obtain ⟨v, e2, rv⟩ := atI_rel h2 e
      exact .inr ⟨p, ys, i, v, rfl, dp_int rb, sqt_of (rd_mono s h1), e2, q _ B H (Grow.refl s) rv⟩
  · cases h) h
/-- an end of a slice -/
def tE (K : Fr) (f : Ro → Option (Option Int)) : TO := fun σ H Q => ∃ H0 B ρ o, Same B H ∧ Slots K H0 B H σ ρ ∧ f ρ = some o ∧ ∀ B' H', Grow B H B' H' → Q o H'
abbrev PEnd (X : Cx) (o : Option Expr) (f : Ro → Option (Option Int)) : Prop := PO X o (tE X.K f)
theorem po_imp {o : Option Expr} {t t' : TO} (h : PO X o t) (i : ∀ σ H Q, t' σ H Q → t σ H Q) : PO X o t' := ⟨fun pins s σ H Q I q => h.run pins s σ H Q I (i σ H Q q)⟩
def fNo : Ro → Option (Option Int) := fun _ => some none
def fEnd (fa : Ro → Option W) : Ro → Option (Option Int) := fun ρ => (fa ρ).bind fun w => match w with
  | .d (.int i) => some (some i)
  | _ => none
theorem pend_no : PEnd X none fNo := po_imp po_none fun σ H Q h => by
  obtain ⟨H0, B, ρ, o, s, S, e, q⟩ := h
  cases e
  exact q B H (Grow.refl s)
theorem pend_some (h : PD X a fa) : PEnd X (some a) (fEnd fa) := po_imp (po_some h) fun σ H Q h => by
  obtain ⟨H0, B, ρ, o, s, S, e, q⟩ := h
  unfold fEnd at e
  cases ea : fa ρ with
  | none => rw [ea] at e; cases e
  | some w =>
    rw [ea, Option.bind_some] at e
    refine ⟨H0, B, ρ, w, s, S, ea, fun v B1 H1 g1 r1 => ?_⟩
    split at e
    · rename_i i
      cases e
      exact ⟨i, dp_int r1, q B1 H1 g1⟩
    · cases e
def cutD (xs : List PyData) (lo hi : Option Int) : List PyData := (xs.drop (HT.sIx xs.length 0 lo)).take (HT.sIx xs.length xs.length hi - HT.sIx xs.length 0 lo)
theorem cut_rel {B : Hp} {vs : List V} {ds : List PyData} (r : DqAll B vs ds) (lo hi : Option Int) : DqAll B (cutV vs lo hi) (cutD ds lo hi) := by
  unfold cutV cutD
  rw [dpa_len r]
  exact dpa_take _ (dpa_drop _ r)
def fSlT (fa : Ro → Option W) (fl fh : Ro → Option (Option Int)) : Ro → Option W := fun ρ => (fa ρ).bind fun w => (fl ρ).bind fun l => (fh ρ).bind fun h => match w with
  | .d (.tuple ds) => some (.d (.tuple (cutD ds l h)))
  | _ => none
def fSlL (fa : Ro → Option W) (fl fh : Ro → Option (Option Int)) : Ro → Option (List PyData) := fun ρ => (fa ρ).bind fun w => (fl ρ).bind fun l => (fh ρ).bind fun h => match w with
  | .d (.list ds) => some (cutD ds l h)
  | _ => none
variable {lo hi : Option Expr} {fl fh : Ro → Option (Option Int)} {p2 : Pos}
theorem cut_whole {ds : List PyData} {lo hi : Option Int} (h1 : HT.sIx ds.length 0 lo = 0) (h2 : HT.sIx ds.length ds.length hi = ds.length) : cutD ds lo hi = ds := by
  unfold cutD
  rw [h1, h2, List.drop_zero, Nat.sub_zero, List.take_length]
theorem pd_slT (ha : PD X a fa) (hl : PEnd X lo fl) (hh : PEnd X hi fh) : PD X (.Subscript a (.Slice lo hi none p2) pos) (fSlT fa fl fh) := pe_imp (pe_slice sl_tupA ha hl hh) fun σ H Q h => by
  obtain ⟨H0, B, ρ, w, s, S, e, q⟩ := h
  unfold fSlT at e
  cases ea : fa ρ with
  | none => rw [ea] at e; cases e
  | some x =>
    rw [ea, Option.bind_some] at e
    cases el : fl ρ with
    | none => rw [el] at e; cases e
    | some l =>
      rw [el, Option.bind_some] at e
      cases eh : fh ρ with
      | none => rw [eh] at e; cases e
      | some h =>
        rw [eh, Option.bind_some] at e
        refine ⟨H0, B, ρ, x, s, S, ea, fun v1 B1 H1 g1 r1 => ⟨H0, B1, ρ, l, g1.s, S.mono s g1, el, fun B2 H2 g2 => ⟨H0, B2, ρ, h, g2.s, S.mono s (g1.trans g2), eh, fun B3 H3 g3 => ?_⟩⟩⟩
        have G := (g1.trans g2).trans g3
        split at e
        · rename_i ds
          cases e
          have r3 := dp_mono (g2.b.trans g3.b) _ r1
          obtain ⟨p, ys, rfl, h1, h2⟩ := dp_tup r3
          have hl := dpa_len h2
          refine ⟨p, ys, rfl, sqt_of (rd_mono G.s h1), fun hw => ?_, fun hw T hT => ?_⟩
          · rw [hl] at hw
            rw [cut_whole hw.1 hw.2] at q
            exact q _ B3 H3 G r3
          · obtain ⟨g, rr⟩ := new_tup (K := X.K) G.s hT (cut_rel h2 l h)
            exact q _ _ _ (G.trans g) rr
        · cases e
theorem pn_slL (ha : PD X a fa) (hl : PEnd X lo fl) (hh : PEnd X hi fh) : PN X (.Subscript a (.Slice lo hi none p2) pos) (fSlL fa fl fh) := pe_imp (pe_slice sl_list ha hl hh) fun σ H Q h => by
  obtain ⟨H0, B, ρ, w, s, S, e, q⟩ := h
  unfold fSlL at e
  cases ea : fa ρ with
  | none => rw [ea] at e; cases e
  | some x =>
    rw [ea, Option.bind_some] at e
    cases el : fl ρ with
    | none => rw [el] at e; cases e
    | some l =>
      rw [el, Option.bind_some] at e
      cases eh : fh ρ with
      | none => rw [eh] at e; cases e
      | some h =>
        rw [eh, Option.bind_some] at e
        refine ⟨H0, B, ρ, x, s, S, ea, fun v1 B1 H1 g1 r1 => ⟨H0, B1, ρ, l, g1.s, S.mono s g1, el, fun B2 H2 g2 => ⟨H0, B2, ρ, h, g2.s, S.mono s (g1.trans g2), eh, fun B3 H3 g3 => ?_⟩⟩⟩
        have G := (g1.trans g2).trans g3
        split at e
        · rename_i ds
          cases e
          have r3 := dp_mono (g2.b.trans g3.b) _ r1
          obtain ⟨p, ys, rfl, h1, h2⟩ := dp_lst r3
          exact ⟨p, ys, rfl, sql_of (rd_mono G.s h1), fun T hT => q T _ B3 _ (G.trans (Grow.own G.s hT)) (G.h.free hT) (G.s.free hT) upd_same (cut_rel h2 l h)⟩
        · cases e
/-! ### a list of one's own: append, clear -/
def appF (i : Nat) (fa : Ro → Option W) : Ro → Option Out := fun ρ => (fa ρ).bind fun w => match ρ[i]?, w with
  | some (.ow xs), .d d => if xs.length < 100000 then some (.nx (ρ.set i (.ow (xs ++ [d])))) else none
  | _, _ => none
theorem pc_app (i : Nat) {x : Str} {e1 : Expr} {p1 p2 p3 : Pos} (he : PD X e1 fa) (hN : X.N[i]? = some x := by rfl) (hv : Vis X.env.scope x := by first | exact Or.inl rfl | exact Or.inr (Or.inl rfl) | exact Or.inr (Or.inr rfl)) (hd : (x == ("__debug__" : Str)) = false := by decide)
    (hcd : (x == ("__classdict__" : Str)) = false := by decide)
    (st : starEach [e1] X.env = (false, eval e1 X.env) :: starEach [] X.env := by rfl)
    (hbase : attributeBase (.Name x p1) "append" X.env (eval (.Name x p1) X.env) = eval (.Name x p1) X.env := by rfl)
    (hfew : ((backTo p3 (starEach [e1] X.env)).all (fun x => !x.1) && (backToKw p3 (keywordEach [] X.env)).all (fun x => x.1.isSome) && decide ([e1].length + ([] : List Keyword).length + (if ([] : List Keyword).isEmpty then 0 else 1) < 30)) = true := by rfl)
    (hline : (p2.endLine == p3.line) = true := by rfl) (hpl : (backTo p3 (starEach [] X.env)).any (·.1) = false := by rfl) (hs : swapsWith (.Call (.Attribute (.Name x p1) "append" p2) [e1] [] p3) none pos.line X.env = pure false := by rfl) :
    PC X (.Expr (.Call (.Attribute (.Name x p1) "append" p2) [e1] [] p3) pos) (appF i fa) :=
  ps_imp (ps_expr (pe_bm PySem.F.plainAttrs_list PySem.F.slot_list_append PySem.F.type_list_append mt_append (pe_var hN hv hd hcd) (pa_cons he pa_nil st) hbase hfew hline st hpl) hs) fun D σ H h => by
    obtain ⟨B0, H0, B, ρ, out, g, S, e, q⟩ := h
    unfold appF at e
    cases ea : fa ρ with
    | none => rw [ea] at e; cases e
    | some w =>
      rw [ea, Option.bind_some] at e
      split at e
      · rename_i xs d hi
        split at e
        · rename_i hz
          cases e
          obtain ⟨p, o, e1, e2, e3, e4, vs, rfl, e5⟩ := S.oat i _ hi rfl
          refine ⟨.ref p, e1, .inl ⟨rfl, vs, sql_of (.inl e4)⟩, H0, B, ρ, _, g.s, S, ea, fun v B1 H1 g1 r1 => ?_⟩
          have S1 := S.mono g.s g1
          obtain ⟨p', o', f1, f2, f3, f4, us, rfl, f5⟩ := S1.oat i _ hi rfl
          rw [e1] at f1
          cases f1
          refine ⟨p, us, v, rfl, rfl, f4, bigl (by rw [dpa_len f5]; exact hz), ?_⟩
          exact q σ B1 _ ((g.trans g1).put f2 f3) g1.b (S1.put hi rfl rfl e1 ⟨_, rfl, dpa_app f5 (.cons r1 .nil)⟩)
        · cases e
      · cases e
def clrF (i : Nat) : Ro → Option Out := fun ρ => match ρ[i]? with
  | some (.ow _) => some (.nx (ρ.set i (.ow [])))
  | _ => none
theorem pc_clr (i : Nat) {x : Str} {p1 p2 p3 : Pos} (hN : X.N[i]? = some x := by rfl) (hv : Vis X.env.scope x := by first | exact Or.inl rfl | exact Or.inr (Or.inl rfl) | exact Or.inr (Or.inr rfl)) (hd : (x == ("__debug__" : Str)) = false := by decide)
    (hcd : (x == ("__classdict__" : Str)) = false := by decide) (hbase : attributeBase (.Name x p1) "clear" X.env (eval (.Name x p1) X.env) = eval (.Name x p1) X.env := by rfl) (hline : (p2.endLine == p3.line) = true := by rfl)
    (hs : swapsWith (.Call (.Attribute (.Name x p1) "clear" p2) [] [] p3) none pos.line X.env = pure false := by rfl) :
    PC X (.Expr (.Call (.Attribute (.Name x p1) "clear" p2) [] [] p3) pos) (clrF i) :=
  ps_imp (ps_expr (pe_bm0 PySem.F.plainAttrs_list PySem.F.slot_list_clear PySem.F.type_list_clear mt_clear (pe_var hN hv hd hcd) hbase hline) hs) fun D σ H h => by
    obtain ⟨B0, H0, B, ρ, out, g, S, e, q⟩ := h
    unfold clrF at e
    split at e
    · rename_i xs hi
      cases e
      obtain ⟨p, o, e1, e2, e3, e4, vs, rfl, e5⟩ := S.oat i _ hi rfl
      exact ⟨.ref p, e1, .inl ⟨rfl, vs, sql_of (.inl e4)⟩, p, vs, rfl, rfl, e4, q σ B _ (g.put e2 e3) (Same.refl _) (S.put hi rfl rfl e1 ⟨[], rfl, .nil⟩)⟩
    · cases e
end
end PD

/-! laying a set's table anew: there is always room, and every member gets its place -/
namespace PT
open PySem

/-! ### 5 x + 1 comes round to everything below a power of two -/
def five (x : Nat) : Nat → Nat
  | 0 => x
  | n + 1 => 5 * five x n + 1
theorem five_add (x m : Nat) : ∀ n, five x (m + n) = five (five x m) n
  | 0 => rfl
  | n + 1 => by
    show 5 * five x (m + n) + 1 = 5 * five (five x m) n + 1
    rw [five_add x m n]
theorem five_lin (x : Nat) : ∀ n, five x n = 5 ^ n * x + five 0 n
  | 0 => by simp [five]
  | n + 1 => by
    show 5 * five x n + 1 = 5 ^ (n + 1) * x + (5 * five 0 n + 1)
    rw [five_lin x n, Nat.pow_succ]
    grind
theorem pow5 : ∀ k : Nat, ∃ u, 5 ^ (2 ^ k) = 1 + 2 ^ (k + 2) * u
  | 0 => ⟨1, by decide⟩
  | k + 1 => by
    obtain ⟨u, h⟩ := pow5 k
    have e : 5 ^ (2 ^ (k + 1)) = 5 ^ (2 ^ k) * 5 ^ (2 ^ k) := by rw [← Nat.pow_add]; congr 1; rw [Nat.pow_succ]; omega
    rw [e, h]
    have e2 : (2 : Nat) ^ (k + 1 + 2) = 2 * 2 ^ (k + 2) := by rw [Nat.pow_succ]; omega
    rw [e2]
    refine ⟨u + 2 ^ (k + 1) * u * u, ?_⟩
    have e3 : (2 : Nat) ^ (k + 2) = 2 * 2 ^ (k + 1) := by rw [Nat.pow_succ]; omega
    rw [e3]
    grind
theorem five0 : ∀ k : Nat, ∃ v, five 0 (2 ^ k) = 2 ^ k + 2 ^ (k + 1) * v
  | 0 => ⟨0, by decide⟩
  | k + 1 => by
    obtain ⟨v, h⟩ := five0 k
    obtain ⟨u, hu⟩ := pow5 k
    have e : (2 : Nat) ^ (k + 1) = 2 ^ k + 2 ^ k := by rw [Nat.pow_succ]; omega
    have e4 : (2 : Nat) ^ (k + 2) = 4 * 2 ^ k := by rw [Nat.pow_succ, Nat.pow_succ]; omega
    have e5 : (2 : Nat) ^ (k + 1 + 1) = 4 * 2 ^ k := e4
    have e6 : five 0 (2 ^ (k + 1)) = 5 ^ (2 ^ k) * five 0 (2 ^ k) + five 0 (2 ^ k) := by rw [e, five_add, five_lin]
    rw [e6, h, hu, e4, e]
    refine ⟨v + u * (2 ^ k + (2 ^ k + 2 ^ k) * v), ?_⟩
    grind
theorem five_half (x k : Nat) : five x (2 ^ k) % 2 ^ (k + 1) = (x + 2 ^ k) % 2 ^ (k + 1) := by
  obtain ⟨u, hu⟩ := pow5 k
  obtain ⟨v, hv⟩ := five0 k
  rw [five_lin, hu, hv]
  have e : (1 + 2 ^ (k + 2) * u) * x + (2 ^ k + 2 ^ (k + 1) * v) = (x + 2 ^ k) + 2 ^ (k + 1) * (2 * u * x + v) := by
    have e3 : (2 : Nat) ^ (k + 2) = 2 * 2 ^ (k + 1) := by rw [Nat.pow_succ]; omega
    rw [e3]
    grind
  rw [e, Nat.add_mul_mod_self_left]
theorem five_all (x : Nat) : ∀ k j, ∃ n, n < 2 ^ k ∧ five x n % 2 ^ k = j % 2 ^ k
  | 0, j => ⟨0, by decide, by rw [Nat.pow_zero, Nat.mod_one, Nat.mod_one]⟩
  | k + 1, j => by
    obtain ⟨n, h1, h2⟩ := five_all x k j
    have e : (2 : Nat) ^ (k + 1) = 2 * 2 ^ k := by rw [Nat.pow_succ]; omega
    have hp : 0 < 2 ^ k := Nat.two_pow_pos k
    by_cases hq : five x n % 2 ^ (k + 1) = j % 2 ^ (k + 1)
    · exact ⟨n, by omega, hq⟩
    · refine ⟨n + 2 ^ k, by omega, ?_⟩
      rw [five_add, five_half]
      generalize five x n = y at *
      rw [e] at hq ⊢
      generalize 2 ^ k = p at *
      have a1 : y % p = y % (2 * p) % p := (Nat.mod_mod_of_dvd y ⟨2, by omega⟩).symm
      have a2 : j % p = j % (2 * p) % p := (Nat.mod_mod_of_dvd j ⟨2, by omega⟩).symm
      rw [a1, a2] at h2
      rw [Nat.add_mod]
      have b1 := Nat.mod_lt y (show 0 < 2 * p by omega)
      have b2 := Nat.mod_lt j (show 0 < 2 * p by omega)
      rw [Nat.mod_eq_of_lt (show p < 2 * p by omega)]
      generalize y % (2 * p) = c at *
      generalize j % (2 * p) = d at *
      have c1 : c % p = if c < p then c else c - p := by
        split
        · exact Nat.mod_eq_of_lt ‹_›
        · rw [Nat.mod_eq_sub_mod (by omega), Nat.mod_eq_of_lt (by omega)]
      have d1 : d % p = if d < p then d else d - p := by
        split
        · exact Nat.mod_eq_of_lt ‹_›
        · rw [Nat.mod_eq_sub_mod (by omega), Nat.mod_eq_of_lt (by omega)]
      rw [c1, d1] at h2
      by_cases k1 : c < p
      · rw [if_pos k1] at h2
        rw [Nat.mod_eq_of_lt (by omega)]
        split at h2 <;> omega
      · rw [if_neg k1] at h2
        rw [Nat.mod_eq_sub_mod (by omega), Nat.mod_eq_of_lt (by omega)]
        split at h2 <;> omega

/-! ### the search for a free place -/
def sq (m i b : Nat) : Nat → Nat × Nat
  | 0 => (i, b)
  | n + 1 => SetTable.leap m (sq m i b n).1 (sq m i b n).2
theorem sq_shift (m i b : Nat) : ∀ n, sq m i b (n + 1) = sq m (SetTable.leap m i b).1 (SetTable.leap m i b).2 n
  | 0 => rfl
  | n + 1 => by
    show SetTable.leap m (sq m i b (n + 1)).1 (sq m i b (n + 1)).2 = SetTable.leap m (sq m _ _ n).1 (sq m _ _ n).2
    rw [sq_shift m i b n]
theorem sq_snd (m i b : Nat) : ∀ n, (sq m i b n).2 = b / 32 ^ n
  | 0 => by simp [sq]
  | n + 1 => by
    show (sq m i b n).2 / 32 = b / 32 ^ (n + 1)
    rw [sq_snd m i b n, Nat.div_div_eq_div_mul, Nat.pow_succ]
theorem sq_le {m i : Nat} (b : Nat) (hi : i ≤ m) : ∀ n, (sq m i b n).1 ≤ m
  | 0 => hi
  | n + 1 => Nat.le_of_lt_succ (Nat.mod_lt _ (Nat.succ_pos m))
theorem sq_late {m i b : Nat} (hb : b < 2 ^ 64) : ∀ n, (sq m i b (12 + n)).1 % (m + 1) = five (sq m i b 12).1 n % (m + 1)
  | 0 => rfl
  | n + 1 => by
    have e : (sq m i b (12 + n)).2 / 32 = 0 := by
      rw [sq_snd, Nat.div_div_eq_div_mul, ← Nat.pow_succ]
      apply Nat.div_eq_of_lt
      have h1 : (32 : Nat) ^ 13 ≤ 32 ^ (12 + n + 1) := Nat.pow_le_pow_right (by decide) (by omega)
      have h2 : (2 : Nat) ^ 64 < 32 ^ 13 := by decide
      omega
    show ((sq m i b (12 + n)).1 * 5 + 1 + (sq m i b (12 + n)).2 / 32) % (m + 1) % (m + 1) = (5 * five (sq m i b 12).1 n + 1) % (m + 1)
    rw [e, Nat.mod_mod, Nat.add_zero, Nat.add_mod, Nat.mul_mod, sq_late hb n, ← Nat.mul_mod, ← Nat.add_mod, Nat.mul_comm]
abbrev isFree (owner : Array (Option Nat)) (j : Nat) : Bool := (owner.getD j (some 0)).isNone
theorem free_cons (m : Nat) (owner : Array (Option Nat)) (f i b : Nat) : SetTable.layClean.free m owner (f + 1) i b =
    match (List.range (SetTable.runEnd m i + 1 - i)).find? fun k => isFree owner (i + k) with
    | some k => some (i + k)
    | none => SetTable.layClean.free m owner f (SetTable.leap m i b).1 (SetTable.leap m i b).2 := rfl
theorem free_none {m : Nat} {owner : Array (Option Nat)} : ∀ (f i b : Nat), SetTable.layClean.free m owner f i b = none → ∀ n, n < f → isFree owner (sq m i b n).1 = false
  | 0, _, _, _, n, h => absurd h (Nat.not_lt_zero n)
  | f + 1, i, b, h, n, hn => by
    rw [free_cons] at h
    cases e : (List.range (SetTable.runEnd m i + 1 - i)).find? fun k => isFree owner (i + k) with
    | some k => rw [e] at h; cases h
    | none =>
      rw [e] at h
      cases n with
      | zero =>
        have q := List.find?_eq_none.mp e 0 (List.mem_range.mpr (by unfold SetTable.runEnd; split <;> omega))
        rw [Nat.add_zero] at q
        exact Bool.eq_false_iff.mpr q
      | succ n =>
        rw [sq_shift]
        exact free_none f _ _ h n (Nat.lt_of_succ_lt_succ hn)
theorem free_some {m : Nat} {owner : Array (Option Nat)} : ∀ (f i b j : Nat), i ≤ m → SetTable.layClean.free m owner f i b = some j → j ≤ m ∧ isFree owner j = true
  | 0, _, _, _, _, h => by cases h
  | f + 1, i, b, j, hi, h => by
    rw [free_cons] at h
    cases e : (List.range (SetTable.runEnd m i + 1 - i)).find? fun k => isFree owner (i + k) with
    | some k =>
      rw [e] at h
      cases h
      have q1 := List.mem_range.mp (List.mem_of_find?_eq_some e)
      refine ⟨?_, List.find?_some (p := fun k => isFree owner (i + k)) e⟩
      have : SetTable.runEnd m i ≤ m := by unfold SetTable.runEnd; split <;> omega
      omega
    | none =>
      rw [e] at h
      exact free_some f _ _ j (Nat.le_of_lt_succ (Nat.mod_lt _ (Nat.succ_pos m))) h
theorem bits_lt (h : Int) : SetTable.bits h < 2 ^ 64 := by
  unfold SetTable.bits
  have h1 : h % (2 ^ 64 : Int) < 2 ^ 64 := Int.emod_lt_of_pos h (by decide)
  have h2 : (0 : Int) ≤ h % 2 ^ 64 := Int.emod_nonneg h (by decide)
  omega
theorem free_there {k m : Nat} (hm : m + 1 = 2 ^ k) {owner : Array (Option Nat)} {j0 : Nat} (h0 : j0 ≤ m) (hf : isFree owner j0 = true) (h : Int) :
    ∃ j, SetTable.layClean.free m owner (SetTable.turns m) (SetTable.bits h % (m + 1)) (SetTable.bits h) = some j ∧ j ≤ m ∧ isFree owner j = true := by
  have hi : SetTable.bits h % (m + 1) ≤ m := Nat.le_of_lt_succ (Nat.mod_lt _ (Nat.succ_pos m))
  cases e : SetTable.layClean.free m owner (SetTable.turns m) (SetTable.bits h % (m + 1)) (SetTable.bits h) with
  | some j => exact ⟨j, rfl, free_some _ _ _ j hi e⟩
  | none =>
    exfalso
    obtain ⟨n, n1, n2⟩ := five_all (sq m (SetTable.bits h % (m + 1)) (SetTable.bits h) 12).1 k j0
    have q := free_none _ _ _ e (12 + n) (by unfold SetTable.turns; omega)
    have l := sq_late (m := m) (i := SetTable.bits h % (m + 1)) (bits_lt h) n
    rw [← hm] at n2
    rw [n2, Nat.mod_eq_of_lt (Nat.lt_succ_of_le h0), Nat.mod_eq_of_lt (Nat.lt_succ_of_le (sq_le _ hi _))] at l
    rw [l, hf] at q
    cases q

/-! ### all laid -/
/-- who sits where, from the left -/
def occ (m : Nat) (owner : Array (Option Nat)) : List Nat := (List.range (m + 1)).filterMap fun j => owner.getD j none
theorem fm_eq {α : Type} (f g : Nat → Option α) : ∀ l : List Nat, (∀ i ∈ l, g i = f i) → l.filterMap g = l.filterMap f
  | [], _ => rfl
  | a :: l, h => by
    have ih := fm_eq f g l fun i hi => h i (List.mem_cons_of_mem _ hi)
    have ea := h a List.mem_cons_self
    cases q : f a with
    | none => rw [List.filterMap_cons_none (ea.trans q), List.filterMap_cons_none q, ih]
    | some y => rw [List.filterMap_cons_some (ea.trans q), List.filterMap_cons_some q, ih]
theorem fm_set {α : Type} (f g : Nat → Option α) (j : Nat) (x : α) (hf : f j = none) (hg : g j = some x) : ∀ l : List Nat, l.Nodup → j ∈ l → (∀ i ∈ l, i ≠ j → g i = f i) → (l.filterMap g).Perm (x :: l.filterMap f)
  | [], _, h, _ => by cases h
  | a :: l, nd, h, hs => by
    obtain ⟨d1, d2⟩ := List.nodup_cons.mp nd
    rcases List.mem_cons.mp h with e | h
    · subst e
      have same : l.filterMap g = l.filterMap f := fm_eq f g l fun i hi => hs i (List.mem_cons_of_mem _ hi) fun z => d1 (z ▸ hi)
      rw [List.filterMap_cons_some hg, List.filterMap_cons_none hf, same]
    · have ne : a ≠ j := fun z => d1 (z ▸ h)
      have ih := fm_set f g j x hf hg l d2 h fun i hi => hs i (List.mem_cons_of_mem _ hi)
      have ea := hs a List.mem_cons_self ne
      cases q : f a with
      | none =>
        rw [List.filterMap_cons_none (ea.trans q), List.filterMap_cons_none q]
        exact ih
      | some y =>
        rw [List.filterMap_cons_some (ea.trans q), List.filterMap_cons_some q]
        exact (ih.cons y).trans (List.Perm.swap x y _)
theorem fm_full {α : Type} (f : Nat → Option α) : ∀ l : List Nat, (∀ i ∈ l, f i ≠ none) → (l.filterMap f).length = l.length
  | [], _ => rfl
  | a :: l, h => by
    cases e : f a with
    | none => exact absurd e (h a List.mem_cons_self)
    | some y =>
      rw [List.filterMap_cons_some e]
      exact congrArg (· + 1) (fm_full f l fun i hi => h i (List.mem_cons_of_mem _ hi))
structure Laid (m : Nat) (owner : Array (Option Nat)) (k : Nat) : Prop where
  sz : owner.size = m + 1
  pm : (occ m owner).Perm (List.range k)
theorem getD_in {owner : Array (Option Nat)} {j : Nat} (h : j < owner.size) (x y : Option Nat) : owner.getD j x = owner.getD j y := by
  rw [Array.getD_eq_getD_getElem?, Array.getD_eq_getD_getElem?, Array.getElem?_eq_getElem h]
  rfl
theorem Laid.zero (m : Nat) : Laid m (Array.replicate (m + 1) none) 0 := by
  refine ⟨Array.size_replicate, ?_⟩
  have e : occ m (Array.replicate (m + 1) none) = [] := by
    unfold occ
    rw [List.filterMap_eq_nil_iff]
    intro j hj
    have hj' := List.mem_range.mp hj
    rw [Array.getD_eq_getD_getElem?, Array.getElem?_replicate, if_pos hj']
    rfl
  rw [e]
  exact List.Perm.refl _
theorem Laid.room {m k : Nat} {owner : Array (Option Nat)} (L : Laid m owner k) (hk : k ≤ m) : ∃ j, j ≤ m ∧ isFree owner j = true := by
  refine Classical.byContradiction fun no => ?_
  have all : ∀ i ∈ List.range (m + 1), owner.getD i none ≠ none := fun i hi e => by
    have hi' := List.mem_range.mp hi
    refine no ⟨i, Nat.le_of_lt_succ hi', ?_⟩
    unfold isFree
    rw [getD_in (by rw [L.sz]; exact hi') (some 0) none, e]
    rfl
  have h1 := fm_full (fun j => owner.getD j none) (List.range (m + 1)) all
  have h2 := L.pm.length_eq
  unfold occ at h2
  rw [h1, List.length_range, List.length_range] at h2
  omega
theorem Laid.next {m k j : Nat} {owner : Array (Option Nat)} (L : Laid m owner k) (hj : j ≤ m) (hf : isFree owner j = true) : Laid m (owner.setIfInBounds j (some k)) (k + 1) := by
  have hjs : j < owner.size := by rw [L.sz]; omega
  refine ⟨by rw [Array.size_setIfInBounds]; exact L.sz, ?_⟩
  have e0 : owner.getD j none = none := by
    unfold isFree at hf
    rw [getD_in hjs (some 0) none] at hf
    exact Option.isNone_iff_eq_none.mp hf
  have e1 : (owner.setIfInBounds j (some k)).getD j none = some k := by
    rw [Array.getD_eq_getD_getElem?, Array.getElem?_setIfInBounds_self_of_lt hjs]
    rfl
  have q := fm_set (fun i => owner.getD i none) (fun i => (owner.setIfInBounds j (some k)).getD i none) j k e0 e1 (List.range (m + 1)) List.nodup_range (List.mem_range.mpr (by omega)) fun i _ ne => by
    show (owner.setIfInBounds j (some k)).getD i none = owner.getD i none
    rw [Array.getD_eq_getD_getElem?, Array.getD_eq_getD_getElem?, Array.getElem?_setIfInBounds_ne (Ne.symm ne)]
  rw [List.range_succ]
  exact q.trans ((L.pm.cons k).trans (List.perm_append_singleton k _).symm)
def layStep (m : Nat) (acc : Option (Array (Option Nat) × Nat)) (h : Int) : Option (Array (Option Nat) × Nat) := do
  let (owner, k) ← acc
  let j ← SetTable.layClean.free m owner (SetTable.turns m) (SetTable.bits h % (m + 1)) (SetTable.bits h)
  pure (owner.setIfInBounds j (some k), k + 1)
theorem lay_fold {e m : Nat} (hm : m + 1 = 2 ^ e) : ∀ (hs : List Int) (k : Nat) (owner : Array (Option Nat)), Laid m owner k → k + hs.length ≤ m + 1 → ∃ owner', hs.foldl (layStep m) (some (owner, k)) = some (owner', k + hs.length) ∧ Laid m owner' (k + hs.length)
  | [], k, owner, L, _ => ⟨owner, rfl, L⟩
  | h :: hs, k, owner, L, hk => by
    rw [List.length_cons] at hk
    obtain ⟨j0, a1, a2⟩ := L.room (by omega)
    obtain ⟨j, b1, b2, b3⟩ := free_there hm a1 a2 h
    obtain ⟨owner', c1, c2⟩ := lay_fold hm hs (k + 1) _ (L.next b2 b3) (by omega)
    refine ⟨owner', ?_, ?_⟩
    · rw [List.foldl_cons, List.length_cons]
      have es : layStep m (some (owner, k)) h = some (owner.setIfInBounds j (some k), k + 1) := by
        unfold layStep
        simp only [Option.bind_eq_bind, Option.bind_some, b1]
        rfl
      rw [es, c1, show k + 1 + hs.length = k + (hs.length + 1) by omega]
    · rw [List.length_cons, show k + (hs.length + 1) = k + 1 + hs.length by omega]
      exact c2
theorem lay_clean {e m : Nat} (hm : m + 1 = 2 ^ e) {hs : Array Int} (hn : hs.size ≤ m + 1) : ∃ owner, SetTable.layClean m hs = some owner ∧ Laid m owner hs.size := by
  obtain ⟨owner, c1, c2⟩ := lay_fold hm hs.toList 0 _ (Laid.zero m) (by rw [Array.length_toList]; omega)
  rw [Array.length_toList, Nat.zero_add] at c1 c2
  refine ⟨owner, ?_, c2⟩
  have e1 : SetTable.layClean m hs = (hs.toList.foldl (layStep m) (some (Array.replicate (m + 1) none, 0))).map (·.1) := by
    unfold SetTable.layClean
    rw [← Array.foldl_toList]
    rfl
  rw [e1, c1]
  rfl
theorem laid_all {e m : Nat} (hm : m + 1 = 2 ^ e) (finger moves : Nat) (led plain : Bool) {hs : Array Int} (hn : hs.size ≤ m + 1) :
    ∃ t order, SetTable.laid m finger moves led plain hs = some (t, order) ∧ order.toList.Perm (List.range hs.size) ∧ t.place.size = hs.size ∧ L2.Ris t.place.toList ∧ t.dummies = #[] ∧ t.mask = m ∧ t.led = led := by
  obtain ⟨owner, h1, h2⟩ := lay_clean hm hn
  have es : (((List.range (m + 1)).filterMap fun j => (owner.getD j none).map (j, ·)).map (·.2)) = occ m owner := by
    rw [List.map_filterMap]
    refine fm_eq _ _ _ fun j _ => ?_
    cases owner.getD j none <;> rfl
  have hr : SetTable.laid m finger moves led plain hs = some (⟨m, (((List.range (m + 1)).filterMap fun j => (owner.getD j none).map (j, ·)).map (·.1)).toArray, #[], finger, led, moves, plain⟩,
      (((List.range (m + 1)).filterMap fun j => (owner.getD j none).map (j, ·)).map (·.2)).toArray) := by
    unfold SetTable.laid
    rw [h1]
    rfl
  refine ⟨_, _, hr, ?_, ?_, ?_, rfl, rfl, rfl⟩
  · show ((((List.range (m + 1)).filterMap fun j => (owner.getD j none).map (j, ·)).map (·.2))).Perm _
    rw [es]
    exact h2.pm
  · show ((((List.range (m + 1)).filterMap fun j => (owner.getD j none).map (j, ·)).map (·.1))).toArray.size = _
    have q := h2.pm.length_eq
    rw [List.length_range, ← es, List.length_map] at q
    rw [List.size_toArray, List.length_map, q]
  · exact (L2.ris_live (fun j => owner.getD j none) (List.range (m + 1)) (by unfold L2.Ris; exact List.pairwise_lt_range)).1
/-! ### the size of a table -/
theorem size_go : ∀ (f e n : Nat), n < 2 ^ (e + f) → ∃ e', SetTable.sizeAbove.go n f (2 ^ e) = 2 ^ e' ∧ n < 2 ^ e' ∧ (e' = e ∨ 2 ^ e' ≤ 2 * n)
  | 0, e, n, h => ⟨e, rfl, h, .inl rfl⟩
  | f + 1, e, n, h => by
    show ∃ e', (if 2 ^ e ≤ n then SetTable.sizeAbove.go n f (2 ^ e * 2) else 2 ^ e) = 2 ^ e' ∧ _
    by_cases hc : 2 ^ e ≤ n
    · rw [if_pos hc]
      obtain ⟨e', a1, a2, a3⟩ := size_go f (e + 1) n (by rw [show e + 1 + f = e + (f + 1) by omega]; exact h)
      refine ⟨e', by rw [← Nat.pow_succ]; exact a1, a2, .inr ?_⟩
      rcases a3 with a3 | a3
      · rw [a3, Nat.pow_succ]; omega
      · exact a3
    · rw [if_neg hc]
      exact ⟨e, rfl, by omega, .inl rfl⟩
theorem size_above (n : Nat) (h : n < 2 ^ 60) : ∃ e, SetTable.sizeAbove n = 2 ^ e ∧ n < 2 ^ e ∧ (e = 3 ∨ 2 ^ e ≤ 2 * n) := by
  unfold SetTable.sizeAbove
  have q := size_go 64 3 n (Nat.lt_of_lt_of_le h (Nat.pow_le_pow_right (by decide) (by decide)))
  exact q
end PT

/-! sets of ints in the model: discard, a ^ b, set(list), sorted of any size -/
namespace PT
open PySem PySem.Spec PyProof.Rows L2

section
variable {P : Program} {w : World} {A : Around} {E : Value → Shared → Prop} {s : Shared} {a b r : Addr} {S T : Int → Bool} {n m : Nat}

theorem erase_toList {α : Type} (xs : Array α) (p : Nat) : (SetTable.eraseAt xs p).toList = xs.toList.eraseIdx p := by
  unfold SetTable.eraseAt
  rw [Array.toList_append, Array.toList_extract, Array.toList_extract, List.eraseIdx_eq_take_drop_succ]
  simp only [List.extract_eq_drop_take, List.drop_zero, Nat.sub_zero]
  rw [List.take_of_length_le (l := List.drop (p + 1) xs.toList) (by rw [List.length_drop, Array.length_toList]; omega)]
theorem ris_erase {xs : Array Nat} (h : Ris xs.toList) (p : Nat) : Ris (SetTable.eraseAt xs p).toList := by
  rw [erase_toList]
  exact List.Pairwise.sublist (List.eraseIdx_sublist _ _) h
/-- without the entry number i -/
theorem keys_erase {l : List (Int × Value)} {i : Nat} (hi : i < l.length) (nd : (l.map keyOf).Nodup) {k : Int} (hk : keyOf l[i] = k) :
    ((l.eraseIdx i).map keyOf).Nodup ∧ ∀ j, j ∈ (l.eraseIdx i).map keyOf ↔ j ∈ l.map keyOf ∧ j ≠ k := by
  have pm : (k :: (l.eraseIdx i).map keyOf).Perm (l.map keyOf) := by
    have q := (erase_perm l i l[i] (List.getElem?_eq_getElem hi)).map keyOf
    rw [List.map_cons, hk] at q
    exact q
  have nd2 := pm.nodup_iff.mpr nd
  obtain ⟨n1, n2⟩ := List.nodup_cons.mp nd2
  refine ⟨n2, fun j => ?_⟩
  rw [← pm.mem_iff, List.mem_cons]
  constructor
  · intro h
    exact ⟨.inr h, fun e => n1 (e ▸ h)⟩
  · rintro ⟨h | h, ne⟩
    · exact absurd h ne
    · exact h
theorem find_at {k : Int} {tk : Tok} {Q : Option Nat → Shared → Prop} {o : Obj} {es : Array (Int × Value)} {ep : Nat} {t : SetTable} (ho : s.heap.get? a = some o) (hd : o.data = .set es ep t) (g : ∀ e ∈ es.toList, GoodE e) (hb : es.size < scanBound) (hf : t.fits es.size = true)
    (h : Q (es.toList.findIdx? fun e => (intKind P w).is k e.2) s) : wpAny (model P w) A (setFind a (.int k tk) ((intKind P w).hash k)) Q E s := by
  have el : ElemsOf (intKind P w) es.toList := good_elems g
  unfold setFind setFindIn
  refine wpAny_bind (wpAny_setState_of ho hd hf ?_)
  dsimp only
  rw [byScan_of (x := .int k tk) rfl hb el]; simp only [↓reduceIte]
  refine wpAny_bind (wpAny_rule (wpAny_bind (wpAny_setScan_of (intKind_is P w k tk) ho hd hf el ?_)))
  cases e : List.findIdx? (fun e => (intKind P w).is k e.2) es.toList with
  | none => rw [e] at h; exact wpAny_pure h
  | some j => rw [e] at h; dsimp only; rw [Nat.zero_add]; exact wpAny_pure h
theorem drop_fits {t : SetTable} {n i : Nat} (hf : t.fits n = true) (hi : i < n) : (t.drop i).fits (n - 1) = true ∧ (t.drop i).led = t.led ∧ (Ris t.place.toList → Ris (t.drop i).place.toList) := by
  unfold SetTable.fits SetTable.fill at hf
  rw [Bool.and_eq_true, beq_iff_eq, decide_eq_true_eq] at hf
  have hp : i < t.place.size := by omega
  unfold SetTable.drop
  rw [Array.getElem?_eq_getElem hp]
  refine ⟨?_, rfl, fun h => ris_erase h i⟩
  unfold SetTable.fits SetTable.fill
  rw [Bool.and_eq_true, beq_iff_eq, decide_eq_true_eq]
  have l1 : (SetTable.eraseAt t.place i).size = t.place.size - 1 := by
    rw [← Array.length_toList, erase_toList, List.length_eraseIdx_of_lt (by simpa using hp), Array.length_toList]
  have l2 : ∀ (xs : Array Nat) (p x : Nat), p ≤ xs.size → (SetTable.insertAt xs p x).size = xs.size + 1 := fun xs p x hpx => by
    unfold SetTable.insertAt
    simp [Array.size_append, Array.size_push, Array.size_extract]
    omega
  have l3 : ∀ (xs : Array Nat) (j f lo hi : Nat), lo ≤ hi → hi ≤ xs.size → SetTable.below.go xs j f lo hi ≤ xs.size := by
    intro xs j f
    induction f with
    | zero => intro lo hi h1 h2; show lo ≤ _; omega
    | succ f ih =>
      intro lo hi h1 h2
      show (if lo < hi then (if xs.getD ((lo + hi) / 2) j < j then SetTable.below.go xs j f ((lo + hi) / 2 + 1) hi else SetTable.below.go xs j f lo ((lo + hi) / 2)) else lo) ≤ _
      split
      · split
        · exact ih _ _ (by omega) h2
        · exact ih _ _ (by omega) (by omega)
      · omega
  have l4 := l2 t.dummies (SetTable.below t.dummies t.place[i]) t.place[i] (l3 _ _ _ _ _ (Nat.zero_le _) (Nat.le_refl _))
  show (SetTable.eraseAt t.place i).size = n - 1 ∧ (SetTable.eraseAt t.place i).size + (SetTable.insertAt t.dummies _ _).size ≤ t.mask
  rw [l1, l4]
  omega
theorem setR_discard {k : Int} {tk : Tok} {Q : Bool → Shared → Prop} (R : SetR w s.heap a S n) (hQ : ∀ h' n', Heap.SameBut a s.heap h' → n' ≤ n → SetR w h' a (fun j => S j && !decide (j = k)) n' → Q (S k) { s with heap := h' }) :
    wpAny (model P w) A (setDiscardHashed a (.int k tk) ((intKind P w).hash k)) Q E s := by
  obtain ⟨o, es, ep, t, ho, hex, hd, g, nd, hm, hb, hf, hn, hr, hl⟩ := R
  unfold setDiscardHashed
  refine wpAny_bind (find_at ho hd g hb hf ?_)
  cases e : List.findIdx? (fun e => (intKind P w).is k e.2) es.toList with
  | none =>
    have hnk : k ∉ es.toList.map keyOf := fun z => by
      obtain ⟨x, hx, q⟩ := (good_mem (P := P) (w := w) g k).1 z
      rw [List.findIdx?_eq_none_iff.mp e x hx] at q
      cases q
    have hS : S k = false := Bool.eq_false_iff.mpr fun z => hnk ((hm k).1 z)
    have q := hQ s.heap n (Heap.SameBut.refl a s.heap) (Nat.le_refl _) ⟨o, es, ep, t, ho, hex, hd, g, nd, fun j => ?_, hb, hf, hn, hr, hl⟩
    · rw [hS] at q
      exact wpAny_pure q
    · rw [Bool.and_eq_true, Bool.not_eq_true', decide_eq_false_iff_not, ← hm j]
      exact ⟨fun z => z.1, fun z => ⟨z, fun y => by rw [y, hS] at z; cases z⟩⟩
  | some i =>
    obtain ⟨hi, pi, _⟩ := List.findIdx?_eq_some_iff_getElem.mp e
    have hk : keyOf es.toList[i] = k := (good_is (g _ (List.getElem_mem hi)) k).1 pi
    have hS : S k = true := (hm k).2 (List.mem_map.mpr ⟨_, List.getElem_mem hi, hk⟩)
    have his : i < es.size := by rw [← Array.length_toList]; exact hi
    obtain ⟨d1, d2, d3⟩ := drop_fits hf his
    have hz : (SetTable.eraseAt es i).size = es.size - 1 := by rw [← Array.length_toList, erase_toList, List.length_eraseIdx_of_lt hi, Array.length_toList]
    obtain ⟨k1, k2⟩ := keys_erase hi nd hk
    dsimp only
    refine wpAny_bind (wpAny_setState_of ho hd hf ?_)
    dsimp only
    refine wpAny_bind (wpAny_storeSet_of ho hd ?_ (fits_of_scanBound (by rw [hz]; omega)))
    refine wpAny_bind (wpAny_point (wpAny_pure ?_))
    have q := hQ _ (n - 1) (Heap.SameBut.update s.heap a (Obj.putSet (SetTable.eraseAt es i) (t.drop i))) (Nat.sub_le _ _) ⟨_, SetTable.eraseAt es i, ep + 1, t.drop i, store_at ho hd, hex, rfl, fun x hx => ?_, ?_, fun j => ?_, by rw [hz]; omega, by rw [hz]; exact d1, by rw [hz, hn], d3 hr, by rw [d2]; exact hl⟩
    · rw [hS] at q
      exact q
    · rw [erase_toList] at hx
      exact g x (List.mem_of_mem_eraseIdx hx)
    · rw [erase_toList]; exact k1
    · rw [erase_toList, k2 j, Bool.and_eq_true, Bool.not_eq_true', decide_eq_false_iff_not, hm j]
/-- one turned: out where it is in, in where it is out -/
theorem setR_flip {k : Int} {tk : Tok} {Q : Unit → Shared → Prop} (R : SetR w s.heap a S n) (room : n + 1 < scanBound) (hQ : ∀ h' n', Heap.SameBut a s.heap h' → n' ≤ n + 1 → SetR w h' a (fun j => Bool.xor (S j) (decide (j = k))) n' → Q () { s with heap := h' }) :
    wpAny (model P w) A (holding [.int k tk] do if !(← setDiscardHashed a (.int k tk) ((intKind P w).hash k)) then let _ ← setAddHashed a (.int k tk) ((intKind P w).hash k)) Q E s := by
  refine wpAny_holding (wpAny_bind (setR_discard R fun h1 n1 b1 l1 R1 => ?_))
  cases hS : S k with
  | true =>
    refine wpAny_pure (hQ h1 n1 b1 (by omega) (R1.congr fun j => ?_))
    by_cases e : j = k
    · subst e
      simp [hS]
    · simp [e]
  | false =>
    refine wpAny_bind (setR_add_hashed (s := { s with heap := h1 }) R1 (by omega) fun h2 b2 R2 => wpAny_pure ?_)
    refine hQ h2 _ (b1.trans b2) ?_ (R2.congr fun j => ?_)
    · split <;> omega
    · by_cases e : j = k
      · subst e
        simp [hS]
      · simp [e]

/-! ### all of b laid into a new set -/
theorem order_perm {es : Array (Int × Value)} {order : Array Nat} (hp : order.toList.Perm (List.range es.size)) : (order.filterMap (es[·]?)).toList.Perm es.toList := by
  rw [Array.toList_filterMap]
  have q := hp.filterMap (fun i => es[i]?)
  refine q.trans ?_
  have e : (List.range es.size).filterMap (fun i => es[i]?) = es.toList := by
    apply List.ext_getElem?
    intro i
    have e2 : (List.range es.size).filterMap (fun i => es[i]?) = (List.range es.size).map fun i => es.getD i (0, .none) := by
      rw [← List.filterMap_eq_map]
      refine fm_eq _ _ _ fun i hi => ?_
      have h := List.mem_range.mp hi
      rw [Array.getElem?_eq_getElem h]
      show _ = some (es.getD i (0, .none))
      rw [Array.getD_eq_getD_getElem?, Array.getElem?_eq_getElem h]
      rfl
    rw [e2, List.getElem?_map]
    by_cases h : i < es.size
    · rw [List.getElem?_range h, Array.getElem?_toList, Array.getElem?_eq_getElem h]
      show some (es.getD i (0, .none)) = _
      rw [Array.getD_eq_getD_getElem?, Array.getElem?_eq_getElem h]
      rfl
    · rw [List.getElem?_eq_none (by simpa using h), List.getElem?_eq_none (by simpa using h)]
      rfl
  rw [e]
/-- an empty set's table at r: nothing in it, mask a power of two less one -/
def EmptyAt (w : World) (h : Heap) (r : Addr) (msk : Nat) : Prop := ∃ o ep t, h.get? r = some o ∧ o.ExactSet ∧ o.data = .set #[] ep t ∧ t.place = #[] ∧ t.dummies = #[] ∧ t.mask = msk ∧ (w.params.followText "set-order" = true ∨ t.led = true)
theorem laid_nil {e M : Nat} (hm : M + 1 = 2 ^ e) (f mv : Nat) (led pl : Bool) : ∃ t, SetTable.laid M f mv led pl #[] = some (t, #[]) ∧ t.place = #[] ∧ t.dummies = #[] ∧ t.mask = M ∧ t.led = led := by
  obtain ⟨t, order, h1, h2, h3, h4, h5, h6, h7⟩ := laid_all hm f mv led pl (hs := #[]) (Nat.zero_le _)
  have e1 : order = #[] := by
    apply Array.ext'
    have q := h2.length_eq
    exact List.eq_nil_of_length_eq_zero (by simpa using q)
  rw [e1] at h1
  exact ⟨t, h1, Array.eq_empty_of_size_eq_zero h3, h5, h6, h7⟩
theorem room_at {Q : Unit → Shared → Prop} (R : EmptyAt w s.heap r 7) (hn : n < scanBound) (hQ : ∀ h' msk e, Heap.SameBut r s.heap h' → EmptyAt w h' r msk → msk + 1 = 2 ^ e → n ≤ msk → Q () { s with heap := h' }) : wpAny (model P w) A (setRoomFor r n) Q E s := by
  obtain ⟨o, ep, t, ho, hex, hd, hp, hdm, hmk, hl⟩ := R
  have hf : t.fits (#[] : Array (Int × Value)).size = true := by
    unfold SetTable.fits SetTable.fill
    rw [hp, hdm]
    simp
  unfold setRoomFor
  refine wpAny_bind (wpAny_setState_of ho hd hf ?_)
  dsimp only
  have er : t.roomFor n = if n * 5 ≥ 21 then some (n * 2) else none := by
    unfold SetTable.roomFor SetTable.fill
    rw [hp, hdm, hmk]
    simp
  rw [er]
  by_cases hc : n * 5 ≥ 21
  · rw [if_pos hc]
    dsimp only
    have hn2 : n < 4096 := hn
    obtain ⟨e, a1, a2, a3⟩ := size_above (n * 2) (by have : (8192 : Nat) < 2 ^ 60 := by decide
                                                     omega)
    have h8 : 2 ^ e ≤ 16384 := by
      rcases a3 with a3 | a3
      · rw [a3]; decide
      · omega
    have hM : SetTable.sizeAbove (n * 2) - 1 + 1 = 2 ^ e := by rw [a1]; have := Nat.two_pow_pos e; omega
    obtain ⟨t', b1, b2, b3, b4, b5⟩ := laid_nil hM t.finger (t.movedTo (SetTable.sizeAbove (n * 2) - 1)) t.led t.plain
    rw [setRelay_eq]
    refine wpAny_bind (wpAny_setState_of ho hd hf ?_)
    dsimp only
    refine wp_if_neg (by rw [a1, sizeLine_eq]; omega) ?_
    have er2 : t.relaid (Array.map (fun x => x.1) (#[] : Array (Int × Value))) (n * 2) = some (t', #[]) := by
      rw [Array.map_empty]
      exact b1
    rw [er2]
    dsimp only
    refine wpAny_bind (wp_if_neg (by simp) (wpAny_pure ?_))
    refine wpAny_storeSet_of ho hd ?_ (by simp)
    refine hQ _ _ e (Heap.SameBut.update ..) ⟨_, ep + 1, t', store_at ho hd, hex, ?_, b2, b3, b4, by rw [b5]; exact hl⟩ hM (by rw [a1]; omega)
    simp
  · rw [if_neg hc]
    exact wpAny_pure (hQ s.heap 7 3 (Heap.SameBut.refl ..) ⟨o, ep, t, ho, hex, hd, hp, hdm, hmk, hl⟩ rfl (by omega))
theorem merge_at {each : Sem Unit} {Q : Unit → Shared → Prop} (R : EmptyAt w s.heap r 7) (RT : SetR w s.heap b T m) (ne : r ≠ b) (hQ : ∀ h', Heap.SameBut r s.heap h' → SetR w h' r T m → Q () { s with heap := h' }) : wpAny (model P w) A (setMerge r b each) Q E s := by
  obtain ⟨ob, eb, epb, tb, hob, hexb, hdb, gb, ndb, hmb, hbb, hfb, hnb, hrb, hlb⟩ := RT
  unfold setMerge
  refine wp_if_neg (by simpa using ne) ?_
  refine wpAny_bind (wpAny_setState_of hob hdb hfb ?_)
  dsimp only
  cases hz : eb.isEmpty with
  | true =>
    have e0 : eb = #[] := Array.isEmpty_iff.mp hz
    obtain ⟨o, ep, t, ho, hex, hd, hp, hdm, hmk, hl⟩ := R
    refine wp_if_pos rfl (wpAny_pure (hQ s.heap (Heap.SameBut.refl ..) ⟨o, #[], ep, t, ho, hex, hd, fun e he => by simp at he, by simp, fun k => ?_, by decide, ?_, ?_, by rw [hp]; exact List.Pairwise.nil, hl⟩))
    · rw [hmb k, e0]
    · unfold SetTable.fits SetTable.fill
      rw [hp, hdm]; simp
    · rw [← hnb, e0]
  | false =>
    refine wp_if_neg (by simp) ?_
    refine wpAny_bind (room_at R hbb fun h1 msk e sb1 R1 hm1 hle => ?_)
    obtain ⟨o, ep, t, ho, hex, hd, hp, hdm, hmk, hl⟩ := R1
    have hf : t.fits (#[] : Array (Int × Value)).size = true := by
      unfold SetTable.fits SetTable.fill
      rw [hp, hdm]; simp
    refine wpAny_bind (wpAny_setState_of (s := { s with heap := h1 }) ho hd hf ?_)
    dsimp only
    have hfill : t.fill = 0 := by unfold SetTable.fill; rw [hp, hdm]; rfl
    have hled : w.params.followText "set-order" = true ∨ (t.led && tb.led) = true := by
      rcases hl with hl | hl
      · exact .inl hl
      · rcases hlb with hlb | hlb
        · exact .inl hlb
        · exact .inr (by rw [hl, hlb]; rfl)
    have hfb' := hfb
    unfold SetTable.fits SetTable.fill at hfb'
    rw [Bool.and_eq_true, beq_iff_eq, decide_eq_true_eq] at hfb'
    cases hroad : t.road tb with
    | slotForSlot =>
      dsimp only
      refine wpAny_storeSet_of (s := { s with heap := h1 }) ho hd ?_ (fits_of_scanBound hbb)
      exact hQ _ (sb1.trans (Heap.SameBut.update ..)) ⟨_, eb, ep + 1, _, store_at ho hd, hex, rfl, gb, ndb, hmb, hbb, hfb, hnb, hrb, hled⟩
    | clean =>
      dsimp only
      obtain ⟨t2, order, c1, c2, c3, c4, c5, c6, c7⟩ := laid_all hm1 t.finger t.moves (t.led && tb.led) (t.plain && tb.plain) (hs := eb.map (·.1)) (by rw [Array.size_map]; omega)
      rw [hmk, c1]
      rw [Array.size_map] at c2 c3
      have pm := order_perm c2
      have hs2 : (order.filterMap (eb[·]?)).size = eb.size := by rw [← Array.length_toList, pm.length_eq, Array.length_toList]
      refine wpAny_bind (wp_if_neg (by rw [hs2]; simp) (wpAny_pure ?_))
      refine wpAny_storeSet_of (s := { s with heap := h1 }) ho hd ?_ (by rw [hs2]; exact fits_of_scanBound hbb)
      refine hQ _ (sb1.trans (Heap.SameBut.update ..)) ⟨_, order.filterMap (eb[·]?), ep + 1, t2, store_at ho hd, hex, rfl, fun x hx => gb x (pm.mem_iff.mp hx), (pm.map keyOf).nodup_iff.mpr ndb, fun k => (hmb k).trans (pm.map keyOf).mem_iff.symm, by rw [hs2]; exact hbb, ?_, by rw [hs2]; exact hnb, c4, by rw [c7]; exact hled⟩
      unfold SetTable.fits SetTable.fill
      rw [hs2, c5, c6, c3]
      simp
      omega
    | oneByOne =>
      exfalso
      unfold SetTable.road at hroad
      rw [hfill] at hroad
      simp at hroad
      split at hroad <;> cases hroad

/-! ### the walk over a, r being filled -/
theorem qi_ints {es : Array (Int × Value)} (g : ∀ e ∈ es.toList, GoodE e) : ∀ e ∈ es.toList, ∃ k tk, e.2 = Value.int k tk := fun e he => let ⟨k, tk, h, _⟩ := g e he; ⟨k, tk, h⟩
theorem walk_at' {o : Obj} {es : Array (Int × Value)} {ep : Nat} {t : SetTable} {Q : Array (Int × Value) → Shared → Prop} (ho : s.heap.get? a = some o) (hd : o.data = .set es ep t) (hf : t.fits es.size = true) (hl : w.params.followText "set-order" = true ∨ t.led = true)
    (hQ : ∀ out d, out.toList.Perm es.toList → Q out { s with drawn := d }) : wpAny (model P w) A (setWalk a) Q E s := by
  unfold setWalk
  refine wpAny_bind (wpAny_setState_of ho hd hf ?_)
  dsimp only
  refine wpAny_bind (wpAny_byText ?_)
  cases hb : w.params.followText "set-order" with
  | true =>
    refine wp_if_pos rfl (wpAny_bind (wpAny_askSetting (wpAny_pure (hQ _ s.drawn (pick_perm _ es)))))
  | false =>
    refine wp_if_neg Bool.false_ne_true ?_
    cases hdr : (!t.plain && decide (es.size > 1)) with
    | true =>
      refine wp_if_pos (show (!t.plain && decide (es.size > 1)) = true from hdr) (wpAny_bind (drawOrder_at es.size es.toList s _ (Nat.le_of_eq Array.length_toList) fun ys d q => wpAny_pure (hQ ys.toArray d (by simpa using q))))
    | false =>
      refine wp_if_neg (show ¬ (!t.plain && decide (es.size > 1)) = true by rw [hdr]; exact Bool.false_ne_true) ?_
      have h2 : t.led = true := hl.resolve_left (by rw [hb]; exact Bool.false_ne_true)
      refine wpAny_bind (wpAny_of_eq (a := ()) ?_ (wpAny_pure (hQ es s.drawn (List.Perm.refl _))))
      show (if (!t.led && decide (es.size > 1)) = true then unsupported "set:maker-not-led" else pure ()) = pure ()
      rw [h2]; rfl
theorem quiet_at (l : List Addr) {Q : Bool → Shared → Prop} (h : ∀ x ∈ l, ∃ o es ep t, s.heap.get? x = some o ∧ o.data = .set es ep t ∧ t.fits es.size = true ∧ ∀ e ∈ es.toList, GoodE e) (hQ : Q true s) : wpAny (model P w) A (setsQuiet l) Q E s := by
  unfold setsQuiet
  refine wpAny_bind (wpAny_mono (wpAny_forIn_list (s := s) _ (fun rest bb s' => s' = s ∧ bb.1 = none ∧ ∀ x ∈ rest, x ∈ l) (fun bb s' => s' = s ∧ bb.1 = none) ?turn ?fin l _ ⟨rfl, rfl, fun x hx => hx⟩) ?k fun _ _ e => e)
  case turn =>
    rintro x rest bb s' ⟨rfl, hb, hr⟩
    obtain ⟨o, es, ep, t, ho, hd, hf, g⟩ := h x (hr x List.mem_cons_self)
    refine wpAny_bind (wpAny_setEntries_of ho hd hf ?_)
    refine wpAny_bind (wpAny_mono (MeetsSeq2.wpAny_forIn_array (s := s') _ (fun rest2 b2 s2 => s2 = s' ∧ b2.1 = none ∧ ∀ y ∈ rest2, y ∈ es.toList) (fun b2 s2 => s2 = s' ∧ b2.1 = none) ?turn2 ?fin2 es _ ⟨rfl, rfl, fun y hy => hy⟩) ?k2 fun _ _ e => e)
    case turn2 =>
      rintro y rest2 b2 s2 ⟨rfl, hb2, hr2⟩
      obtain ⟨k, tk, e1, _⟩ := g y (hr2 y List.mem_cons_self)
      obtain ⟨yh, yv⟩ := y
      simp only at e1
      subst e1
      exact wpAny_pure ⟨rfl, rfl, fun z hz => hr2 z (List.mem_cons_of_mem _ hz)⟩
    case fin2 =>
      rintro b2 s2 ⟨rfl, hb2, _⟩
      exact ⟨rfl, hb2⟩
    case k2 =>
      rintro b2 s2 ⟨rfl, hb2⟩
      obtain ⟨b21, b22⟩ := b2
      simp only at hb2
      subst hb2
      exact wpAny_pure ⟨rfl, rfl, fun z hz => hr z (List.mem_cons_of_mem _ hz)⟩
  case fin =>
    rintro bb s' ⟨rfl, hb, _⟩
    exact ⟨rfl, hb⟩
  case k =>
    rintro bb s' ⟨rfl, hb⟩
    obtain ⟨b1, b2⟩ := bb
    simp only at hb
    subst hb
    exact wpAny_pure hQ
theorem walk_unseen {o : Obj} {es : Array (Int × Value)} {ep : Nat} {t : SetTable} {Q : Array (Int × Value) → Shared → Prop} (ho : s.heap.get? a = some o) (hd : o.data = .set es ep t) (g : ∀ e ∈ es.toList, GoodE e) (hf : t.fits es.size = true) (hl : w.params.followText "set-order" = true ∨ t.led = true)
    (R : SetR w s.heap r S n) (hQ : ∀ out h' d, out.toList.Perm es.toList → Heap.SameBut r s.heap h' → SetR w h' r S n → Q out { s with heap := h', drawn := d }) : wpAny (model P w) A (setWalkUnseen a [r] (some r)) Q E s := by
  have pl0 : wpAny (model P w) A (setWalk a) Q E s := walk_at' ho hd hf hl fun out d p => hQ out s.heap d p (Heap.SameBut.refl ..) R
  unfold setWalkUnseen
  refine wpAny_bind (wpAny_setState_of ho hd hf ?_)
  dsimp only
  refine wpAny_bind (wpAny_byText ?_)
  by_cases hc : (w.params.followText "set-order" || (t.led && t.plain) || decide (es.size ≤ 1)) = true
  · exact wp_if_pos hc pl0
  · refine wp_if_neg hc ?_
    rw [Bool.not_eq_true] at hc
    obtain ⟨o2, es2, ep2, t2, ho2, hex2, hd2, g2, nd2, hm2, hb2, hf2, hn2, hr2, hl2⟩ := R
    refine wpAny_bind (quiet_at [a, r] (fun x hx => ?_) ?_)
    · rcases List.mem_cons.mp hx with e | e
      · rw [e]; exact ⟨o, es, ep, t, ho, hd, hf, g⟩
      · rw [List.mem_singleton.mp e]; exact ⟨o2, es2, ep2, t2, ho2, hd2, hf2, g2⟩
    · refine wp_if_neg (by decide) ?_
      refine wpAny_bind (wpAny_rule ?_)
      refine wpAny_bind (wpAny_setState_of ho2 hd2 hf2 ?_)
      dsimp only
      rw [Bool.or_eq_false_iff, Bool.or_eq_false_iff] at hc
      have hled : t.led = true := hl.resolve_left (by rw [hc.1.1]; exact Bool.false_ne_true)
      by_cases hcc : ((t2.led && !t.led) || (t2.plain && !t.plain)) = true
      · refine wp_if_pos hcc (wpAny_bind (wpAny_storeSet_of ho2 hd2 (wpAny_pure ?_) (fits_of_scanBound hb2)))
        refine hQ es _ s.drawn (List.Perm.refl _) (Heap.SameBut.update ..) ⟨_, es2, ep2 + 1, _, store_at ho2 hd2, hex2, rfl, g2, nd2, hm2, hb2, hf2, hn2, hr2, hl2.imp id fun z => ?_⟩
        show (t2.led && t.led) = true
        rw [z, hled]; rfl
      · exact wp_if_neg hcc (wpAny_pure (hQ es s.heap s.drawn (List.Perm.refl _) (Heap.SameBut.refl ..) ⟨o2, es2, ep2, t2, ho2, hex2, hd2, g2, nd2, hm2, hb2, hf2, hn2, hr2, hl2⟩))
end
end PT

/-! set(list), a ^ b, sorted(set), of ints, any size below the scan bound -/
namespace PT
open PySem PySem.Spec PyProof.Rows L2
theorem entry_xor : entryFor table "set.__xor__" = some Builtin.«frozenset.__xor__» := entryFor_alias (id' := "frozenset.__xor__") (by kernel_rfl) rfl (by decide +kernel) (by kernel_rfl)
/-- a fresh set -/
abbrev nSet (w : World) : Obj := { cls := .type "set", dict := none, data := .set #[] 0 (.fresh 0 0 (!w.params.followText "set-order")) }

section
variable {P : Program} {w : World} {A : Around} {E : Value → Shared → Prop} {s : Shared} {a b r : Addr} {S T : Int → Bool} {n m : Nat}
theorem emptyAt_new {h : Heap} (ho : h.get? r = some (nSet w)) : EmptyAt w h r 7 := by
  refine ⟨_, 0, _, ho, ⟨rfl, rfl, rfl⟩, rfl, rfl, rfl, rfl, ?_⟩
  show _ ∨ (!w.params.followText "set-order") = true
  cases w.params.followText "set-order" <;> simp
theorem setR_type {h : Heap} (R : SetR w h a S n) : ∃ o, h.get? a = some o ∧ o.cls = .type "set" := by
  obtain ⟨o, _, _, _, ho, hex, _⟩ := R
  exact ⟨o, ho, hex.1⟩
theorem any_set {Q : Bool → Shared → Prop} (h : s.TypeIs (.ref a) "set") (q : Q true s) : wpAny (model P w) A (Builtin.Frozenset.isAnySet (.ref a)) Q E s := by
  unfold Builtin.Frozenset.isAnySet
  show wpAny _ _ (isInstance (.ref a) (.type "set") >>= _) _ _ _
  refine wpAny_bind (wpAny_isInstance (b := true) h sub_set_self ?_)
  exact wpAny_pure q

theorem fold_flip {out : Array (Int × Value)} {f : (Int × Value) → Unit → Sem (ForInStep Unit)} {Q : Unit → Shared → Prop} (I : List (Int × Value) → Shared → Prop) (hi : I out.toList s) (turn : ∀ e rest s', I (e :: rest) s' → wpAny (model P w) A (f e ()) (fun o s'' => o = .yield () ∧ I rest s'') E s')
    (fin : ∀ s', I [] s' → Q () s') : wpAny (model P w) A (forIn out () f) Q E s := by
  refine MeetsSeq2.wpAny_forIn_array (s := s) _ (fun rest _ s' => I rest s') Q ?_ ?_ out _ hi
  · intro e rest b s' h
    exact wpAny_mono (turn e rest s' h) (fun o s'' z => by obtain ⟨rfl, z⟩ := z; exact z) fun _ _ e => e
  · intro b s' h
    exact fin s' h
/-- a ^ b, a new set -/
theorem xor_sets {Q : PySem.Fin → Shared → Prop} (RA : SetR w s.heap a S n) (RB : SetR w s.heap b T m) (room : n + m < 4000)
    (hQ : ∀ h' d c, (∀ x o, s.heap.get? x = some o → h'.get? x = some o) → c ≤ n + m → SetR w h' s.heap.objs.size (fun j => Bool.xor (S j) (T j)) c → Q (.done (.ret (.ref s.heap.objs.size))) { s with heap := h', drawn := d }) :
    wpAny (model P w) A (Builtin.«frozenset.__xor__» ⟨[.ref a, .ref b], []⟩) Q E s := by
  obtain ⟨oa, hoa, hca⟩ := setR_type RA
  obtain ⟨ob, hob, hcb⟩ := setR_type RB
  unfold Builtin.«frozenset.__xor__»
  wp_delta
  refine wpAny_bind (m := Builtin.Frozenset.slot1 "__xor__" _) (wpAny_of_eq (a := (Value.ref a, Value.ref b)) (by rfl) ?_)
  dsimp only
  simp only [Bool.false_eq_true, ↓reduceIte]
  refine wpAny_bind (wpAny_bind (any_set ⟨oa, hoa, hca⟩ ?_))
  show wpAny _ _ (Builtin.Frozenset.isAnySet (.ref b)) _ _ _
  refine any_set ⟨ob, hob, hcb⟩ ?_
  refine wp_if_neg (by decide) ?_
  refine wpAny_bind (m := Builtin.Frozenset.addrOf (.ref a)) (wpAny_pure ?_)
  refine wpAny_bind ?_
  wp_delta
  refine wpAny_bind ?_
  unfold Builtin.Frozenset.baseOf
  refine wpAny_bind (wpAny_isInstance (b := true) ⟨oa, hoa, hca⟩ sub_set_self (wpAny_pure ?_))
  simp only [↓reduceIte]
  unfold Builtin.Frozenset.newFrom
  refine wpAny_bind (wpAny_bind (wpAny_newSet_raw fun led hl => ?_))
  subst hl
  have hr : (s.heap.push (nSet w)).get? s.heap.objs.size = some (nSet w) := Heap.get?_push_size _ rfl
  have kp : ∀ x o, s.heap.get? x = some o → (s.heap.push (nSet w)).get? x = some o := fun x o e => Heap.get?_push_of_some _ e
  have hlb : b < s.heap.objs.size := Heap.lt_size hob
  have hla : a < s.heap.objs.size := Heap.lt_size hoa
  refine wpAny_bind (wpAny_pure (wpAny_bind (wpAny_holding ?_)))
  unfold Builtin.Frozenset.updateFrom
  refine wpAny_bind (any_set (s := { s with heap := s.heap.push (nSet w) }) ⟨ob, kp _ _ hob, hcb⟩ ?_)
  refine wp_if_pos rfl (wpAny_bind (wpAny_pure ?_))
  unfold Builtin.Frozenset.merge
  obtain ⟨o2, es2, ep2, t2, ho2, hex2, hd2, g2, nd2, hm2, hb2, hf2, hn2, hr2, hl2⟩ := RB
  refine wpAny_bind (wpAny_setEpoch_of (s := { s with heap := s.heap.push (nSet w) }) (kp _ _ ho2) hd2 hf2 ?_)
  refine merge_at (s := { s with heap := s.heap.push (nSet w) }) (emptyAt_new hr) (T := T) (m := m) ⟨o2, es2, ep2, t2, kp _ _ ho2, hex2, hd2, g2, nd2, hm2, hb2, hf2, hn2, hr2, hl2⟩ (Nat.ne_of_gt hlb) fun h1 sb1 R1 => ?_
  have kp1 : ∀ x o, s.heap.get? x = some o → h1.get? x = some o := fun x o e => (sb1.2 x (Nat.ne_of_lt (Heap.lt_size e))).trans (kp x o e)
  refine wpAny_pure (wpAny_bind (wpAny_pure (wpAny_bind (wpAny_holding ?_))))
  unfold Builtin.Frozenset.symmetricDifferenceUpdate
  have hne : (Value.ref a == Value.ref s.heap.objs.size) = false := by simpa using Nat.ne_of_lt hla
  refine wp_if_neg (by rw [hne]; exact Bool.false_ne_true) ?_
  dsimp only
  refine wpAny_bind (wpAny_typeOf (s := { s with heap := h1 }) (T := "set") ⟨oa, kp1 _ _ hoa, hca⟩ ?_)
  refine wp_if_neg (by decide) ?_
  refine wpAny_bind (any_set (s := { s with heap := h1 }) ⟨oa, kp1 _ _ hoa, hca⟩ ?_)
  refine wpAny_bind (wpAny_pure (wpAny_bind (wpAny_pure ?_)))
  obtain ⟨o3, es, ep, t, ho, hex, hd, g, nd, hm, hb, hf, hn, hrs, hl⟩ := RA
  refine wpAny_bind (wpAny_setEpoch_of (s := { s with heap := h1 }) (kp1 _ _ ho) hd hf (wpAny_holding ?_))
  refine wpAny_bind (walk_unseen (s := { s with heap := h1 }) (kp1 _ _ ho) hd g hf hl R1 fun out h2 d pm sb2 R2 => ?_)
  refine wpAny_bind (fold_flip (s := { s with heap := h2, drawn := d }) (fun rest s' => ∃ h' c dn, s' = { s with heap := h', drawn := d } ∧ Heap.SameBut s.heap.objs.size h1 h' ∧ (dn ++ rest).Perm es.toList ∧
      SetR w h' s.heap.objs.size (fun j => Bool.xor (T j) (decide (j ∈ dn.map keyOf))) c ∧ c ≤ m + dn.length) ?start ?turn ?fin)
  case start => exact ⟨h2, m, [], rfl, sb2, pm, R2.congr fun j => by simp, by simp⟩
  case turn =>
    rintro ⟨eh, ev⟩ rest s' ⟨h', c, dn, rfl, sb, pm', R, hc⟩
    have hin : (eh, ev) ∈ es.toList := pm'.mem_iff.mp (by simp)
    obtain ⟨k, tk, e1, e2⟩ := g _ hin
    simp only at e1 e2
    subst e1 e2
    have hdl : dn.length + (rest.length + 1) = n := by
      have q := pm'.length_eq
      have z : es.toList.length = n := by rw [← hn]; exact Array.length_toList
      rw [List.length_append, List.length_cons, z] at q
      exact q
    have hk : k ∉ dn.map keyOf := fun z => by
      have q : ((dn ++ (hashInt k, Value.int k tk) :: rest).map keyOf).Nodup := (pm'.map keyOf).nodup_iff.mpr nd
      rw [List.map_append, List.nodup_append] at q
      exact q.2.2 k z k (by simp [keyOf]) rfl
    have hsc : scanBound = 4096 := rfl
    refine wpAny_bind (setR_flip (s := { s with heap := h', drawn := d }) R (by omega) fun h3 c3 sb3 hc3 R3 => ?_)
    have sb4 := sb.trans sb3
    unfold Builtin.Frozenset.unchanged
    have ho3 : h3.get? a = some o3 := (sb4.2 a (Nat.ne_of_lt hla)).trans (kp1 _ _ ho)
    refine wpAny_bind (wpAny_bind (wpAny_setEpoch_of (s := { s with heap := h3, drawn := d }) ho3 hd hf ?_))
    refine wp_if_neg (by simp) (wpAny_pure (wpAny_pure ⟨rfl, h3, c3, dn ++ [(hashInt k, Value.int k tk)], rfl, sb4, by simpa using pm', R3.congr fun j => ?_, by rw [List.length_append]; simp; omega⟩))
    rw [List.map_append]
    by_cases z : j = k
    · subst z
      simp [hk, keyOf]
    · simp [z, keyOf]
  case fin =>
    rintro s' ⟨h', c, dn, rfl, sb, pm', R, hc⟩
    rw [List.append_nil] at pm'
    refine wpAny_pure (wpAny_pure (wpAny_pure (hQ h' d c (fun x o e => (sb.2 x (Nat.ne_of_lt (Heap.lt_size e))).trans (kp1 x o e)) ?_ (R.congr fun j => ?_))))
    · have q := pm'.length_eq
      have z : es.toList.length = n := by rw [← hn]; exact Array.length_toList
      omega
    · have q : decide (j ∈ dn.map keyOf) = S j := by
        rw [Bool.eq_iff_iff, decide_eq_true_eq, (pm'.map keyOf).mem_iff, hm j]
      rw [q, Bool.xor_comm]

/-- set(xs), xs a list of ints -/
theorem set_of {l : Addr} {xs : List Value} {ns : List Int} {Q : Value → Shared → Prop} (hh : A.handled = none) (hl : s.heap.IsList l xs.toArray) (hi : IntsAre xs ns) (hb : ns.length + 1 < scanBound)
    (h : ∀ (h' : Heap) (tk c : Nat), SetR w h' s.heap.objs.size (fun j => decide (j ∈ ns)) c → c ≤ ns.length → (∀ x o, s.heap.get? x = some o → h'.get? x = some o) → Q (.ref s.heap.objs.size) { s with heap := h', toks := tk }) :
    wpAny (model P w) A (call (.type "set") [.ref l]) Q E s := by
  have hz : xs.toArray.size = ns.length := by rw [List.size_toArray]; exact IntsAre.length hi
  obtain ⟨c, tl, hmro⟩ := F.called_set.mro
  have hmade := F.called_set.made
  have hsub := F.called_set.sub
  have h1 := F.called_set.notType
  have h2 := F.called_set.canCreate
  have hct := F.typeCall_set_1 (.ref l)
  have hol' := hl
  obtain ⟨ol, hol, hcl, nl, hdl⟩ := hol'
  have hlS : l < s.heap.objs.size := Heap.lt_size hol
  have hS : (s.heap.push (nSet w)).get? s.heap.objs.size = some (nSet w) := Heap.get?_push_size _ rfl
  have hT : Shared.TypeIs { s with heap := s.heap.push (nSet w) } (.ref s.heap.objs.size) "set" := ⟨_, hS, rfl⟩
  refine wpAny_call (codeAny_of_tree ?_)
  show wpAny _ _ (callAny (.type "set") _) _ _ _
  refine wpAny_pure ⟨Code.quiet_builtin _ (by decide +kernel), codeAny_builtin F.entry_type_call ?_⟩
  rw [Around.under_plain (weight_type_call_type "set" [.ref l] []) rfl]
  repeat (any_goals (first | assumption | wp_step))
  refine codeAny_mono (code_set_led1 (.ref l) (E := E) (Q₁ := fun obj s1 => obj = .ref s.heap.objs.size ∧ s1 = { s with heap := s.heap.push (nSet w) }) ⟨rfl, rfl⟩) fun r s1 hr => ?_
  cases r with
  | error e => exact hr
  | ok fl =>
    cases fl with
    | ret obj =>
      obtain ⟨rfl, rfl⟩ := hr
      have hli := F.called_set.init.lookup
      have hbi := F.called_set.init.bind (.ref s.heap.objs.size)
      repeat (any_goals (first | assumption | wp_step))
      refine codeAny_mono (codeAny_call_builtin (R := wants (fun r s2 => r = .none ∧ ∃ h' tk c, s2 = { s with heap := h', toks := tk } ∧ SetR w h' s.heap.objs.size (fun j => decide (j ∈ ns)) c ∧ c ≤ ns.length ∧
          ∀ x o, s.heap.get? x = some o → h'.get? x = some o) E) F.called_set.init.plain F.entry_set_init (check_set_init_1 hT ?_)) fun r2 s2 hr2 => ?_
      · obtain ⟨c0, d0, da0, sl0⟩ := ol
        simp only at hcl hdl
        subst hcl hdl
        have hol2 : (s.heap.push (nSet w)).get? l = some { cls := .type "list", dict := d0, data := .seq xs.toArray nl, slots := sl0 } := Heap.get?_push_of_some _ hol
        have hsls := F.sub_list_set
        have hslf := F.sub_list_frozenset
        have hne : (Value.type "list" == Value.type "dict") = false := by decide
        have hl1 : (s.heap.push (nSet w)).IsList l xs.toArray := ⟨_, hol2, rfl, nl, rfl⟩
        unfold Builtin.«set.__init__» noKeywords Builtin.Frozenset.updateFrom
        generalize hPI : pyIter = PI
        wp_walk
        subst hPI
        refine wpAny_pyIter_list hl1 (wpAny_bind (wpAny_runValue ?_))
        have hh3 : A.in1.in1.in1.handled = none := by simp [hh]
        have hp1 : (s.heap.push (nSet w)).objs.size = s.heap.objs.size + 1 := Heap.size_push ..
        have hnI : l ≠ (s.heap.push (nSet w)).objs.size := by
          rw [hp1]
          exact Nat.ne_of_lt (Nat.lt_succ_of_lt hlS)
        have hnS : s.heap.objs.size ∉ [(s.heap.push (nSet w)).objs.size, l] := by
          rw [hp1]
          simp only [List.mem_cons, List.not_mem_nil, or_false, not_or]
          exact ⟨Nat.ne_of_lt (Nat.lt_succ_self _), Nat.ne_of_gt hlS⟩
        have hval : ∀ (i : Nat) (v : Value), xs.toArray[i]? = some v → ∃ k t, ns[i]? = some k ∧ v = .int k t := fun i v hv => by
          have hi2 : i < ns.length := by rw [← hz]; exact (Array.getElem?_eq_some_iff.mp hv).1
          obtain ⟨t, e⟩ := PyProof.Rows.IntsAre.int_at hi i v (by simpa using hv)
          refine ⟨ns[i], t, List.getElem?_eq_getElem hi2, ?_⟩
          rw [e, List.getD_eq_getElem?_getD, List.getElem?_eq_getElem hi2, Option.getD_some]
        refine set_update_ints (Walks.list hh3 _ l hnI xs.toArray).toS s.heap.objs.size hnS ns hz hb hval xs.toArray.size 0 _ (by omega) (Nat.zero_le _) ⟨⟨_, Heap.get?_push_size _ rfl, rfl, rfl⟩, hl1.push _⟩ ?hS0 ?hR
        case hS0 => exact ⟨0, Nat.le_refl 0, setR_new_at (Heap.get?_push_of_some _ hS)⟩
        case hR =>
          intro s' c' hm hc' hS'
          obtain ⟨h', g', d', tk', os'⟩ := s'
          have eg : g' = s.gens := hm.gens
          have ed : d' = s.drawn := hm.drawn
          have eo : os' = s.os := hm.os
          subst eg ed eo
          rw [hz] at hc'
          show wpAny _ _ _ _ _ _
          refine wpAny_pure ?_
          show wpAny _ _ (ret Value.none) _ _ _
          refine wpAny_pure ⟨rfl, h', tk', c', rfl, hS', hc', fun x o e => hm.heap x o ?_ (Heap.get?_push_of_some _ (Heap.get?_push_of_some _ e))⟩
          have hx := Heap.lt_size e
          rw [hp1]
          simp only [List.mem_cons, List.not_mem_nil, or_false, not_or]
          exact ⟨Nat.ne_of_lt hx, Nat.ne_of_lt (Nat.lt_succ_of_lt hx)⟩
      · cases r2 with
        | error e => exact hr2
        | ok fl2 =>
          cases fl2 with
          | ret r =>
            obtain ⟨rfl, h', tk, c', rfl, hS', hc', hk'⟩ := hr2
            repeat (any_goals (first | assumption | wp_step))
            exact h _ _ _ hS' hc' hk'
          | _ => exact hr2.elim
    | _ => exact hr.elim

/-- sorted(set), of any size -/
theorem sorted_of {Q : Value → Shared → Prop} (R : SetR w s.heap a S n) (hh : A.handled = none)
    (hQ : ∀ s' p (out : List Value) (c : Nat) (ns : List Int), (∀ x o, s.heap.get? x = some o → s'.heap.get? x = some o) → s'.gens = s.gens → s'.os = s.os → s.heap.objs.size ≤ p →
      s'.heap.get? p = some (seqObj "list" out.toArray c) → IntsAre out ns → ns.Pairwise (· < ·) → (∀ k, k ∈ ns ↔ S k = true) → ns.length = n → Q (.ref p) s') :
    wpAny (model P w) A (call (.builtin "sorted") [.ref a]) Q E s := by
  obtain ⟨o, es, ep, t, ho, hex, hd, g, nd, hm, hb, hf, hn, hr, hl⟩ := R
  refine Calls.call_function_entry kind_sorted plain_sorted entry_sorted (args_sorted1 _) ?_
  unfold Builtin.«sorted»
  refine wpAny_bind (m := checkCount "sorted" 1 1 _) (wpAny_pure (wpAny_bind (collect_set (A := A.in1) hh ⟨o, ho, hex.1, hd⟩ hf hb hr hl fun s1 vs k1 hz g1 o1 pm => ?_)))
  have hvl : vs.length = n := by rw [pm.length_eq, List.length_map, Array.length_toList]; exact hn
  have hsz : vs.length ≤ sizeLine := by
    have : scanBound = 4096 := rfl
    rw [hvl, sizeLine_eq]; omega
  have hI : IntsAre vs (vs.map SrtO.iv) := SrtO.ints_iv fun v hv => by
    obtain ⟨e, he, q⟩ := List.mem_map.mp (pm.mem_iff.mp hv)
    obtain ⟨k, tk, z, _⟩ := g e he
    exact ⟨k, tk, q ▸ z⟩
  have pk : (vs.map SrtO.iv).Perm (es.toList.map keyOf) := by
    have q := pm.map SrtO.iv
    rw [List.map_map] at q
    exact q
  refine wpAny_bind (wpAny_newList ?_ hsz)
  have hoL : (s1.heap.push (seqObj "list" vs.toArray 0)).get? s1.heap.objs.size = some (seqObj "list" vs.toArray 0) := Heap.get?_push_size _ rfl
  refine wpAny_bind (wpAny_holding (wpAny_call_entry slot_list_sort ⟨_, hoL, rfl⟩ entry_list_sort (SrtO.list_sort_ord SrtO.swo_int hoL hsz (fun z => SrtO.ints_sortable hI z) fun out b1 b2 => ⟨_, rfl, ?_⟩) (args_list_sort _)))
  obtain ⟨c, hc⟩ := sortedHeap_at (vs := vs) (out := out.toArray) hoL
  obtain ⟨k2, k3, k4⟩ := SrtO.ints_out hI b1 b2
  have pn := k3.trans pk
  refine wpAny_pure ⟨_, rfl, hQ _ s1.heap.objs.size out c _ (fun x u e => ?_) g1 o1 hz hc k2 (lt_of_le_nodup _ k4 (pn.nodup_iff.mpr nd)) (fun k => by rw [pn.mem_iff, ← hm k]) (by rw [pn.length_eq, List.length_map, Array.length_toList]; exact hn)⟩
  have q := k1 x u e
  have hlt := Heap.lt_size q
  show (sortedHeap (s1.heap.push (seqObj "list" vs.toArray 0)) s1.heap.objs.size vs out.toArray).get? x = some u
  rw [sortedHeap_old (Nat.ne_of_lt hlt) (by rw [size_push']; exact Nat.lt_succ_of_lt hlt)]
  exact Heap.get?_push_of_some _ q
end
end PT

/-! set expressions by content -/
namespace PT
open PySem PySem.Spec PyProof.Rows L2
theorem nodup_le : ∀ {l m : List Int}, l.Nodup → (∀ j ∈ l, j ∈ m) → l.length ≤ m.length
  | [], _, _, _ => Nat.zero_le _
  | x :: l, m, nd, h => by
    obtain ⟨n1, n2⟩ := List.nodup_cons.mp nd
    have hx := h x List.mem_cons_self
    have q := nodup_le (m := m.erase x) n2 fun j hj => (List.mem_erase_of_ne (fun z : j = x => n1 (by rw [← z]; exact hj))).mpr (h j (List.mem_cons_of_mem _ hj))
    rw [List.length_erase_of_mem hx] at q
    have := List.length_pos_of_mem hx
    rw [List.length_cons]
    omega
theorem setR_card {w : World} {h : Heap} {a : Addr} {S : Int → Bool} {n : Nat} (R : SetR w h a S n) {ns : List Int} (e : ∀ j, S j = true ↔ j ∈ ns) : n ≤ ns.length := by
  obtain ⟨o, es, ep, t, ho, hex, hd, g, nd, hm, hb, hf, hn, hr, hl⟩ := R
  have q : (es.toList.map keyOf).length = n := by rw [List.length_map, Array.length_toList]; exact hn
  rw [← q]
  exact nodup_le nd fun j hj => (e j).mp ((hm j).mpr hj)
end PT
namespace PD
open PySem PySem.Spec PyProof.Rows L2
section
variable {X : Cx}
def rSetL (K : Fr) (w : World) : List V → Hp → VK → Prop := fun xs H Q => ∃ (a : Addr) (ns : List Int), xs = [.ref a] ∧ (SqL K H a (ns.map V.int) ∨ SqT K H a (ns.map V.int)) ∧ ns.length < 4000 ∧
  ∀ p S n, H p = none → (∀ j, S j = true ↔ j ∈ ns) → Q (.ref p) (upd H p (SetO w p S n))
theorem cr_setL (hc : X.calm = true) : CallR X (.type "set") (rSetL X.K X.w) := by
  intro pins s σ H vs us Q I r h
  obtain ⟨a, ns, rfl, hs, hb, q⟩ := h
  rw [Vals.ref1 r]
  have hb2 : ns.length + 1 < scanBound := by
    have : scanBound = 4096 := rfl
    omega
  have fin : ∀ (h' : Heap) (tk c : Nat), SetR X.w h' s.heap.objs.size (fun j => decide (j ∈ ns)) c → (∀ x o, s.heap.get? x = some o → h'.get? x = some o) → EP X pins σ Q (.ref s.heap.objs.size) { s with heap := h', toks := tk } := fun h' tk c R hk =>
    ⟨.ref _, upd H s.heap.objs.size (SetO X.w s.heap.objs.size (fun j => decide (j ∈ ns)) c), I.laid hk (Nat.le_refl _) (setO_new R), rfl, q _ _ _ (I.hok.fresh (Nat.le_refl _)) fun j => decide_eq_true_iff⟩
  rcases hs with hs | hs
  · obtain ⟨its, rv, hl, hz⟩ := I.list hs
    exact PT.set_of (I.ok.hd hc) hl.isList rv.ints hb2 fun h' tk c R _ hk => fin h' tk c R hk
  · obtain ⟨its, rv, hl, hz⟩ := I.tuple hs
    exact call_set_tupI ns (I.ok.hd hc) hl (by simpa using rv.ints) hb2 fun h' tk c R _ hk => fin h' tk c R hk
def rXorS (w : World) : R2 := fun x y H Q => ∃ (a b : Addr) (S T : Int → Bool) (n m : Nat), x = .ref a ∧ y = .ref b ∧ H a = some (SetO w a S n) ∧ H b = some (SetO w b T m) ∧
  ((∃ ns : List Int, (∀ j, S j = true ↔ j ∈ ns) ∧ ns.length < 2000) ∧ ∃ ns : List Int, (∀ j, T j = true ↔ j ∈ ns) ∧ ns.length < 2000) ∧
  ∀ p c, H p = none → Q (.ref p) (upd H p (SetO w p (fun j => Bool.xor (S j) (T j)) c))
theorem or_xorS : OpR X (binaryOp .BitXor) (rXorS X.w) := by
  intro pins s σ H x y v u Q I rx ry h
  obtain ⟨a, b, S, T, n, m, rfl, rfl, ha, hb, ⟨⟨n1, e1, l1⟩, n2, e2, l2⟩, q⟩ := h
  cases rx
  cases ry
  have R1 := setO_get I ha
  have R2 := setO_get I hb
  have c1 := PT.setR_card R1 e1
  have c2 := PT.setR_card R2 e2
  obtain ⟨oa, ha1, ha2⟩ := PT.setR_type R1
  obtain ⟨ob, hb1, hb2⟩ := PT.setR_type R2
  refine wpAny_binaryOp_same (op := .BitXor) (T := "set") ⟨oa, ha1, ha2⟩ ⟨ob, hb1, hb2⟩ F.fills_set_xor F.slot_set_xor (wpAny_call_entry F.slot_set_xor ⟨oa, ha1, ha2⟩ PT.entry_xor (PT.xor_sets R1 R2 (by omega) fun h' d c k hc R => ⟨_, rfl, ?_⟩) (F.args_set_xor_2 _ _))
  refine ⟨by simp, .ref s.heap.objs.size, upd H s.heap.objs.size (SetO X.w s.heap.objs.size (fun j => Bool.xor (S j) (T j)) c), ?_, rfl, q _ _ (I.hok.fresh (Nat.le_refl _))⟩
  exact I.call (t' := s.toks) (ch := []) (Un.laid k (Nat.le_refl _) (I.hok.fresh (Nat.le_refl _))) (I.hok.laid k (Nat.le_refl _) (setO_new R)) I.bare (fun _ z => nomatch z)
def rSortS (w : World) : List V → Hp → VK → Prop := fun vs H Q => ∃ (a : Addr) (S : Int → Bool) (n : Nat), vs = [V.ref a] ∧ H a = some (SetO w a S n) ∧
  ∀ (ns : List Int) (p : Addr), ns.Pairwise (· < ·) → (∀ k : Int, k ∈ ns ↔ S k = true) → H p = none → Q (.ref p) (upd H p (.lst (ns.map V.int)))
theorem cr_sortS (hc : X.calm = true) : CallR X (.builtin "sorted") (rSortS X.w) := by
  intro pins s σ H vs us Q I r h
  obtain ⟨a, S, n, rfl, ha, q⟩ := h
  have R := setO_get I ha
  rw [Vals.ref1 r]
  have hsz : n ≤ sizeLine := by
    obtain ⟨o, es, ep, t, ho, hex, hd, g, nd, hm, hb, hf, hn, hr, hl⟩ := R
    rw [← hn]
    exact fits_of_scanBound hb
  refine PT.sorted_of R (I.ok.hd hc) fun s' p out c ns k g o hp hg hi hs hm hl => ?_
  have hlen : (ns.map V.int).length ≤ sizeLine := by rw [List.length_map, hl]; exact hsz
  have hn : H p = none := I.hok.fresh hp
  have e : s' = { s with heap := s'.heap, gens := s'.gens, drawn := s'.drawn, toks := s'.toks } := by
    cases s'
    cases s
    cases o
    rfl
  have J : Inv X pins σ (upd H p (.lst (ns.map V.int))) { s with heap := s'.heap, gens := s'.gens, drawn := s'.drawn, toks := s'.toks } :=
    I.call (ch := []) (Un.laid k hp hn) (I.hok.laid k hp ⟨hlen, out, c, vals_of_ints hi, hg⟩) (by rw [g]; exact I.bare) (fun _ z => nomatch z)
  rw [e]
  exact ⟨.ref p, _, J, rfl, q ns p hs hm hn⟩

/-! by content -/
/-- the numbers, each once, rising -/
def insU (k : Int) : List Int → List Int
  | [] => [k]
  | x :: l => if k < x then k :: x :: l else if k = x then x :: l else x :: insU k l
def uniq : List Int → List Int
  | [] => []
  | x :: l => insU x (uniq l)
theorem mem_insU {k j : Int} : ∀ {l : List Int}, j ∈ insU k l ↔ j = k ∨ j ∈ l
  | [] => by simp [insU]
  | x :: l => by
    unfold insU
    split
    · simp
    · split
      · rename_i h; subst h; simp
      · rw [List.mem_cons, mem_insU, List.mem_cons]
        exact ⟨fun h => h.elim (fun z => .inr (.inl z)) (fun h => h.elim .inl fun z => .inr (.inr z)), fun h => h.elim (fun z => .inr (.inl z)) fun h => h.elim .inl fun z => .inr (.inr z)⟩
theorem insU_rises {k : Int} : ∀ {l : List Int}, l.Pairwise (· < ·) → (insU k l).Pairwise (· < ·)
  | [], _ => List.pairwise_singleton _ _
  | x :: l, h => by
    obtain ⟨h1, h2⟩ := List.pairwise_cons.mp h
    unfold insU
    split
    · rename_i hk
      exact List.pairwise_cons.mpr ⟨fun y hy => (List.mem_cons.mp hy).elim (fun z => z ▸ hk) fun z => Int.lt_trans hk (h1 y z), h⟩
    · split
      · exact h
      · refine List.pairwise_cons.mpr ⟨fun y hy => ?_, insU_rises h2⟩
        rcases mem_insU.mp hy with z | z
        · omega
        · exact h1 y z
theorem uniq_rises : ∀ l : List Int, (uniq l).Pairwise (· < ·)
  | [] => List.Pairwise.nil
  | _ :: l => insU_rises (uniq_rises l)
theorem mem_uniq {j : Int} : ∀ {l : List Int}, j ∈ uniq l ↔ j ∈ l
  | [] => Iff.rfl
  | _ :: l => by
    show j ∈ insU _ (uniq l) ↔ _
    rw [mem_insU, mem_uniq, List.mem_cons]
theorem rises_eq : ∀ {l m : List Int}, l.Pairwise (· < ·) → m.Pairwise (· < ·) → (∀ j, j ∈ l ↔ j ∈ m) → l = m
  | [], [], _, _, _ => rfl
  | [], y :: m, _, _, h => absurd ((h y).mpr List.mem_cons_self) (by simp)
  | x :: l, [], _, _, h => absurd ((h x).mp List.mem_cons_self) (by simp)
  | x :: l, y :: m, hl, hm, h => by
    obtain ⟨a1, a2⟩ := List.pairwise_cons.mp hl
    obtain ⟨b1, b2⟩ := List.pairwise_cons.mp hm
    have e : x = y := by
      rcases List.mem_cons.mp ((h x).mp List.mem_cons_self) with z | z
      · exact z
      · rcases List.mem_cons.mp ((h y).mpr List.mem_cons_self) with z2 | z2
        · exact z2.symm
        · exact absurd (Int.lt_trans (b1 x z) (a1 y z2)) (Int.lt_irrefl _)
    subst e
    rw [rises_eq a2 b2 fun j => ⟨fun hj => ?_, fun hj => ?_⟩]
    · rcases List.mem_cons.mp ((h j).mp (List.mem_cons_of_mem _ hj)) with z | z
      · exact absurd (a1 j hj) (by rw [z]; exact Int.lt_irrefl _)
      · exact z
    · rcases List.mem_cons.mp ((h j).mpr (List.mem_cons_of_mem _ hj)) with z | z
      · exact absurd (b1 j hj) (by rw [z]; exact Int.lt_irrefl _)
      · exact z
theorem uniq_of {l m : List Int} (hl : l.Pairwise (· < ·)) (h : ∀ j, j ∈ l ↔ j ∈ m) : l = uniq m := rises_eq hl (uniq_rises m) fun j => (h j).trans mem_uniq.symm

def tSt (K : Fr) (wd : World) (f : Ro → Option (List Int)) : TE := fun σ H Q => ∃ H0 B ρ ns, Same B H ∧ Slots K H0 B H σ ρ ∧ f ρ = some ns ∧
  ∀ p S n B' H', Grow B H B' H' → H' p = some (SetO wd p S n) → (∀ j, S j = true ↔ j ∈ ns) → Q (.ref p) H'
abbrev PZ (X : Cx) (e : Expr) (f : Ro → Option (List Int)) : Prop := PE X e (tSt X.K X.w f)
variable {a b e : Expr} {fa : Ro → Option W} {f g : Ro → Option (List Int)} {pos : Pos}
/-- the whole numbers of a list or a tuple -/
def numsOf : W → Option (List Int)
  | .d (.list xs) => (intsOf xs).bind fun ns => if ns.length < 2000 then some ns else none
  | .d (.tuple xs) => (intsOf xs).bind fun ns => if ns.length < 2000 then some ns else none
  | _ => none
def fSet (fa : Ro → Option W) : Ro → Option (List Int) := fun ρ => (fa ρ).bind numsOf
def xorN (a b : List Int) : Option (List Int) := if a.length < 2000 ∧ b.length < 2000 then some (a.filter (fun j => !decide (j ∈ b)) ++ b.filter (fun j => !decide (j ∈ a))) else none
def fXorS (f g : Ro → Option (List Int)) : Ro → Option (List Int) := fun ρ => (f ρ).bind fun a => (g ρ).bind fun b => xorN a b
def fSorS (f : Ro → Option (List Int)) : Ro → Option (List PyData) := fun ρ => (f ρ).map fun ns => (uniq ns).map .int
theorem nums_at {K : Fr} {B H : Hp} {v : V} {x : W} {ns : List Int} (s : Same B H) (r : Rw K B v x) (h : numsOf x = some ns) : ∃ a, v = .ref a ∧ (SqL K H a (ns.map V.int) ∨ SqT K H a (ns.map V.int)) ∧ ns.length < 2000 := by
  unfold numsOf at h
  split at h
  · rename_i xs
    cases e : intsOf xs with
    | none => rw [e] at h; cases h
    | some ms =>
      rw [e, Option.bind_some] at h
      by_cases hz : ms.length < 2000
      · rw [if_pos hz] at h
        cases h
        obtain ⟨p, us, rfl, h1, k1⟩ := dp_lst r
        rw [intsOf_eq e] at k1
        have z := dpa_ints k1
        subst z
        exact ⟨p, rfl, .inl (sql_of (rd_mono s h1)), hz⟩
      · rw [if_neg hz] at h; cases h
  · rename_i xs
    cases e : intsOf xs with
    | none => rw [e] at h; cases h
    | some ms =>
      rw [e, Option.bind_some] at h
      by_cases hz : ms.length < 2000
      · rw [if_pos hz] at h
        cases h
        obtain ⟨p, us, rfl, h1, k1⟩ := dp_tup r
        rw [intsOf_eq e] at k1
        have z := dpa_ints k1
        subst z
        exact ⟨p, rfl, .inr (sqt_of (rd_mono s h1)), hz⟩
      · rw [if_neg hz] at h; cases h
  · cases h
/-- set(xs) -/
theorem pz_set {x : Str} {p : Pos} (hc : X.calm = true) (hg : Gl X x) (hm : X.mg x = none) (hv : bootBuiltins x = some (.type "set")) (ha : PD X e fa) (hn : x ≠ "__name__" := by decide) (hdb : (x == ("__debug__" : Str)) = false := by decide)
    (he : starEach [e] X.env = (false, eval e X.env) :: starEach [] X.env := by rfl) (hpl : (backTo pos (starEach [] X.env)).any (·.1) = false := by rfl) : PZ X (.Call (.Name x p) [e] [] pos) (fSet fa) :=
  pe_imp (pe_callTy (cr_setL hc) hg hm hv (pa_cons ha pa_nil he) hn hdb he hpl) fun σ H Q h => by
    obtain ⟨H0, B, ρ, ns, s, S, e, q⟩ := h
    unfold fSet at e
    cases ea : fa ρ with
    | none => rw [ea] at e; cases e
    | some x =>
      rw [ea, Option.bind_some] at e
      refine ⟨H0, B, ρ, x, s, S, ea, fun v B1 H1 g1 r1 => ?_⟩
      obtain ⟨a, rfl, h1, h2⟩ := nums_at g1.s r1 e
      exact ⟨a, ns, rfl, h1, by omega, fun p' S' n hp hS => q p' S' n B1 _ (g1.trans (Grow.own g1.s hp)) upd_same hS⟩
/-- a ^ b -/
theorem pz_xor (ha : PZ X a f) (hb : PZ X b g) : PZ X (.BinOp a .BitXor b pos) (fXorS f g) :=
  pe_imp (pe_op or_xorS ha hb) fun σ H Q h => by
    obtain ⟨H0, B, ρ, ns, s, S, e, q⟩ := h
    unfold fXorS at e
    cases ea : f ρ with
    | none => rw [ea] at e; cases e
    | some n1 =>
      cases eb : g ρ with
      | none => rw [ea, eb] at e; cases e
      | some n2 =>
        rw [ea, eb, Option.bind_some, Option.bind_some] at e
        unfold xorN at e
        split at e
        · rename_i hz
          cases e
          refine ⟨H0, B, ρ, n1, s, S, ea, fun p1 S1 m1 B1 H1 g1 k1 e1 => ⟨H0, B1, ρ, n2, g1.s, S.mono s g1, eb, fun p2 S2 m2 B2 H2 g2 k2 e2 => ?_⟩⟩
          refine ⟨p1, p2, S1, S2, m1, m2, rfl, rfl, g2.h _ _ k1, k2, ⟨⟨n1, e1, hz.1⟩, n2, e2, hz.2⟩, fun p c hp => ?_⟩
          refine q p _ c B2 _ ((g1.trans g2).trans (Grow.own g2.s hp)) upd_same fun j => ?_
          have a1 := e1 j
          have a2 := e2 j
          rw [List.mem_append, List.mem_filter, List.mem_filter]
          by_cases y1 : j ∈ n1 <;> by_cases y2 : j ∈ n2 <;> cases z1 : S1 j <;> cases z2 : S2 j <;> simp_all
        · cases e
/-- sorted(..) -/
theorem pn_sortS {x : Str} {p : Pos} (hc : X.calm = true) (hg : Gl X x) (hm : X.mg x = none) (hv : bootBuiltins x = some (.builtin "sorted")) (ha : PZ X e f) (hn : x ≠ "__name__" := by decide) (hdb : (x == ("__debug__" : Str)) = false := by decide)
    (he : starEach [e] X.env = (false, eval e X.env) :: starEach [] X.env := by rfl) (hpl : (backTo pos (starEach [] X.env)).any (·.1) = false := by rfl) : PN X (.Call (.Name x p) [e] [] pos) (fSorS f) :=
  pe_imp (pe_callB (cr_sortS hc) hg hm hv (pa_cons ha pa_nil he) hn hdb he hpl) fun σ H Q h => by
    obtain ⟨H0, B, ρ, xs, s, S, e, q⟩ := h
    unfold fSorS at e
    cases ea : f ρ with
    | none => rw [ea] at e; cases e
    | some ns =>
      rw [ea] at e
      cases e
      refine ⟨H0, B, ρ, ns, s, S, ea, fun p1 S1 n1 B1 H1 g1 k1 e1 => ⟨p1, S1, n1, rfl, k1, fun ms p hs hm hp => ?_⟩⟩
      have z := uniq_of hs fun j => (hm j).trans (e1 j)
      subst z
      have g2 := Grow.own g1.s (o := .lst ((uniq ns).map V.int)) hp
      exact q p _ B1 _ (g1.trans g2) (g1.h.free hp) (g1.s.free hp) upd_same (dpa_of_ints _)
end
end PD

/-! t[::-1], ranges as tuples -/
namespace PT
open PySem PySem.Spec PyProof.Rows L2 HT
theorem back_adjust (n : Nat) : Builtin.Slice.sliceAdjust none none (-1) (n : Int) = ((n : Int) - 1, -1) := by
  unfold Builtin.Slice.sliceAdjust
  simp
theorem back_places (n : Nat) : Builtin.Slice.slicePlaces ((n : Int) - 1) (-1) (-1) = n := by
  unfold Builtin.Slice.slicePlaces
  simp
  split <;> omega
theorem back_pick (l : List Value) : (List.range l.length).filterMap (fun (k : Nat) => l.toArray[((l.length : Int) - 1 + (k : Int) * -1).toNat]?) = l.reverse := by
  apply List.ext_getElem?
  intro i
  have e : (List.range l.length).filterMap (fun (k : Nat) => l.toArray[((l.length : Int) - 1 + (k : Int) * -1).toNat]?) = (List.range l.length).map fun (k : Nat) => l.getD (l.length - 1 - k) Value.none := by
    rw [← List.filterMap_eq_map]
    refine fm_eq _ _ _ fun k hk => ?_
    have h := List.mem_range.mp hk
    have e1 : ((l.length : Int) - 1 + (k : Int) * -1).toNat = l.length - 1 - k := by omega
    have h2 : l.length - 1 - k < l.length := by omega
    rw [e1]
    simp [h2]
  rw [e, List.getElem?_map]
  by_cases h : i < l.length
  · rw [List.getElem?_range h, List.getElem?_reverse h]
    have h2 : l.length - 1 - i < l.length := by omega
    simp [h2]
  · rw [List.getElem?_eq_none (by simpa using h), List.getElem?_eq_none (by simpa using h)]
    rfl
section
variable {P : Program} {w : World} {A : Around} {E : Value → Shared → Prop} {s : Shared}
theorem applied_back {sl : Addr} {vl vu vs : Value} {n : Nat} {Q : Int × Int × Nat → Shared → Prop} (hs : s.heap.IsSliceOf sl vl vu vs) (pl : IsPart vl none) (pu : IsPart vu none) (ps : IsPart vs (some (-1)))
    (h : Q ((n : Int) - 1, -1, n) s) : wpAny (model P w) A (Builtin.Slice.sliceApplied (.ref sl) (pure (n : Int))) Q E s := by
  obtain ⟨os, hos, hcs, hds⟩ := id hs
  unfold Builtin.Slice.sliceApplied Builtin.Slice.sliceFields
  refine wpAny_bind (wpAny_bind (wpAny_field hos hds (x := vl) rfl (wpAny_bind (wpAny_field hos hds (x := vu) rfl (wpAny_bind (wpAny_field hos hds (x := vs) rfl (wpAny_pure ?_)))))))
  refine wpAny_bind (slicePart_ ps ?_)
  show wpAny _ _ (if ((-1 : Int) == 0) = true then _ else _) _ _ s
  refine wp_if_neg (by decide) ?_
  refine wpAny_bind (slicePart_ pl (wpAny_bind (slicePart_ pu (wpAny_bind (wpAny_pure ?_)))))
  show wpAny _ _ (match Builtin.Slice.sliceAdjust none none (-1) (n : Int) with | (lo, hi) => pure (lo, (-1 : Int), Builtin.Slice.slicePlaces lo hi (-1))) _ _ s
  rw [back_adjust]
  show wpAny _ _ (pure ((n : Int) - 1, (-1 : Int), Builtin.Slice.slicePlaces ((n : Int) - 1) (-1) (-1))) _ _ s
  rw [back_places]
  exact wpAny_pure h
theorem item_back {t sl : Addr} {xs : List Value} {vl vu vs : Value} {Q : Value → Shared → Prop} (ht : IsTup s.heap t xs.toArray) (hs : s.heap.IsSliceOf sl vl vu vs) (pl : IsPart vl none) (pu : IsPart vu none) (ps : IsPart vs (some (-1)))
    (h : Q (.ref s.heap.objs.size) { s with heap := s.heap.push { cls := .type "tuple", data := .seq xs.reverse.toArray } }) (hz : xs.length ≤ sizeLine) : wpAny (model P w) A (getItem (.ref t) (.ref sl)) Q E s := by
  have htake : sizeOk (.seq xs.reverse.toArray) := by
    show xs.reverse.toArray.size ≤ sizeLine
    rw [List.size_toArray, List.length_reverse]; exact hz
  obtain ⟨os, hos, hcs, hds⟩ := id hs
  have hTs : s.TypeIs (.ref sl) "slice" := ⟨os, hos, hcs⟩
  unfold getItem
  try with_reducible refine wpAny_holding ?_
  first
    | refine wpAny_bind (wpAny_pure ?_)
    | skip
  refine wpAny_bind (wpAny_sequenceKey ht.typeIs (by decide) (wpAny_bind (wpAny_callSpecial?_slot (name := Str.ofString "__getitem__") ht.typeIs PyProof.Rows.slot_tuple_getitem
    (wpAny_call_entry PyProof.Rows.slot_tuple_getitem ht.typeIs entry_tuple_getitem ?_ (args_tuple_getitem _ _)))))
  show wpAny _ _ (Builtin.Tuple.tupleItemsOf (.ref t) >>= _) _ _ s
  refine wpAny_bind (tupleItemsOf_ ht (wpAny_bind (wpAny_typeOf hTs (wp_if_pos (by decide) (wpAny_bind (applied_back hs pl pu ps ?_))))))
  refine wp_if_neg (by simp) ?_
  have hsz : xs.toArray.size = xs.length := List.size_toArray
  rw [hsz, back_pick]
  first
    | exact wpAny_bind (m := Builtin.Tuple.tupleExact _) (wpAny_newObj_type (wpAny_pure ⟨_, rfl, wpAny_pure h⟩) htake)
    | exact wpAny_bind (m := Builtin.Tuple.tupleExact _) (wpAny_newObj_type (wpAny_bind (wpAny_pure (wpAny_pure ⟨_, rfl, wpAny_pure h⟩))) htake)
    | exact wpAny_bind (wpAny_bind (m := Builtin.Tuple.tupleExact _) (wpAny_newObj_type (wpAny_pure (wpAny_pure ⟨_, rfl, wpAny_pure h⟩)) htake))
    | exact wpAny_bind (wpAny_bind (m := Builtin.Tuple.tupleExact _) (wpAny_newObj_type (wpAny_pure ⟨_, rfl, wpAny_pure h⟩) htake))
end
section
variable {X : Cx}
def tBackT (K : PySem.W.Frag) (te : TE) : TE := fun σ H Q => te σ H fun x H1 => ∃ a xs, x = .ref a ∧ SqT K H1 a xs ∧ ∀ p, H1 p = none → Q (.ref p) (upd H1 p (.tup xs.reverse))
theorem pe_backT {e : Expr} {te : TE} {k : Nat} {p1 p2 p3 pos : Pos} (he : PE X e te) : PE X (.Subscript e (.Slice none none (some (.UnaryOp .USub (.Constant (.int 1) k p1) p2)) p3) pos) (tBackT X.K te) := by
  refine ⟨fun pins s σ H Q I h => ?_⟩
  refine Subscript_ (thn (he.run pins s σ H _ I h) fun v s1 ⟨x, H1, I1, r1, q1⟩ => ?_)
  obtain ⟨a, xs, ex, hx, q⟩ := q1
  subst ex
  cases r1
  have hst : PO X (some (.UnaryOp .USub (.Constant (.int 1) k p1) p2)) (tPart (tUn (rU fun i => .int (-i)) (tC (.int 1)))) := po_some (pe_un un_neg pe_int)
  refine wpAny_Slice (thn (po_none.run pins s1 σ H1 (fun o H2 => o = none ∧ H2 = H1) I1 ⟨rfl, rfl⟩) fun vl s2 ⟨l, H2, I2, pl, el, e2⟩ => ?_)
  subst el e2
  refine thn (po_none.run pins s2 σ H2 (fun o H3 => o = none ∧ H3 = H2) I2 ⟨rfl, rfl⟩) fun vu s3 ⟨u, H3, I3, pu, eu, e3⟩ => ?_
  subst eu e3
  refine thn (hst.run pins s3 σ H3 (fun o H4 => o = some (-1) ∧ H4 = H3) I3 ⟨1, rfl, -1, rfl, rfl, rfl⟩) fun vs s4 ⟨o, H4, I4, ps, eo, e4⟩ => ?_
  subst eo e4
  have I5 : Inv X pins σ H4 { s4 with heap := s4.heap.push { cls := .type "slice", data := .fields #[vl, vu, vs] } } := I4.kept (t' := s4.toks) fun b ob q => Heap.get?_push_of_some _ q
  obtain ⟨its, r, ht, hz⟩ := I5.tuple hx
  have hlen := r.length
  show wpAny (model X.prog X.w) X.A (subscriptTail e _ (.ref a) (.ref s4.heap.objs.size)) (EP X pins σ Q) X.xe _
  refine tail_any (ops := [.ref a, .ref s4.heap.objs.size]) ht.typeIs PyProof.Rows.slot_tuple_getitem.lookup ?_ (by with_unfolding_all rfl)
  refine item_back ht (Heap.IsSliceOf.new _ vl vu vs) pl pu ps ?_ (by omega)
  exact ⟨.ref _, _, I5.laid (t' := s4.toks) (o := .tup xs.reverse) (fun b ob q => Heap.get?_push_of_some _ q) (Nat.le_refl _) ⟨by rw [List.length_reverse]; exact hz, _, r.reverse, IsTup.new _ _⟩, rfl, q _ (I5.hok.fresh (Nat.le_refl _))⟩
end
end PT
namespace PD
open PySem PySem.Spec PyProof.Rows L2
section
variable {X : Cx} {a b e : Expr} {fa fb fc : Ro → Option W} {pos : Pos}
/-! t[::-1], range(..) as a list or a tuple -/
def backW : W → Option W
  | .d (.tuple xs) => some (.d (.tuple xs.reverse))
  | _ => none
theorem pd_rev {k : Nat} {p1 p2 p3 : Pos} (ha : PD X a fa) : PD X (.Subscript a (.Slice none none (some (.UnaryOp .USub (.Constant (.int 1) k p1) p2)) p3) pos) (f1 backW fa) := pe_imp (PT.pe_backT ha) fun σ H Q h => by
  obtain ⟨H0, B, ρ, w, s, S, e, q⟩ := h
  unfold f1 at e
  cases ea : fa ρ with
  | none => rw [ea] at e; cases e
  | some x =>
    rw [ea, Option.bind_some] at e
    refine ⟨H0, B, ρ, x, s, S, ea, fun v1 B1 H1 g1 r1 => ?_⟩
    unfold backW at e
    split at e
    · cases e
      obtain ⟨p, ys, rfl, h1, h2⟩ := dp_tup r1
      refine ⟨p, ys, rfl, sqt_of (rd_mono g1.s h1), fun T hT => ?_⟩
      obtain ⟨g, rr⟩ := new_tup (K := X.K) g1.s hT (dpa_rev h2)
      exact q _ _ _ (g1.trans g) rr
    · cases e
def backL : W → Option (List PyData)
  | .d (.list xs) => some xs.reverse
  | _ => none
def f1N (g : W → Option (List PyData)) (fa : Ro → Option W) : Ro → Option (List PyData) := fun ρ => (fa ρ).bind g
theorem pn_rev {k : Nat} {p1 p2 p3 : Pos} (ha : PD X a fa) : PN X (.Subscript a (.Slice none none (some (.UnaryOp .USub (.Constant (.int 1) k p1) p2)) p3) pos) (f1N backL fa) := pe_imp (pe_revL ha) fun σ H Q h => by
  obtain ⟨H0, B, ρ, w, s, S, e, q⟩ := h
  unfold f1N at e
  cases ea : fa ρ with
  | none => rw [ea] at e; cases e
  | some x =>
    rw [ea, Option.bind_some] at e
    refine ⟨H0, B, ρ, x, s, S, ea, fun v1 B1 H1 g1 r1 => ?_⟩
    unfold backL at e
    split at e
    · cases e
      obtain ⟨p, ys, rfl, h1, h2⟩ := dp_lst r1
      exact ⟨p, ys, rfl, sql_of (rd_mono g1.s h1), fun T hT => q T _ _ _ (g1.trans (Grow.own g1.s hT)) (g1.h.free hT) (g1.s.free hT) upd_same (dpa_rev h2)⟩
    · cases e
def rgD (n : Int) : List PyData := (List.range n.toNat).map fun i => .int (i : Nat)
theorem rg_dq {B : Hp} (n : Int) : DqAll B (rgV 0 n) (rgD n) := by
  unfold rgV rgD
  rw [Int.sub_zero]
  induction List.range n.toNat with
  | nil => exact .nil
  | cons i l ih =>
    refine .cons ?_ ih
    show Dq B (V.int (0 + (i : Int))) _
    rw [Int.zero_add]
    exact .int _
theorem rg_ok {n : Int} (h : n ≤ 100000) (h0 : -100000 ≤ n) : RgOk 0 n := ⟨by omega, by omega, by omega, by omega, by omega⟩
def rgO : W → Option (List PyData)
  | .d (.int n) => if n.natAbs ≤ 100000 then some (rgD n) else none
  | _ => none
theorem rgO_ok {w : W} {xs : List PyData} (h : rgO w = some xs) : ∃ n, w = .d (.int n) ∧ xs = rgD n ∧ RgOk 0 n := by
  unfold rgO at h
  split at h
  · split at h
    · rename_i hz
      cases h
      exact ⟨_, rfl, rfl, rg_ok (by omega) (by omega)⟩
    · cases h
  · cases h
theorem pd_tupRg {p p2 pos2 : Pos} (hc : X.calm = true) (hg : Gl X "tuple") (hm : X.mg "tuple" = none) (hg2 : Gl X "range") (hm2 : X.mg "range" = none) (ha : PD X a fa)
    (na : starEach [a] X.env = (false, eval a X.env) :: starEach [] X.env := by rfl)
    (na2 : starEach [Expr.Call (.Name "range" p2) [a] [] pos2] X.env = (false, eval (Expr.Call (.Name "range" p2) [a] [] pos2) X.env) :: starEach [] X.env := by rfl) :
    PD X (.Call (.Name "tuple" p) [.Call (.Name "range" p2) [a] [] pos2] [] pos) (fTup (f1N rgO fa)) := pe_imp (pe_tupRg hc hg hm (prg_1 hg2 hm2 ha na) na2) fun σ H Q h => by
  obtain ⟨H0, B, ρ, w, s, S, e, q⟩ := h
  unfold fTup f1N at e
  cases ea : fa ρ with
  | none => rw [ea] at e; cases e
  | some x =>
    rw [ea, Option.bind_some] at e
    refine ⟨H0, B, ρ, x, s, S, ea, fun v1 B1 H1 g1 r1 => ?_⟩
    cases er : rgO x with
    | none => rw [er] at e; cases e
    | some xs =>
      rw [er] at e
      cases e
      obtain ⟨n, rfl, rfl, ok⟩ := rgO_ok er
      refine ⟨n, dp_int r1, ok, fun T hT => ?_⟩
      obtain ⟨g, rr⟩ := new_tup (K := X.K) g1.s hT (rg_dq n)
      exact q _ _ _ (g1.trans g) rr
theorem pn_listRg {p p2 pos2 : Pos} (hc : X.calm = true) (hg : Gl X "list") (hm : X.mg "list" = none) (hg2 : Gl X "range") (hm2 : X.mg "range" = none) (ha : PD X a fa)
    (na : starEach [a] X.env = (false, eval a X.env) :: starEach [] X.env := by rfl)
    (na2 : starEach [Expr.Call (.Name "range" p2) [a] [] pos2] X.env = (false, eval (Expr.Call (.Name "range" p2) [a] [] pos2) X.env) :: starEach [] X.env := by rfl) :
    PN X (.Call (.Name "list" p) [.Call (.Name "range" p2) [a] [] pos2] [] pos) (f1N rgO fa) := pe_imp (pe_listRg hc hg hm (prg_1 hg2 hm2 ha na) na2) fun σ H Q h => by
  obtain ⟨H0, B, ρ, w, s, S, e, q⟩ := h
  unfold f1N at e
  cases ea : fa ρ with
  | none => rw [ea] at e; cases e
  | some x =>
    rw [ea, Option.bind_some] at e
    refine ⟨H0, B, ρ, x, s, S, ea, fun v1 B1 H1 g1 r1 => ?_⟩
    obtain ⟨n, rfl, rfl, ok⟩ := rgO_ok e
    exact ⟨n, dp_int r1, ok, fun T hT => q T _ _ _ (g1.trans (Grow.own g1.s hT)) (g1.h.free hT) (g1.s.free hT) upd_same (rg_dq n)⟩

/-! ### a list of one's own, lent -/
def flatD : PyData → Bool
  | .none => true
  | .bool _ => true
  | .int _ => true
  | .str _ => true
  | _ => false
theorem flat_dq {B B' : Hp} {v : V} : ∀ {d : PyData}, flatD d = true → Dq B v d → Dq B' v d
  | .none, _, h => by cases h; exact .non
  | .bool _, _, h => by cases h; exact .bl _
  | .int _, _, h => by cases h; exact .int _
  | .str _, _, h => by cases h; exact .str _
theorem flat_dqa {B B' : Hp} : ∀ {vs : List V} {ds : List PyData}, ds.all flatD = true → DqAll B vs ds → DqAll B' vs ds
  | _, [], _, .nil => .nil
  | _, d :: ds, h, .cons a t => by
    rw [List.all_cons, Bool.and_eq_true] at h
    exact .cons (flat_dq h.1 a) (flat_dqa h.2 t)
def lent (i : Nat) (ρ : Ro) : Option Ro := match ρ[i]? with
  | some (.ow xs) => some (ρ.set i (.w (.d (.list xs))))
  | _ => none
theorem lent_ok {K : Fr} {H0 B H : Hp} {σ : L2.St} {ρ ρ' : Ro} {i : Nat} (s : Same B H) (S : Slots K H0 B H σ ρ) (h : lent i ρ = some ρ') : ∃ p vs, H p = some (.lst vs) ∧ B p = none ∧ H0 p = none ∧ Same (upd B p (.lst vs)) H ∧ Slots K H0 (upd B p (.lst vs)) H σ ρ' := by
  unfold lent at h
  split at h
  · rename_i xs hi
    cases h
    obtain ⟨p, o, e1, e2, e3, e4, vs, rfl, e5⟩ := S.oat i _ hi rfl
    have sB : Same B (upd B p (.lst vs)) := fun c u z => by rw [upd_ne (ne_of_none z e3)]; exact z
    refine ⟨p, vs, e4, e3, e2, fun c u z => ?_, ?_⟩
    · by_cases y : c = p
      · subst y
        rw [upd_same] at z
        rw [e4]; exact z
      · rw [upd_ne y] at z
        exact s c u z
    · have hl : i < ρ.length := (List.getElem?_eq_some_iff.mp hi).1
      refine ⟨by rw [List.length_set]; exact S.len, fun j w hj => ?_, fun j t hj ho => ?_, fun j k t u q hj hk ht hu h1 h2 => ?_⟩
      · by_cases y : i = j
        · subst y
          rw [List.getElem?_set_self hl] at hj
          cases hj
          exact ⟨_, e1, .lst (.inl upd_same) (dpAll_mono sB _ e5)⟩
        · rw [List.getElem?_set_ne y] at hj
          obtain ⟨v, z1, z2⟩ := S.wat j w hj
          exact ⟨v, z1, rw_mono sB z2⟩
      · by_cases y : i = j
        · subst y
          rw [List.getElem?_set_self hl] at hj
          cases hj
          cases ho
        · rw [List.getElem?_set_ne y] at hj
          obtain ⟨p1, o1, z1, z2, z3, z4, z5⟩ := S.oat j t hj ho
          have ne : p1 ≠ p := fun z => y (S.apart i j _ t p hi hj rfl ho e1 (by rw [← z]; exact z1))
          exact ⟨p1, o1, z1, z2, by rw [upd_ne ne]; exact z3, z4, own_mono sB z5⟩
      · by_cases y : i = j
        · subst y
          rw [List.getElem?_set_self hl] at hj
          cases hj
          cases ht
        · by_cases y2 : i = k
          · subst y2
            rw [List.getElem?_set_self hl] at hk
            cases hk
            cases hu
          · rw [List.getElem?_set_ne y] at hj
            rw [List.getElem?_set_ne y2] at hk
            exact S.apart j k t u q hj hk ht hu h1 h2
  · cases h
theorem lent_back {B H B' H' : Hp} {p : Addr} {vs : List V} (s : Same B H) (hb : B p = none) (g : Grow (upd B p (.lst vs)) H B' H') : Grow B H B H' := by
  have sB : Same B (upd B p (.lst vs)) := fun c u z => by rw [upd_ne (ne_of_none z hb)]; exact z
  exact ⟨Same.refl _, g.h, (sB.trans g.b).trans g.s, fun q u z z2 => by rw [z] at z2; cases z2⟩
def lentB (i : Nat) (f : Ro → Option Bool) : Ro → Option Bool := fun ρ => (lent i ρ).bind f
def lentD (i : Nat) (f : Ro → Option W) : Ro → Option W := fun ρ => (lent i ρ).bind fun ρ' => (f ρ').bind fun w => match w with
  | .d d => if flatD d = true then some (.d d) else none
  | _ => none
def lentN (i : Nat) (f : Ro → Option (List PyData)) : Ro → Option (List PyData) := fun ρ => (lent i ρ).bind fun ρ' => (f ρ').bind fun xs => if xs.all flatD = true then some xs else none
theorem pb_lent (i : Nat) {f : Ro → Option Bool} (h : PB X e f) : PB X e (lentB i f) := pt_imp h fun σ H Q h => by
  obtain ⟨H0, B, ρ, w, s, S, e, q⟩ := h
  unfold lentB at e
  cases el : lent i ρ with
  | none => rw [el] at e; cases e
  | some ρ' =>
    rw [el, Option.bind_some] at e
    obtain ⟨p, vs, h1, h2, h3, s2, S2⟩ := lent_ok s S el
    exact ⟨H0, _, ρ', w, s2, S2, e, fun B' H' g => q B H' (lent_back s h2 g)⟩
theorem pd_lent (i : Nat) (h : PD X e fa) : PD X e (lentD i fa) := pe_imp h fun σ H Q h => by
  obtain ⟨H0, B, ρ, w, s, S, e, q⟩ := h
  unfold lentD at e
  cases el : lent i ρ with
  | none => rw [el] at e; cases e
  | some ρ' =>
    rw [el, Option.bind_some] at e
    cases ef : fa ρ' with
    | none => rw [ef] at e; cases e
    | some w2 =>
      rw [ef, Option.bind_some] at e
      split at e
      · split at e
        · rename_i hf
          cases e
          obtain ⟨p, vs, h1, h2, h3, s2, S2⟩ := lent_ok s S el
          exact ⟨H0, _, ρ', _, s2, S2, ef, fun v B' H' g r => q v B H' (lent_back s h2 g) (flat_dq hf r)⟩
        · cases e
      · cases e
theorem pn_lent (i : Nat) {f : Ro → Option (List PyData)} (h : PN X e f) : PN X e (lentN i f) := pe_imp h fun σ H Q h => by
  obtain ⟨H0, B, ρ, w, s, S, e, q⟩ := h
  unfold lentN at e
  cases el : lent i ρ with
  | none => rw [el] at e; cases e
  | some ρ' =>
    rw [el, Option.bind_some] at e
    cases ef : f ρ' with
    | none => rw [ef] at e; cases e
    | some xs =>
      rw [ef, Option.bind_some] at e
      split at e
      · rename_i hf
        cases e
        obtain ⟨p, vs, h1, h2, h3, s2, S2⟩ := lent_ok s S el
        exact ⟨H0, _, ρ', _, s2, S2, ef, fun T us B' H' g hT _ k r => q T us B H' (lent_back s h2 g) hT (s.free hT) k (flat_dqa hf r)⟩
      · cases e
end
end PD

/-! dicts of one's own, keys ints -/
namespace PD
open PySem PySem.Spec PyProof.Rows L2
section
variable {κ β : Type} [DecidableEq κ]
def getA (kvs : List (κ × β)) (k : κ) : Option β := (kvs.find? fun p => decide (p.1 = k)).map (·.2)
def putA (kvs : List (κ × β)) (k : κ) (v : β) : List (κ × β) := if (kvs.any fun p => decide (p.1 = k)) = true then kvs.map (fun p => if p.1 = k then (p.1, v) else p) else kvs ++ [(k, v)]
end
/-- the dict's pairs by content -/
inductive KvI (B : Hp) : List (Key × V) → List (Int × PyData) → Prop
  | nil : KvI B [] []
  | cons {k : Int} {v : V} {d : PyData} {vs : List (Key × V)} {kvs : List (Int × PyData)} : Dq B v d → KvI B vs kvs → KvI B ((.inl k, v) :: vs) ((k, d) :: kvs)
section
variable {B : Hp}
theorem kvi_of : ∀ {vs : List (Key × V)} {kvs : List (Int × PyData)}, vs.map (·.1) = kvs.map (fun p => Sum.inl p.1) → DqAll B (vs.map (·.2)) (kvs.map (·.2)) → KvI B vs kvs
  | [], [], _, _ => .nil
  | (k, v) :: vs, (j, d) :: kvs, h, t => by
    rw [List.map_cons, List.map_cons, List.cons.injEq] at h
    obtain ⟨h1, h2⟩ := h
    simp only at h1
    subst h1
    cases t with
    | cons a t => exact .cons a (kvi_of h2 t)
  | [], _ :: _, h, _ => by cases h
  | _ :: _, [], h, _ => by cases h
theorem KvI.keys : ∀ {vs : List (Key × V)} {kvs : List (Int × PyData)}, KvI B vs kvs → vs.map (·.1) = kvs.map (fun p => Sum.inl p.1)
  | _, _, .nil => rfl
  | _, _, .cons _ t => by rw [List.map_cons, List.map_cons, t.keys]
theorem KvI.vals : ∀ {vs : List (Key × V)} {kvs : List (Int × PyData)}, KvI B vs kvs → DqAll B (vs.map (·.2)) (kvs.map (·.2))
  | _, _, .nil => .nil
  | _, _, .cons a t => .cons a t.vals
theorem KvI.len : ∀ {vs : List (Key × V)} {kvs : List (Int × PyData)}, KvI B vs kvs → vs.length = kvs.length
  | _, _, .nil => rfl
  | _, _, .cons _ t => congrArg (· + 1) t.len
theorem KvI.any {k : Int} : ∀ {vs : List (Key × V)} {kvs : List (Int × PyData)}, KvI B vs kvs → (vs.any fun p => decide (p.1 = Sum.inl k)) = kvs.any fun p => decide (p.1 = k)
  | _, _, .nil => rfl
  | _, _, .cons _ t => by rw [List.any_cons, List.any_cons, t.any]; simp
theorem KvI.app {k : Int} {v : V} {d : PyData} (h : Dq B v d) : ∀ {vs : List (Key × V)} {kvs : List (Int × PyData)}, KvI B vs kvs → KvI B (vs ++ [(.inl k, v)]) (kvs ++ [(k, d)])
  | _, _, .nil => .cons h .nil
  | _, _, .cons a t => .cons a (t.app h)
theorem KvI.over {k : Int} {v : V} {d : PyData} (h : Dq B v d) : ∀ {vs : List (Key × V)} {kvs : List (Int × PyData)}, KvI B vs kvs →
    KvI B (vs.map fun p => if p.1 = Sum.inl k then (p.1, v) else p) (kvs.map fun p => if p.1 = k then (p.1, d) else p)
  | _, _, .nil => .nil
  | _, _, .cons (k := j) a t => by
    rw [List.map_cons, List.map_cons]
    by_cases e : j = k
    · subst e
      simp only [↓reduceIte]
      exact .cons h (t.over h)
    · have e2 : ¬ (Sum.inl j : Key) = Sum.inl k := fun z => e (Sum.inl.inj z)
      simp only [e, e2, ↓reduceIte]
      exact .cons a (t.over h)
theorem KvI.put {k : Int} {v : V} {d : PyData} {vs : List (Key × V)} {kvs : List (Int × PyData)} (h : Dq B v d) (r : KvI B vs kvs) : KvI B (putK vs (.inl k) v) (putA kvs k d) := by
  unfold putK putA
  rw [r.any]
  split
  · exact r.over h
  · exact r.app h
theorem KvI.get {k : Int} : ∀ {vs : List (Key × V)} {kvs : List (Int × PyData)}, KvI B vs kvs → (getA kvs k = none ∧ valV vs (.inl k) = none) ∨ ∃ d v, getA kvs k = some d ∧ valV vs (.inl k) = some v ∧ Dq B v d
  | _, _, .nil => .inl ⟨rfl, rfl⟩
  | _, _, .cons (k := j) (v := v) (d := d) (vs := vs) (kvs := kvs) a t => by
    by_cases e : j = k
    · subst e
      exact .inr ⟨d, v, by simp [getA], by simp [valV], a⟩
    · have e2 : ¬ (Sum.inl j : Key) = Sum.inl k := fun z => e (Sum.inl.inj z)
      have g1 : getA ((j, d) :: kvs) k = getA kvs k := by simp [getA, List.find?_cons, e]
      rw [g1, valV_neg e2]
      exact t.get
end
section
variable {X : Cx} {a b e : Expr} {fa fb fc : Ro → Option W} {pos : Pos}
theorem kvi_own {K : Fr} {B : Hp} {kvs : List (Int × PyData)} {o : HO} (h : OwnAt K B (.oI kvs) o) : ∃ vs, o = .dK vs ∧ KvI B vs kvs := by
  obtain ⟨vs, rfl, h1, h2⟩ := h
  exact ⟨vs, rfl, kvi_of h1 h2⟩
/-! d = {} -/
def setI (i : Nat) : Ro → Option Out := fun ρ => some (.nx (ρ.set i (.oI [])))
theorem pc_dict {x : Str} {pos' pos2 : Pos} (i : Nat) (hN : X.N.Nodup) (hi : X.N[i]? = some x := by rfl) (hx : Loc X.env.scope x := by first | exact Or.inl rfl | exact Or.inr rfl) (hs : swapsWith (.Dict [] [] pos2) (some (.Name x pos')) pos.line X.env = pure false := by rfl) (hf : X.fn x = true ∨ X.env.scope.names.lookup x = some .local := by first | exact .inl rfl | exact .inr rfl) :
    PC X (.Assign [.Name x pos'] (.Dict [] [] pos2) pos) (setI i) := ps_imp (ps_set (i := i) hN hi hx pe_dnewK hs hf) fun D σ H h => by
  obtain ⟨B0, H0, B, ρ, out, g, S, e, q⟩ := h
  cases e
  intro p hp
  have g1 := Grow.own g.s (o := .dK []) hp
  refine q _ B _ (g.trans g1) (Same.refl _) ((S.mono g.s g1).setO rfl (g.h.free hp) (g.s.free hp) upd_same ⟨[], rfl, rfl, .nil⟩ fun j t _ hj ht z => ?_)
  obtain ⟨p', o, e1, _, _, e4, _⟩ := S.oat j t hj ht
  rw [z] at e1
  cases e1
  rw [hp] at e4
  cases e4
def keyI : W → Option Int
  | .d (.int k) => some k
  | _ => none
theorem keyI_ok {w : W} {k : Int} (h : keyI w = some k) : w = .d (.int k) := by
  unfold keyI at h
  split at h
  · cases h; rfl
  · cases h
def dataW : W → Option PyData
  | .d d => some d
  | _ => none
theorem dataW_ok {w : W} {d : PyData} (h : dataW w = some d) : w = .d d := by
  unfold dataW at h
  split at h
  · cases h; rfl
  · cases h
def oiAt (i : Nat) (ρ : Ro) : Option (List (Int × PyData)) := match ρ[i]? with
  | some (.oI kvs) => some kvs
  | _ => none
theorem oiAt_ok {i : Nat} {ρ : Ro} {kvs : List (Int × PyData)} (h : oiAt i ρ = some kvs) : ρ[i]? = some (.oI kvs) := by
  unfold oiAt at h
  split at h
  · cases h; assumption
  · cases h
theorem oi_slot {K : Fr} {H0 B H : Hp} {σ : L2.St} {ρ : Ro} {i : Nat} {kvs : List (Int × PyData)} (S : Slots K H0 B H σ ρ) (h : oiAt i ρ = some kvs) : ∃ p vs, σ[i]? = some (some (V.ref p)) ∧ H0 p = none ∧ B p = none ∧ H p = some (.dK vs) ∧ KvI B vs kvs := by
  obtain ⟨p, o, e1, e2, e3, e4, e5⟩ := S.oat i _ (oiAt_ok h) rfl
  obtain ⟨vs, rfl, r⟩ := kvi_own e5
  exact ⟨p, vs, e1, e2, e3, e4, r⟩
/-! d.get(k, x) -/
def fGet (i : Nat) (fk fx : Ro → Option W) : Ro → Option W := fun ρ => (oiAt i ρ).bind fun kvs => (fk ρ).bind fun w => (keyI w).bind fun k => (fx ρ).bind fun x => (dataW x).map fun x => .d ((getA kvs k).getD x)
theorem pd_get (i : Nat) {x : Str} {p1 p2 p3 : Pos} (hu : X.A.units + 1 < cLine) (ha : PD X a fa) (hb : PD X b fb) (hN : X.N[i]? = some x := by rfl) (hv : Vis X.env.scope x := by first | exact Or.inl rfl | exact Or.inr (Or.inl rfl) | exact Or.inr (Or.inr rfl)) (hd : (x == ("__debug__" : Str)) = false := by decide)
    (hcd : (x == ("__classdict__" : Str)) = false := by decide) (m : M2 X (.Name x p1) "get" p2 a b p3 := by exact ⟨rfl, rfl, rfl, rfl⟩) :
    PD X (.Call (.Attribute (.Name x p1) "get" p2) [a, b] [] p3) (fGet i fa fb) := pe_imp (pe_dget2 hu (pe_var hN hv hd hcd) ha hb m) fun σ H Q h => by
  obtain ⟨H0, B, ρ, w, s, S, e, q⟩ := h
  unfold fGet at e
  cases eo : oiAt i ρ with
  | none => rw [eo] at e; cases e
  | some kvs =>
    rw [eo, Option.bind_some] at e
    obtain ⟨p, vs, f1, f2, f3, f4, f5⟩ := oi_slot S eo
    refine ⟨.ref p, f1, p, rfl, .inl ⟨vs, .inl f4⟩, ?_⟩
    cases ea : fa ρ with
    | none => rw [ea] at e; cases e
    | some wk =>
      rw [ea, Option.bind_some] at e
      cases ek : keyI wk with
      | none => rw [ek] at e; cases e
      | some k =>
        rw [ek, Option.bind_some] at e
        have z := keyI_ok ek
        subst z
        cases eb : fb ρ with
        | none => rw [eb] at e; cases e
        | some wx =>
          rw [eb, Option.bind_some] at e
          cases ex : dataW wx with
          | none => rw [ex] at e; cases e
          | some dx =>
            rw [ex] at e
            have z := dataW_ok ex
            subst z
            cases e
            refine ⟨H0, B, ρ, _, s, S, ea, fun v1 B1 H1 g1 r1 => ⟨H0, B1, ρ, _, g1.s, S.mono s g1, eb, fun v2 B2 H2 g2 r2 => ?_⟩⟩
            have G := g1.trans g2
            obtain ⟨p', vs', h1, h2, h3, h4, h5⟩ := oi_slot (S.mono s G) eo
            rw [f1] at h1
            cases h1
            refine ⟨valV vs' (.inl k), .inl ⟨vs', .inl k, .inl h4, dp_int r1, rfl⟩, ?_⟩
            rcases h5.get (k := k) with ⟨y1, y2⟩ | ⟨d, v, y1, y2, y3⟩
            · rw [y1] at q
              rw [y2]
              exact q v2 B2 H2 G r2
            · rw [y1] at q
              rw [y2]
              exact q v B2 H2 G y3
/-! d[k] -/
def fDix (i : Nat) (fk : Ro → Option W) : Ro → Option W := fun ρ => (oiAt i ρ).bind fun kvs => (fk ρ).bind fun w => (keyI w).bind fun k => (getA kvs k).map .d
theorem pd_dix (i : Nat) {x : Str} {p1 : Pos} (hu : X.A.units + 1 < cLine) (ha : PD X a fa) (hN : X.N[i]? = some x := by rfl) (hv : Vis X.env.scope x := by first | exact Or.inl rfl | exact Or.inr (Or.inl rfl) | exact Or.inr (Or.inr rfl)) (hd : (x == ("__debug__" : Str)) = false := by decide)
    (hcd : (x == ("__classdict__" : Str)) = false := by decide) (hs : NoSl a := by intro _ _; rfl) :
    PD X (.Subscript (.Name x p1) a pos) (fDix i fa) := pe_imp (pe_dget hu (pe_var hN hv hd hcd) ha hs) fun σ H Q h => by
  obtain ⟨H0, B, ρ, w, s, S, e, q⟩ := h
  unfold fDix at e
  cases eo : oiAt i ρ with
  | none => rw [eo] at e; cases e
  | some kvs =>
    rw [eo, Option.bind_some] at e
    obtain ⟨p, vs, f1, f2, f3, f4, f5⟩ := oi_slot S eo
    refine ⟨.ref p, f1, ?_⟩
    cases ea : fa ρ with
    | none => rw [ea] at e; cases e
    | some wk =>
      rw [ea, Option.bind_some] at e
      cases ek : keyI wk with
      | none => rw [ek] at e; cases e
      | some k =>
        rw [ek, Option.bind_some] at e
        have z := keyI_ok ek
        subst z
        refine ⟨H0, B, ρ, _, s, S, ea, fun v1 B1 H1 g1 r1 => ?_⟩
        obtain ⟨p', vs', h1, h2, h3, h4, h5⟩ := oi_slot (S.mono s g1) eo
        rw [f1] at h1
        cases h1
        rcases h5.get (k := k) with ⟨y1, y2⟩ | ⟨d, v, y1, y2, y3⟩
        · rw [y1] at e; cases e
        · rw [y1] at e
          cases e
          exact ⟨p, v, rfl, .inl ⟨vs', .inl k, .inl h4, dp_int r1, y2.symm⟩, q v B1 H1 g1 y3⟩
/-! d[k] = v -/
def fDput (i : Nat) (fk fv : Ro → Option W) : Ro → Option Out := fun ρ => (oiAt i ρ).bind fun kvs => (fk ρ).bind fun w => (keyI w).bind fun k => (fv ρ).bind fun x => (dataW x).bind fun d => if kvs.length < 100000 then some (.nx (ρ.set i (.oI (putA kvs k d)))) else none
theorem pc_dput (i : Nat) {x : Str} {p1 p2 : Pos} (hu : X.A.units + 1 < cLine) (ha : PD X a fa) (hb : PD X b fb) (hN : X.N[i]? = some x := by rfl) (hv : Vis X.env.scope x := by first | exact Or.inl rfl | exact Or.inr (Or.inl rfl) | exact Or.inr (Or.inr rfl)) (hd : (x == ("__debug__" : Str)) = false := by decide)
    (hcd : (x == ("__classdict__" : Str)) = false := by decide) (hs : swapsWith b (some (.Subscript (.Name x p1) a p2)) pos.line X.env = pure false := by rfl) :
    PC X (.Assign [.Subscript (.Name x p1) a p2] b pos) (fDput i fa fb) := ps_imp (ps_dput hu (pe_var hN hv hd hcd) ha hb hs) fun D σ H h => by
  obtain ⟨B0, H0, B, ρ, out, g, S, e, q⟩ := h
  unfold fDput at e
  cases eo : oiAt i ρ with
  | none => rw [eo] at e; cases e
  | some kvs =>
    rw [eo, Option.bind_some] at e
    obtain ⟨p, vs, f1, f2, f3, f4, f5⟩ := oi_slot S eo
    cases ea : fa ρ with
    | none => rw [ea] at e; cases e
    | some wk =>
      rw [ea, Option.bind_some] at e
      cases ek : keyI wk with
      | none => rw [ek] at e; cases e
      | some k =>
        rw [ek, Option.bind_some] at e
        have z := keyI_ok ek
        subst z
        cases eb : fb ρ with
        | none => rw [eb] at e; cases e
        | some wx =>
          rw [eb, Option.bind_some] at e
          cases ex : dataW wx with
          | none => rw [ex] at e; cases e
          | some dx =>
            rw [ex, Option.bind_some] at e
            have z := dataW_ok ex
            subst z
            split at e
            · rename_i hz
              cases e
              refine ⟨H0, B, ρ, _, g.s, S, eb, fun v1 B1 H1 g1 r1 => ⟨.ref p, f1, H0, B1, ρ, _, g1.s, S.mono g.s g1, ea, fun v2 B2 H2 g2 r2 => ?_⟩⟩
              have G := g1.trans g2
              have S2 := S.mono g.s G
              obtain ⟨p', vs', h1, h2, h3, h4, h5⟩ := oi_slot S2 eo
              rw [f1] at h1
              cases h1
              have hv2 := dp_int r2
              subst hv2
              refine ⟨p, _, rfl, DPut.k (k := .inl k) h4 (bigl (by rw [h5.len]; exact hz)), ?_⟩
              have r := h5.put (k := k) (dp_mono g2.b _ r1)
              exact q σ B2 _ ((g.trans G).put h2 h3) G.b (S2.put (oiAt_ok eo) rfl rfl f1 ⟨_, rfl, r.keys, r.vals⟩)
            · cases e
end
end PD

/-! sorted: of a dict's keys, of tuples of ints -/
namespace PD
open PySem PySem.Spec PyProof.Rows L2
section
variable {X : Cx} {e : Expr} {fa : Ro → Option W} {pos : Pos}
def rSortDI : List V → Hp → VK → Prop := fun xs H Q => ∃ (a : Addr) (kvs : List (Key × V)) (ks : List Int), xs = [.ref a] ∧ H a = some (.dK kvs) ∧ kvs.map (·.1) = ks.map Sum.inl ∧
  ∀ (ys : List Int) (p : Addr), ys.Perm ks → ys.Pairwise (· ≤ ·) → H p = none → Q (.ref p) (upd H p (.lst (ys.map V.int)))
theorem cr_sortDI (hc : X.calm = true) : CallR X (.builtin "sorted") rSortDI := by
  intro pins s σ H xs us Q I r q
  obtain ⟨a, kvs, ks, rfl, hd, hks, q⟩ := q
  rw [Vals.ref1 r]
  obtain ⟨z, lo, vs, rel, dd⟩ := dk_rd I.hok (.inl hd)
  obtain ⟨ep, hat⟩ := dd.dictAt
  have hkeys : vs.map (·.1) = ks.map Sum.inl := rel.keys.symm.trans hks
  have hl : vs.length = ks.length := by simpa using congrArg List.length hkeys
  have h16 : vs.length ≤ sizeLine := by rw [← rel.length]; exact z
  refine Calls.call_function_entry kind_sorted plain_sorted entry_sorted (args_sorted1 _) ?_
  unfold Builtin.«sorted»
  refine wpAny_bind (m := checkCount "sorted" 1 1 _) (wpAny_pure (wpAny_bind (PySem.W.kdu_collect (A := X.A.in1) (PySem.W.kdl_dict (knd := mixKind X.prog X.w) (kvs := vs) (ep := ep) lo) (I.ok.hd hc) hat h16 fun h' tk acc hk hacc => ?_)))
  have hal : acc.toList.length = ks.length := by rw [Array.length_toList, hacc.1, hl]
  have hS : IntsAre acc.toList ks := ints_each hal fun j v e => by
    obtain ⟨k, x, e1, e2⟩ := hacc.2 j v (by rw [← Array.getElem?_toList]; exact e)
    have e3 : (vs.map (·.1))[j]? = some k := by rw [List.getElem?_map, e1]; rfl
    rw [hkeys, List.getElem?_map] at e3
    obtain ⟨y, e4, e5⟩ := Option.map_eq_some_iff.mp e3
    subst e5
    rcases keyIs_shape (show keyIs (Sum.inl y) v = true from e2) with ⟨i, t, ek, ev⟩ | ⟨z, t, ek, ev⟩
    · cases ek
      exact ⟨y, t, e4, ev⟩
    · cases ek
  have I1 : Inv X pins σ H { s with heap := h', toks := tk } := I.kept hk
  have hz : acc.toList.length ≤ sizeLine := by rw [hal, ← hl]; exact h16
  refine wpAny_bind (wpAny_newList ?_ hz)
  have hoL : (h'.push (seqObj "list" acc.toList.toArray 0)).get? h'.objs.size = some (seqObj "list" acc.toList.toArray 0) := Heap.get?_push_size _ rfl
  show wpAny _ _ _ _ _ { s with heap := h'.push (seqObj "list" acc.toList.toArray 0), toks := tk }
  refine wpAny_bind (wpAny_holding (wpAny_call_entry slot_list_sort ⟨_, hoL, rfl⟩ entry_list_sort (SrtO.list_sort_ord SrtO.swo_int hoL hz (fun h2 => SrtO.ints_sortable hS h2) fun out b1 b2 => ⟨_, rfl, ?_⟩) (args_list_sort _)))
  obtain ⟨c, hc'⟩ := sortedHeap_at (vs := acc.toList) (out := out.toArray) hoL
  obtain ⟨k2, k3, k4⟩ := SrtO.ints_out hS b1 b2
  have hlen : ((out.map SrtO.iv).map V.int).length ≤ sizeLine := by rw [List.length_map, k3.length_eq, ← hl]; exact h16
  refine wpAny_pure ⟨_, rfl, .ref h'.objs.size, upd H h'.objs.size (.lst ((out.map SrtO.iv).map V.int)), I1.laid (t' := tk) (fun b u e => ?_) (Nat.le_refl _) ⟨hlen, out, c, vals_of_ints k2, hc'⟩, rfl, q _ _ k3 k4 (I1.hok.fresh (Nat.le_refl _))⟩
  have hb : b < h'.objs.size := Heap.lt_size e
  rw [sortedHeap_old (Nat.ne_of_lt hb) (by rw [size_push']; exact Nat.lt_succ_of_lt hb)]
  exact Heap.get?_push_of_some _ e
def fSortI (i : Nat) : Ro → Option (List PyData) := fun ρ => (oiAt i ρ).map fun kvs => (isortI (kvs.map (·.1))).map .int
theorem pn_sortD (i : Nat) {x : Str} {p p1 : Pos} (hc : X.calm = true) (hg : Gl X "sorted") (hm : X.mg "sorted" = none) (hN : X.N[i]? = some x := by rfl) (hv : Vis X.env.scope x := by first | exact Or.inl rfl | exact Or.inr (Or.inl rfl) | exact Or.inr (Or.inr rfl)) (hd : (x == ("__debug__" : Str)) = false := by decide)
    (hcd : (x == ("__classdict__" : Str)) = false := by decide) (he : starEach [Expr.Name x p1] X.env = (false, eval (Expr.Name x p1) X.env) :: starEach [] X.env := by rfl) (hpl : (backTo pos (starEach [] X.env)).any (·.1) = false := by rfl) :
    PN X (.Call (.Name "sorted" p) [.Name x p1] [] pos) (fSortI i) :=
  pe_imp (pe_callB (cr_sortDI hc) hg hm (by decide +kernel) (pa_cons (pe_var hN hv hd hcd) pa_nil he) (by decide) (by decide) he hpl) fun σ H Q h => by
    obtain ⟨H0, B, ρ, xs, s, S, e, q⟩ := h
    unfold fSortI at e
    cases eo : oiAt i ρ with
    | none => rw [eo] at e; cases e
    | some kvs =>
      rw [eo] at e
      cases e
      obtain ⟨p, vs, f1, f2, f3, f4, f5⟩ := oi_slot S eo
      refine ⟨.ref p, f1, p, vs, kvs.map (·.1), rfl, f4, by rw [f5.keys, List.map_map]; rfl, fun ys T hp hs hT => ?_⟩
      dsimp only at q
      rw [← isort_eq hp hs] at q
      exact q T _ B _ (Grow.own s hT) hT (s.free hT) upd_same (dpa_of_ints _)

/-! tuples of ints -/
def lexle : List Int → List Int → Bool
  | [], _ => true
  | _ :: _, [] => false
  | a :: l, b :: m => decide (a < b) || (decide (a = b) && lexle l m)
theorem lexle_code {B : Int} : ∀ {l m : List Int}, l.length = m.length → TS.Bd B l → TS.Bd B m → (lexle l m = true ↔ TS.code B l ≤ TS.code B m)
  | [], [], _, _, _ => ⟨fun _ => Int.le_refl _, fun _ => rfl⟩
  | a :: l, b :: m, h, h1, h2 => by
    have hl : l.length = m.length := by simpa using h
    have ih := lexle_code hl h1.tail h2.tail
    unfold lexle
    rcases Int.lt_trichotomy a b with z | z | z
    · have := TS.code_lt hl h1.tail h2.tail z
      simp [z]
      omega
    · subst z
      have e := TS.code_same (B := B) (d := a) hl
      have e2 := TS.code_same (B := B) (d := a) hl.symm
      simp
      rw [ih]
      omega
    · have := TS.code_lt hl.symm h2.tail h1.tail z
      have n1 : ¬ a < b := by omega
      have n2 : ¬ a = b := by omega
      simp [n1, n2]
      omega
  | [], _ :: _, h, _, _ => by simp at h
  | _ :: _, [], h, _, _ => by simp at h
theorem lexle_anti : ∀ {l m : List Int}, lexle l m = true → lexle m l = true → l = m
  | [], [], _, _ => rfl
  | a :: l, b :: m, h, h2 => by
    unfold lexle at h h2
    simp at h h2
    have e : a = b := by omega
    subst e
    simp at h h2
    rw [lexle_anti h h2]
  | [], _ :: _, _, h => by cases h
  | _ :: _, [], h, _ => by cases h
theorem lexle_tr : ∀ {l m n : List Int}, lexle l m = true → lexle m n = true → lexle l n = true
  | [], _, _, _, _ => by unfold lexle; rfl
  | a :: l, b :: m, c :: n, h, h2 => by
    unfold lexle at h h2 ⊢
    simp at h h2 ⊢
    rcases h with h | ⟨h, k⟩ <;> rcases h2 with h2 | ⟨h2, k2⟩
    · left; omega
    · left; omega
    · left; omega
    · right; exact ⟨by omega, lexle_tr k k2⟩
  | _ :: _, [], _, h, _ => by cases h
  | _ :: _, _ :: _, [], _, h => by cases h
theorem lexle_tot : ∀ (l m : List Int), (lexle l m || lexle m l) = true
  | [], _ => by unfold lexle; simp
  | _ :: _, [] => by simp [lexle]
  | a :: l, b :: m => by
    have ih := lexle_tot l m
    unfold lexle
    rcases Int.lt_trichotomy a b with z | z | z
    · simp [z]
    · subst z; simpa using ih
    · simp [z]
def tsort (ls : List (List Int)) : List (List Int) := ls.mergeSort lexle
theorem tsort_eq {ls ms : List (List Int)} (h : ms.Perm ls) (p : ms.Pairwise fun a b => lexle a b = true) : ms = tsort ls := by
  refine List.Perm.eq_of_pairwise (le := fun a b => lexle a b = true) (fun a b _ _ h1 h2 => lexle_anti h1 h2) p ?_ (h.trans (List.mergeSort_perm _ _).symm)
  exact List.pairwise_mergeSort (le := lexle) (fun a b c h1 h2 => lexle_tr h1 h2) lexle_tot ls
def tupI (ns : List Int) : PyData := .tuple (ns.map .int)
def tupsOf : List PyData → Option (List (List Int))
  | [] => some []
  | .tuple xs :: ds => (intsOf xs).bind fun ns => (tupsOf ds).map (ns :: ·)
  | _ :: _ => none
theorem tupsOf_eq : ∀ {ds : List PyData} {ls : List (List Int)}, tupsOf ds = some ls → ds = ls.map tupI
  | [], _, h => by cases h; rfl
  | d :: ds, ls, h => by
    unfold tupsOf at h
    split at h
    · rename_i heq; cases heq
    · rename_i xs ds' heq
      cases heq
      cases e : intsOf xs with
      | none => rw [e] at h; cases h
      | some ns =>
        rw [e, Option.bind_some] at h
        cases e2 : tupsOf ds with
        | none => rw [e2] at h; cases h
        | some ms =>
          rw [e2] at h
          cases h
          rw [List.map_cons, ← tupsOf_eq e2, intsOf_eq e]
          rfl
    · cases h
theorem tupsOf_map : ∀ ls : List (List Int), tupsOf (ls.map tupI) = some ls
  | [] => rfl
  | l :: ls => by
    show (intsOf (l.map .int)).bind (fun ns => (tupsOf (ls.map tupI)).map (ns :: ·)) = _
    rw [intsOf_map, tupsOf_map ls]
    rfl
def goodT (B : Int) (d : Nat) (ls : List (List Int)) : Bool := decide (ls.length < 64) && ls.all fun m => decide (m.length = d) && m.all fun x => decide (0 ≤ x) && decide (x < B)
theorem goodT_ok {B : Int} {d : Nat} {ls : List (List Int)} (h : goodT B d ls = true) : ls.length < 64 ∧ ∀ m ∈ ls, m.length = d ∧ TS.Bd B m := by
  unfold goodT at h
  rw [Bool.and_eq_true, decide_eq_true_eq, List.all_eq_true] at h
  refine ⟨h.1, fun m hm => ?_⟩
  have q := h.2 m hm
  rw [Bool.and_eq_true, decide_eq_true_eq, List.all_eq_true] at q
  refine ⟨q.1, fun x hx => ?_⟩
  have z := q.2 x hx
  simpa using z
def rSortAny (K : PySem.W.Frag) (B : Int) : List V → Hp → VK → Prop := fun vs H Q => ∃ d, 1 ≤ d ∧ rSortU K d B vs H Q
theorem cr_sortAny {B : Int} : CallR X (.builtin "sorted") (rSortAny X.K B) := by
  intro pins s σ H vs us Q I r h
  obtain ⟨d, hd, h⟩ := h
  exact cr_sortT hd pins s σ H vs us Q I r h
def sortTW (B : Int) : List W → Option (List PyData)
  | [.d (.list ds)] => (tupsOf ds).bind fun ls => if (1 ≤ (ls.headD [0]).length ∧ goodT B (ls.headD [0]).length ls = true) then some ((tsort ls).map tupI) else none
  | _ => none
theorem dqa_perm {H : Hp} {vs ys : List V} (h : ys.Perm vs) : ∀ {ds : List PyData}, DqAll H vs ds → ∃ ds', ds'.Perm ds ∧ DqAll H ys ds' := by
  induction h with
  | nil => intro ds r; exact ⟨ds, List.Perm.refl _, r⟩
  | cons x _ ih =>
    intro ds r
    cases r with
    | cons a t =>
      obtain ⟨ds', p, r'⟩ := ih t
      exact ⟨_ :: ds', p.cons _, .cons a r'⟩
  | swap x y l =>
    intro ds r
    cases r with
    | cons a t =>
      cases t with
      | cons b t => exact ⟨_ :: _ :: _, List.Perm.swap _ _ _, .cons b (.cons a t)⟩
  | trans _ _ ih1 ih2 =>
    intro ds r
    obtain ⟨ds1, p1, r1⟩ := ih2 r
    obtain ⟨ds2, p2, r2⟩ := ih1 r1
    exact ⟨ds2, p2.trans p1, r2⟩
theorem perm_map {α β : Type} {f : α → β} {l : List β} {m : List β} (h : l.Perm m) : ∀ {k : List α}, m = k.map f → ∃ k' : List α, k'.Perm k ∧ l = k'.map f := by
  induction h with
  | nil => intro k e; exact ⟨k, List.Perm.refl _, e⟩
  | cons x _ ih =>
    intro k e
    cases k with
    | nil => cases e
    | cons a k =>
      rw [List.map_cons, List.cons.injEq] at e
      obtain ⟨k', p, e'⟩ := ih e.2
      exact ⟨a :: k', p.cons _, by rw [List.map_cons, e.1, e']⟩
  | swap x y l =>
    intro k e
    match k, e with
    | a :: b :: k, e =>
      simp only [List.map_cons, List.cons.injEq] at e
      exact ⟨b :: a :: k, List.Perm.swap _ _ _, by simp only [List.map_cons, List.cons.injEq]; exact ⟨e.2.1, e.1, e.2.2⟩⟩
  | trans _ _ ih1 ih2 =>
    intro k e
    obtain ⟨k1, p1, e1⟩ := ih2 e
    obtain ⟨k2, p2, e2⟩ := ih1 e1
    exact ⟨k2, p2.trans p1, e2⟩
theorem dq_tupI {K : PySem.W.Frag} {B H : Hp} {v : V} {ns : List Int} (s : Same B H) (h : Dq B v (tupI ns)) : TupI K H v ns := by
  obtain ⟨p, us, rfl, h1, h2⟩ := dp_tup h
  rw [dpa_ints h2] at h1
  exact ⟨p, rfl, sqt_of (rd_mono s h1)⟩
theorem dqa_tups {K : PySem.W.Frag} {B H : Hp} (s : Same B H) : ∀ {vs : List V} {ls : List (List Int)}, DqAll B vs (ls.map tupI) → ∀ x ∈ vs, ∃ ns ∈ ls, TupI K H x ns
  | _, [], .nil => fun x hx => by cases hx
  | _, l :: ls, .cons a t => fun x hx => by
    rcases List.mem_cons.mp hx with z | z
    · subst z; exact ⟨l, List.mem_cons_self, dq_tupI s a⟩
    · obtain ⟨ns, h1, h2⟩ := dqa_tups s t x z
      exact ⟨ns, List.mem_cons_of_mem _ h1, h2⟩
theorem pair_codes {K : PySem.W.Frag} {B H : Hp} {C : Int} (s : Same B H) : ∀ {vs : List V} {ls : List (List Int)}, DqAll B vs (ls.map tupI) → vs.Pairwise (fun x y => ∀ n m, TupI K H x n → TupI K H y m → TS.code C n ≤ TS.code C m) → ls.Pairwise fun n m => TS.code C n ≤ TS.code C m
  | _, [], .nil, _ => .nil
  | _, l :: ls, .cons a t, h => by
    obtain ⟨h1, h2⟩ := List.pairwise_cons.mp h
    refine List.pairwise_cons.mpr ⟨fun m hm => ?_, pair_codes s t h2⟩
    have key : ∀ {vs : List V} {ls : List (List Int)}, DqAll B vs (ls.map tupI) → m ∈ ls → ∃ y ∈ vs, TupI K H y m := by
      intro vs ls r hm
      induction ls generalizing vs with
      | nil => cases hm
      | cons l ls ih =>
        cases r with
        | cons a t =>
          rcases List.mem_cons.mp hm with z | z
          · subst z; exact ⟨_, List.mem_cons_self, dq_tupI s a⟩
          · obtain ⟨y, h1, h2⟩ := ih t z
            exact ⟨y, List.mem_cons_of_mem _ h1, h2⟩
    obtain ⟨y, hy, hy2⟩ := key t hm
    exact h1 y hy l m (dq_tupI s a) hy2
theorem giv_sortT {K : Fr} {C : Int} : GivN K (rSortAny K C) (sortTW C) := fun B H xs ws w Q s r h q => by
  unfold sortTW at h
  split at h
  · rename_i ds
    cases e : tupsOf ds with
    | none => rw [e] at h; cases h
    | some ls =>
      rw [e, Option.bind_some] at h
      split at h
      · rename_i hz
        cases h
        obtain ⟨v, rfl, r1⟩ := rwa1 r
        obtain ⟨p, ys, rfl, h1, h2⟩ := dp_lst r1
        rw [tupsOf_eq e] at h2
        obtain ⟨g1, g2⟩ := goodT_ok hz.2
        have hlen : ys.length = ls.length := by rw [dpa_len h2, List.length_map]
        refine ⟨_, hz.1, p, ys, rfl, sql_of (rd_mono s h1), by omega, fun x hx => ?_, fun zs T hp hw hT => ?_⟩
        · obtain ⟨ns, n1, n2⟩ := dqa_tups (K := K) s h2 x hx
          exact ⟨ns, n2, (g2 ns n1).1, (g2 ns n1).2⟩
        · obtain ⟨ds', p1, r2⟩ := dqa_perm hp h2
          obtain ⟨ms, p2, rfl⟩ := perm_map p1 rfl
          have c := pair_codes s r2 hw
          have e2 : ms = tsort ls := tsort_eq p2 (List.Pairwise.imp_of_mem (fun {a b} ha hb hab => by
            obtain ⟨a1, a2⟩ := g2 a (p2.mem_iff.mp ha)
            obtain ⟨b1, b2⟩ := g2 b (p2.mem_iff.mp hb)
            exact (lexle_code (a1.trans b1.symm) a2 b2).mpr hab) c)
          rw [← e2] at q
          exact q T _ B _ (Grow.own s hT) hT (s.free hT) upd_same r2
      · cases h
  · cases h
theorem pn_sortT (C : Int) {e1 : Expr} {fr : Ro → Option (List W)} {p : Pos} (hg : Gl X "sorted") (hm : X.mg "sorted" = none) (ha : PL X [e1] fr)
    (he : starEach [e1] X.env = (false, eval e1 X.env) :: starEach [] X.env := by rfl) (hpl : (backTo pos (starEach [] X.env)).any (·.1) = false := by rfl) : PN X (.Call (.Name "sorted" p) [e1] [] pos) (fAN (sortTW C) fr) :=
  pn_callB cr_sortAny giv_sortT hg hm (by decide +kernel) ha (by decide) (by decide) he hpl
end
end PD

/-! defs by name, and how what they make is reckoned -/
namespace PD
open PySem PySem.Spec PyProof.Rows L2
/-- the def x stands in the globals -/
def Stands (K : Fr) (mg : Str → Option Value) (x : Str) (st : Stmt) (ps : List Str) : Prop := ∃ f fd, Fun K x x st f fd ∧ mg x = some (.ref f) ∧ PySem.W.keepIn K (.ref f) = true ∧ Binds K fd ps []
/-- .. and keeps its promise -/
def Keeps (P : Program) (w : World) (K : Fr) (mg : Str → Option Value) (base : Heap) (x : Str) (ps : List Str) (k : Nat) (sp : Sp) : Prop := ∃ f fd, mg x = some (.ref f) ∧ PySem.W.keepIn K (.ref f) = true ∧ Binds K fd ps [] ∧ FnOk P w K mg base CX0 k f fd ps sp
section
variable {P : Program} {w : World} {K : Fr} {mg : Str → Option Value} {base h : Heap} {x : Str} {st : Stmt} {N ps : List Str} {k : Nat}
theorem stands_mk {f : Addr} {oc : Value} {od an : Option Addr} {osl : Array (Option Value)} {kV doc pm cdv ct : Value} (X : K.In h) (G : h.Ns mainGlobals mg) (a : PySem.W.nsIn K mainGlobals x = some (some (.ref f)))
    (l : K.lookup f = some ⟨oc, od, .func (PySem.W.fnOf x x (defArgs st) (defBody st) (defScope st) .none kV doc pm an cdv ct), osl⟩) (c : PySem.W.codeIn K cdv x = true) (k : PySem.W.keepIn K (.ref f) = true)
    (hb : ∀ (kV doc pm : Value) (an : Option Addr) (cdv ct : Value) (us : List Value), us.length = ps.length → bindArgs (PySem.W.fnOf x x (defArgs st) (defBody st) (defScope st) .none kV doc pm an cdv ct) ⟨us, []⟩ = pure (ps.zip us)) : Stands K mg x st ps := by
  have F := fun_mk (st := st) l c k
  exact ⟨f, _, F, PySem.W.mg_of X G a, k, F.binds hb⟩
theorem Stands.keepsD {g : List W → Option W} (A : Stands K mg x st ps) (S : FnScope N ps (defScope st)) (hl : ps.length ≤ N.length) (hlen : ∀ ws w, g ws = some w → ws.length = ps.length)
    (hx : ∃ Fm : Ro → Option Out, (∀ (f : Addr) (cdv : Value) (A : Around) (outer : List Env) (s : Shared) (H : Hp) (E : XK), Room k (A.deeper (envOfC x (defScope st) s.heap.objs.size f cdv)) → PCs (cxOf CX0 P w K mg base N x (defScope st) f cdv A outer s H E).nox (defBody st) Fm) ∧
      ∀ ws w, g ws = some w → retD (Fm (startR N.length ws)) = some w) : Keeps P w K mg base x ps (k + 1) (spD K g) := by
  obtain ⟨f, fd, F, gm, kk, bb⟩ := A
  obtain ⟨Fm, h1, h2⟩ := hx
  exact ⟨f, fd, gm, kk, bb, okD F S hl hlen ⟨Fm, fun cdv A outer s H E hr => h1 f cdv A outer s H E hr, h2⟩⟩
theorem Stands.keepsN {g : List W → Option (List PyData)} (A : Stands K mg x st ps) (S : FnScope N ps (defScope st)) (hl : ps.length ≤ N.length) (hlen : ∀ ws w, g ws = some w → ws.length = ps.length)
    (hx : ∃ Fm : Ro → Option Out, (∀ (f : Addr) (cdv : Value) (A : Around) (outer : List Env) (s : Shared) (H : Hp) (E : XK), Room k (A.deeper (envOfC x (defScope st) s.heap.objs.size f cdv)) → PCs (cxOf CX0 P w K mg base N x (defScope st) f cdv A outer s H E).nox (defBody st) Fm) ∧
      ∀ ws w, g ws = some w → retL (Fm (startR N.length ws)) = some w) : Keeps P w K mg base x ps (k + 1) (spN K g) := by
  obtain ⟨f, fd, F, gm, kk, bb⟩ := A
  obtain ⟨Fm, h1, h2⟩ := hx
  exact ⟨f, fd, gm, kk, bb, okN F S hl hlen ⟨Fm, fun cdv A outer s H E hr => h1 f cdv A outer s H E hr, h2⟩⟩
/-- what is promised is what comes out -/
def outD (n m : Nat) (Fm : Ro → Option Out) : List W → Option W := fun ws => if ws.length = n then retD (Fm (startR m ws)) else none
theorem Stands.keepsE {Pr : (Ro → Option Out) → Prop} (A : Stands K mg x st ps) (S : FnScope N ps (defScope st)) (hl : ps.length ≤ N.length)
    (hx : ∃ Fm : Ro → Option Out, (∀ (f : Addr) (cdv : Value) (A : Around) (outer : List Env) (s : Shared) (H : Hp) (E : XK), Room k (A.deeper (envOfC x (defScope st) s.heap.objs.size f cdv)) → PCs (cxOf CX0 P w K mg base N x (defScope st) f cdv A outer s H E).nox (defBody st) Fm) ∧ Pr Fm) :
    ∃ Fm, Keeps P w K mg base x ps (k + 1) (spD K (outD ps.length N.length Fm)) ∧ Pr Fm := by
  obtain ⟨Fm, h1, h2⟩ := hx
  refine ⟨Fm, A.keepsD S hl (fun ws w h => ?_) ⟨Fm, h1, fun ws w h => ?_⟩, h2⟩
  · unfold outD at h
    split at h
    · assumption
    · cases h
  · unfold outD at h
    split at h
    · exact h
    · cases h
/-- nothing is promised -/
theorem Stands.never {g : List W → Option W} (A : Stands K mg x st ps) (S : FnScope N ps (defScope st)) (hg : ∀ ws w, g ws = some w → False) : Keeps P w K mg base x ps (k + 1) (spD K g) := by
  obtain ⟨f, fd, F, gm, kk, bb⟩ := A
  refine ⟨f, fd, gm, kk, bb, F.ok S (fun vs H Q E h => ?_) (fun cdv A outer s H vs Q E hr h => ?_)⟩
  · obtain ⟨B, ws, w, _, r, e, _⟩ := h
    exact (hg _ _ e).elim
  · obtain ⟨B, ws, w, _, r, e, _⟩ := h
    exact (hg _ _ e).elim
theorem Keeps.imp {g g' : List W → Option W} (A : Keeps P w K mg base x ps k (spD K g)) (h : ∀ ws w, g' ws = some w → g ws = some w) : Keeps P w K mg base x ps k (spD K g') := by
  obtain ⟨f, fd, gm, kk, bb, F⟩ := A
  refine ⟨f, fd, gm, kk, bb, F.imp fun vs H Q E q => ?_⟩
  obtain ⟨B, ws, w, s, r, e, q⟩ := q
  exact ⟨B, ws, w, s, r, h _ _ e, q⟩
end
section
variable {X : Cx} {fr : Ro → Option (List W)} {k : Nat} {ps : List Str} {x : Str} {p pos : Pos} {e : Expr} {es : List Expr}
theorem pd_go {g : List W → Option W} (O : Keeps X.prog X.w X.K X.mg X.base x ps k (spD X.K g)) (hr : Room k X.A) (hg : Gl X x) (ha : PL X (e :: es) fr) (hdb : (x == ("__debug__" : Str)) = false := by decide) (he : starEach (e :: es) X.env = (false, eval e X.env) :: starEach es X.env := by rfl)
    (hpl : (backTo pos (starEach es X.env)).any (·.1) = false := by rfl) : PD X (.Call (.Name x p) (e :: es) [] pos) (fA g fr) := by
  obtain ⟨f, fd, gm, kk, bb, F⟩ := O
  exact pd_call F hr hg gm kk bb ha hdb he hpl
theorem pn_go {g : List W → Option (List PyData)} (O : Keeps X.prog X.w X.K X.mg X.base x ps k (spN X.K g)) (hr : Room k X.A) (hg : Gl X x) (ha : PL X (e :: es) fr) (hdb : (x == ("__debug__" : Str)) = false := by decide) (he : starEach (e :: es) X.env = (false, eval e X.env) :: starEach es X.env := by rfl)
    (hpl : (backTo pos (starEach es X.env)).any (·.1) = false := by rfl) : PN X (.Call (.Name x p) (e :: es) [] pos) (fAN g fr) := by
  obtain ⟨f, fd, gm, kk, bb, F⟩ := O
  exact pn_call F hr hg gm kk bb ha hdb he hpl
end
/-! ### comprehensions and loops reckoned -/
theorem lcF_map {g : W → Ro → Option Ro} {ft : Ro → Option Bool} {fe : Ro → Option W} {ρ : Ro} (h : W → PyData) : ∀ {ws : List W}, (∀ w ∈ ws, ∃ ρ1, g w ρ = some ρ1 ∧ ft ρ1 = some true ∧ fe ρ1 = some (.d (h w))) → lcF g ft fe ρ ws = some (ws.map h)
  | [], _ => rfl
  | w :: ws, H => by
    obtain ⟨ρ1, h1, h2, h3⟩ := H w List.mem_cons_self
    have ih := lcF_map h (ws := ws) fun w hw => H w (List.mem_cons_of_mem _ hw)
    unfold lcF
    rw [h1, Option.bind_some, h2, Option.bind_some, if_pos rfl, h3, Option.bind_some]
    show (some (h w)).bind _ = _
    rw [Option.bind_some, ih]
    rfl
theorem lcF_filter {g : W → Ro → Option Ro} {ft : Ro → Option Bool} {fe : Ro → Option W} {ρ : Ro} (p : W → Bool) (h : W → PyData) : ∀ {ws : List W}, (∀ w ∈ ws, ∃ ρ1, g w ρ = some ρ1 ∧ ft ρ1 = some (p w) ∧ (p w = true → fe ρ1 = some (.d (h w)))) → lcF g ft fe ρ ws = some ((ws.filter p).map h)
  | [], _ => rfl
  | w :: ws, H => by
    obtain ⟨ρ1, h1, h2, h3⟩ := H w List.mem_cons_self
    have ih := lcF_filter p h (ws := ws) fun w hw => H w (List.mem_cons_of_mem _ hw)
    unfold lcF
    rw [h1, Option.bind_some, h2, Option.bind_some]
    cases hp : p w with
    | true =>
      rw [if_pos rfl, h3 hp, Option.bind_some, List.filter_cons_of_pos hp, List.map_cons]
      show (some (h w)).bind _ = _
      rw [Option.bind_some, ih]
      rfl
    | false =>
      rw [if_neg Bool.false_ne_true, List.filter_cons_of_neg (by rw [hp]; exact Bool.false_ne_true), ih]
theorem forF_inv {g : W → Ro → Option Ro} {body : Ro → Option Out} (I : List W → Ro → Prop) (turn : ∀ w ws ρ, I (w :: ws) ρ → ∃ ρ1 ρ', g w ρ = some ρ1 ∧ body ρ1 = some (.nx ρ') ∧ I ws ρ') : ∀ (ws : List W) (ρ : Ro), I ws ρ → ∃ ρ', forF g body ws ρ = some (.nx ρ') ∧ I [] ρ'
  | [], ρ, h => ⟨ρ, rfl, h⟩
  | w :: ws, ρ, h => by
    obtain ⟨ρ1, ρ', h1, h2, h3⟩ := turn w ws ρ h
    obtain ⟨ρ2, h4, h5⟩ := forF_inv I turn ws ρ' h3
    refine ⟨ρ2, ?_, h5⟩
    unfold forF
    rw [h1, Option.bind_some, h2, Option.bind_some]
    exact h4
/-- a loop that may answer -/
theorem forF_find {g : W → Ro → Option Ro} {body : Ro → Option Out} (I : List W → Ro → Prop) (R : Option Out → Prop) (turn : ∀ w ws ρ, I (w :: ws) ρ → ∃ ρ1, g w ρ = some ρ1 ∧ ((∃ ρ', body ρ1 = some (.nx ρ') ∧ I ws ρ') ∨ (∃ v, body ρ1 = some (.rt v) ∧ R (some (.rt v))))) (fin : ∀ ρ, I [] ρ → R (some (.nx ρ))) :
    ∀ (ws : List W) (ρ : Ro), I ws ρ → R (forF g body ws ρ)
  | [], ρ, h => fin ρ h
  | w :: ws, ρ, h => by
    obtain ⟨ρ1, h1, h2⟩ := turn w ws ρ h
    unfold forF
    rw [h1, Option.bind_some]
    rcases h2 with ⟨ρ', h2, h3⟩ | ⟨v, h2, h3⟩
    · rw [h2, Option.bind_some]
      exact forF_find I R turn fin ws ρ' h3
    · rw [h2, Option.bind_some]
      exact h3
theorem zipD_eq (ds es : List PyData) : zipD ds es = (ds.zip es).map fun p => .d (.tuple [p.1, p.2]) := by
  apply List.ext_getElem?
  intro i
  unfold zipD
  rw [List.getElem?_map, List.getElem?_map]
  by_cases h : i < min ds.length es.length
  · have h1 : i < ds.length := by omega
    have h2 : i < es.length := by omega
    rw [List.getElem?_range h, List.getElem?_zip_eq_some (z := (ds[i], es[i])) |>.mpr ⟨List.getElem?_eq_getElem h1, List.getElem?_eq_getElem h2⟩]
    simp [h1, h2]
  · rw [List.getElem?_eq_none (by rw [List.length_range]; omega), List.getElem?_eq_none (by rw [List.length_zip]; omega)]
    rfl
theorem zipD_map {α β : Type} (f : α → PyData) (g : β → PyData) (l : List α) (m : List β) : zipD (l.map f) (m.map g) = (l.zip m).map fun p => .d (.tuple [f p.1, g p.2]) := by
  rw [zipD_eq, List.zip_map, List.map_map]
  rfl
section
variable {α : Type} {g : W → Ro → Option Ro} {ft : Ro → Option Bool} {fe : Ro → Option W} {body : Ro → Option Out} {ρ : Ro} {c : α → W}
theorem lcF_over (h : α → PyData) : ∀ {l : List α}, (∀ x ∈ l, ∃ ρ1, g (c x) ρ = some ρ1 ∧ ft ρ1 = some true ∧ fe ρ1 = some (.d (h x))) → lcF g ft fe ρ (l.map c) = some (l.map h)
  | [], _ => rfl
  | x :: l, H => by
    obtain ⟨ρ1, h1, h2, h3⟩ := H x List.mem_cons_self
    have ih := lcF_over h (l := l) fun x hx => H x (List.mem_cons_of_mem _ hx)
    rw [List.map_cons, List.map_cons]
    unfold lcF
    rw [h1, Option.bind_some, h2, Option.bind_some, if_pos rfl, h3, Option.bind_some]
    show (some (h x)).bind _ = _
    rw [Option.bind_some, ih]
    rfl
theorem lcF_some (p : α → Bool) (h : α → PyData) : ∀ {l : List α}, (∀ x ∈ l, ∃ ρ1, g (c x) ρ = some ρ1 ∧ ft ρ1 = some (p x) ∧ (p x = true → fe ρ1 = some (.d (h x)))) → lcF g ft fe ρ (l.map c) = some ((l.filter p).map h)
  | [], _ => rfl
  | x :: l, H => by
    obtain ⟨ρ1, h1, h2, h3⟩ := H x List.mem_cons_self
    have ih := lcF_some p h (l := l) fun x hx => H x (List.mem_cons_of_mem _ hx)
    rw [List.map_cons]
    unfold lcF
    rw [h1, Option.bind_some, h2, Option.bind_some]
    cases hp : p x with
    | true =>
      rw [if_pos rfl, h3 hp, Option.bind_some, List.filter_cons_of_pos hp, List.map_cons]
      show (some (h x)).bind _ = _
      rw [Option.bind_some, ih]
      rfl
    | false => rw [if_neg Bool.false_ne_true, List.filter_cons_of_neg (by rw [hp]; exact Bool.false_ne_true), ih]
/-- a loop over mapped items, what is left of them -/
theorem forF_over (I : List α → Ro → Prop) (turn : ∀ x l ρ, I (x :: l) ρ → ∃ ρ1 ρ', g (c x) ρ = some ρ1 ∧ body ρ1 = some (.nx ρ') ∧ I l ρ') : ∀ (l : List α) (ρ : Ro), I l ρ → ∃ ρ', forF g body (l.map c) ρ = some (.nx ρ') ∧ I [] ρ'
  | [], ρ, h => ⟨ρ, rfl, h⟩
  | x :: l, ρ, h => by
    obtain ⟨ρ1, ρ', h1, h2, h3⟩ := turn x l ρ h
    obtain ⟨ρ2, h4, h5⟩ := forF_over I turn l ρ' h3
    refine ⟨ρ2, ?_, h5⟩
    rw [List.map_cons]
    unfold forF
    rw [h1, Option.bind_some, h2, Option.bind_some]
    exact h4
theorem forF_seek (I : List α → Ro → Prop) (R : Option Out → Prop) (turn : ∀ x l ρ, I (x :: l) ρ → ∃ ρ1, g (c x) ρ = some ρ1 ∧ ((∃ ρ', body ρ1 = some (.nx ρ') ∧ I l ρ') ∨ (∃ v, body ρ1 = some (.rt v) ∧ R (some (.rt v))))) (fin : ∀ ρ, I [] ρ → R (some (.nx ρ))) :
    ∀ (l : List α) (ρ : Ro), I l ρ → R (forF g body (l.map c) ρ)
  | [], ρ, h => fin ρ h
  | x :: l, ρ, h => by
    obtain ⟨ρ1, h1, h2⟩ := turn x l ρ h
    rw [List.map_cons]
    unfold forF
    rw [h1, Option.bind_some]
    rcases h2 with ⟨ρ', h2, h3⟩ | ⟨v, h2, h3⟩
    · rw [h2, Option.bind_some]
      exact forF_seek I R turn fin l ρ' h3
    · rw [h2, Option.bind_some]
      exact h3
end
theorem fRrg_ok {fa : Ro → Option W} {ρ : Ro} {n : Nat} (h : fa ρ = some (.d (.int (n : Int)))) (hn : n ≤ 100000) : fRrg fa ρ = some (rrgW n) := by
  unfold fRrg
  rw [h, Option.bind_some]
  have c : (n : Int).natAbs ≤ 10000000 := by omega
  show (if _ then _ else _) = _
  rw [if_pos c]
  rfl
theorem rng1_ok {n : Int} (h0 : -100000 ≤ n) (h : n ≤ 100000) : rng1W [.d (.int n)] = some (rngW 0 n.toNat) := by
  have c : n.natAbs ≤ 10000000 := by omega
  unfold rng1W
  exact if_pos c
theorem fLc_ok {vs : List Nat} {fi : Ro → Option (List W)} {g : W → Ro → Option Ro} {ft : Ro → Option Bool} {fe : Ro → Option W} {ρ : Ro} {ws : List W} {xs : List PyData} (hi : fi ρ = some ws) (hl : ws.length ≤ 100000) (h : lcF g ft fe (wipeR ρ vs) ws = some xs) : fLc vs fi g ft fe ρ = some xs := by
  unfold fLc
  rw [hi, Option.bind_some, if_pos hl]
  exact h
section
variable {i j : Int} {x y : PyData} {xs ys : List PyData} {n m : String}
theorem ev_sub : subW (.d (.int i)) (.d (.int j)) = some (.d (.int (i - j))) := rfl
theorem ev_mul : mulW (.d (.int i)) (.d (.int j)) = if cMul i j = true then some (.d (.int (i * j))) else none := rfl
theorem ev_div : divW (.d (.int i)) (.d (.int j)) = if cDivP i j = true then some (.d (.int (i / j))) else none := rfl
theorem ev_mod : modW (.d (.int i)) (.d (.int j)) = if cModP i j = true then some (.d (.int (i % j))) else none := rfl
theorem ev_pow : powW (.d (.int i)) (.d (.int j)) = if cPowP i j = true then some (.d (.int (i ^ j.toNat))) else none := rfl
theorem ev_neg : negW (.d (.int i)) = some (.d (.int (-i))) := rfl
theorem ev_add : addW (.d (.int i)) (.d (.int j)) = some (.d (.int (i + j))) := rfl
theorem ev_addL : addW (.d (.list xs)) (.d (.list ys)) = if xs.length + ys.length ≤ 100000 then some (.d (.list (xs ++ ys))) else none := rfl
theorem ev_addT : addW (.d (.tuple xs)) (.d (.tuple ys)) = if xs.length + ys.length ≤ 100000 then some (.d (.tuple (xs ++ ys))) else none := rfl
theorem ev_lt : ltW (.d (.int i)) (.d (.int j)) = some (.d (.bool (decide (i < j)))) := rfl
theorem ev_le : leW (.d (.int i)) (.d (.int j)) = some (.d (.bool (decide (i ≤ j)))) := rfl
theorem ev_gt : gtW (.d (.int i)) (.d (.int j)) = some (.d (.bool (decide (j < i)))) := rfl
theorem ev_ge : geW (.d (.int i)) (.d (.int j)) = some (.d (.bool (decide (j ≤ i)))) := rfl
theorem ev_eq : eqW (.d x) (.d y) = if (SeqAt.shaped x && SeqAt.shaped y) = true then some (.d (.bool (PyData.eqv x y))) else none := rfl
theorem ev_ne : neW (.d x) (.d y) = if (SeqAt.shaped x && SeqAt.shaped y) = true then some (.d (.bool (!PyData.eqv x y))) else none := rfl
theorem ev_eqT : eqW (.ty m) (.ty n) = if (metaB m && metaB n) = true then some (.d (.bool (decide (m = n)))) else none := rfl
theorem ev_neT : neW (.ty m) (.ty n) = if (metaB m && metaB n) = true then some (.d (.bool (!decide (m = n)))) else none := rfl
theorem ev_isi : isiW [.d x, .ty n] = (isiB x n).map fun b => .d (.bool b) := rfl
theorem ev_lenL : lenW [.d (.list xs)] = some (.d (.int (xs.length : Int))) := rfl
theorem ev_lenT : lenW [.d (.tuple xs)] = some (.d (.int (xs.length : Int))) := rfl
theorem ev_listL : listW [.d (.list xs)] = some xs := rfl
theorem ev_listT : listW [.d (.tuple xs)] = some xs := rfl
theorem ev_tupL : tupleW [.d (.list xs)] = some (.d (.tuple xs)) := rfl
theorem ev_tupT : tupleW [.d (.tuple xs)] = some (.d (.tuple xs)) := rfl
theorem ev_ixL : ixW (.d (.list xs)) (.d (.int i)) = (atI xs i).map .d := rfl
theorem ev_ixT : ixW (.d (.tuple xs)) (.d (.int i)) = (atI xs i).map .d := rfl
theorem ev_back : backW (.d (.tuple xs)) = some (.d (.tuple xs.reverse)) := rfl
theorem ev_backL : backL (.d (.list xs)) = some xs.reverse := rfl
theorem ev_all : allW [.d (.list xs)] = (blsOf xs).map fun bs => .d (.bool (bs.all id)) := rfl
theorem ev_lst : lstW (.d (.list xs)) = some (xs.map .d) := rfl
theorem ev_tup : tupW (.d (.tuple xs)) = some (xs.map .d) := rfl
theorem ev_typ : typW [.d x] = some (.ty (tyN x)) := rfl
theorem ev_sort : sortW [.d (.list xs)] = (intsOf xs).map fun ns => (isortI ns).map .int := rfl
theorem nums_L {ns : List Int} (h : ns.length < 2000) : numsOf (.d (.list (ns.map .int))) = some ns := by
  show (intsOf (ns.map .int)).bind (fun ns => if ns.length < 2000 then some ns else none) = _
  rw [intsOf_map, Option.bind_some, if_pos h]
theorem nums_T {ns : List Int} (h : ns.length < 2000) : numsOf (.d (.tuple (ns.map .int))) = some ns := by
  show (intsOf (ns.map .int)).bind (fun ns => if ns.length < 2000 then some ns else none) = _
  rw [intsOf_map, Option.bind_some, if_pos h]
theorem cMod_ok (h : 0 < j) : cModP i j = true := decide_eq_true h
theorem atI_some {α : Type} {xs : List α} {i : Int} (h0 : 0 ≤ i) (h : i < xs.length) : ∃ x, atI xs i = some x ∧ x ∈ xs := by
  unfold atI ixN
  rw [if_pos h0, if_pos h, Option.bind_some]
  have hl : i.toNat < xs.length := by omega
  exact ⟨xs[i.toNat], List.getElem?_eq_getElem hl, List.getElem_mem hl⟩
theorem cut_len (xs : List PyData) (lo hi : Option Int) : (PD.cutD xs lo hi).length ≤ xs.length := by
  unfold PD.cutD
  rw [List.length_take, List.length_drop]
  omega
theorem insU_len (k : Int) : ∀ l : List Int, (insU k l).length ≤ l.length + 1
  | [] => by simp [insU]
  | x :: l => by
    have := insU_len k l
    unfold insU
    split
    · simp
    · split
      · simp
      · simp; omega
theorem uniq_len : ∀ l : List Int, (uniq l).length ≤ l.length
  | [] => Nat.le_refl _
  | x :: l => by
    have h1 := uniq_len l
    have h2 := insU_len x (uniq l)
    show (insU x (uniq l)).length ≤ _
    rw [List.length_cons]
    omega
end
def isNum : PyData → Bool
  | .int _ => true
  | _ => false
theorem meta_tyN : ∀ x : PyData, metaB (tyN x) = true
  | .none => rfl
  | .bool _ => rfl
  | .int _ => rfl
  | .str _ => rfl
  | .list _ => rfl
  | .tuple _ => rfl
  | .dict _ => rfl
theorem cut_from (xs : List PyData) (k : Nat) : PD.cutD xs (some (k : Int)) none = xs.drop k := by
  unfold PD.cutD
  have e1 : HT.sIx xs.length xs.length none = xs.length := rfl
  have e2 : HT.sIx xs.length 0 (some (k : Int)) = min k xs.length := by simp [HT.sIx]; omega
  rw [e1, e2]
  by_cases h : k ≤ xs.length
  · rw [Nat.min_eq_left h]
    exact List.take_of_length_le (by rw [List.length_drop]; omega)
  · rw [Nat.min_eq_right (by omega), Nat.sub_self, List.take_zero, List.drop_of_length_le (by omega)]
theorem cut_to (xs : List PyData) (k : Nat) : PD.cutD xs none (some (k : Int)) = xs.take k := by
  unfold PD.cutD
  have e1 : HT.sIx xs.length 0 none = 0 := rfl
  have e2 : HT.sIx xs.length xs.length (some (k : Int)) = min k xs.length := by simp [HT.sIx]; omega
  rw [e1, e2, List.drop_zero, Nat.sub_zero]
  by_cases h : k ≤ xs.length
  · rw [Nat.min_eq_left h]
  · rw [Nat.min_eq_right (by omega), List.take_length, List.take_of_length_le (by omega)]
def Bt (p : Nat) (a : Int) : Prop := a.natAbs < 2 ^ p
theorem Bt.mono {p q : Nat} {a : Int} (h : Bt p a) (l : p ≤ q) : Bt q a := Nat.lt_of_lt_of_le h (Nat.pow_le_pow_right (by decide) l)
theorem Bt.add {p q : Nat} {a b : Int} (h : Bt p a) (h' : Bt q b) : Bt (p + q + 1) (a + b) := by
  have h1 := h.mono (Nat.le_add_right p q)
  have h2 := h'.mono (Nat.le_add_left q p)
  unfold Bt at *
  rw [Nat.pow_succ]
  have := Int.natAbs_add_le a b
  omega
theorem Bt.mul {p q : Nat} {a b : Int} (h : Bt p a) (h' : Bt q b) : Bt (p + q) (a * b) := by
  unfold Bt at *
  rw [Int.natAbs_mul, Nat.pow_add]
  exact Nat.mul_lt_mul_of_lt_of_le h (Nat.le_of_lt h') (Nat.two_pow_pos q)
theorem Bt.log {p : Nat} {a : Int} (h : Bt p a) : a.natAbs.log2 ≤ p := by
  by_cases z : a.natAbs = 0
  · rw [z]; simp
  · exact Nat.le_of_lt ((Nat.log2_lt z).mpr h)
theorem Bt.of (a : Int) : Bt (a.natAbs.log2 + 1) a := Nat.lt_log2_self
theorem cMul_bt {p q : Nat} {a b : Int} (h : Bt p a) (h' : Bt q b) (l : p + q < 100000000) : cMul a b = true := by
  have h1 := h.log
  have h2 := h'.log
  unfold cMul
  exact decide_eq_true (by omega)
def isLst : PyData → Bool
  | .list _ => true
  | _ => false
def isTup : PyData → Bool
  | .tuple _ => true
  | _ => false
def isBool : PyData → Bool
  | .bool _ => true
  | _ => false
theorem isi_list (x : PyData) : isiB x "list" = some (isLst x) := by cases x <;> (unfold isiB; simp only [tyN, isLst, isTup, isBool, isNum, Bool.or_false, Bool.false_or]; decide +kernel)
theorem isi_tuple (x : PyData) : isiB x "tuple" = some (isTup x) := by cases x <;> (unfold isiB; simp only [tyN, isLst, isTup, isBool, isNum, Bool.or_false, Bool.false_or]; decide +kernel)
theorem isi_bool (x : PyData) : isiB x "bool" = some (isBool x) := by cases x <;> (unfold isiB; simp only [tyN, isLst, isTup, isBool, isNum, Bool.or_false, Bool.false_or]; decide +kernel)
theorem isi_int (x : PyData) : isiB x "int" = some (isNum x || isBool x) := by cases x <;> (unfold isiB; simp only [tyN, isLst, isTup, isBool, isNum, Bool.or_false, Bool.false_or]; decide +kernel)
theorem sh_int (i : Int) : SeqAt.shaped (.int i) = true := rfl
theorem sh_none : SeqAt.shaped .none = true := rfl
theorem eqv_none : PyData.eqv .none .none = true := by simp [PyData.eqv]
theorem eqv_bool (i j : Bool) : PyData.eqv (.bool i) (.bool j) = decide (i = j) := by simp [PyData.eqv]; cases i <;> cases j <;> rfl
theorem rg5 : rgO (.d (.int 5)) = some (rgD 5) := rfl
theorem lg3 : Nat.log2 3 < 9000 := by decide
theorem lg12 : Nat.log2 12 < 9000 := by decide
theorem lg24 : Nat.log2 24 < 9000 := by decide
theorem lg11 : Nat.log2 11 < 9000 := by decide
theorem sh_bool (i : Bool) : SeqAt.shaped (.bool i) = true := rfl
theorem eqv_int (i j : Int) : PyData.eqv (.int i) (.int j) = decide (i = j) := by simp [PyData.eqv]; rfl
theorem zip_self {α : Type} : ∀ xs : List α, xs.zip xs = xs.map fun x => (x, x)
  | [] => rfl
  | x :: xs => by rw [List.zip_cons_cons, zip_self xs]; rfl
/-- data of a depth below n -/
def okd : Nat → PyData → Bool
  | 0, _ => false
  | _ + 1, .none => true
  | _ + 1, .bool _ => true
  | _ + 1, .int _ => true
  | n + 1, .list xs => decide (xs.length ≤ 100000) && xs.all (okd n)
  | n + 1, .tuple xs => decide (xs.length ≤ 100000) && xs.all (okd n)
  | _ + 1, _ => false
theorem okd_lay : ∀ {n : Nat} {x : PyData}, okd n x = true → x.canLay0 = true ∧ x.depth ≤ n
  | 0, _, h => by unfold okd at h; cases h
  | n + 1, x, h => by
    have all : ∀ xs : List PyData, xs.all (okd n) = true → PyData.canLayAll0 xs = true ∧ PyData.depthAll xs ≤ n := by
      intro xs
      induction xs with
      | nil => intro _; exact ⟨rfl, Nat.zero_le _⟩
      | cons y ys ih =>
        intro ha
        rw [List.all_cons, Bool.and_eq_true] at ha
        obtain ⟨a1, a2⟩ := okd_lay ha.1
        obtain ⟨b1, b2⟩ := ih ha.2
        refine ⟨?_, ?_⟩
        · show (y.canLay0 && PyData.canLayAll0 ys) = true
          rw [a1, b1]; rfl
        · show max y.depth (PyData.depthAll ys) ≤ n
          omega
    cases x with
    | none => exact ⟨rfl, Nat.zero_le _⟩
    | bool b => exact ⟨rfl, Nat.zero_le _⟩
    | int i => exact ⟨rfl, Nat.zero_le _⟩
    | list xs =>
      unfold okd at h
      rw [Bool.and_eq_true] at h
      obtain ⟨a1, a2⟩ := all xs h.2
      exact ⟨a1, Nat.succ_le_succ a2⟩
    | tuple xs =>
      unfold okd at h
      rw [Bool.and_eq_true] at h
      obtain ⟨a1, a2⟩ := all xs h.2
      exact ⟨a1, Nat.succ_le_succ a2⟩
    | str y => cases h
    | dict y => cases h
theorem sh_okd {n : Nat} {x : PyData} (h : okd n x = true) (hn : n ≤ 64) : SeqAt.shaped x = true := by
  obtain ⟨a, b⟩ := okd_lay h
  unfold SeqAt.shaped
  rw [a, decide_eq_true (Nat.le_trans b hn)]
  rfl
theorem okd_ints {n : Nat} (ns : List Int) : (ns.map PyData.int).all (okd (n + 1)) = true := by
  rw [List.all_map, List.all_eq_true]
  intro i _
  rfl
theorem okd_L {n : Nat} {ns : List Int} (h : ns.length ≤ 100000) : okd (n + 2) (.list (ns.map .int)) = true := by
  unfold okd
  rw [okd_ints, List.length_map, decide_eq_true h]
  rfl
theorem okd_T {n : Nat} {ns : List Int} (h : ns.length ≤ 100000) : okd (n + 2) (.tuple (ns.map .int)) = true := by
  unfold okd
  rw [okd_ints, List.length_map, decide_eq_true h]
  rfl
theorem sh_L {ns : List Int} (h : ns.length ≤ 100000) : SeqAt.shaped (.list (ns.map .int)) = true := sh_okd (n := 2) (okd_L h) (by decide)
theorem eqv_refl' {n : Nat} {x : PyData} (h : okd n x = true) : PyData.eqv x x = true := SeqAt.eqv_refl x (okd_lay h).1
theorem eqvAll_ints : ∀ ns ms : List Int, PyData.eqvAll (ns.map .int) (ms.map .int) = decide (ns = ms)
  | [], [] => rfl
  | [], _ :: _ => rfl
  | _ :: _, [] => rfl
  | n :: ns, m :: ms => by
    show (PyData.eqv (.int n) (.int m) && PyData.eqvAll (ns.map .int) (ms.map .int)) = _
    rw [eqv_int, eqvAll_ints ns ms]
    simp
theorem eqv_L (ns ms : List Int) : PyData.eqv (.list (ns.map .int)) (.list (ms.map .int)) = decide (ns = ms) := by
  rw [PyData.eqv]
  exact eqvAll_ints ns ms
theorem eqv_T (ns ms : List Int) : PyData.eqv (.tuple (ns.map .int)) (.tuple (ms.map .int)) = decide (ns = ms) := by
  rw [PyData.eqv]
  exact eqvAll_ints ns ms
/-! ### a dict that counts -/
section
variable {β : Type}
theorem getA_app {kvs : List (Int × β)} {k j : Int} {v : β} (h : (kvs.any fun p => decide (p.1 = k)) = false) : getA (kvs ++ [(k, v)]) j = if j = k then some v else getA kvs j := by
  unfold getA
  rw [List.find?_append]
  by_cases e : j = k
  · subst e
    have : kvs.find? (fun p => decide (p.1 = j)) = none := List.find?_eq_none.mpr fun p hp hq => by
      rw [List.any_eq_false] at h
      exact h p hp hq
    rw [this]
    simp
  · have e2 : ¬ k = j := fun z => e z.symm
    simp [e, e2]
theorem getA_map {k j : Int} {v : β} : ∀ {kvs : List (Int × β)}, getA (kvs.map fun p => if p.1 = k then (p.1, v) else p) j = if j = k ∧ (kvs.any fun p => decide (p.1 = k)) = true then some v else getA kvs j
  | [] => by simp [getA]
  | (a, b) :: kvs => by
    have ih := getA_map (k := k) (j := j) (v := v) (kvs := kvs)
    unfold getA at ih ⊢
    rw [List.map_cons, List.any_cons]
    by_cases e : a = k
    · subst e
      by_cases e2 : a = j
      · subst e2
        simp
      · have e3 : ¬ j = a := fun z => e2 z.symm
        simp [e2, e3]
        simpa [e3] using ih
    · by_cases e2 : a = j
      · subst e2
        simp [e]
      · simp only [e, ↓reduceIte, List.find?_cons, e2, decide_false, Bool.false_or]
        exact ih
theorem getA_put {kvs : List (Int × β)} {k j : Int} {v : β} : getA (putA kvs k v) j = if j = k then some v else getA kvs j := by
  unfold putA
  split
  · rename_i h
    rw [getA_map, h]
    simp
  · rename_i h
    exact getA_app (by rwa [Bool.not_eq_true] at h)
theorem keysA_put {kvs : List (Int × β)} {k : Int} {v : β} : (putA kvs k v).map (·.1) = if (kvs.any fun p => decide (p.1 = k)) = true then kvs.map (·.1) else kvs.map (·.1) ++ [k] := by
  unfold putA
  split
  · rw [List.map_map]
    apply List.map_congr_left
    intro p _
    simp only [Function.comp_apply]
    split <;> rfl
  · rw [List.map_append]
    rfl
theorem anyA {kvs : List (Int × β)} {k : Int} : (kvs.any fun p => decide (p.1 = k)) = true ↔ k ∈ kvs.map (·.1) := by
  rw [List.any_eq_true, List.mem_map]
  simp
end
/-- the pairs tell how often each number stands in f -/
structure Cnt (f : List Int) (kvs : List (Int × PyData)) : Prop where
  get : ∀ k, getA kvs k = if f.count k = 0 then none else some (.int (f.count k : Nat))
  nd : (kvs.map (·.1)).Nodup
  mem : ∀ k, k ∈ kvs.map (·.1) ↔ k ∈ f
theorem Cnt.nil : Cnt [] [] := ⟨fun k => rfl, List.nodup_nil, fun k => Iff.rfl⟩
theorem Cnt.snoc {f : List Int} {kvs : List (Int × PyData)} (c : Cnt f kvs) (k : Int) : Cnt (f ++ [k]) (putA kvs k (.int ((f.count k : Nat) + 1))) := by
  refine ⟨fun j => ?_, ?_, fun j => ?_⟩
  · rw [getA_put]
    by_cases e : j = k
    · subst e
      rw [if_pos rfl]
      simp
    · have e2 : ¬ k = j := fun z => e z.symm
      rw [if_neg e, c.get j]
      simp [e2]
  · rw [keysA_put]
    split
    · exact c.nd
    · rename_i h
      rw [anyA] at h
      rw [List.nodup_append]
      refine ⟨c.nd, by simp, fun a ha b hb => ?_⟩
      rw [List.mem_singleton.mp hb]
      exact fun z => h (z ▸ ha)
  · rw [keysA_put]
    split
    · rename_i h
      rw [anyA] at h
      rw [c.mem j, List.mem_append, List.mem_singleton]
      exact ⟨.inl, fun z => z.elim id fun z => z ▸ (c.mem k).mp h⟩
    · rw [List.mem_append, c.mem j, List.mem_append]
theorem Cnt.len {f : List Int} {kvs : List (Int × PyData)} (c : Cnt f kvs) : kvs.length ≤ f.length := by
  have q := PT.nodup_le c.nd fun j hj => (c.mem j).mp hj
  rwa [List.length_map] at q
/-- the numbers that stand an odd number of times -/
def oddN (f : List Int) : List Int := uniq (f.filter fun k => decide (f.count k % 2 = 1))
theorem mem_oddN {f : List Int} {k : Int} : k ∈ oddN f ↔ f.count k % 2 = 1 := by
  unfold oddN
  rw [mem_uniq, List.mem_filter, decide_eq_true_eq]
  refine ⟨fun h => h.2, fun h => ⟨?_, h⟩⟩
  apply List.count_pos_iff.mp
  omega
theorem odd_keys {f : List Int} {kvs : List (Int × PyData)} (c : Cnt f kvs) : (isortI (kvs.map (·.1))).filter (fun k => decide (f.count k % 2 = 1)) = oddN f := by
  have pm : (isortI (kvs.map (·.1))).Perm (kvs.map (·.1)) := List.mergeSort_perm _ _
  have st : (isortI (kvs.map (·.1))).Pairwise (· ≤ ·) := by
    have q := List.pairwise_mergeSort (le := fun a b : Int => decide (a ≤ b)) (fun a b c h1 h2 => by simp at *; omega) (fun a b => by simp; omega) (kvs.map (·.1))
    exact q.imp fun h => by simpa using h
  have ri := lt_of_le_nodup _ st (pm.nodup_iff.mpr c.nd)
  refine uniq_of (ri.filter _) fun k => ?_
  rw [List.mem_filter, List.mem_filter, pm.mem_iff, c.mem]
theorem erase_map {α β : Type} (f : α → β) : ∀ (l : List α) (k : Nat), (l.map f).eraseIdx k = (l.eraseIdx k).map f
  | [], _ => rfl
  | _ :: _, 0 => rfl
  | a :: l, k + 1 => by
    show f a :: (l.map f).eraseIdx k = f a :: (l.eraseIdx k).map f
    rw [erase_map f l k]
theorem sortTW_ok {C : Int} {d : Nat} {ls : List (List Int)} (hd : 1 ≤ d) (h0 : ls ≠ []) (h64 : ls.length < 64) (h : ∀ m ∈ ls, m.length = d ∧ ∀ x ∈ m, 0 ≤ x ∧ x < C) : sortTW C [.d (.list (ls.map tupI))] = some ((tsort ls).map tupI) := by
  have hh : (ls.headD [0]).length = d := by
    cases ls with
    | nil => exact absurd rfl h0
    | cons m l => exact (h m List.mem_cons_self).1
  show (tupsOf (ls.map tupI)).bind _ = _
  rw [tupsOf_map, Option.bind_some, hh]
  refine if_pos ⟨hd, ?_⟩
  unfold goodT
  rw [decide_eq_true h64, Bool.true_and, List.all_eq_true]
  intro m hm
  obtain ⟨h1, h2⟩ := h m hm
  rw [decide_eq_true h1, Bool.true_and, List.all_eq_true]
  intro x hx
  rw [decide_eq_true (h2 x hx).1, decide_eq_true (h2 x hx).2]
  rfl
theorem cut_last (xs : List PyData) (x : PyData) : PD.cutD (xs ++ [x]) (some (-1)) none = [x] := by
  unfold PD.cutD
  have e1 : HT.sIx (xs ++ [x]).length (xs ++ [x]).length none = (xs ++ [x]).length := rfl
  have e2 : HT.sIx (xs ++ [x]).length 0 (some (-1)) = xs.length := by
    show (if (-1 : Int) < 0 then ((-1 : Int) + ((xs ++ [x]).length : Int)).toNat else min (-1 : Int).toNat (xs ++ [x]).length) = _
    rw [if_pos (by decide), List.length_append, List.length_singleton]
    omega
  rw [e1, e2, List.drop_left, List.length_append, List.length_singleton, Nat.add_sub_cancel_left]
  rfl
/-! ### the end -/
theorem no_list {K : PySem.W.Frag} {a : Addr} {o : Obj} (h : K.all (fun p => !(p.2.cls == .type "list")) = true) (lk : K.lookup a = some o) (hc : o.cls = .type "list") : False := by
  induction K with
  | nil => cases lk
  | cons p K ih =>
    obtain ⟨b, u⟩ := p
    rw [List.all_cons, Bool.and_eq_true] at h
    rw [List.lookup_cons] at lk
    split at lk
    · cases lk
      rw [hc] at h
      have h1 := h.1
      simp at h1
    · exact ih h.2 lk
theorem bind_one {K : PySem.W.Frag} {x qual v : Str} {st : Stmt} {f : Addr} {fd : FuncData} (F : Fun K x qual st f fd)
    (h : ∀ (kV doc pm : Value) (an : Option Addr) (cdv ct : Value) (u : Value), bindArgs (PySem.W.fnOf x qual (defArgs st) (defBody st) (defScope st) .none kV doc pm an cdv ct) ⟨[u], []⟩ = pure [(v, u)]) (s : Shared) (u : Value) : BindsTo s fd ⟨[u], []⟩ [(v, u)] := by
  obtain ⟨oc, od, kV, doc, pm, an, cdv, ct, osl, rfl, lk, hcd⟩ := F.ex
  exact .of_eq (h kV doc pm an cdv ct u)
/-- a law's def, called with the script -/
theorem law_sp {K : PySem.W.Frag} {g : List W → Option W} {H : Hp} {a : Addr} {ns : List Int} (hg : g [.d (.list (ns.map .int))] = some (.d (.bool true))) (hK : K.all (fun p => !(p.2.cls == .type "list")) = true) (hS : SqL K H a (ns.map V.int)) :
    spD K g [.ref a] H (fun v _ => v = .bl true) fun _ _ _ => False := by
  rcases hS with hS | ⟨o, its, n, lk, hc, _⟩
  · refine ⟨H, [.d (.list (ns.map .int))], .d (.bool true), Same.refl H, .cons (.lst hS (dpa_of_ints ns)) .nil, hg, fun v B' H' _ r => ?_⟩
    exact dp_bl r
  · exact (no_list hK lk hc).elim
theorem bits_log {z : Int} (h : Builtin.Int.intBits z ≤ 1048576) : z.natAbs.log2 ≤ 2000000 := by
  unfold Builtin.Int.intBits at h
  split at h
  · rename_i e
    rw [eq_of_beq e]
    show Nat.log2 0 ≤ _
    rw [Nat.log2_zero]
    exact Nat.zero_le _
  · omega
theorem glob_mk {K : PySem.W.Frag} {h : Heap} {mg : Str → Option Value} {x : Str} {v : Int} {t : Tok} (X : K.In h) (G : h.Ns mainGlobals mg) (e : PySem.W.nsIn K mainGlobals x = some (some (.int v t))) : ∃ t, mg x = some (.int v t) := ⟨t, PySem.W.mg_of X G e⟩
end PD

namespace K1
open PySem PySem.Spec PyProof.Rows L2 PD
def topS (i : Nat) : Stmt := PySem.Challenge.pw_holepairs_k01_pieces_and_heaps.main.body.getD i (.Pass ⟨0, 0, 0, 0⟩)
abbrev s_is_whole : Stmt := topS 3
theorem sc_is_whole : FnScope ["thing"] ["thing"] (defScope s_is_whole) := ⟨rfl, rfl, rfl, by decide +kernel, rfl, by decide +kernel, by decide +kernel⟩
abbrev s_is_piece : Stmt := topS 4
theorem sc_is_piece : FnScope ["thing", "corner", "low", "high"] ["thing"] (defScope s_is_piece) := ⟨rfl, rfl, rfl, by decide +kernel, rfl, by decide +kernel, by decide +kernel⟩
abbrev s_is_corner : Stmt := topS 5
theorem sc_is_corner : FnScope ["thing"] ["thing"] (defScope s_is_corner) := ⟨rfl, rfl, rfl, by decide +kernel, rfl, by decide +kernel, by decide +kernel⟩
abbrev s_sides : Stmt := topS 6
theorem sc_sides : FnScope ["piece", "at"] ["piece"] (defScope s_sides) := ⟨rfl, rfl, rfl, by decide +kernel, rfl, by decide +kernel, by decide +kernel⟩
abbrev s_added : Stmt := topS 7
theorem sc_added : FnScope ["one", "other"] ["one", "other"] (defScope s_added) := ⟨rfl, rfl, rfl, by decide +kernel, rfl, by decide +kernel, by decide +kernel⟩
abbrev s__law_mixed : Stmt := topS 9
theorem sc__law_mixed : FnScope ["_law_cell", "_law_k", "_law_number"] ["_law_cell", "_law_k"] (defScope s__law_mixed) := ⟨rfl, rfl, rfl, by decide +kernel, rfl, by decide +kernel, by decide +kernel⟩
abbrev s__law_alike : Stmt := topS 11
theorem sc__law_alike : FnScope ["_law_found", "_law_due", "_law_one", "_law_other"] ["_law_found", "_law_due"] (defScope s__law_alike) := ⟨rfl, rfl, rfl, by decide +kernel, rfl, by decide +kernel, by decide +kernel⟩
abbrev s__law_thing : Stmt := topS 12
theorem sc__law_thing : FnScope ["_law_cell", "_law_k", "_law_number", "_law_wide", "_law_some", "_law_j", "_law_piece", "_law_odd_here"] ["_law_cell", "_law_k"] (defScope s__law_thing) := ⟨rfl, rfl, rfl, by decide +kernel, rfl, by decide +kernel, by decide +kernel⟩
abbrev s__law_is : Stmt := topS 13
theorem sc__law_is : FnScope ["_law_thing_here", "_law_corner"] ["_law_thing_here"] (defScope s__law_is) := ⟨rfl, rfl, rfl, by decide +kernel, rfl, by decide +kernel, by decide +kernel⟩
abbrev s__law_heap_by : Stmt := topS 14
theorem sc__law_heap_by : FnScope ["_law_cell", "_law_k", "_law_number", "_law_wide", "_law_j"] ["_law_cell", "_law_k"] (defScope s__law_heap_by) := ⟨rfl, rfl, rfl, by decide +kernel, rfl, by decide +kernel, by decide +kernel⟩
abbrev s__law_odd : Stmt := topS 15
theorem sc__law_odd : FnScope ["_law_heaps", "_law_often", "_law_heap", "_law_number"] ["_law_heaps"] (defScope s__law_odd) := ⟨rfl, rfl, rfl, by decide +kernel, rfl, by decide +kernel, by decide +kernel⟩
abbrev s__law_sides_right : Stmt := topS 16
theorem sc__law_sides_right : FnScope ["_law_piece", "_law_found", "_law_due", "_law_k"] ["_law_piece"] (defScope s__law_sides_right) := ⟨rfl, rfl, rfl, by decide +kernel, rfl, by decide +kernel, by decide +kernel⟩
abbrev s_law : Stmt := topS 17
theorem sc_law : FnScope ["_law_script", "_law_heaps", "_law_total", "_law_k", "_law_cell", "_law_thing_here", "_law_told", "_law_heap", "_law_handed", "_law_before"] ["_law_script"] (defScope s_law) := ⟨rfl, rfl, rfl, by decide +kernel, rfl, by decide +kernel, by decide +kernel⟩
structure Txt (mg : Str → Option Value) : Prop where
  c_LARGEST_CORNER : ∃ t, mg "LARGEST_CORNER" = some (.int (10 ^ 60) t)
  c_MOST_CORNERS : ∃ t, mg "MOST_CORNERS" = some (.int (4) t)
  z_all : mg "all" = none
  z_bool : mg "bool" = none
  z_enumerate : mg "enumerate" = none
  z_int : mg "int" = none
  z_isinstance : mg "isinstance" = none
  z_len : mg "len" = none
  z_list : mg "list" = none
  z_range : mg "range" = none
  z_reversed : mg "reversed" = none
  z_set : mg "set" = none
  z_sorted : mg "sorted" = none
  z_tuple : mg "tuple" = none
  z_type : mg "type" = none
  z_zip : mg "zip" = none
/-! ### by content -/
def gWhole : List W → Option W
  | [.d x] => some (.d (.bool (isNum x)))
  | _ => none
def cornerB : PyData → Bool
  | .int i => decide (0 ≤ i) && decide (i ≤ 10 ^ 60)
  | _ => false
def gCorner : List W → Option W
  | [.d x] => some (.d (.bool (cornerB x)))
  | _ => none
def numsD (xs : List PyData) : List Int := (intsOf xs).getD []
def risB : List Int → Bool
  | a :: b :: l => decide (a < b) && risB (b :: l)
  | _ => true
def pieceB : PyData → Bool
  | .tuple xs => (decide (1 ≤ xs.length) && decide (xs.length ≤ 4)) && (xs.all cornerB && risB (numsD xs))
  | _ => false
def gPiece : List W → Option W
  | [.d x] => some (.d (.bool (pieceB x)))
  | _ => none
def sidesD (xs : List PyData) : List PyData := if xs.length = 1 then [] else (List.range xs.length).map fun k => .tuple (xs.eraseIdx (xs.length - 1 - k))
def gSides : List W → Option (List PyData)
  | [.d (.tuple xs)] => if xs.length ≤ 1000 then some (sidesD xs) else none
  | _ => none
def gAdded : List W → Option (List PyData)
  | [a, b] => (numsOf a).bind fun x => (numsOf b).bind fun y => (xorN x y).map fun z => (uniq z).map .int
  | _ => none
theorem nums_all : ∀ {xs : List PyData}, xs.all cornerB = true → xs = (numsD xs).map .int
  | [], _ => rfl
  | x :: xs, h => by
    rw [List.all_cons, Bool.and_eq_true] at h
    have ih := nums_all h.2
    cases x with
    | int i =>
      unfold numsD at ih ⊢
      unfold intsOf
      rw [ih, intsOf_map]
      rfl
    | _ => exact absurd h.1 (by simp [cornerB])
theorem ris_pair : ∀ ns : List Int, risB ns = true ↔ ns.Pairwise (· < ·)
  | [] => ⟨fun _ => List.Pairwise.nil, fun _ => rfl⟩
  | [a] => ⟨fun _ => List.pairwise_singleton _ _, fun _ => rfl⟩
  | a :: b :: l => by
    have ih := ris_pair (b :: l)
    rw [risB, Bool.and_eq_true, decide_eq_true_eq, ih, List.pairwise_cons (a := a)]
    constructor
    · rintro ⟨h1, h2⟩
      refine ⟨fun c hc => ?_, h2⟩
      rcases List.mem_cons.mp hc with z | z
      · rw [z]; exact h1
      · exact Int.lt_trans h1 ((List.pairwise_cons.mp h2).1 c z)
    · rintro ⟨h1, h2⟩
      exact ⟨h1 b List.mem_cons_self, h2⟩
theorem ris_uniq (ns : List Int) : decide (ns = uniq ns) = risB ns := by
  rw [Bool.eq_iff_iff, decide_eq_true_eq, ris_pair]
  constructor
  · intro h; rw [h]; exact uniq_rises ns
  · intro h; exact uniq_of h fun _ => Iff.rfl
def gSR : List W → Option W
  | [.d x] => if pieceB x = true then some (.d (.bool true)) else none
  | _ => none
theorem piece_inv {x : PyData} (h : pieceB x = true) : ∃ ns : List Int, x = .tuple (ns.map .int) ∧ 1 ≤ ns.length ∧ ns.length ≤ 4 ∧ ns.Pairwise (· < ·) ∧ ∀ a ∈ ns, 0 ≤ a ∧ a ≤ 10 ^ 60 := by
  cases x with
  | tuple xs =>
    simp only [pieceB, Bool.and_eq_true, decide_eq_true_eq] at h
    obtain ⟨⟨h1, h2⟩, h3, h4⟩ := h
    have hns := nums_all h3
    have hl := congrArg List.length hns
    rw [List.length_map] at hl
    refine ⟨numsD xs, by rw [← hns], by omega, by omega, (ris_pair _).mp h4, fun a ha => ?_⟩
    have hm : PyData.int a ∈ xs := by rw [hns]; exact List.mem_map.mpr ⟨a, ha, rfl⟩
    have q := List.all_eq_true.mp h3 _ hm
    simpa [cornerB] using q
  | _ => cases h
/-- without its corners one by one, rising -/
theorem drops_sorted : ∀ {ns : List Int}, 1 ≤ ns.length → ns.length ≤ 4 → ns.Pairwise (· < ·) → ((List.range ns.length).map fun k => ns.eraseIdx (ns.length - 1 - k)) = tsort ((List.range ns.length).map ns.eraseIdx)
  | [a], _, _, _ => by
    refine tsort_eq (List.Perm.refl _) ?_
    simp
  | [a, b], _, _, h => by
    refine tsort_eq ?_ ?_
    · exact List.Perm.swap _ _ _
    · simp at h
      simp [List.range, List.range.loop, List.eraseIdx, lexle, h]
  | [a, b, c], _, _, h => by
    refine tsort_eq ?_ ?_
    · have e : ((List.range 3).map fun k => [a, b, c].eraseIdx (3 - 1 - k)) = ((List.range 3).map [a, b, c].eraseIdx).reverse := rfl
      show ((List.range 3).map fun k => [a, b, c].eraseIdx (3 - 1 - k)).Perm _
      rw [e]
      exact List.reverse_perm _
    · simp at h
      simp [List.range, List.range.loop, List.eraseIdx, lexle, h]
  | [a, b, c, d], _, _, h => by
    refine tsort_eq ?_ ?_
    · have e : ((List.range 4).map fun k => [a, b, c, d].eraseIdx (4 - 1 - k)) = ((List.range 4).map [a, b, c, d].eraseIdx).reverse := rfl
      show ((List.range 4).map fun k => [a, b, c, d].eraseIdx (4 - 1 - k)).Perm _
      rw [e]
      exact List.reverse_perm _
    · simp at h
      simp [List.range, List.range.loop, List.eraseIdx, lexle, h]
  | _ :: _ :: _ :: _ :: _ :: _, _, h, _ => by simp at h
theorem ris_zip : ∀ ns : List Int, ((ns.zip ns.tail).all fun p => decide (p.1 < p.2)) = risB ns
  | [] => rfl
  | [_] => rfl
  | a :: b :: l => by
    have ih := ris_zip (b :: l)
    simp only [List.tail_cons, List.zip_cons_cons, List.all_cons] at ih ⊢
    rw [risB, ← ih]
def mixN (c k : Int) : Int := (c % 10 ^ 30 + 7919 * k + 13) * (c % 10 ^ 30 + 7919 * k + 13) % 1000000007 * 48271 % 998244353 / 11
theorem mix_lo (c k : Int) : 0 ≤ mixN c k := by
  unfold mixN
  exact Int.ediv_nonneg (Int.emod_nonneg _ (by decide)) (by decide)
theorem mix_hi (c k : Int) : mixN c k < 998244353 := by
  unfold mixN
  have h := Int.emod_lt_of_pos ((c % 10 ^ 30 + 7919 * k + 13) * (c % 10 ^ 30 + 7919 * k + 13) % 1000000007 * 48271) (by decide : (0 : Int) < 998244353)
  have h0 := Int.emod_nonneg ((c % 10 ^ 30 + 7919 * k + 13) * (c % 10 ^ 30 + 7919 * k + 13) % 1000000007 * 48271) (by decide : (998244353 : Int) ≠ 0)
  generalize (c % 10 ^ 30 + 7919 * k + 13) * (c % 10 ^ 30 + 7919 * k + 13) % 1000000007 * 48271 % 998244353 = z at *
  omega
def gMixed : List W → Option W
  | [.d (.int c), .d (.int k)] => if k.natAbs ≤ 1000000 then some (.d (.int (mixN c k))) else none
  | _ => none
noncomputable def gAlike (n : Nat) : List W → Option W := fun ws => open Classical in if ∃ x, ws = [.d x, .d x] ∧ okd n x = true then some (.d (.bool true)) else none
theorem gAlike_ok {n : Nat} {x : PyData} (h : okd n x = true) : gAlike n [.d x, .d x] = some (.d (.bool true)) := by
  unfold gAlike
  rw [if_pos ⟨x, rfl, h⟩]
theorem gAlike_inv {n : Nat} {ws : List W} {w : W} (h : gAlike n ws = some w) : ∃ x, ws = [.d x, .d x] ∧ okd n x = true ∧ w = .d (.bool true) := by
  unfold gAlike at h
  split at h
  · rename_i hx
    obtain ⟨x, h1, h2⟩ := hx
    cases h
    exact ⟨x, h1, h2, rfl⟩
  · cases h
section
variable {P : Program} {w : World} {K : PySem.W.Frag} {mg : Str → Option Value} {base : Heap} {k : Nat}
theorem ok_is_whole (T : Txt mg) (A : Stands K mg "is_whole" s_is_whole ["thing"]) : Keeps P w K mg base "is_whole" ["thing"] 1 (spD K gWhole) := by
  refine A.keepsD (k := 0) sc_is_whole (by decide) (fun ws w h => ?h1) ⟨_, fun f cdv A outer s H E hr => (pc_one (pc_ret (pd_tis tyF_typ (pd_type (by rfl) T.z_type (pl_cons (pd_var 0) pl_nil)) (pd_ty (n := "int") (by rfl) T.z_int (by decide +kernel))))), fun ws w h => ?h3⟩
  case h1 => unfold gWhole at h; split at h <;> first | rfl | cases h
  case h3 =>
    unfold gWhole at h; split at h
    · rename_i x
      cases h
      have e : decide (tyN x = "int") = isNum x := by cases x <;> simp [tyN, isNum]
      simp [seqF, nxF, ifF, setF, setN, retF, retNF, f1, f2, f3, fV, fC, fB, isB, fAnd, fOr, fNot, fIf, fAndV, fOrV, fNotV, fNil, fCons, fA, fAN, fTup, fLst, fDs, datas, startR, retD, retL, List.set_cons_zero, List.set_cons_succ, List.getElem?_cons_zero, List.getElem?_cons_succ, List.map_cons, List.map_nil, List.replicate, List.cons_append, List.nil_append, Option.bind_some, Option.bind_none, Option.map_some, Option.map_none, ↓reduceIte, gsC, gsN, gT, gN, fSeq, fRng, fYes, List.length_cons, List.length_nil, Nat.add_one_sub_one, Nat.sub_zero, Nat.sub_self, Nat.zero_add, Nat.reduceAdd, Nat.reduceSub, ev_sub, ev_mul, ev_div, ev_mod, ev_pow, ev_neg, ev_add, ev_addL, ev_addT, ev_lt, ev_le, ev_gt, ev_ge, ev_eq, ev_ne, ev_eqT, ev_neT, ev_isi, ev_lenL, ev_lenT, ev_listL, ev_listT, ev_tupL, ev_tupT, ev_ixL, ev_ixT, ev_back, ev_backL, ev_all, ev_lst, ev_tup, ev_typ, ev_sort, fzR, fSlT, fSlL, fEnd, fNo, fSorS, fXorS, fSet, f1N, fIsi2, sh_int, sh_bool, sh_none, eqv_int, eqv_bool, eqv_none, isi_list, isi_tuple, isi_bool, isi_int, lentB, lentD, lentN, lent, flatD, appF, clrF, loopF, meta_tyN, e, (by decide : metaB "int" = true)]
    · cases h
theorem ok_is_corner (T : Txt mg) (A : Stands K mg "is_corner" s_is_corner ["thing"]) (O_is_whole : Keeps P w K mg base "is_whole" ["thing"] 1 (spD K gWhole)) : Keeps P w K mg base "is_corner" ["thing"] 2 (spD K gCorner) := by
  refine A.keepsD (k := 1) sc_is_corner (by decide) (fun ws w h => ?h1) ⟨_, fun f cdv A outer s H E hr => (pc_one (pc_ret (pd_andV (pd_go O_is_whole (hr.mono (by first | decide | omega)) (by rfl) (pl_cons (pd_var 0) pl_nil)) (pd_oneV (pd_lele pd_int (pd_var 0) (pd_glob (by rfl) T.c_LARGEST_CORNER)))))), fun ws w h => ?h3⟩
  case h1 => unfold gCorner at h; split at h <;> first | rfl | cases h
  case h3 =>
    unfold gCorner at h; split at h
    · rename_i x
      cases h
      cases x <;> simp [seqF, nxF, ifF, setF, setN, retF, retNF, f1, f2, f3, fV, fC, fB, isB, fAnd, fOr, fNot, fIf, fAndV, fOrV, fNotV, fNil, fCons, fA, fAN, fTup, fLst, fDs, datas, startR, retD, retL, List.set_cons_zero, List.set_cons_succ, List.getElem?_cons_zero, List.getElem?_cons_succ, List.map_cons, List.map_nil, List.replicate, List.cons_append, List.nil_append, Option.bind_some, Option.bind_none, Option.map_some, Option.map_none, ↓reduceIte, gsC, gsN, gT, gN, fSeq, fRng, fYes, List.length_cons, List.length_nil, Nat.add_one_sub_one, Nat.sub_zero, Nat.sub_self, Nat.zero_add, Nat.reduceAdd, Nat.reduceSub, ev_sub, ev_mul, ev_div, ev_mod, ev_pow, ev_neg, ev_add, ev_addL, ev_addT, ev_lt, ev_le, ev_gt, ev_ge, ev_eq, ev_ne, ev_eqT, ev_neT, ev_isi, ev_lenL, ev_lenT, ev_listL, ev_listT, ev_tupL, ev_tupT, ev_ixL, ev_ixT, ev_back, ev_backL, ev_all, ev_lst, ev_tup, ev_typ, ev_sort, fzR, fSlT, fSlL, fEnd, fNo, fSorS, fXorS, fSet, f1N, fIsi2, sh_int, sh_bool, sh_none, eqv_int, eqv_bool, eqv_none, isi_list, isi_tuple, isi_bool, isi_int, lentB, lentD, lentN, lent, flatD, appF, clrF, loopF, gWhole, isNum, cornerB]
      rename_i i
      by_cases h0 : 0 ≤ i <;> simp [h0]
    · cases h
theorem ok_is_piece (T : Txt mg) (A : Stands K mg "is_piece" s_is_piece ["thing"]) (O_is_corner : Keeps P w K mg base "is_corner" ["thing"] 2 (spD K gCorner)) : Keeps P w K mg base "is_piece" ["thing"] 3 (spD K gPiece) := by
  refine A.keepsD (k := 2) sc_is_piece (by decide) (fun ws w h => ?h1) ⟨_, fun f cdv A outer s H E hr => (pc_cons (pc_if (pb_w (pwb_or (pb_tin tyF_typ (pd_type (by rfl) T.z_type (pl_cons (pd_var 0) pl_nil)) (pd_ty (n := "tuple") (by rfl) T.z_tuple (by decide +kernel))) (pwb_or1 (pb_not (pb_lele pd_int (pd_len (by rfl) T.z_len (pl_cons (pd_var 0) pl_nil)) (pd_glob (by rfl) T.c_MOST_CORNERS)))))) (pc_one (pc_ret pd_bl)) pc_nil)
    (pc_cons (pc_if (pb_not (pb_val (pd_all (by rfl) (by rfl) T.z_all (pl_cons (pd_n (pn_lc [("corner", 1)] (by rfl) sc_is_piece.nd (pw_tup (pd_var 0)) (blkOk_by (N := ["thing", "corner", "low", "high"]) (sc := defScope s_is_piece) (by decide +kernel)) (fun _ _ _ _ _ => (pgd_name 1 sc_is_piece.nd)) (fun _ _ _ _ _ => pbs_nil) (fun _ _ _ _ _ => (pd_go O_is_corner (hr.mono (by first | decide | omega)) (by rfl) (pl_cons (pd_var 1) pl_nil))))) pl_nil)))) (pc_one (pc_ret pd_bl)) pc_nil)
    (pc_one (pc_ret (pd_all (by rfl) (by rfl) T.z_all (pl_cons (pd_n (pn_lc [("low", 2), ("high", 3)] (by rfl) sc_is_piece.nd (pw_zip (by rfl) T.z_zip (pl_cons (pd_var 0) (pl_cons (pd_slT (pd_var 0) (pend_some pd_int) pend_no) pl_nil))) (blkOk_by (N := ["thing", "corner", "low", "high"]) (sc := defScope s_is_piece) (by decide +kernel)) (fun _ _ _ _ _ => (pgd_tup (n := 2) (by rfl) (pgds_cons (pgd_name 2 sc_is_piece.nd) (pgds_cons (pgd_name 3 sc_is_piece.nd) pgds_nil)))) (fun _ _ _ _ _ => pbs_nil) (fun _ _ _ _ _ => (pd_lt (pd_var 2) (pd_var 3))))) pl_nil)))))), fun ws w h => ?h3⟩
  case h1 => unfold gPiece at h; split at h <;> first | rfl | cases h
  case h3 =>
    unfold gPiece at h; split at h
    · rename_i x
      cases h
      by_cases ht : tyN x = "tuple"
      · cases x <;> simp [tyN] at ht
        rename_i xs
        have L1 : ∀ a b c d, lcF (gN 1) fYes (fA gCorner (fCons (fV 1) fNil)) [a, b, c, d] (xs.map .d) = some (xs.map fun x => .bool (cornerB x)) := fun a b c d => lcF_over _ fun x _ => ⟨_, rfl, rfl, rfl⟩
        have B1 : blsOf (xs.map fun x => .bool (cornerB x)) = some (xs.map cornerB) := by
          have q := blsOf_map (xs.map cornerB)
          rw [List.map_map] at q
          exact q
        have hlen : ¬ (100000 < xs.length) ∨ 4 < xs.length := by omega
        by_cases h1 : 1 ≤ xs.length
        · by_cases h2 : xs.length ≤ 4
          · have hc1 : (1 : Int) ≤ xs.length := by omega
            have hc2 : (xs.length : Int) ≤ 4 := by omega
            have hc3 : xs.length ≤ 100000 := by omega
            cases hk : xs.all cornerB with
            | true =>
              have hns := nums_all hk
              have L2 : ∀ a b c d, lcF (gT 2 (gsC (gN 2) (gsC (gN 3) gsN))) fYes (f2 ltW (fV 2) (fV 3)) [a, b, c, d] (zipD xs xs.tail) = some (((numsD xs).zip (numsD xs).tail).map fun p => .bool (decide (p.1 < p.2))) := fun a b c d => by
                have e : zipD xs xs.tail = ((numsD xs).zip (numsD xs).tail).map fun p => .d (.tuple [.int p.1, .int p.2]) := by
                  rw [← zipD_map, List.map_tail, ← hns]
                rw [e]
                exact lcF_over _ fun x _ => ⟨_, rfl, rfl, rfl⟩
              have B2 := blsOf_map (((numsD xs).zip (numsD xs).tail).map fun p => decide (p.1 < p.2))
              rw [List.map_map] at B2
              have B2' : blsOf (((numsD xs).zip (numsD xs).tail).map fun p => .bool (decide (p.1 < p.2))) = _ := B2
              have hcut : PD.cutD xs (some 1) none = xs.tail := by rw [← List.drop_one]; exact cut_from xs 1
              have hc4 : xs.length ≤ 100001 := by omega
              simp [seqF, nxF, ifF, setF, setN, retF, retNF, f1, f2, f3, fV, fC, fB, isB, fAnd, fOr, fNot, fIf, fAndV, fOrV, fNotV, fNil, fCons, fA, fAN, fTup, fLst, fDs, datas, startR, retD, retL, List.set_cons_zero, List.set_cons_succ, List.getElem?_cons_zero, List.getElem?_cons_succ, List.map_cons, List.map_nil, List.replicate, List.cons_append, List.nil_append, Option.bind_some, Option.bind_none, Option.map_some, Option.map_none, ↓reduceIte, gsC, gsN, gT, gN, fSeq, fRng, fYes, List.length_cons, List.length_nil, Nat.add_one_sub_one, Nat.sub_zero, Nat.sub_self, Nat.zero_add, Nat.reduceAdd, Nat.reduceSub, ev_sub, ev_mul, ev_div, ev_mod, ev_pow, ev_neg, ev_add, ev_addL, ev_addT, ev_lt, ev_le, ev_gt, ev_ge, ev_eq, ev_ne, ev_eqT, ev_neT, ev_isi, ev_lenL, ev_lenT, ev_listL, ev_listT, ev_tupL, ev_tupT, ev_ixL, ev_ixT, ev_back, ev_backL, ev_all, ev_lst, ev_tup, ev_typ, ev_sort, fzR, fSlT, fSlL, fEnd, fNo, fSorS, fXorS, fSet, f1N, fIsi2, sh_int, sh_bool, sh_none, eqv_int, eqv_bool, eqv_none, isi_list, isi_tuple, isi_bool, isi_int, lentB, lentD, lentN, lent, flatD, appF, clrF, loopF, tyN, (by decide : metaB "tuple" = true), hc1, hc2, hc3, fLc, tupW, wipeR, L1, B1, hk, zipW, hcut, zip_len, L2, hc4, B2', allW, List.length_drop]
              simp [pieceB, hk, h1, h2, ris_zip]
            | false =>
              simp [seqF, nxF, ifF, setF, setN, retF, retNF, f1, f2, f3, fV, fC, fB, isB, fAnd, fOr, fNot, fIf, fAndV, fOrV, fNotV, fNil, fCons, fA, fAN, fTup, fLst, fDs, datas, startR, retD, retL, List.set_cons_zero, List.set_cons_succ, List.getElem?_cons_zero, List.getElem?_cons_succ, List.map_cons, List.map_nil, List.replicate, List.cons_append, List.nil_append, Option.bind_some, Option.bind_none, Option.map_some, Option.map_none, ↓reduceIte, gsC, gsN, gT, gN, fSeq, fRng, fYes, List.length_cons, List.length_nil, Nat.add_one_sub_one, Nat.sub_zero, Nat.sub_self, Nat.zero_add, Nat.reduceAdd, Nat.reduceSub, ev_sub, ev_mul, ev_div, ev_mod, ev_pow, ev_neg, ev_add, ev_addL, ev_addT, ev_lt, ev_le, ev_gt, ev_ge, ev_eq, ev_ne, ev_eqT, ev_neT, ev_isi, ev_lenL, ev_lenT, ev_listL, ev_listT, ev_tupL, ev_tupT, ev_ixL, ev_ixT, ev_back, ev_backL, ev_all, ev_lst, ev_tup, ev_typ, ev_sort, fzR, fSlT, fSlL, fEnd, fNo, fSorS, fXorS, fSet, f1N, fIsi2, sh_int, sh_bool, sh_none, eqv_int, eqv_bool, eqv_none, isi_list, isi_tuple, isi_bool, isi_int, lentB, lentD, lentN, lent, flatD, appF, clrF, loopF, tyN, (by decide : metaB "tuple" = true), hc1, hc2, hc3, fLc, tupW, wipeR, L1, B1, hk, pieceB]
          · have hc1 : (1 : Int) ≤ xs.length := by omega
            have hc2 : ¬ (xs.length : Int) ≤ 4 := by omega
            simp [seqF, nxF, ifF, setF, setN, retF, retNF, f1, f2, f3, fV, fC, fB, isB, fAnd, fOr, fNot, fIf, fAndV, fOrV, fNotV, fNil, fCons, fA, fAN, fTup, fLst, fDs, datas, startR, retD, retL, List.set_cons_zero, List.set_cons_succ, List.getElem?_cons_zero, List.getElem?_cons_succ, List.map_cons, List.map_nil, List.replicate, List.cons_append, List.nil_append, Option.bind_some, Option.bind_none, Option.map_some, Option.map_none, ↓reduceIte, gsC, gsN, gT, gN, fSeq, fRng, fYes, List.length_cons, List.length_nil, Nat.add_one_sub_one, Nat.sub_zero, Nat.sub_self, Nat.zero_add, Nat.reduceAdd, Nat.reduceSub, ev_sub, ev_mul, ev_div, ev_mod, ev_pow, ev_neg, ev_add, ev_addL, ev_addT, ev_lt, ev_le, ev_gt, ev_ge, ev_eq, ev_ne, ev_eqT, ev_neT, ev_isi, ev_lenL, ev_lenT, ev_listL, ev_listT, ev_tupL, ev_tupT, ev_ixL, ev_ixT, ev_back, ev_backL, ev_all, ev_lst, ev_tup, ev_typ, ev_sort, fzR, fSlT, fSlL, fEnd, fNo, fSorS, fXorS, fSet, f1N, fIsi2, sh_int, sh_bool, sh_none, eqv_int, eqv_bool, eqv_none, isi_list, isi_tuple, isi_bool, isi_int, lentB, lentD, lentN, lent, flatD, appF, clrF, loopF, tyN, (by decide : metaB "tuple" = true), hc1, hc2, h2, pieceB]
        · have hc1 : ¬ (1 : Int) ≤ xs.length := by omega
          simp [seqF, nxF, ifF, setF, setN, retF, retNF, f1, f2, f3, fV, fC, fB, isB, fAnd, fOr, fNot, fIf, fAndV, fOrV, fNotV, fNil, fCons, fA, fAN, fTup, fLst, fDs, datas, startR, retD, retL, List.set_cons_zero, List.set_cons_succ, List.getElem?_cons_zero, List.getElem?_cons_succ, List.map_cons, List.map_nil, List.replicate, List.cons_append, List.nil_append, Option.bind_some, Option.bind_none, Option.map_some, Option.map_none, ↓reduceIte, gsC, gsN, gT, gN, fSeq, fRng, fYes, List.length_cons, List.length_nil, Nat.add_one_sub_one, Nat.sub_zero, Nat.sub_self, Nat.zero_add, Nat.reduceAdd, Nat.reduceSub, ev_sub, ev_mul, ev_div, ev_mod, ev_pow, ev_neg, ev_add, ev_addL, ev_addT, ev_lt, ev_le, ev_gt, ev_ge, ev_eq, ev_ne, ev_eqT, ev_neT, ev_isi, ev_lenL, ev_lenT, ev_listL, ev_listT, ev_tupL, ev_tupT, ev_ixL, ev_ixT, ev_back, ev_backL, ev_all, ev_lst, ev_tup, ev_typ, ev_sort, fzR, fSlT, fSlL, fEnd, fNo, fSorS, fXorS, fSet, f1N, fIsi2, sh_int, sh_bool, sh_none, eqv_int, eqv_bool, eqv_none, isi_list, isi_tuple, isi_bool, isi_int, lentB, lentD, lentN, lent, flatD, appF, clrF, loopF, tyN, (by decide : metaB "tuple" = true), hc1, h1, pieceB]
      · have e : pieceB x = false := by cases x <;> simp_all [tyN, pieceB]
        simp [seqF, nxF, ifF, setF, setN, retF, retNF, f1, f2, f3, fV, fC, fB, isB, fAnd, fOr, fNot, fIf, fAndV, fOrV, fNotV, fNil, fCons, fA, fAN, fTup, fLst, fDs, datas, startR, retD, retL, List.set_cons_zero, List.set_cons_succ, List.getElem?_cons_zero, List.getElem?_cons_succ, List.map_cons, List.map_nil, List.replicate, List.cons_append, List.nil_append, Option.bind_some, Option.bind_none, Option.map_some, Option.map_none, ↓reduceIte, gsC, gsN, gT, gN, fSeq, fRng, fYes, List.length_cons, List.length_nil, Nat.add_one_sub_one, Nat.sub_zero, Nat.sub_self, Nat.zero_add, Nat.reduceAdd, Nat.reduceSub, ev_sub, ev_mul, ev_div, ev_mod, ev_pow, ev_neg, ev_add, ev_addL, ev_addT, ev_lt, ev_le, ev_gt, ev_ge, ev_eq, ev_ne, ev_eqT, ev_neT, ev_isi, ev_lenL, ev_lenT, ev_listL, ev_listT, ev_tupL, ev_tupT, ev_ixL, ev_ixT, ev_back, ev_backL, ev_all, ev_lst, ev_tup, ev_typ, ev_sort, fzR, fSlT, fSlL, fEnd, fNo, fSorS, fXorS, fSet, f1N, fIsi2, sh_int, sh_bool, sh_none, eqv_int, eqv_bool, eqv_none, isi_list, isi_tuple, isi_bool, isi_int, lentB, lentD, lentN, lent, flatD, appF, clrF, loopF, meta_tyN, (by decide : metaB "tuple" = true), ht, e]
    · cases h
theorem ok_sides (T : Txt mg) (A : Stands K mg "sides" s_sides ["piece"]) : Keeps P w K mg base "sides" ["piece"] 1 (spN K gSides) := by
  refine A.keepsN (k := 0) sc_sides (by decide) (fun ws w h => ?h1) ⟨_, fun f cdv A outer s H E hr => (pc_cons (pc_if (pb_eq (hr.units) (pd_len (by rfl) T.z_len (pl_cons (pd_var 0) pl_nil)) pd_int) (pc_one (pc_retN (pn_lst pl_nil))) pc_nil)
    (pc_one (pc_retN (pn_lc [("at", 1)] (by rfl) sc_sides.nd (pw_rrg (by rfl) T.z_reversed (by rfl) T.z_range (pd_len (by rfl) T.z_len (pl_cons (pd_var 0) pl_nil))) (blkOk_by (N := ["piece", "at"]) (sc := defScope s_sides) (by decide +kernel)) (fun _ _ _ _ _ => (pgd_name 1 sc_sides.nd)) (fun _ _ _ _ _ => pbs_nil) (fun _ _ _ _ _ => (pd_add (pd_slT (pd_var 0) pend_no (pend_some (pd_var 1))) (pd_slT (pd_var 0) (pend_some (pd_add (pd_var 1) pd_int)) pend_no))))))), fun ws w h => ?h3⟩
  case h1 => unfold gSides at h; split at h <;> first | rfl | cases h
  case h3 =>
    unfold gSides at h; split at h
    · rename_i xs
      split at h
      · rename_i hz
        cases h
        have L1 : ∀ b, lcF (gN 1) fYes (f2 addW (fSlT (fV 0) fNo (fEnd (fV 1))) (fSlT (fV 0) (fEnd (f2 addW (fV 1) (fC (W.d (PyData.int 1))))) fNo)) [.w (.d (.tuple xs)), b] (rrgW xs.length) = some ((List.range xs.length).map fun k => .tuple (xs.eraseIdx (xs.length - 1 - k))) := fun b => by
          refine lcF_over _ fun k hk => ⟨_, rfl, rfl, ?_⟩
          have hk2 := List.mem_range.mp hk
          have e1 : ((xs.length : Int) - 1 - (k : Int)) = ((xs.length - 1 - k : Nat) : Int) := by omega
          have e2 : ((xs.length - 1 - k : Nat) : Int) + 1 = ((xs.length - 1 - k + 1 : Nat) : Int) := by omega
          have e3 : xs.take (xs.length - 1 - k) ++ xs.drop (xs.length - 1 - k + 1) = xs.eraseIdx (xs.length - 1 - k) := (List.eraseIdx_eq_take_drop_succ _ _).symm
          have e4 : (xs.take (xs.length - 1 - k)).length + (xs.drop (xs.length - 1 - k + 1)).length ≤ 100000 := by rw [List.length_take, List.length_drop]; omega
          simp only [seqF, nxF, ifF, setF, setN, retF, retNF, f1, f2, f3, fV, fC, fB, isB, fAnd, fOr, fNot, fIf, fAndV, fOrV, fNotV, fNil, fCons, fA, fAN, fTup, fLst, fDs, datas, startR, retD, retL, List.set_cons_zero, List.set_cons_succ, List.getElem?_cons_zero, List.getElem?_cons_succ, List.map_cons, List.map_nil, List.replicate, List.cons_append, List.nil_append, Option.bind_some, Option.bind_none, Option.map_some, Option.map_none, ↓reduceIte, gsC, gsN, gT, gN, fSeq, fRng, fYes, List.length_cons, List.length_nil, Nat.add_one_sub_one, Nat.sub_zero, Nat.sub_self, Nat.zero_add, Nat.reduceAdd, Nat.reduceSub, ev_sub, ev_mul, ev_div, ev_mod, ev_pow, ev_neg, ev_add, ev_addL, ev_addT, ev_lt, ev_le, ev_gt, ev_ge, ev_eq, ev_ne, ev_eqT, ev_neT, ev_isi, ev_lenL, ev_lenT, ev_listL, ev_listT, ev_tupL, ev_tupT, ev_ixL, ev_ixT, ev_back, ev_backL, ev_all, ev_lst, ev_tup, ev_typ, ev_sort, fzR, fSlT, fSlL, fEnd, fNo, fSorS, fXorS, fSet, f1N, fIsi2, sh_int, sh_bool, sh_none, eqv_int, eqv_bool, eqv_none, isi_list, isi_tuple, isi_bool, isi_int, lentB, lentD, lentN, lent, flatD, appF, clrF, loopF, e1, e2, cut_to, cut_from, e4, e3]
        by_cases h1 : xs.length = 1
        · simp [seqF, nxF, ifF, setF, setN, retF, retNF, f1, f2, f3, fV, fC, fB, isB, fAnd, fOr, fNot, fIf, fAndV, fOrV, fNotV, fNil, fCons, fA, fAN, fTup, fLst, fDs, datas, startR, retD, retL, List.set_cons_zero, List.set_cons_succ, List.getElem?_cons_zero, List.getElem?_cons_succ, List.map_cons, List.map_nil, List.replicate, List.cons_append, List.nil_append, Option.bind_some, Option.bind_none, Option.map_some, Option.map_none, ↓reduceIte, gsC, gsN, gT, gN, fSeq, fRng, fYes, List.length_cons, List.length_nil, Nat.add_one_sub_one, Nat.sub_zero, Nat.sub_self, Nat.zero_add, Nat.reduceAdd, Nat.reduceSub, ev_sub, ev_mul, ev_div, ev_mod, ev_pow, ev_neg, ev_add, ev_addL, ev_addT, ev_lt, ev_le, ev_gt, ev_ge, ev_eq, ev_ne, ev_eqT, ev_neT, ev_isi, ev_lenL, ev_lenT, ev_listL, ev_listT, ev_tupL, ev_tupT, ev_ixL, ev_ixT, ev_back, ev_backL, ev_all, ev_lst, ev_tup, ev_typ, ev_sort, fzR, fSlT, fSlL, fEnd, fNo, fSorS, fXorS, fSet, f1N, fIsi2, sh_int, sh_bool, sh_none, eqv_int, eqv_bool, eqv_none, isi_list, isi_tuple, isi_bool, isi_int, lentB, lentD, lentN, lent, flatD, appF, clrF, loopF, sh_int, eqv_int, h1, sidesD]
        · have h2 : ¬ ((xs.length : Int) = 1) := by omega
          have R1 : ∀ b, fRrg (fA lenW (fCons (fV 0) fNil)) [.w (.d (.tuple xs)), b] = some (rrgW xs.length) := fun b => fRrg_ok rfl (by omega)
          have h5 : (rrgW xs.length).length ≤ 100000 := by unfold rrgW; rw [List.length_map, List.length_range]; omega
          have L2 : ∀ b, fLc [1] (fRrg (fA lenW (fCons (fV 0) fNil))) (gN 1) fYes (f2 addW (fSlT (fV 0) fNo (fEnd (fV 1))) (fSlT (fV 0) (fEnd (f2 addW (fV 1) (fC (W.d (PyData.int 1))))) fNo)) [.w (.d (.tuple xs)), b] = some (sidesD xs) := fun b => by
            unfold sidesD
            rw [if_neg h1]
            exact fLc_ok (R1 b) h5 (L1 _)
          simp [seqF, nxF, ifF, setF, setN, retF, retNF, f1, f2, f3, fV, fC, fB, isB, fAnd, fOr, fNot, fIf, fAndV, fOrV, fNotV, fNil, fCons, fA, fAN, fTup, fLst, fDs, datas, startR, retD, retL, List.set_cons_zero, List.set_cons_succ, List.getElem?_cons_zero, List.getElem?_cons_succ, List.map_cons, List.map_nil, List.replicate, List.cons_append, List.nil_append, Option.bind_some, Option.bind_none, Option.map_some, Option.map_none, ↓reduceIte, gsC, gsN, gT, gN, fSeq, fRng, fYes, List.length_cons, List.length_nil, Nat.add_one_sub_one, Nat.sub_zero, Nat.sub_self, Nat.zero_add, Nat.reduceAdd, Nat.reduceSub, ev_sub, ev_mul, ev_div, ev_mod, ev_pow, ev_neg, ev_add, ev_addL, ev_addT, ev_lt, ev_le, ev_gt, ev_ge, ev_eq, ev_ne, ev_eqT, ev_neT, ev_isi, ev_lenL, ev_lenT, ev_listL, ev_listT, ev_tupL, ev_tupT, ev_ixL, ev_ixT, ev_back, ev_backL, ev_all, ev_lst, ev_tup, ev_typ, ev_sort, fzR, fSlT, fSlL, fEnd, fNo, fSorS, fXorS, fSet, f1N, fIsi2, sh_int, sh_bool, sh_none, eqv_int, eqv_bool, eqv_none, isi_list, isi_tuple, isi_bool, isi_int, lentB, lentD, lentN, lent, flatD, appF, clrF, loopF, sh_int, eqv_int, h2, L2]
      · cases h
    · cases h
theorem ok_added (T : Txt mg) (A : Stands K mg "added" s_added ["one", "other"]) : Keeps P w K mg base "added" ["one", "other"] 1 (spN K gAdded) := by
  refine A.keepsN (k := 0) sc_added (by decide) (fun ws w h => ?h1) ⟨_, fun f cdv A outer s H E hr => (pc_one (pc_retN (pn_sortS (by rfl) (by rfl) T.z_sorted (by decide +kernel) (pz_xor (pz_set (by rfl) (by rfl) T.z_set (by decide +kernel) (pd_var 0)) (pz_set (by rfl) (by rfl) T.z_set (by decide +kernel) (pd_var 1)))))), fun ws w h => ?h3⟩
  case h1 => unfold gAdded at h; split at h <;> first | rfl | cases h
  case h3 =>
    unfold gAdded at h; split at h
    · rename_i a b
      cases ea : numsOf a with
      | none => rw [ea] at h; cases h
      | some x =>
        cases eb : numsOf b with
        | none => rw [ea, eb] at h; cases h
        | some y =>
          rw [ea, eb] at h
          simp only [Option.bind_some] at h
          cases ex : xorN x y with
          | none => rw [ex] at h; cases h
          | some z =>
            rw [ex] at h
            simp only [Option.map_some] at h
            simp [seqF, nxF, ifF, setF, setN, retF, retNF, f1, f2, f3, fV, fC, fB, isB, fAnd, fOr, fNot, fIf, fAndV, fOrV, fNotV, fNil, fCons, fA, fAN, fTup, fLst, fDs, datas, startR, retD, retL, List.set_cons_zero, List.set_cons_succ, List.getElem?_cons_zero, List.getElem?_cons_succ, List.map_cons, List.map_nil, List.replicate, List.cons_append, List.nil_append, Option.bind_some, Option.bind_none, Option.map_some, Option.map_none, ↓reduceIte, gsC, gsN, gT, gN, fSeq, fRng, fYes, List.length_cons, List.length_nil, Nat.add_one_sub_one, Nat.sub_zero, Nat.sub_self, Nat.zero_add, Nat.reduceAdd, Nat.reduceSub, ev_sub, ev_mul, ev_div, ev_mod, ev_pow, ev_neg, ev_add, ev_addL, ev_addT, ev_lt, ev_le, ev_gt, ev_ge, ev_eq, ev_ne, ev_eqT, ev_neT, ev_isi, ev_lenL, ev_lenT, ev_listL, ev_listT, ev_tupL, ev_tupT, ev_ixL, ev_ixT, ev_back, ev_backL, ev_all, ev_lst, ev_tup, ev_typ, ev_sort, fzR, fSlT, fSlL, fEnd, fNo, fSorS, fXorS, fSet, f1N, fIsi2, sh_int, sh_bool, sh_none, eqv_int, eqv_bool, eqv_none, isi_list, isi_tuple, isi_bool, isi_int, lentB, lentD, lentN, lent, flatD, appF, clrF, loopF, ea, eb, ex]
            exact Option.some.inj h
    · cases h
theorem ok_mixed (T : Txt mg) (A : Stands K mg "_law_mixed" s__law_mixed ["_law_cell", "_law_k"]) : Keeps P w K mg base "_law_mixed" ["_law_cell", "_law_k"] 1 (spD K gMixed) := by
  refine A.keepsD (k := 0) sc__law_mixed (by decide) (fun ws w h => ?h1) ⟨_, fun f cdv A outer s H E hr => (pc_cons (pc_set 2 (pd_add (pd_add (pd_mod (pd_var 0) (pd_pow pd_int pd_int)) (pd_mul pd_int (pd_var 1))) pd_int) sc__law_mixed.nd)
    (pc_one (pc_ret (pd_div (pd_mod (pd_mul (pd_mod (pd_mul (pd_var 2) (pd_var 2)) pd_int) pd_int) pd_int) pd_int)))), fun ws w h => ?h3⟩
  case h1 => unfold gMixed at h; split at h <;> first | rfl | cases h
  case h3 =>
    unfold gMixed at h; split at h
    · rename_i c k
      split at h
      · rename_i hk
        cases h
        have b1 : Bt 20 k := by unfold Bt; omega
        have b2 : Bt 13 7919 := by unfold Bt; decide
        have b3 : Bt 100 (c % 1000000000000000000000000000000) := by
          have h1 := Int.emod_nonneg c (by decide : (1000000000000000000000000000000 : Int) ≠ 0)
          have h2 := Int.emod_lt_of_pos c (by decide : (0 : Int) < 1000000000000000000000000000000)
          unfold Bt; omega
        have b4 : Bt 4 13 := by unfold Bt; decide
        have b5 := (b3.add (b2.mul b1)).add b4
        have m1 : cMul 7919 k = true := cMul_bt b2 b1 (by decide)
        have m2 := cMul_bt b5 b5 (by decide)
        have m3 : ∀ z : Int, cMul (z % 1000000007) 48271 = true := fun z => by
          have h1 := Int.emod_nonneg z (by decide : (1000000007 : Int) ≠ 0)
          have h2 := Int.emod_lt_of_pos z (by decide : (0 : Int) < 1000000007)
          exact cMul_bt (p := 30) (q := 16) (by unfold Bt; omega) (by unfold Bt; decide) (by decide)
        simp [seqF, nxF, ifF, setF, setN, retF, retNF, f1, f2, f3, fV, fC, fB, isB, fAnd, fOr, fNot, fIf, fAndV, fOrV, fNotV, fNil, fCons, fA, fAN, fTup, fLst, fDs, datas, startR, retD, retL, List.set_cons_zero, List.set_cons_succ, List.getElem?_cons_zero, List.getElem?_cons_succ, List.map_cons, List.map_nil, List.replicate, List.cons_append, List.nil_append, Option.bind_some, Option.bind_none, Option.map_some, Option.map_none, ↓reduceIte, gsC, gsN, gT, gN, fSeq, fRng, fYes, List.length_cons, List.length_nil, Nat.add_one_sub_one, Nat.sub_zero, Nat.sub_self, Nat.zero_add, Nat.reduceAdd, Nat.reduceSub, ev_sub, ev_mul, ev_div, ev_mod, ev_pow, ev_neg, ev_add, ev_addL, ev_addT, ev_lt, ev_le, ev_gt, ev_ge, ev_eq, ev_ne, ev_eqT, ev_neT, ev_isi, ev_lenL, ev_lenT, ev_listL, ev_listT, ev_tupL, ev_tupT, ev_ixL, ev_ixT, ev_back, ev_backL, ev_all, ev_lst, ev_tup, ev_typ, ev_sort, fzR, fSlT, fSlL, fEnd, fNo, fSorS, fXorS, fSet, f1N, fIsi2, sh_int, sh_bool, sh_none, eqv_int, eqv_bool, eqv_none, isi_list, isi_tuple, isi_bool, isi_int, lentB, lentD, lentN, lent, flatD, appF, clrF, loopF, cPowP, cModP, m1, m2, m3, cDivP, mixN, lg11]
      · cases h
    · cases h
theorem ok_alike0 (A : Stands K mg "_law_alike" s__law_alike ["_law_found", "_law_due"]) : Keeps P w K mg base "_law_alike" ["_law_found", "_law_due"] 1 (spD K (gAlike 0)) :=
  A.never sc__law_alike fun ws w h => by
    obtain ⟨x, _, h2, _⟩ := gAlike_inv h
    cases x <;> cases h2
theorem ok_alike (T : Txt mg) (A : Stands K mg "_law_alike" s__law_alike ["_law_found", "_law_due"]) (n : Nat) (O__law_alike : Keeps P w K mg base "_law_alike" ["_law_found", "_law_due"] (k + 1) (spD K (gAlike n))) : Keeps P w K mg base "_law_alike" ["_law_found", "_law_due"] (k + 2) (spD K (gAlike (n + 1))) := by
  refine A.keepsD (k := k + 1) sc__law_alike (by decide) (fun ws w h => ?h1) ⟨_, fun f cdv A outer s H E hr => (pc_cons (pc_if (pb_val (pd_isi2 (m' := "tuple") (n' := "list") (by rfl) T.z_isinstance (pd_var 1) (by rfl) T.z_tuple (by decide +kernel) (by rfl) T.z_list (by decide +kernel))) (pc_cons (pc_if (pb_w (pwb_or (pb_ne (hr.units) (pd_isi (by rfl) T.z_isinstance (pl_cons (pd_var 0) (pl_cons (pd_ty (n := "list") (by rfl) T.z_list (by decide +kernel)) pl_nil))) (pd_isi (by rfl) T.z_isinstance (pl_cons (pd_var 1) (pl_cons (pd_ty (n := "list") (by rfl) T.z_list (by decide +kernel)) pl_nil)))) (pwb_or1 (pb_not (pb_val (pd_isi2 (m' := "tuple") (n' := "list") (by rfl) T.z_isinstance (pd_var 0) (by rfl) T.z_tuple (by decide +kernel) (by rfl) T.z_list (by decide +kernel))))))) (pc_one (pc_ret pd_bl)) pc_nil)
    (pc_one (pc_ret (pd_andV (pd_eq (hr.units) (pd_len (by rfl) T.z_len (pl_cons (pd_var 0) pl_nil)) (pd_len (by rfl) T.z_len (pl_cons (pd_var 1) pl_nil))) (pd_oneV (pd_all (by rfl) (by rfl) T.z_all (pl_cons (pd_n (pn_lc [("_law_one", 2), ("_law_other", 3)] (by rfl) sc__law_alike.nd (pw_zip (by rfl) T.z_zip (pl_cons (pd_var 0) (pl_cons (pd_var 1) pl_nil))) (blkOk_by (N := ["_law_found", "_law_due", "_law_one", "_law_other"]) (sc := defScope s__law_alike) (by decide +kernel)) (fun _ _ _ _ _ => (pgd_tup (n := 2) (by rfl) (pgds_cons (pgd_name 2 sc__law_alike.nd) (pgds_cons (pgd_name 3 sc__law_alike.nd) pgds_nil)))) (fun _ _ _ _ _ => pbs_nil) (fun _ _ _ _ _ => (pd_go O__law_alike (hr.mono (by first | decide | omega)) (by rfl) (pl_cons (pd_var 2) (pl_cons (pd_var 3) pl_nil)))))) pl_nil))))))) pc_nil)
    (pc_one (pc_ret (pd_andV (pd_eq (hr.units) (pd_isi (by rfl) T.z_isinstance (pl_cons (pd_var 0) (pl_cons (pd_ty (n := "bool") (by rfl) T.z_bool (by decide +kernel)) pl_nil))) (pd_isi (by rfl) T.z_isinstance (pl_cons (pd_var 1) (pl_cons (pd_ty (n := "bool") (by rfl) T.z_bool (by decide +kernel)) pl_nil)))) (pd_oneV (pd_eq (hr.units) (pd_var 0) (pd_var 1))))))), fun ws w h => ?h3⟩
  case h1 =>
    obtain ⟨x, rfl, _, _⟩ := gAlike_inv h
    rfl
  case h3 =>
    obtain ⟨x, rfl, hx, rfl⟩ := gAlike_inv h
    have seq : ∀ (xs : List PyData), xs.all (okd n) = true → ∀ a b c d, lcF (gT 2 (gsC (gN 2) (gsC (gN 3) gsN))) fYes (fA (gAlike n) (fCons (fV 2) (fCons (fV 3) fNil))) [a, b, c, d] (zipD xs xs) = some (xs.map fun _ => .bool true) := fun xs ha a b c d => by
      have e : zipD xs xs = xs.map fun x => .d (.tuple [x, x]) := by
        rw [zipD_eq]
        rw [zip_self, List.map_map]
        rfl
      rw [e]
      refine lcF_over _ fun x hm => ⟨_, rfl, rfl, ?_⟩
      exact gAlike_ok (List.all_eq_true.mp ha x hm)
    have bls : ∀ xs : List PyData, blsOf (xs.map fun _ => .bool true) = some (xs.map fun _ => true) := fun xs => by
      have q := blsOf_map (xs.map fun _ => true)
      rw [List.map_map] at q
      exact q
    cases x with
    | none => simp [seqF, nxF, ifF, setF, setN, retF, retNF, f1, f2, f3, fV, fC, fB, isB, fAnd, fOr, fNot, fIf, fAndV, fOrV, fNotV, fNil, fCons, fA, fAN, fTup, fLst, fDs, datas, startR, retD, retL, List.set_cons_zero, List.set_cons_succ, List.getElem?_cons_zero, List.getElem?_cons_succ, List.map_cons, List.map_nil, List.replicate, List.cons_append, List.nil_append, Option.bind_some, Option.bind_none, Option.map_some, Option.map_none, ↓reduceIte, gsC, gsN, gT, gN, fSeq, fRng, fYes, List.length_cons, List.length_nil, Nat.add_one_sub_one, Nat.sub_zero, Nat.sub_self, Nat.zero_add, Nat.reduceAdd, Nat.reduceSub, ev_sub, ev_mul, ev_div, ev_mod, ev_pow, ev_neg, ev_add, ev_addL, ev_addT, ev_lt, ev_le, ev_gt, ev_ge, ev_eq, ev_ne, ev_eqT, ev_neT, ev_isi, ev_lenL, ev_lenT, ev_listL, ev_listT, ev_tupL, ev_tupT, ev_ixL, ev_ixT, ev_back, ev_backL, ev_all, ev_lst, ev_tup, ev_typ, ev_sort, fzR, fSlT, fSlL, fEnd, fNo, fSorS, fXorS, fSet, f1N, fIsi2, sh_int, sh_bool, sh_none, eqv_int, eqv_bool, eqv_none, isi_list, isi_tuple, isi_bool, isi_int, lentB, lentD, lentN, lent, flatD, appF, clrF, loopF, isi_tuple, isi_list, isi_bool, isTup, isLst, isBool, sh_bool, eqv_bool, sh_none, eqv_none]
    | bool b => simp [seqF, nxF, ifF, setF, setN, retF, retNF, f1, f2, f3, fV, fC, fB, isB, fAnd, fOr, fNot, fIf, fAndV, fOrV, fNotV, fNil, fCons, fA, fAN, fTup, fLst, fDs, datas, startR, retD, retL, List.set_cons_zero, List.set_cons_succ, List.getElem?_cons_zero, List.getElem?_cons_succ, List.map_cons, List.map_nil, List.replicate, List.cons_append, List.nil_append, Option.bind_some, Option.bind_none, Option.map_some, Option.map_none, ↓reduceIte, gsC, gsN, gT, gN, fSeq, fRng, fYes, List.length_cons, List.length_nil, Nat.add_one_sub_one, Nat.sub_zero, Nat.sub_self, Nat.zero_add, Nat.reduceAdd, Nat.reduceSub, ev_sub, ev_mul, ev_div, ev_mod, ev_pow, ev_neg, ev_add, ev_addL, ev_addT, ev_lt, ev_le, ev_gt, ev_ge, ev_eq, ev_ne, ev_eqT, ev_neT, ev_isi, ev_lenL, ev_lenT, ev_listL, ev_listT, ev_tupL, ev_tupT, ev_ixL, ev_ixT, ev_back, ev_backL, ev_all, ev_lst, ev_tup, ev_typ, ev_sort, fzR, fSlT, fSlL, fEnd, fNo, fSorS, fXorS, fSet, f1N, fIsi2, sh_int, sh_bool, sh_none, eqv_int, eqv_bool, eqv_none, isi_list, isi_tuple, isi_bool, isi_int, lentB, lentD, lentN, lent, flatD, appF, clrF, loopF, isi_tuple, isi_list, isi_bool, isTup, isLst, isBool, sh_bool, eqv_bool]
    | int i => simp [seqF, nxF, ifF, setF, setN, retF, retNF, f1, f2, f3, fV, fC, fB, isB, fAnd, fOr, fNot, fIf, fAndV, fOrV, fNotV, fNil, fCons, fA, fAN, fTup, fLst, fDs, datas, startR, retD, retL, List.set_cons_zero, List.set_cons_succ, List.getElem?_cons_zero, List.getElem?_cons_succ, List.map_cons, List.map_nil, List.replicate, List.cons_append, List.nil_append, Option.bind_some, Option.bind_none, Option.map_some, Option.map_none, ↓reduceIte, gsC, gsN, gT, gN, fSeq, fRng, fYes, List.length_cons, List.length_nil, Nat.add_one_sub_one, Nat.sub_zero, Nat.sub_self, Nat.zero_add, Nat.reduceAdd, Nat.reduceSub, ev_sub, ev_mul, ev_div, ev_mod, ev_pow, ev_neg, ev_add, ev_addL, ev_addT, ev_lt, ev_le, ev_gt, ev_ge, ev_eq, ev_ne, ev_eqT, ev_neT, ev_isi, ev_lenL, ev_lenT, ev_listL, ev_listT, ev_tupL, ev_tupT, ev_ixL, ev_ixT, ev_back, ev_backL, ev_all, ev_lst, ev_tup, ev_typ, ev_sort, fzR, fSlT, fSlL, fEnd, fNo, fSorS, fXorS, fSet, f1N, fIsi2, sh_int, sh_bool, sh_none, eqv_int, eqv_bool, eqv_none, isi_list, isi_tuple, isi_bool, isi_int, lentB, lentD, lentN, lent, flatD, appF, clrF, loopF, isi_tuple, isi_list, isi_bool, isTup, isLst, isBool, sh_bool, eqv_bool, sh_int, eqv_int]
    | list xs =>
      unfold okd at hx
      rw [Bool.and_eq_true, decide_eq_true_eq] at hx
      have hl : (zipD xs xs).length ≤ 100000 := by rw [zip_len]; omega
      have L2 : ∀ b c, fLc [2, 3] (fRng zipW (fCons (fV 0) (fCons (fV 1) fNil))) (gT 2 (gsC (gN 2) (gsC (gN 3) gsN))) fYes (fA (gAlike n) (fCons (fV 2) (fCons (fV 3) fNil))) [.w (.d (.list xs)), .w (.d (.list xs)), b, c] = some (xs.map fun _ => .bool true) := fun b c => fLc_ok rfl hl (seq xs hx.2 _ _ _ _)
      simp [seqF, nxF, ifF, setF, setN, retF, retNF, f1, f2, f3, fV, fC, fB, isB, fAnd, fOr, fNot, fIf, fAndV, fOrV, fNotV, fNil, fCons, fA, fAN, fTup, fLst, fDs, datas, startR, retD, retL, List.set_cons_zero, List.set_cons_succ, List.getElem?_cons_zero, List.getElem?_cons_succ, List.map_cons, List.map_nil, List.replicate, List.cons_append, List.nil_append, Option.bind_some, Option.bind_none, Option.map_some, Option.map_none, ↓reduceIte, gsC, gsN, gT, gN, fSeq, fRng, fYes, List.length_cons, List.length_nil, Nat.add_one_sub_one, Nat.sub_zero, Nat.sub_self, Nat.zero_add, Nat.reduceAdd, Nat.reduceSub, ev_sub, ev_mul, ev_div, ev_mod, ev_pow, ev_neg, ev_add, ev_addL, ev_addT, ev_lt, ev_le, ev_gt, ev_ge, ev_eq, ev_ne, ev_eqT, ev_neT, ev_isi, ev_lenL, ev_lenT, ev_listL, ev_listT, ev_tupL, ev_tupT, ev_ixL, ev_ixT, ev_back, ev_backL, ev_all, ev_lst, ev_tup, ev_typ, ev_sort, fzR, fSlT, fSlL, fEnd, fNo, fSorS, fXorS, fSet, f1N, fIsi2, sh_int, sh_bool, sh_none, eqv_int, eqv_bool, eqv_none, isi_list, isi_tuple, isi_bool, isi_int, lentB, lentD, lentN, lent, flatD, appF, clrF, loopF, isi_tuple, isi_list, isi_bool, isTup, isLst, isBool, sh_bool, eqv_bool, sh_int, eqv_int, L2, bls]
    | tuple xs =>
      unfold okd at hx
      rw [Bool.and_eq_true, decide_eq_true_eq] at hx
      have hl : (zipD xs xs).length ≤ 100000 := by rw [zip_len]; omega
      have L2 : ∀ b c, fLc [2, 3] (fRng zipW (fCons (fV 0) (fCons (fV 1) fNil))) (gT 2 (gsC (gN 2) (gsC (gN 3) gsN))) fYes (fA (gAlike n) (fCons (fV 2) (fCons (fV 3) fNil))) [.w (.d (.tuple xs)), .w (.d (.tuple xs)), b, c] = some (xs.map fun _ => .bool true) := fun b c => fLc_ok rfl hl (seq xs hx.2 _ _ _ _)
      simp [seqF, nxF, ifF, setF, setN, retF, retNF, f1, f2, f3, fV, fC, fB, isB, fAnd, fOr, fNot, fIf, fAndV, fOrV, fNotV, fNil, fCons, fA, fAN, fTup, fLst, fDs, datas, startR, retD, retL, List.set_cons_zero, List.set_cons_succ, List.getElem?_cons_zero, List.getElem?_cons_succ, List.map_cons, List.map_nil, List.replicate, List.cons_append, List.nil_append, Option.bind_some, Option.bind_none, Option.map_some, Option.map_none, ↓reduceIte, gsC, gsN, gT, gN, fSeq, fRng, fYes, List.length_cons, List.length_nil, Nat.add_one_sub_one, Nat.sub_zero, Nat.sub_self, Nat.zero_add, Nat.reduceAdd, Nat.reduceSub, ev_sub, ev_mul, ev_div, ev_mod, ev_pow, ev_neg, ev_add, ev_addL, ev_addT, ev_lt, ev_le, ev_gt, ev_ge, ev_eq, ev_ne, ev_eqT, ev_neT, ev_isi, ev_lenL, ev_lenT, ev_listL, ev_listT, ev_tupL, ev_tupT, ev_ixL, ev_ixT, ev_back, ev_backL, ev_all, ev_lst, ev_tup, ev_typ, ev_sort, fzR, fSlT, fSlL, fEnd, fNo, fSorS, fXorS, fSet, f1N, fIsi2, sh_int, sh_bool, sh_none, eqv_int, eqv_bool, eqv_none, isi_list, isi_tuple, isi_bool, isi_int, lentB, lentD, lentN, lent, flatD, appF, clrF, loopF, isi_tuple, isi_list, isi_bool, isTup, isLst, isBool, sh_bool, eqv_bool, sh_int, eqv_int, L2, bls]
    | str x => cases hx
    | dict x => cases hx
theorem ok_thing (T : Txt mg) (A : Stands K mg "_law_thing" s__law_thing ["_law_cell", "_law_k"]) (O__law_mixed : Keeps P w K mg base "_law_mixed" ["_law_cell", "_law_k"] 1 (spD K gMixed)) :
    ∃ Fm, Keeps P w K mg base "_law_thing" ["_law_cell", "_law_k"] 2 (spD K (outD 2 8 Fm)) ∧ ∀ c k : Int, c.natAbs.log2 ≤ 2000000 → 0 ≤ k → k ≤ 1000 → ∃ x, outD 2 8 Fm [.d (.int c), .d (.int k)] = some (.d x) := by
  refine A.keepsE (k := 1) sc__law_thing (by decide) ⟨_, fun f cdv A outer s H E hr => (pc_cons (pc_set 2 (pd_go O__law_mixed (hr.mono (by first | decide | omega)) (by rfl) (pl_cons (pd_var 0) (pl_cons (pd_var 1) pl_nil))) sc__law_thing.nd)
    (pc_cons (pc_set 3 (pd_ix (fun _ _ => rfl) (pd_n (pn_lst (pl_cons pd_int (pl_cons (pd_pow pd_int pd_int) (pl_cons (pd_add (pd_pow pd_int pd_int) pd_int) pl_nil))))) (pd_mod (pd_var 2) pd_int)) sc__law_thing.nd)
    (pc_cons (pc_setLc 4 [("_law_j", 5)] (by rfl) sc__law_thing.nd (pw_rng1 (by rfl) T.z_range (pl_cons (pd_add pd_int (pd_mod (pd_div (pd_var 2) pd_int) pd_int)) pl_nil)) (blkOk_by (N := ["_law_cell", "_law_k", "_law_number", "_law_wide", "_law_some", "_law_j", "_law_piece", "_law_odd_here"]) (sc := defScope s__law_thing) (by decide +kernel)) (fun _ _ _ _ _ => (pgd_name 5 sc__law_thing.nd)) (fun _ _ _ _ _ => pbs_nil) (fun _ _ _ _ _ => (pd_mod (pd_mul (pd_add (pd_add (pd_mul (pd_var 0) pd_int) (pd_mul (pd_var 5) (pd_pow pd_int pd_int))) (pd_var 2)) (pd_add (pd_var 5) pd_int)) (pd_var 3))))
    (pc_fz 4 (pc_cons (pc_set 6 (pd_tuple (by rfl) T.z_tuple (pl_cons (pd_n (pn_sortS (by rfl) (by rfl) T.z_sorted (by decide +kernel) (pz_set (by rfl) (by rfl) T.z_set (by decide +kernel) (pd_var 4)))) pl_nil)) sc__law_thing.nd)
    (pc_cons (pc_set 7 (pd_n (pn_lst (pl_cons (pd_add (pd_rev (pd_var 6)) (pd_slT (pd_var 6) pend_no (pend_some pd_int))) (pl_cons (pd_add (pd_var 6) (pd_slT (pd_var 6) (pend_some (pd_neg pd_int)) pend_no)) (pl_cons (pd_tupRg (by rfl) (by rfl) T.z_tuple (by rfl) T.z_range pd_int) (pl_cons (pd_tup pl_nil) (pl_cons (pd_add (pd_slT (pd_var 6) pend_no (pend_some (pd_neg pd_int))) (pd_tup (pl_cons (pd_add (pd_pow pd_int pd_int) pd_int) pl_nil))) pl_nil))))))) sc__law_thing.nd)
    (pc_cons (pc_set 7 (pd_add (pd_var 7) (pd_n (pn_lst (pl_cons (pd_add (pd_tup (pl_cons (pd_neg pd_int) pl_nil)) (pd_var 6)) (pl_cons (pd_add (pd_tup (pl_cons pd_bl pl_nil)) (pd_slT (pd_var 6) (pend_some pd_int) pend_no)) (pl_cons (pd_add (pd_slT (pd_var 6) pend_no (pend_some (pd_neg pd_int))) (pd_tup (pl_cons pd_str pl_nil))) (pl_cons pd_non (pl_cons (pd_n (pn_list (by rfl) T.z_list (pl_cons (pd_var 6) pl_nil))) (pl_cons (pd_add (pd_var 6) (pd_tup (pl_cons pd_non pl_nil))) (pl_cons pd_int (pl_cons pd_str pl_nil))))))))))) sc__law_thing.nd)
    (pc_cons (pc_if (pb_eq (hr.units) (pd_mod (pd_div (pd_var 2) pd_int) pd_int) pd_int) (pc_one (pc_ret (pd_var 6))) pc_nil)
    (pc_one (pc_ret (pd_ix (fun _ _ => rfl) (pd_var 7) (pd_mod (pd_div (pd_var 2) pd_int) pd_int)))))))))))), fun c k hc h0 hk => ?_⟩
  have hk2 : k.natAbs ≤ 1000000 := by omega
  generalize hm : mixN c k = m
  have m0 : 0 ≤ m := by rw [← hm]; exact mix_lo c k
  have m1 : m < 998244353 := by rw [← hm]; exact mix_hi c k
  have G : gMixed [.d (.int c), .d (.int k)] = some (.d (.int m)) := by rw [← hm]; exact if_pos hk2
  obtain ⟨wd, w0, hw⟩ : ∃ wd : Int, 0 < wd ∧ atI [PyData.int 9, PyData.int 1000000, PyData.int 1000000000000000000000000000000000000000000000000000000000001] (m % 3) = some (.int wd) := by
    have h3 : m % 3 = 0 ∨ m % 3 = 1 ∨ m % 3 = 2 := by omega
    rcases h3 with h3 | h3 | h3 <;> rw [h3]
    · exact ⟨9, by decide, rfl⟩
    · exact ⟨1000000, by decide, rfl⟩
    · exact ⟨_, by decide, rfl⟩
  have bc := Bt.of c
  have bm : Bt 30 m := by unfold Bt; omega
  have b1 : Bt 16 48271 := by unfold Bt; decide
  have b2 : Bt 200 ((7919 : Int) ^ 15) := by unfold Bt; decide
  have b3 : Bt 30 (7919 ^ 2 : Int) := by unfold Bt; decide
  obtain ⟨ns, hn, LC⟩ : ∃ ns : List Int, ns.length ≤ 4 ∧ fLc [5] (fRng rng1W (fCons (f2 addW (fC (.d (.int 1))) (f2 modW (f2 divW (fV 2) (fC (.d (.int 3)))) (fC (.d (.int 4))))) fNil)) (gN 5) fYes (f2 modW (f2 mulW (f2 addW (f2 addW (f2 mulW (fV 0) (fC (.d (.int 48271)))) (f2 mulW (fV 5) (f2 powW (fC (.d (.int 7919))) (fC (.d (.int 15)))))) (fV 2)) (f2 addW (fV 5) (fC (.d (.int 3))))) (fV 3)) [.w (.d (.int c)), .w (.d (.int k)), .w (.d (.int m)), .w (.d (.int wd)), .no, .no, .no, .no] = some (ns.map .int) := by
    have r1 : rng1W [.d (.int (1 + m / 3 % 4))] = some (rngW 0 (1 + m / 3 % 4).toNat) := rng1_ok (by omega) (by omega)
    refine ⟨(List.range (1 + m / 3 % 4).toNat).map fun (j : Nat) => (c * 48271 + (j : Int) * 7919 ^ 15 + m) * ((j : Int) + 3) % wd, by rw [List.length_map, List.length_range]; omega, ?_⟩
    refine fLc_ok (ws := rngW 0 (1 + m / 3 % 4).toNat) ?_ (by unfold rngW; rw [List.length_map, List.length_range]; omega) ?_
    · simp [seqF, nxF, ifF, setF, setN, retF, retNF, f1, f2, f3, fV, fC, fB, isB, fAnd, fOr, fNot, fIf, fAndV, fOrV, fNotV, fNil, fCons, fA, fAN, fTup, fLst, fDs, datas, startR, retD, retL, List.set_cons_zero, List.set_cons_succ, List.getElem?_cons_zero, List.getElem?_cons_succ, List.map_cons, List.map_nil, List.replicate, List.cons_append, List.nil_append, Option.bind_some, Option.bind_none, Option.map_some, Option.map_none, ↓reduceIte, gsC, gsN, gT, gN, fSeq, fRng, fYes, List.length_cons, List.length_nil, Nat.add_one_sub_one, Nat.sub_zero, Nat.sub_self, Nat.zero_add, Nat.reduceAdd, Nat.reduceSub, ev_sub, ev_mul, ev_div, ev_mod, ev_pow, ev_neg, ev_add, ev_addL, ev_addT, ev_lt, ev_le, ev_gt, ev_ge, ev_eq, ev_ne, ev_eqT, ev_neT, ev_isi, ev_lenL, ev_lenT, ev_listL, ev_listT, ev_tupL, ev_tupT, ev_ixL, ev_ixT, ev_back, ev_backL, ev_all, ev_lst, ev_tup, ev_typ, ev_sort, fzR, fSlT, fSlL, fEnd, fNo, fSorS, fXorS, fSet, f1N, fIsi2, sh_int, sh_bool, sh_none, eqv_int, eqv_bool, eqv_none, isi_list, isi_tuple, isi_bool, isi_int, lentB, lentD, lentN, lent, flatD, appF, clrF, loopF, cDivP, cModP, lg3, r1]
    · rw [List.map_map]
      refine lcF_over _ fun j hj => ⟨_, rfl, rfl, ?_⟩
      have hj2 := List.mem_range.mp hj
      have bj : Bt 4 (j : Int) := by unfold Bt; omega
      have c1 := cMul_bt bc b1 (by omega)
      have c2 := cMul_bt bj b2 (by omega)
      have bj3 : Bt 5 ((j : Int) + 3) := by unfold Bt; omega
      have c3 := cMul_bt (((bc.mul b1).add (bj.mul b2)).add bm) bj3 (by omega)
      have c4 : cPowP 7919 15 = true := by decide
      have c5 : (15 : Int).toNat = 15 := rfl
      simp only [seqF, nxF, ifF, setF, setN, retF, retNF, f1, f2, f3, fV, fC, fB, isB, fAnd, fOr, fNot, fIf, fAndV, fOrV, fNotV, fNil, fCons, fA, fAN, fTup, fLst, fDs, datas, startR, retD, retL, List.set_cons_zero, List.set_cons_succ, List.getElem?_cons_zero, List.getElem?_cons_succ, List.map_cons, List.map_nil, List.replicate, List.cons_append, List.nil_append, Option.bind_some, Option.bind_none, Option.map_some, Option.map_none, ↓reduceIte, gsC, gsN, gT, gN, fSeq, fRng, fYes, List.length_cons, List.length_nil, Nat.add_one_sub_one, Nat.sub_zero, Nat.sub_self, Nat.zero_add, Nat.reduceAdd, Nat.reduceSub, ev_sub, ev_mul, ev_div, ev_mod, ev_pow, ev_neg, ev_add, ev_addL, ev_addT, ev_lt, ev_le, ev_gt, ev_ge, ev_eq, ev_ne, ev_eqT, ev_neT, ev_isi, ev_lenL, ev_lenT, ev_listL, ev_listT, ev_tupL, ev_tupT, ev_ixL, ev_ixT, ev_back, ev_backL, ev_all, ev_lst, ev_tup, ev_typ, ev_sort, fzR, fSlT, fSlL, fEnd, fNo, fSorS, fXorS, fSet, f1N, fIsi2, sh_int, sh_bool, sh_none, eqv_int, eqv_bool, eqv_none, isi_list, isi_tuple, isi_bool, isi_int, lentB, lentD, lentN, lent, flatD, appF, clrF, loopF, wipeR, Int.zero_add, c1, c4, c5, c2, c3, cMod_ok w0]
      rfl
  have hnums := nums_L (ns := ns) (by omega)
  have hq := uniq_len ns
  generalize hqe : (uniq ns).map PyData.int = q
  have hq4 : q.length ≤ 4 := by rw [← hqe, List.length_map]; omega
  have hc1 : ∀ a b, (PD.cutD q a b).length ≤ 4 := fun a b => Nat.le_trans (cut_len q a b) hq4
  have hc2 : ∀ a b, (PD.cutD q a b).length ≤ 99999 := fun a b => Nat.le_trans (hc1 a b) (by decide)
  have hc3 : ∀ a b, q.length + (PD.cutD q a b).length ≤ 100000 := fun a b => by have := hc1 a b; omega
  have hq9 : q.length ≤ 99999 := by omega
  have hq7 : 1 + q.length ≤ 100000 := by omega
  have hc7 : ∀ a b, 1 + (PD.cutD q a b).length ≤ 100000 := fun a b => by have := hc1 a b; omega
  have hq8 : (uniq ns).length + 1 ≤ 100000 := by omega
  by_cases he : m / 12 % 2 = 0
  · simp [outD, seqF, nxF, ifF, setF, setN, retF, retNF, f1, f2, f3, fV, fC, fB, isB, fAnd, fOr, fNot, fIf, fAndV, fOrV, fNotV, fNil, fCons, fA, fAN, fTup, fLst, fDs, datas, startR, retD, retL, List.set_cons_zero, List.set_cons_succ, List.getElem?_cons_zero, List.getElem?_cons_succ, List.map_cons, List.map_nil, List.replicate, List.cons_append, List.nil_append, Option.bind_some, Option.bind_none, Option.map_some, Option.map_none, ↓reduceIte, gsC, gsN, gT, gN, fSeq, fRng, fYes, List.length_cons, List.length_nil, Nat.add_one_sub_one, Nat.sub_zero, Nat.sub_self, Nat.zero_add, Nat.reduceAdd, Nat.reduceSub, ev_sub, ev_mul, ev_div, ev_mod, ev_pow, ev_neg, ev_add, ev_addL, ev_addT, ev_lt, ev_le, ev_gt, ev_ge, ev_eq, ev_ne, ev_eqT, ev_neT, ev_isi, ev_lenL, ev_lenT, ev_listL, ev_listT, ev_tupL, ev_tupT, ev_ixL, ev_ixT, ev_back, ev_backL, ev_all, ev_lst, ev_tup, ev_typ, ev_sort, fzR, fSlT, fSlL, fEnd, fNo, fSorS, fXorS, fSet, f1N, fIsi2, sh_int, sh_bool, sh_none, eqv_int, eqv_bool, eqv_none, isi_list, isi_tuple, isi_bool, isi_int, lentB, lentD, lentN, lent, flatD, appF, clrF, loopF, G, cPowP, cModP, cDivP, hw, LC, hnums, hqe, hc1, hc2, hc3, hq9, hq7, hc7, he, rg5, lg12]
  · have h24 : 0 ≤ m / 24 % 13 ∧ m / 24 % 13 < 13 := by omega
    have rg5n : (rgD 5).length = 5 := rfl
    simp [outD, seqF, nxF, ifF, setF, setN, retF, retNF, f1, f2, f3, fV, fC, fB, isB, fAnd, fOr, fNot, fIf, fAndV, fOrV, fNotV, fNil, fCons, fA, fAN, fTup, fLst, fDs, datas, startR, retD, retL, List.set_cons_zero, List.set_cons_succ, List.getElem?_cons_zero, List.getElem?_cons_succ, List.map_cons, List.map_nil, List.replicate, List.cons_append, List.nil_append, Option.bind_some, Option.bind_none, Option.map_some, Option.map_none, ↓reduceIte, gsC, gsN, gT, gN, fSeq, fRng, fYes, List.length_cons, List.length_nil, Nat.add_one_sub_one, Nat.sub_zero, Nat.sub_self, Nat.zero_add, Nat.reduceAdd, Nat.reduceSub, ev_sub, ev_mul, ev_div, ev_mod, ev_pow, ev_neg, ev_add, ev_addL, ev_addT, ev_lt, ev_le, ev_gt, ev_ge, ev_eq, ev_ne, ev_eqT, ev_neT, ev_isi, ev_lenL, ev_lenT, ev_listL, ev_listT, ev_tupL, ev_tupT, ev_ixL, ev_ixT, ev_back, ev_backL, ev_all, ev_lst, ev_tup, ev_typ, ev_sort, fzR, fSlT, fSlL, fEnd, fNo, fSorS, fXorS, fSet, f1N, fIsi2, sh_int, sh_bool, sh_none, eqv_int, eqv_bool, eqv_none, isi_list, isi_tuple, isi_bool, isi_int, lentB, lentD, lentN, lent, flatD, appF, clrF, loopF, G, cPowP, cModP, cDivP, hw, LC, hnums, hqe, hc1, hc2, hc3, hq9, hq7, hc7, he, rg5, lg12, lg24]
    obtain ⟨x, hx, _⟩ := atI_some (xs := [PyData.tuple (q.reverse ++ PD.cutD q none (some 1)), PyData.tuple (q ++ PD.cutD q (some (-1)) none), PyData.tuple (rgD 5), PyData.tuple [], PyData.tuple (PD.cutD q none (some (-1)) ++ [PyData.int 1000000000000000000000000000000000000000000000000000000000001]), PyData.tuple (PyData.int (-1) :: q), PyData.tuple (PyData.bool true :: PD.cutD q (some 1) none), PyData.tuple (PD.cutD q none (some (-1)) ++ [PyData.str (Str.ofString "7")]), PyData.none, PyData.list q, PyData.tuple (q ++ [PyData.none]), PyData.int 7, PyData.str (Str.ofString "1")]) h24.1 h24.2
    exact ⟨x, by rw [hx]; rfl⟩
theorem ok_is (T : Txt mg) (A : Stands K mg "_law_is" s__law_is ["_law_thing_here"]) : Keeps P w K mg base "_law_is" ["_law_thing_here"] 1 (spD K gPiece) := by
  refine A.keepsD (k := 0) sc__law_is (by decide) (fun ws w h => ?h1) ⟨_, fun f cdv A outer s H E hr => (pc_cons (pc_if (pb_w (pwb_or (pb_not (pb_val (pd_isi (by rfl) T.z_isinstance (pl_cons (pd_var 0) (pl_cons (pd_ty (n := "tuple") (by rfl) T.z_tuple (by decide +kernel)) pl_nil))))) (pwb_or1 (pb_not (pb_lele pd_int (pd_len (by rfl) T.z_len (pl_cons (pd_var 0) pl_nil)) pd_int))))) (pc_one (pc_ret pd_bl)) pc_nil)
    (pc_cons (pc_for (by rfl) (pw_tup (pd_var 0)) (pgd_name 1 sc__law_is.nd)
    (pc_one (pc_if (pb_w (pwb_or (pb_not (pb_val (pd_isi (by rfl) T.z_isinstance (pl_cons (pd_var 1) (pl_cons (pd_ty (n := "int") (by rfl) T.z_int (by decide +kernel)) pl_nil))))) (pwb_or (pb_val (pd_isi (by rfl) T.z_isinstance (pl_cons (pd_var 1) (pl_cons (pd_ty (n := "bool") (by rfl) T.z_bool (by decide +kernel)) pl_nil)))) (pwb_or1 (pb_not (pb_lele pd_int (pd_var 1) (pd_pow pd_int pd_int))))))) (pc_one (pc_ret pd_bl)) pc_nil)) PassesOwn.never)
    (pc_one (pc_ret (pd_eq (hr.units) (pd_n (pn_list (by rfl) T.z_list (pl_cons (pd_var 0) pl_nil))) (pd_n (pn_sortS (by rfl) (by rfl) T.z_sorted (by decide +kernel) (pz_set (by rfl) (by rfl) T.z_set (by decide +kernel) (pd_var 0))))))))), fun ws w h => ?h3⟩
  case h1 => unfold gPiece at h; split at h <;> first | rfl | cases h
  case h3 =>
    unfold gPiece at h; split at h
    · rename_i x
      cases h
      by_cases ht : isTup x = true
      · cases x <;> simp [isTup] at ht
        rename_i xs
        by_cases h1 : 1 ≤ xs.length
        · by_cases h2 : xs.length ≤ 4
          · have hc1 : (1 : Int) ≤ xs.length := by omega
            have hc2 : (xs.length : Int) ≤ 4 := by omega
            have LP : (xs.all cornerB = true ∧ ∃ s, forF (gN 1) (ifF (fOr (fNot (fB (fA isiW (fCons (fV 1) (fCons (fC (W.ty "int")) fNil))))) (fOr (fB (fA isiW (fCons (fV 1) (fCons (fC (W.ty "bool")) fNil)))) (fNot (fB (f3 leW leW (fC (W.d (PyData.int 0))) (fV 1) (f2 powW (fC (W.d (PyData.int 10))) (fC (W.d (PyData.int 60))))))))) (retF (fC (W.d (PyData.bool false)))) nxF) (xs.map .d) [.w (.d (.tuple xs)), .no] = some (.nx [.w (.d (.tuple xs)), s])) ∨ (xs.all cornerB = false ∧ forF (gN 1) (ifF (fOr (fNot (fB (fA isiW (fCons (fV 1) (fCons (fC (W.ty "int")) fNil))))) (fOr (fB (fA isiW (fCons (fV 1) (fCons (fC (W.ty "bool")) fNil)))) (fNot (fB (f3 leW leW (fC (W.d (PyData.int 0))) (fV 1) (f2 powW (fC (W.d (PyData.int 10))) (fC (W.d (PyData.int 60))))))))) (retF (fC (W.d (PyData.bool false)))) nxF) (xs.map .d) [.w (.d (.tuple xs)), .no] = some (.rt (.d (.bool false)))) := by
              refine forF_seek (fun l ρ => (∃ s, ρ = [.w (.d (.tuple xs)), s]) ∧ xs.all cornerB = l.all cornerB) (fun o => (xs.all cornerB = true ∧ ∃ s, o = some (.nx [.w (.d (.tuple xs)), s])) ∨ (xs.all cornerB = false ∧ o = some (.rt (.d (.bool false))))) ?turn ?fin xs _ ⟨⟨_, rfl⟩, rfl⟩
              case fin =>
                rintro ρ ⟨⟨s, rfl⟩, ha⟩
                exact .inl ⟨by rw [ha]; rfl, s, rfl⟩
              case turn =>
                rintro x l ρ ⟨⟨s, rfl⟩, ha⟩
                refine ⟨_, rfl, ?_⟩
                rw [List.all_cons] at ha
                cases hx : cornerB x with
                | true =>
                  refine .inl ⟨[.w (.d (.tuple xs)), .w (.d x)], ?_, ⟨_, rfl⟩, by rw [ha, hx, Bool.true_and]⟩
                  cases x <;> simp [cornerB] at hx
                  simp [seqF, nxF, ifF, setF, setN, retF, retNF, f1, f2, f3, fV, fC, fB, isB, fAnd, fOr, fNot, fIf, fAndV, fOrV, fNotV, fNil, fCons, fA, fAN, fTup, fLst, fDs, datas, startR, retD, retL, List.set_cons_zero, List.set_cons_succ, List.getElem?_cons_zero, List.getElem?_cons_succ, List.map_cons, List.map_nil, List.replicate, List.cons_append, List.nil_append, Option.bind_some, Option.bind_none, Option.map_some, Option.map_none, ↓reduceIte, gsC, gsN, gT, gN, fSeq, fRng, fYes, List.length_cons, List.length_nil, Nat.add_one_sub_one, Nat.sub_zero, Nat.sub_self, Nat.zero_add, Nat.reduceAdd, Nat.reduceSub, ev_sub, ev_mul, ev_div, ev_mod, ev_pow, ev_neg, ev_add, ev_addL, ev_addT, ev_lt, ev_le, ev_gt, ev_ge, ev_eq, ev_ne, ev_eqT, ev_neT, ev_isi, ev_lenL, ev_lenT, ev_listL, ev_listT, ev_tupL, ev_tupT, ev_ixL, ev_ixT, ev_back, ev_backL, ev_all, ev_lst, ev_tup, ev_typ, ev_sort, fzR, fSlT, fSlL, fEnd, fNo, fSorS, fXorS, fSet, f1N, fIsi2, sh_int, sh_bool, sh_none, eqv_int, eqv_bool, eqv_none, isi_list, isi_tuple, isi_bool, isi_int, lentB, lentD, lentN, lent, flatD, appF, clrF, loopF, isNum, isBool, cPowP, hx.1, hx.2]
                | false =>
                  refine .inr ⟨.d (.bool false), ?_, .inr ⟨by rw [ha, hx, Bool.false_and], rfl⟩⟩
                  by_cases hn : isNum x = true
                  · cases x <;> simp [isNum] at hn
                    rename_i i
                    by_cases i0 : 0 ≤ i
                    · have i1 : ¬ i ≤ 10 ^ 60 := fun z => by
                        rw [cornerB, decide_eq_true i0, decide_eq_true z] at hx
                        cases hx
                      have i2 : decide (i ≤ 1000000000000000000000000000000000000000000000000000000000000) = false := decide_eq_false i1
                      simp only [seqF, nxF, ifF, setF, setN, retF, retNF, f1, f2, f3, fV, fC, fB, isB, fAnd, fOr, fNot, fIf, fAndV, fOrV, fNotV, fNil, fCons, fA, fAN, fTup, fLst, fDs, datas, startR, retD, retL, List.set_cons_zero, List.set_cons_succ, List.getElem?_cons_zero, List.getElem?_cons_succ, List.map_cons, List.map_nil, List.replicate, List.cons_append, List.nil_append, Option.bind_some, Option.bind_none, Option.map_some, Option.map_none, ↓reduceIte, gsC, gsN, gT, gN, fSeq, fRng, fYes, List.length_cons, List.length_nil, Nat.add_one_sub_one, Nat.sub_zero, Nat.sub_self, Nat.zero_add, Nat.reduceAdd, Nat.reduceSub, ev_sub, ev_mul, ev_div, ev_mod, ev_pow, ev_neg, ev_add, ev_addL, ev_addT, ev_lt, ev_le, ev_gt, ev_ge, ev_eq, ev_ne, ev_eqT, ev_neT, ev_isi, ev_lenL, ev_lenT, ev_listL, ev_listT, ev_tupL, ev_tupT, ev_ixL, ev_ixT, ev_back, ev_backL, ev_all, ev_lst, ev_tup, ev_typ, ev_sort, fzR, fSlT, fSlL, fEnd, fNo, fSorS, fXorS, fSet, f1N, fIsi2, sh_int, sh_bool, sh_none, eqv_int, eqv_bool, eqv_none, isi_list, isi_tuple, isi_bool, isi_int, lentB, lentD, lentN, lent, flatD, appF, clrF, loopF, isNum, isBool, cPowP, decide_eq_true i0]
                      simp [seqF, nxF, ifF, setF, setN, retF, retNF, f1, f2, f3, fV, fC, fB, isB, fAnd, fOr, fNot, fIf, fAndV, fOrV, fNotV, fNil, fCons, fA, fAN, fTup, fLst, fDs, datas, startR, retD, retL, List.set_cons_zero, List.set_cons_succ, List.getElem?_cons_zero, List.getElem?_cons_succ, List.map_cons, List.map_nil, List.replicate, List.cons_append, List.nil_append, Option.bind_some, Option.bind_none, Option.map_some, Option.map_none, ↓reduceIte, gsC, gsN, gT, gN, fSeq, fRng, fYes, List.length_cons, List.length_nil, Nat.add_one_sub_one, Nat.sub_zero, Nat.sub_self, Nat.zero_add, Nat.reduceAdd, Nat.reduceSub, ev_sub, ev_mul, ev_div, ev_mod, ev_pow, ev_neg, ev_add, ev_addL, ev_addT, ev_lt, ev_le, ev_gt, ev_ge, ev_eq, ev_ne, ev_eqT, ev_neT, ev_isi, ev_lenL, ev_lenT, ev_listL, ev_listT, ev_tupL, ev_tupT, ev_ixL, ev_ixT, ev_back, ev_backL, ev_all, ev_lst, ev_tup, ev_typ, ev_sort, fzR, fSlT, fSlL, fEnd, fNo, fSorS, fXorS, fSet, f1N, fIsi2, sh_int, sh_bool, sh_none, eqv_int, eqv_bool, eqv_none, isi_list, isi_tuple, isi_bool, isi_int, lentB, lentD, lentN, lent, flatD, appF, clrF, loopF, i2]
                    · simp [seqF, nxF, ifF, setF, setN, retF, retNF, f1, f2, f3, fV, fC, fB, isB, fAnd, fOr, fNot, fIf, fAndV, fOrV, fNotV, fNil, fCons, fA, fAN, fTup, fLst, fDs, datas, startR, retD, retL, List.set_cons_zero, List.set_cons_succ, List.getElem?_cons_zero, List.getElem?_cons_succ, List.map_cons, List.map_nil, List.replicate, List.cons_append, List.nil_append, Option.bind_some, Option.bind_none, Option.map_some, Option.map_none, ↓reduceIte, gsC, gsN, gT, gN, fSeq, fRng, fYes, List.length_cons, List.length_nil, Nat.add_one_sub_one, Nat.sub_zero, Nat.sub_self, Nat.zero_add, Nat.reduceAdd, Nat.reduceSub, ev_sub, ev_mul, ev_div, ev_mod, ev_pow, ev_neg, ev_add, ev_addL, ev_addT, ev_lt, ev_le, ev_gt, ev_ge, ev_eq, ev_ne, ev_eqT, ev_neT, ev_isi, ev_lenL, ev_lenT, ev_listL, ev_listT, ev_tupL, ev_tupT, ev_ixL, ev_ixT, ev_back, ev_backL, ev_all, ev_lst, ev_tup, ev_typ, ev_sort, fzR, fSlT, fSlL, fEnd, fNo, fSorS, fXorS, fSet, f1N, fIsi2, sh_int, sh_bool, sh_none, eqv_int, eqv_bool, eqv_none, isi_list, isi_tuple, isi_bool, isi_int, lentB, lentD, lentN, lent, flatD, appF, clrF, loopF, isNum, isBool, i0]
                  · cases x <;> simp_all [seqF, nxF, ifF, setF, setN, retF, retNF, f1, f2, f3, fV, fC, fB, isB, fAnd, fOr, fNot, fIf, fAndV, fOrV, fNotV, fNil, fCons, fA, fAN, fTup, fLst, fDs, datas, startR, retD, retL, List.set_cons_zero, List.set_cons_succ, List.getElem?_cons_zero, List.getElem?_cons_succ, List.map_cons, List.map_nil, List.replicate, List.cons_append, List.nil_append, Option.bind_some, Option.bind_none, Option.map_some, Option.map_none, ↓reduceIte, gsC, gsN, gT, gN, fSeq, fRng, fYes, List.length_cons, List.length_nil, Nat.add_one_sub_one, Nat.sub_zero, Nat.sub_self, Nat.zero_add, Nat.reduceAdd, Nat.reduceSub, ev_sub, ev_mul, ev_div, ev_mod, ev_pow, ev_neg, ev_add, ev_addL, ev_addT, ev_lt, ev_le, ev_gt, ev_ge, ev_eq, ev_ne, ev_eqT, ev_neT, ev_isi, ev_lenL, ev_lenT, ev_listL, ev_listT, ev_tupL, ev_tupT, ev_ixL, ev_ixT, ev_back, ev_backL, ev_all, ev_lst, ev_tup, ev_typ, ev_sort, fzR, fSlT, fSlL, fEnd, fNo, fSorS, fXorS, fSet, f1N, fIsi2, sh_int, sh_bool, sh_none, eqv_int, eqv_bool, eqv_none, isi_list, isi_tuple, isi_bool, isi_int, lentB, lentD, lentN, lent, flatD, appF, clrF, loopF, isNum, isBool]
            rcases LP with ⟨ha, s, LP⟩ | ⟨ha, LP⟩
            · have hns := nums_all ha
              have hl : (numsD xs).length = xs.length := by
                have q := congrArg List.length hns
                rw [List.length_map] at q
                exact q.symm
              have N1 : numsOf (.d (.tuple xs)) = some (numsD xs) := by
                have q := nums_T (ns := numsD xs) (by omega)
                rw [← hns] at q
                exact q
              have N2 : eqW (.d (.list xs)) (.d (.list ((uniq (numsD xs)).map .int))) = some (.d (.bool (risB (numsD xs)))) := by
                have q1 := sh_L (ns := numsD xs) (by omega)
                have q2 := sh_L (ns := uniq (numsD xs)) (Nat.le_trans (uniq_len _) (by omega))
                have q3 := eqv_L (numsD xs) (uniq (numsD xs))
                rw [← hns] at q1 q3
                rw [ev_eq, q1, q2, q3, ris_uniq]
                rfl
              simp [seqF, nxF, ifF, setF, setN, retF, retNF, f1, f2, f3, fV, fC, fB, isB, fAnd, fOr, fNot, fIf, fAndV, fOrV, fNotV, fNil, fCons, fA, fAN, fTup, fLst, fDs, datas, startR, retD, retL, List.set_cons_zero, List.set_cons_succ, List.getElem?_cons_zero, List.getElem?_cons_succ, List.map_cons, List.map_nil, List.replicate, List.cons_append, List.nil_append, Option.bind_some, Option.bind_none, Option.map_some, Option.map_none, ↓reduceIte, gsC, gsN, gT, gN, fSeq, fRng, fYes, List.length_cons, List.length_nil, Nat.add_one_sub_one, Nat.sub_zero, Nat.sub_self, Nat.zero_add, Nat.reduceAdd, Nat.reduceSub, ev_sub, ev_mul, ev_div, ev_mod, ev_pow, ev_neg, ev_add, ev_addL, ev_addT, ev_lt, ev_le, ev_gt, ev_ge, ev_ne, ev_eqT, ev_neT, ev_isi, ev_lenL, ev_lenT, ev_listL, ev_listT, ev_tupL, ev_tupT, ev_ixL, ev_ixT, ev_back, ev_backL, ev_all, ev_lst, ev_tup, ev_typ, ev_sort, fzR, fSlT, fSlL, fEnd, fNo, fSorS, fXorS, fSet, f1N, fIsi2, sh_int, sh_bool, sh_none, eqv_int, eqv_bool, eqv_none, isi_list, isi_tuple, isi_bool, isi_int, lentB, lentD, lentN, lent, flatD, appF, clrF, loopF, isTup, hc1, hc2, h1, h2, pieceB, loopF, LP, N1, N2, ha]
            · simp [seqF, nxF, ifF, setF, setN, retF, retNF, f1, f2, f3, fV, fC, fB, isB, fAnd, fOr, fNot, fIf, fAndV, fOrV, fNotV, fNil, fCons, fA, fAN, fTup, fLst, fDs, datas, startR, retD, retL, List.set_cons_zero, List.set_cons_succ, List.getElem?_cons_zero, List.getElem?_cons_succ, List.map_cons, List.map_nil, List.replicate, List.cons_append, List.nil_append, Option.bind_some, Option.bind_none, Option.map_some, Option.map_none, ↓reduceIte, gsC, gsN, gT, gN, fSeq, fRng, fYes, List.length_cons, List.length_nil, Nat.add_one_sub_one, Nat.sub_zero, Nat.sub_self, Nat.zero_add, Nat.reduceAdd, Nat.reduceSub, ev_sub, ev_mul, ev_div, ev_mod, ev_pow, ev_neg, ev_add, ev_addL, ev_addT, ev_lt, ev_le, ev_gt, ev_ge, ev_eq, ev_ne, ev_eqT, ev_neT, ev_isi, ev_lenL, ev_lenT, ev_listL, ev_listT, ev_tupL, ev_tupT, ev_ixL, ev_ixT, ev_back, ev_backL, ev_all, ev_lst, ev_tup, ev_typ, ev_sort, fzR, fSlT, fSlL, fEnd, fNo, fSorS, fXorS, fSet, f1N, fIsi2, sh_int, sh_bool, sh_none, eqv_int, eqv_bool, eqv_none, isi_list, isi_tuple, isi_bool, isi_int, lentB, lentD, lentN, lent, flatD, appF, clrF, loopF, isTup, hc1, hc2, h1, h2, pieceB, loopF, LP, ha]
          · have hc1 : (1 : Int) ≤ xs.length := by omega
            have hc2 : ¬ (xs.length : Int) ≤ 4 := by omega
            simp [seqF, nxF, ifF, setF, setN, retF, retNF, f1, f2, f3, fV, fC, fB, isB, fAnd, fOr, fNot, fIf, fAndV, fOrV, fNotV, fNil, fCons, fA, fAN, fTup, fLst, fDs, datas, startR, retD, retL, List.set_cons_zero, List.set_cons_succ, List.getElem?_cons_zero, List.getElem?_cons_succ, List.map_cons, List.map_nil, List.replicate, List.cons_append, List.nil_append, Option.bind_some, Option.bind_none, Option.map_some, Option.map_none, ↓reduceIte, gsC, gsN, gT, gN, fSeq, fRng, fYes, List.length_cons, List.length_nil, Nat.add_one_sub_one, Nat.sub_zero, Nat.sub_self, Nat.zero_add, Nat.reduceAdd, Nat.reduceSub, ev_sub, ev_mul, ev_div, ev_mod, ev_pow, ev_neg, ev_add, ev_addL, ev_addT, ev_lt, ev_le, ev_gt, ev_ge, ev_eq, ev_ne, ev_eqT, ev_neT, ev_isi, ev_lenL, ev_lenT, ev_listL, ev_listT, ev_tupL, ev_tupT, ev_ixL, ev_ixT, ev_back, ev_backL, ev_all, ev_lst, ev_tup, ev_typ, ev_sort, fzR, fSlT, fSlL, fEnd, fNo, fSorS, fXorS, fSet, f1N, fIsi2, sh_int, sh_bool, sh_none, eqv_int, eqv_bool, eqv_none, isi_list, isi_tuple, isi_bool, isi_int, lentB, lentD, lentN, lent, flatD, appF, clrF, loopF, isTup, hc1, hc2, h2, pieceB]
        · have hc1 : ¬ (1 : Int) ≤ xs.length := by omega
          simp [seqF, nxF, ifF, setF, setN, retF, retNF, f1, f2, f3, fV, fC, fB, isB, fAnd, fOr, fNot, fIf, fAndV, fOrV, fNotV, fNil, fCons, fA, fAN, fTup, fLst, fDs, datas, startR, retD, retL, List.set_cons_zero, List.set_cons_succ, List.getElem?_cons_zero, List.getElem?_cons_succ, List.map_cons, List.map_nil, List.replicate, List.cons_append, List.nil_append, Option.bind_some, Option.bind_none, Option.map_some, Option.map_none, ↓reduceIte, gsC, gsN, gT, gN, fSeq, fRng, fYes, List.length_cons, List.length_nil, Nat.add_one_sub_one, Nat.sub_zero, Nat.sub_self, Nat.zero_add, Nat.reduceAdd, Nat.reduceSub, ev_sub, ev_mul, ev_div, ev_mod, ev_pow, ev_neg, ev_add, ev_addL, ev_addT, ev_lt, ev_le, ev_gt, ev_ge, ev_eq, ev_ne, ev_eqT, ev_neT, ev_isi, ev_lenL, ev_lenT, ev_listL, ev_listT, ev_tupL, ev_tupT, ev_ixL, ev_ixT, ev_back, ev_backL, ev_all, ev_lst, ev_tup, ev_typ, ev_sort, fzR, fSlT, fSlL, fEnd, fNo, fSorS, fXorS, fSet, f1N, fIsi2, sh_int, sh_bool, sh_none, eqv_int, eqv_bool, eqv_none, isi_list, isi_tuple, isi_bool, isi_int, lentB, lentD, lentN, lent, flatD, appF, clrF, loopF, isTup, hc1, h1, pieceB]
      · have e : pieceB x = false := by cases x <;> simp_all [isTup, pieceB]
        rw [Bool.not_eq_true] at ht
        simp [seqF, nxF, ifF, setF, setN, retF, retNF, f1, f2, f3, fV, fC, fB, isB, fAnd, fOr, fNot, fIf, fAndV, fOrV, fNotV, fNil, fCons, fA, fAN, fTup, fLst, fDs, datas, startR, retD, retL, List.set_cons_zero, List.set_cons_succ, List.getElem?_cons_zero, List.getElem?_cons_succ, List.map_cons, List.map_nil, List.replicate, List.cons_append, List.nil_append, Option.bind_some, Option.bind_none, Option.map_some, Option.map_none, ↓reduceIte, gsC, gsN, gT, gN, fSeq, fRng, fYes, List.length_cons, List.length_nil, Nat.add_one_sub_one, Nat.sub_zero, Nat.sub_self, Nat.zero_add, Nat.reduceAdd, Nat.reduceSub, ev_sub, ev_mul, ev_div, ev_mod, ev_pow, ev_neg, ev_add, ev_addL, ev_addT, ev_lt, ev_le, ev_gt, ev_ge, ev_eq, ev_ne, ev_eqT, ev_neT, ev_isi, ev_lenL, ev_lenT, ev_listL, ev_listT, ev_tupL, ev_tupT, ev_ixL, ev_ixT, ev_back, ev_backL, ev_all, ev_lst, ev_tup, ev_typ, ev_sort, fzR, fSlT, fSlL, fEnd, fNo, fSorS, fXorS, fSet, f1N, fIsi2, sh_int, sh_bool, sh_none, eqv_int, eqv_bool, eqv_none, isi_list, isi_tuple, isi_bool, isi_int, lentB, lentD, lentN, lent, flatD, appF, clrF, loopF, ht, e]
    · cases h
theorem ok_heap_by (T : Txt mg) (A : Stands K mg "_law_heap_by" s__law_heap_by ["_law_cell", "_law_k"]) (O__law_mixed : Keeps P w K mg base "_law_mixed" ["_law_cell", "_law_k"] 1 (spD K gMixed)) :
    ∃ Fm, Keeps P w K mg base "_law_heap_by" ["_law_cell", "_law_k"] 2 (spD K (outD 2 5 Fm)) ∧ ∀ c k : Int, 0 ≤ k → k ≤ 1000 → ∃ ns : List Int, outD 2 5 Fm [.d (.int c), .d (.int k)] = some (.d (.list ((uniq ns).map .int))) ∧ ns.length ≤ 8 := by
  refine A.keepsE (k := 1) sc__law_heap_by (by decide) ⟨_, fun f cdv A outer s H E hr => (pc_cons (pc_set 2 (pd_go O__law_mixed (hr.mono (by first | decide | omega)) (by rfl) (pl_cons (pd_var 0) (pl_cons (pd_add (pd_var 1) pd_int) pl_nil))) sc__law_heap_by.nd)
    (pc_cons (pc_set 3 (pd_ix (fun _ _ => rfl) (pd_n (pn_lst (pl_cons pd_int (pl_cons pd_int (pl_cons (pd_pow pd_int pd_int) pl_nil))))) (pd_mod (pd_var 2) pd_int)) sc__law_heap_by.nd)
    (pc_one (pc_ret (pd_n (pn_sortS (by rfl) (by rfl) T.z_sorted (by decide +kernel) (pz_set (by rfl) (by rfl) T.z_set (by decide +kernel) (pd_n (pn_lc [("_law_j", 4)] (by rfl) sc__law_heap_by.nd (pw_rng1 (by rfl) T.z_range (pl_cons (pd_mod (pd_div (pd_var 2) pd_int) pd_int) pl_nil)) (blkOk_by (N := ["_law_cell", "_law_k", "_law_number", "_law_wide", "_law_j"]) (sc := defScope s__law_heap_by) (by decide +kernel)) (fun _ _ _ _ _ => (pgd_name 4 sc__law_heap_by.nd)) (fun _ _ _ _ _ => pbs_nil) (fun _ _ _ _ _ => (pd_mod (pd_mul (pd_go O__law_mixed (hr.mono (by first | decide | omega)) (by rfl) (pl_cons (pd_var 0) (pl_cons (pd_add (pd_var 1) (pd_var 4)) pl_nil))) (pd_pow pd_int pd_int)) (pd_var 3)))))))))))), fun c k h0 hk => ?_⟩
  generalize hm : mixN c (k + 5) = m
  have m0 : 0 ≤ m := by rw [← hm]; exact mix_lo c _
  have m1 : m < 998244353 := by rw [← hm]; exact mix_hi c _
  have G : ∀ j : Int, j.natAbs ≤ 1000 → gMixed [.d (.int c), .d (.int (k + j))] = some (.d (.int (mixN c (k + j)))) := fun j hj => if_pos (by omega)
  have G5 : gMixed [.d (.int c), .d (.int (k + 5))] = some (.d (.int m)) := by rw [← hm]; exact G 5 (by decide)
  obtain ⟨wd, w0, hw⟩ : ∃ wd : Int, 0 < wd ∧ atI [PyData.int 6, PyData.int 60, PyData.int 1000000000000000000000000000000] (m % 3) = some (.int wd) := by
    have h3 : m % 3 = 0 ∨ m % 3 = 1 ∨ m % 3 = 2 := by omega
    rcases h3 with h3 | h3 | h3 <;> rw [h3]
    · exact ⟨6, by decide, rfl⟩
    · exact ⟨60, by decide, rfl⟩
    · exact ⟨_, by decide, rfl⟩
  have b2 : Bt 200 ((7919 : Int) ^ 8) := by unfold Bt; decide
  obtain ⟨ns, hn, LC⟩ : ∃ ns : List Int, ns.length ≤ 8 ∧ fLc [4] (fRng rng1W (fCons (f2 modW (f2 divW (fV 2) (fC (.d (.int 3)))) (fC (.d (.int 9)))) fNil)) (gN 4) fYes (f2 modW (f2 mulW (fA gMixed (fCons (fV 0) (fCons (f2 addW (fV 1) (fV 4)) fNil))) (f2 powW (fC (.d (.int 7919))) (fC (.d (.int 8))))) (fV 3)) [.w (.d (.int c)), .w (.d (.int k)), .w (.d (.int m)), .w (.d (.int wd)), .no] = some (ns.map .int) := by
    have r1 : rng1W [.d (.int (m / 3 % 9))] = some (rngW 0 (m / 3 % 9).toNat) := rng1_ok (by omega) (by omega)
    refine ⟨(List.range (m / 3 % 9).toNat).map fun (j : Nat) => mixN c (k + (j : Int)) * 7919 ^ 8 % wd, by rw [List.length_map, List.length_range]; omega, ?_⟩
    refine fLc_ok (ws := rngW 0 (m / 3 % 9).toNat) ?_ (by unfold rngW; rw [List.length_map, List.length_range]; omega) ?_
    · simp [seqF, nxF, ifF, setF, setN, retF, retNF, f1, f2, f3, fV, fC, fB, isB, fAnd, fOr, fNot, fIf, fAndV, fOrV, fNotV, fNil, fCons, fA, fAN, fTup, fLst, fDs, datas, startR, retD, retL, List.set_cons_zero, List.set_cons_succ, List.getElem?_cons_zero, List.getElem?_cons_succ, List.map_cons, List.map_nil, List.replicate, List.cons_append, List.nil_append, Option.bind_some, Option.bind_none, Option.map_some, Option.map_none, ↓reduceIte, gsC, gsN, gT, gN, fSeq, fRng, fYes, List.length_cons, List.length_nil, Nat.add_one_sub_one, Nat.sub_zero, Nat.sub_self, Nat.zero_add, Nat.reduceAdd, Nat.reduceSub, ev_sub, ev_mul, ev_div, ev_mod, ev_pow, ev_neg, ev_add, ev_addL, ev_addT, ev_lt, ev_le, ev_gt, ev_ge, ev_eq, ev_ne, ev_eqT, ev_neT, ev_isi, ev_lenL, ev_lenT, ev_listL, ev_listT, ev_tupL, ev_tupT, ev_ixL, ev_ixT, ev_back, ev_backL, ev_all, ev_lst, ev_tup, ev_typ, ev_sort, fzR, fSlT, fSlL, fEnd, fNo, fSorS, fXorS, fSet, f1N, fIsi2, sh_int, sh_bool, sh_none, eqv_int, eqv_bool, eqv_none, isi_list, isi_tuple, isi_bool, isi_int, lentB, lentD, lentN, lent, flatD, appF, clrF, loopF, cDivP, cModP, lg3, r1]
    · rw [List.map_map]
      refine lcF_over _ fun j hj => ⟨_, rfl, rfl, ?_⟩
      have hj2 := List.mem_range.mp hj
      have bj : Bt 30 (mixN c (k + (j : Int))) := by
        have h1 := mix_lo c (k + (j : Int))
        have h2 := mix_hi c (k + (j : Int))
        unfold Bt; omega
      have c2 := cMul_bt bj b2 (by omega)
      have c4 : cPowP 7919 8 = true := by decide
      have c5 : (8 : Int).toNat = 8 := rfl
      have Gj := G (j : Int) (by omega)
      simp only [seqF, nxF, ifF, setF, setN, retF, retNF, f1, f2, f3, fV, fC, fB, isB, fAnd, fOr, fNot, fIf, fAndV, fOrV, fNotV, fNil, fCons, fA, fAN, fTup, fLst, fDs, datas, startR, retD, retL, List.set_cons_zero, List.set_cons_succ, List.getElem?_cons_zero, List.getElem?_cons_succ, List.map_cons, List.map_nil, List.replicate, List.cons_append, List.nil_append, Option.bind_some, Option.bind_none, Option.map_some, Option.map_none, ↓reduceIte, gsC, gsN, gT, gN, fSeq, fRng, fYes, List.length_cons, List.length_nil, Nat.add_one_sub_one, Nat.sub_zero, Nat.sub_self, Nat.zero_add, Nat.reduceAdd, Nat.reduceSub, ev_sub, ev_mul, ev_div, ev_mod, ev_pow, ev_neg, ev_add, ev_addL, ev_addT, ev_lt, ev_le, ev_gt, ev_ge, ev_eq, ev_ne, ev_eqT, ev_neT, ev_isi, ev_lenL, ev_lenT, ev_listL, ev_listT, ev_tupL, ev_tupT, ev_ixL, ev_ixT, ev_back, ev_backL, ev_all, ev_lst, ev_tup, ev_typ, ev_sort, fzR, fSlT, fSlL, fEnd, fNo, fSorS, fXorS, fSet, f1N, fIsi2, sh_int, sh_bool, sh_none, eqv_int, eqv_bool, eqv_none, isi_list, isi_tuple, isi_bool, isi_int, lentB, lentD, lentN, lent, flatD, appF, clrF, loopF, wipeR, Int.zero_add, Gj, c4, c5, c2, cMod_ok w0]
      rfl
  have hnums := nums_L (ns := ns) (by omega)
  refine ⟨ns, ?_, hn⟩
  simp [outD, seqF, nxF, ifF, setF, setN, retF, retNF, f1, f2, f3, fV, fC, fB, isB, fAnd, fOr, fNot, fIf, fAndV, fOrV, fNotV, fNil, fCons, fA, fAN, fTup, fLst, fDs, datas, startR, retD, retL, List.set_cons_zero, List.set_cons_succ, List.getElem?_cons_zero, List.getElem?_cons_succ, List.map_cons, List.map_nil, List.replicate, List.cons_append, List.nil_append, Option.bind_some, Option.bind_none, Option.map_some, Option.map_none, ↓reduceIte, gsC, gsN, gT, gN, fSeq, fRng, fYes, List.length_cons, List.length_nil, Nat.add_one_sub_one, Nat.sub_zero, Nat.sub_self, Nat.zero_add, Nat.reduceAdd, Nat.reduceSub, ev_sub, ev_mul, ev_div, ev_mod, ev_pow, ev_neg, ev_add, ev_addL, ev_addT, ev_lt, ev_le, ev_gt, ev_ge, ev_eq, ev_ne, ev_eqT, ev_neT, ev_isi, ev_lenL, ev_lenT, ev_listL, ev_listT, ev_tupL, ev_tupT, ev_ixL, ev_ixT, ev_back, ev_backL, ev_all, ev_lst, ev_tup, ev_typ, ev_sort, fzR, fSlT, fSlL, fEnd, fNo, fSorS, fXorS, fSet, f1N, fIsi2, sh_int, sh_bool, sh_none, eqv_int, eqv_bool, eqv_none, isi_list, isi_tuple, isi_bool, isi_int, lentB, lentD, lentN, lent, flatD, appF, clrF, loopF, G5, cPowP, cModP, hw, LC, hnums]
theorem ok_odd (T : Txt mg) (A : Stands K mg "_law_odd" s__law_odd ["_law_heaps"]) :
    ∃ Fm, Keeps P w K mg base "_law_odd" ["_law_heaps"] 1 (spD K (outD 1 4 Fm)) ∧ ∀ L : List (List Int), L.flatten.length ≤ 1000 → outD 1 4 Fm [.d (.list (L.map fun l => .list (l.map .int)))] = some (.d (.list ((oddN L.flatten).map .int))) := by
  refine A.keepsE (k := 0) sc__law_odd (by decide) ⟨_, fun f cdv A outer s H E hr => (pc_cons (pc_dict 1 sc__law_odd.nd)
    (pc_cons (pc_for (by rfl) (pw_list (pd_var 0)) (pgd_name 2 sc__law_odd.nd)
    (pc_one (pc_for (by rfl) (pw_list (pd_var 2)) (pgd_name 3 sc__law_odd.nd)
    (pc_one (pc_dput 1 (hu_of hr) (pd_var 3) (pd_add (pd_get 1 (hu_of hr) (pd_var 3) pd_int) pd_int))) PassesOwn.never)) PassesOwn.never)
    (pc_one (pc_ret (pd_n (pn_lc [("_law_number", 3)] (by rfl) sc__law_odd.nd (pw_list (pd_n (pn_sortD 1 (by rfl) (by rfl) T.z_sorted))) (blkOk_by (N := ["_law_heaps", "_law_often", "_law_heap", "_law_number"]) (sc := defScope s__law_odd) (by decide +kernel)) (fun _ _ _ _ _ => (pgd_name 3 sc__law_odd.nd)) (fun _ _ _ _ _ => (pbs_one (pb_eq (hr.units) (pd_mod (pd_dix 1 (hu_of hr) (pd_var 3)) pd_int) pd_int))) (fun _ _ _ _ _ => (pd_var 3)))))))), fun L hL => ?_⟩
  have LP : ∃ ρ', forF (gN 2) (loopF (fSeq lstW (fV 2)) (gN 3) (fDput 1 (fV 3) (f2 addW (fGet 1 (fV 3) (fC (W.d (PyData.int 0)))) (fC (W.d (PyData.int 1)))))) (L.map fun l => .d (.list (l.map .int))) [.w (.d (.list (L.map fun l => .list (l.map .int)))), .oI [], .no, .no] = some (.nx ρ') ∧ ∃ kvs s2 s3, ρ' = [.w (.d (.list (L.map fun l => .list (l.map .int)))), .oI kvs, s2, s3] ∧ Cnt L.flatten kvs := by
    have key := forF_over (g := gN 2) (body := loopF (fSeq lstW (fV 2)) (gN 3) (fDput 1 (fV 3) (f2 addW (fGet 1 (fV 3) (fC (W.d (PyData.int 0)))) (fC (W.d (PyData.int 1)))))) (c := fun l : List Int => W.d (.list (l.map .int)))
      (fun rest ρ => ∃ kvs s2 s3 done, ρ = [.w (.d (.list (L.map fun l => .list (l.map .int)))), .oI kvs, s2, s3] ∧ done ++ rest.flatten = L.flatten ∧ Cnt done kvs) (by
      rintro l rest ρ ⟨kvs, s2, s3, done, rfl, hd, hc⟩
      rw [List.flatten_cons] at hd
      have key2 := forF_over (g := gN 3) (body := fDput 1 (fV 3) (f2 addW (fGet 1 (fV 3) (fC (W.d (PyData.int 0)))) (fC (W.d (PyData.int 1))))) (c := fun k : Int => W.d (.int k))
        (fun r ρ => ∃ kvs s3 done', ρ = [.w (.d (.list (L.map fun l => .list (l.map .int)))), .oI kvs, .w (.d (.list (l.map .int))), s3] ∧ done' ++ r = done ++ l ∧ Cnt done' kvs) (by
        rintro k r ρ ⟨kvs, s3, done', rfl, hd', hc'⟩
        have hl : kvs.length < 100000 := by
          have q := hc'.len
          have q2 := congrArg List.length hd'
          have q3 := congrArg List.length hd
          simp only [List.length_append] at q2 q3
          rw [List.length_cons] at q2
          omega
        refine ⟨_, [.w (.d (.list (L.map fun l => .list (l.map .int)))), .oI (putA kvs k (.int ((done'.count k : Nat) + 1))), .w (.d (.list (l.map .int))), .w (.d (.int k))], rfl, ?_, _, _, done' ++ [k], rfl, by rw [List.append_assoc]; exact hd', hc'.snoc k⟩
        have hg := hc'.get k
        by_cases z : done'.count k = 0
        · rw [if_pos z] at hg
          simp [seqF, nxF, ifF, setF, setN, retF, retNF, f1, f2, f3, fV, fC, fB, isB, fAnd, fOr, fNot, fIf, fAndV, fOrV, fNotV, fNil, fCons, fA, fAN, fTup, fLst, fDs, datas, startR, retD, retL, List.set_cons_zero, List.set_cons_succ, List.getElem?_cons_zero, List.getElem?_cons_succ, List.map_cons, List.map_nil, List.replicate, List.cons_append, List.nil_append, Option.bind_some, Option.bind_none, Option.map_some, Option.map_none, ↓reduceIte, gsC, gsN, gT, gN, fSeq, fRng, fYes, List.length_cons, List.length_nil, Nat.add_one_sub_one, Nat.sub_zero, Nat.sub_self, Nat.zero_add, Nat.reduceAdd, Nat.reduceSub, ev_sub, ev_mul, ev_div, ev_mod, ev_pow, ev_neg, ev_add, ev_addL, ev_addT, ev_lt, ev_le, ev_gt, ev_ge, ev_eq, ev_ne, ev_eqT, ev_neT, ev_isi, ev_lenL, ev_lenT, ev_listL, ev_listT, ev_tupL, ev_tupT, ev_ixL, ev_ixT, ev_back, ev_backL, ev_all, ev_lst, ev_tup, ev_typ, ev_sort, fzR, fSlT, fSlL, fEnd, fNo, fSorS, fXorS, fSet, f1N, fIsi2, sh_int, sh_bool, sh_none, eqv_int, eqv_bool, eqv_none, isi_list, isi_tuple, isi_bool, isi_int, lentB, lentD, lentN, lent, flatD, appF, clrF, loopF, fDput, fGet, oiAt, keyI, dataW, hg, hl, z]
        · rw [if_neg z] at hg
          simp [seqF, nxF, ifF, setF, setN, retF, retNF, f1, f2, f3, fV, fC, fB, isB, fAnd, fOr, fNot, fIf, fAndV, fOrV, fNotV, fNil, fCons, fA, fAN, fTup, fLst, fDs, datas, startR, retD, retL, List.set_cons_zero, List.set_cons_succ, List.getElem?_cons_zero, List.getElem?_cons_succ, List.map_cons, List.map_nil, List.replicate, List.cons_append, List.nil_append, Option.bind_some, Option.bind_none, Option.map_some, Option.map_none, ↓reduceIte, gsC, gsN, gT, gN, fSeq, fRng, fYes, List.length_cons, List.length_nil, Nat.add_one_sub_one, Nat.sub_zero, Nat.sub_self, Nat.zero_add, Nat.reduceAdd, Nat.reduceSub, ev_sub, ev_mul, ev_div, ev_mod, ev_pow, ev_neg, ev_add, ev_addL, ev_addT, ev_lt, ev_le, ev_gt, ev_ge, ev_eq, ev_ne, ev_eqT, ev_neT, ev_isi, ev_lenL, ev_lenT, ev_listL, ev_listT, ev_tupL, ev_tupT, ev_ixL, ev_ixT, ev_back, ev_backL, ev_all, ev_lst, ev_tup, ev_typ, ev_sort, fzR, fSlT, fSlL, fEnd, fNo, fSorS, fXorS, fSet, f1N, fIsi2, sh_int, sh_bool, sh_none, eqv_int, eqv_bool, eqv_none, isi_list, isi_tuple, isi_bool, isi_int, lentB, lentD, lentN, lent, flatD, appF, clrF, loopF, fDput, fGet, oiAt, keyI, dataW, hg, hl])
      obtain ⟨ρ', h1, kvs', s3', done', h2, h3, h4⟩ := key2 l [.w (.d (.list (L.map fun l => .list (l.map .int)))), .oI kvs, .w (.d (.list (l.map .int))), s3] ⟨kvs, s3, done, rfl, rfl, hc⟩
      rw [List.append_nil] at h3
      refine ⟨_, ρ', rfl, ?_, kvs', _, s3', done', h2, ?_, h4⟩
      · have e : (l.map PyData.int).map W.d = l.map fun k => W.d (.int k) := by rw [List.map_map]; rfl
        simp only [seqF, nxF, ifF, setF, setN, retF, retNF, f1, f2, f3, fV, fC, fB, isB, fAnd, fOr, fNot, fIf, fAndV, fOrV, fNotV, fNil, fCons, fA, fAN, fTup, fLst, fDs, datas, startR, retD, retL, List.set_cons_zero, List.set_cons_succ, List.getElem?_cons_zero, List.getElem?_cons_succ, List.map_cons, List.map_nil, List.replicate, List.cons_append, List.nil_append, Option.bind_some, Option.bind_none, Option.map_some, Option.map_none, ↓reduceIte, gsC, gsN, gT, gN, fSeq, fRng, fYes, List.length_cons, List.length_nil, Nat.add_one_sub_one, Nat.sub_zero, Nat.sub_self, Nat.zero_add, Nat.reduceAdd, Nat.reduceSub, ev_sub, ev_mul, ev_div, ev_mod, ev_pow, ev_neg, ev_add, ev_addL, ev_addT, ev_lt, ev_le, ev_gt, ev_ge, ev_eq, ev_ne, ev_eqT, ev_neT, ev_isi, ev_lenL, ev_lenT, ev_listL, ev_listT, ev_tupL, ev_tupT, ev_ixL, ev_ixT, ev_back, ev_backL, ev_all, ev_lst, ev_tup, ev_typ, ev_sort, fzR, fSlT, fSlL, fEnd, fNo, fSorS, fXorS, fSet, f1N, fIsi2, sh_int, sh_bool, sh_none, eqv_int, eqv_bool, eqv_none, isi_list, isi_tuple, isi_bool, isi_int, lentB, lentD, lentN, lent, flatD, appF, clrF, loopF, loopF, e]
        exact h1
      · rw [h3, List.append_assoc]; exact hd)
    obtain ⟨ρ', h1, kvs, s2, s3, done, h2, h3, h4⟩ := key L [.w (.d (.list (L.map fun l => .list (l.map .int)))), .oI [], .no, .no] ⟨[], .no, .no, [], rfl, rfl, Cnt.nil⟩
    simp only [List.flatten_nil, List.append_nil] at h3
    exact ⟨ρ', h1, kvs, s2, s3, h2, h3 ▸ h4⟩
  obtain ⟨ρ', h1, kvs, s2, s3, rfl, hc⟩ := LP
  have LC : fLc [3] (fSeq lstW (fLst (fSortI 1))) (gN 3) (fB (f2 eqW (f2 modW (fDix 1 (fV 3)) (fC (.d (.int 2)))) (fC (.d (.int 1))))) (fV 3) [.w (.d (.list (L.map fun l => .list (l.map .int)))), .oI kvs, s2, s3] = some ((oddN L.flatten).map .int) := by
    rw [← odd_keys hc]
    have hz : (isortI (kvs.map (·.1))).length ≤ 100000 := by
      have pm : (isortI (kvs.map (·.1))).Perm (kvs.map (·.1)) := List.mergeSort_perm _ _
      have := hc.len
      rw [pm.length_eq, List.length_map]
      omega
    refine fLc_ok (ws := (isortI (kvs.map (·.1))).map fun k => W.d (.int k)) ?_ (by rw [List.length_map]; exact hz) ?_
    · simp only [seqF, nxF, ifF, setF, setN, retF, retNF, f1, f2, f3, fV, fC, fB, isB, fAnd, fOr, fNot, fIf, fAndV, fOrV, fNotV, fNil, fCons, fA, fAN, fTup, fLst, fDs, datas, startR, retD, retL, List.set_cons_zero, List.set_cons_succ, List.getElem?_cons_zero, List.getElem?_cons_succ, List.map_cons, List.map_nil, List.replicate, List.cons_append, List.nil_append, Option.bind_some, Option.bind_none, Option.map_some, Option.map_none, ↓reduceIte, gsC, gsN, gT, gN, fSeq, fRng, fYes, List.length_cons, List.length_nil, Nat.add_one_sub_one, Nat.sub_zero, Nat.sub_self, Nat.zero_add, Nat.reduceAdd, Nat.reduceSub, ev_sub, ev_mul, ev_div, ev_mod, ev_pow, ev_neg, ev_add, ev_addL, ev_addT, ev_lt, ev_le, ev_gt, ev_ge, ev_eq, ev_ne, ev_eqT, ev_neT, ev_isi, ev_lenL, ev_lenT, ev_listL, ev_listT, ev_tupL, ev_tupT, ev_ixL, ev_ixT, ev_back, ev_backL, ev_all, ev_lst, ev_tup, ev_typ, ev_sort, fzR, fSlT, fSlL, fEnd, fNo, fSorS, fXorS, fSet, f1N, fIsi2, sh_int, sh_bool, sh_none, eqv_int, eqv_bool, eqv_none, isi_list, isi_tuple, isi_bool, isi_int, lentB, lentD, lentN, lent, flatD, appF, clrF, loopF, fSortI, oiAt, List.map_map]
      rfl
    · refine lcF_some _ _ fun k hk => ⟨_, rfl, ?_, fun _ => rfl⟩
      have hkf : k ∈ L.flatten := by
        have pm : (isortI (kvs.map (·.1))).Perm (kvs.map (·.1)) := List.mergeSort_perm _ _
        exact (hc.mem k).mp (pm.mem_iff.mp hk)
      have hg := hc.get k
      rw [if_neg (Nat.ne_of_gt (List.count_pos_iff.mpr hkf))] at hg
      have e : decide (((L.flatten.count k : Nat) : Int) % 2 = 1) = decide (L.flatten.count k % 2 = 1) := by
        apply decide_eq_decide.mpr
        omega
      simp [seqF, nxF, ifF, setF, setN, retF, retNF, f1, f2, f3, fV, fC, fB, isB, fAnd, fOr, fNot, fIf, fAndV, fOrV, fNotV, fNil, fCons, fA, fAN, fTup, fLst, fDs, datas, startR, retD, retL, List.set_cons_zero, List.set_cons_succ, List.getElem?_cons_zero, List.getElem?_cons_succ, List.map_cons, List.map_nil, List.replicate, List.cons_append, List.nil_append, Option.bind_some, Option.bind_none, Option.map_some, Option.map_none, ↓reduceIte, gsC, gsN, gT, gN, fSeq, fRng, fYes, List.length_cons, List.length_nil, Nat.add_one_sub_one, Nat.sub_zero, Nat.sub_self, Nat.zero_add, Nat.reduceAdd, Nat.reduceSub, ev_sub, ev_mul, ev_div, ev_mod, ev_pow, ev_neg, ev_add, ev_addL, ev_addT, ev_lt, ev_le, ev_gt, ev_ge, ev_eq, ev_ne, ev_eqT, ev_neT, ev_isi, ev_lenL, ev_lenT, ev_listL, ev_listT, ev_tupL, ev_tupT, ev_ixL, ev_ixT, ev_back, ev_backL, ev_all, ev_lst, ev_tup, ev_typ, ev_sort, fzR, fSlT, fSlL, fEnd, fNo, fSorS, fXorS, fSet, f1N, fIsi2, sh_int, sh_bool, sh_none, eqv_int, eqv_bool, eqv_none, isi_list, isi_tuple, isi_bool, isi_int, lentB, lentD, lentN, lent, flatD, appF, clrF, loopF, wipeR, fDix, oiAt, keyI, hg, cModP]
      omega
  have h2 : forF (gN 2) (loopF (fSeq lstW (fV 2)) (gN 3) (fDput 1 (fV 3) (f2 addW (fGet 1 (fV 3) (fC (W.d (PyData.int 0)))) (fC (W.d (PyData.int 1)))))) (L.map (W.d ∘ fun l => .list (l.map .int))) [.w (.d (.list (L.map fun l => .list (l.map .int)))), .oI [], .no, .no] = _ := h1
  simp [outD, seqF, nxF, ifF, setF, setN, retF, retNF, f1, f2, f3, fV, fC, fB, isB, fAnd, fOr, fNot, fIf, fAndV, fOrV, fNotV, fNil, fCons, fA, fAN, fTup, fLst, fDs, datas, startR, retD, retL, List.set_cons_zero, List.set_cons_succ, List.getElem?_cons_zero, List.getElem?_cons_succ, List.map_cons, List.map_nil, List.replicate, List.cons_append, List.nil_append, Option.bind_some, Option.bind_none, Option.map_some, Option.map_none, ↓reduceIte, gsC, gsN, gT, gN, fSeq, fRng, fYes, List.length_cons, List.length_nil, Nat.add_one_sub_one, Nat.sub_zero, Nat.sub_self, Nat.zero_add, Nat.reduceAdd, Nat.reduceSub, ev_sub, ev_mul, ev_div, ev_mod, ev_pow, ev_neg, ev_add, ev_addL, ev_addT, ev_lt, ev_le, ev_gt, ev_ge, ev_eq, ev_ne, ev_eqT, ev_neT, ev_isi, ev_lenL, ev_lenT, ev_listL, ev_listT, ev_tupL, ev_tupT, ev_ixL, ev_ixT, ev_back, ev_backL, ev_all, ev_lst, ev_tup, ev_typ, ev_sort, fzR, fSlT, fSlL, fEnd, fNo, fSorS, fXorS, fSet, f1N, fIsi2, sh_int, sh_bool, sh_none, eqv_int, eqv_bool, eqv_none, isi_list, isi_tuple, isi_bool, isi_int, lentB, lentD, lentN, lent, flatD, appF, clrF, loopF, loopF, setI, h2, LC]
theorem ok_sides_right (T : Txt mg) (A : Stands K mg "_law_sides_right" s__law_sides_right ["_law_piece"]) (O_sides : Keeps P w K mg base "sides" ["piece"] 1 (spN K gSides)) (O__law_alike : Keeps P w K mg base "_law_alike" ["_law_found", "_law_due"] 4 (spD K (gAlike 3))) :
    Keeps P w K mg base "_law_sides_right" ["_law_piece"] 5 (spD K gSR) := by
  refine A.keepsD (k := 4) sc__law_sides_right (by decide) (fun ws w h => ?h1) ⟨_, fun f cdv A outer s H E hr => (pc_cons (pc_setN 1 (pn_go O_sides (hr.mono (by first | decide | omega)) (by rfl) (pl_cons (pd_var 0) pl_nil)) sc__law_sides_right.nd)
    (pc_cons (pc_set 2 (pd_ifExp (pb_gt (pd_len (by rfl) T.z_len (pl_cons (pd_var 0) pl_nil)) pd_int) (pd_n (pn_sortT (10 ^ 60 + 1) (by rfl) T.z_sorted (pl_cons (pd_n (pn_lc [("_law_k", 3)] (by rfl) sc__law_sides_right.nd (pw_rng1 (by rfl) T.z_range (pl_cons (pd_len (by rfl) T.z_len (pl_cons (pd_var 0) pl_nil)) pl_nil)) (blkOk_by (N := ["_law_piece", "_law_found", "_law_due", "_law_k"]) (sc := defScope s__law_sides_right) (by decide +kernel)) (fun _ _ _ _ _ => (pgd_name 3 sc__law_sides_right.nd)) (fun _ _ _ _ _ => pbs_nil) (fun _ _ _ _ _ => (pd_add (pd_slT (pd_var 0) pend_no (pend_some (pd_var 3))) (pd_slT (pd_var 0) (pend_some (pd_add (pd_var 3) pd_int)) pend_no))))) pl_nil))) (pd_n (pn_lst pl_nil))) sc__law_sides_right.nd)
    (pc_cons (pc_if (pb_lent 1 (pb_w (pwb_or (pb_not (pb_val (pd_isi (by rfl) T.z_isinstance (pl_cons (pd_var 1) (pl_cons (pd_ty (n := "list") (by rfl) T.z_list (by decide +kernel)) pl_nil))))) (pwb_or1 (pb_not (pb_val (pd_go O__law_alike (hr.mono (by first | decide | omega)) (by rfl) (pl_cons (pd_var 1) (pl_cons (pd_var 2) pl_nil))))))))) (pc_one (pc_ret pd_bl)) pc_nil)
    (pc_cons (pc_app 1 pd_str)
    (pc_one (pc_ret (pd_go O__law_alike (hr.mono (by first | decide | omega)) (by rfl) (pl_cons (pd_n (pn_go O_sides (hr.mono (by first | decide | omega)) (by rfl) (pl_cons (pd_var 0) pl_nil))) (pl_cons (pd_var 2) pl_nil))))))))), fun ws w h => ?h3⟩
  case h1 => unfold gSR at h; split at h <;> first | rfl | cases h
  case h3 =>
    unfold gSR at h; split at h
    · rename_i x
      split at h
      · rename_i hp
        cases h
        obtain ⟨ns, rfl, l1, l4, hr, hb⟩ := piece_inv hp
        have hS : ∀ n : Nat, ns.length = n → sidesD (ns.map .int) = if n = 1 then [] else (tsort ((List.range n).map ns.eraseIdx)).map tupI := fun n hn => by
          subst hn
          unfold sidesD
          rw [List.length_map, ← drops_sorted l1 l4 hr]
          split
          · rfl
          · rw [List.map_map]
            apply List.map_congr_left
            intro k _
            show PyData.tuple _ = PyData.tuple _
            rw [erase_map]
        have hso : okd 3 (.list (sidesD (ns.map .int))) = true := by
          rw [hS _ rfl]
          unfold okd
          split
          · rfl
          · rw [Bool.and_eq_true, decide_eq_true_eq, List.length_map, List.all_map, List.all_eq_true]
            have hm : ∀ l : List Int, l ∈ tsort ((List.range ns.length).map ns.eraseIdx) → l.length ≤ 4 := fun l hl => by
              have q := (List.mergeSort_perm _ lexle).mem_iff.mp hl
              obtain ⟨k, _, rfl⟩ := List.mem_map.mp q
              exact Nat.le_trans (List.length_eraseIdx_le ..) l4
            refine ⟨?_, fun l hl => ?_⟩
            · unfold tsort
              rw [List.length_mergeSort, List.length_map, List.length_range]
              omega
            · show okd 2 (.tuple (l.map .int)) = true
              exact okd_T (n := 0) (Nat.le_trans (hm l hl) (by decide))
        have hG := gAlike_ok hso
        have hz : (ns.map PyData.int).length ≤ 1000 := by rw [List.length_map]; omega
        have hs : gSides [.d (.tuple (ns.map .int))] = some (sidesD (ns.map .int)) := if_pos hz
        have hl : (ns.map PyData.int).length = ns.length := List.length_map _
        by_cases n1 : ns.length = 1
        · have e0 : sidesD (ns.map .int) = [] := by rw [hS _ n1]; rfl
          rw [e0] at hG hs
          have e1 : decide (1 < ((ns.map PyData.int).length : Int)) = false := decide_eq_false (by omega)
          simp [seqF, nxF, ifF, setF, setN, retF, retNF, f1, f2, f3, fV, fC, fB, isB, fAnd, fOr, fNot, fIf, fAndV, fOrV, fNotV, fNil, fCons, fA, fAN, fTup, fLst, fDs, datas, startR, retD, retL, List.set_cons_zero, List.set_cons_succ, List.getElem?_cons_zero, List.getElem?_cons_succ, List.map_cons, List.map_nil, List.replicate, List.cons_append, List.nil_append, Option.bind_some, Option.bind_none, Option.map_some, Option.map_none, ↓reduceIte, gsC, gsN, gT, gN, fSeq, fRng, fYes, List.length_cons, List.length_nil, Nat.add_one_sub_one, Nat.sub_zero, Nat.sub_self, Nat.zero_add, Nat.reduceAdd, Nat.reduceSub, ev_sub, ev_mul, ev_div, ev_mod, ev_pow, ev_neg, ev_add, ev_addL, ev_addT, ev_lt, ev_le, ev_gt, ev_ge, ev_eq, ev_ne, ev_eqT, ev_neT, ev_isi, ev_lenL, ev_lenT, ev_listL, ev_listT, ev_tupL, ev_tupT, ev_ixL, ev_ixT, ev_back, ev_backL, ev_all, ev_lst, ev_tup, ev_typ, ev_sort, fzR, fSlT, fSlL, fEnd, fNo, fSorS, fXorS, fSet, f1N, fIsi2, sh_int, sh_bool, sh_none, eqv_int, eqv_bool, eqv_none, isi_list, isi_tuple, isi_bool, isi_int, lentB, lentD, lentN, lent, flatD, appF, clrF, loopF, hs, hG, e1, isLst, hl, n1]
        · have LC : ∀ a b c, fLc [3] (fRng rng1W (fCons (fA lenW (fCons (fV 0) fNil)) fNil)) (gN 3) fYes (f2 addW (fSlT (fV 0) fNo (fEnd (fV 3))) (fSlT (fV 0) (fEnd (f2 addW (fV 3) (fC (.d (.int 1))))) fNo)) [.w (.d (.tuple (ns.map .int))), a, b, c] = some (((List.range ns.length).map ns.eraseIdx).map tupI) := fun a b c => by
            have r1 : rng1W [.d (.int ((ns.map PyData.int).length : Int))] = some (rngW 0 ns.length) := by
              rw [rng1_ok (by omega) (by omega), hl]
              rfl
            refine fLc_ok (ws := rngW 0 ns.length) ?_ (by unfold rngW; rw [List.length_map, List.length_range]; omega) ?_
            · simp only [seqF, nxF, ifF, setF, setN, retF, retNF, f1, f2, f3, fV, fC, fB, isB, fAnd, fOr, fNot, fIf, fAndV, fOrV, fNotV, fNil, fCons, fA, fAN, fTup, fLst, fDs, datas, startR, retD, retL, List.set_cons_zero, List.set_cons_succ, List.getElem?_cons_zero, List.getElem?_cons_succ, List.map_cons, List.map_nil, List.replicate, List.cons_append, List.nil_append, Option.bind_some, Option.bind_none, Option.map_some, Option.map_none, ↓reduceIte, gsC, gsN, gT, gN, fSeq, fRng, fYes, List.length_cons, List.length_nil, Nat.add_one_sub_one, Nat.sub_zero, Nat.sub_self, Nat.zero_add, Nat.reduceAdd, Nat.reduceSub, ev_sub, ev_mul, ev_div, ev_mod, ev_pow, ev_neg, ev_add, ev_addL, ev_addT, ev_lt, ev_le, ev_gt, ev_ge, ev_eq, ev_ne, ev_eqT, ev_neT, ev_isi, ev_lenL, ev_lenT, ev_listL, ev_listT, ev_tupL, ev_tupT, ev_ixL, ev_ixT, ev_back, ev_backL, ev_all, ev_lst, ev_tup, ev_typ, ev_sort, fzR, fSlT, fSlL, fEnd, fNo, fSorS, fXorS, fSet, f1N, fIsi2, sh_int, sh_bool, sh_none, eqv_int, eqv_bool, eqv_none, isi_list, isi_tuple, isi_bool, isi_int, lentB, lentD, lentN, lent, flatD, appF, clrF, loopF, r1]
            · rw [List.map_map]
              refine lcF_over _ fun k hk => ⟨_, rfl, rfl, ?_⟩
              have hk2 := List.mem_range.mp hk
              have e2 : (k : Int) + 1 = ((k + 1 : Nat) : Int) := by omega
              have e3 : (ns.map PyData.int).take k ++ (ns.map PyData.int).drop (k + 1) = (ns.eraseIdx k).map .int := by rw [← erase_map, List.eraseIdx_eq_take_drop_succ]
              have e4 : ((ns.map PyData.int).take k).length + ((ns.map PyData.int).drop (k + 1)).length ≤ 100000 := by rw [List.length_take, List.length_drop]; omega
              simp only [seqF, nxF, ifF, setF, setN, retF, retNF, f1, f2, f3, fV, fC, fB, isB, fAnd, fOr, fNot, fIf, fAndV, fOrV, fNotV, fNil, fCons, fA, fAN, fTup, fLst, fDs, datas, startR, retD, retL, List.set_cons_zero, List.set_cons_succ, List.getElem?_cons_zero, List.getElem?_cons_succ, List.map_cons, List.map_nil, List.replicate, List.cons_append, List.nil_append, Option.bind_some, Option.bind_none, Option.map_some, Option.map_none, ↓reduceIte, gsC, gsN, gT, gN, fSeq, fRng, fYes, List.length_cons, List.length_nil, Nat.add_one_sub_one, Nat.sub_zero, Nat.sub_self, Nat.zero_add, Nat.reduceAdd, Nat.reduceSub, ev_sub, ev_mul, ev_div, ev_mod, ev_pow, ev_neg, ev_add, ev_addL, ev_addT, ev_lt, ev_le, ev_gt, ev_ge, ev_eq, ev_ne, ev_eqT, ev_neT, ev_isi, ev_lenL, ev_lenT, ev_listL, ev_listT, ev_tupL, ev_tupT, ev_ixL, ev_ixT, ev_back, ev_backL, ev_all, ev_lst, ev_tup, ev_typ, ev_sort, fzR, fSlT, fSlL, fEnd, fNo, fSorS, fXorS, fSet, f1N, fIsi2, sh_int, sh_bool, sh_none, eqv_int, eqv_bool, eqv_none, isi_list, isi_tuple, isi_bool, isi_int, lentB, lentD, lentN, lent, flatD, appF, clrF, loopF, wipeR, Int.zero_add, e2, cut_to, cut_from, e4, e3]
              rfl
          have hst : sortTW (10 ^ 60 + 1) [.d (.list (((List.range ns.length).map ns.eraseIdx).map tupI))] = some (sidesD (ns.map .int)) := by
            rw [hS _ rfl, if_neg n1]
            refine sortTW_ok (d := ns.length - 1) (by omega) (by intro z; have y := congrArg List.length z; rw [List.length_map, List.length_range, List.length_nil] at y; omega) (by rw [List.length_map, List.length_range]; omega) fun m hm => ?_
            obtain ⟨k, hk, rfl⟩ := List.mem_map.mp hm
            have hk2 := List.mem_range.mp hk
            refine ⟨by rw [List.length_eraseIdx_of_lt hk2], fun a ha => ?_⟩
            have q := hb a (List.mem_of_mem_eraseIdx ha)
            exact ⟨q.1, Int.lt_add_one_of_le q.2⟩
          have e1 : decide (1 < ((ns.map PyData.int).length : Int)) = true := decide_eq_true (by omega)
          have hsl : (sidesD (ns.map .int)).length < 100000 := by
            have q : (sidesD (ns.map .int)).length ≤ 1000 := by
              unfold sidesD
              split
              · exact Nat.zero_le _
              · rw [List.length_map, List.length_range]; exact hz
            omega
          have e2 : (1 : Int) < (ns.length : Int) := by omega
          have hst2 : sortTW 1000000000000000000000000000000000000000000000000000000000001 [.d (.list (((List.range ns.length).map ns.eraseIdx).map tupI))] = some (sidesD (ns.map .int)) := hst
          generalize sidesD (ns.map .int) = S at *
          generalize ((List.range ns.length).map ns.eraseIdx).map tupI = DL at LC hst2
          simp [seqF, nxF, ifF, setF, setN, retF, retNF, f1, f2, f3, fV, fC, fB, isB, fAnd, fOr, fNot, fIf, fAndV, fOrV, fNotV, fNil, fCons, fA, fAN, fTup, fLst, fDs, datas, startR, retD, retL, List.set_cons_zero, List.set_cons_succ, List.getElem?_cons_zero, List.getElem?_cons_succ, List.map_cons, List.map_nil, List.replicate, List.cons_append, List.nil_append, Option.bind_some, Option.bind_none, Option.map_some, Option.map_none, ↓reduceIte, gsC, gsN, gT, gN, fSeq, fRng, fYes, List.length_cons, List.length_nil, Nat.add_one_sub_one, Nat.sub_zero, Nat.sub_self, Nat.zero_add, Nat.reduceAdd, Nat.reduceSub, ev_sub, ev_mul, ev_div, ev_mod, ev_pow, ev_neg, ev_add, ev_addL, ev_addT, ev_lt, ev_le, ev_gt, ev_ge, ev_eq, ev_ne, ev_eqT, ev_neT, ev_isi, ev_lenL, ev_lenT, ev_listL, ev_listT, ev_tupL, ev_tupT, ev_ixL, ev_ixT, ev_back, ev_backL, ev_all, ev_lst, ev_tup, ev_typ, ev_sort, fzR, fSlT, fSlL, fEnd, fNo, fSorS, fXorS, fSet, f1N, fIsi2, sh_int, sh_bool, sh_none, eqv_int, eqv_bool, eqv_none, isi_list, isi_tuple, isi_bool, isi_int, lentB, lentD, lentN, lent, flatD, appF, clrF, loopF, hs, hG, e2, isLst, LC, hst2, hsl]
      · cases h
    · cases h
noncomputable def gLaw : List W → Option W := fun ws => open Classical in if ∃ ns : List Int, ws = [.d (.list (ns.map .int))] ∧ ns.length ≤ 63 ∧ ∀ n ∈ ns, n.natAbs.log2 ≤ 2000000 then some (.d (.bool true)) else none
theorem gLaw_ok {ns : List Int} (h : ns.length ≤ 63) (hb : ∀ z ∈ ns, Builtin.Int.intBits z ≤ 1048576) : gLaw [.d (.list (ns.map .int))] = some (.d (.bool true)) := if_pos ⟨ns, rfl, h, fun z hz => bits_log (hb z hz)⟩
theorem gLaw_inv {ws : List W} {w : W} (h : gLaw ws = some w) : ∃ ns : List Int, ws = [.d (.list (ns.map .int))] ∧ ns.length ≤ 63 ∧ (∀ n ∈ ns, n.natAbs.log2 ≤ 2000000) ∧ w = .d (.bool true) := by
  unfold gLaw at h
  split at h
  · rename_i hx
    obtain ⟨ns, h1, h2, h3⟩ := hx
    cases h
    exact ⟨ns, h1, h2, h3, rfl⟩
  · cases h
abbrev hl (l : List Int) : PyData := .list (l.map .int)
theorem xor_mem {a h fa : List Int} (ha : ∀ k, k ∈ a ↔ fa.count k % 2 = 1) (hn : h.Nodup) : uniq (a.filter (fun j => !decide (j ∈ h)) ++ h.filter fun j => !decide (j ∈ a)) = oddN (fa ++ h) := by
  refine rises_eq (uniq_rises _) (uniq_rises _) fun k => ?_
  show _ ↔ k ∈ oddN (fa ++ h)
  rw [mem_uniq, mem_oddN, List.mem_append, List.mem_filter, List.mem_filter, List.count_append]
  have h1 := ha k
  by_cases hk : k ∈ h
  · have c1 : h.count k = 1 := by
      have q1 := List.count_pos_iff.mpr hk
      have q2 := List.nodup_iff_count.mp hn k
      omega
    by_cases hka : k ∈ a
    · have := h1.mp hka
      simp [hk, hka]
      omega
    · have : ¬ fa.count k % 2 = 1 := fun z => hka (h1.mpr z)
      simp [hk, hka]
      omega
  · have c0 : h.count k = 0 := List.count_eq_zero.mpr hk
    by_cases hka : k ∈ a
    · have := h1.mp hka
      simp [hk, hka]
      omega
    · have : ¬ fa.count k % 2 = 1 := fun z => hka (h1.mpr z)
      simp [hk, hka]
      omega
theorem uniq_nodup (l : List Int) : (uniq l).Nodup := (uniq_rises l).imp fun h => Int.ne_of_lt h
theorem gAdded_ok {a h fa : List Int} (ha : ∀ k, k ∈ a ↔ fa.count k % 2 = 1) (hn : h.Nodup) (l1 : a.length < 2000) (l2 : h.length < 2000) : gAdded [.d (hl a), .d (hl h)] = some ((oddN (fa ++ h)).map .int) := by
  show (numsOf (.d (.list (a.map .int)))).bind (fun x => (numsOf (.d (.list (h.map .int)))).bind fun y => (xorN x y).map fun z => (uniq z).map PyData.int) = _
  rw [nums_L l1, nums_L l2, Option.bind_some, Option.bind_some]
  unfold xorN
  rw [if_pos ⟨l1, l2⟩, Option.map_some, xor_mem ha hn]
theorem oddN_len (f : List Int) : (oddN f).length ≤ f.length := Nat.le_trans (uniq_len _) (List.length_filter_le _ _)
theorem okd_LL {n : Nat} {L : List (List Int)} (h : L.length ≤ 100000) (h2 : ∀ l ∈ L, l.length ≤ 100000) : okd (n + 3) (.list (L.map hl)) = true := by
  unfold okd
  rw [List.length_map, decide_eq_true h, Bool.true_and, List.all_map, List.all_eq_true]
  intro l hm
  exact okd_L (h2 l hm)
noncomputable def bodyL (gTh gHp gOd : List W → Option W) : Ro → Option Out := (seqF (setF 5 (fA gTh (fCons (fV 4) (fCons (fV 3) fNil)))) (seqF (setF 6 (fA gPiece (fCons (fV 5) fNil))) (seqF (ifF (fOr (fNot (fB (fA isiW (fCons (fV 6) (fCons (fC (W.ty "bool")) fNil))))) (fB (f2 neW (fV 6) (fA gPiece (fCons (fV 5) fNil))))) (retF (fC (W.d (PyData.bool false)))) nxF) (seqF (ifF (fAnd (fB (fV 6)) (fNot (fB (fA gSR (fCons (fV 5) fNil))))) (retF (fC (W.d (PyData.bool false)))) nxF) (seqF (setF 7 (fA gHp (fCons (fV 4) (fCons (fV 3) fNil)))) (seqF (setN 8 (fAN listW (fCons (fV 7) fNil))) (seqF (ifF (lentB 8 (lentB 1 (fAnd (fB (f2 neW (fV 1) (fLst (fDs fNil)))) (fNot (fB (fA (gAlike 3) (fCons (fLst (fAN gAdded (fCons (f2 ixW (fV 1) (f1 negW (fC (W.d (PyData.int 1))))) (fCons (fV 8) fNil)))) (fCons (fA gOd (fCons (f2 addW (fLst (fSlL (fV 1) (fEnd (f1 negW (fC (W.d (PyData.int 1))))) fNo)) (fLst (fDs (fCons (fV 7) fNil)))) fNil)) fNil)))))))) (retF (fC (W.d (PyData.bool false)))) nxF) (seqF (appF 1 (fV 7)) (seqF (setN 9 (fAN listW (fCons (fV 2) fNil))) (seqF (setF 2 (fLst (lentN 8 (lentN 9 (fAN gAdded (fCons (fV 9) (fCons (fV 8) fNil))))))) (seqF (ifF (lentB 8 (fOr (fNot (fB (fA isiW (fCons (fV 2) (fCons (fC (W.ty "list")) fNil))))) (fB (f2 neW (fV 8) (fV 7))))) (retF (fC (W.d (PyData.bool false)))) nxF) (seqF (appF 8 (fC (W.d (PyData.int 1)))) (clrF 9)))))))))))))
/-- what stands behind so many turns -/
def Inv1 (sc : W) (i : Nat) (ρ : Ro) : Prop := ∃ (L : List (List Int)) (s3 s4 s5 s6 s7 s8 s9 : Sl), ρ = [.w sc, .ow (L.map hl), .w (.d (hl (oddN L.flatten))), s3, s4, s5, s6, s7, s8, s9] ∧ L.length = i ∧ ∀ l ∈ L, l.length ≤ 8 ∧ l.Nodup
theorem flat_len : ∀ {L : List (List Int)}, (∀ l ∈ L, l.length ≤ 8 ∧ l.Nodup) → L.flatten.length ≤ 8 * L.length
  | [], _ => by simp
  | l :: L, h => by
    have ih := flat_len (L := L) fun m hm => h m (List.mem_cons_of_mem _ hm)
    have := (h l List.mem_cons_self).1
    rw [List.flatten_cons, List.length_append, List.length_cons]
    omega
theorem turn_ok {gTh gHp gOd : List W → Option W} (hT : ∀ c k : Int, c.natAbs.log2 ≤ 2000000 → 0 ≤ k → k ≤ 1000 → ∃ x, gTh [.d (.int c), .d (.int k)] = some (.d x))
    (hH : ∀ c k : Int, 0 ≤ k → k ≤ 1000 → ∃ ns : List Int, gHp [.d (.int c), .d (.int k)] = some (.d (.list ((uniq ns).map .int))) ∧ ns.length ≤ 8)
    (hO : ∀ L : List (List Int), L.flatten.length ≤ 1000 → gOd [.d (.list (L.map fun l => .list (l.map .int)))] = some (.d (.list ((oddN L.flatten).map .int)))) {sc : W} {i : Nat} {ρ : Ro} {c : Int} {k : Nat} (h : Inv1 sc i ρ) (hi : i ≤ 70) (hk : k ≤ 70) (hc : c.natAbs.log2 ≤ 2000000) :
    ∃ ρ', bodyL gTh gHp gOd ((ρ.set 3 (.w (.d (.int (k : Nat))))).set 4 (.w (.d (.int c)))) = some (.nx ρ') ∧ Inv1 sc (i + 1) ρ' := by
  obtain ⟨L, s3, s4, s5, s6, s7, s8, s9, rfl, hi2, hL⟩ := h
  obtain ⟨x, F1⟩ := hT c k hc (by omega) (by omega)
  have F2 : gPiece [.d x] = some (.d (.bool (pieceB x))) := rfl
  obtain ⟨hs, F4, hs8⟩ := hH c k (by omega) (by omega)
  have fl := flat_len hL
  have hn := uniq_nodup hs
  have h8 : (uniq hs).length ≤ 8 := Nat.le_trans (uniq_len hs) hs8
  generalize uniq hs = g at F4 hn h8
  have tl := oddN_len L.flatten
  have F6 := gAdded_ok (a := oddN L.flatten) (fa := L.flatten) (fun k => mem_oddN) hn (by omega) (by omega)
  have ef : L.flatten ++ g = (L ++ [g]).flatten := by simp
  rw [ef] at F6
  obtain ⟨o, ho⟩ : ∃ o, o = oddN (L ++ [g]).flatten := ⟨_, rfl⟩
  rw [← ho] at F6
  have shg : SeqAt.shaped (hl g) = true := sh_L (by omega)
  have eqg : PyData.eqv (hl g) (hl g) = true := by rw [eqv_L]; exact decide_eq_true rfl
  have flg : g.length < 100000 := by omega
  have flL : L.length < 100000 := by omega
  have fo : (o.map PyData.int).all flatD = true := by
    rw [List.all_map, List.all_eq_true]
    intro a _
    rfl
  have fin : Inv1 sc (i + 1) [.w sc, .ow ((L ++ [g]).map hl), .w (.d (hl o)), .w (.d (.int (k : Nat))), .w (.d (.int c)), .w (.d x), .w (.d (.bool (pieceB x))), .w (.d (hl g)), .ow (g.map .int ++ [.int 1]), .ow []] :=
    ⟨L ++ [g], _, _, _, _, _, _, _, by rw [ho], by rw [List.length_append]; simp [hi2], fun l hm => by
      rcases List.mem_append.mp hm with z | z
      · exact hL l z
      · rw [List.mem_singleton.mp z]
        exact ⟨h8, hn⟩⟩
  have sLg : okd 3 (.list (L.map hl)) = true := okd_LL (by omega) fun l hl => Nat.le_trans (hL l hl).1 (by decide)
  have C1 : ∀ b s, (lentB 8 (lentB 1 (fAnd (fB (f2 neW (fV 1) (fLst (fDs fNil)))) (fNot (fB (fA (gAlike 3) (fCons (fLst (fAN gAdded (fCons (f2 ixW (fV 1) (f1 negW (fC (W.d (PyData.int 1))))) (fCons (fV 8) fNil)))) (fCons (fA gOd (fCons (f2 addW (fLst (fSlL (fV 1) (fEnd (f1 negW (fC (W.d (PyData.int 1))))) fNo)) (fLst (fDs (fCons (fV 7) fNil)))) fNil)) fNil)))))))) [.w sc, .ow (L.map hl), .w (.d (.list ((oddN L.flatten).map .int))), .w (.d (.int (k : Nat))), .w (.d (.int c)), .w (.d x), .w (.d (.bool b)), .w (.d (.list (g.map .int))), .ow (g.map .int), s] = some false := fun b s => by
    by_cases hLe : L = []
    · subst hLe
      have e0 : PyData.eqv (.list []) (.list []) = true := by simp [PyData.eqv, PyData.eqvAll]
      have e1 : SeqAt.shaped (.list []) = true := rfl
      simp [seqF, nxF, ifF, setF, setN, retF, retNF, f1, f2, f3, fV, fC, fB, isB, fAnd, fOr, fNot, fIf, fAndV, fOrV, fNotV, fNil, fCons, fA, fAN, fTup, fLst, fDs, datas, startR, retD, retL, List.set_cons_zero, List.set_cons_succ, List.getElem?_cons_zero, List.getElem?_cons_succ, List.map_cons, List.map_nil, List.replicate, List.cons_append, List.nil_append, Option.bind_some, Option.bind_none, Option.map_some, Option.map_none, ↓reduceIte, gsC, gsN, gT, gN, fSeq, fRng, fYes, List.length_cons, List.length_nil, Nat.add_one_sub_one, Nat.sub_zero, Nat.sub_self, Nat.zero_add, Nat.reduceAdd, Nat.reduceSub, ev_sub, ev_mul, ev_div, ev_mod, ev_pow, ev_neg, ev_add, ev_addL, ev_addT, ev_lt, ev_le, ev_gt, ev_ge, ev_eq, ev_ne, ev_eqT, ev_neT, ev_isi, ev_lenL, ev_lenT, ev_listL, ev_listT, ev_tupL, ev_tupT, ev_ixL, ev_ixT, ev_back, ev_backL, ev_all, ev_lst, ev_tup, ev_typ, ev_sort, fzR, fSlT, fSlL, fEnd, fNo, fSorS, fXorS, fSet, f1N, fIsi2, sh_int, sh_bool, sh_none, eqv_int, eqv_bool, eqv_none, isi_list, isi_tuple, isi_bool, isi_int, lentB, lentD, lentN, lent, flatD, appF, clrF, loopF, e0, e1]
    · obtain ⟨L0, p, rfl⟩ : ∃ L0 p, L = L0 ++ [p] := ⟨L.dropLast, L.getLast hLe, (List.dropLast_concat_getLast hLe).symm⟩
      obtain ⟨p8, pn⟩ := hL p (by simp)
      have q1 : SeqAt.shaped (.list ((L0 ++ [p]).map hl)) = true := sh_okd sLg (by decide)
      have q2 : PyData.eqv (.list ((L0 ++ [p]).map hl)) (.list []) = false := by
        rw [PyData.eqv]
        cases L0 <;> rfl
      have q3 : atI ((L0 ++ [p]).map hl) (-1) = some (hl p) := by
        rw [List.map_append]
        exact atI_last _ _
      have q4 : PD.cutD ((L0 ++ [p]).map hl) (some (-1)) none = [hl p] := by
        rw [List.map_append]
        exact cut_last _ _
      have q5 := gAdded_ok (a := p) (fa := p) (h := g) (fun k => by
        have y1 := List.nodup_iff_count.mp pn k
        have y2 := List.count_pos_iff (a := k) (l := p)
        constructor
        · intro z
          have y3 := y2.mpr z
          omega
        · intro z
          exact y2.mp (by omega)) hn (by omega) (by omega)
      have q6 := hO [p, g] (by simp; omega)
      have e2 : [p, g].flatten = p ++ g := by simp
      rw [e2] at q6
      have q7 := gAlike_ok (n := 3) (x := hl (oddN (p ++ g))) (okd_L (by have := oddN_len (p ++ g); rw [List.length_append] at this; omega))
      have e1 : SeqAt.shaped (.list []) = true := rfl
      generalize (L0 ++ [p]).map hl = LL at q1 q2 q3 q4
      have q6' : gOd [.d (.list [hl p, .list (g.map .int)])] = _ := q6
      have q5' : gAdded [.d (hl p), .d (.list (g.map .int))] = _ := q5
      have q7' : gAlike 3 [.d (.list ((oddN (p ++ g)).map .int)), .d (.list ((oddN (p ++ g)).map .int))] = _ := q7
      simp [seqF, nxF, ifF, setF, setN, retF, retNF, f1, f2, f3, fV, fC, fB, isB, fAnd, fOr, fNot, fIf, fAndV, fOrV, fNotV, fNil, fCons, fA, fAN, fTup, fLst, fDs, datas, startR, retD, retL, List.set_cons_zero, List.set_cons_succ, List.getElem?_cons_zero, List.getElem?_cons_succ, List.map_cons, List.map_nil, List.replicate, List.cons_append, List.nil_append, Option.bind_some, Option.bind_none, Option.map_some, Option.map_none, ↓reduceIte, gsC, gsN, gT, gN, fSeq, fRng, fYes, List.length_cons, List.length_nil, Nat.add_one_sub_one, Nat.sub_zero, Nat.sub_self, Nat.zero_add, Nat.reduceAdd, Nat.reduceSub, ev_sub, ev_mul, ev_div, ev_mod, ev_pow, ev_neg, ev_add, ev_addL, ev_addT, ev_lt, ev_le, ev_gt, ev_ge, ev_eq, ev_ne, ev_eqT, ev_neT, ev_isi, ev_lenL, ev_lenT, ev_listL, ev_listT, ev_tupL, ev_tupT, ev_ixL, ev_ixT, ev_back, ev_backL, ev_all, ev_lst, ev_tup, ev_typ, ev_sort, fzR, fSlT, fSlL, fEnd, fNo, fSorS, fXorS, fSet, f1N, fIsi2, sh_int, sh_bool, sh_none, eqv_int, eqv_bool, eqv_none, isi_list, isi_tuple, isi_bool, isi_int, lentB, lentD, lentN, lent, flatD, appF, clrF, loopF, q1, q2, q3, q4, e1, q5', q6', q7']
  have N2 : ∀ b s3 s4 s5 s7, (lentN 8 (lentN 9 (fAN gAdded (fCons (fV 9) (fCons (fV 8) fNil))))) [.w sc, s3, s4, s5, s7, .w (.d x), .w (.d (.bool b)), .w (.d (.list (g.map .int))), .ow (g.map .int), .ow ((oddN L.flatten).map .int)] = some (o.map .int) := fun b s3 s4 s5 s7 => by
    simp only [seqF, nxF, ifF, setF, setN, retF, retNF, f1, f2, f3, fV, fC, fB, isB, fAnd, fOr, fNot, fIf, fAndV, fOrV, fNotV, fNil, fCons, fA, fAN, fTup, fLst, fDs, datas, startR, retD, retL, List.set_cons_zero, List.set_cons_succ, List.getElem?_cons_zero, List.getElem?_cons_succ, List.map_cons, List.map_nil, List.replicate, List.cons_append, List.nil_append, Option.bind_some, Option.bind_none, Option.map_some, Option.map_none, ↓reduceIte, gsC, gsN, gT, gN, fSeq, fRng, fYes, List.length_cons, List.length_nil, Nat.add_one_sub_one, Nat.sub_zero, Nat.sub_self, Nat.zero_add, Nat.reduceAdd, Nat.reduceSub, ev_sub, ev_mul, ev_div, ev_mod, ev_pow, ev_neg, ev_add, ev_addL, ev_addT, ev_lt, ev_le, ev_gt, ev_ge, ev_eq, ev_ne, ev_eqT, ev_neT, ev_isi, ev_lenL, ev_lenT, ev_listL, ev_listT, ev_tupL, ev_tupT, ev_ixL, ev_ixT, ev_back, ev_backL, ev_all, ev_lst, ev_tup, ev_typ, ev_sort, fzR, fSlT, fSlL, fEnd, fNo, fSorS, fXorS, fSet, f1N, fIsi2, sh_int, sh_bool, sh_none, eqv_int, eqv_bool, eqv_none, isi_list, isi_tuple, isi_bool, isi_int, lentB, lentD, lentN, lent, flatD, appF, clrF, loopF, F6, fo]
  have C2 : ∀ b s s1 s2 s3 s4, (lentB 8 (fOr (fNot (fB (fA isiW (fCons (fV 2) (fCons (fC (W.ty "list")) fNil))))) (fB (f2 neW (fV 8) (fV 7))))) [.w sc, s, .w (.d (.list (o.map .int))), s1, s2, s3, .w (.d (.bool b)), .w (.d (.list (g.map .int))), .ow (g.map .int), s4] = some false := fun b s s1 s2 s3 s4 => by
    have q1 : SeqAt.shaped (.list (g.map .int)) = true := shg
    have q2 : PyData.eqv (.list (g.map .int)) (.list (g.map .int)) = true := eqg
    simp [seqF, nxF, ifF, setF, setN, retF, retNF, f1, f2, f3, fV, fC, fB, isB, fAnd, fOr, fNot, fIf, fAndV, fOrV, fNotV, fNil, fCons, fA, fAN, fTup, fLst, fDs, datas, startR, retD, retL, List.set_cons_zero, List.set_cons_succ, List.getElem?_cons_zero, List.getElem?_cons_succ, List.map_cons, List.map_nil, List.replicate, List.cons_append, List.nil_append, Option.bind_some, Option.bind_none, Option.map_some, Option.map_none, ↓reduceIte, gsC, gsN, gT, gN, fSeq, fRng, fYes, List.length_cons, List.length_nil, Nat.add_one_sub_one, Nat.sub_zero, Nat.sub_self, Nat.zero_add, Nat.reduceAdd, Nat.reduceSub, ev_sub, ev_mul, ev_div, ev_mod, ev_pow, ev_neg, ev_add, ev_addL, ev_addT, ev_lt, ev_le, ev_gt, ev_ge, ev_eq, ev_ne, ev_eqT, ev_neT, ev_isi, ev_lenL, ev_lenT, ev_listL, ev_listT, ev_tupL, ev_tupT, ev_ixL, ev_ixT, ev_back, ev_backL, ev_all, ev_lst, ev_tup, ev_typ, ev_sort, fzR, fSlT, fSlL, fEnd, fNo, fSorS, fXorS, fSet, f1N, fIsi2, sh_int, sh_bool, sh_none, eqv_int, eqv_bool, eqv_none, isi_list, isi_tuple, isi_bool, isi_int, lentB, lentD, lentN, lent, flatD, appF, clrF, loopF, isLst, q1, q2]
  refine ⟨_, ?_, fin⟩
  unfold bodyL
  cases hp : pieceB x with
  | true =>
    have F3 : gSR [.d x] = some (.d (.bool true)) := if_pos hp
    rw [hp] at F2
    simp [seqF, nxF, ifF, setF, setN, retF, retNF, f1, f2, f3, fV, fC, fB, isB, fAnd, fOr, fNot, fIf, fAndV, fOrV, fNotV, fNil, fCons, fA, fAN, fTup, fLst, fDs, datas, startR, retD, retL, List.set_cons_zero, List.set_cons_succ, List.getElem?_cons_zero, List.getElem?_cons_succ, List.map_cons, List.map_nil, List.replicate, List.cons_append, List.nil_append, Option.bind_some, Option.bind_none, Option.map_some, Option.map_none, ↓reduceIte, gsC, gsN, gT, gN, fSeq, fRng, fYes, List.length_cons, List.length_nil, Nat.add_one_sub_one, Nat.sub_zero, Nat.sub_self, Nat.zero_add, Nat.reduceAdd, Nat.reduceSub, ev_sub, ev_mul, ev_div, ev_mod, ev_pow, ev_neg, ev_add, ev_addL, ev_addT, ev_lt, ev_le, ev_gt, ev_ge, ev_eq, ev_ne, ev_eqT, ev_neT, ev_isi, ev_lenL, ev_lenT, ev_listL, ev_listT, ev_tupL, ev_tupT, ev_ixL, ev_ixT, ev_back, ev_backL, ev_all, ev_lst, ev_tup, ev_typ, ev_sort, fzR, fSlT, fSlL, fEnd, fNo, fSorS, fXorS, fSet, f1N, fIsi2, sh_int, sh_bool, sh_none, eqv_int, eqv_bool, eqv_none, isi_list, isi_tuple, isi_bool, isi_int, lent, flatD, appF, clrF, loopF, F1, F2, F3, F4, C1, isBool, flL, N2, C2, flg]
  | false =>
    rw [hp] at F2
    simp [seqF, nxF, ifF, setF, setN, retF, retNF, f1, f2, f3, fV, fC, fB, isB, fAnd, fOr, fNot, fIf, fAndV, fOrV, fNotV, fNil, fCons, fA, fAN, fTup, fLst, fDs, datas, startR, retD, retL, List.set_cons_zero, List.set_cons_succ, List.getElem?_cons_zero, List.getElem?_cons_succ, List.map_cons, List.map_nil, List.replicate, List.cons_append, List.nil_append, Option.bind_some, Option.bind_none, Option.map_some, Option.map_none, ↓reduceIte, gsC, gsN, gT, gN, fSeq, fRng, fYes, List.length_cons, List.length_nil, Nat.add_one_sub_one, Nat.sub_zero, Nat.sub_self, Nat.zero_add, Nat.reduceAdd, Nat.reduceSub, ev_sub, ev_mul, ev_div, ev_mod, ev_pow, ev_neg, ev_add, ev_addL, ev_addT, ev_lt, ev_le, ev_gt, ev_ge, ev_eq, ev_ne, ev_eqT, ev_neT, ev_isi, ev_lenL, ev_lenT, ev_listL, ev_listT, ev_tupL, ev_tupT, ev_ixL, ev_ixT, ev_back, ev_backL, ev_all, ev_lst, ev_tup, ev_typ, ev_sort, fzR, fSlT, fSlL, fEnd, fNo, fSorS, fXorS, fSet, f1N, fIsi2, sh_int, sh_bool, sh_none, eqv_int, eqv_bool, eqv_none, isi_list, isi_tuple, isi_bool, isi_int, lent, flatD, appF, clrF, loopF, F1, F2, F4, C1, isBool, flL, N2, C2, flg]
theorem ok_law {gTh gHp gOd : List W → Option W} {f : Addr} {fd : FuncData} (T : Txt mg) (F : Fun K "law" "law" s_law f fd) (O_is_piece : Keeps P w K mg base "is_piece" ["thing"] 3 (spD K gPiece)) (O_added : Keeps P w K mg base "added" ["one", "other"] 1 (spN K gAdded)) (O__law_is : Keeps P w K mg base "_law_is" ["_law_thing_here"] 1 (spD K gPiece))
    (O__law_sides_right : Keeps P w K mg base "_law_sides_right" ["_law_piece"] 5 (spD K gSR)) (O__law_alike : Keeps P w K mg base "_law_alike" ["_law_found", "_law_due"] 4 (spD K (gAlike 3)))
    (O__law_thing : Keeps P w K mg base "_law_thing" ["_law_cell", "_law_k"] 2 (spD K gTh)) (O__law_heap_by : Keeps P w K mg base "_law_heap_by" ["_law_cell", "_law_k"] 2 (spD K gHp)) (O__law_odd : Keeps P w K mg base "_law_odd" ["_law_heaps"] 1 (spD K gOd))
    (hT : ∀ c k : Int, c.natAbs.log2 ≤ 2000000 → 0 ≤ k → k ≤ 1000 → ∃ x, gTh [.d (.int c), .d (.int k)] = some (.d x))
    (hH : ∀ c k : Int, 0 ≤ k → k ≤ 1000 → ∃ ns : List Int, gHp [.d (.int c), .d (.int k)] = some (.d (.list ((uniq ns).map .int))) ∧ ns.length ≤ 8)
    (hO : ∀ L : List (List Int), L.flatten.length ≤ 1000 → gOd [.d (.list (L.map fun l => .list (l.map .int)))] = some (.d (.list ((oddN L.flatten).map .int)))) : FnOk P w K mg base CX0 6 f fd ["_law_script"] (spD K gLaw) := by
  refine okD (k := 5) F sc_law (by decide) (fun ws w h => ?h1) ⟨_, fun cdv A outer s H E hr => (pc_cons (pc_setN 1 (pn_lst pl_nil) sc_law.nd)
    (pc_cons (pc_set 2 (pd_n (pn_lst pl_nil)) sc_law.nd)
    (pc_cons (pc_for (by rfl) (pw_enum (by rfl) T.z_enumerate (pl_cons (pd_add (pd_var 0) (pd_n (pn_lst (pl_cons pd_int (pl_cons pd_int pl_nil))))) pl_nil)) (pgd_tup (n := 2) (by rfl) (pgds_cons (pgd_name 3 sc_law.nd) (pgds_cons (pgd_name 4 sc_law.nd) pgds_nil)))
    (pc_cons (pc_set 5 (pd_go O__law_thing (hr.mono (by first | decide | omega)) (by rfl) (pl_cons (pd_var 4) (pl_cons (pd_var 3) pl_nil))) sc_law.nd)
    (pc_cons (pc_set 6 (pd_go O_is_piece (hr.mono (by first | decide | omega)) (by rfl) (pl_cons (pd_var 5) pl_nil)) sc_law.nd)
    (pc_cons (pc_if (pb_w (pwb_or (pb_not (pb_val (pd_isi (by rfl) T.z_isinstance (pl_cons (pd_var 6) (pl_cons (pd_ty (n := "bool") (by rfl) T.z_bool (by decide +kernel)) pl_nil))))) (pwb_or1 (pb_ne (hr.units) (pd_var 6) (pd_go O__law_is (hr.mono (by first | decide | omega)) (by rfl) (pl_cons (pd_var 5) pl_nil)))))) (pc_one (pc_ret pd_bl)) pc_nil)
    (pc_cons (pc_if (pb_w (pwb_and (pb_val (pd_var 6)) (pwb_and1 (pb_not (pb_val (pd_go O__law_sides_right (hr.mono (by first | decide | omega)) (by rfl) (pl_cons (pd_var 5) pl_nil))))))) (pc_one (pc_ret pd_bl)) pc_nil)
    (pc_cons (pc_set 7 (pd_go O__law_heap_by (hr.mono (by first | decide | omega)) (by rfl) (pl_cons (pd_var 4) (pl_cons (pd_var 3) pl_nil))) sc_law.nd)
    (pc_cons (pc_setN 8 (pn_list (by rfl) T.z_list (pl_cons (pd_var 7) pl_nil)) sc_law.nd)
    (pc_cons (pc_if (pb_lent 8 (pb_lent 1 (pb_w (pwb_and (pb_ne (hr.units) (pd_var 1) (pd_n (pn_lst pl_nil))) (pwb_and1 (pb_not (pb_val (pd_go O__law_alike (hr.mono (by first | decide | omega)) (by rfl) (pl_cons (pd_n (pn_go O_added (hr.mono (by first | decide | omega)) (by rfl) (pl_cons (pd_ix (fun _ _ => rfl) (pd_var 1) (pd_neg pd_int)) (pl_cons (pd_var 8) pl_nil)))) (pl_cons (pd_go O__law_odd (hr.mono (by first | decide | omega)) (by rfl) (pl_cons (pd_add (pd_n (pn_slL (pd_var 1) (pend_some (pd_neg pd_int)) pend_no)) (pd_n (pn_lst (pl_cons (pd_var 7) pl_nil)))) pl_nil)) pl_nil)))))))))) (pc_one (pc_ret pd_bl)) pc_nil)
    (pc_cons (pc_app 1 (pd_var 7))
    (pc_cons (pc_setN 9 (pn_list (by rfl) T.z_list (pl_cons (pd_var 2) pl_nil)) sc_law.nd)
    (pc_cons (pc_set 2 (pd_n (pn_lent 8 (pn_lent 9 (pn_go O_added (hr.mono (by first | decide | omega)) (by rfl) (pl_cons (pd_var 9) (pl_cons (pd_var 8) pl_nil)))))) sc_law.nd)
    (pc_cons (pc_if (pb_lent 8 (pb_w (pwb_or (pb_not (pb_val (pd_isi (by rfl) T.z_isinstance (pl_cons (pd_var 2) (pl_cons (pd_ty (n := "list") (by rfl) T.z_list (by decide +kernel)) pl_nil))))) (pwb_or1 (pb_ne (hr.units) (pd_var 8) (pd_var 7)))))) (pc_one (pc_ret pd_bl)) pc_nil)
    (pc_cons (pc_app 8 pd_int)
    (pc_one (pc_clr 9)))))))))))))) PassesOwn.never)
    (pc_one (pc_ret (pd_lent 1 (pd_go O__law_alike (hr.mono (by first | decide | omega)) (by rfl) (pl_cons (pd_var 2) (pl_cons (pd_go O__law_odd (hr.mono (by first | decide | omega)) (by rfl) (pl_cons (pd_var 1) pl_nil)) pl_nil))))))))), fun ws w h => ?h3⟩
  case h1 =>
    obtain ⟨ns, rfl, _⟩ := gLaw_inv h
    rfl
  case h3 =>
    obtain ⟨ns, rfl, hnl, hb, rfl⟩ := gLaw_inv h
    have hN : ∀ k : Nat, k < ns.length + 2 → ∃ c : Int, ((ns ++ [4, 5]).map PyData.int).getD k .none = .int c ∧ c.natAbs.log2 ≤ 2000000 := fun k hk => by
      have hk2 : k < (ns ++ [4, 5]).length := by rw [List.length_append]; exact hk
      refine ⟨(ns ++ [4, 5])[k], ?_, ?_⟩
      · rw [List.getD_eq_getElem?_getD, List.getElem?_map, List.getElem?_eq_getElem hk2]
        rfl
      · rcases List.mem_append.mp (List.getElem_mem hk2) with z | z
        · exact hb _ z
        · have q : ∀ c : Int, c ∈ ([4, 5] : List Int) → c.natAbs.log2 ≤ 2000000 := by decide
          exact q _ z
    have key := forF_over (g := PD.gT 2 (gsC (gN 3) (gsC (gN 4) gsN))) (body := bodyL gTh gHp gOd) (c := fun k : Nat => W.d (.tuple [.int (k : Int), ((ns ++ [4, 5]).map PyData.int).getD k .none]))
      (fun l ρ => ∃ i, Inv1 (.d (.list (ns.map .int))) i ρ ∧ i + l.length = ns.length + 2 ∧ ∀ k ∈ l, k < ns.length + 2) (by
        rintro k l ρ ⟨i, hi, hil, hkl⟩
        obtain ⟨c, hc, hcb⟩ := hN k (hkl k List.mem_cons_self)
        have hk := hkl k List.mem_cons_self
        rw [List.length_cons] at hil
        obtain ⟨ρ', h1, h2⟩ := turn_ok hT hH hO hi (by omega) (by omega : k ≤ 70) hcb
        refine ⟨(ρ.set 3 (.w (.d (.int (k : Nat))))).set 4 (.w (.d (.int c))), ρ', ?_, h1, i + 1, h2, by omega, fun k hk => hkl k (List.mem_cons_of_mem _ hk)⟩
        rw [hc]
        rfl)
    obtain ⟨ρ', h1, i, ⟨L, s3, s4, s5, s6, s7, s8, s9, rfl, hi2, hL⟩, _, _⟩ := key (List.range (ns.length + 2)) [.w (.d (.list (ns.map .int))), .ow [], .w (.d (.list [])), .no, .no, .no, .no, .no, .no, .no]
      ⟨0, ⟨[], _, _, _, _, _, _, _, rfl, rfl, fun l h => by cases h⟩, by rw [List.length_range]; omega, fun k hk => List.mem_range.mp hk⟩
    have fl := flat_len hL
    have hfl : L.flatten.length ≤ 1000 := by
      have : i ≤ ns.length + 2 := by omega
      omega
    have q1 := hO L hfl
    have q2 := gAlike_ok (n := 3) (x := hl (oddN L.flatten)) (okd_L (by have := oddN_len L.flatten; omega))
    have q1' : gOd [.d (.list (L.map hl))] = _ := q1
    have q2' : gAlike 3 [.d (.list ((oddN L.flatten).map .int)), .d (.list ((oddN L.flatten).map .int))] = _ := q2
    have hEn : enumW [.d (.list ((ns.map PyData.int) ++ [.int 4, .int 5]))] = some ((List.range (ns.length + 2)).map fun (k : Nat) => .d (.tuple [.int (k : Int), ((ns ++ [4, 5]).map PyData.int).getD k .none])) := by
      have e : (ns.map PyData.int) ++ [.int 4, .int 5] = (ns ++ [4, 5]).map .int := by simp
      rw [e]
      show some _ = some _
      rw [List.length_map, List.length_append]
      rfl
    have hz : ns.length + 2 ≤ 100000 := by omega
    unfold bodyL at h1
    generalize (List.range (ns.length + 2)).map (fun (k : Nat) => W.d (.tuple [.int (k : Int), ((ns ++ [4, 5]).map PyData.int).getD k .none])) = WS at h1 hEn
    generalize bodyT : (seqF (setF 5 (fA gTh (fCons (fV 4) (fCons (fV 3) fNil)))) _) = BD at h1 ⊢
    simp [seqF, nxF, ifF, setF, setN, retF, retNF, f1, f2, f3, fV, fC, fB, isB, fAnd, fOr, fNot, fIf, fAndV, fOrV, fNotV, fNil, fCons, fA, fAN, fTup, fLst, fDs, datas, startR, retD, retL, List.set_cons_zero, List.set_cons_succ, List.getElem?_cons_zero, List.getElem?_cons_succ, List.map_cons, List.map_nil, List.replicate, List.cons_append, List.nil_append, Option.bind_some, Option.bind_none, Option.map_some, Option.map_none, ↓reduceIte, gsC, gsN, gT, gN, fSeq, fRng, fYes, List.length_cons, List.length_nil, Nat.add_one_sub_one, Nat.sub_zero, Nat.sub_self, Nat.zero_add, Nat.reduceAdd, Nat.reduceSub, ev_sub, ev_mul, ev_div, ev_mod, ev_pow, ev_neg, ev_add, ev_addL, ev_addT, ev_lt, ev_le, ev_gt, ev_ge, ev_eq, ev_ne, ev_eqT, ev_neT, ev_isi, ev_lenL, ev_lenT, ev_listL, ev_listT, ev_tupL, ev_tupT, ev_ixL, ev_ixT, ev_back, ev_backL, ev_all, ev_lst, ev_tup, ev_typ, ev_sort, fzR, fSlT, fSlL, fEnd, fNo, fSorS, fXorS, fSet, f1N, fIsi2, sh_int, sh_bool, sh_none, eqv_int, eqv_bool, eqv_none, isi_list, isi_tuple, isi_bool, isi_int, lent, flatD, appF, clrF, loopF, hEn, hz, h1, lentD, lent, q1', q2', flatD]
end
theorem all_keep {P : Program} {w : World} {K : PySem.W.Frag} {mg : Str → Option Value} {fa : Addr} (hfa : mg "law" = some (.ref fa))
    (A1 : Stands K mg "is_whole" s_is_whole ["thing"]) (A2 : Stands K mg "is_piece" s_is_piece ["thing"]) (A3 : Stands K mg "is_corner" s_is_corner ["thing"]) (A4 : Stands K mg "sides" s_sides ["piece"]) (A5 : Stands K mg "added" s_added ["one", "other"])
    (A6 : Stands K mg "_law_mixed" s__law_mixed ["_law_cell", "_law_k"]) (A7 : Stands K mg "_law_alike" s__law_alike ["_law_found", "_law_due"]) (A8 : Stands K mg "_law_thing" s__law_thing ["_law_cell", "_law_k"]) (A9 : Stands K mg "_law_is" s__law_is ["_law_thing_here"]) (A10 : Stands K mg "_law_heap_by" s__law_heap_by ["_law_cell", "_law_k"])
    (A11 : Stands K mg "_law_odd" s__law_odd ["_law_heaps"]) (A12 : Stands K mg "_law_sides_right" s__law_sides_right ["_law_piece"]) (A13 : Stands K mg "law" s_law ["_law_script"]) (T : Txt mg) :
    ∃ fd : FuncData, (∀ (s : Shared) (v : Value), BindsTo s fd ⟨[v], []⟩ [("_law_script", v)]) ∧ ∀ base : Heap, K.In base → base.Ns mainGlobals mg → FnOk P w K mg base CX0 6 fa fd ["_law_script"] (spD K gLaw) := by
  obtain ⟨f, fd, F, gm, _, _⟩ := A13
  have e := hfa.symm.trans gm
  cases e
  refine ⟨fd, bind_one F (fun _ _ _ _ _ _ _ => rfl), fun base _ _ => ?_⟩
  have O1 := ok_is_whole (P := P) (w := w) (base := base) T A1
  have O3 := ok_is_corner T A3 O1
  have O2 := ok_is_piece T A2 O3
  have O4 := ok_sides (P := P) (w := w) (base := base) T A4
  have O5 := ok_added (P := P) (w := w) (base := base) T A5
  have O6 := ok_mixed (P := P) (w := w) (base := base) T A6
  have a0 := ok_alike0 (P := P) (w := w) (base := base) A7
  have a1 := ok_alike (k := 0) T A7 0 a0
  have a2 := ok_alike (k := 1) T A7 1 a1
  have a3 := ok_alike (k := 2) T A7 2 a2
  obtain ⟨FT, O8, hT⟩ := ok_thing T A8 O6
  have O9 := ok_is (P := P) (w := w) (base := base) T A9
  obtain ⟨FH, O10, hH⟩ := ok_heap_by T A10 O6
  obtain ⟨FO, O11, hO⟩ := ok_odd (P := P) (w := w) (base := base) T A11
  have O12 := ok_sides_right T A12 O4 a3
  exact ok_law T F O2 O5 O9 O12 a3 O8 O10 O11 hT hH hO
end K1
open PySem PySem.W PyProof.Rows
set_option maxHeartbeats 0 in
theorem PySem.Challenge.cw_holepairs_k01_pieces_and_heaps_holds : PySem.Challenge.rw_holepairs_k01_pieces_and_heaps.Holds := by
  w_on; o_law; k_head; (case hw => w_witness2)
  k_fill
  refine L2.walk_ofB (l := PySem.Challenge.rw_holepairs_k01_pieces_and_heaps) (n := 63) (k := 6) (x := "_law_script") (CX := fun _ => L2.CX0) (sp := fun w => PD.spD _ K1.gLaw) rfl (by decide) rfl ⟨rfl, by decide, by decide⟩ (fun w h Y => PySem.W.kIn_of Y) ?F
    (fun w H a ns hl hb _ hS => PD.law_sp (K1.gLaw_ok hl hb) (by kernel_rfl) hS) (fun _ _ _ _ _ h => h)
  case F =>
    intro w mg fa h KX G hmg
    refine' K1.all_keep hmg (PD.stands_mk KX G ?a0 ?l0 ?c0 ?k0 fun _ _ _ _ _ _ us hl => match us, hl with | [_], _ => rfl) (PD.stands_mk KX G ?a1 ?l1 ?c1 ?k1 fun _ _ _ _ _ _ us hl => match us, hl with | [_], _ => rfl) (PD.stands_mk KX G ?a2 ?l2 ?c2 ?k2 fun _ _ _ _ _ _ us hl => match us, hl with | [_], _ => rfl) (PD.stands_mk KX G ?a3 ?l3 ?c3 ?k3 fun _ _ _ _ _ _ us hl => match us, hl with | [_], _ => rfl) (PD.stands_mk KX G ?a4 ?l4 ?c4 ?k4 fun _ _ _ _ _ _ us hl => match us, hl with | [_, _], _ => rfl) (PD.stands_mk KX G ?a5 ?l5 ?c5 ?k5 fun _ _ _ _ _ _ us hl => match us, hl with | [_, _], _ => rfl) (PD.stands_mk KX G ?a6 ?l6 ?c6 ?k6 fun _ _ _ _ _ _ us hl => match us, hl with | [_, _], _ => rfl) (PD.stands_mk KX G ?a7 ?l7 ?c7 ?k7 fun _ _ _ _ _ _ us hl => match us, hl with | [_, _], _ => rfl) (PD.stands_mk KX G ?a8 ?l8 ?c8 ?k8 fun _ _ _ _ _ _ us hl => match us, hl with | [_], _ => rfl) (PD.stands_mk KX G ?a9 ?l9 ?c9 ?k9 fun _ _ _ _ _ _ us hl => match us, hl with | [_, _], _ => rfl) (PD.stands_mk KX G ?a10 ?l10 ?c10 ?k10 fun _ _ _ _ _ _ us hl => match us, hl with | [_], _ => rfl) (PD.stands_mk KX G ?a11 ?l11 ?c11 ?k11 fun _ _ _ _ _ _ us hl => match us, hl with | [_], _ => rfl) (PD.stands_mk KX G ?a12 ?l12 ?c12 ?k12 fun _ _ _ _ _ _ us hl => match us, hl with | [_], _ => rfl) ⟨PD.glob_mk KX G ?c_LARGEST_CORNER, PD.glob_mk KX G ?c_MOST_CORNERS, PySem.W.mg_none_of KX G ?z_all, PySem.W.mg_none_of KX G ?z_bool, PySem.W.mg_none_of KX G ?z_enumerate, PySem.W.mg_none_of KX G ?z_int, PySem.W.mg_none_of KX G ?z_isinstance, PySem.W.mg_none_of KX G ?z_len, PySem.W.mg_none_of KX G ?z_list, PySem.W.mg_none_of KX G ?z_range, PySem.W.mg_none_of KX G ?z_reversed, PySem.W.mg_none_of KX G ?z_set, PySem.W.mg_none_of KX G ?z_sorted, PySem.W.mg_none_of KX G ?z_tuple, PySem.W.mg_none_of KX G ?z_type, PySem.W.mg_none_of KX G ?z_zip⟩
    (case a0 => k_is); (case l0 => k_is); (case c0 => k_is); (case k0 => k_is); (case a1 => k_is); (case l1 => k_is); (case c1 => k_is); (case k1 => k_is); (case a2 => k_is); (case l2 => k_is); (case c2 => k_is); (case k2 => k_is); (case a3 => k_is); (case l3 => k_is); (case c3 => k_is); (case k3 => k_is); (case a4 => k_is); (case l4 => k_is); (case c4 => k_is); (case k4 => k_is); (case a5 => k_is); (case l5 => k_is); (case c5 => k_is); (case k5 => k_is); (case a6 => k_is); (case l6 => k_is); (case c6 => k_is); (case k6 => k_is); (case a7 => k_is); (case l7 => k_is); (case c7 => k_is); (case k7 => k_is); (case a8 => k_is); (case l8 => k_is); (case c8 => k_is); (case k8 => k_is); (case a9 => k_is); (case l9 => k_is); (case c9 => k_is); (case k9 => k_is); (case a10 => k_is); (case l10 => k_is); (case c10 => k_is); (case k10 => k_is); (case a11 => k_is); (case l11 => k_is); (case c11 => k_is); (case k11 => k_is); (case a12 => k_is); (case l12 => k_is); (case c12 => k_is); (case k12 => k_is); (case c_LARGEST_CORNER => k_is); (case c_MOST_CORNERS => k_is); (case z_all => k_is); (case z_bool => k_is); (case z_enumerate => k_is); (case z_int => k_is); (case z_isinstance => k_is); (case z_len => k_is); (case z_list => k_is); (case z_range => k_is); (case z_reversed => k_is); (case z_set => k_is); (case z_sorted => k_is); (case z_tuple => k_is); (case z_type => k_is); (case z_zip => k_is)

