import PyProof.Rows.All
import PySem.Challenge.RW_heardtrue_k02_what_lines_do
import HandS.ForMost
import HandS.Conv
import HandS.ExcInit
import HandS.ExcIs
import HandS.FStr
import HandS.ForExc
import HandS.IsInst
import HandS.Iter
import HandS.RevRange
import HandS.Style
import HandS.TupAny
import HandS.TupMul
import HandS.Walk
import HandS.Wide
import HandS.Zip
import KE.BitLaws
import KE.DatumOrd
import KE.GoesEnum
import KE.GoesNew
import KE.KExcIs
import KE.OsArith
import PyProof.AutoSeq1
set_option Elab.async false
set_option linter.all false
set_option maxRecDepth 100000
set_option maxHeartbeats 20000000
/-! Kt: symbolic states over the hand layer. Slots and cells hold items: plain data (persistent), or a raw value. -/
namespace Kt
open PySem PySem.Spec PyProof.Rows L2

def Ex (H H' : Hp) : Prop := ∀ a o, H a = some o → H' a = some o
/-- an item: plain data; a raw value; a raw value of which something is true that stays true -/
inductive It where
  | d (x : PyData)
  | v (u : V)
  | m (u : V) (φ : Hp → Prop) (h : ∀ P P', Ex P P' → φ P → φ P')
abbrev Mem := List (Addr × List It)
abbrev Rho := List (Option It)

theorem Ex.refl (H : Hp) : Ex H H := fun _ _ h => h
theorem Ex.trans {H H1 H2 : Hp} (a : Ex H H1) (b : Ex H1 H2) : Ex H H2 := fun x o h => b x o (a x o h)
theorem Ex.new {H : Hp} {p : Addr} {o : HO} (h : H p = none) : Ex H (upd H p o) := fun a u e => by
  rw [upd_ne (ne_of_none e h)]
  exact e
theorem ex_rd {H H' : Hp} {a : Addr} {u : HO} (e : Ex H H') (h : Rd H a u) : Rd H' a u := by
  rcases h with h | ⟨o, h⟩
  · exact Or.inl (e a _ h)
  · exact Or.inr ⟨o, e a _ h⟩
theorem ex_l {K : PySem.W.Frag} {H H' : Hp} {a : Addr} {xs : List V} (e : Ex H H') (h : SqL K H a xs) : SqL K H' a xs := by
  rcases h with h | h
  · exact Or.inl (ex_rd e h)
  · exact Or.inr h
mutual
/-- plain data at any depth, tracked -/
inductive Dn (H : Hp) : V → PyData → Prop
  | non : Dn H .non .none
  | bl (b : Bool) : Dn H (.bl b) (.bool b)
  | int (i : Int) : Dn H (.int i) (.int i)
  | str (x : Str) : Dn H (.str x) (.str x)
  | lst {a : Addr} {xs : List V} {ds : List PyData} : H a = some (.lst xs) → DnAll H xs ds → Dn H (.ref a) (.list ds)
  | tup {a : Addr} {xs : List V} {ds : List PyData} : H a = some (.tup xs) → DnAll H xs ds → Dn H (.ref a) (.tuple ds)
  | dic {a : Addr} {kvs : List (Key × V)} {es : List (PyData × PyData)} : H a = some (.dK kvs) → DnKV H kvs es → Dn H (.ref a) (.dict es)
inductive DnAll (H : Hp) : List V → List PyData → Prop
  | nil : DnAll H [] []
  | cons {v : V} {vs : List V} {d : PyData} {ds : List PyData} : Dn H v d → DnAll H vs ds → DnAll H (v :: vs) (d :: ds)
inductive DnKV (H : Hp) : List (Key × V) → List (PyData × PyData) → Prop
  | nil : DnKV H [] []
  | inl {i : Int} {v : V} {r : List (Key × V)} {d : PyData} {es : List (PyData × PyData)} : Dn H v d → DnKV H r es → DnKV H ((.inl i, v) :: r) ((.int i, d) :: es)
  | inr {x : Str} {v : V} {r : List (Key × V)} {d : PyData} {es : List (PyData × PyData)} : Dn H v d → DnKV H r es → DnKV H ((.inr x, v) :: r) ((.str x, d) :: es)
end
mutual
theorem dn_ex {H H' : Hp} (e : Ex H H') : ∀ (d : PyData) (v : V), Dn H v d → Dn H' v d
  | .none, _, h => by cases h; exact .non
  | .bool b, _, h => by cases h; exact .bl b
  | .int i, _, h => by cases h; exact .int i
  | .str x, _, h => by cases h; exact .str x
  | .list ds, _, h => by
    cases h with
    | lst hs ha => exact .lst (e _ _ hs) (dnAll_ex e ds _ ha)
  | .tuple ds, _, h => by
    cases h with
    | tup hs ha => exact .tup (e _ _ hs) (dnAll_ex e ds _ ha)
  | .dict es, _, h => by
    cases h with
    | dic hs ha => exact .dic (e _ _ hs) (dnKV_ex e es _ ha)
theorem dnAll_ex {H H' : Hp} (e : Ex H H') : ∀ (ds : List PyData) (vs : List V), DnAll H vs ds → DnAll H' vs ds
  | [], _, h => by cases h; exact .nil
  | d :: ds, _, h => by
    cases h with
    | cons h1 h2 => exact .cons (dn_ex e d _ h1) (dnAll_ex e ds _ h2)
theorem dnKV_ex {H H' : Hp} (e : Ex H H') : ∀ (es : List (PyData × PyData)) (kvs : List (Key × V)), DnKV H kvs es → DnKV H' kvs es
  | [], _, h => by cases h; exact .nil
  | (k, d) :: es, _, h => by
    cases h with
    | inl h1 h2 => exact .inl (dn_ex e d _ h1) (dnKV_ex e es _ h2)
    | inr h1 h2 => exact .inr (dn_ex e d _ h1) (dnKV_ex e es _ h2)
end
theorem dnAll_len {H : Hp} : ∀ {vs : List V} {ds : List PyData}, DnAll H vs ds → vs.length = ds.length
  | _, [], h => by cases h; rfl
  | _, d :: ds, h => by
    cases h with
    | cons h1 h2 => rw [List.length_cons, List.length_cons, dnAll_len h2]
theorem dnAll_get {H : Hp} : ∀ {vs : List V} {ds : List PyData} {i : Nat} {d : PyData}, DnAll H vs ds → ds[i]? = some d → ∃ v, vs[i]? = some v ∧ Dn H v d
  | _, [], i, d, h, e => by simp at e
  | _, x :: ds, 0, d, h, e => by
    cases h with
    | cons h1 h2 =>
      have e' : x = d := Option.some.inj e
      exact ⟨_, rfl, e' ▸ h1⟩
  | _, x :: ds, i + 1, d, h, e => by
    cases h with
    | cons h1 h2 =>
      obtain ⟨v, a, b⟩ := dnAll_get (i := i) h2 e
      exact ⟨v, a, b⟩
theorem DnAll.app {H : Hp} : ∀ {vs ws : List V} {ds es : List PyData}, DnAll H vs ds → DnAll H ws es → DnAll H (vs ++ ws) (ds ++ es)
  | _, _, _, _, .nil, h => h
  | _, _, _, _, .cons a b, h => .cons a (DnAll.app b h)
theorem DnAll.drop {H : Hp} : ∀ {vs : List V} {ds : List PyData} (n : Nat), DnAll H vs ds → DnAll H (vs.drop n) (ds.drop n)
  | _, _, 0, h => h
  | _, _, _ + 1, .nil => .nil
  | _, _, n + 1, .cons _ b => DnAll.drop n b
theorem DnAll.take {H : Hp} : ∀ {vs : List V} {ds : List PyData} (n : Nat), DnAll H vs ds → DnAll H (vs.take n) (ds.take n)
  | _, _, 0, _ => .nil
  | _, _, _ + 1, .nil => .nil
  | _, _, n + 1, .cons a b => .cons a (DnAll.take n b)
theorem DnAll.rep {H : Hp} {vs : List V} {ds : List PyData} (h : DnAll H vs ds) : ∀ n : Nat, DnAll H (List.replicate n vs).flatten (List.replicate n ds).flatten
  | 0 => .nil
  | n + 1 => h.app (DnAll.rep h n)
theorem DnAll.ints {H : Hp} : ∀ {vs : List V} {ns : List Int}, DnAll H vs (ns.map PyData.int) → vs = ns.map V.int
  | _, [], h => by cases h; rfl
  | _, n :: ns, h => by
    cases h with
    | cons a b =>
      cases a
      rw [DnAll.ints b]
      rfl
theorem DnAll.bools {H : Hp} : ∀ {vs : List V} {ns : List Bool}, DnAll H vs (ns.map PyData.bool) → vs = ns.map V.bl
  | _, [], h => by cases h; rfl
  | _, n :: ns, h => by
    cases h with
    | cons a b =>
      cases a
      rw [DnAll.bools b]
      rfl
/-! to the layer (no dicts) -/
mutual
def noDict : PyData → Bool
  | .dict _ => false
  | .list ds => noDicts ds
  | .tuple ds => noDicts ds
  | _ => true
def noDicts : List PyData → Bool
  | [] => true
  | d :: ds => noDict d && noDicts ds
end
mutual
theorem dp_of {K : PySem.W.Frag} {H : Hp} : ∀ (d : PyData) (v : V), noDict d = true → Dn H v d → Dp K H v d
  | .none, _, _, h => by cases h; exact .non
  | .bool b, _, _, h => by cases h; exact .bl b
  | .int i, _, _, h => by cases h; exact .int i
  | .str x, _, _, h => by cases h; exact .str x
  | .list ds, _, n, h => by
    cases h with
    | lst hs ha => exact .lst (.inl (.inl hs)) (dpAll_of ds _ n ha)
  | .tuple ds, _, n, h => by
    cases h with
    | tup hs ha => exact .tup (.inl (.inl hs)) (dpAll_of ds _ n ha)
  | .dict es, _, n, h => by cases n
theorem dpAll_of {K : PySem.W.Frag} {H : Hp} : ∀ (ds : List PyData) (vs : List V), noDicts ds = true → DnAll H vs ds → DpAll K H vs ds
  | [], _, _, h => by cases h; exact .nil
  | d :: ds, _, n, h => by
    cases h with
    | cons h1 h2 =>
      have n' := Bool.and_eq_true_iff.mp (show (noDict d && noDicts ds) = true from n)
      exact .cons (dp_of d _ n'.1 h1) (dpAll_of ds _ n'.2 h2)
end

/-! ### items -/
section
variable {P P' H H' : Hp}
def RepI (P : Hp) (v : V) : It → Prop
  | .d x => Dn P v x
  | .v u => v = u
  | .m u φ _ => v = u ∧ φ P
def RepIs (P : Hp) : List V → List It → Prop
  | [], [] => True
  | v :: vs, i :: is => RepI P v i ∧ RepIs P vs is
  | _, _ => False
theorem RepI.ex {v : V} {i : It} (e : Ex P P') (h : RepI P v i) : RepI P' v i := by
  cases i with
  | d x => exact dn_ex e x v h
  | v u => exact h
  | m u φ k => exact ⟨h.1, k _ _ e h.2⟩
theorem RepIs.ex (e : Ex P P') : ∀ {vs : List V} {is : List It}, RepIs P vs is → RepIs P' vs is
  | [], [], _ => trivial
  | v :: vs, i :: is, h => ⟨h.1.ex e, RepIs.ex e h.2⟩
  | [], _ :: _, h => h.elim
  | _ :: _, [], h => h.elim
theorem RepIs.len : ∀ {vs : List V} {is : List It}, RepIs P vs is → vs.length = is.length
  | [], [], _ => rfl
  | v :: vs, i :: is, h => by rw [List.length_cons, List.length_cons, RepIs.len h.2]
  | [], _ :: _, h => h.elim
  | _ :: _, [], h => h.elim
theorem RepIs.app : ∀ {vs ws : List V} {is js : List It}, RepIs P vs is → RepIs P ws js → RepIs P (vs ++ ws) (is ++ js)
  | [], _, [], _, _, h => h
  | v :: vs, _, i :: is, _, h, g => ⟨h.1, RepIs.app h.2 g⟩
  | [], _, _ :: _, _, h, _ => h.elim
  | _ :: _, _, [], _, h, _ => h.elim
theorem RepIs.get : ∀ {vs : List V} {is : List It} {n : Nat} {i : It}, RepIs P vs is → is[n]? = some i → ∃ v, vs[n]? = some v ∧ RepI P v i
  | [], [], _, _, _, e => by simp at e
  | v :: vs, j :: is, 0, i, h, e => by
    have e' : j = i := Option.some.inj e
    exact ⟨v, rfl, e' ▸ h.1⟩
  | v :: vs, j :: is, n + 1, i, h, e => RepIs.get (vs := vs) (is := is) (n := n) h.2 e
  | [], _ :: _, _, _, h, _ => h.elim
  | _ :: _, [], _, _, h, _ => h.elim
theorem RepIs.set {v : V} {i : It} (r : RepI P v i) : ∀ {vs : List V} {is : List It} (n : Nat), RepIs P vs is → RepIs P (vs.set n v) (is.set n i)
  | [], [], _, _ => trivial
  | _ :: _, _ :: _, 0, h => ⟨r, h.2⟩
  | _ :: _, _ :: _, n + 1, h => ⟨h.1, RepIs.set r n h.2⟩
  | [], _ :: _, _, h => h.elim
  | _ :: _, [], _, h => h.elim
theorem RepIs.of_all : ∀ {vs : List V} {ds : List PyData}, DnAll P vs ds → RepIs P vs (ds.map It.d)
  | _, [], h => by cases h; trivial
  | _, d :: ds, h => by
    cases h with
    | cons h1 h2 => exact ⟨h1, RepIs.of_all h2⟩
theorem RepIs.to_all : ∀ {vs : List V} {ds : List PyData}, RepIs P vs (ds.map It.d) → DnAll P vs ds
  | [], [], _ => .nil
  | v :: vs, d :: ds, h => .cons h.1 (RepIs.to_all h.2)
  | [], _ :: _, h => h.elim
  | _ :: _, [], h => h.elim
end

/-! ### what stands at a point: entry facts, slots, cells -/
structure Ent where
  P0 : Hp
  H0 : Hp
  F : List Addr
structure Holds (N : Ent) (P H : Hp) (M : Mem) : Prop where
  ex : Ex P H
  ex0 : Ex N.P0 P
  fr : ∀ b o, N.H0 b = some o → b ∉ N.F → H b = some o
  nw : ∀ b, N.P0 b = none → P b ≠ none → N.H0 b = none
  mem : ∀ c ∈ M, P c.1 = none ∧ ∃ xs, H c.1 = some (.lst xs) ∧ RepIs P xs c.2
  nd : (M.map Prod.fst).Nodup
  mf : ∀ a ∈ N.F, a ∈ M.map Prod.fst
  fs : ∀ c ∈ M, c.1 ∈ N.F ∨ N.H0 c.1 = none
def Slots (P : Hp) (σ : L2.St) (ρ : Rho) : Prop :=
  σ.length = ρ.length ∧ ∀ (i : Nat) it, ρ[i]? = some (some it) → ∃ v, σ[i]? = some (some v) ∧ RepI P v it

section
variable {N : Ent} {P P' H H' : Hp} {M : Mem} {σ : L2.St} {ρ : Rho}
theorem Slots.ex (e : Ex P P') (h : Slots P σ ρ) : Slots P' σ ρ := ⟨h.1, fun i it q => by
  obtain ⟨v, a, b⟩ := h.2 i it q
  exact ⟨v, a, b.ex e⟩⟩
theorem Slots.set {v : V} {it : It} (r : RepI P v it) (i : Nat) (h : Slots P σ ρ) : Slots P (σ.set i (some v)) (ρ.set i (some it)) := by
  refine ⟨by rw [List.length_set, List.length_set]; exact h.1, fun j jt q => ?_⟩
  by_cases e : i = j
  · subst e
    by_cases l : i < ρ.length
    · rw [List.getElem?_set_self l] at q
      cases Option.some.inj q
      exact ⟨v, List.getElem?_set_self (h.1 ▸ l), r⟩
    · rw [List.getElem?_eq_none (by rw [List.length_set]; omega)] at q
      cases q
  · rw [List.getElem?_set_ne e] at q ⊢
    exact h.2 j jt q
theorem Slots.unset (i : Nat) (h : Slots P σ ρ) (x : Option V) : Slots P (σ.set i x) (ρ.set i none) := by
  refine ⟨by rw [List.length_set, List.length_set]; exact h.1, fun j jt q => ?_⟩
  by_cases e : i = j
  · subst e
    by_cases l : i < ρ.length
    · rw [List.getElem?_set_self l] at q
      cases Option.some.inj q
    · rw [List.getElem?_eq_none (by rw [List.length_set]; omega)] at q
      cases q
  · rw [List.getElem?_set_ne e] at q ⊢
    exact h.2 j jt q
/-- fewer slots known -/
theorem Slots.weak {ρ' : Rho} (h : Slots P σ ρ) (hl : ρ'.length = ρ.length) (w : ∀ (i : Nat) (it : It), ρ'[i]? = some (some it) → ρ[i]? = some (some it)) : Slots P σ ρ' :=
  ⟨h.1.trans hl.symm, fun i it q => h.2 i it (w i it q)⟩
theorem Holds.cell (h : Holds N P H M) {a : Addr} {its : List It} (hm : (a, its) ∈ M) : ∃ xs, H a = some (.lst xs) ∧ RepIs P xs its := (h.mem _ hm).2
/-- a new persistent object -/
theorem Holds.pers (h : Holds N P H M) {p : Addr} {o : HO} (hp : H p = none) : Holds N (upd P p o) (upd H p o) M ∧ Ex P (upd P p o) := by
  have pn : P p = none := by
    cases e : P p with
    | none => rfl
    | some u => rw [h.ex p u e] at hp; cases hp
  have h0 : N.H0 p = none ∨ p ∈ N.F := by
    by_cases f : p ∈ N.F
    · exact .inr f
    · refine .inl ?_
      cases e : N.H0 p with
      | none => rfl
      | some u => rw [h.fr p u e f] at hp; cases hp
  have np : p ∉ N.F := fun f => by
    obtain ⟨c, hc, e⟩ := List.mem_map.mp (h.mf p f)
    obtain ⟨xs, e1, _⟩ := (h.mem c hc).2
    rw [e, hp] at e1
    cases e1
  have q : Ex P (upd P p o) := Ex.new pn
  refine ⟨⟨fun a u e => ?_, h.ex0.trans q, fun b u e f => ?_, fun b e f => ?_, fun c hc => ?_, h.nd, h.mf, h.fs⟩, q⟩
  · by_cases ea : a = p
    · subst ea
      rw [upd_same] at e ⊢
      exact e
    · rw [upd_ne ea] at e ⊢
      exact h.ex a u e
  · have := h.fr b u e f
    rw [upd_ne (ne_of_none this hp)]
    exact this
  · by_cases eb : b = p
    · subst eb
      rcases h0 with h0 | h0
      · exact h0
      · exact absurd h0 np
    · rw [upd_ne eb] at f
      exact h.nw b e f
  · obtain ⟨a1, xs, a2, a3⟩ := h.mem c hc
    have ne : c.1 ≠ p := ne_of_none a2 hp
    exact ⟨by rw [upd_ne ne]; exact a1, xs, by rw [upd_ne ne]; exact a2, a3.ex q⟩
/-- a new own list -/
theorem Holds.own (h : Holds N P H M) {p : Addr} {xs : List V} {its : List It} (hp : H p = none) (r : RepIs P xs its) : Holds N P (upd H p (.lst xs)) (M ++ [(p, its)]) := by
  have pn : P p = none := by
    cases e : P p with
    | none => rfl
    | some u => rw [h.ex p u e] at hp; cases hp
  have np : p ∉ M.map Prod.fst := fun f => by
    obtain ⟨c, hc, e⟩ := List.mem_map.mp f
    obtain ⟨xs, e1, _⟩ := (h.mem c hc).2
    rw [e, hp] at e1
    cases e1
  have h0 : N.H0 p = none := by
    cases e : N.H0 p with
    | none => rfl
    | some u => rw [h.fr p u e (fun f => np (h.mf p f))] at hp; cases hp
  refine ⟨fun a u e => ?_, h.ex0, fun b u e f => ?_, h.nw, fun c hc => ?_, ?_, fun a ha => ?_, fun c hc => ?_⟩
  · rw [upd_ne (ne_of_none e pn)]
    exact h.ex a u e
  · have := h.fr b u e f
    rw [upd_ne (ne_of_none this hp)]
    exact this
  · rcases List.mem_append.mp hc with hc | hc
    · obtain ⟨a1, xs, a2, a3⟩ := h.mem c hc
      have ne : c.1 ≠ p := ne_of_none a2 hp
      exact ⟨a1, xs, by rw [upd_ne ne]; exact a2, a3⟩
    · cases List.mem_singleton.mp hc
      exact ⟨pn, xs, upd_same, r⟩
  · rw [List.map_append]
    refine List.nodup_append.mpr ⟨h.nd, by simp, fun a ha b hb => ?_⟩
    simp at hb
    subst hb
    exact fun e => np (e ▸ ha)
  · rw [List.map_append]
    exact List.mem_append_left _ (h.mf a ha)
  · rcases List.mem_append.mp hc with hc | hc
    · exact h.fs c hc
    · cases List.mem_singleton.mp hc
      exact .inr h0
def Mem.put (M : Mem) (a : Addr) (its : List It) : Mem := M.map fun c => if c.1 = a then (a, its) else c
theorem put_fst (M : Mem) (a : Addr) (its : List It) : (M.put a its).map Prod.fst = M.map Prod.fst := by
  unfold Mem.put
  rw [List.map_map]
  refine List.map_congr_left fun c _ => ?_
  show (if c.1 = a then (a, its) else c).1 = c.1
  by_cases e : c.1 = a
  · rw [if_pos e]; exact e.symm
  · rw [if_neg e]
/-- an own list changes -/
theorem Holds.write (h : Holds N P H M) {a : Addr} {its its' : List It} {xs' : List V} (hm : (a, its) ∈ M) (r : RepIs P xs' its') : Holds N P (upd H a (.lst xs')) (M.put a its') := by
  have an : P a = none := (h.mem _ hm).1
  refine ⟨fun b u e => ?_, h.ex0, fun b u e f => ?_, h.nw, fun c hc => ?_, by rw [put_fst]; exact h.nd, fun b hb => by rw [put_fst]; exact h.mf b hb, fun c hc => ?_⟩
  · rw [upd_ne (ne_of_none e an)]
    exact h.ex b u e
  · have ne : b ≠ a := fun z => by
      subst z
      rcases h.fs _ hm with k | k
      · exact f k
      · rw [show N.H0 b = none from k] at e; cases e
    rw [upd_ne ne]
    exact h.fr b u e f
  · obtain ⟨c0, hc0, e⟩ := List.mem_map.mp hc
    by_cases q : c0.1 = a
    · rw [if_pos q] at e
      subst e
      exact ⟨an, xs', upd_same, r⟩
    · rw [if_neg q] at e
      subst e
      obtain ⟨a1, xs, a2, a3⟩ := h.mem c0 hc0
      exact ⟨a1, xs, by rw [upd_ne q]; exact a2, a3⟩
  · obtain ⟨c0, hc0, e⟩ := List.mem_map.mp hc
    by_cases q : c0.1 = a
    · rw [if_pos q] at e
      subst e
      exact h.fs (a, its) hm
    · rw [if_neg q] at e
      subst e
      exact h.fs c0 hc0
/-- cells forgotten, others in another order -/
theorem Holds.sub (h : Holds N P H M) {M' : Mem} (s : ∀ c ∈ M', c ∈ M) (nd : (M'.map Prod.fst).Nodup) (mf : ∀ a ∈ N.F, a ∈ M'.map Prod.fst) : Holds N P H M' :=
  ⟨h.ex, h.ex0, h.fr, h.nw, fun c hc => h.mem c (s c hc), nd, mf, fun c hc => h.fs c (s c hc)⟩
/-- an own list of data becomes persistent -/
theorem Holds.freeze (h : Holds N P H M) {a : Addr} {ds : List PyData} (hm : (a, ds.map It.d) ∈ M) (hf : a ∉ N.F) :
    ∃ P', Ex P P' ∧ Dn P' (.ref a) (.list ds) ∧ Holds N P' H (M.filter fun c => decide (c.1 ≠ a)) := by
  obtain ⟨an, xs, e, r⟩ := h.mem _ hm
  have q : Ex P (upd P a (.lst xs)) := Ex.new an
  refine ⟨upd P a (.lst xs), q, .lst upd_same (dnAll_ex q _ _ r.to_all), fun b u z => ?_, h.ex0.trans q, h.fr, fun b z f => ?_, fun c hc => ?_, ?_, fun b hb => ?_, fun c hc => h.fs c (List.mem_filter.mp hc).1⟩
  · by_cases eb : b = a
    · subst eb
      rw [upd_same] at z
      rw [← z]
      exact e
    · rw [upd_ne eb] at z
      exact h.ex b u z
  · by_cases eb : b = a
    · subst eb
      rcases h.fs _ hm with k | k
      · exact absurd k hf
      · exact k
    · rw [upd_ne eb] at f
      exact h.nw b z f
  · obtain ⟨hc, ne⟩ := List.mem_filter.mp hc
    have ne : c.1 ≠ a := of_decide_eq_true ne
    obtain ⟨a1, ys, a2, a3⟩ := h.mem c hc
    exact ⟨by rw [upd_ne ne]; exact a1, ys, a2, a3.ex q⟩
  · exact (h.nd.sublist ((List.filter_sublist (l := M)).map _))
  · obtain ⟨c, hc, e⟩ := List.mem_map.mp (h.mf b hb)
    refine List.mem_map.mpr ⟨c, List.mem_filter.mpr ⟨hc, decide_eq_true fun z => hf ?_⟩, e⟩
    rw [← z, e]
    exact hb
end
end Kt

namespace Kt
open PySem PySem.Spec PyProof.Rows L2

/-! ### what an expression, a test, arguments, a statement need, canonically -/
def wE (X : Cx) (e : Expr) : TE := fun σ H Q => ∀ pins s, Inv X pins σ H s → wpAny (model X.prog X.w) X.A (eval e X.env) (EP X pins σ Q) X.xe s
def wT (X : Cx) (e : Expr) : TT := fun σ H Q => ∀ pins s, Inv X pins σ H s → wpAny (model X.prog X.w) X.A (isTrue e X.env (eval e X.env)) (TP X pins σ Q) X.xe s
def wW (X : Cx) (e : Expr) : TT := fun σ H Q => ∀ (whole : Sem Value) pins s, Inv X pins σ H s → wpAny (model X.prog X.w) X.A (isTrue e X.env whole) (TP X pins σ Q) X.xe s
def wA (X : Cx) (es : List Expr) : TA := fun σ H Q => ∀ (pos : Pos) pins s, Inv X pins σ H s → wpAny (model X.prog X.w) X.A (spliced (backTo pos (starEach es X.env))) (AP X pins σ Q) X.xe s
def wS (X : Cx) (st : Stmt) : TS := fun D σ H => ∀ pins s, Inv X pins σ H s → wpAny (model X.prog X.w) X.A (exec st X.env) (SP X pins D) X.xe s
def wSs (X : Cx) (st : List Stmt) : TS := fun D σ H => ∀ pins s, Inv X pins σ H s → wpAny (model X.prog X.w) X.A (execs st X.env) (SP X pins D) X.xe s
def wG (X : Cx) (tg : Expr) : TG := fun v σ H Q => ∀ pins s (u : Value), Inv X pins σ H s → RelV v u → wpAny (model X.prog X.w) X.A (assign tg X.env u) (fun _ s' => ∃ σ' H', Inv X pins σ' H' s' ∧ Q σ' H') X.xe s
section
variable {X : Cx}
theorem pe_w {e : Expr} : PE X e (wE X e) := ⟨fun pins s σ H Q I h => h pins s I⟩
theorem pt_w {e : Expr} : PT X e (wT X e) := ⟨fun pins s σ H Q I h => h pins s I⟩
theorem pw_w {e : Expr} : PW X e (wW X e) := ⟨fun wh pins s σ H Q I h => h wh pins s I⟩
theorem pa_w {es : List Expr} : PA X es (wA X es) := ⟨fun pos pins s σ H Q I h => h pos pins s I⟩
theorem ps_w {st : Stmt} : PS X st (wS X st) := ⟨fun pins s σ H D I h => h pins s I⟩
theorem pss_w {st : List Stmt} : PSs X st (wSs X st) := ⟨fun pins s σ H D I h => h pins s I⟩
theorem pg_w {tg : Expr} : PG X tg (wG X tg) := ⟨fun pins s σ H v u Q I r h => h pins s u I r⟩
theorem e_of {e : Expr} {t : TE} (h : PE X e t) {σ : L2.St} {H : Hp} {Q : VK} (q : t σ H Q) : wE X e σ H Q := fun pins s I => h.run pins s σ H Q I q
theorem t_of {e : Expr} {t : TT} (h : PT X e t) {σ : L2.St} {H : Hp} {Q : Bool → Hp → Prop} (q : t σ H Q) : wT X e σ H Q := fun pins s I => h.run pins s σ H Q I q
theorem w_of {e : Expr} {t : TT} (h : PW X e t) {σ : L2.St} {H : Hp} {Q : Bool → Hp → Prop} (q : t σ H Q) : wW X e σ H Q := fun wh pins s I => h.run wh pins s σ H Q I q
theorem a_of {es : List Expr} {t : TA} (h : PA X es t) {σ : L2.St} {H : Hp} {Q : List V → Hp → Prop} (q : t σ H Q) : wA X es σ H Q := fun pos pins s I => h.run pos pins s σ H Q I q
theorem s_of {st : Stmt} {t : TS} (h : PS X st t) {σ : L2.St} {H : Hp} {D : Ends} (q : t D σ H) : wS X st D σ H := fun pins s I => h.run pins s σ H D I q
theorem ss_of {st : List Stmt} {t : TS} (h : PSs X st t) {σ : L2.St} {H : Hp} {D : Ends} (q : t D σ H) : wSs X st D σ H := fun pins s I => h.run pins s σ H D I q
theorem g_of {tg : Expr} {t : TG} (h : PG X tg t) {v : V} {σ : L2.St} {H : Hp} {Q : L2.St → Hp → Prop} (q : t v σ H Q) : wG X tg v σ H Q := fun pins s u I r => h.run pins s σ H v u Q I r q
end

/-! ### judgements over symbolic states -/
def EJ (X : Cx) (N : Ent) (ρ : Rho) (M : Mem) (e : Expr) (i : It) (M' : Mem) : Prop :=
  ∀ σ H P, Holds N P H M → Slots P σ ρ → ∀ Q : VK, (∀ v H' P', Ex P P' → Holds N P' H' M' → RepI P' v i → Q v H') → wE X e σ H Q
/-- e gives a new list of these items -/
def EL (X : Cx) (N : Ent) (ρ : Rho) (M : Mem) (e : Expr) (is : List It) (M' : Mem) : Prop :=
  ∀ σ H P, Holds N P H M → Slots P σ ρ → ∀ Q : VK, (∀ p H' P', Ex P P' → p ∉ N.F → Holds N P' H' (M' ++ [(p, is)]) → Q (.ref p) H') → wE X e σ H Q
def TJ (X : Cx) (N : Ent) (ρ : Rho) (M : Mem) (e : Expr) (b : Bool) (M' : Mem) : Prop :=
  ∀ σ H P, Holds N P H M → Slots P σ ρ → ∀ Q : Bool → Hp → Prop, (∀ H' P', Ex P P' → Holds N P' H' M' → Q b H') → wT X e σ H Q
def WJ (X : Cx) (N : Ent) (ρ : Rho) (M : Mem) (e : Expr) (b : Bool) (M' : Mem) : Prop :=
  ∀ σ H P, Holds N P H M → Slots P σ ρ → ∀ Q : Bool → Hp → Prop, (∀ H' P', Ex P P' → Holds N P' H' M' → Q b H') → wW X e σ H Q
def AJ (X : Cx) (N : Ent) (ρ : Rho) (M : Mem) (es : List Expr) (is : List It) (M' : Mem) : Prop :=
  ∀ σ H P, Holds N P H M → Slots P σ ρ → ∀ Q : List V → Hp → Prop, (∀ vs H' P', Ex P P' → Holds N P' H' M' → RepIs P' vs is → Q vs H') → wA X es σ H Q
/-- a rule by values -/
def RJ (N : Ent) (r : R2) (M : Mem) (i j k : It) (M' : Mem) : Prop :=
  ∀ x y H P, Holds N P H M → RepI P x i → RepI P y j → ∀ Q : VK, (∀ v H' P', Ex P P' → Holds N P' H' M' → RepI P' v k → Q v H') → r x y H Q
/-- a built-in's call by values -/
def CJ (N : Ent) (r : List V → Hp → VK → Prop) (M : Mem) (is : List It) (k : It) (M' : Mem) : Prop :=
  ∀ vs H P, Holds N P H M → RepIs P vs is → ∀ Q : VK, (∀ v H' P', Ex P P' → Holds N P' H' M' → RepI P' v k → Q v H') → r vs H Q
def CL (N : Ent) (r : List V → Hp → VK → Prop) (M : Mem) (is js : List It) (M' : Mem) : Prop :=
  ∀ vs H P, Holds N P H M → RepIs P vs is → ∀ Q : VK, (∀ p H' P', Ex P P' → p ∉ N.F → Holds N P' H' (M' ++ [(p, js)]) → Q (.ref p) H') → r vs H Q
theorem Holds.newF {N : Ent} {P H : Hp} {M : Mem} (h : Holds N P H M) {p : Addr} (hp : H p = none) : p ∉ N.F := fun f => by
  obtain ⟨c, hc, e⟩ := List.mem_map.mp (h.mf p f)
  obtain ⟨xs, e1, _⟩ := (h.mem c hc).2
  rw [e, hp] at e1
  cases e1
theorem filter_last {M : Mem} {p : Addr} {is : List It} (nd : ((M ++ [(p, is)]).map Prod.fst).Nodup) : ((M ++ [(p, is)]).filter fun c => decide (c.1 ≠ p)) = M := by
  rw [List.filter_append]
  have h2 : ([(p, is)].filter fun c : Addr × List It => decide (c.1 ≠ p)) = [] := by simp
  rw [h2, List.append_nil]
  refine List.filter_eq_self.mpr fun c hc => decide_eq_true fun e => ?_
  rw [List.map_append] at nd
  have := (List.nodup_append.mp nd).2.2 c.1 (List.mem_map.mpr ⟨c, hc, rfl⟩) p (by simp)
  exact this e

section
variable {X : Cx} {N : Ent} {ρ : Rho} {M M1 M2 M3 M' : Mem} {a b c e : Expr} {pos : Pos} {i j k : It}
abbrev dI (n : Int) : It := .d (.int n)
abbrev dB (b : Bool) : It := .d (.bool b)
theorem ri_int {P : Hp} {v : V} {n : Int} (h : RepI P v (dI n)) : v = .int n := by cases (show Dn P v (.int n) from h); rfl
theorem ri_bl {P : Hp} {v : V} {n : Bool} (h : RepI P v (dB n)) : v = .bl n := by cases (show Dn P v (.bool n) from h); rfl
theorem ri_str {P : Hp} {v : V} {n : Str} (h : RepI P v (.d (.str n))) : v = .str n := by cases (show Dn P v (.str n) from h); rfl
theorem ri_non {P : Hp} {v : V} (h : RepI P v (.d .none)) : v = .non := by cases (show Dn P v .none from h); rfl
theorem ri_tup {P : Hp} {v : V} {ds : List PyData} (h : RepI P v (.d (.tuple ds))) : ∃ a xs, v = .ref a ∧ P a = some (.tup xs) ∧ DnAll P xs ds := by
  cases (show Dn P v (.tuple ds) from h) with
  | tup h1 h2 => exact ⟨_, _, rfl, h1, h2⟩
theorem ri_lst {P : Hp} {v : V} {ds : List PyData} (h : RepI P v (.d (.list ds))) : ∃ a xs, v = .ref a ∧ P a = some (.lst xs) ∧ DnAll P xs ds := by
  cases (show Dn P v (.list ds) from h) with
  | lst h1 h2 => exact ⟨_, _, rfl, h1, h2⟩

/-! names and constants -/
theorem ej_name (n : Nat) {x : Str} (hρ : ρ[n]? = some (some i) := by rfl) (hN : X.N[n]? = some x := by rfl) (hv : Vis X.env.scope x := by first | exact Or.inl rfl | exact Or.inr (Or.inl rfl) | exact Or.inr (Or.inr rfl)) (hd : (x == ("__debug__" : Str)) = false := by decide)
    (hcd : (x == ("__classdict__" : Str)) = false := by decide) : EJ X N ρ M (.Name x pos) i M := fun σ H P h g Q q => by
  obtain ⟨v, e, r⟩ := g.2 n i hρ
  exact e_of (pe_var (i := n) hN hv hd hcd) ⟨v, e, q v H P (Ex.refl P) h r⟩
theorem ej_int {n : Int} {j : Nat} : EJ X N ρ M (.Constant (.int n) j pos) (dI n) M := fun σ H P h g Q q => e_of pe_int (q _ H P (Ex.refl P) h (.int n))
theorem ej_bl {n : Bool} {j : Nat} : EJ X N ρ M (.Constant (.bool n) j pos) (dB n) M := fun σ H P h g Q q => e_of pe_bl (q _ H P (Ex.refl P) h (.bl n))
theorem ej_non {j : Nat} : EJ X N ρ M (.Constant .none j pos) (.d .none) M := fun σ H P h g Q q => e_of pe_non (q _ H P (Ex.refl P) h .non)
theorem ej_str {n : Str} {j : Nat} : EJ X N ρ M (.Constant (.str n) j pos) (.d (.str n)) M := fun σ H P h g Q q => e_of pe_str (q _ H P (Ex.refl P) h (.str n))
/-- a module's int -/
theorem ej_gint {x : Str} {n : Int} {t : Tok} (hm : X.mg x = some (.int n t)) (hg : Gl X x := by rfl) (hd : (x == ("__debug__" : Str)) = false := by decide) : EJ X N ρ M (.Name x pos) (dI n) M := fun σ H P h g Q q =>
  e_of (pe_glob (v := .int n) hg hm ⟨t, rfl⟩ hd) (q _ H P (Ex.refl P) h (.int n))

/-! operators -/
theorem ej_op {op : Operator} {r : R2} (ho : OpR X (binaryOp op) r) (ha : EJ X N ρ M a i M1) (hb : EJ X N ρ M1 b j M2) (hr : RJ N r M2 i j k M3) : EJ X N ρ M (.BinOp a op b pos) k M3 := fun σ H P h g Q q =>
  e_of (pe_op ho pe_w pe_w) (ha σ H P h g _ fun x H1 P1 e1 h1 r1 => hb σ H1 P1 h1 (g.ex e1) _ fun y H2 P2 e2 h2 r2 =>
    hr x y H2 P2 h2 (r1.ex e2) r2 Q fun v H3 P3 e3 h3 r3 => q v H3 P3 ((e1.trans e2).trans e3) h3 r3)
theorem ej_cmp {op : CmpOp} {r : R2} (ho : OpR X (compareOp op) r) (hm : behindInMarks op b = false) (ha : EJ X N ρ M a i M1) (hb : EJ X N ρ M1 b j M2) (hr : RJ N r M2 i j k M3) : EJ X N ρ M (.Compare a [op] [b] pos) k M3 := fun σ H P h g Q q =>
  e_of (pe_cmpR ho pe_w pe_w hm) (ha σ H P h g _ fun x H1 P1 e1 h1 r1 => hb σ H1 P1 h1 (g.ex e1) _ fun y H2 P2 e2 h2 r2 =>
    hr x y H2 P2 h2 (r1.ex e2) r2 Q fun v H3 P3 e3 h3 r3 => q v H3 P3 ((e1.trans e2).trans e3) h3 r3)
theorem tj_cmp {op : CmpOp} {r : R2} {t : Bool} (ho : OpR X (compareOp op) r) (hm : behindInMarks op b = false) (ha : EJ X N ρ M a i M1) (hb : EJ X N ρ M1 b j M2) (hr : RJ N r M2 i j (dB t) M3) : TJ X N ρ M (.Compare a [op] [b] pos) t M3 := fun σ H P h g Q q =>
  t_of (pt_cmpR ho pe_w pe_w hm) (ha σ H P h g _ fun x H1 P1 e1 h1 r1 => hb σ H1 P1 h1 (g.ex e1) _ fun y H2 P2 e2 h2 r2 =>
    hr x y H2 P2 h2 (r1.ex e2) r2 _ fun v H3 P3 e3 h3 r3 => ⟨t, ri_bl r3, q H3 P3 ((e1.trans e2).trans e3) h3⟩)
theorem ej_un {op : UnaryOp} {r : V → Hp → VK → Prop} (ho : UnR X (unaryOp op) r) (ha : EJ X N ρ M a i M1) (hr : ∀ x H P, Holds N P H M1 → RepI P x i → ∀ Q : VK, (∀ v, RepI P v k → Q v H) → r x H Q) : EJ X N ρ M (.UnaryOp op a pos) k M1 := fun σ H P h g Q q =>
  e_of (pe_un ho pe_w) (ha σ H P h g _ fun x H1 P1 e1 h1 r1 => hr x H1 P1 h1 r1 Q fun v r => q v H1 P1 e1 h1 r)
theorem ej_neg {n : Int} (ha : EJ X N ρ M a (dI n) M1) : EJ X N ρ M (.UnaryOp .USub a pos) (dI (-n)) M1 := ej_un un_neg ha fun x H P h r Q q => ⟨n, ri_int r, q _ (.int _)⟩
theorem rj_I0 {g : Int → Int → Int} {n m : Int} : RJ N (rI0 fun i j => .int (g i j)) M (dI n) (dI m) (dI (g n m)) M := fun x y H P h rx ry Q q =>
  ⟨n, m, ri_int rx, ri_int ry, q _ H P (Ex.refl P) h (.int _)⟩
theorem rj_B0 {g : Int → Int → Bool} {n m : Int} : RJ N (rI0 fun i j => .bl (g i j)) M (dI n) (dI m) (dB (g n m)) M := fun x y H P h rx ry Q q =>
  ⟨n, m, ri_int rx, ri_int ry, q _ H P (Ex.refl P) h (.bl _)⟩
theorem rj_I {C : Int → Int → Prop} {g : Int → Int → Int} {n m : Int} (hc : C n m) : RJ N (rI C fun i j => .int (g i j)) M (dI n) (dI m) (dI (g n m)) M := fun x y H P h rx ry Q q =>
  ⟨n, m, ri_int rx, ri_int ry, hc, q _ H P (Ex.refl P) h (.int _)⟩
theorem ej_add {n m : Int} (ha : EJ X N ρ M a (dI n) M1) (hb : EJ X N ρ M1 b (dI m) M2) : EJ X N ρ M (.BinOp a .Add b pos) (dI (n + m)) M2 := ej_op op_add ha hb rj_I0
theorem ej_sub {n m : Int} (ha : EJ X N ρ M a (dI n) M1) (hb : EJ X N ρ M1 b (dI m) M2) : EJ X N ρ M (.BinOp a .Sub b pos) (dI (n - m)) M2 := ej_op op_sub ha hb rj_I0
theorem ej_mul {n m : Int} (ha : EJ X N ρ M a (dI n) M1) (hb : EJ X N ρ M1 b (dI m) M2) (hc : CMul n m) : EJ X N ρ M (.BinOp a .Mult b pos) (dI (n * m)) M2 := ej_op op_mul ha hb (rj_I hc)
theorem ej_fdiv {n m : Int} (ha : EJ X N ρ M a (dI n) M1) (hb : EJ X N ρ M1 b (dI m) M2) (hc : 0 < m ∧ m < 1073741824) : EJ X N ρ M (.BinOp a .FloorDiv b pos) (dI (n / m)) M2 := ej_op op_fdiv ha hb (rj_I hc)
theorem ej_mod {n m : Int} (ha : EJ X N ρ M a (dI n) M1) (hb : EJ X N ρ M1 b (dI m) M2) (hc : 0 < m) : EJ X N ρ M (.BinOp a .Mod b pos) (dI (n % m)) M2 := ej_op op_mod ha hb (rj_I hc)
theorem ej_shl {n m : Int} (ha : EJ X N ρ M a (dI n) M1) (hb : EJ X N ρ M1 b (dI m) M2) (hc : CPow n m) : EJ X N ρ M (.BinOp a .LShift b pos) (dI (n * 2 ^ m.toNat)) M2 := ej_op op_shl ha hb (rj_I hc)
theorem ej_shr {n m : Int} (ha : EJ X N ρ M a (dI n) M1) (hb : EJ X N ρ M1 b (dI m) M2) (hc : 0 ≤ m) : EJ X N ρ M (.BinOp a .RShift b pos) (dI (n / 2 ^ m.toNat)) M2 := ej_op op_shr ha hb (rj_I hc)
theorem ej_and {n m : Int} (ha : EJ X N ρ M a (dI n) M1) (hb : EJ X N ρ M1 b (dI m) M2) : EJ X N ρ M (.BinOp a .BitAnd b pos) (dI (Builtin.bitAnd n m)) M2 := ej_op op_and ha hb rj_I0
theorem ej_xor {n m : Int} (ha : EJ X N ρ M a (dI n) M1) (hb : EJ X N ρ M1 b (dI m) M2) : EJ X N ρ M (.BinOp a .BitXor b pos) (dI (Builtin.bitXor n m)) M2 := ej_op op_xor ha hb rj_I0
theorem tj_lt {n m : Int} (ha : EJ X N ρ M a (dI n) M1) (hb : EJ X N ρ M1 b (dI m) M2) : TJ X N ρ M (.Compare a [.Lt] [b] pos) (decide (n < m)) M2 := tj_cmp op_lt (nomark _) ha hb rj_B0
theorem tj_le {n m : Int} (ha : EJ X N ρ M a (dI n) M1) (hb : EJ X N ρ M1 b (dI m) M2) : TJ X N ρ M (.Compare a [.LtE] [b] pos) (decide (n ≤ m)) M2 := tj_cmp op_le (nomark _) ha hb rj_B0
theorem tj_gt {n m : Int} (ha : EJ X N ρ M a (dI n) M1) (hb : EJ X N ρ M1 b (dI m) M2) : TJ X N ρ M (.Compare a [.Gt] [b] pos) (decide (m < n)) M2 := tj_cmp op_gt (nomark _) ha hb rj_B0
theorem tj_ge {n m : Int} (ha : EJ X N ρ M a (dI n) M1) (hb : EJ X N ρ M1 b (dI m) M2) : TJ X N ρ M (.Compare a [.GtE] [b] pos) (decide (m ≤ n)) M2 := tj_cmp op_ge (nomark _) ha hb rj_B0
/-- == of scalars -/
def scalD : PyData → PyData → Option Bool
  | .int a, .int b => some (decide (a = b))
  | .bool a, .bool b => some (decide (a = b))
  | .str a, .str b => some (decide (a = b))
  | .none, .none => some true
  | _, _ => none
theorem rj_eqI {n m : Int} : RJ N rEq M (dI n) (dI m) (dB (decide (n = m))) M := fun x y H P h rx ry Q q => by
  cases ri_int rx
  cases ri_int ry
  refine ⟨rfl, q _ H P (Ex.refl P) h ?_⟩
  have e : decide (V.int n = V.int m) = decide (n = m) := by
    by_cases z : n = m
    · subst z; simp
    · simp [z]
  rw [e]
  exact .bl _
theorem tj_eqI {n m : Int} (ha : EJ X N ρ M a (dI n) M1) (hb : EJ X N ρ M1 b (dI m) M2) : TJ X N ρ M (.Compare a [.Eq] [b] pos) (decide (n = m)) M2 := tj_cmp op_eq (nomark _) ha hb rj_eqI
theorem ej_eqI {n m : Int} (ha : EJ X N ρ M a (dI n) M1) (hb : EJ X N ρ M1 b (dI m) M2) : EJ X N ρ M (.Compare a [.Eq] [b] pos) (dB (decide (n = m))) M2 := ej_cmp op_eq (nomark _) ha hb rj_eqI
theorem rj_neI {n m : Int} : RJ N rNe M (dI n) (dI m) (dB (!decide (n = m))) M := fun x y H P h rx ry Q q => by
  cases ri_int rx
  cases ri_int ry
  refine ⟨rfl, q _ H P (Ex.refl P) h ?_⟩
  have e : decide (V.int n = V.int m) = decide (n = m) := by
    by_cases z : n = m
    · subst z; simp
    · simp [z]
  rw [e]
  exact .bl _
theorem tj_neI {n m : Int} (ha : EJ X N ρ M a (dI n) M1) (hb : EJ X N ρ M1 b (dI m) M2) : TJ X N ρ M (.Compare a [.NotEq] [b] pos) (!decide (n = m)) M2 := tj_cmp op_ne (nomark _) ha hb rj_neI

/-! what an item reads as, in cells -/
inductive Rd1 (M : Mem) : It → PyData → Prop
  | d (x : PyData) : Rd1 M (.d x) x
  | own {a : Addr} {ds : List PyData} : (a, ds.map It.d) ∈ M → Rd1 M (.v (.ref a)) (.list ds)
theorem Rd1.dn {P H : Hp} (h : Holds N P H M) {v : V} {i : It} {d : PyData} (r : RepI P v i) (k : Rd1 M i d) : Dn H v d := by
  cases k with
  | d => exact dn_ex h.ex d v r
  | own hm =>
    obtain ⟨xs, e, q⟩ := h.cell hm
    cases (show v = .ref _ from r)
    exact .lst e (dnAll_ex h.ex _ _ q.to_all)
def plainD (d : PyData) : Bool := noDict d && SeqAt.shaped d
theorem rj_eqD {d d' : PyData} (hi : Rd1 M i d) (hj : Rd1 M j d') (s1 : plainD d = true) (s2 : plainD d' = true) : RJ N (rEqD X.K) M i j (dB (PyData.eqv d d')) M := fun x y H P h rx ry Q q => by
  have a1 := Bool.and_eq_true_iff.mp s1
  have a2 := Bool.and_eq_true_iff.mp s2
  exact ⟨d, d', dp_of d x a1.1 (hi.dn h rx), dp_of d' y a2.1 (hj.dn h ry), a1.2, a2.2, q _ H P (Ex.refl P) h (.bl _)⟩
theorem rj_neD {d d' : PyData} (hi : Rd1 M i d) (hj : Rd1 M j d') (s1 : plainD d = true) (s2 : plainD d' = true) : RJ N (rNeD X.K) M i j (dB (!PyData.eqv d d')) M := fun x y H P h rx ry Q q => by
  have a1 := Bool.and_eq_true_iff.mp s1
  have a2 := Bool.and_eq_true_iff.mp s2
  exact ⟨d, d', dp_of d x a1.1 (hi.dn h rx), dp_of d' y a2.1 (hj.dn h ry), a1.2, a2.2, q _ H P (Ex.refl P) h (.bl _)⟩

/-! subscripts -/
theorem rj_ixT {ds : List PyData} {n : Int} {d : PyData} (hd : atI ds n = some d) : RJ N (rIxT X.K) M (.d (.tuple ds)) (dI n) (.d d) M := fun x y H P h rx ry Q q => by
  obtain ⟨a, xs, rfl, h1, h2⟩ := ri_tup rx
  obtain ⟨j, e1, e2⟩ : ∃ j, ixN ds.length n = some j ∧ ds[j]? = some d := by
    unfold atI at hd
    cases e : ixN ds.length n with
    | none => rw [e] at hd; cases hd
    | some j => rw [e] at hd; exact ⟨j, rfl, hd⟩
  obtain ⟨v, e3, e4⟩ := dnAll_get h2 e2
  refine ⟨a, xs, n, v, rfl, ri_int ry, .inl (.inl (h.ex _ _ h1)), ?_, q v H P (Ex.refl P) h e4⟩
  unfold atI
  rw [dnAll_len h2, e1]
  exact e3
theorem rj_ixL {ds : List PyData} {n : Int} {d : PyData} (hd : atI ds n = some d) : RJ N (rIxL X.K) M (.d (.list ds)) (dI n) (.d d) M := fun x y H P h rx ry Q q => by
  obtain ⟨a, xs, rfl, h1, h2⟩ := ri_lst rx
  obtain ⟨j, e1, e2⟩ : ∃ j, ixN ds.length n = some j ∧ ds[j]? = some d := by
    unfold atI at hd
    cases e : ixN ds.length n with
    | none => rw [e] at hd; cases hd
    | some j => rw [e] at hd; exact ⟨j, rfl, hd⟩
  obtain ⟨v, e3, e4⟩ := dnAll_get h2 e2
  refine ⟨a, xs, n, v, rfl, ri_int ry, .inl (.inl (h.ex _ _ h1)), ?_, q v H P (Ex.refl P) h e4⟩
  unfold atI
  rw [dnAll_len h2, e1]
  exact e3
theorem rj_ixO {p : Addr} {is : List It} {n : Int} {k : It} (hm : (p, is) ∈ M) (hd : atI is n = some k) : RJ N (rIxL X.K) M (.v (.ref p)) (dI n) k M := fun x y H P h rx ry Q q => by
  obtain ⟨xs, h1, h2⟩ := h.cell hm
  cases (show x = .ref p from rx)
  obtain ⟨j, e1, e2⟩ : ∃ j, ixN is.length n = some j ∧ is[j]? = some k := by
    unfold atI at hd
    cases e : ixN is.length n with
    | none => rw [e] at hd; cases hd
    | some j => rw [e] at hd; exact ⟨j, rfl, hd⟩
  obtain ⟨v, e3, e4⟩ := h2.get e2
  refine ⟨p, xs, n, v, rfl, ri_int ry, .inl (.inl h1), ?_, q v H P (Ex.refl P) h e4⟩
  unfold atI
  rw [h2.len, e1]
  exact e3
theorem ej_ix {r : R2} (hr : IxR X r) (ha : EJ X N ρ M a i M1) (hb : EJ X N ρ M1 b j M2) (hj : RJ N r M2 i j k M3) (hs : PlainIx b := by exact fun _ _ => rfl) : EJ X N ρ M (.Subscript a b pos) k M3 := fun σ H P h g Q q =>
  e_of (pe_ix hr pe_w pe_w hs) (ha σ H P h g _ fun x H1 P1 e1 h1 r1 => hb σ H1 P1 h1 (g.ex e1) _ fun y H2 P2 e2 h2 r2 =>
    hj x y H2 P2 h2 (r1.ex e2) r2 Q fun v H3 P3 e3 h3 r3 => q v H3 P3 ((e1.trans e2).trans e3) h3 r3)
theorem ej_ixT {ds : List PyData} {n : Int} {d : PyData} (ha : EJ X N ρ M a (.d (.tuple ds)) M1) (hb : EJ X N ρ M1 b (dI n) M2) (hd : atI ds n = some d) (hs : PlainIx b := by exact fun _ _ => rfl) : EJ X N ρ M (.Subscript a b pos) (.d d) M2 := ej_ix ix_tup ha hb (rj_ixT hd) hs
theorem ej_ixL {ds : List PyData} {n : Int} {d : PyData} (ha : EJ X N ρ M a (.d (.list ds)) M1) (hb : EJ X N ρ M1 b (dI n) M2) (hd : atI ds n = some d) (hs : PlainIx b := by exact fun _ _ => rfl) : EJ X N ρ M (.Subscript a b pos) (.d d) M2 := ej_ix ix_list ha hb (rj_ixL hd) hs
theorem ej_ixO {p : Addr} {is : List It} {n : Int} {k : It} (ha : EJ X N ρ M a (.v (.ref p)) M1) (hb : EJ X N ρ M1 b (dI n) M2) (hm : (p, is) ∈ M2) (hd : atI is n = some k) (hs : PlainIx b := by exact fun _ _ => rfl) : EJ X N ρ M (.Subscript a b pos) k M2 := ej_ix ix_list ha hb (rj_ixO hm hd) hs

/-! arguments, displays -/
theorem aj_nil : AJ X N ρ M [] [] M := fun σ H P h g Q q => a_of pa_nil (q [] H P (Ex.refl P) h trivial)
theorem aj_cons {es : List Expr} {is : List It} (ha : EJ X N ρ M a i M1) (hb : AJ X N ρ M1 es is M2) (hs : starEach (a :: es) X.env = (false, eval a X.env) :: starEach es X.env := by rfl) : AJ X N ρ M (a :: es) (i :: is) M2 := fun σ H P h g Q q =>
  a_of (pa_cons pe_w pa_w hs) (ha σ H P h g _ fun x H1 P1 e1 h1 r1 => hb σ H1 P1 h1 (g.ex e1) _ fun vs H2 P2 e2 h2 r2 => q _ H2 P2 (e1.trans e2) h2 ⟨r1.ex e2, r2⟩)
def allD : List It → Option (List PyData)
  | [] => some []
  | .d x :: r => (allD r).map (x :: ·)
  | _ => none
theorem allD_eq : ∀ {is : List It} {ds : List PyData}, allD is = some ds → is = ds.map It.d
  | [], ds, h => by cases Option.some.inj h; rfl
  | .d x :: r, ds, h => by
    cases e : allD r with
    | none => rw [show allD (.d x :: r) = (allD r).map (x :: ·) from rfl, e] at h; cases h
    | some l =>
      rw [show allD (.d x :: r) = (allD r).map (x :: ·) from rfl, e] at h
      cases Option.some.inj h
      rw [allD_eq e]
      rfl
  | .v u :: r, ds, h => by cases h
  | .m u φ k :: r, ds, h => by cases h
theorem ej_tup {es : List Expr} {is : List It} {ds : List PyData} {n : Nat} (ha : AJ X N ρ M es is M1) (hd : allD is = some ds := by rfl) (hz : ds.length ≤ 100000 := by first | decide | (simp; done)) : EJ X N ρ M (.Tuple es n pos) (.d (.tuple ds)) M1 := fun σ H P h g Q q =>
  e_of (pe_tup pa_w) (ha σ H P h g _ fun xs H1 P1 e1 h1 r1 => by
    rw [allD_eq hd] at r1
    have z := dnAll_len r1.to_all
    refine ⟨by rw [z]; exact Nat.le_trans hz (by decide), fun p hp => ?_⟩
    obtain ⟨h2, e2⟩ := h1.pers (o := .tup xs) hp
    exact q _ _ _ (e1.trans e2) h2 (.tup upd_same (dnAll_ex e2 _ _ r1.to_all)))
theorem el_disp {es : List Expr} {is : List It} (ha : AJ X N ρ M es is M1) (hz : is.length ≤ 100000 := by first | decide | (simp; done)) : EL X N ρ M (.List es pos) is M1 := fun σ H P h g Q q =>
  e_of (pe_lst pa_w) (ha σ H P h g _ fun xs H1 P1 e1 h1 r1 => by
    have z : xs.length ≤ sizeLine := by rw [r1.len]; exact Nat.le_trans hz (by decide)
    exact ⟨z, fun p hp => q p _ P1 e1 (h1.newF hp) (h1.own hp r1)⟩)
/-- a new list that stays as it is -/
theorem ej_el {is : List It} {ds : List PyData} (h : EL X N ρ M e is M1) (hd : is = ds.map It.d) : EJ X N ρ M e (.d (.list ds)) M1 := fun σ H P hh g Q q =>
  h σ H P hh g Q fun p H1 P1 e1 hp h1 => by
    subst hd
    obtain ⟨P2, e2, dn, h2⟩ := h1.freeze (a := p) (ds := ds) (List.mem_append_right _ (List.mem_singleton.mpr rfl)) hp
    rw [filter_last h1.nd] at h2
    exact q _ H1 P2 (e1.trans e2) h2 dn

/-! built-ins called by name -/
theorem ej_callB {x : Str} {id : String} {r : List V → Hp → VK → Prop} {p : Pos} {es : List Expr} {is : List It} (hc : CallR X (.builtin id) r) (hm : X.mg x = none) (hv : bootBuiltins x = some (.builtin id)) (ha : AJ X N ρ M (e :: es) is M1) (hr : CJ N r M1 is k M2)
    (hg : Gl X x := by rfl) (hn : x ≠ "__name__" := by decide) (hdb : (x == ("__debug__" : Str)) = false := by decide)
    (he : starEach (e :: es) X.env = (false, eval e X.env) :: starEach es X.env := by rfl) (hpl : (backTo pos (starEach es X.env)).any (·.1) = false := by rfl) : EJ X N ρ M (.Call (.Name x p) (e :: es) [] pos) k M2 := fun σ H P h g Q q =>
  e_of (pe_callB hc hg hm hv pa_w hn hdb he hpl) (ha σ H P h g _ fun vs H1 P1 e1 h1 r1 => hr vs H1 P1 h1 r1 Q fun v H2 P2 e2 h2 r2 => q v H2 P2 (e1.trans e2) h2 r2)
theorem ej_callTy {x : Str} {T : String} {r : List V → Hp → VK → Prop} {p : Pos} {es : List Expr} {is : List It} (hc : CallR X (.type T) r) (hm : X.mg x = none) (hv : bootBuiltins x = some (.type T)) (ha : AJ X N ρ M (e :: es) is M1) (hr : CJ N r M1 is k M2)
    (hg : Gl X x := by rfl) (hn : x ≠ "__name__" := by decide) (hdb : (x == ("__debug__" : Str)) = false := by decide)
    (he : starEach (e :: es) X.env = (false, eval e X.env) :: starEach es X.env := by rfl) (hpl : (backTo pos (starEach es X.env)).any (·.1) = false := by rfl) : EJ X N ρ M (.Call (.Name x p) (e :: es) [] pos) k M2 := fun σ H P h g Q q =>
  e_of (pe_callTy hc hg hm hv pa_w hn hdb he hpl) (ha σ H P h g _ fun vs H1 P1 e1 h1 r1 => hr vs H1 P1 h1 r1 Q fun v H2 P2 e2 h2 r2 => q v H2 P2 (e1.trans e2) h2 r2)
end
end Kt

namespace Kt
open PySem PySem.Spec PyProof.Rows L2
section
variable {X : Cx} {N : Ent} {ρ ρ' : Rho} {M M1 M2 M3 M' : Mem} {a b c e : Expr} {pos : Pos} {i j k : It} {t u : Bool}

/-! tests -/
theorem tj_val (h : EJ X N ρ M e (dB t) M1) (he : ∀ whole, isTrue e X.env whole = (do let v ← whole; standAt e.pos; holding [v] (truthy v)) := by intro _; rfl) : TJ X N ρ M e t M1 := fun σ H P hh g Q q =>
  t_of (pt_val pe_w he) (h σ H P hh g _ fun v H1 P1 e1 h1 r1 => ⟨t, ri_bl r1, q H1 P1 e1 h1⟩)
theorem tj_w (h : WJ X N ρ M e t M1) : TJ X N ρ M e t M1 := fun σ H P hh g Q q => t_of pw_w.pt (h σ H P hh g Q q)
theorem tj_not (h : TJ X N ρ M a t M1) : TJ X N ρ M (.UnaryOp .Not a pos) (!t) M1 := fun σ H P hh g Q q => t_of (pt_not pt_w) (h σ H P hh g _ q)
theorem wj_and1 (h : TJ X N ρ M a t M1) : WJ X N ρ M (.BoolOp .And [a] pos) t M1 := fun σ H P hh g Q q => w_of (pw_and1 pt_w) (h σ H P hh g Q q)
theorem wj_or1 (h : TJ X N ρ M a t M1) : WJ X N ρ M (.BoolOp .Or [a] pos) t M1 := fun σ H P hh g Q q => w_of (pw_or1 pt_w) (h σ H P hh g Q q)
theorem wj_and {es : List Expr} (h : TJ X N ρ M a t M1) (h2 : t = true → WJ X N ρ M1 (.BoolOp .And (b :: es) pos) u M1) : WJ X N ρ M (.BoolOp .And (a :: b :: es) pos) (t && u) M1 := fun σ H P hh g Q q =>
  w_of (pw_and pt_w pw_w) (h σ H P hh g _ fun H1 P1 e1 h1 => by
    cases t with
    | true => exact iteT (h2 rfl σ H1 P1 h1 (g.ex e1) Q fun H2 P2 e2 h3 => q H2 P2 (e1.trans e2) h3)
    | false => exact iteF (q H1 P1 e1 h1))
theorem wj_or {es : List Expr} (h : TJ X N ρ M a t M1) (h2 : t = false → WJ X N ρ M1 (.BoolOp .Or (b :: es) pos) u M1) : WJ X N ρ M (.BoolOp .Or (a :: b :: es) pos) (t || u) M1 := fun σ H P hh g Q q =>
  w_of (pw_or pt_w pw_w) (h σ H P hh g _ fun H1 P1 e1 h1 => by
    cases t with
    | true => exact iteT (q H1 P1 e1 h1)
    | false => exact iteF (h2 rfl σ H1 P1 h1 (g.ex e1) Q fun H2 P2 e2 h3 => q H2 P2 (e1.trans e2) h3))
theorem tj_is (h : TJ X N ρ M e t M1) (q : t = u) : TJ X N ρ M e u M1 := q ▸ h
theorem ej_is (h : EJ X N ρ M e i M1) (q : i = j) : EJ X N ρ M e j M1 := q ▸ h
/-! as values -/
theorem ej_one {op : BoolOp} (h : EJ X N ρ M a i M1) : EJ X N ρ M (.BoolOp op [a] pos) i M1 := fun σ H P hh g Q q => e_of (pe_one pe_w) (h σ H P hh g Q q)
theorem ej_andV {es : List Expr} (h : EJ X N ρ M a (dB t) M1) (h2 : t = true → EJ X N ρ M1 (.BoolOp .And (b :: es) pos) (dB u) M1) : EJ X N ρ M (.BoolOp .And (a :: b :: es) pos) (dB (t && u)) M1 := fun σ H P hh g Q q =>
  e_of (pe_and pe_w pe_w) (h σ H P hh g _ fun v H1 P1 e1 h1 r1 => ⟨t, ri_bl r1, by
    cases t with
    | true => exact iteT (h2 rfl σ H1 P1 h1 (g.ex e1) Q fun v2 H2 P2 e2 h3 r => q v2 H2 P2 (e1.trans e2) h3 r)
    | false => exact iteF (q _ H1 P1 e1 h1 (.bl _))⟩)
theorem ej_orV {es : List Expr} (h : EJ X N ρ M a (dB t) M1) (h2 : t = false → EJ X N ρ M1 (.BoolOp .Or (b :: es) pos) (dB u) M1) : EJ X N ρ M (.BoolOp .Or (a :: b :: es) pos) (dB (t || u)) M1 := fun σ H P hh g Q q =>
  e_of (pe_or pe_w pe_w) (h σ H P hh g _ fun v H1 P1 e1 h1 r1 => ⟨t, ri_bl r1, by
    cases t with
    | true => exact iteT (q _ H1 P1 e1 h1 (.bl _))
    | false => exact iteF (h2 rfl σ H1 P1 h1 (g.ex e1) Q fun v2 H2 P2 e2 h3 r => q v2 H2 P2 (e1.trans e2) h3 r)⟩)
theorem ej_notV (h : EJ X N ρ M a (dB t) M1) : EJ X N ρ M (.UnaryOp .Not a pos) (dB (!t)) M1 := fun σ H P hh g Q q =>
  e_of (pe_not pe_w) (h σ H P hh g _ fun v H1 P1 e1 h1 r1 => ⟨t, ri_bl r1, q _ H1 P1 e1 h1 (.bl _)⟩)
theorem ej_if (hc : TJ X N ρ M c t M1) (h1 : t = true → EJ X N ρ M1 a i M2) (h2 : t = false → EJ X N ρ M1 b i M2) : EJ X N ρ M (.IfExp c a b pos) i M2 := fun σ H P hh g Q q =>
  e_of (pe_ifExp pt_w pe_w pe_w) (hc σ H P hh g _ fun H1 P1 e1 hh1 => by
    cases t with
    | true => exact iteT (h1 rfl σ H1 P1 hh1 (g.ex e1) Q fun v H2 P2 e2 h3 r => q v H2 P2 (e1.trans e2) h3 r)
    | false => exact iteF (h2 rfl σ H1 P1 hh1 (g.ex e1) Q fun v H2 P2 e2 h3 r => q v H2 P2 (e1.trans e2) h3 r))
/-- low <= x <= high, as a value, as a test -/
theorem ej_chainLL {n m l : Int} (ha : EJ X N ρ M a (dI n) M) (hb : EJ X N ρ M b (dI m) M) (hc : EJ X N ρ M c (dI l) M) (hm : lastMarks [.LtE, .LtE] [b, c] = false := by with_unfolding_all rfl) : EJ X N ρ M (.Compare a [.LtE, .LtE] [b, c] pos) (dB (decide (n ≤ m) && decide (m ≤ l))) M := fun σ H P h g Q q =>
  e_of (pe_chain op_le op_le pe_w pe_w pe_w hm) (ha σ H P h g _ fun x H1 P1 e1 h1 r1 => hb σ H1 P1 h1 (g.ex e1) _ fun y H2 P2 e2 h2 r2 => ⟨n, m, ri_int r1, ri_int r2, decide (n ≤ m), rfl, by
    cases z : decide (n ≤ m) with
    | false => exact iteF (q _ H2 P2 (e1.trans e2) h2 (by rw [z]; exact .bl _))
    | true => exact iteT (hc σ H2 P2 h2 (g.ex (e1.trans e2)) _ fun w H3 P3 e3 h3 r3 => ⟨m, l, ri_int r2, ri_int r3, q _ H3 P3 ((e1.trans e2).trans e3) h3 (by rw [z]; exact .bl _)⟩)⟩)

/-! ### built-ins -/
theorem ri2 {P : Hp} {vs : List V} {i j : It} (h : RepIs P vs [i, j]) : ∃ x y, vs = [x, y] ∧ RepI P x i ∧ RepI P y j := by
  match vs, h with
  | [x, y], h => exact ⟨x, y, rfl, h.1, h.2.1⟩
theorem ri1 {P : Hp} {vs : List V} {i : It} (h : RepIs P vs [i]) : ∃ x, vs = [x] ∧ RepI P x i := by
  match vs, h with
  | [x], h => exact ⟨x, rfl, h.1⟩
theorem ej_len {p q : Pos} {x : It} {n : Nat} (hm : X.mg "len" = none) (ha : EJ X N ρ M a x M1) (hn : ∀ v H P, Holds N P H M1 → RepI P v x → ∃ y ys, v = .ref y ∧ (SqL X.K H y ys ∨ SqT X.K H y ys) ∧ ys.length = n)
    (hg : Gl X "len" := by rfl) (he : starEach [a] X.env = [(false, eval a X.env)] := by rfl) (hpl : (backTo q (starEach ([] : List Expr) X.env)).any (·.1) = false := by rfl) : EJ X N ρ M (.Call (.Name "len" p) [a] [] q) (dI (n : Int)) M1 :=
  ej_callB call_len_seq hm PySem.boot_len (aj_cons ha aj_nil he) (fun vs H P h rr Q q => by
    obtain ⟨x, rfl, r⟩ := ri1 rr
    obtain ⟨y, ys, rfl, s, z⟩ := hn x H P h r
    exact ⟨y, ys, rfl, s, q _ H P (Ex.refl P) h (by rw [z]; exact .int _)⟩) hg (by decide) (by decide) he hpl
theorem ej_lenL {p q : Pos} {ds : List PyData} (hm : X.mg "len" = none) (ha : EJ X N ρ M a (.d (.list ds)) M1) (hg : Gl X "len" := by rfl) (he : starEach [a] X.env = [(false, eval a X.env)] := by rfl) (hpl : (backTo q (starEach ([] : List Expr) X.env)).any (·.1) = false := by rfl) :
    EJ X N ρ M (.Call (.Name "len" p) [a] [] q) (dI (ds.length : Int)) M1 := ej_len hm ha (fun v H P h r => by
  obtain ⟨y, ys, rfl, h1, h2⟩ := ri_lst r
  exact ⟨y, ys, rfl, .inl (.inl (.inl (h.ex _ _ h1))), dnAll_len h2⟩) hg he hpl
theorem ej_lenT {p q : Pos} {ds : List PyData} (hm : X.mg "len" = none) (ha : EJ X N ρ M a (.d (.tuple ds)) M1) (hg : Gl X "len" := by rfl) (he : starEach [a] X.env = [(false, eval a X.env)] := by rfl) (hpl : (backTo q (starEach ([] : List Expr) X.env)).any (·.1) = false := by rfl) :
    EJ X N ρ M (.Call (.Name "len" p) [a] [] q) (dI (ds.length : Int)) M1 := ej_len hm ha (fun v H P h r => by
  obtain ⟨y, ys, rfl, h1, h2⟩ := ri_tup r
  exact ⟨y, ys, rfl, .inr (.inl (.inl (h.ex _ _ h1))), dnAll_len h2⟩) hg he hpl
theorem ej_lenO {p q : Pos} {o : Addr} {is : List It} (hm : X.mg "len" = none) (ha : EJ X N ρ M a (.v (.ref o)) M1) (hM : (o, is) ∈ M1) (hg : Gl X "len" := by rfl) (he : starEach [a] X.env = [(false, eval a X.env)] := by rfl) (hpl : (backTo q (starEach ([] : List Expr) X.env)).any (·.1) = false := by rfl) :
    EJ X N ρ M (.Call (.Name "len" p) [a] [] q) (dI (is.length : Int)) M1 := ej_len hm ha (fun v H P h r => by
  cases (show v = .ref o from r)
  obtain ⟨xs, h1, h2⟩ := h.cell hM
  exact ⟨o, xs, rfl, .inl (.inl (.inl h1)), h2.len⟩) hg he hpl
theorem ej_intc {p q : Pos} {n : Int} (hm : X.mg "int" = none) (ha : EJ X N ρ M a (dI n) M1) (hg : Gl X "int" := by rfl) (he : starEach [a] X.env = [(false, eval a X.env)] := by rfl) (hpl : (backTo q (starEach ([] : List Expr) X.env)).any (·.1) = false := by rfl) :
    EJ X N ρ M (.Call (.Name "int" p) [a] [] q) (dI n) M1 := ej_callTy call_int1 hm (by decide +kernel) (aj_cons ha aj_nil he) (fun vs H P h rr Q q => by
  obtain ⟨x, rfl, r⟩ := ri1 rr
  cases ri_int r
  exact .inl ⟨n, rfl, q _ H P (Ex.refl P) h (.int _)⟩) hg (by decide) (by decide) he hpl
theorem ej_abs {p q : Pos} {n : Int} (hm : X.mg "abs" = none) (ha : EJ X N ρ M a (dI n) M1) (hg : Gl X "abs" := by rfl) (he : starEach [a] X.env = [(false, eval a X.env)] := by rfl) (hpl : (backTo q (starEach ([] : List Expr) X.env)).any (·.1) = false := by rfl) :
    EJ X N ρ M (.Call (.Name "abs" p) [a] [] q) (dI (if n < 0 then -n else n)) M1 := ej_callB call_abs hm (by decide +kernel) (aj_cons ha aj_nil he) (fun vs H P h rr Q q => by
  obtain ⟨x, rfl, r⟩ := ri1 rr
  cases ri_int r
  exact ⟨n, rfl, q _ H P (Ex.refl P) h (.int _)⟩) hg (by decide) (by decide) he hpl
theorem ej_sum {p q : Pos} {ns : List Int} (hc : X.calm = true) (hm : X.mg "sum" = none) (ha : EJ X N ρ M a (.d (.list (ns.map PyData.int))) M1) (hg : Gl X "sum" := by rfl) (he : starEach [a] X.env = [(false, eval a X.env)] := by rfl) (hpl : (backTo q (starEach ([] : List Expr) X.env)).any (·.1) = false := by rfl) :
    EJ X N ρ M (.Call (.Name "sum" p) [a] [] q) (dI ns.sum) M1 := ej_callB (cr_sum hc) hm (by decide +kernel) (aj_cons ha aj_nil he) (fun vs H P h rr Q q => by
  obtain ⟨x, rfl, r⟩ := ri1 rr
  obtain ⟨y, ys, rfl, h1, h2⟩ := ri_lst r
  cases h2.ints
  exact ⟨y, ns, rfl, .inl (.inl (h.ex _ _ h1)), q _ H P (Ex.refl P) h (.int _)⟩) hg (by decide) (by decide) he hpl
theorem ej_all {p q : Pos} {bs : List Bool} (hc : X.calm = true) (hm : X.mg "all" = none) (ha : EJ X N ρ M a (.d (.list (bs.map PyData.bool))) M1) (hg : Gl X "all" := by rfl) (he : starEach [a] X.env = [(false, eval a X.env)] := by rfl) (hpl : (backTo q (starEach ([] : List Expr) X.env)).any (·.1) = false := by rfl) :
    EJ X N ρ M (.Call (.Name "all" p) [a] [] q) (dB (bs.all id)) M1 := ej_callB (cr_all hc) hm (by decide +kernel) (aj_cons ha aj_nil he) (fun vs H P h rr Q q => by
  obtain ⟨x, rfl, r⟩ := ri1 rr
  obtain ⟨y, ys, rfl, h1, h2⟩ := ri_lst r
  cases h2.bools
  exact ⟨y, bs, rfl, .inl (.inl (h.ex _ _ h1)), q _ H P (Ex.refl P) h (.bl _)⟩) hg (by decide) (by decide) he hpl
theorem ej_maxL {p q : Pos} {ns : List Int} {m : Int} (hc : X.calm = true) (hm : X.mg "max" = none) (ha : EJ X N ρ M a (.d (.list (ns.map PyData.int))) M1) (h1 : m ∈ ns) (h2 : ∀ y ∈ ns, y ≤ m) (hg : Gl X "max" := by rfl) (he : starEach [a] X.env = [(false, eval a X.env)] := by rfl) (hpl : (backTo q (starEach ([] : List Expr) X.env)).any (·.1) = false := by rfl) :
    EJ X N ρ M (.Call (.Name "max" p) [a] [] q) (dI m) M1 := ej_callB (cr_max hc) hm (by decide +kernel) (aj_cons ha aj_nil he) (fun vs H P h rr Q q => by
  obtain ⟨x, rfl, r⟩ := ri1 rr
  obtain ⟨y, ys, rfl, h3, h4⟩ := ri_lst r
  cases h4.ints
  refine ⟨y, ns, rfl, .inl (.inl (h.ex _ _ h3)), List.length_pos_of_mem h1, fun m' hm' hy => ?_⟩
  have e : m' = m := by have := hy m h1; have := h2 m' hm'; omega
  exact q _ H P (Ex.refl P) h (e ▸ .int _)) hg (by decide) (by decide) he hpl
/-- tuple(a list): a new tuple -/
theorem ej_tupleL {p q : Pos} {is : List It} {ds : List PyData} (hm : X.mg "tuple" = none) (ha : EL X N ρ M a is M1) (hd : is = ds.map It.d) (hg : Gl X "tuple" := by rfl) (he : starEach [a] X.env = [(false, eval a X.env)] := by rfl) (hpl : (backTo q (starEach ([] : List Expr) X.env)).any (·.1) = false := by rfl) :
    EJ X N ρ M (.Call (.Name "tuple" p) [a] [] q) (.d (.tuple ds)) M1 := ej_callTy call_tuple_of hm (by decide +kernel) (aj_cons (ej_el ha hd) aj_nil he) (fun vs H P h rr Q q => by
  obtain ⟨x, rfl, r⟩ := ri1 rr
  obtain ⟨y, ys, rfl, h1, h2⟩ := ri_lst r
  refine ⟨y, ys, rfl, .inl ⟨.inl (.inl (h.ex _ _ h1)), fun l hl => ?_⟩⟩
  obtain ⟨h3, e3⟩ := h.pers (o := .tup ys) hl
  exact q _ _ _ e3 h3 (.tup upd_same (dnAll_ex e3 _ _ h2))) hg (by decide) (by decide) he hpl
theorem ej_tupleD {p q : Pos} {ds : List PyData} (hm : X.mg "tuple" = none) (ha : EJ X N ρ M a (.d (.list ds)) M1) (hg : Gl X "tuple" := by rfl) (he : starEach [a] X.env = [(false, eval a X.env)] := by rfl) (hpl : (backTo q (starEach ([] : List Expr) X.env)).any (·.1) = false := by rfl) :
    EJ X N ρ M (.Call (.Name "tuple" p) [a] [] q) (.d (.tuple ds)) M1 := ej_callTy call_tuple_of hm (by decide +kernel) (aj_cons ha aj_nil he) (fun vs H P h rr Q q => by
  obtain ⟨x, rfl, r⟩ := ri1 rr
  obtain ⟨y, ys, rfl, h1, h2⟩ := ri_lst r
  refine ⟨y, ys, rfl, .inl ⟨.inl (.inl (h.ex _ _ h1)), fun l hl => ?_⟩⟩
  obtain ⟨h3, e3⟩ := h.pers (o := .tup ys) hl
  exact q _ _ _ e3 h3 (.tup upd_same (dnAll_ex e3 _ _ h2))) hg (by decide) (by decide) he hpl
theorem ej_tupleO {p q : Pos} {o : Addr} {ds : List PyData} (hm : X.mg "tuple" = none) (ha : EJ X N ρ M a (.v (.ref o)) M1) (hM : (o, ds.map It.d) ∈ M1) (hg : Gl X "tuple" := by rfl) (he : starEach [a] X.env = [(false, eval a X.env)] := by rfl) (hpl : (backTo q (starEach ([] : List Expr) X.env)).any (·.1) = false := by rfl) :
    EJ X N ρ M (.Call (.Name "tuple" p) [a] [] q) (.d (.tuple ds)) M1 := ej_callTy call_tuple_of hm (by decide +kernel) (aj_cons ha aj_nil he) (fun vs H P h rr Q q => by
  obtain ⟨x, rfl, r⟩ := ri1 rr
  cases (show x = .ref o from r)
  obtain ⟨ys, h1, h2⟩ := h.cell hM
  refine ⟨o, ys, rfl, .inl ⟨.inl (.inl h1), fun l hl => ?_⟩⟩
  obtain ⟨h3, e3⟩ := h.pers (o := .tup ys) hl
  exact q _ _ _ e3 h3 (.tup upd_same (dnAll_ex e3 _ _ h2.to_all))) hg (by decide) (by decide) he hpl

/-! ### statements -/
structure Post where
  nx : Rho → Mem → Prop
  rt : It → Mem → Prop
  bk : Rho → Mem → Prop := fun _ _ => False
  ct : Rho → Mem → Prop := fun _ _ => False
  er : Str → Mem → Prop := fun _ _ => False
/-- the dict of an exception with this name -/
abbrev XD (z : Str) : HO := .xd [("name", .str z)]
structure ZD (mg : Str → Option Value) (N : Ent) (P : Hp) (Z : Post) (D : Ends) (E : XK) : Prop where
  nx : ∀ ρ' M' σ' H' P', Z.nx ρ' M' → Ex P P' → Holds N P' H' M' → Slots P' σ' ρ' → D.nx σ' H'
  rt : ∀ i M' v H' P', Z.rt i M' → Ex P P' → Holds N P' H' M' → RepI P' v i → D.rt v H'
  bk : ∀ ρ' M' σ' H' P', Z.bk ρ' M' → Ex P P' → Holds N P' H' M' → Slots P' σ' ρ' → D.bk σ' H'
  ct : ∀ ρ' M' σ' H' P', Z.ct ρ' M' → Ex P P' → Holds N P' H' M' → Slots P' σ' ρ' → D.ct σ' H'
  er : ∀ z M' d H' P' C, mg "ShapeError" = some (.ref C) → Z.er z M' → Ex P P' → Holds N P' H' M' → H' d = some (XD z) → E (.ref C) (some d) H'
theorem ZD.ex {mg : Str → Option Value} {P P' : Hp} {Z : Post} {D : Ends} {E : XK} (e : Ex P P') (z : ZD mg N P Z D E) : ZD mg N P' Z D E :=
  ⟨fun ρ' M' σ' H' P'' a b => z.nx ρ' M' σ' H' P'' a (e.trans b), fun i M' v H' P'' a b => z.rt i M' v H' P'' a (e.trans b), fun ρ' M' σ' H' P'' a b => z.bk ρ' M' σ' H' P'' a (e.trans b), fun ρ' M' σ' H' P'' a b => z.ct ρ' M' σ' H' P'' a (e.trans b), fun w M' d H' P'' C c a b => z.er w M' d H' P'' C c a (e.trans b)⟩
def SJ (X : Cx) (N : Ent) (ρ : Rho) (M : Mem) (sts : List Stmt) (Z : Post) : Prop :=
  ∀ σ H P, Holds N P H M → Slots P σ ρ → ∀ (D : Ends) (E : XK), Takes X (fun c d _ H => E c d H) → ZD X.mg N P Z D E → wSs X sts D σ H
/-- a target takes an item -/
def GJ (X : Cx) (N : Ent) (tg : Expr) (i : It) (ρ : Rho) (ρ' : Rho) : Prop :=
  ∀ v σ H P M, Holds N P H M → Slots P σ ρ → RepI P v i → ∀ Q : L2.St → Hp → Prop, (∀ σ', Slots P σ' ρ' → Q σ' H) → wG X tg v σ H Q
variable {Z : Post} {rest : List Stmt}
theorem sj_nil (h : Z.nx ρ M) : SJ X N ρ M [] Z := fun σ H P hh g D E tk z => ss_of pss_nil (z.nx ρ M σ H P h (Ex.refl P) hh g)
theorem sj_cons {st : Stmt} (h : ∀ σ H P, Holds N P H M → Slots P σ ρ → ∀ (D : Ends) (E : XK), Takes X (fun c d _ H => E c d H) → ZD X.mg N P { Z with nx := fun ρ' M' => SJ X N ρ' M' rest Z } D E → wS X st D σ H) : SJ X N ρ M (st :: rest) Z := fun σ H P hh g D E tk z =>
  ss_of (pss_cons ps_w pss_w) (h σ H P hh g _ E tk ⟨fun ρ' M' σ' H' P' a e hh' g' => a σ' H' P' hh' g' D E tk (z.ex e), z.rt, z.bk, z.ct, z.er⟩)
theorem gj_name (n : Nat) {x : Str} (hN : X.N.Nodup) (hi : X.N[n]? = some x := by rfl) (hx : Loc X.env.scope x := by first | exact .inl rfl | exact .inr rfl) (hf : X.fn x = true ∨ X.env.scope.names.lookup x = some .local := by first | exact .inl rfl | exact .inr rfl) :
    GJ X N (.Name x pos) i ρ (ρ.set n (some i)) := fun v σ H P M hh g r Q q => g_of (pg_name (i := n) hN hi hx hf) (q _ (g.set r n))
theorem sj_asgG {tg : Expr} (he : EJ X N ρ M e i M1) (hg : GJ X N tg i ρ ρ') (hr : SJ X N ρ' M1 rest Z) (hs : swapsWithSole [tg] e pos.line X.env = pure false := by rfl) (hw : swappedStores [tg] e X.env = pure none := by rfl)
    (h1 : (assignEach [tg] X.env).map (·.2) = [assign tg X.env] := by rfl) : SJ X N ρ M (.Assign [tg] e pos :: rest) Z := sj_cons fun σ H P hh g D E tk z =>
  s_of (ps_asg pe_w pg_w hs hw h1) (he σ H P hh g _ fun v H1 P1 e1 h1 r1 => hg v σ H1 P1 M1 h1 (g.ex e1) r1 _ fun σ' g' => z.nx ρ' M1 σ' H1 P1 hr e1 h1 g')
/-- x = e -/
theorem sj_set (n : Nat) {x : Str} {pos' : Pos} (hN : X.N.Nodup) (he : EJ X N ρ M e i M1) (hr : SJ X N (ρ.set n (some i)) M1 rest Z) (hi : X.N[n]? = some x := by rfl) (hx : Loc X.env.scope x := by first | exact .inl rfl | exact .inr rfl) (hs : swapsWith e (some (.Name x pos')) pos.line X.env = pure false := by rfl) (hf : X.fn x = true ∨ X.env.scope.names.lookup x = some .local := by first | exact .inl rfl | exact .inr rfl) :
    SJ X N ρ M (.Assign [.Name x pos'] e pos :: rest) Z := sj_cons fun σ H P hh g D E tk z =>
  s_of (ps_set (i := n) hN hi hx pe_w hs hf) (he σ H P hh g _ fun v H1 P1 e1 h1 r1 => z.nx _ M1 _ H1 P1 hr e1 h1 ((g.ex e1).set r1 n))
/-- x = a new list of one's own -/
theorem sj_own (n : Nat) {x : Str} {pos' : Pos} {is : List It} (hN : X.N.Nodup) (he : EL X N ρ M e is M1) (hr : ∀ p, p ∉ N.F → SJ X N (ρ.set n (some (.v (.ref p)))) (M1 ++ [(p, is)]) rest Z) (hi : X.N[n]? = some x := by rfl) (hx : Loc X.env.scope x := by first | exact .inl rfl | exact .inr rfl) (hs : swapsWith e (some (.Name x pos')) pos.line X.env = pure false := by rfl) (hf : X.fn x = true ∨ X.env.scope.names.lookup x = some .local := by first | exact .inl rfl | exact .inr rfl) :
    SJ X N ρ M (.Assign [.Name x pos'] e pos :: rest) Z := sj_cons fun σ H P hh g D E tk z =>
  s_of (ps_set (i := n) hN hi hx pe_w hs hf) (he σ H P hh g _ fun p H1 P1 e1 hp h1 => z.nx _ _ _ _ P1 (hr p hp) e1 h1 ((g.ex e1).set (it := .v (.ref p)) rfl n))
theorem sj_ret (he : EJ X N ρ M e i M1) (h : Z.rt i M1) : SJ X N ρ M (.Return (some e) pos :: rest) Z := sj_cons fun σ H P hh g D E tk z =>
  s_of (ps_ret pe_w) (he σ H P hh g _ fun v H1 P1 e1 h1 r1 => z.rt i M1 v H1 P1 h e1 h1 r1)
theorem sj_retN (h : Z.rt (.d .none) M) : SJ X N ρ M (.Return none pos :: rest) Z := sj_cons fun σ H P hh g D E tk z => s_of ps_retN (z.rt _ M _ H P h (Ex.refl P) hh .non)
theorem sj_if {A B : List Stmt} (hc : TJ X N ρ M c t M1) (h1 : t = true → SJ X N ρ M1 A { Z with nx := fun ρ' M' => SJ X N ρ' M' rest Z }) (h2 : t = false → SJ X N ρ M1 B { Z with nx := fun ρ' M' => SJ X N ρ' M' rest Z }) : SJ X N ρ M (.If c A B pos :: rest) Z := sj_cons fun σ H P hh g D E tk z =>
  s_of (ps_if pt_w pss_w pss_w) (hc σ H P hh g _ fun H1 P1 e1 hh1 => by
    cases t with
    | true => exact iteT (h1 rfl σ H1 P1 hh1 (g.ex e1) D E tk (z.ex e1))
    | false => exact iteF (h2 rfl σ H1 P1 hh1 (g.ex e1) D E tk (z.ex e1)))
theorem sj_expr (he : EJ X N ρ M e i M1) (hr : SJ X N ρ M1 rest Z) (hs : swapsWith e none pos.line X.env = pure false := by rfl) : SJ X N ρ M (.Expr e pos :: rest) Z := sj_cons fun σ H P hh g D E tk z =>
  s_of (ps_expr pe_w hs) (he σ H P hh g _ fun v H1 P1 e1 h1 r1 => z.nx ρ M1 σ H1 P1 hr e1 h1 (g.ex e1))
theorem sj_break (h : Z.bk ρ M) : SJ X N ρ M (.Break pos :: rest) Z := sj_cons fun σ H P hh g D E tk z => s_of ps_break (z.bk ρ M σ H P h (Ex.refl P) hh g)
theorem sj_continue (h : Z.ct ρ M) : SJ X N ρ M (.Continue pos :: rest) Z := sj_cons fun σ H P hh g D E tk z => s_of ps_continue (z.ct ρ M σ H P h (Ex.refl P) hh g)
/-- fewer things known -/
theorem sj_weak {sts : List Stmt} (h : SJ X N ρ' M' sts Z) (hl : ρ'.length = ρ.length) (w : ∀ (n : Nat) (it : It), ρ'[n]? = some (some it) → ρ[n]? = some (some it)) (s : ∀ c ∈ M', c ∈ M) (nd : (M.map Prod.fst).Nodup → (M'.map Prod.fst).Nodup) (mf : ∀ a ∈ N.F, a ∈ M'.map Prod.fst) : SJ X N ρ M sts Z :=
  fun σ H P hh g D E tk z => h σ H P (hh.sub s (nd hh.nd) mf) (g.weak hl w) D E tk z
/-- x += e, ints -/
theorem sj_aug (n : Nat) {x : Str} {pos' : Pos} {op : Operator} {f : Int → Int → Int} {z1 z2 : Int} (ho : PIp X op (ipI f)) (hN : X.N.Nodup) (hρ : ρ[n]? = some (some (dI z1))) (he : EJ X N ρ M e (dI z2) M1) (hr : SJ X N (ρ.set n (some (dI (f z1 z2)))) M1 rest Z) (hi : X.N[n]? = some x := by rfl) (hx : Loc X.env.scope x := by first | exact .inl rfl | exact .inr rfl) (hf : X.fn x = true ∨ X.env.scope.names.lookup x = some .local := by first | exact .inl rfl | exact .inr rfl) :
    SJ X N ρ M (.AugAssign (.Name x pos') op e pos :: rest) Z := sj_cons fun σ H P hh g D E tk z => by
  obtain ⟨v, e0, r0⟩ := g.2 n _ hρ
  refine s_of (ps_aug (i := n) hN hi hx pe_w ho hf) ⟨v, e0, he σ H P hh g _ fun y H1 P1 e1 h1 r1 => ⟨z1, z2, ri_int r0, ri_int r1, ?_⟩⟩
  exact z.nx _ M1 _ H1 P1 hr e1 h1 ((g.ex e1).set (it := dI (f z1 z2)) (.int _) n)
/-- xs.append(e), xs one's own -/
theorem sj_append {ap epos : Pos} {p : Addr} {is is0 : List It} (ho : EJ X N ρ M a (.v (.ref p)) M) (hm0 : (p, is0) ∈ M) (he : EJ X N ρ M e i M1) (hm : (p, is) ∈ M1) (hz : is.length < 100000) (hr : SJ X N ρ (M1.put p (is ++ [i])) rest Z) (hs : swapsWith (.Call (.Attribute a "append" ap) [e] [] pos) none epos.line X.env = pure false := by rfl)
    (hst : starEach [e] X.env = [(false, eval e X.env)] := by rfl) (ps : PE X (.Call (.Attribute a "append" ap) [e] [] pos) (tBM X.K "list" rAppend (wE X a) (wA X [e])) := by exact pe_bm PySem.F.plainAttrs_list PySem.F.slot_list_append PySem.F.type_list_append mt_append pe_w pa_w) : SJ X N ρ M (.Expr (.Call (.Attribute a "append" ap) [e] [] pos) epos :: rest) Z := sj_cons fun σ H P hh g D E tk z => by
  refine s_of (ps_expr ps hs) (ho σ H P hh g _ fun v H1 P1 e1 h1 r1 => ?_)
  cases (show v = .ref p from r1)
  obtain ⟨ys, ey, _⟩ := h1.cell hm0
  refine ⟨.inl ⟨rfl, ys, .inl (.inl ey)⟩, ?_⟩
  refine aj_cons he aj_nil hst σ H1 P1 h1 (g.ex e1) _ fun vs H2 P2 e2 h2 r2 => ?_
  obtain ⟨y, rfl, r3⟩ := ri1 r2
  obtain ⟨xs, e3, r4⟩ := h2.cell hm
  refine ⟨p, xs, y, rfl, rfl, e3, by rw [r4.len]; exact Nat.lt_of_lt_of_le hz (by decide), ?_⟩
  exact z.nx ρ _ σ _ P2 hr (e1.trans e2) (h2.write hm (r4.app ⟨r3, trivial⟩)) (g.ex (e1.trans e2))
/-- xs[i] = e, xs one's own -/
theorem sj_setO {o x : Expr} {spos : Pos} {p : Addr} {is : List It} {n : Nat} (he : EJ X N ρ M e i M1) (ho : EJ X N ρ M1 o (.v (.ref p)) M1) (hx : EJ X N ρ M1 x (dI (n : Int)) M2) (hm : (p, is) ∈ M2) (hn : n < is.length) (hr : SJ X N ρ (M2.put p (is.set n i)) rest Z)
    (ha : ∀ v, assign (.Subscript o x spos) X.env v = (do
      let ov ← holding [v] (eval o X.env)
      let iv ← holding [v, ov] (eval x X.env)
      standAt spos
      holding [v, ov, iv] (setItem ov iv v)
      release [v, ov, iv] []) := by intro _; rfl)
    (hs : swapsWithSole [.Subscript o x spos] e pos.line X.env = pure false := by rfl) (hw : swappedStores [.Subscript o x spos] e X.env = pure none := by rfl)
    (h1 : (assignEach [.Subscript o x spos] X.env).map (·.2) = [assign (.Subscript o x spos) X.env] := by rfl) : SJ X N ρ M (.Assign [.Subscript o x spos] e pos :: rest) Z := sj_cons fun σ H P hh g D E tk z => by
  refine s_of (ps_asg pe_w (pg_sub pe_w pe_w set_list ha) hs hw h1) (he σ H P hh g _ fun v H1 P1 e1 h1 r1 => ho σ H1 P1 h1 (g.ex e1) _ fun ov H2 P2 e2 h2 r2 => hx σ H2 P2 h2 (g.ex (e1.trans e2)) _ fun iv H3 P3 e3 h3 r3 => ?_)
  obtain ⟨xs, e4, r4⟩ := h3.cell hm
  have z4 := r4.len
  refine ⟨p, xs, (n : Int), n, r2, ri_int r3, e4, ?_, ?_⟩
  · unfold ixN
    rw [if_pos (by omega), if_pos (by omega)]
    simp
  · exact z.nx ρ _ σ _ P3 hr ((e1.trans e2).trans e3) (h3.write hm (r4.set ((r1.ex e2).ex e3) n)) (g.ex ((e1.trans e2).trans e3))
/-- an own list of data becomes persistent, at a slot -/
theorem sj_freeze (n : Nat) {p : Addr} {ds : List PyData} {sts : List Stmt} (hρ : ρ[n]? = some (some (.v (.ref p)))) (hm : (p, ds.map It.d) ∈ M) (hF : p ∉ N.F) (hr : SJ X N (ρ.set n (some (.d (.list ds)))) (M.filter fun c => decide (c.1 ≠ p)) sts Z) : SJ X N ρ M sts Z := fun σ H P hh g D E tk z => by
  obtain ⟨P', e, dn, h'⟩ := hh.freeze hm hF
  obtain ⟨v, ev, rv⟩ := g.2 n _ hρ
  cases (show v = .ref p from rv)
  have es : σ.set n (some (.ref p)) = σ := by
    refine List.ext_getElem? fun m => ?_
    by_cases q : n = m
    · subst q
      have l : n < σ.length := (List.getElem?_eq_some_iff.mp ev).1
      rw [List.getElem?_set_self l, ev]
    · rw [List.getElem?_set_ne q]
  have g' := (g.ex e).set (it := .d (.list ds)) (v := .ref p) dn n
  rw [es] at g'
  exact hr σ H P' h' g' D E tk (z.ex e)
end
end Kt

namespace Kt
open PySem PySem.Spec PyProof.Rows L2

/-! ### the frame: a part of the cells alone -/
section
variable {N : Ent} {P P' H H' : Hp} {Mc Mr Mc' : Mem}
abbrev inner (P H : Hp) (Mc : Mem) : Ent := ⟨P, H, Mc.map Prod.fst⟩
theorem Holds.h0_none (h : Holds N P H Mc) {b : Addr} (hb : H b = none) : N.H0 b = none := by
  cases e : N.H0 b with
  | none => rfl
  | some o =>
    by_cases f : b ∈ N.F
    · exact absurd f (h.newF hb)
    · rw [h.fr b o e f] at hb; cases hb
theorem Holds.enter (h : Holds N P H (Mc ++ Mr)) : Holds (inner P H Mc) P H Mc :=
  ⟨h.ex, Ex.refl P, fun _ _ e _ => e, fun b e f => absurd e f, fun c hc => h.mem c (List.mem_append_left _ hc), by
    have := h.nd
    rw [List.map_append] at this
    exact (List.nodup_append.mp this).1, fun a ha => ha, fun c hc => .inl (List.mem_map.mpr ⟨c, hc, rfl⟩)⟩
theorem Holds.leave (h : Holds N P H (Mc ++ Mr)) (h' : Holds (inner P H Mc) P' H' Mc') : Holds N P' H' (Mc' ++ Mr) := by
  have nd := h.nd
  rw [List.map_append] at nd
  obtain ⟨n1, n2, n3⟩ := List.nodup_append.mp nd
  have old : ∀ c ∈ Mc', c.1 ∈ Mc.map Prod.fst ∨ H c.1 = none := h'.fs
  refine ⟨h'.ex, h.ex0.trans h'.ex0, fun b o e f => ?_, fun b e f => ?_, fun c hc => ?_, ?_, fun a ha => ?_, fun c hc => ?_⟩
  · refine h'.fr b o (h.fr b o e f) fun hb => ?_
    obtain ⟨c, hc, ec⟩ := List.mem_map.mp hb
    rcases h.fs c (List.mem_append_left _ hc) with k | k
    · exact f (ec ▸ k)
    · rw [ec, e] at k; cases k
  · cases q : P b with
    | some u => exact h.nw b e (by rw [q]; exact Option.some_ne_none u)
    | none => exact h.h0_none (h'.nw b q f)
  · rcases List.mem_append.mp hc with hc | hc
    · exact h'.mem c hc
    · obtain ⟨a1, xs, a2, a3⟩ := h.mem c (List.mem_append_right _ hc)
      have nc : c.1 ∉ Mc.map Prod.fst := fun z => n3 c.1 z c.1 (List.mem_map.mpr ⟨c, hc, rfl⟩) rfl
      refine ⟨?_, xs, h'.fr c.1 _ a2 nc, a3.ex h'.ex0⟩
      cases q : P' c.1 with
      | none => rfl
      | some u =>
        have := h'.nw c.1 a1 (by rw [q]; exact Option.some_ne_none u)
        rw [show (inner P H Mc).H0 = H from rfl] at this
        rw [this] at a2
        cases a2
  · rw [List.map_append]
    refine List.nodup_append.mpr ⟨h'.nd, n2, fun a ha b hb e => ?_⟩
    subst e
    obtain ⟨c, hc, ec⟩ := List.mem_map.mp ha
    rcases old c hc with k | k
    · exact n3 a (ec ▸ k) a hb rfl
    · obtain ⟨c2, hc2, e2⟩ := List.mem_map.mp hb
      obtain ⟨xs, a2, _⟩ := (h.mem c2 (List.mem_append_right _ hc2)).2
      rw [e2, ← ec, k] at a2
      cases a2
  · have := h.mf a ha
    rw [List.map_append] at this ⊢
    rcases List.mem_append.mp this with k | k
    · exact List.mem_append_left _ (h'.mf a k)
    · exact List.mem_append_right _ k
  · rcases List.mem_append.mp hc with hc | hc
    · rcases old c hc with k | k
      · obtain ⟨c2, hc2, e2⟩ := List.mem_map.mp k
        have := h.fs c2 (List.mem_append_left _ hc2)
        rw [e2] at this
        exact this
      · exact .inr (h.h0_none k)
    · exact h.fs c (List.mem_append_right _ hc)
end

/-! ### contracts -/
abbrev Co := List It → Mem → It → Mem → Prop
def spC (C : Co) : Sp := fun vs H Q _ => ∃ (P : Hp) (is : List It) (M : Mem) (i : It) (M' : Mem), Holds (inner P H M) P H M ∧ RepIs P vs is ∧ C is M i M' ∧ ∀ v H' P', Holds (inner P H M) P' H' M' → RepI P' v i → Q v H'
structure Def (P : Program) (w : World) (K : PySem.W.Frag) (mg : Str → Option Value) (base : Heap) (x : Str) (k : Nat) (C : Co) : Prop where
  ex : ∃ f fd ps, FnOk P w K mg base CX0 k f fd ps (spC C) ∧ mg x = some (.ref f) ∧ PySem.W.keepIn K (.ref f) = true ∧ Binds K fd ps []
theorem Def.mono {P : Program} {w : World} {K : PySem.W.Frag} {mg : Str → Option Value} {base : Heap} {x : Str} {k k' : Nat} {C : Co} (F : Def P w K mg base x k C) (h : k ≤ k') : Def P w K mg base x k' C := by
  obtain ⟨f, fd, ps, a, b⟩ := F.ex
  exact ⟨f, fd, ps, a.mono h, b⟩
section
variable {X : Cx} {N : Ent} {ρ ρ' : Rho} {M M1 M2 M3 M' Mc Mr Mc' : Mem} {a b c e : Expr} {pos : Pos} {i j k : It} {t u : Bool}
theorem ej_call {x : Str} {l : Nat} {C : Co} {p : Pos} {es : List Expr} {is : List It} (F : Def X.prog X.w X.K X.mg X.base x l C) (hr : Room l X.A) (ha : AJ X N ρ M (e :: es) is M1) (hM : M1 = Mc ++ Mr) (hC : C is Mc i Mc') (hM2 : M2 = Mc' ++ Mr)
    (hg : Gl X x := by rfl) (hdb : (x == ("__debug__" : Str)) = false := by decide) (he : starEach (e :: es) X.env = (false, eval e X.env) :: starEach es X.env := by rfl) (hpl : (backTo pos (starEach es X.env)).any (·.1) = false := by rfl) :
    EJ X N ρ M (.Call (.Name x p) (e :: es) [] pos) i M2 := fun σ H P hh g Q q => by
  obtain ⟨f, fd, ps, F1, hm, hk, hb⟩ := F.ex
  refine e_of (pe_call F1 hr hg hm hk hb .nil pass0 pa_w hdb he hpl) (ha σ H P hh g _ fun vs H1 P1 e1 h1 r1 => ?_)
  subst hM hM2
  refine ⟨P1, is, Mc, i, Mc', h1.enter, ?_, hC, fun v H' P' h' r' => ?_⟩
  · rw [List.append_nil]; exact r1
  · exact q v H' P' (e1.trans h'.ex0) (h1.leave h') r'
/-- a call that asks for no cells -/
theorem ej_callP {x : Str} {l : Nat} {C : Co} {p : Pos} {es : List Expr} {is : List It} (F : Def X.prog X.w X.K X.mg X.base x l C) (hr : Room l X.A) (ha : AJ X N ρ M (e :: es) is M1) (hC : C is [] i [])
    (hg : Gl X x := by rfl) (hdb : (x == ("__debug__" : Str)) = false := by decide) (he : starEach (e :: es) X.env = (false, eval e X.env) :: starEach es X.env := by rfl) (hpl : (backTo pos (starEach es X.env)).any (·.1) = false := by rfl) :
    EJ X N ρ M (.Call (.Name x p) (e :: es) [] pos) i M1 := ej_call F hr ha (Mc := []) (Mr := M1) rfl hC rfl hg hdb he hpl

/-! ### loops -/
variable {Z : Post} {body rest : List Stmt} {tg iter : Expr}
theorem sj_forL {ds : List PyData} (hc : X.calm = true) (hi : EJ X N ρ M iter (.d (.list ds)) M1) (Inv : Nat → Rho → Mem → Prop) (h0 : Inv 0 ρ M1)
    (step : ∀ n d ρ' M', ds[n]? = some d → Inv n ρ' M' → ∃ ρ2, GJ X N tg (.d d) ρ' ρ2 ∧ SJ X N ρ2 M' body { nx := Inv (n + 1), ct := Inv (n + 1), bk := fun ρ' M' => SJ X N ρ' M' rest Z, rt := Z.rt, er := Z.er })
    (done : ∀ ρ' M', Inv ds.length ρ' M' → SJ X N ρ' M' rest Z) (hp : PassesOwn (model X.prog X.w) X.A X.env X.xe := by exact PassesOwn.never) (hf : ∀ x, foldedSetIterable iter X.env x = pure x := by intro _; rfl) : SJ X N ρ M (.For tg iter body [] pos :: rest) Z := sj_cons fun σ H P hh g D E tk z => by
  refine s_of (ps_for hp hc (pi_list pe_w) pg_w pss_w hf) (hi σ H P hh g _ fun v H1 P1 e1 h1 r1 => ?_)
  obtain ⟨a, xs, rfl, x1, x2⟩ := ri_lst r1
  have xl := dnAll_len x2
  refine ⟨a, rfl, ⟨xs, .inl (.inl (h1.ex _ _ x1))⟩, for_list (xs := xs) (fun n σ' H' => ∃ ρ' M' P', Inv n ρ' M' ∧ Holds N P' H' M' ∧ Slots P' σ' ρ' ∧ Ex P1 P') ⟨ρ, M1, P1, h0, h1, g.ex e1, Ex.refl _⟩ (fun n σ' H' _ hw => ?_) (fun n x σ' H' hx hw => ?_) (fun σ' H' hw => ?_)⟩
  · obtain ⟨ρ', M', P', _, h2, _, e2⟩ := hw
    exact .inl (.inl (h2.ex _ _ (e2 _ _ x1)))
  · obtain ⟨ρ', M', P', w, h2, g2, e2⟩ := hw
    have nl : n < ds.length := xl ▸ (List.getElem?_eq_some_iff.mp hx).1
    obtain ⟨v', ev, dv⟩ := dnAll_get x2 (List.getElem?_eq_getElem nl)
    rw [hx] at ev
    cases Option.some.inj ev
    obtain ⟨ρ2, G, S⟩ := step n _ ρ' M' (List.getElem?_eq_getElem nl) w
    refine G x σ' H' P' M' h2 g2 (dn_ex e2 _ _ dv) _ fun σ2 g3 => ?_
    refine S σ2 H' P' h2 g3 _ E tk ⟨fun ρ4 M4 σ4 H4 P4 a e h g => ⟨ρ4, M4, P4, a, h, g, e2.trans e⟩, fun i M4 v H4 P4 a e h r => z.rt i M4 v H4 P4 a ((e1.trans e2).trans e) h r, fun ρ4 M4 σ4 H4 P4 a e h g => z.nx ρ4 M4 σ4 H4 P4 a ((e1.trans e2).trans e) h g, fun ρ4 M4 σ4 H4 P4 a e h g => ⟨ρ4, M4, P4, a, h, g, e2.trans e⟩, fun w M4 d H4 P4 C c a e h x => z.er w M4 d H4 P4 C c a ((e1.trans e2).trans e) h x⟩
  · obtain ⟨ρ', M', P', w, h2, g2, e2⟩ := hw
    rw [xl] at w
    exact z.nx ρ' M' σ' H' P' (done ρ' M' w) (e1.trans e2) h2 g2
theorem sj_forT {ds : List PyData} (hc : X.calm = true) (hi : EJ X N ρ M iter (.d (.tuple ds)) M1) (Inv : Nat → Rho → Mem → Prop) (h0 : Inv 0 ρ M1)
    (step : ∀ n d ρ' M', ds[n]? = some d → Inv n ρ' M' → ∃ ρ2, GJ X N tg (.d d) ρ' ρ2 ∧ SJ X N ρ2 M' body { nx := Inv (n + 1), ct := Inv (n + 1), bk := fun ρ' M' => SJ X N ρ' M' rest Z, rt := Z.rt, er := Z.er })
    (done : ∀ ρ' M', Inv ds.length ρ' M' → SJ X N ρ' M' rest Z) (hp : PassesOwn (model X.prog X.w) X.A X.env X.xe := by exact PassesOwn.never) (hf : ∀ x, foldedSetIterable iter X.env x = pure x := by intro _; rfl) : SJ X N ρ M (.For tg iter body [] pos :: rest) Z := sj_cons fun σ H P hh g D E tk z => by
  refine s_of (ps_for hp hc (pi_tup pe_w) pg_w pss_w hf) (hi σ H P hh g _ fun v H1 P1 e1 h1 r1 => ?_)
  obtain ⟨a, xs, rfl, x1, x2⟩ := ri_tup r1
  have xl := dnAll_len x2
  refine ⟨a, rfl, ⟨xs, .inl (.inl (h1.ex _ _ x1))⟩, for_tup (xs := xs) (fun n σ' H' => ∃ ρ' M' P', Inv n ρ' M' ∧ Holds N P' H' M' ∧ Slots P' σ' ρ' ∧ Ex P1 P') ⟨ρ, M1, P1, h0, h1, g.ex e1, Ex.refl _⟩ (fun n σ' H' _ hw => ?_) (fun n x σ' H' hx hw => ?_) (fun σ' H' hw => ?_)⟩
  · obtain ⟨ρ', M', P', _, h2, _, e2⟩ := hw
    exact .inl (.inl (h2.ex _ _ (e2 _ _ x1)))
  · obtain ⟨ρ', M', P', w, h2, g2, e2⟩ := hw
    have nl : n < ds.length := xl ▸ (List.getElem?_eq_some_iff.mp hx).1
    obtain ⟨v', ev, dv⟩ := dnAll_get x2 (List.getElem?_eq_getElem nl)
    rw [hx] at ev
    cases Option.some.inj ev
    obtain ⟨ρ2, G, S⟩ := step n _ ρ' M' (List.getElem?_eq_getElem nl) w
    refine G x σ' H' P' M' h2 g2 (dn_ex e2 _ _ dv) _ fun σ2 g3 => ?_
    refine S σ2 H' P' h2 g3 _ E tk ⟨fun ρ4 M4 σ4 H4 P4 a e h g => ⟨ρ4, M4, P4, a, h, g, e2.trans e⟩, fun i M4 v H4 P4 a e h r => z.rt i M4 v H4 P4 a ((e1.trans e2).trans e) h r, fun ρ4 M4 σ4 H4 P4 a e h g => z.nx ρ4 M4 σ4 H4 P4 a ((e1.trans e2).trans e) h g, fun ρ4 M4 σ4 H4 P4 a e h g => ⟨ρ4, M4, P4, a, h, g, e2.trans e⟩, fun w M4 d H4 P4 C c a e h x => z.er w M4 d H4 P4 C c a ((e1.trans e2).trans e) h x⟩
  · obtain ⟨ρ', M', P', w, h2, g2, e2⟩ := hw
    rw [xl] at w
    exact z.nx ρ' M' σ' H' P' (done ρ' M' w) (e1.trans e2) h2 g2
/-- for x in range(n) -/
theorem sj_forR {p rp : Pos} {m : Int} (hc : X.calm = true) (hmr : X.mg "range" = none) (hi : EJ X N ρ M a (dI m) M1) (hb : -(2 ^ 62) ≤ m ∧ m < 2 ^ 62) (Inv : Nat → Rho → Mem → Prop) (h0 : Inv 0 ρ M1)
    (step : ∀ n ρ' M', n < m.toNat → Inv n ρ' M' → ∃ ρ2, GJ X N tg (dI (n : Int)) ρ' ρ2 ∧ SJ X N ρ2 M' body { nx := Inv (n + 1), ct := Inv (n + 1), bk := fun ρ' M' => SJ X N ρ' M' rest Z, rt := Z.rt, er := Z.er })
    (done : ∀ ρ' M', Inv m.toNat ρ' M' → SJ X N ρ' M' rest Z) (hp : PassesOwn (model X.prog X.w) X.A X.env X.xe := by exact PassesOwn.never) (hg : Gl X "range" := by rfl) (hs : starEach [a] X.env = [(false, eval a X.env)] := by rfl)
    (hf : ∀ x, foldedSetIterable (.Call (.Name "range" p) [a] [] rp) X.env x = pure x := by intro _; rfl) : SJ X N ρ M (.For tg (.Call (.Name "range" p) [a] [] rp) body [] pos :: rest) Z := sj_cons fun σ H P hh g D E tk z => by
  refine s_of (ps_for hp hc (pi_range1 hg hmr pa_w hs) pg_w pss_w hf) (aj_cons hi aj_nil hs σ H P hh g _ fun vs H1 P1 e1 h1 r1 => ?_)
  obtain ⟨x, rfl, r2⟩ := ri1 r1
  cases ri_int r2
  refine ⟨m, rfl, hb.1, hb.2, for_range (lo := 0) (n := m.toNat) (fun n σ' H' => ∃ ρ' M' P', Inv n ρ' M' ∧ Holds N P' H' M' ∧ Slots P' σ' ρ' ∧ Ex P1 P') ⟨ρ, M1, P1, h0, h1, g.ex e1, Ex.refl _⟩ (fun n σ' H' hn hw => ?_) (fun σ' H' hw => ?_)⟩
  · obtain ⟨ρ', M', P', w, h2, g2, e2⟩ := hw
    obtain ⟨ρ2, G, S⟩ := step n ρ' M' hn w
    refine G _ σ' H' P' M' h2 g2 (by rw [Int.zero_add]; exact .int _) _ fun σ2 g3 => ?_
    refine S σ2 H' P' h2 g3 _ E tk ⟨fun ρ4 M4 σ4 H4 P4 a e h g => ⟨ρ4, M4, P4, a, h, g, e2.trans e⟩, fun i M4 v H4 P4 a e h r => z.rt i M4 v H4 P4 a ((e1.trans e2).trans e) h r, fun ρ4 M4 σ4 H4 P4 a e h g => z.nx ρ4 M4 σ4 H4 P4 a ((e1.trans e2).trans e) h g, fun ρ4 M4 σ4 H4 P4 a e h g => ⟨ρ4, M4, P4, a, h, g, e2.trans e⟩, fun w M4 d H4 P4 C c a e h x => z.er w M4 d H4 P4 C c a ((e1.trans e2).trans e) h x⟩
  · obtain ⟨ρ', M', P', w, h2, g2, e2⟩ := hw
    exact z.nx ρ' M' σ' H' P' (done ρ' M' w) (e1.trans e2) h2 g2
theorem sj_while (n0 : Nat) (Inv : Nat → Rho → Mem → Prop) (h0 : Inv n0 ρ M)
    (step : ∀ m ρ' M', Inv m ρ' M' → ∃ t M2, TJ X N ρ' M' c t M2 ∧ (t = true → SJ X N ρ' M2 body { nx := fun ρ2 M3 => ∃ m', m' < m ∧ Inv m' ρ2 M3, ct := fun ρ2 M3 => ∃ m', m' < m ∧ Inv m' ρ2 M3, bk := fun ρ' M' => SJ X N ρ' M' rest Z, rt := Z.rt, er := Z.er }) ∧ (t = false → SJ X N ρ' M2 rest Z))
    (hp : PassesOwn (model X.prog X.w) X.A X.env X.xe := by exact PassesOwn.never) : SJ X N ρ M (.While c body [] pos :: rest) Z := sj_cons fun σ H P hh g D E tk z => by
  refine s_of (ps_while hp pt_w pss_w) ⟨fun m σ' H' => ∃ ρ' M' P', Inv m ρ' M' ∧ Holds N P' H' M' ∧ Slots P' σ' ρ' ∧ Ex P P', ⟨n0, ρ, M, P, h0, hh, g, Ex.refl P⟩, fun m σ' H' hw => ?_⟩
  obtain ⟨ρ', M', P', w, h2, g2, e2⟩ := hw
  obtain ⟨t, M2, T, S1, S2⟩ := step m ρ' M' w
  refine T σ' H' P' h2 g2 _ fun H3 P3 e3 h3 => ?_
  cases t with
  | true =>
    refine iteT ⟨fun σ4 H4 => ∃ m', m' < m ∧ ∃ ρ' M' P', Inv m' ρ' M' ∧ Holds N P' H4 M' ∧ Slots P' σ4 ρ' ∧ Ex P P', fun σ4 H4 ⟨m', l, w'⟩ => ⟨m', l, w'⟩, ?_⟩
    refine S1 rfl σ' H3 P3 h3 (g2.ex e3) _ E tk ⟨fun ρ4 M4 σ4 H4 P4 ⟨m', l, w'⟩ e h g => ⟨m', l, ρ4, M4, P4, w', h, g, (e2.trans e3).trans e⟩, fun i M4 v H4 P4 a e h r => z.rt i M4 v H4 P4 a ((e2.trans e3).trans e) h r, fun ρ4 M4 σ4 H4 P4 a e h g => z.nx ρ4 M4 σ4 H4 P4 a ((e2.trans e3).trans e) h g, fun ρ4 M4 σ4 H4 P4 ⟨m', l, w'⟩ e h g => ⟨m', l, ρ4, M4, P4, w', h, g, (e2.trans e3).trans e⟩, fun w M4 d H4 P4 C c a e h x => z.er w M4 d H4 P4 C c a ((e2.trans e3).trans e) h x⟩
  | false => exact iteF (z.nx ρ' M2 σ' H3 P3 (S2 rfl) (e2.trans e3) h3 (g2.ex e3))

/-! ### comprehensions -/
theorem put_last {M : Mem} {D : Addr} {is js : List It} (nd : ((M ++ [(D, is)]).map Prod.fst).Nodup) : (M ++ [(D, is)]).put D js = M ++ [(D, js)] := by
  unfold Mem.put
  rw [List.map_append]
  rw [List.map_append] at nd
  congr 1
  · have : (M.map fun c => if c.1 = D then (D, js) else c) = M.map id := List.map_congr_left fun c hc => if_neg fun e => (List.nodup_append.mp nd).2.2 c.1 (List.mem_map.mpr ⟨c, hc, rfl⟩) D (by simp) e
    rw [this, List.map_id]
  · simp
abbrev Blk (X : Cx) (Y : Cx) (scope : Scope) : Prop := ∃ s H C cl fp, Y = X.blk s H scope (compEnvC scope cl C X.env) fp
def wBE (X : Cx) (scope : Scope) (e : Expr) : TE := fun σ H Q => ∀ s H0 C cl fp, wE (X.blk s H0 scope (compEnvC scope cl C X.env) fp) e σ H Q
theorem slots_comp {P : Hp} {σ : L2.St} {v : V} (g : Slots P σ ρ) (n : Nat) (r : RepI P v i) : Slots P ((wipe σ [n]).set n (some v)) (ρ.set n (some i)) := by
  show Slots P ((σ.set n none).set n (some v)) (ρ.set n (some i))
  rw [List.set_set]
  exact g.set r n
theorem wipe_comp {σ : L2.St} {v : V} (n : Nat) : wipe ((wipe σ [n]).set n (some v)) [n] = wipe σ [n] := by
  show ((σ.set n none).set n (some v)).set n none = σ.set n none
  rw [List.set_set, List.set_set]
def LJ (X : Cx) (N : Ent) (ρ : Rho) (M : Mem) (te : TE) (is : List It) (M' : Mem) : Prop :=
  ∀ σ H P, Holds N P H M → Slots P σ ρ → ∀ Q : VK, (∀ p H' P', Ex P P' → p ∉ N.F → Holds N P' H' (M' ++ [(p, is)]) → Q (.ref p) H') → te σ H Q
theorem el_lc {te : TE} {is : List It} (h : LJ X N ρ M te is M1) (pe : PE X e te) : EL X N ρ M e is M1 := fun σ H P hh g Q q => e_of pe (h σ H P hh g Q q)
theorem sj_lc (n : Nat) {te : TE} {is : List It} {st : Stmt} {Z : Post} {rest : List Stmt} (h : LJ X N ρ M te is M1) (ps : PS X st (tAsg te (gName n))) (hr : ∀ p, p ∉ N.F → SJ X N (ρ.set n (some (.v (.ref p)))) (M1 ++ [(p, is)]) rest Z) : SJ X N ρ M (st :: rest) Z := sj_cons fun σ H P hh g D E tk z =>
  s_of ps (h σ H P hh g _ fun p H1 P1 e1 hp h1 => z.nx _ _ _ _ P1 (hr p hp) e1 h1 ((g.ex e1).set (it := .v (.ref p)) rfl n))
/-- (the reading) [e for x in a list of data] -/
theorem lj_comp {elt : Expr} {scope : Scope} (n : Nat) {ds : List PyData} (A : Nat → List It) (Mi : Nat → Mem) (hc : X.calm = true) (hN : X.N.Nodup) (hi : (EJ X N ρ M iter (.d (.list ds)) M1))
    (hA0 : A 0 = []) (hM0 : Mi 0 = M1) (hz : ds.length ≤ 100000)
    (step : ∀ (m : Nat) d, ds[m]? = some d → ∃ j, A (m + 1) = A m ++ [j] ∧ (A m).length ≤ m ∧ ∀ N' s H C cl fp, EJ (X.blk s H scope (compEnvC scope cl C X.env) fp) N' (ρ.set n (some (.d d))) (Mi m) elt j (Mi (m + 1)))
    : LJ X N ρ M (tLc (iList X.K (wE X iter)) (gName n) tYes (wBE X scope elt) [n]) (A ds.length) (Mi ds.length) := fun σ H P hh g Q q => by
  refine (hi σ H P hh g _ fun v H1 P1 e1 h1 r1 => ?_)
  obtain ⟨a, xs, rfl, x1, x2⟩ := ri_lst r1
  have xl := dnAll_len x2
  refine ⟨a, rfl, ⟨xs, .inl (.inl (h1.ex _ _ x1))⟩, fun D hD => lc_list (xs := xs) (fun m H' => ∃ P', Holds N P' H' (Mi m ++ [(D, A m)]) ∧ Ex P1 P') ⟨P1, by rw [hA0, hM0]; exact h1.own hD (its := []) trivial, Ex.refl _⟩ (fun m H' _ hw => ?_) (fun m x' H' hx hw => ?_) (fun H' hw => ?_)⟩
  · obtain ⟨P', h2, e2⟩ := hw
    exact .inl (.inl (h2.ex _ _ (e2 _ _ x1)))
  · obtain ⟨P', h2, e2⟩ := hw
    have nl : m < ds.length := xl ▸ (List.getElem?_eq_some_iff.mp hx).1
    obtain ⟨v', ev, dv⟩ := dnAll_get x2 (List.getElem?_eq_getElem nl)
    rw [hx] at ev
    cases Option.some.inj ev
    obtain ⟨j, eA, lA, S⟩ := step m _ (List.getElem?_eq_getElem nl)
    refine ⟨wipe_comp n, ?_⟩
    unfold tYes
    dsimp only
    rw [if_pos rfl]
    intro s H0 C cl fp
    refine S (inner P' H' (Mi m)) s H0 C cl fp _ H' P' h2.enter (slots_comp (g.ex (e1.trans e2)) n (dn_ex e2 _ _ dv)) _ fun y H4 P4 e4 h4 r4 => ?_
    have h5 := h2.leave h4
    obtain ⟨acc, ea, ra⟩ := h5.cell (a := D) (its := A m) (List.mem_append_right _ (List.mem_singleton.mpr rfl))
    refine ⟨acc, ea, by rw [ra.len]; exact Nat.lt_of_lt_of_le (Nat.lt_of_le_of_lt lA (Nat.lt_of_lt_of_le nl hz)) (by decide), P4, ?_, e2.trans e4⟩
    have h6 := h5.write (a := D) (its := A m) (its' := A (m + 1)) (List.mem_append_right _ (List.mem_singleton.mpr rfl)) (xs' := acc ++ [y]) (by rw [eA]; exact ra.app ⟨r4, trivial⟩)
    rw [put_last h5.nd] at h6
    exact h6
  · obtain ⟨P', h2, e2⟩ := hw
    rw [xl] at h2
    exact q D H' P' (e1.trans e2) (h1.newF hD) h2
/-- [e for x in a list of data] -/
theorem el_comp {elt : Expr} {x : Str} {p : Pos} {scope : Scope} (n : Nat) {ds : List PyData} (A : Nat → List It) (Mi : Nat → Mem) (hc : X.calm = true) (hN : X.N.Nodup) (hi : (EJ X N ρ M iter (.d (.list ds)) M1))
    (hA0 : A 0 = []) (hM0 : Mi 0 = M1) (hz : ds.length ≤ 100000)
    (step : ∀ (m : Nat) d, ds[m]? = some d → ∃ j, A (m + 1) = A m ++ [j] ∧ (A m).length ≤ m ∧ ∀ N' s H C cl fp, EJ (X.blk s H scope (compEnvC scope cl C X.env) fp) N' (ρ.set n (some (.d d))) (Mi m) elt j (Mi (m + 1)))
    (ok : BlkOk X.N X.env.scope scope [(x, n)] := by exact blkOk_by (by kernel_rfl))
    (hgn : ∀ (s : Shared) (H : Hp) (C : Addr) (cl : List (Str × Addr)) (fp : List Addr), PG (X.blk s H scope (compEnvC scope cl C X.env) fp) (.Name x p) (gName n) := by exact fun _ _ _ _ _ => pg_name (by assumption) rfl (Or.inl rfl))
    (hf : ∀ x, foldedSetIterable iter X.env x = pure x := by intro _; rfl) : EL X N ρ M (.ListComp elt [⟨.Name x p, iter, [], 0⟩] scope pos) (A ds.length) (Mi ds.length) :=
  el_lc (lj_comp n A Mi hc hN hi hA0 hM0 hz step) (pe_lc hc hN (pi_list pe_w) ok hgn (fun _ _ _ _ _ => pts_nil) (te := wBE X scope elt) (fun s H C cl fp => ⟨fun pins s1 σ1 H1 Q1 I1 h1 => h1 s H C cl fp pins s1 I1⟩) hf)
theorem sj_setcomp (n' : Nat) {y : Str} {py spos : Pos} {Z : Post} {rest : List Stmt} {elt : Expr} {x : Str} {p : Pos} {scope : Scope} (n : Nat) {ds : List PyData} (A : Nat → List It) (Mi : Nat → Mem) (hc : X.calm = true) (hN : X.N.Nodup) (hi : (EJ X N ρ M iter (.d (.list ds)) M1))
    (hA0 : A 0 = []) (hM0 : Mi 0 = M1) (hz : ds.length ≤ 100000)
    (step : ∀ (m : Nat) d, ds[m]? = some d → ∃ j, A (m + 1) = A m ++ [j] ∧ (A m).length ≤ m ∧ ∀ N' s H C cl fp, EJ (X.blk s H scope (compEnvC scope cl C X.env) fp) N' (ρ.set n (some (.d d))) (Mi m) elt j (Mi (m + 1)))
    (hr : ∀ p, p ∉ N.F → SJ X N (ρ.set n' (some (.v (.ref p)))) (Mi ds.length ++ [(p, A ds.length)]) rest Z)
    (hy : X.N[n']? = some y := by rfl) (hyl : X.env.scope.names.lookup y = some .local := by rfl)
    (hsw : swapsWith (.ListComp elt [⟨.Name x p, iter, [], 0⟩] scope pos) (some (.Name y py)) spos.line X.env = pure true := by exact sw_true rfl rfl rfl (by kernel_rfl))
    (ok : BlkOk X.N X.env.scope scope [(x, n)] := by exact blkOk_by (by kernel_rfl))
    (hgn : ∀ (s : Shared) (H : Hp) (C : Addr) (cl : List (Str × Addr)) (fp : List Addr), PG (X.blk s H scope (compEnvC scope cl C X.env) fp) (.Name x p) (gName n) := by exact fun _ _ _ _ _ => pg_name (by assumption) rfl (Or.inl rfl))
    (hf : ∀ x, foldedSetIterable iter X.env x = pure x := by intro _; rfl) : SJ X N ρ M (.Assign [.Name y py] (.ListComp elt [⟨.Name x p, iter, [], 0⟩] scope pos) spos :: rest) Z :=
  sj_lc n' (lj_comp n A Mi hc hN hi hA0 hM0 hz step) (ps_setLc (i := n') (y := y) (py := py) (spos := spos) hc hN hy hyl hsw (pi_list pe_w) ok hgn (fun _ _ _ _ _ => pts_nil) (te := wBE X scope elt) (fun s H C cl fp => ⟨fun pins s1 σ1 H1 Q1 I1 h1 => h1 s H C cl fp pins s1 I1⟩) hf) hr
/-- (the reading) [e for x in a tuple of data] -/
theorem lj_compT {elt : Expr} {scope : Scope} (n : Nat) {ds : List PyData} (A : Nat → List It) (Mi : Nat → Mem) (hc : X.calm = true) (hN : X.N.Nodup) (hi : (EJ X N ρ M iter (.d (.tuple ds)) M1))
    (hA0 : A 0 = []) (hM0 : Mi 0 = M1) (hz : ds.length ≤ 100000)
    (step : ∀ (m : Nat) d, ds[m]? = some d → ∃ j, A (m + 1) = A m ++ [j] ∧ (A m).length ≤ m ∧ ∀ N' s H C cl fp, EJ (X.blk s H scope (compEnvC scope cl C X.env) fp) N' (ρ.set n (some (.d d))) (Mi m) elt j (Mi (m + 1)))
    : LJ X N ρ M (tLc (iTup X.K (wE X iter)) (gName n) tYes (wBE X scope elt) [n]) (A ds.length) (Mi ds.length) := fun σ H P hh g Q q => by
  refine (hi σ H P hh g _ fun v H1 P1 e1 h1 r1 => ?_)
  obtain ⟨a, xs, rfl, x1, x2⟩ := ri_tup r1
  have xl := dnAll_len x2
  refine ⟨a, rfl, ⟨xs, .inl (.inl (h1.ex _ _ x1))⟩, fun D hD => lc_tup (xs := xs) (fun m H' => ∃ P', Holds N P' H' (Mi m ++ [(D, A m)]) ∧ Ex P1 P') ⟨P1, by rw [hA0, hM0]; exact h1.own hD (its := []) trivial, Ex.refl _⟩ (fun m H' _ hw => ?_) (fun m x' H' hx hw => ?_) (fun H' hw => ?_)⟩
  · obtain ⟨P', h2, e2⟩ := hw
    exact .inl (.inl (h2.ex _ _ (e2 _ _ x1)))
  · obtain ⟨P', h2, e2⟩ := hw
    have nl : m < ds.length := xl ▸ (List.getElem?_eq_some_iff.mp hx).1
    obtain ⟨v', ev, dv⟩ := dnAll_get x2 (List.getElem?_eq_getElem nl)
    rw [hx] at ev
    cases Option.some.inj ev
    obtain ⟨j, eA, lA, S⟩ := step m _ (List.getElem?_eq_getElem nl)
    refine ⟨wipe_comp n, ?_⟩
    unfold tYes
    dsimp only
    rw [if_pos rfl]
    intro s H0 C cl fp
    refine S (inner P' H' (Mi m)) s H0 C cl fp _ H' P' h2.enter (slots_comp (g.ex (e1.trans e2)) n (dn_ex e2 _ _ dv)) _ fun y H4 P4 e4 h4 r4 => ?_
    have h5 := h2.leave h4
    obtain ⟨acc, ea, ra⟩ := h5.cell (a := D) (its := A m) (List.mem_append_right _ (List.mem_singleton.mpr rfl))
    refine ⟨acc, ea, by rw [ra.len]; exact Nat.lt_of_lt_of_le (Nat.lt_of_le_of_lt lA (Nat.lt_of_lt_of_le nl hz)) (by decide), P4, ?_, e2.trans e4⟩
    have h6 := h5.write (a := D) (its := A m) (its' := A (m + 1)) (List.mem_append_right _ (List.mem_singleton.mpr rfl)) (xs' := acc ++ [y]) (by rw [eA]; exact ra.app ⟨r4, trivial⟩)
    rw [put_last h5.nd] at h6
    exact h6
  · obtain ⟨P', h2, e2⟩ := hw
    rw [xl] at h2
    exact q D H' P' (e1.trans e2) (h1.newF hD) h2
/-- [e for x in a tuple of data] -/
theorem el_compT {elt : Expr} {x : Str} {p : Pos} {scope : Scope} (n : Nat) {ds : List PyData} (A : Nat → List It) (Mi : Nat → Mem) (hc : X.calm = true) (hN : X.N.Nodup) (hi : (EJ X N ρ M iter (.d (.tuple ds)) M1))
    (hA0 : A 0 = []) (hM0 : Mi 0 = M1) (hz : ds.length ≤ 100000)
    (step : ∀ (m : Nat) d, ds[m]? = some d → ∃ j, A (m + 1) = A m ++ [j] ∧ (A m).length ≤ m ∧ ∀ N' s H C cl fp, EJ (X.blk s H scope (compEnvC scope cl C X.env) fp) N' (ρ.set n (some (.d d))) (Mi m) elt j (Mi (m + 1)))
    (ok : BlkOk X.N X.env.scope scope [(x, n)] := by exact blkOk_by (by kernel_rfl))
    (hgn : ∀ (s : Shared) (H : Hp) (C : Addr) (cl : List (Str × Addr)) (fp : List Addr), PG (X.blk s H scope (compEnvC scope cl C X.env) fp) (.Name x p) (gName n) := by exact fun _ _ _ _ _ => pg_name (by assumption) rfl (Or.inl rfl))
    (hf : ∀ x, foldedSetIterable iter X.env x = pure x := by intro _; rfl) : EL X N ρ M (.ListComp elt [⟨.Name x p, iter, [], 0⟩] scope pos) (A ds.length) (Mi ds.length) :=
  el_lc (lj_compT n A Mi hc hN hi hA0 hM0 hz step) (pe_lc hc hN (pi_tup pe_w) ok hgn (fun _ _ _ _ _ => pts_nil) (te := wBE X scope elt) (fun s H C cl fp => ⟨fun pins s1 σ1 H1 Q1 I1 h1 => h1 s H C cl fp pins s1 I1⟩) hf)
theorem sj_setcompT (n' : Nat) {y : Str} {py spos : Pos} {Z : Post} {rest : List Stmt} {elt : Expr} {x : Str} {p : Pos} {scope : Scope} (n : Nat) {ds : List PyData} (A : Nat → List It) (Mi : Nat → Mem) (hc : X.calm = true) (hN : X.N.Nodup) (hi : (EJ X N ρ M iter (.d (.tuple ds)) M1))
    (hA0 : A 0 = []) (hM0 : Mi 0 = M1) (hz : ds.length ≤ 100000)
    (step : ∀ (m : Nat) d, ds[m]? = some d → ∃ j, A (m + 1) = A m ++ [j] ∧ (A m).length ≤ m ∧ ∀ N' s H C cl fp, EJ (X.blk s H scope (compEnvC scope cl C X.env) fp) N' (ρ.set n (some (.d d))) (Mi m) elt j (Mi (m + 1)))
    (hr : ∀ p, p ∉ N.F → SJ X N (ρ.set n' (some (.v (.ref p)))) (Mi ds.length ++ [(p, A ds.length)]) rest Z)
    (hy : X.N[n']? = some y := by rfl) (hyl : X.env.scope.names.lookup y = some .local := by rfl)
    (hsw : swapsWith (.ListComp elt [⟨.Name x p, iter, [], 0⟩] scope pos) (some (.Name y py)) spos.line X.env = pure true := by exact sw_true rfl rfl rfl (by kernel_rfl))
    (ok : BlkOk X.N X.env.scope scope [(x, n)] := by exact blkOk_by (by kernel_rfl))
    (hgn : ∀ (s : Shared) (H : Hp) (C : Addr) (cl : List (Str × Addr)) (fp : List Addr), PG (X.blk s H scope (compEnvC scope cl C X.env) fp) (.Name x p) (gName n) := by exact fun _ _ _ _ _ => pg_name (by assumption) rfl (Or.inl rfl))
    (hf : ∀ x, foldedSetIterable iter X.env x = pure x := by intro _; rfl) : SJ X N ρ M (.Assign [.Name y py] (.ListComp elt [⟨.Name x p, iter, [], 0⟩] scope pos) spos :: rest) Z :=
  sj_lc n' (lj_compT n A Mi hc hN hi hA0 hM0 hz step) (ps_setLc (i := n') (y := y) (py := py) (spos := spos) hc hN hy hyl hsw (pi_tup pe_w) ok hgn (fun _ _ _ _ _ => pts_nil) (te := wBE X scope elt) (fun s H C cl fp => ⟨fun pins s1 σ1 H1 Q1 I1 h1 => h1 s H C cl fp pins s1 I1⟩) hf) hr
/-- (the reading) [e for x in range(n)] -/
theorem lj_compR {elt : Expr} {scope : Scope} (n : Nat) {z : Int} (A : Nat → List It) (Mi : Nat → Mem) (hc : X.calm = true) (hmr : X.mg "range" = none) (hN : X.N.Nodup) (hi : EJ X N ρ M a (dI z) M1)
    (hA0 : A 0 = []) (hM0 : Mi 0 = M1) (hz : z ≤ 100000 ∧ -(2 ^ 62) ≤ z)
    (step : ∀ (m : Nat), m < z.toNat → ∃ j, A (m + 1) = A m ++ [j] ∧ (A m).length ≤ m ∧ ∀ N' s H C cl fp, EJ (X.blk s H scope (compEnvC scope cl C X.env) fp) N' (ρ.set n (some (dI (m : Int)))) (Mi m) elt j (Mi (m + 1)))
    (hs : starEach [a] X.env = [(false, eval a X.env)] := by rfl)
    : LJ X N ρ M (tLc (iRng1 (wA X [a])) (gName n) tYes (wBE X scope elt) [n]) (A z.toNat) (Mi z.toNat) := fun σ H P hh g Q q => by
  refine (aj_cons hi aj_nil hs σ H P hh g _ fun vs H1 P1 e1 h1 r1 => ?_)
  obtain ⟨x', rfl, r2⟩ := ri1 r1
  cases ri_int r2
  refine ⟨z, rfl, hz.2, by omega, fun D hD => lc_range (lo := 0) (n := z.toNat) (fun m H' => ∃ P', Holds N P' H' (Mi m ++ [(D, A m)]) ∧ Ex P1 P') ⟨P1, by rw [hA0, hM0]; exact h1.own hD (its := []) trivial, Ex.refl _⟩ (fun m H' nl hw => ?_) (fun H' hw => ?_)⟩
  · obtain ⟨P', h2, e2⟩ := hw
    obtain ⟨j, eA, lA, S⟩ := step m nl
    refine ⟨wipe_comp n, ?_⟩
    unfold tYes
    dsimp only
    rw [if_pos rfl]
    intro s H0 C cl fp
    refine S (inner P' H' (Mi m)) s H0 C cl fp _ H' P' h2.enter (slots_comp (g.ex (e1.trans e2)) n (by rw [Int.zero_add]; exact .int _)) _ fun y H4 P4 e4 h4 r4 => ?_
    have h5 := h2.leave h4
    obtain ⟨acc, ea, ra⟩ := h5.cell (a := D) (its := A m) (List.mem_append_right _ (List.mem_singleton.mpr rfl))
    refine ⟨acc, ea, by rw [ra.len]; exact Nat.lt_of_lt_of_le (Nat.lt_of_le_of_lt lA (by omega : m < 100000)) (by decide), P4, ?_, e2.trans e4⟩
    have h6 := h5.write (a := D) (its := A m) (its' := A (m + 1)) (List.mem_append_right _ (List.mem_singleton.mpr rfl)) (xs' := acc ++ [y]) (by rw [eA]; exact ra.app ⟨r4, trivial⟩)
    rw [put_last h5.nd] at h6
    exact h6
  · obtain ⟨P', h2, e2⟩ := hw
    exact q D H' P' (e1.trans e2) (h1.newF hD) h2
/-- [e for x in range(n)] -/
theorem el_compR {elt : Expr} {x : Str} {p rpp rp : Pos} {scope : Scope} (n : Nat) {z : Int} (A : Nat → List It) (Mi : Nat → Mem) (hc : X.calm = true) (hmr : X.mg "range" = none) (hN : X.N.Nodup) (hi : EJ X N ρ M a (dI z) M1)
    (hA0 : A 0 = []) (hM0 : Mi 0 = M1) (hz : z ≤ 100000 ∧ -(2 ^ 62) ≤ z)
    (step : ∀ (m : Nat), m < z.toNat → ∃ j, A (m + 1) = A m ++ [j] ∧ (A m).length ≤ m ∧ ∀ N' s H C cl fp, EJ (X.blk s H scope (compEnvC scope cl C X.env) fp) N' (ρ.set n (some (dI (m : Int)))) (Mi m) elt j (Mi (m + 1)))
    (ok : BlkOk X.N X.env.scope scope [(x, n)] := by exact blkOk_by (by kernel_rfl))
    (hgn : ∀ (s : Shared) (H : Hp) (C : Addr) (cl : List (Str × Addr)) (fp : List Addr), PG (X.blk s H scope (compEnvC scope cl C X.env) fp) (.Name x p) (gName n) := by exact fun _ _ _ _ _ => pg_name (by assumption) rfl (Or.inl rfl))
    (hg : Gl X "range" := by rfl) (hs : starEach [a] X.env = [(false, eval a X.env)] := by rfl)
    (hf : ∀ x, foldedSetIterable (.Call (.Name "range" rpp) [a] [] rp) X.env x = pure x := by intro _; rfl) : EL X N ρ M (.ListComp elt [⟨.Name x p, .Call (.Name "range" rpp) [a] [] rp, [], 0⟩] scope pos) (A z.toNat) (Mi z.toNat) :=
  el_lc (lj_compR n A Mi hc hmr hN hi hA0 hM0 hz step hs) (pe_lc hc hN (pi_range1 hg hmr pa_w hs) ok hgn (fun _ _ _ _ _ => pts_nil) (te := wBE X scope elt) (fun s H C cl fp => ⟨fun pins s1 σ1 H1 Q1 I1 h1 => h1 s H C cl fp pins s1 I1⟩) hf)
theorem sj_setcompR (n' : Nat) {y : Str} {py spos : Pos} {Z : Post} {rest : List Stmt} {elt : Expr} {x : Str} {p rpp rp : Pos} {scope : Scope} (n : Nat) {z : Int} (A : Nat → List It) (Mi : Nat → Mem) (hc : X.calm = true) (hmr : X.mg "range" = none) (hN : X.N.Nodup) (hi : EJ X N ρ M a (dI z) M1)
    (hA0 : A 0 = []) (hM0 : Mi 0 = M1) (hz : z ≤ 100000 ∧ -(2 ^ 62) ≤ z)
    (step : ∀ (m : Nat), m < z.toNat → ∃ j, A (m + 1) = A m ++ [j] ∧ (A m).length ≤ m ∧ ∀ N' s H C cl fp, EJ (X.blk s H scope (compEnvC scope cl C X.env) fp) N' (ρ.set n (some (dI (m : Int)))) (Mi m) elt j (Mi (m + 1)))
    (hr : ∀ p, p ∉ N.F → SJ X N (ρ.set n' (some (.v (.ref p)))) (Mi z.toNat ++ [(p, A z.toNat)]) rest Z)
    (hy : X.N[n']? = some y := by rfl) (hyl : X.env.scope.names.lookup y = some .local := by rfl)
    (hsw : swapsWith (.ListComp elt [⟨.Name x p, .Call (.Name "range" rpp) [a] [] rp, [], 0⟩] scope pos) (some (.Name y py)) spos.line X.env = pure true := by exact sw_true rfl rfl rfl (by kernel_rfl))
    (ok : BlkOk X.N X.env.scope scope [(x, n)] := by exact blkOk_by (by kernel_rfl))
    (hgn : ∀ (s : Shared) (H : Hp) (C : Addr) (cl : List (Str × Addr)) (fp : List Addr), PG (X.blk s H scope (compEnvC scope cl C X.env) fp) (.Name x p) (gName n) := by exact fun _ _ _ _ _ => pg_name (by assumption) rfl (Or.inl rfl))
    (hg : Gl X "range" := by rfl) (hs : starEach [a] X.env = [(false, eval a X.env)] := by rfl)
    (hf : ∀ x, foldedSetIterable (.Call (.Name "range" rpp) [a] [] rp) X.env x = pure x := by intro _; rfl) : SJ X N ρ M (.Assign [.Name y py] (.ListComp elt [⟨.Name x p, .Call (.Name "range" rpp) [a] [] rp, [], 0⟩] scope pos) spos :: rest) Z :=
  sj_lc n' (lj_compR n A Mi hc hmr hN hi hA0 hM0 hz step hs) (ps_setLc (i := n') (y := y) (py := py) (spos := spos) hc hN hy hyl hsw (pi_range1 hg hmr pa_w hs) ok hgn (fun _ _ _ _ _ => pts_nil) (te := wBE X scope elt) (fun s H C cl fp => ⟨fun pins s1 σ1 H1 Q1 I1 h1 => h1 s H C cl fp pins s1 I1⟩) hf) hr

/-! ### a def keeps its contract -/
theorem slots_start {P : Hp} {vs : List V} {is : List It} (n : Nat) (r : RepIs P vs is) : Slots P (vs.map some ++ List.replicate n none) (is.map some ++ List.replicate n none) := by
  refine ⟨by simp [r.len], fun k it q => ?_⟩
  by_cases l : k < is.length
  · rw [List.getElem?_append_left (by simpa using l), List.getElem?_map] at q
    cases e : is[k]? with
    | none => rw [e] at q; cases q
    | some i =>
      rw [e] at q
      cases Option.some.inj (Option.some.inj q)
      obtain ⟨v, e1, e2⟩ := r.get e
      refine ⟨v, ?_, e2⟩
      rw [List.getElem?_append_left (by simpa [r.len] using l), List.getElem?_map, e1]
      rfl
  · rw [List.getElem?_append_right (by simpa using Nat.le_of_not_lt l), List.getElem?_replicate] at q
    split at q
    · cases q
    · cases q
def rho (N : List Str) (is : List It) : Rho := is.map some ++ List.replicate (N.length - is.length) none
def retZ (i : It) (M' : Mem) : Post := { nx := fun _ M'' => i = .d .none ∧ ∃ L, M'' = M' ++ L, rt := fun i' M'' => i' = i ∧ ∃ L, M'' = M' ++ L }
theorem def_ok {P : Program} {w : World} {K : PySem.W.Frag} {mg : Str → Option Value} {base : Heap} {x qual : Str} {st : Stmt} {f : Addr} {fd : FuncData} {NN ps : List Str} {l : Nat} {C : Co} (F : Fun K x qual st f fd) (S : FnScope NN ps (defScope st))
    (hm : mg x = some (.ref f)) (hb : Binds K fd ps []) (len : ∀ is M i M', C is M i M' → is.length = ps.length ∧ M'.map Prod.fst = M.map Prod.fst)
    (body : ∀ X : Cx, (∃ cdv A outer s H E, X = (cxOf CX0 P w K mg base NN qual (defScope st) f cdv A outer s H E).nox ∧ Room l X.A) → ∀ N is M i M', N.F = M.map Prod.fst → C is M i M' → SJ X N (rho NN is) M (defBody st) (retZ i M')) : Def P w K mg base x (l + 1) C := by
  refine ⟨f, fd, ps, F.ok S (fun vs H Q E h => ?_) (fun cdv A outer s H vs Q E hr h => ?_), hm, F.kp, hb⟩
  · obtain ⟨P0, is, M, i, M', _, r, hC, _⟩ := h
    rw [r.len]
    exact (len _ _ _ _ hC).1
  · obtain ⟨P0, is, M, i, M', h0, r, hC, q⟩ := h
    have back : ∀ {P' H' M'' L}, M'' = M' ++ L → Holds (inner P0 H M) P' H' M'' → Holds (inner P0 H M) P' H' M' := fun {P' H' M'' L} e hh => by
      subst e
      refine hh.sub (fun c hc => List.mem_append_left _ hc) ?_ fun a ha => ?_
      · have := hh.nd
        rw [List.map_append] at this
        exact (List.nodup_append.mp this).1
      · rw [(len _ _ _ _ hC).2]
        exact ha
    refine ⟨_, pss_w, ?_⟩
    have es : L2.start NN vs = vs.map some ++ List.replicate (NN.length - is.length) none := by
      unfold L2.start
      rw [r.len]
    rw [es]
    refine body _ ⟨cdv, A, outer, s, H, E, rfl, hr⟩ (inner P0 H M) is M i M' rfl hC _ H P0 h0 (slots_start _ r) _ E0 takes0 ⟨fun ρ' M'' σ' H' P' a e hh g => ?_, fun i' M'' v H' P' a e hh rr => ?_, fun _ _ _ _ _ a => a.elim, fun _ _ _ _ _ a => a.elim, fun _ _ _ _ _ _ _ a => a.elim⟩
    · obtain ⟨rfl, L, eL⟩ := a
      exact q _ H' P' (back eL hh) .non
    · obtain ⟨rfl, L, eL⟩ := a
      exact q _ H' P' (back eL hh) rr
end
end Kt

/-! Kt5: the program's own error with a name: made, raised, caught, read. -/
namespace Kt
open PySem PySem.Spec PyProof.Rows L2
section
variable {X : Cx} {e : Expr} {es : List Expr} {ta : TA} {p p1 p2 pos : Pos}
/-- Base.__init__(self, ..), Base an own class over ValueError without an __init__ of its own -/
theorem pe_hinit {x : Str} {C0 : Addr} {pl : Sem Bool} (hg : Gl X x) (hm : X.mg x = some (.ref C0)) (sp : PySem.W.specialIn X.K (.ref C0) "__getattribute__" = some (some (.builtin "type.__getattribute__"))) (hr : PySem.W.readsIn X.K C0 (.type "type") = true)
    (vV : PySem.W.findCls X.K (.ref C0) (.type "type") "__init__" = some (.val (.builtin "ValueError.__init__"))) (ha : PA X (e :: es) ta)
    (hd : (x == ("__debug__" : Str)) = false := by decide)
    (hc : eval (.Call (.Attribute (.Name x p1) "__init__" p2) (e :: es) [] pos) X.env = (do
      let ov ← eval (.Name x p1) X.env
      standAt p2.atName
      let (f, first) ← holding [ov] (getMethod ov "__init__" pl)
      callWith pos f first (backTo pos (starEach (e :: es) X.env)) (backToKw pos (keywordEach [] X.env))) := by rfl)
    (he : starEach (e :: es) X.env = (false, eval e X.env) :: starEach es X.env := by rfl) (hpl : (backTo pos (starEach es X.env)).any (·.1) = false := by rfl) :
    PE X (.Call (.Attribute (.Name x p1) "__init__" p2) (e :: es) [] pos) (tVeI X.K ta) := by
  refine ⟨fun pins s σ H Q I h => ?_⟩
  refine PySem.W.methodCall_KW (ld_glob I hg hm ?_ hd) hc
  refine PySem.W.method_cls I.kIn sp ?_
  refine PySem.W.cls_value I.kIn hr vV (by decide +kernel) ?_
  show wpAny _ _ (callWith pos (Value.builtin "ValueError.__init__") [] (backTo pos (starEach (e :: es) X.env)) []) _ _ _
  refine PyProof.Rows.callWith_method1 (thn (ha.run pos pins _ σ H _ (I.tok _) h) fun us s1 ⟨vs, H1, I1, r1, a, C, ws, ev, hl, T, ea, q⟩ => ?_) he hpl
  subst ev
  cases r1 with
  | @cons _ u0 _ ur ra rw' =>
    obtain rfl : u0 = Value.ref a := ra
    have hlen : ur.length ≤ sizeLine := by
      rw [← Paired.length rw', sizeLine_eq]
      omega
    exact oinit_ok T I1 ea hlen fun s' J => ⟨.non, H1, J, rfl, q⟩
end
structure ErrTxt (K : PySem.W.Frag) (mg : Str → Option Value) (sI : Stmt) (Cs C0 fI : Addr) (fd : FuncData) : Prop where
  gS : mg "ShapeError" = some (.ref Cs)
  g0 : mg "HeardError" = some (.ref C0)
  oex : OexC K Cs
  iC : PySem.W.findIn K (.ref Cs) "__init__" = some (some (.ref fI))
  tI : PySem.W.typeIn K (.ref fI) = some (.type "function")
  no : PySem.W.findIn K (.ref Cs) "name" = some none
  sp0 : PySem.W.specialIn K (.ref C0) "__getattribute__" = some (some (.builtin "type.__getattribute__"))
  rd0 : PySem.W.readsIn K C0 (.type "type") = true
  v0 : PySem.W.findCls K (.ref C0) (.type "type") "__init__" = some (.val (.builtin "ValueError.__init__"))
  te : PySem.W.exmOne K (.ref Cs) (.ref Cs) = some true
  ga : PySem.W.findIn K (.ref Cs) "__getattribute__" = some (some (.builtin "BaseException.__getattribute__"))
  gg : PySem.W.findIn K (.ref Cs) "__getattr__" = some none
  hd : PySem.W.hasDictIn K Cs = true
  fn : Fun K "__init__" "ShapeError.__init__" sI fI fd
  bi : Binds K fd ["self", "name"] []
def spInit (Cs : Addr) : Sp := fun vs H Q _ => ∃ (a : Addr) (z : Str), vs = [.ref a, .str z] ∧ H a = some (exo a Cs none) ∧ z.length ≤ 1000 ∧ ∀ dx, H dx = none → dx ≠ a → Q .non (upd (upd H dx (exd dx [("name", .str z)])) a (exo a Cs (some dx)))
def InitOk (P : Program) (w : World) (K : PySem.W.Frag) (mg : Str → Option Value) (base : Heap) (Cs fI : Addr) (fd : FuncData) : Prop := FnOk P w K mg base CX0 1 fI fd ["self", "name"] (spInit Cs)
theorem Holds.junk {N : Ent} {P H : Hp} {M : Mem} (h : Holds N P H M) {p : Addr} {o : HO} (hp : H p = none) : Holds N P (upd H p o) M := by
  refine ⟨fun a u e => ?_, h.ex0, fun b u e f => ?_, h.nw, fun c hc => ?_, h.nd, h.mf, h.fs⟩
  · have := h.ex a u e
    rw [upd_ne (ne_of_none this hp)]
    exact this
  · have := h.fr b u e f
    rw [upd_ne (ne_of_none this hp)]
    exact this
  · obtain ⟨a1, xs, a2, a3⟩ := h.mem c hc
    exact ⟨a1, xs, by rw [upd_ne (ne_of_none a2 hp)]; exact a2, a3⟩
section
variable {X : Cx} {N : Ent} {ρ ρ' : Rho} {M M1 M2 M' Mc Mr Mc' : Mem} {a b c e : Expr} {pos pos2 p : Pos} {i j k : It} {Z : Post} {rest : List Stmt} {Cs C0 fI : Addr} {fd : FuncData} {sI : Stmt}
/-- raise ShapeError(e) -/
theorem sj_raise {z : Str} (hc : X.calm = true) (T : ErrTxt X.K X.mg sI Cs C0 fI fd) (F1 : InitOk X.prog X.w X.K X.mg X.base Cs fI fd) (hr : Room 2 X.A) (he : EJ X N ρ M e (.d (.str z)) M1) (hz : z.length ≤ 1000) (h : Z.er z M1)
    (hg : Gl X "ShapeError" := by rfl) (hs : starEach [e] X.env = [(false, eval e X.env)] := by rfl) (hpl : (backTo pos (starEach ([] : List Expr) X.env)).any (·.1) = false := by rfl) :
    SJ X N ρ M (.Raise (some (.Call (.Name "ShapeError" p) [e] [] pos)) none pos2 :: rest) Z := sj_cons fun σ H P hh g D E tk zd => by
  refine s_of (ps_raise hc tk (pmk_oex T.oex T.iC T.tI F1 hr T.bi .nil pass0 hg T.gS (pa_cons pe_w pa_nil hs) (by decide) hs hpl)) ?_
  refine he σ H P hh g _ fun v H1 P1 e1 h1 r1 => ?_
  cases ri_str r1
  refine ⟨(by show 1 ≤ 1000; decide), fun a ha => ⟨a, z, rfl, upd_same, hz, fun dx hdx ne => ⟨rfl, dx, [("name", .str z)], upd_same, ?_, ?_, ?_⟩⟩⟩
  · rw [upd_ne ne, upd_same]
  · rw [upd_ne ne] at hdx
    exact hdx
  · have hdx' : H1 dx = none := by
      rw [upd_ne ne] at hdx
      exact hdx
    have eq : upd (del (upd (upd (upd H1 a (exo a Cs none)) dx (exd dx [("name", .str z)])) a (exo a Cs (some dx))) a) dx (XD z) = upd H1 dx (XD z) := by
      funext b
      by_cases hb : b = dx
      · subst hb
        rw [upd_same, upd_same]
      · rw [upd_ne hb, upd_ne hb]
        by_cases hba : b = a
        · subst hba
          rw [del_same, ha]
        · rw [del_ne hba, upd_ne hba, upd_ne hb, upd_ne hba]
    show E (.ref Cs) (some dx) (upd (del (upd (upd (upd H1 a (exo a Cs none)) dx (exd dx [("name", .str z)])) a (exo a Cs (some dx))) a) dx (XD z))
    rw [eq]
    exact zd.er z M1 dx _ P1 Cs T.gS h e1 (h1.junk hdx') upd_same

/-! ### contracts of defs that may raise -/
abbrev Ro := List It → Mem → Str → Prop
def spX (mg : Str → Option Value) (C : Co) (R : Ro) : Sp := fun vs H Q E => ∃ (P : Hp) (is : List It) (M : Mem), Holds (inner P H M) P H M ∧ RepIs P vs is ∧
  ((∃ i M', C is M i M' ∧ ∀ v H' P', Holds (inner P H M) P' H' M' → RepI P' v i → Q v H') ∨
    (∃ z, R is M z ∧ ∀ d H' P' Cs, mg "ShapeError" = some (.ref Cs) → Holds (inner P H M) P' H' M → H' d = some (XD z) → E (.ref Cs) (some d) H'))
structure DefX (P : Program) (w : World) (K : PySem.W.Frag) (mg : Str → Option Value) (base : Heap) (x : Str) (k : Nat) (C : Co) (R : Ro) : Prop where
  ex : ∃ f fd ps, FnOk P w K mg base (L2.CX P w) k f fd ps (spX mg C R) ∧ mg x = some (.ref f) ∧ PySem.W.keepIn K (.ref f) = true ∧ Binds K fd ps []
/-- e raises an error of this name -/
def XJ (X : Cx) (N : Ent) (ρ : Rho) (M : Mem) (e : Expr) (z : Str) : Prop :=
  ∀ σ H P, Holds N P H M → Slots P σ ρ → ∀ E : XK, Takes X (fun c d _ H => E c d H) → (∀ d H' P' Cs, X.mg "ShapeError" = some (.ref Cs) → Ex P P' → Holds N P' H' M → H' d = some (XD z) → E (.ref Cs) (some d) H') → ∀ Q : VK, wE X e σ H Q
variable {es : List Expr} {is : List It}
/-- a call that does not raise here -/
theorem ej_callX {x : Str} {l : Nat} {C : Co} {R : Ro} (F : DefX X.prog X.w X.K X.mg X.base x l C R) (hr : Room l X.A) (ha : AJ X N ρ M (e :: es) is M1) (hM : M1 = Mc ++ Mr) (hC : C is Mc i Mc') (hM2 : M2 = Mc' ++ Mr)
    (hg : Gl X x := by rfl) (hdb : (x == ("__debug__" : Str)) = false := by decide) (he : starEach (e :: es) X.env = (false, eval e X.env) :: starEach es X.env := by rfl) (hpl : (backTo pos (starEach es X.env)).any (·.1) = false := by rfl) :
    EJ X N ρ M (.Call (.Name x p) (e :: es) [] pos) i M2 := fun σ H P hh g Q q => by
  obtain ⟨f, fd, ps, F1, hm, hk, hb⟩ := F.ex
  refine e_of (pe_call F1 hr hg hm hk hb .nil passL pa_w hdb he hpl) (ha σ H P hh g _ fun vs H1 P1 e1 h1 r1 => ?_)
  subst hM hM2
  refine ⟨P1, is, Mc, h1.enter, ?_, .inl ⟨i, Mc', hC, fun v H' P' h' r' => ?_⟩⟩
  · rw [List.append_nil]; exact r1
  · exact q v H' P' (e1.trans h'.ex0) (h1.leave h') r'
/-- a call that raises -/
theorem xj_callX {x : Str} {z : Str} {l : Nat} {C : Co} {R : Ro} (F : DefX X.prog X.w X.K X.mg X.base x l C R) (hr : Room l X.A) (ha : AJ X N ρ M (e :: es) is M) (hR : R is [] z)
    (hg : Gl X x := by rfl) (hdb : (x == ("__debug__" : Str)) = false := by decide) (he : starEach (e :: es) X.env = (false, eval e X.env) :: starEach es X.env := by rfl) (hpl : (backTo pos (starEach es X.env)).any (·.1) = false := by rfl) :
    XJ X N ρ M (.Call (.Name x p) (e :: es) [] pos) z := fun σ H P hh g E tk er Q => by
  obtain ⟨f, fd, ps, F1, hm, hk, hb⟩ := F.ex
  refine e_of (pe_callS F1 hr hg hm hk hb (fun σ => passAt tk σ) pa_w hdb he hpl) (ha σ H P hh g _ fun vs H1 P1 e1 h1 r1 => ?_)
  have h2 : Holds N P1 H1 ([] ++ M) := h1
  refine ⟨P1, is, [], h2.enter, r1, .inr ⟨z, hR, fun d H' P' Cs gs h' x' => ?_⟩⟩
  exact er d H' P' Cs gs (e1.trans h'.ex0) (h2.leave h') x'
theorem sj_exprX {z : Str} (he : XJ X N ρ M e z) (h : Z.er z M) (hs : swapsWith e none pos.line X.env = pure false := by rfl) : SJ X N ρ M (.Expr e pos :: rest) Z := sj_cons fun σ H P hh g D E tk zd =>
  s_of (ps_expr pe_w hs) (he σ H P hh g E tk (fun d H' P' Cs gs e1 h1 x => zd.er z M d H' P' Cs gs h e1 h1 x) _)
theorem sj_retX {z : Str} (he : XJ X N ρ M e z) (h : Z.er z M) : SJ X N ρ M (.Return (some e) pos :: rest) Z := sj_cons fun σ H P hh g D E tk zd =>
  s_of (ps_ret pe_w) (he σ H P hh g E tk (fun d H' P' Cs gs e1 h1 x => zd.er z M d H' P' Cs gs h e1 h1 x) _)
/-- a def that may raise keeps its contract -/
theorem defX_ok {P : Program} {w : World} {K : PySem.W.Frag} {mg : Str → Option Value} {base : Heap} {x qual : Str} {st : Stmt} {f : Addr} {fd : FuncData} {NN ps : List Str} {l : Nat} {C : Co} {R : Ro} (F : Fun K x qual st f fd) (S : FnScope NN ps (defScope st))
    (hm : mg x = some (.ref f)) (hb : Binds K fd ps []) (len : ∀ is M i M', C is M i M' → is.length = ps.length ∧ M'.map Prod.fst = M.map Prod.fst) (len2 : ∀ is M z, R is M z → is.length = ps.length)
    (body : ∀ X : Cx, (∃ cdv A outer s H E, X = cxOf (L2.CX P w) P w K mg base NN qual (defScope st) f cdv A outer s H E ∧ Room l X.A) → ∀ N is M, N.F = M.map Prod.fst →
      (∀ i M', C is M i M' → SJ X N (rho NN is) M (defBody st) (retZ i M')) ∧ (∀ z, R is M z → SJ X N (rho NN is) M (defBody st) { nx := fun _ _ => False, rt := fun _ _ => False, er := fun z' M' => z' = z ∧ M' = M })) : DefX P w K mg base x (l + 1) C R := by
  refine ⟨f, fd, ps, F.okX S (fun vs H Q E h => ?_) (fun cdv A outer s H vs Q E hr h => ?_), hm, F.kp, hb⟩
  · obtain ⟨P0, is, M, _, r, ⟨i, M', hC, _⟩ | ⟨z, hR, _⟩⟩ := h
    · rw [r.len]
      exact (len _ _ _ _ hC).1
    · rw [r.len]
      exact len2 _ _ _ hR
  · obtain ⟨P0, is, M, h0, r, hq⟩ := h
    refine ⟨_, pss_w, ?_⟩
    have es : L2.start NN vs = vs.map some ++ List.replicate (NN.length - is.length) none := by
      unfold L2.start
      rw [r.len]
    rw [es]
    have B := body _ ⟨cdv, A, outer, s, H, E, rfl, hr⟩ (inner P0 H M) is M rfl
    rcases hq with ⟨i, M', hC, q⟩ | ⟨z, hR, q⟩
    · have back : ∀ {P' H' M'' L}, M'' = M' ++ L → Holds (inner P0 H M) P' H' M'' → Holds (inner P0 H M) P' H' M' := fun {P' H' M'' L} e hh => by
        subst e
        refine hh.sub (fun c hc => List.mem_append_left _ hc) ?_ fun a ha => ?_
        · have := hh.nd
          rw [List.map_append] at this
          exact (List.nodup_append.mp this).1
        · rw [(len _ _ _ _ hC).2]
          exact ha
      refine B.1 i M' hC _ H P0 h0 (slots_start _ r) _ E0 takes0 ⟨fun ρ' M'' σ' H' P' a e hh g => ?_, fun i' M'' v H' P' a e hh rr => ?_, fun _ _ _ _ _ a => a.elim, fun _ _ _ _ _ a => a.elim, fun _ _ _ _ _ _ _ a => a.elim⟩
      · obtain ⟨rfl, L, eL⟩ := a
        exact q _ H' P' (back eL hh) .non
      · obtain ⟨rfl, L, eL⟩ := a
        exact q _ H' P' (back eL hh) rr
    · refine B.2 z hR _ H P0 h0 (slots_start _ r) _ E (takes_of rfl rfl rfl rfl) ⟨fun _ _ _ _ _ a => a.elim, fun _ _ _ _ _ a => a.elim, fun _ _ _ _ _ a => a.elim, fun _ _ _ _ _ a => a.elim, fun z' M'' d H' P' Cs gs a e hh x => ?_⟩
      obtain ⟨rfl, rfl⟩ := a
      exact q d H' P' Cs gs hh x
end
end Kt

namespace Kt
open PySem PySem.Spec PyProof.Rows L2
section
variable {X : Cx} {N : Ent} {ρ ρ' : Rho} {M M1 M2 M' Mc Mr Mc' : Mem} {a b c e : Expr} {pos pos2 p : Pos} {i j k : It} {Z : Post} {rest : List Stmt} {Cs C0 fI : Addr} {fd : FuncData} {sI : Stmt}
/-- e.name in the suite that holds e (at a, its dict d) -/
def tEN (C : Addr) (a : Addr) (cls : Value) (d : Option Addr) (te : TE) : TE := fun σ H Q => te σ H fun x H1 => x = .ref a ∧ cls = .ref C ∧ ∃ (dd : Addr) (v : V), d = some dd ∧ H1 dd = some (.xd [(("name" : Str), v)]) ∧ Q v H1
theorem relO_name {v : V} {v' : Value} (r : RelV v v') (f : Str) : RelO (List.lookup f [(("name" : Str), v)]) (if f = "name" then some v' else none) := by
  by_cases hw : f = "name"
  · subst hw
    rw [if_pos rfl]
    have q : List.lookup ("name" : Str) [(("name" : Str), v)] = some v := by simp [List.lookup]
    rw [q]
    exact r
  · rw [if_neg hw]
    have qw : (f == ("name" : Str)) = false := by simpa using hw
    have q2 : List.lookup f [(("name" : Str), v)] = none := by simp [List.lookup, qw]
    rw [q2]
    trivial
theorem pe_ename {a : Addr} {oe : Obj} {cls : Value} {d : Option Addr} {pn : List (Addr × Obj)} {te : TE} (T : ErrTxt X.K X.mg sI Cs C0 fI fd) (hz : Zc cls d oe) (hf : ∃ vs, oe.data = .fields vs) (he : PE (X.suite a ((a, oe) :: pn)) e te)
    (hb : attributeBase e "name" X.env (eval e X.env) = eval e X.env := by rfl) :
    PE (X.suite a ((a, oe) :: pn)) (.Attribute e "name" pos) (tEN Cs a cls d te) := by
  refine ⟨fun pins s σ H Q I h => ?_⟩
  refine attr_of hb (thn (he.run pins s σ H _ I h) fun u s1 hh => ?_)
  obtain ⟨x, H1, I1, rx, ex, ec, dd, v, ed, ea, q⟩ := hh
  subst ex
  obtain rfl : u = Value.ref a := rx
  subst ec
  subst ed
  obtain ⟨ha, _⟩ := I1.pin (a, oe) (List.mem_append_left _ List.mem_cons_self)
  obtain ⟨vs, hd⟩ := hf
  have hx : ObjOk X.prog X.w H1 s1.heap dd (.xd [(("name" : Str), v)]) := I1.hok dd _ ea
  obtain ⟨mA, hns, hr⟩ := hx
  obtain ⟨od, ho, hl⟩ := lookIn_ns hns
  have l : List.lookup ("name" : Str) [(("name" : Str), v)] = some v := by simp [List.lookup]
  obtain ⟨u, hu, ru⟩ := RelO.some_of (v := v) (o := mA "name") (by rw [← l]; exact hr "name")
  have J : PySem.W.InstAt s1.heap a oe Cs (some od) := ⟨ha, hz.1, by unfold PySem.W.notCls; rw [hd] <;> rfl, by rw [hz.2]; exact ho⟩
  exact HandSPX.exc_get I1.kIn J T.ga T.gg T.oex.exC (PySem.W.findObj_own T.hd T.no rfl (by rw [hl, hu])) (handed_of ru) ⟨v, H1, I1.tok _, ru, q⟩
theorem takes_len {W W' : WX} (t : Takes X W) (h : ∀ c d σ H, σ.length = X.N.length → W' c d σ H → W c d σ H) : Takes X W' := fun u s' ⟨a, B, sI, pins, σ, H, cls, d, e, I, nb, up, sky, na, os, ag, w⟩ =>
  t u s' ⟨a, B, sI, pins, σ, H, cls, d, e, I, nb, up, sky, na, os, ag, h _ _ _ _ I.len w⟩
/-- what a suite of returns is to give -/
def SuiteOk (X : Cx) (N : Ent) (n : Nat) (Cs : Addr) (suite : List Stmt) (z : Str) (M' : Mem) (rt : It → Mem → Prop) : Prop :=
  ∀ (a dd : Addr) (P' H' : Hp) (σ' : L2.St) (oe : Obj) (pn : List (Addr × Obj)) (D : Ends), Holds N P' H' M' → H' dd = some (XD z) → H' a = none → σ'.length = X.N.length → Zc (.ref Cs) (some dd) oe → (∃ vs, oe.data = .fields vs) →
    (∀ i M'' v H'' P'', rt i M'' → Ex P' P'' → Holds N P'' H'' M'' → RepI P'' v i → D.rt v H'') → wSs (X.suite a ((a, oe) :: pn)) suite D (σ'.set n (some (.ref a))) H'
theorem sj_try (n : Nat) {nm : Str} {np pos' : Pos} {body suite : List Stmt} {b₀ : Stmt} (ER : Str → Mem → Prop) (hN : X.N.Nodup) (T : ErrTxt X.K X.mg sI Cs C0 fI fd)
    (hb : ∀ (pn : List (Addr × Obj)) (xe : Value → Shared → Prop), PassesOwn (model X.prog X.w) X.A X.env xe → SJ (X.tr pn xe) N ρ M body { nx := fun ρ' M' => SJ X N ρ' M' rest Z, rt := Z.rt, bk := Z.bk, ct := Z.ct, er := ER })
    (hsu : ∀ z M', ER z M' → SuiteOk X N n Cs (b₀ :: suite) z M' Z.rt)
    (hi : X.N[n]? = some nm := by rfl) (hln : X.env.kindOf nm = some .local := by rfl) (hg : Gl X "ShapeError" := by rfl) (hs : X.stack = X.env :: X.outer := by rfl) (hf : X.env.frame = some X.env.locals := by rfl) :
    SJ X N ρ M (.Try body [.ExceptHandler (some (.Name "ShapeError" np)) (some nm) (b₀ :: suite) pos'] [] [] pos :: rest) Z := sj_cons fun σ H P hh g D E tk zd => by
  refine s_of (ps_try_as (i := n) (c := .ref Cs) (tb := fun W => fun D σ H => ∀ pn xe, Takes (X.tr pn xe) W → PassesOwn (model X.prog X.w) X.A X.env xe → wSs (X.tr pn xe) body D σ H)
    (ts := fun a cls d => fun D σ H => ∀ oe pn, Zc cls d oe → (∃ vs, oe.data = .fields vs) → wSs (X.suite a ((a, oe) :: pn)) (b₀ :: suite) D σ H) (Wout := fun _ _ _ _ => False) hs hf hN hi hln ⟨hg, by decide, .inl T.gS⟩ takes0
    (fun W pn xe tk1 po => ⟨fun pins s σ H D I h => h pn xe tk1 po pins s I⟩) (fun a oe cls d pn hz hv => ⟨fun pins s σ H D I h => h oe pn hz hv pins s I⟩)) ?_
  intro pn xe tk1 po
  refine hb pn xe po σ H P hh g D (fun c d H' => ∀ σ' : L2.St, σ'.length = X.N.length → wAs X.K (.ref Cs) n (fun a cls d => fun D σ H => ∀ oe pn, Zc cls d oe → (∃ vs, oe.data = .fields vs) → wSs (X.suite a ((a, oe) :: pn)) (b₀ :: suite) D σ H) (fun _ _ _ _ => False) D c d σ' H') (takes_len tk1 fun c d σ' H' hl w => w σ' hl) ⟨zd.nx, zd.rt, zd.bk, zd.ct, fun z M' d H' P' C gC hz e1 h1 x1 => ?_⟩
  intro σ' hl
  have eC : C = Cs := by
    have := gC.symm.trans T.gS
    cases this
    rfl
  subst eC
  refine ⟨true, T.te, fun _ a ha oe pn2 hz2 hv2 => ?_, fun q => Bool.noConfusion q⟩
  exact hsu z M' hz a d P' H' σ' oe pn2 _ h1 x1 ha hl hz2 hv2 fun i M'' v H'' P'' r e2 h2 r2 => zd.rt i M'' v H'' P'' r (e1.trans e2) h2 r2
/-- return e.name == '..' -/
theorem suite_eq (n : Nat) {nm z w : Str} {p1 p2 p3 p4 : Pos} {j : Nat} {rest : List Stmt} {rt : It → Mem → Prop} (T : ErrTxt X.K X.mg sI Cs C0 fI fd) (h : rt (dB (decide (z = w))) M') (hi : X.N[n]? = some nm := by rfl) (hv : Vis X.env.scope nm := by exact Or.inl rfl) (hd : (nm == ("__debug__" : Str)) = false := by decide) (hcd : (nm == ("__classdict__" : Str)) = false := by decide)
    (hb : attributeBase (.Name nm p1) "name" X.env (eval (.Name nm p1) X.env) = eval (.Name nm p1) X.env := by rfl) :
    SuiteOk X N n Cs (.Return (some (.Compare (.Attribute (.Name nm p1) "name" p2) [.Eq] [.Constant (.str w) j p3] p4)) pos :: rest) z M' rt := fun a dd P' H' σ' oe pn D hh x ha hl hz hf k => by
  have l : n < X.N.length := (List.getElem?_eq_some_iff.mp hi).1
  refine ss_of (pss_cons (ps_ret (pe_cmpR op_eq (pe_ename T hz hf (pe_var (i := n) hi hv hd hcd) hb) pe_str (nomark _))) pss_w) ?_
  refine ⟨.ref a, List.getElem?_set_self (by omega), rfl, rfl, dd, .str z, rfl, x, rfl, ?_⟩
  refine k (dB (decide (z = w))) M' _ H' P' h (Ex.refl _) hh ?_
  have e : decide (V.str z = V.str w) = decide (z = w) := by
    by_cases q : z = w
    · subst q; simp
    · simp [q]
  show Dn P' (.bl (decide (V.str z = V.str w))) (.bool (decide (z = w)))
  rw [e]
  exact .bl _
/-- return e.name -/
theorem suite_name (n : Nat) {nm z : Str} {p1 p2 : Pos} {rest : List Stmt} {rt : It → Mem → Prop} (T : ErrTxt X.K X.mg sI Cs C0 fI fd) (h : rt (.d (.str z)) M') (hi : X.N[n]? = some nm := by rfl) (hv : Vis X.env.scope nm := by exact Or.inl rfl) (hd : (nm == ("__debug__" : Str)) = false := by decide) (hcd : (nm == ("__classdict__" : Str)) = false := by decide)
    (hb : attributeBase (.Name nm p1) "name" X.env (eval (.Name nm p1) X.env) = eval (.Name nm p1) X.env := by rfl) :
    SuiteOk X N n Cs (.Return (some (.Attribute (.Name nm p1) "name" p2)) pos :: rest) z M' rt := fun a dd P' H' σ' oe pn D hh x ha hl hz hf k => by
  have l : n < X.N.length := (List.getElem?_eq_some_iff.mp hi).1
  refine ss_of (pss_cons (ps_ret (pe_ename T hz hf (pe_var (i := n) hi hv hd hcd) hb)) pss_w) ?_
  refine ⟨.ref a, List.getElem?_set_self (by omega), rfl, rfl, dd, .str z, rfl, x, ?_⟩
  exact k (.d (.str z)) M' _ H' P' h (Ex.refl _) hh (.str z)
end
end Kt

/-! Kt7: kinds, concatenation, slices, filters, the script as a source. -/
namespace Kt
open PySem PySem.Spec PyProof.Rows L2

namespace HT
theorem seqIx (n m : Nat) (h : n < m) : seqIndex? (n : Int) m = some n := (L2.ixN_seq (by unfold L2.ixN; rw [if_pos (by omega), if_pos (by omega)]; simp)).1
end HT
theorem RepIs.erase {P : Hp} : ∀ {vs : List V} {is : List It} (n : Nat), RepIs P vs is → RepIs P (vs.eraseIdx n) (is.eraseIdx n)
  | [], [], _, _ => trivial
  | _ :: _, _ :: _, 0, h => h.2
  | _ :: _, _ :: _, n + 1, h => ⟨h.1, RepIs.erase n h.2⟩
  | [], _ :: _, _, h => h.elim
  | _ :: _, [], _, h => h.elim
section
variable {X : Cx} {N : Ent} {ρ ρ' : Rho} {M M1 M2 M3 M' Mc Mr Mc' : Mem} {a b c e : Expr} {pos : Pos} {i j k : It} {t u : Bool} {Z : Post} {body rest : List Stmt} {tg iter : Expr}
def wBT (X : Cx) (scope : Scope) (e : Expr) : TT := fun σ H Q => ∀ s H0 C cl fp, wT (X.blk s H0 scope (compEnvC scope cl C X.env) fp) e σ H Q
/-- (the reading) [e for x in a list-like source] -/
theorem lj_compS {x0 : It} {elt : Expr} {scope : Scope} (n : Nat) {ds : List PyData} (A : Nat → List It) (Mi : Nat → Mem) (hc : X.calm = true) (hN : X.N.Nodup) (hi : EJ X N ρ M iter x0 M1) (src : ∀ v P, RepI P v x0 → ∃ a xs, v = .ref a ∧ SqL X.K P a xs ∧ DnAll P xs ds)
    (hA0 : A 0 = []) (hM0 : Mi 0 = M1) (hz : ds.length ≤ 100000)
    (step : ∀ (m : Nat) d, ds[m]? = some d → ∃ j, A (m + 1) = A m ++ [j] ∧ (A m).length ≤ m ∧ ∀ N' s H C cl fp, EJ (X.blk s H scope (compEnvC scope cl C X.env) fp) N' (ρ.set n (some (.d d))) (Mi m) elt j (Mi (m + 1)))
    : LJ X N ρ M (tLc (iList X.K (wE X iter)) (gName n) tYes (wBE X scope elt) [n]) (A ds.length) (Mi ds.length) := fun σ H P hh g Q q => by
  refine (hi σ H P hh g _ fun v H1 P1 e1 h1 r1 => ?_)
  obtain ⟨a, xs, rfl, x1, x2⟩ := src _ _ r1
  have xl := dnAll_len x2
  refine ⟨a, rfl, ⟨xs, ex_l h1.ex x1⟩, fun D hD => lc_list (xs := xs) (fun m H' => ∃ P', Holds N P' H' (Mi m ++ [(D, A m)]) ∧ Ex P1 P') ⟨P1, by rw [hA0, hM0]; exact h1.own hD (its := []) trivial, Ex.refl _⟩ (fun m H' _ hw => ?_) (fun m x' H' hx hw => ?_) (fun H' hw => ?_)⟩
  · obtain ⟨P', h2, e2⟩ := hw
    exact ex_l h2.ex (ex_l e2 x1)
  · obtain ⟨P', h2, e2⟩ := hw
    have nl : m < ds.length := xl ▸ (List.getElem?_eq_some_iff.mp hx).1
    obtain ⟨v', ev, dv⟩ := dnAll_get x2 (List.getElem?_eq_getElem nl)
    rw [hx] at ev
    cases Option.some.inj ev
    obtain ⟨j, eA, lA, S⟩ := step m _ (List.getElem?_eq_getElem nl)
    refine ⟨wipe_comp n, ?_⟩
    unfold tYes
    dsimp only
    rw [if_pos rfl]
    intro s H0 C cl fp
    refine S (inner P' H' (Mi m)) s H0 C cl fp _ H' P' h2.enter (slots_comp (g.ex (e1.trans e2)) n (dn_ex e2 _ _ dv)) _ fun y H4 P4 e4 h4 r4 => ?_
    have h5 := h2.leave h4
    obtain ⟨acc, ea, ra⟩ := h5.cell (a := D) (its := A m) (List.mem_append_right _ (List.mem_singleton.mpr rfl))
    refine ⟨acc, ea, by rw [ra.len]; exact Nat.lt_of_lt_of_le (Nat.lt_of_le_of_lt lA (Nat.lt_of_lt_of_le nl hz)) (by decide), P4, ?_, e2.trans e4⟩
    have h6 := h5.write (a := D) (its := A m) (its' := A (m + 1)) (List.mem_append_right _ (List.mem_singleton.mpr rfl)) (xs' := acc ++ [y]) (by rw [eA]; exact ra.app ⟨r4, trivial⟩)
    rw [put_last h5.nd] at h6
    exact h6
  · obtain ⟨P', h2, e2⟩ := hw
    rw [xl] at h2
    exact q D H' P' (e1.trans e2) (h1.newF hD) h2
/-- [e for x in a list-like source] -/
theorem el_compS {x0 : It} {elt : Expr} {x : Str} {p : Pos} {scope : Scope} (n : Nat) {ds : List PyData} (A : Nat → List It) (Mi : Nat → Mem) (hc : X.calm = true) (hN : X.N.Nodup) (hi : EJ X N ρ M iter x0 M1) (src : ∀ v P, RepI P v x0 → ∃ a xs, v = .ref a ∧ SqL X.K P a xs ∧ DnAll P xs ds)
    (hA0 : A 0 = []) (hM0 : Mi 0 = M1) (hz : ds.length ≤ 100000)
    (step : ∀ (m : Nat) d, ds[m]? = some d → ∃ j, A (m + 1) = A m ++ [j] ∧ (A m).length ≤ m ∧ ∀ N' s H C cl fp, EJ (X.blk s H scope (compEnvC scope cl C X.env) fp) N' (ρ.set n (some (.d d))) (Mi m) elt j (Mi (m + 1)))
    (ok : BlkOk X.N X.env.scope scope [(x, n)] := by exact blkOk_by (by kernel_rfl))
    (hgn : ∀ (s : Shared) (H : Hp) (C : Addr) (cl : List (Str × Addr)) (fp : List Addr), PG (X.blk s H scope (compEnvC scope cl C X.env) fp) (.Name x p) (gName n) := by exact fun _ _ _ _ _ => pg_name (by assumption) rfl (Or.inl rfl))
    (hf : ∀ x, foldedSetIterable iter X.env x = pure x := by intro _; rfl) : EL X N ρ M (.ListComp elt [⟨.Name x p, iter, [], 0⟩] scope pos) (A ds.length) (Mi ds.length) :=
  el_lc (lj_compS n A Mi hc hN hi src hA0 hM0 hz step) (pe_lc hc hN (pi_list pe_w) ok hgn (fun _ _ _ _ _ => pts_nil) (te := wBE X scope elt) (fun s H C cl fp => ⟨fun pins s1 σ1 H1 Q1 I1 h1 => h1 s H C cl fp pins s1 I1⟩) hf)
theorem sj_setcompS (n' : Nat) {y : Str} {py spos : Pos} {Z : Post} {rest : List Stmt} {x0 : It} {elt : Expr} {x : Str} {p : Pos} {scope : Scope} (n : Nat) {ds : List PyData} (A : Nat → List It) (Mi : Nat → Mem) (hc : X.calm = true) (hN : X.N.Nodup) (hi : EJ X N ρ M iter x0 M1) (src : ∀ v P, RepI P v x0 → ∃ a xs, v = .ref a ∧ SqL X.K P a xs ∧ DnAll P xs ds)
    (hA0 : A 0 = []) (hM0 : Mi 0 = M1) (hz : ds.length ≤ 100000)
    (step : ∀ (m : Nat) d, ds[m]? = some d → ∃ j, A (m + 1) = A m ++ [j] ∧ (A m).length ≤ m ∧ ∀ N' s H C cl fp, EJ (X.blk s H scope (compEnvC scope cl C X.env) fp) N' (ρ.set n (some (.d d))) (Mi m) elt j (Mi (m + 1)))
    (hr : ∀ p, p ∉ N.F → SJ X N (ρ.set n' (some (.v (.ref p)))) (Mi ds.length ++ [(p, A ds.length)]) rest Z)
    (hy : X.N[n']? = some y := by rfl) (hyl : X.env.scope.names.lookup y = some .local := by rfl)
    (hsw : swapsWith (.ListComp elt [⟨.Name x p, iter, [], 0⟩] scope pos) (some (.Name y py)) spos.line X.env = pure true := by exact sw_true rfl rfl rfl (by kernel_rfl))
    (ok : BlkOk X.N X.env.scope scope [(x, n)] := by exact blkOk_by (by kernel_rfl))
    (hgn : ∀ (s : Shared) (H : Hp) (C : Addr) (cl : List (Str × Addr)) (fp : List Addr), PG (X.blk s H scope (compEnvC scope cl C X.env) fp) (.Name x p) (gName n) := by exact fun _ _ _ _ _ => pg_name (by assumption) rfl (Or.inl rfl))
    (hf : ∀ x, foldedSetIterable iter X.env x = pure x := by intro _; rfl) : SJ X N ρ M (.Assign [.Name y py] (.ListComp elt [⟨.Name x p, iter, [], 0⟩] scope pos) spos :: rest) Z :=
  sj_lc n' (lj_compS n A Mi hc hN hi src hA0 hM0 hz step) (ps_setLc (i := n') (y := y) (py := py) (spos := spos) hc hN hy hyl hsw (pi_list pe_w) ok hgn (fun _ _ _ _ _ => pts_nil) (te := wBE X scope elt) (fun s H C cl fp => ⟨fun pins s1 σ1 H1 Q1 I1 h1 => h1 s H C cl fp pins s1 I1⟩) hf) hr
/-- (the reading) [e for x in a list of data if c] -/
theorem lj_compF {cnd : Expr} {elt : Expr} {scope : Scope} (n : Nat) {ds : List PyData} (A : Nat → List It) (Mi : Nat → Mem) (hc : X.calm = true) (hN : X.N.Nodup) (hi : (EJ X N ρ M iter (.d (.list ds)) M1))
    (hA0 : A 0 = []) (hM0 : Mi 0 = M1) (hz : ds.length ≤ 100000)
    (step : ∀ (m : Nat) d, ds[m]? = some d → ∃ t Mm, (∀ N' s H C cl fp, TJ (X.blk s H scope (compEnvC scope cl C X.env) fp) N' (ρ.set n (some (.d d))) (Mi m) cnd t Mm) ∧ (A m).length ≤ m ∧
      (t = true → ∃ j, A (m + 1) = A m ++ [j] ∧ ∀ N' s H C cl fp, EJ (X.blk s H scope (compEnvC scope cl C X.env) fp) N' (ρ.set n (some (.d d))) Mm elt j (Mi (m + 1))) ∧ (t = false → A (m + 1) = A m ∧ Mi (m + 1) = Mm))
    : LJ X N ρ M (tLc (iList X.K (wE X iter)) (gName n) (wBT X scope cnd) (wBE X scope elt) [n]) (A ds.length) (Mi ds.length) := fun σ H P hh g Q q => by
  refine (hi σ H P hh g _ fun v H1 P1 e1 h1 r1 => ?_)
  obtain ⟨a, xs, rfl, x1, x2⟩ := ri_lst r1
  have xl := dnAll_len x2
  refine ⟨a, rfl, ⟨xs, .inl (.inl (h1.ex _ _ x1))⟩, fun D hD => lc_list (xs := xs) (fun m H' => ∃ P', Holds N P' H' (Mi m ++ [(D, A m)]) ∧ Ex P1 P') ⟨P1, by rw [hA0, hM0]; exact h1.own hD (its := []) trivial, Ex.refl _⟩ (fun m H' _ hw => ?_) (fun m x' H' hx hw => ?_) (fun H' hw => ?_)⟩
  · obtain ⟨P', h2, e2⟩ := hw
    exact .inl (.inl (h2.ex _ _ (e2 _ _ x1)))
  · obtain ⟨P', h2, e2⟩ := hw
    have nl : m < ds.length := xl ▸ (List.getElem?_eq_some_iff.mp hx).1
    obtain ⟨v', ev, dv⟩ := dnAll_get x2 (List.getElem?_eq_getElem nl)
    rw [hx] at ev
    cases Option.some.inj ev
    obtain ⟨t, Mm, T, lA, S1, S2⟩ := step m _ (List.getElem?_eq_getElem nl)
    refine ⟨wipe_comp n, ?_⟩
    intro s H0 C cl fp
    have gs := slots_comp (g.ex (e1.trans e2)) n (i := .d ds[m]) (dn_ex e2 _ _ dv)
    refine T (inner P' H' (Mi m)) s H0 C cl fp _ H' P' h2.enter gs _ fun H3 P3 e3 h3 => ?_
    cases t with
    | true =>
      obtain ⟨j, eA, S⟩ := S1 rfl
      rw [if_pos rfl]
      intro s H0 C cl fp
      refine S (inner P' H' (Mi m)) s H0 C cl fp _ H3 P3 h3 (gs.ex e3) _ fun y H4 P4 e4 h4 r4 => ?_
      have h5 := h2.leave h4
      obtain ⟨acc, ea, ra⟩ := h5.cell (a := D) (its := A m) (List.mem_append_right _ (List.mem_singleton.mpr rfl))
      refine ⟨acc, ea, by rw [ra.len]; exact Nat.lt_of_lt_of_le (Nat.lt_of_le_of_lt lA (Nat.lt_of_lt_of_le nl hz)) (by decide), P4, ?_, (e2.trans e3).trans e4⟩
      have h6 := h5.write (a := D) (its := A m) (its' := A (m + 1)) (List.mem_append_right _ (List.mem_singleton.mpr rfl)) (xs' := acc ++ [y]) (by rw [eA]; exact ra.app ⟨r4, trivial⟩)
      rw [put_last h5.nd] at h6
      exact h6
    | false =>
      obtain ⟨eA, eM⟩ := S2 rfl
      rw [if_neg Bool.false_ne_true]
      refine ⟨P3, ?_, e2.trans e3⟩
      rw [eA, eM]
      exact h2.leave h3
  · obtain ⟨P', h2, e2⟩ := hw
    rw [xl] at h2
    exact q D H' P' (e1.trans e2) (h1.newF hD) h2
/-- [e for x in a list of data if c] -/
theorem el_compF {cnd : Expr} {elt : Expr} {x : Str} {p : Pos} {scope : Scope} (n : Nat) {ds : List PyData} (A : Nat → List It) (Mi : Nat → Mem) (hc : X.calm = true) (hN : X.N.Nodup) (hi : (EJ X N ρ M iter (.d (.list ds)) M1))
    (hA0 : A 0 = []) (hM0 : Mi 0 = M1) (hz : ds.length ≤ 100000)
    (step : ∀ (m : Nat) d, ds[m]? = some d → ∃ t Mm, (∀ N' s H C cl fp, TJ (X.blk s H scope (compEnvC scope cl C X.env) fp) N' (ρ.set n (some (.d d))) (Mi m) cnd t Mm) ∧ (A m).length ≤ m ∧
      (t = true → ∃ j, A (m + 1) = A m ++ [j] ∧ ∀ N' s H C cl fp, EJ (X.blk s H scope (compEnvC scope cl C X.env) fp) N' (ρ.set n (some (.d d))) Mm elt j (Mi (m + 1))) ∧ (t = false → A (m + 1) = A m ∧ Mi (m + 1) = Mm))
    (ok : BlkOk X.N X.env.scope scope [(x, n)] := by exact blkOk_by (by kernel_rfl))
    (hgn : ∀ (s : Shared) (H : Hp) (C : Addr) (cl : List (Str × Addr)) (fp : List Addr), PG (X.blk s H scope (compEnvC scope cl C X.env) fp) (.Name x p) (gName n) := by exact fun _ _ _ _ _ => pg_name (by assumption) rfl (Or.inl rfl))
    (hf : ∀ x, foldedSetIterable iter X.env x = pure x := by intro _; rfl) : EL X N ρ M (.ListComp elt [⟨.Name x p, iter, [cnd], 0⟩] scope pos) (A ds.length) (Mi ds.length) :=
  el_lc (lj_compF n A Mi hc hN hi hA0 hM0 hz step) (pe_lc hc hN (pi_list pe_w) ok hgn (tt := wBT X scope cnd) (fun s H C cl fp => pts_one ⟨fun pins s1 σ1 H1 Q1 I1 h1 => h1 s H C cl fp pins s1 I1⟩) (te := wBE X scope elt) (fun s H C cl fp => ⟨fun pins s1 σ1 H1 Q1 I1 h1 => h1 s H C cl fp pins s1 I1⟩) hf)
theorem sj_setcompF (n' : Nat) {y : Str} {py spos : Pos} {Z : Post} {rest : List Stmt} {cnd : Expr} {elt : Expr} {x : Str} {p : Pos} {scope : Scope} (n : Nat) {ds : List PyData} (A : Nat → List It) (Mi : Nat → Mem) (hc : X.calm = true) (hN : X.N.Nodup) (hi : (EJ X N ρ M iter (.d (.list ds)) M1))
    (hA0 : A 0 = []) (hM0 : Mi 0 = M1) (hz : ds.length ≤ 100000)
    (step : ∀ (m : Nat) d, ds[m]? = some d → ∃ t Mm, (∀ N' s H C cl fp, TJ (X.blk s H scope (compEnvC scope cl C X.env) fp) N' (ρ.set n (some (.d d))) (Mi m) cnd t Mm) ∧ (A m).length ≤ m ∧
      (t = true → ∃ j, A (m + 1) = A m ++ [j] ∧ ∀ N' s H C cl fp, EJ (X.blk s H scope (compEnvC scope cl C X.env) fp) N' (ρ.set n (some (.d d))) Mm elt j (Mi (m + 1))) ∧ (t = false → A (m + 1) = A m ∧ Mi (m + 1) = Mm))
    (hr : ∀ p, p ∉ N.F → SJ X N (ρ.set n' (some (.v (.ref p)))) (Mi ds.length ++ [(p, A ds.length)]) rest Z)
    (hy : X.N[n']? = some y := by rfl) (hyl : X.env.scope.names.lookup y = some .local := by rfl)
    (hsw : swapsWith (.ListComp elt [⟨.Name x p, iter, [cnd], 0⟩] scope pos) (some (.Name y py)) spos.line X.env = pure true := by exact sw_true rfl rfl rfl (by kernel_rfl))
    (ok : BlkOk X.N X.env.scope scope [(x, n)] := by exact blkOk_by (by kernel_rfl))
    (hgn : ∀ (s : Shared) (H : Hp) (C : Addr) (cl : List (Str × Addr)) (fp : List Addr), PG (X.blk s H scope (compEnvC scope cl C X.env) fp) (.Name x p) (gName n) := by exact fun _ _ _ _ _ => pg_name (by assumption) rfl (Or.inl rfl))
    (hf : ∀ x, foldedSetIterable iter X.env x = pure x := by intro _; rfl) : SJ X N ρ M (.Assign [.Name y py] (.ListComp elt [⟨.Name x p, iter, [cnd], 0⟩] scope pos) spos :: rest) Z :=
  sj_lc n' (lj_compF n A Mi hc hN hi hA0 hM0 hz step) (ps_setLc (i := n') (y := y) (py := py) (spos := spos) hc hN hy hyl hsw (pi_list pe_w) ok hgn (tt := wBT X scope cnd) (fun s H C cl fp => pts_one ⟨fun pins s1 σ1 H1 Q1 I1 h1 => h1 s H C cl fp pins s1 I1⟩) (te := wBE X scope elt) (fun s H C cl fp => ⟨fun pins s1 σ1 H1 Q1 I1 h1 => h1 s H C cl fp pins s1 I1⟩) hf) hr
/-- (the reading) [e for x in range(n) if c] -/
theorem lj_compRF {cnd : Expr} {elt : Expr} {scope : Scope} (n : Nat) {z : Int} (A : Nat → List It) (Mi : Nat → Mem) (hc : X.calm = true) (hmr : X.mg "range" = none) (hN : X.N.Nodup) (hi : EJ X N ρ M a (dI z) M1)
    (hA0 : A 0 = []) (hM0 : Mi 0 = M1) (hz : z ≤ 100000 ∧ -(2 ^ 62) ≤ z)
    (step : ∀ (m : Nat), m < z.toNat → ∃ t Mm, (∀ N' s H C cl fp, TJ (X.blk s H scope (compEnvC scope cl C X.env) fp) N' (ρ.set n (some (dI (m : Int)))) (Mi m) cnd t Mm) ∧ (A m).length ≤ m ∧
      (t = true → ∃ j, A (m + 1) = A m ++ [j] ∧ ∀ N' s H C cl fp, EJ (X.blk s H scope (compEnvC scope cl C X.env) fp) N' (ρ.set n (some (dI (m : Int)))) Mm elt j (Mi (m + 1))) ∧ (t = false → A (m + 1) = A m ∧ Mi (m + 1) = Mm))
    (hs : starEach [a] X.env = [(false, eval a X.env)] := by rfl)
    : LJ X N ρ M (tLc (iRng1 (wA X [a])) (gName n) (wBT X scope cnd) (wBE X scope elt) [n]) (A z.toNat) (Mi z.toNat) := fun σ H P hh g Q q => by
  refine (aj_cons hi aj_nil hs σ H P hh g _ fun vs H1 P1 e1 h1 r1 => ?_)
  obtain ⟨x', rfl, r2⟩ := ri1 r1
  cases ri_int r2
  refine ⟨z, rfl, hz.2, by omega, fun D hD => lc_range (lo := 0) (n := z.toNat) (fun m H' => ∃ P', Holds N P' H' (Mi m ++ [(D, A m)]) ∧ Ex P1 P') ⟨P1, by rw [hA0, hM0]; exact h1.own hD (its := []) trivial, Ex.refl _⟩ (fun m H' nl hw => ?_) (fun H' hw => ?_)⟩
  · obtain ⟨P', h2, e2⟩ := hw
    obtain ⟨t, Mm, T, lA, S1, S2⟩ := step m nl
    refine ⟨wipe_comp n, ?_⟩
    intro s H0 C cl fp
    have gs := slots_comp (v := .int (0 + (m : Int))) (g.ex (e1.trans e2)) n (i := dI (m : Int)) (by rw [Int.zero_add]; exact .int _)
    refine T (inner P' H' (Mi m)) s H0 C cl fp _ H' P' h2.enter gs _ fun H3 P3 e3 h3 => ?_
    cases t with
    | true =>
      obtain ⟨j, eA, S⟩ := S1 rfl
      rw [if_pos rfl]
      intro s H0 C cl fp
      refine S (inner P' H' (Mi m)) s H0 C cl fp _ H3 P3 h3 (gs.ex e3) _ fun y H4 P4 e4 h4 r4 => ?_
      have h5 := h2.leave h4
      obtain ⟨acc, ea, ra⟩ := h5.cell (a := D) (its := A m) (List.mem_append_right _ (List.mem_singleton.mpr rfl))
      refine ⟨acc, ea, by rw [ra.len]; exact Nat.lt_of_lt_of_le (Nat.lt_of_le_of_lt lA (by omega : m < 100000)) (by decide), P4, ?_, (e2.trans e3).trans e4⟩
      have h6 := h5.write (a := D) (its := A m) (its' := A (m + 1)) (List.mem_append_right _ (List.mem_singleton.mpr rfl)) (xs' := acc ++ [y]) (by rw [eA]; exact ra.app ⟨r4, trivial⟩)
      rw [put_last h5.nd] at h6
      exact h6
    | false =>
      obtain ⟨eA, eM⟩ := S2 rfl
      rw [if_neg Bool.false_ne_true]
      refine ⟨P3, ?_, e2.trans e3⟩
      rw [eA, eM]
      exact h2.leave h3
  · obtain ⟨P', h2, e2⟩ := hw
    exact q D H' P' (e1.trans e2) (h1.newF hD) h2
/-- [e for x in range(n) if c] -/
theorem el_compRF {cnd : Expr} {elt : Expr} {x : Str} {p rpp rp : Pos} {scope : Scope} (n : Nat) {z : Int} (A : Nat → List It) (Mi : Nat → Mem) (hc : X.calm = true) (hmr : X.mg "range" = none) (hN : X.N.Nodup) (hi : EJ X N ρ M a (dI z) M1)
    (hA0 : A 0 = []) (hM0 : Mi 0 = M1) (hz : z ≤ 100000 ∧ -(2 ^ 62) ≤ z)
    (step : ∀ (m : Nat), m < z.toNat → ∃ t Mm, (∀ N' s H C cl fp, TJ (X.blk s H scope (compEnvC scope cl C X.env) fp) N' (ρ.set n (some (dI (m : Int)))) (Mi m) cnd t Mm) ∧ (A m).length ≤ m ∧
      (t = true → ∃ j, A (m + 1) = A m ++ [j] ∧ ∀ N' s H C cl fp, EJ (X.blk s H scope (compEnvC scope cl C X.env) fp) N' (ρ.set n (some (dI (m : Int)))) Mm elt j (Mi (m + 1))) ∧ (t = false → A (m + 1) = A m ∧ Mi (m + 1) = Mm))
    (ok : BlkOk X.N X.env.scope scope [(x, n)] := by exact blkOk_by (by kernel_rfl))
    (hgn : ∀ (s : Shared) (H : Hp) (C : Addr) (cl : List (Str × Addr)) (fp : List Addr), PG (X.blk s H scope (compEnvC scope cl C X.env) fp) (.Name x p) (gName n) := by exact fun _ _ _ _ _ => pg_name (by assumption) rfl (Or.inl rfl))
    (hg : Gl X "range" := by rfl) (hs : starEach [a] X.env = [(false, eval a X.env)] := by rfl)
    (hf : ∀ x, foldedSetIterable (.Call (.Name "range" rpp) [a] [] rp) X.env x = pure x := by intro _; rfl) : EL X N ρ M (.ListComp elt [⟨.Name x p, .Call (.Name "range" rpp) [a] [] rp, [cnd], 0⟩] scope pos) (A z.toNat) (Mi z.toNat) :=
  el_lc (lj_compRF n A Mi hc hmr hN hi hA0 hM0 hz step hs) (pe_lc hc hN (pi_range1 hg hmr pa_w hs) ok hgn (tt := wBT X scope cnd) (fun s H C cl fp => pts_one ⟨fun pins s1 σ1 H1 Q1 I1 h1 => h1 s H C cl fp pins s1 I1⟩) (te := wBE X scope elt) (fun s H C cl fp => ⟨fun pins s1 σ1 H1 Q1 I1 h1 => h1 s H C cl fp pins s1 I1⟩) hf)
theorem sj_setcompRF (n' : Nat) {y : Str} {py spos : Pos} {Z : Post} {rest : List Stmt} {cnd : Expr} {elt : Expr} {x : Str} {p rpp rp : Pos} {scope : Scope} (n : Nat) {z : Int} (A : Nat → List It) (Mi : Nat → Mem) (hc : X.calm = true) (hmr : X.mg "range" = none) (hN : X.N.Nodup) (hi : EJ X N ρ M a (dI z) M1)
    (hA0 : A 0 = []) (hM0 : Mi 0 = M1) (hz : z ≤ 100000 ∧ -(2 ^ 62) ≤ z)
    (step : ∀ (m : Nat), m < z.toNat → ∃ t Mm, (∀ N' s H C cl fp, TJ (X.blk s H scope (compEnvC scope cl C X.env) fp) N' (ρ.set n (some (dI (m : Int)))) (Mi m) cnd t Mm) ∧ (A m).length ≤ m ∧
      (t = true → ∃ j, A (m + 1) = A m ++ [j] ∧ ∀ N' s H C cl fp, EJ (X.blk s H scope (compEnvC scope cl C X.env) fp) N' (ρ.set n (some (dI (m : Int)))) Mm elt j (Mi (m + 1))) ∧ (t = false → A (m + 1) = A m ∧ Mi (m + 1) = Mm))
    (hr : ∀ p, p ∉ N.F → SJ X N (ρ.set n' (some (.v (.ref p)))) (Mi z.toNat ++ [(p, A z.toNat)]) rest Z)
    (hy : X.N[n']? = some y := by rfl) (hyl : X.env.scope.names.lookup y = some .local := by rfl)
    (hsw : swapsWith (.ListComp elt [⟨.Name x p, .Call (.Name "range" rpp) [a] [] rp, [cnd], 0⟩] scope pos) (some (.Name y py)) spos.line X.env = pure true := by exact sw_true rfl rfl rfl (by kernel_rfl))
    (ok : BlkOk X.N X.env.scope scope [(x, n)] := by exact blkOk_by (by kernel_rfl))
    (hgn : ∀ (s : Shared) (H : Hp) (C : Addr) (cl : List (Str × Addr)) (fp : List Addr), PG (X.blk s H scope (compEnvC scope cl C X.env) fp) (.Name x p) (gName n) := by exact fun _ _ _ _ _ => pg_name (by assumption) rfl (Or.inl rfl))
    (hg : Gl X "range" := by rfl) (hs : starEach [a] X.env = [(false, eval a X.env)] := by rfl)
    (hf : ∀ x, foldedSetIterable (.Call (.Name "range" rpp) [a] [] rp) X.env x = pure x := by intro _; rfl) : SJ X N ρ M (.Assign [.Name y py] (.ListComp elt [⟨.Name x p, .Call (.Name "range" rpp) [a] [] rp, [cnd], 0⟩] scope pos) spos :: rest) Z :=
  sj_lc n' (lj_compRF n A Mi hc hmr hN hi hA0 hM0 hz step hs) (ps_setLc (i := n') (y := y) (py := py) (spos := spos) hc hN hy hyl hsw (pi_range1 hg hmr pa_w hs) ok hgn (tt := wBT X scope cnd) (fun s H C cl fp => pts_one ⟨fun pins s1 σ1 H1 Q1 I1 h1 => h1 s H C cl fp pins s1 I1⟩) (te := wBE X scope elt) (fun s H C cl fp => ⟨fun pins s1 σ1 H1 Q1 I1 h1 => h1 s H C cl fp pins s1 I1⟩) hf) hr
theorem sj_forS {x0 : It} {ds : List PyData} (hc : X.calm = true) (hi : EJ X N ρ M iter x0 M1) (src : ∀ v P, RepI P v x0 → ∃ a xs, v = .ref a ∧ SqL X.K P a xs ∧ DnAll P xs ds) (Inv : Nat → Rho → Mem → Prop) (h0 : Inv 0 ρ M1)
    (step : ∀ n d ρ' M', ds[n]? = some d → Inv n ρ' M' → ∃ ρ2, GJ X N tg (.d d) ρ' ρ2 ∧ SJ X N ρ2 M' body { nx := Inv (n + 1), ct := Inv (n + 1), bk := fun ρ' M' => SJ X N ρ' M' rest Z, rt := Z.rt, er := Z.er })
    (done : ∀ ρ' M', Inv ds.length ρ' M' → SJ X N ρ' M' rest Z) (hp : PassesOwn (model X.prog X.w) X.A X.env X.xe := by exact PassesOwn.never) (hf : ∀ x, foldedSetIterable iter X.env x = pure x := by intro _; rfl) : SJ X N ρ M (.For tg iter body [] pos :: rest) Z := sj_cons fun σ H P hh g D E tk z => by
  refine s_of (ps_for hp hc (pi_list pe_w) pg_w pss_w hf) (hi σ H P hh g _ fun v H1 P1 e1 h1 r1 => ?_)
  obtain ⟨a, xs, rfl, x1, x2⟩ := src _ _ r1
  have xl := dnAll_len x2
  refine ⟨a, rfl, ⟨xs, ex_l h1.ex x1⟩, for_list (xs := xs) (fun n σ' H' => ∃ ρ' M' P', Inv n ρ' M' ∧ Holds N P' H' M' ∧ Slots P' σ' ρ' ∧ Ex P1 P') ⟨ρ, M1, P1, h0, h1, g.ex e1, Ex.refl _⟩ (fun n σ' H' _ hw => ?_) (fun n x σ' H' hx hw => ?_) (fun σ' H' hw => ?_)⟩
  · obtain ⟨ρ', M', P', _, h2, _, e2⟩ := hw
    exact ex_l h2.ex (ex_l e2 x1)
  · obtain ⟨ρ', M', P', w, h2, g2, e2⟩ := hw
    have nl : n < ds.length := xl ▸ (List.getElem?_eq_some_iff.mp hx).1
    obtain ⟨v', ev, dv⟩ := dnAll_get x2 (List.getElem?_eq_getElem nl)
    rw [hx] at ev
    cases Option.some.inj ev
    obtain ⟨ρ2, G, S⟩ := step n _ ρ' M' (List.getElem?_eq_getElem nl) w
    refine G x σ' H' P' M' h2 g2 (dn_ex e2 _ _ dv) _ fun σ2 g3 => ?_
    refine S σ2 H' P' h2 g3 _ E tk ⟨fun ρ4 M4 σ4 H4 P4 a e h g => ⟨ρ4, M4, P4, a, h, g, e2.trans e⟩, fun i M4 v H4 P4 a e h r => z.rt i M4 v H4 P4 a ((e1.trans e2).trans e) h r, fun ρ4 M4 σ4 H4 P4 a e h g => z.nx ρ4 M4 σ4 H4 P4 a ((e1.trans e2).trans e) h g, fun ρ4 M4 σ4 H4 P4 a e h g => ⟨ρ4, M4, P4, a, h, g, e2.trans e⟩, fun w M4 d H4 P4 C c a e h x => z.er w M4 d H4 P4 C c a ((e1.trans e2).trans e) h x⟩
  · obtain ⟨ρ', M', P', w, h2, g2, e2⟩ := hw
    rw [xl] at w
    exact z.nx ρ' M' σ' H' P' (done ρ' M' w) (e1.trans e2) h2 g2

/-- the script -/
def scr (K : PySem.W.Frag) (a : Addr) (ns : List Int) : It := .m (.ref a) (fun P => SqL K P a (ns.map V.int)) fun _ _ e h => ex_l e h
theorem dn_ints {P : Hp} : ∀ ns : List Int, DnAll P (ns.map V.int) (ns.map PyData.int)
  | [] => .nil
  | n :: r => .cons (.int n) (dn_ints r)
theorem scr_src {K : PySem.W.Frag} {a : Addr} {ns : List Int} : ∀ v P, RepI P v (scr K a ns) → ∃ a xs, v = .ref a ∧ SqL K P a xs ∧ DnAll P xs (ns.map PyData.int) := fun v P h => ⟨a, _, h.1, h.2, dn_ints ns⟩
theorem sj_nd {sts : List Stmt} (h : (M.map Prod.fst).Nodup → SJ X N ρ M sts Z) : SJ X N ρ M sts Z := fun σ H P hh => h hh.nd σ H P hh
theorem sj_is {sts : List Stmt} (h : SJ X N ρ' M' sts Z) (e1 : ρ = ρ') (e2 : M = M') : SJ X N ρ M sts Z := by
  subst e1 e2
  exact h
theorem ej_m (h : EJ X N ρ M e i M1) (q : M1 = M2) : EJ X N ρ M e i M2 := q ▸ h
/-! kinds -/
def tyD : PyData → String
  | .none => "NoneType"
  | .bool _ => "bool"
  | .int _ => "int"
  | .str _ => "str"
  | .list _ => "list"
  | .tuple _ => "tuple"
  | .dict _ => "dict"
theorem ty_of {K : PySem.W.Frag} {H : Hp} {v : V} {d : PyData} (h : Dn H v d) : TyX K H v (.type (tyD d)) := by
  cases h with
  | non => exact .base .non
  | bl b => exact .base (.bl b)
  | int i => exact .base (.int i)
  | str x => exact .base (.str x)
  | lst e _ => exact .base (.lst e)
  | tup e _ => exact .base (.tup e)
  | dic e _ => exact .base (.dK e)
theorem ej_ty {x : Str} {T : String} (hm : X.mg x = none) (hv : bootBuiltins x = some (.type T)) (hg : Gl X x := by rfl) (hn : x ≠ "__name__" := by decide) (hd : (x == ("__debug__" : Str)) = false := by decide) : EJ X N ρ M (.Name x pos) (.v (.ty T)) M := fun σ H P h g Q q =>
  e_of (pe_bltn (v := .ty T) hg hm hv rfl hn hd) (q _ H P (Ex.refl P) h rfl)
theorem ej_isi {p q : Pos} {d : PyData} {T : String} {r : Bool} (hm : X.mg "isinstance" = none) (ha : EJ X N ρ M a (.d d) M1) (hb : EJ X N ρ M1 b (.v (.ty T)) M2) (hk : kitB (tyD d) T = some r) (hg : Gl X "isinstance" := by rfl) (he : starEach [a, b] X.env = (false, eval a X.env) :: starEach [b] X.env := by rfl)
    (he2 : starEach [b] X.env = [(false, eval b X.env)] := by rfl) (hpl : (backTo q (starEach [b] X.env)).any (·.1) = false := by rfl) : EJ X N ρ M (.Call (.Name "isinstance" p) [a, b] [] q) (dB r) M2 :=
  ej_callB call_isi hm (by decide +kernel) (aj_cons ha (aj_cons hb aj_nil he2) he) (fun vs H P h rr Q q => by
    obtain ⟨x, y, rfl, r1, r2⟩ := ri2 rr
    cases (show y = .ty T from r2)
    exact ⟨x, .ty T, _, _, r, rfl, .ty T, ty_of (dn_ex h.ex d x r1), kit_ty hk, q _ H P (Ex.refl P) h (.bl _)⟩) hg (by decide) (by decide) he hpl
theorem ej_isB (ha : EJ X N ρ M a (dB t) M1) (hb : EJ X N ρ M1 b (dB u) M2) : EJ X N ρ M (.Compare a [.Is] [b] pos) (dB (decide (t = u))) M2 := ej_cmp op_isBl (nomark _) ha hb fun x y H P h rx ry Q q => ⟨t, u, ri_bl rx, ri_bl ry, q _ H P (Ex.refl P) h (.bl _)⟩
theorem tj_isB (ha : EJ X N ρ M a (dB t) M1) (hb : EJ X N ρ M1 b (dB u) M2) : TJ X N ρ M (.Compare a [.Is] [b] pos) (decide (t = u)) M2 := tj_cmp op_isBl (nomark _) ha hb fun x y H P h rx ry Q q => ⟨t, u, ri_bl rx, ri_bl ry, q _ H P (Ex.refl P) h (.bl _)⟩
theorem tj_notB (ha : EJ X N ρ M a (dB t) M1) (hb : EJ X N ρ M1 b (dB u) M2) : TJ X N ρ M (.Compare a [.IsNot] [b] pos) (!decide (t = u)) M2 := tj_cmp op_notBl (nomark _) ha hb fun x y H P h rx ry Q q => ⟨t, u, ri_bl rx, ri_bl ry, q _ H P (Ex.refl P) h (.bl _)⟩
/-! concatenation, repetition, slices -/
theorem rj_catT {ds es : List PyData} (h0 : ds ≠ []) (hz : ds.length + es.length ≤ 100000) : RJ N (rCatT X.K) M (.d (.tuple ds)) (.d (.tuple es)) (.d (.tuple (ds ++ es))) M := fun x y H P h rx ry Q q => by
  obtain ⟨a, xs, rfl, h1, h2⟩ := ri_tup rx
  obtain ⟨b, ys, rfl, h3, h4⟩ := ri_tup ry
  have l1 := dnAll_len h2
  have l2 := dnAll_len h4
  refine ⟨a, b, xs, ys, rfl, rfl, .inl (.inl (h.ex _ _ h1)), .inl (.inl (h.ex _ _ h3)), fun e => h0 ?_, by rw [l1, l2]; exact Nat.le_trans hz (by decide), fun e => ?_, fun _ p hp => ?_⟩
  · rw [e] at l1
    exact List.length_eq_zero_iff.mp l1.symm
  · rw [e] at l2
    have : es = [] := List.length_eq_zero_iff.mp l2.symm
    subst this
    rw [List.append_nil] at q
    exact q _ H P (Ex.refl P) h (.tup h1 h2)
  · obtain ⟨h5, e5⟩ := h.pers (o := .tup (xs ++ ys)) hp
    exact q _ _ _ e5 h5 (.tup upd_same (dnAll_ex e5 _ _ (h2.app h4)))
theorem ej_catT {ds es : List PyData} (ha : EJ X N ρ M a (.d (.tuple ds)) M1) (hb : EJ X N ρ M1 b (.d (.tuple es)) M2) (h0 : ds ≠ []) (hz : ds.length + es.length ≤ 100000) : EJ X N ρ M (.BinOp a .Add b pos) (.d (.tuple (ds ++ es))) M2 := ej_op op_catT ha hb (rj_catT h0 hz)
theorem el_op {op : Operator} {r : R2} {is : List It} (ho : OpR X (binaryOp op) r) (ha : EJ X N ρ M a i M1) (hb : EJ X N ρ M1 b j M2)
    (hr : ∀ x y H P, Holds N P H M2 → RepI P x i → RepI P y j → ∀ Q : VK, (∀ xs, RepIs P xs is → ∀ p, H p = none → Q (.ref p) (upd H p (.lst xs))) → r x y H Q) : EL X N ρ M (.BinOp a op b pos) is M2 := fun σ H P h g Q q =>
  e_of (pe_op ho pe_w pe_w) (ha σ H P h g _ fun x H1 P1 e1 h1 r1 => hb σ H1 P1 h1 (g.ex e1) _ fun y H2 P2 e2 h2 r2 =>
    hr x y H2 P2 h2 (r1.ex e2) r2 Q fun xs rs p hp => q p _ P2 (e1.trans e2) (h2.newF hp) (h2.own hp rs))
theorem el_cat {ds es : List PyData} (ha : EJ X N ρ M a (.d (.list ds)) M1) (hb : EJ X N ρ M1 b (.d (.list es)) M2) (hz : ds.length + es.length ≤ 100000) : EL X N ρ M (.BinOp a .Add b pos) ((ds ++ es).map It.d) M2 :=
  el_op op_cat ha hb fun x y H P h rx ry Q q => by
    obtain ⟨a, xs, rfl, h1, h2⟩ := ri_lst rx
    obtain ⟨b, ys, rfl, h3, h4⟩ := ri_lst ry
    exact ⟨a, b, xs, ys, rfl, rfl, h.ex _ _ h1, h.ex _ _ h3, by rw [dnAll_len h2, dnAll_len h4]; exact Nat.le_trans hz (by decide), fun p hp => q _ (RepIs.of_all (h2.app h4)) p hp⟩
theorem el_rep {ds : List PyData} {n : Int} (ha : EJ X N ρ M a (.d (.list ds)) M1) (hb : EJ X N ρ M1 b (dI n) M2) (h1 : -(2 ^ 63) ≤ n) (h2 : n < 2 ^ 63) (hz : ds.length * n.toNat ≤ 100000) : EL X N ρ M (.BinOp a .Mult b pos) (((List.replicate n.toNat ds).flatten).map It.d) M2 :=
  el_op op_rep ha hb fun x y H P h rx ry Q q => by
    obtain ⟨a, xs, rfl, h3, h4⟩ := ri_lst rx
    exact ⟨a, n, xs, rfl, ri_int ry, h.ex _ _ h3, h1, h2, by rw [dnAll_len h4]; exact Nat.le_trans hz (by decide), fun p hp => q _ (RepIs.of_all (h4.rep _)) p hp⟩
def OJ (X : Cx) (N : Ent) (ρ : Rho) (M : Mem) (e : Option Expr) (o : Option Int) (M' : Mem) : Prop :=
  ∀ σ H P, Holds N P H M → Slots P σ ρ → ∃ to : TO, PO X e to ∧ ∀ Q : Option Int → Hp → Prop, (∀ H' P', Ex P P' → Holds N P' H' M' → Q o H') → to σ H Q
def cutD (ds : List PyData) (lo hi : Option Int) : List PyData := (ds.drop (HT.sIx ds.length 0 lo)).take (HT.sIx ds.length ds.length hi - HT.sIx ds.length 0 lo)
theorem DnAll.cut {P : Hp} {xs : List V} {ds : List PyData} (h : DnAll P xs ds) (lo hi : Option Int) : DnAll P (cutV xs lo hi) (cutD ds lo hi) := by
  unfold cutV cutD
  rw [dnAll_len h]
  exact (h.drop _).take _
/-- t[lo:hi], the parts written ints or none -/
theorem ej_slT {ds : List PyData} {lo hi : Option Expr} {l h : Option Int} {tl th : TO} {p2 : Pos} (ha : EJ X N ρ M a (.d (.tuple ds)) M1) (pl : PO X lo tl) (ph : PO X hi th) (el : ∀ σ H Q, Q l H → tl σ H Q) (eh : ∀ σ H Q, Q h H → th σ H Q)
    (hw : ¬ (HT.sIx ds.length 0 l = 0 ∧ HT.sIx ds.length ds.length h = ds.length)) : EJ X N ρ M (.Subscript a (.Slice lo hi none p2) pos) (.d (.tuple (cutD ds l h))) M1 := fun σ H P hh g Q q =>
  e_of (pe_slice sl_tup pe_w pl ph) (ha σ H P hh g _ fun x H1 P1 e1 h1 r1 => el _ _ _ (eh _ _ _ (by
    obtain ⟨a, xs, rfl, h3, h4⟩ := ri_tup r1
    refine ⟨a, xs, rfl, .inl (.inl (h1.ex _ _ h3)), by rw [dnAll_len h4]; exact hw, fun p hp => ?_⟩
    obtain ⟨h5, e5⟩ := h1.pers (o := .tup (cutV xs l h)) hp
    exact q _ _ _ (e1.trans e5) h5 (.tup upd_same (dnAll_ex e5 _ _ (h4.cut l h))))))
theorem el_slL {ds : List PyData} {lo hi : Option Expr} {l h : Option Int} {tl th : TO} {p2 : Pos} (ha : EJ X N ρ M a (.d (.list ds)) M1) (pl : PO X lo tl) (ph : PO X hi th) (el : ∀ σ H Q, Q l H → tl σ H Q) (eh : ∀ σ H Q, Q h H → th σ H Q) :
    EL X N ρ M (.Subscript a (.Slice lo hi none p2) pos) ((cutD ds l h).map It.d) M1 := fun σ H P hh g Q q =>
  e_of (pe_slice sl_list pe_w pl ph) (ha σ H P hh g _ fun x H1 P1 e1 h1 r1 => el _ _ _ (eh _ _ _ (by
    obtain ⟨a, xs, rfl, h3, h4⟩ := ri_lst r1
    exact ⟨a, xs, rfl, .inl (.inl (h1.ex _ _ h3)), fun p hp => q p _ P1 e1 (h1.newF hp) (h1.own hp (RepIs.of_all (h4.cut l h)))⟩)))
/-- list(t), list(xs) -/
theorem el_listT {p q : Pos} {ds : List PyData} (hm : X.mg "list" = none) (ha : EJ X N ρ M a (.d (.tuple ds)) M1) (hg : Gl X "list" := by rfl) (he : starEach [a] X.env = [(false, eval a X.env)] := by rfl) (hpl : (backTo q (starEach ([] : List Expr) X.env)).any (·.1) = false := by rfl) :
    EL X N ρ M (.Call (.Name "list" p) [a] [] q) (ds.map It.d) M1 := fun σ H P hh g Q k =>
  e_of (pe_callTy call_list_of hg hm (by decide +kernel) pa_w (by decide) (by decide) he hpl) (aj_cons ha aj_nil he σ H P hh g _ fun vs H1 P1 e1 h1 r1 => by
    obtain ⟨x, rfl, r2⟩ := ri1 r1
    obtain ⟨y, ys, rfl, h3, h4⟩ := ri_tup r2
    exact ⟨y, ys, rfl, .inr (.inl (.inl (h1.ex _ _ h3))), fun l hl => k l _ P1 e1 (h1.newF hl) (h1.own hl (RepIs.of_all h4))⟩)
theorem el_listL {p q : Pos} {ds : List PyData} (hm : X.mg "list" = none) (ha : EJ X N ρ M a (.d (.list ds)) M1) (hg : Gl X "list" := by rfl) (he : starEach [a] X.env = [(false, eval a X.env)] := by rfl) (hpl : (backTo q (starEach ([] : List Expr) X.env)).any (·.1) = false := by rfl) :
    EL X N ρ M (.Call (.Name "list" p) [a] [] q) (ds.map It.d) M1 := fun σ H P hh g Q k =>
  e_of (pe_callTy call_list_of hg hm (by decide +kernel) pa_w (by decide) (by decide) he hpl) (aj_cons ha aj_nil he σ H P hh g _ fun vs H1 P1 e1 h1 r1 => by
    obtain ⟨x, rfl, r2⟩ := ri1 r1
    obtain ⟨y, ys, rfl, h3, h4⟩ := ri_lst r2
    exact ⟨y, ys, rfl, .inl (.inl (.inl (h1.ex _ _ h3))), fun l hl => k l _ P1 e1 (h1.newF hl) (h1.own hl (RepIs.of_all h4))⟩)
/-- == of data -/
theorem ej_eqD {d d' : PyData} (hr : X.A.units + 64 < cLine) (ha : EJ X N ρ M a i M1) (hb : EJ X N ρ M1 b j M2) (hi : Rd1 M2 i d) (hj : Rd1 M2 j d') (s1 : plainD d = true) (s2 : plainD d' = true) : EJ X N ρ M (.Compare a [.Eq] [b] pos) (dB (PyData.eqv d d')) M2 := ej_cmp (op_eqD hr) (nomark _) ha hb (rj_eqD hi hj s1 s2)
theorem tj_eqD {d d' : PyData} (hr : X.A.units + 64 < cLine) (ha : EJ X N ρ M a i M1) (hb : EJ X N ρ M1 b j M2) (hi : Rd1 M2 i d) (hj : Rd1 M2 j d') (s1 : plainD d = true) (s2 : plainD d' = true) : TJ X N ρ M (.Compare a [.Eq] [b] pos) (PyData.eqv d d') M2 := tj_cmp (op_eqD hr) (nomark _) ha hb (rj_eqD hi hj s1 s2)
theorem tj_neD {d d' : PyData} (hr : X.A.units + 64 < cLine) (ha : EJ X N ρ M a i M1) (hb : EJ X N ρ M1 b j M2) (hi : Rd1 M2 i d) (hj : Rd1 M2 j d') (s1 : plainD d = true) (s2 : plainD d' = true) : TJ X N ρ M (.Compare a [.NotEq] [b] pos) (!PyData.eqv d d') M2 := tj_cmp (op_neD hr) (nomark _) ha hb (rj_neD hi hj s1 s2)
/-- xs.pop(i), xs one's own -/
theorem sj_popAt {ap epos : Pos} {p : Addr} {is : List It} {n : Nat} (ho : EJ X N ρ M a (.v (.ref p)) M) (he : EJ X N ρ M e (dI (n : Int)) M) (hm : (p, is) ∈ M) (hn : n < is.length) (hz : is.length < 100000) (hr : SJ X N ρ (M.put p (is.eraseIdx n)) rest Z) (hs : swapsWith (.Call (.Attribute a "pop" ap) [e] [] pos) none epos.line X.env = pure false := by rfl)
    (hst : starEach [e] X.env = [(false, eval e X.env)] := by rfl) (ps : PE X (.Call (.Attribute a "pop" ap) [e] [] pos) (tBM X.K "list" rPopAt (wE X a) (wA X [e])) := by exact pe_bm PySem.F.plainAttrs_list PySem.F.slot_list_pop PySem.F.type_list_pop mt_popAt pe_w pa_w) : SJ X N ρ M (.Expr (.Call (.Attribute a "pop" ap) [e] [] pos) epos :: rest) Z := sj_cons fun σ H P hh g D E tk z => by
  refine s_of (ps_expr ps hs) (ho σ H P hh g _ fun v H1 P1 e1 h1 r1 => ?_)
  cases (show v = .ref p from r1)
  obtain ⟨ys, ey, _⟩ := h1.cell hm
  refine ⟨.inl ⟨rfl, ys, .inl (.inl ey)⟩, ?_⟩
  refine aj_cons he aj_nil hst σ H1 P1 h1 (g.ex e1) _ fun vs H2 P2 e2 h2 r2 => ?_
  obtain ⟨y, rfl, r3⟩ := ri1 r2
  cases ri_int r3
  obtain ⟨xs, e3, r4⟩ := h2.cell hm
  have z4 := r4.len
  have hx : n < xs.length := by omega
  refine ⟨p, xs, (n : Int), n, xs[n], rfl, rfl, e3, by omega, by omega, ?_, List.getElem?_eq_getElem hx, ?_⟩
  · have q := (HT.seqIx n xs.length hx)
    exact q
  · exact z.nx ρ _ σ _ P2 hr (e1.trans e2) (h2.write hm (r4.erase n)) (g.ex (e1.trans e2))
end
end Kt

/-! Kt8: defs that hand back cells of their own; the law itself. -/
namespace Kt
open PySem PySem.Spec PyProof.Rows L2
abbrev Pre := List It → Mem → Prop
def spN (A : Pre) (B : Co) : Sp := fun vs H Q _ => ∃ (P : Hp) (is : List It) (M : Mem), Holds (inner P H M) P H M ∧ RepIs P vs is ∧ A is M ∧ ∀ i M' v H' P', B is M i M' → Holds (inner P H M) P' H' M' → RepI P' v i → Q v H'
structure DefN (P : Program) (w : World) (K : PySem.W.Frag) (mg : Str → Option Value) (base : Heap) (x : Str) (k : Nat) (A : Pre) (B : Co) : Prop where
  ex : ∃ f fd ps, FnOk P w K mg base CX0 k f fd ps (spN A B) ∧ mg x = some (.ref f) ∧ PySem.W.keepIn K (.ref f) = true ∧ Binds K fd ps []
def MSub (M' M'' : Mem) : Prop := (∀ c ∈ M', c ∈ M'') ∧ ((M''.map Prod.fst).Nodup → (M'.map Prod.fst).Nodup)
theorem defN_ok {P : Program} {w : World} {K : PySem.W.Frag} {mg : Str → Option Value} {base : Heap} {x qual : Str} {st : Stmt} {f : Addr} {fd : FuncData} {NN ps : List Str} {l : Nat} {A : Pre} {B : Co} (F : Fun K x qual st f fd) (S : FnScope NN ps (defScope st))
    (hm : mg x = some (.ref f)) (hb : Binds K fd ps []) (len : ∀ is M, A is M → is.length = ps.length) (keep : ∀ is M i M', A is M → B is M i M' → ∀ a ∈ M.map Prod.fst, a ∈ M'.map Prod.fst)
    (body : ∀ X : Cx, (∃ cdv A outer s H E, X = (cxOf CX0 P w K mg base NN qual (defScope st) f cdv A outer s H E).nox ∧ Room l X.A) → ∀ N is M, N.F = M.map Prod.fst → A is M → SJ X N (rho NN is) M (defBody st) { nx := fun _ M'' => ∃ M', B is M (.d .none) M' ∧ MSub M' M'', rt := fun i M'' => ∃ M', B is M i M' ∧ MSub M' M'' }) : DefN P w K mg base x (l + 1) A B := by
  refine ⟨f, fd, ps, F.ok S (fun vs H Q E h => ?_) (fun cdv A outer s H vs Q E hr h => ?_), hm, F.kp, hb⟩
  · obtain ⟨P0, is, M, h0, r, hA, _⟩ := h
    rw [r.len]
    exact len _ _ hA
  · obtain ⟨P0, is, M, h0, r, hA, q⟩ := h
    refine ⟨_, pss_w, ?_⟩
    have es : L2.start NN vs = vs.map some ++ List.replicate (NN.length - is.length) none := by
      unfold L2.start
      rw [r.len]
    rw [es]
    refine body _ ⟨cdv, A, outer, s, H, E, rfl, hr⟩ (inner P0 H M) is M rfl hA _ H P0 h0 (slots_start _ r) _ E0 takes0 ⟨fun ρ' M'' σ' H' P' a e hh g => ?_, fun i' M'' v H' P' a e hh rr => ?_, fun _ _ _ _ _ a => a.elim, fun _ _ _ _ _ a => a.elim, fun _ _ _ _ _ _ _ a => a.elim⟩
    · obtain ⟨M', hB, s1, s2⟩ := a
      exact q _ _ _ H' P' hB (hh.sub s1 (s2 hh.nd) fun a ha => keep _ _ _ _ hA hB a ha) .non
    · obtain ⟨M', hB, s1, s2⟩ := a
      exact q _ _ _ H' P' hB (hh.sub s1 (s2 hh.nd) fun a ha => keep _ _ _ _ hA hB a ha) rr
section
variable {X : Cx} {N : Ent} {ρ ρ' : Rho} {M M1 M2 M3 M' Mc Mr Mc' : Mem} {a b c e : Expr} {pos p pos' : Pos} {i j k : It} {t u : Bool} {Z : Post} {body rest : List Stmt} {es : List Expr} {is : List It}
/-- x = f(..), f handing back cells -/
theorem sj_setN (n : Nat) {x y : Str} {l : Nat} {A : Pre} {B : Co} (hN : X.N.Nodup) (F : DefN X.prog X.w X.K X.mg X.base y l A B) (hr : Room l X.A) (ha : AJ X N ρ M (e :: es) is M1) (hM : M1 = Mc ++ Mr) (hA : A is Mc)
    (hk : ∀ i Mc', B is Mc i Mc' → SJ X N (ρ.set n (some i)) (Mc' ++ Mr) rest Z) (hi : X.N[n]? = some x := by rfl) (hx : Loc X.env.scope x := by first | exact .inl rfl | exact .inr rfl)
    (hs : swapsWith (.Call (.Name y p) (e :: es) [] pos) (some (.Name x pos')) pos.line X.env = pure false := by rfl) (hf : X.fn x = true ∨ X.env.scope.names.lookup x = some .local := by first | exact .inl rfl | exact .inr rfl)
    (hg : Gl X y := by rfl) (hdb : (y == ("__debug__" : Str)) = false := by decide) (he : starEach (e :: es) X.env = (false, eval e X.env) :: starEach es X.env := by rfl) (hpl : (backTo pos (starEach es X.env)).any (·.1) = false := by rfl) {spos : Pos}
    (hs2 : swapsWith (.Call (.Name y p) (e :: es) [] pos) (some (.Name x pos')) spos.line X.env = pure false := by rfl) :
    SJ X N ρ M (.Assign [.Name x pos'] (.Call (.Name y p) (e :: es) [] pos) spos :: rest) Z := sj_cons fun σ H P hh g D E tk z => by
  obtain ⟨f, fd, ps, F1, hm, hkp, hb⟩ := F.ex
  refine s_of (ps_set (i := n) hN hi hx (pe_call F1 hr hg hm hkp hb .nil pass0 pa_w hdb he hpl) hs2 hf) (ha σ H P hh g _ fun vs H1 P1 e1 h1 r1 => ?_)
  subst hM
  refine ⟨P1, is, Mc, h1.enter, ?_, hA, fun i M' v H' P' hB h' r' => ?_⟩
  · rw [List.append_nil]; exact r1
  · exact z.nx _ _ _ _ P' (hk i M' hB) (e1.trans h'.ex0) (h1.leave h') ((g.ex (e1.trans h'.ex0)).set r' n)
/-- return [a, b], a a new list -/
theorem sj_retLL {lp : Pos} (ha : EL X N ρ M a is M1) (hb : ∀ p, EJ X N ρ (M1 ++ [(p, is)]) b j (M1 ++ [(p, is)])) (h : ∀ p q, Z.rt (.v (.ref q)) (M1 ++ [(p, is)] ++ [(q, [.v (.ref p), j])]))
    (he : starEach [a, b] X.env = (false, eval a X.env) :: starEach [b] X.env := by rfl) (he2 : starEach [b] X.env = [(false, eval b X.env)] := by rfl) : SJ X N ρ M (.Return (some (.List [a, b] lp)) pos :: rest) Z := sj_cons fun σ H P hh g D E tk z =>
  s_of (ps_ret (pe_lst (pa_cons pe_w (pa_cons pe_w pa_nil he2) he))) (ha σ H P hh g _ fun p H1 P1 e1 hp h1 => hb p σ H1 P1 h1 (g.ex e1) _ fun v2 H2 P2 e2 h2 r2 => ⟨(by show 2 ≤ sizeLine; decide), fun q hq => z.rt _ _ _ _ P2 (h p q) (e1.trans e2) (h2.own hq ⟨rfl, r2, trivial⟩) rfl⟩)
end
/-- the law -/
def spLaw (K : PySem.W.Frag) : Sp := fun vs H Q _ => ∃ (a : Addr) (ns : List Int), vs = [.ref a] ∧ SqL K H a (ns.map V.int) ∧ ns.length ≤ 63 ∧ ∀ H', Q (.bl true) H'
theorem law_ok {P : Program} {w : World} {K : PySem.W.Frag} {mg : Str → Option Value} {base : Heap} {st : Stmt} {f : Addr} {fd : FuncData} {NN : List Str} {l : Nat} (F : Fun K "law" "law" st f fd) (S : FnScope NN ["script"] (defScope st))
    (body : ∀ X : Cx, (∃ cdv A outer s H E, X = (cxOf CX0 P w K mg base NN "law" (defScope st) f cdv A outer s H E).nox ∧ Room l X.A) → ∀ N a ns, N.F = [] → ns.length ≤ 63 → SJ X N (rho NN [scr K a ns]) [] (defBody st) { nx := fun _ _ => False, rt := fun i _ => i = dB true }) : FnOk P w K mg base CX0 (l + 1) f fd ["script"] (spLaw K) := by
  refine F.ok S (fun vs H Q E h => ?_) (fun cdv A outer s H vs Q E hr h => ?_)
  · obtain ⟨a, ns, rfl, _⟩ := h
    rfl
  · obtain ⟨a, ns, rfl, hS, hl, q⟩ := h
    refine ⟨_, pss_w, ?_⟩
    have h0 : Holds (inner H H []) H H [] := ⟨Ex.refl H, Ex.refl H, fun _ _ e _ => e, fun _ e f => absurd e f, fun _ hc => absurd hc (List.not_mem_nil), List.nodup_nil, fun _ ha => ha, fun _ hc => absurd hc (List.not_mem_nil)⟩
    have es : L2.start NN [V.ref a] = ([V.ref a] : List V).map some ++ List.replicate (NN.length - ([scr K a ns] : List It).length) none := rfl
    rw [es]
    refine body _ ⟨cdv, A, outer, s, H, E, rfl, hr⟩ (inner H H []) a ns rfl hl _ H H h0 (slots_start (vs := [V.ref a]) (is := [scr K a ns]) _ ⟨⟨rfl, hS⟩, trivial⟩) _ E0 takes0 ⟨fun _ _ _ _ _ a => a.elim, fun i' M'' v H' P' e _ hh rr => ?_, fun _ _ _ _ _ a => a.elim, fun _ _ _ _ _ a => a.elim, fun _ _ _ _ _ _ _ a => a.elim⟩
    subst e
    rw [ri_bl rr]
    exact q H'
end Kt
namespace Kt
open PySem PySem.Spec PyProof.Rows L2
section
variable {X : Cx} {N : Ent} {ρ ρ' : Rho} {M M1 M2 M3 M' Mc Mr Mc' : Mem} {a b c e : Expr} {pos p pos' : Pos} {i j k : It} {t u : Bool}
theorem rj_eqS {n m : Str} : RJ N rEq M (.d (.str n)) (.d (.str m)) (dB (decide (n = m))) M := fun x y H P h rx ry Q q => by
  cases ri_str rx
  cases ri_str ry
  refine ⟨rfl, q _ H P (Ex.refl P) h ?_⟩
  have e : decide (V.str n = V.str m) = decide (n = m) := by
    by_cases z : n = m
    · subst z; simp
    · simp [z]
  rw [e]
  exact .bl _
theorem ej_eqS {n m : Str} (ha : EJ X N ρ M a (.d (.str n)) M1) (hb : EJ X N ρ M1 b (.d (.str m)) M2) : EJ X N ρ M (.Compare a [.Eq] [b] pos) (dB (decide (n = m))) M2 := ej_cmp op_eq (nomark _) ha hb rj_eqS
theorem tj_eqS {n m : Str} (ha : EJ X N ρ M a (.d (.str n)) M1) (hb : EJ X N ρ M1 b (.d (.str m)) M2) : TJ X N ρ M (.Compare a [.Eq] [b] pos) (decide (n = m)) M2 := tj_cmp op_eq (nomark _) ha hb rj_eqS
end
theorem kit_int (d : PyData) : kitB (tyD d) "int" = some (decide (tyD d = "int" ∨ tyD d = "bool")) := by cases d <;> kernel_rfl
theorem kit_bool (d : PyData) : kitB (tyD d) "bool" = some (decide (tyD d = "bool")) := by cases d <;> kernel_rfl
theorem kit_str (d : PyData) : kitB (tyD d) "str" = some (decide (tyD d = "str")) := by cases d <;> kernel_rfl
theorem kit_tuple (d : PyData) : kitB (tyD d) "tuple" = some (decide (tyD d = "tuple")) := by cases d <;> kernel_rfl
theorem kit_list (d : PyData) : kitB (tyD d) "list" = some (decide (tyD d = "list")) := by cases d <;> kernel_rfl
end Kt

/-! Kt9: comprehensions with a pair as a target; with two clauses. -/
namespace Kt
open PySem PySem.Spec PyProof.Rows L2
section
variable {X : Cx} {N : Ent} {ρ ρ' : Rho} {M M1 M2 M3 M' Mc Mr Mc' : Mem} {a b c e elt iter iter1 : Expr} {pos p pos' : Pos} {i j k : It} {t u : Bool} {scope : Scope}
theorem two_set {σ : L2.St} {n1 n2 : Nat} {v1 v2 : V} (ne : n1 ≠ n2) : ((wipe σ [n1, n2]).set n1 (some v1)).set n2 (some v2) = (σ.set n1 (some v1)).set n2 (some v2) := by
  show ((((σ.set n2 none).set n1 none).set n1 (some v1)).set n2 (some v2)) = _
  rw [List.set_set, List.set_comm _ _ ne.symm, List.set_set]
theorem two_wipe {σ : L2.St} {n1 n2 : Nat} {v1 v2 : V} (ne : n1 ≠ n2) : wipe (((wipe σ [n1, n2]).set n1 (some v1)).set n2 (some v2)) [n1, n2] = wipe σ [n1, n2] := by
  rw [two_set ne]
  show ((((σ.set n1 (some v1)).set n2 (some v2)).set n2 none).set n1 none) = (σ.set n2 none).set n1 none
  rw [List.set_set, List.set_comm _ _ ne, List.set_set, List.set_comm _ _ ne.symm]
/-- [e for x, y in a list of pairs] -/
theorem lj_compP (n1 n2 : Nat) {ds : List PyData} (A : Nat → List It) (Mi : Nat → Mem) (hc : X.calm = true) (hN : X.N.Nodup) (ne : n1 ≠ n2) (hi : EJ X N ρ M iter (.d (.list ds)) M1)
    (hA0 : A 0 = []) (hM0 : Mi 0 = M1) (hz : ds.length ≤ 100000)
    (step : ∀ (m : Nat) d, ds[m]? = some d → ∃ x y j, d = .tuple [x, y] ∧ A (m + 1) = A m ++ [j] ∧ (A m).length ≤ m ∧ ∀ N' s H C cl fp, EJ (X.blk s H scope (compEnvC scope cl C X.env) fp) N' ((ρ.set n1 (some (.d x))).set n2 (some (.d y))) (Mi m) elt j (Mi (m + 1)))
    : LJ X N ρ M (tLc (iList X.K (wE X iter)) (gTup X.K 2 (gCons (gName n1) (gCons (gName n2) gNil))) tYes (wBE X scope elt) [n1, n2]) (A ds.length) (Mi ds.length) := fun σ H P hh g Q q => by
  refine (hi σ H P hh g _ fun v H1 P1 e1 h1 r1 => ?_)
  obtain ⟨a, xs, rfl, x1, x2⟩ := ri_lst r1
  have xl := dnAll_len x2
  refine ⟨a, rfl, ⟨xs, .inl (.inl (h1.ex _ _ x1))⟩, fun D hD => lc_list (xs := xs) (fun m H' => ∃ P', Holds N P' H' (Mi m ++ [(D, A m)]) ∧ Ex P1 P') ⟨P1, by rw [hA0, hM0]; exact h1.own hD (its := []) trivial, Ex.refl _⟩ (fun m H' _ hw => ?_) (fun m x' H' hx hw => ?_) (fun H' hw => ?_)⟩
  · obtain ⟨P', h2, e2⟩ := hw
    exact .inl (.inl (h2.ex _ _ (e2 _ _ x1)))
  · obtain ⟨P', h2, e2⟩ := hw
    have nl : m < ds.length := xl ▸ (List.getElem?_eq_some_iff.mp hx).1
    obtain ⟨v', ev, dv⟩ := dnAll_get x2 (List.getElem?_eq_getElem nl)
    rw [hx] at ev
    cases Option.some.inj ev
    obtain ⟨dx, dy, j, ed, eA, lA, S⟩ := step m _ (List.getElem?_eq_getElem nl)
    rw [ed] at dv
    obtain ⟨ta, ts, rfl, t1, t2⟩ := ri_tup (show RepI P1 x' (.d (.tuple [dx, dy])) from dv)
    cases t2 with
    | cons k1 kr =>
      cases kr with
      | cons k2 kn =>
        cases kn
        refine ⟨ta, _, rfl, .inl (.inl (h2.ex _ _ (e2 _ _ t1))), rfl, _, _, rfl, _, _, rfl, rfl, two_wipe ne, ?_⟩
        unfold tYes
        dsimp only
        rw [if_pos rfl]
        intro s H0 C cl fp
        refine S (inner P' H' (Mi m)) s H0 C cl fp _ H' P' h2.enter (by rw [two_set ne]; exact ((g.ex (e1.trans e2)).set (it := .d dx) (dn_ex e2 _ _ k1) n1).set (it := .d dy) (dn_ex e2 _ _ k2) n2) _ fun y H4 P4 e4 h4 r4 => ?_
        have h5 := h2.leave h4
        obtain ⟨acc, ea, ra⟩ := h5.cell (a := D) (its := A m) (List.mem_append_right _ (List.mem_singleton.mpr rfl))
        refine ⟨acc, ea, by rw [ra.len]; exact Nat.lt_of_lt_of_le (Nat.lt_of_le_of_lt lA (Nat.lt_of_lt_of_le nl hz)) (by decide), P4, ?_, e2.trans e4⟩
        have h6 := h5.write (a := D) (its := A m) (its' := A (m + 1)) (List.mem_append_right _ (List.mem_singleton.mpr rfl)) (xs' := acc ++ [y]) (by rw [eA]; exact ra.app ⟨r4, trivial⟩)
        rw [put_last h5.nd] at h6
        exact h6
  · obtain ⟨P', h2, e2⟩ := hw
    rw [xl] at h2
    exact q D H' P' (e1.trans e2) (h1.newF hD) h2
theorem el_compP {x y : Str} {px py tp : Pos} {tk : Nat} (n1 n2 : Nat) {ds : List PyData} (A : Nat → List It) (Mi : Nat → Mem) (hc : X.calm = true) (hN : X.N.Nodup) (ne : n1 ≠ n2) (hi : EJ X N ρ M iter (.d (.list ds)) M1)
    (hA0 : A 0 = []) (hM0 : Mi 0 = M1) (hz : ds.length ≤ 100000)
    (step : ∀ (m : Nat) d, ds[m]? = some d → ∃ x y j, d = .tuple [x, y] ∧ A (m + 1) = A m ++ [j] ∧ (A m).length ≤ m ∧ ∀ N' s H C cl fp, EJ (X.blk s H scope (compEnvC scope cl C X.env) fp) N' ((ρ.set n1 (some (.d x))).set n2 (some (.d y))) (Mi m) elt j (Mi (m + 1)))
    (ok : BlkOk X.N X.env.scope scope [(x, n1), (y, n2)] := by exact blkOk_by (by kernel_rfl))
    (hgn : ∀ (s : Shared) (H : Hp) (C : Addr) (cl : List (Str × Addr)) (fp : List Addr), PG (X.blk s H scope (compEnvC scope cl C X.env) fp) (.Tuple [.Name x px, .Name y py] tk tp) (gTup X.K 2 (gCons (gName n1) (gCons (gName n2) gNil))) := by exact fun _ _ _ _ _ => pg_tup (by rfl) (pgs_cons (pg_name (by assumption) rfl (Or.inl rfl)) (pgs_cons (pg_name (by assumption) rfl (Or.inl rfl)) pgs_nil)))
    (hf : ∀ x, foldedSetIterable iter X.env x = pure x := by intro _; rfl) : EL X N ρ M (.ListComp elt [⟨.Tuple [.Name x px, .Name y py] tk tp, iter, [], 0⟩] scope pos) (A ds.length) (Mi ds.length) :=
  el_lc (lj_compP n1 n2 A Mi hc hN ne hi hA0 hM0 hz step) (pe_lc hc hN (pi_list pe_w) ok hgn (fun _ _ _ _ _ => pts_nil) (te := wBE X scope elt) (fun s H C cl fp => ⟨fun pins s1 σ1 H1 Q1 I1 h1 => h1 s H C cl fp pins s1 I1⟩) hf)
/-- [e for x in t for y in x], tuples of tuples, cells as they stand -/
def flat2 (f : PyData → PyData → PyData) : List PyData → List PyData
  | [] => []
  | .tuple l :: r => l.map (f (.tuple l)) ++ flat2 f r
  | _ :: r => flat2 f r
theorem flat2_app (f : PyData → PyData → PyData) : ∀ a b : List PyData, flat2 f (a ++ b) = flat2 f a ++ flat2 f b
  | [], b => rfl
  | d :: r, b => by
    cases d with
    | tuple l =>
      show l.map (f (.tuple l)) ++ flat2 f (r ++ b) = (l.map (f (.tuple l)) ++ flat2 f r) ++ flat2 f b
      rw [flat2_app f r b, List.append_assoc]
    | _ => exact flat2_app f r b
theorem wipe_first {σ : L2.St} {n1 n2 : Nat} {v : V} (ne : n1 ≠ n2) : wipe ((wipe σ [n1, n2]).set n1 (some v)) [n1, n2] = wipe σ [n1, n2] := by
  show ((((σ.set n2 none).set n1 none).set n1 (some v)).set n2 none).set n1 none = (σ.set n2 none).set n1 none
  rw [List.set_set, List.set_comm _ _ ne, List.set_set, List.set_set]
theorem flat2_take (f : PyData → PyData → PyData) {ds : List PyData} {i : Nat} {l : List PyData} (h : ds[i]? = some (.tuple l)) : flat2 f (ds.take (i + 1)) = flat2 f (ds.take i) ++ l.map (f (.tuple l)) := by
  rw [List.take_add_one, h, flat2_app]
  show _ ++ (l.map (f (.tuple l)) ++ []) = _
  rw [List.append_nil]
theorem flat2_len (f : PyData → PyData → PyData) (z : Nat) : ∀ ds : List PyData, (∀ d ∈ ds, ∃ l, d = .tuple l ∧ l.length ≤ z) → (flat2 f ds).length ≤ ds.length * z
  | [], _ => by simp [flat2]
  | d :: r, h => by
    obtain ⟨l, rfl, hl⟩ := h d List.mem_cons_self
    show (l.map (f (.tuple l)) ++ flat2 f r).length ≤ _
    have := flat2_len f z r fun d hd => h d (List.mem_cons_of_mem _ hd)
    rw [List.length_append, List.length_map, List.length_cons, Nat.succ_mul]
    omega
theorem el_comp22 {x y : Str} {px py : Pos} (n1 n2 : Nat) {ds : List PyData} (f : PyData → PyData → PyData) (hc : X.calm = true) (hN : X.N.Nodup) (ne : n1 ≠ n2) (hi : EJ X N ρ M iter (.d (.tuple ds)) M1)
    (hz : ds.length ≤ 1000) (shape : ∀ d ∈ ds, ∃ l, d = .tuple l ∧ l.length ≤ 64)
    (src : ∀ d ∈ ds, ∀ N' s H C cl fp, EJ (X.blk s H scope (compEnvC scope cl C X.env) fp) N' ((ρ.set n2 none).set n1 (some (.d d))) M1 iter1 (.d d) M1)
    (step : ∀ (l : List PyData) (d : PyData), .tuple l ∈ ds → d ∈ l → ∀ N' s H C cl fp, EJ (X.blk s H scope (compEnvC scope cl C X.env) fp) N' (((ρ.set n2 none).set n1 (some (.d (.tuple l)))).set n2 (some (.d d))) M1 elt (.d (f (.tuple l) d)) M1)
    (ok : BlkOk X.N X.env.scope scope [(x, n1), (y, n2)] := by exact blkOk_by (by kernel_rfl))
    (hg1 : ∀ (s : Shared) (H : Hp) (C : Addr) (cl : List (Str × Addr)) (fp : List Addr), PG (X.blk s H scope (compEnvC scope cl C X.env) fp) (.Name x px) (gName n1) := by exact fun _ _ _ _ _ => pg_name (by assumption) rfl (Or.inl rfl))
    (hg2 : ∀ (s : Shared) (H : Hp) (C : Addr) (cl : List (Str × Addr)) (fp : List Addr), PG (X.blk s H scope (compEnvC scope cl C X.env) fp) (.Name y py) (gName n2) := by exact fun _ _ _ _ _ => pg_name (by assumption) rfl (Or.inl rfl))
    (hf : ∀ x, foldedSetIterable iter X.env x = pure x := by intro _; rfl) (hf1 : ∀ env x, foldedSetIterable iter1 env x = pure x := by intro _ _; rfl) : EL X N ρ M (.ListComp elt [⟨.Name x px, iter, [], 0⟩, ⟨.Name y py, iter1, [], 0⟩] scope pos) ((flat2 f ds).map It.d) M1 := fun σ H P hh g Q q => by
  have pi1 : ∀ (s : Shared) (H : Hp) (C : Addr) (cl : List (Str × Addr)) (fp : List Addr), PI (X.blk s H scope (compEnvC scope cl C X.env) fp) (.Name y py) iter1 (iTup X.K (wBE X scope iter1)) := fun s H C cl fp =>
    pi_tup (X := X.blk s H scope (compEnvC scope cl C X.env) fp) ⟨fun pins s1 σ1 H1 Q1 I1 h1 => h1 s H C cl fp pins s1 I1⟩
  refine e_of (pe_lc2 (vs1 := [n2]) (te := wBE X scope elt) hc hN (pi_tup pe_w) ok (by simp) hg1 (fun _ _ _ _ _ => pts_nil) pi1 hg2 (fun _ _ _ _ _ => pts_nil) (fun s H C cl fp => ⟨fun pins s1 σ1 H1 Q1 I1 h1 => h1 s H C cl fp pins s1 I1⟩) hf hf1) (hi σ H P hh g _ fun v H1 P1 e1 h1 r1 => ?_)
  obtain ⟨a, xs, rfl, x1, x2⟩ := ri_tup r1
  have xl := dnAll_len x2
  refine ⟨a, rfl, ⟨xs, .inl (.inl (h1.ex _ _ x1))⟩, fun D hD => ?_⟩
  refine ⟨fun i m H => m = xs.length - i ∧ i ≤ xs.length ∧ ∃ P', Holds N P' H (M1 ++ [(D, (flat2 f (ds.take i)).map It.d)]) ∧ Ex P1 P', ⟨xs.length, by simp, Nat.zero_le _, P1, h1.own hD (its := []) trivial, Ex.refl _⟩, ?_⟩
  rintro i m H2 ⟨rfl, hil, P2, h2, e2⟩
  have sq : SqT X.K H2 a xs := .inl (.inl (h2.ex _ _ (e2 _ _ x1)))
  by_cases hlt : i < xs.length
  · refine .inr ⟨⟨xs, xs[i], sq, by simp [hlt]⟩, fun H' => ∃ P', Holds N P' H' (M1 ++ [(D, (flat2 f (ds.take (i + 1))).map It.d)]) ∧ Ex P1 P', fun H' p' => ⟨xs.length - (i + 1), by omega, rfl, hlt, p'⟩, fun x' H' yl => ?_⟩
    obtain ⟨rfl, yx⟩ := yl
    have hx := yx xs sq
    have nl : i < ds.length := xl ▸ hlt
    obtain ⟨v', ev, dv⟩ := dnAll_get x2 (List.getElem?_eq_getElem nl)
    rw [hx] at ev
    cases Option.some.inj ev
    have hmem : ds[i] ∈ ds := List.getElem_mem nl
    obtain ⟨l, el, ll⟩ := shape _ hmem
    refine ⟨wipe_first ne, ?_⟩
    unfold tYes
    dsimp only
    rw [if_pos rfl]
    intro s H0 C cl fp
    have g2 : Slots P2 ((wipe σ [n1, n2]).set n1 (some x')) ((ρ.set n2 none).set n1 (some (.d ds[i]))) := by
      have e : (wipe σ [n1, n2]).set n1 (some x') = (σ.set n2 none).set n1 (some x') := by
        show ((σ.set n2 none).set n1 none).set n1 (some x') = _
        rw [List.set_set]
      rw [e]
      exact ((g.ex (e1.trans e2)).unset n2 none).set (it := .d ds[i]) (dn_ex e2 _ _ dv) n1
    refine src _ hmem (inner P2 H' M1) s H0 C cl fp _ H' P2 h2.enter g2 _ fun w H4 P4 e4 h4 r4 => ?_
    have h5 := h2.leave h4
    rw [el] at r4
    obtain ⟨ta, ts, rfl, t1, t2⟩ := ri_tup r4
    have tl := dnAll_len t2
    refine ⟨ta, rfl, ⟨ts, .inl (.inl (h5.ex _ _ t1))⟩, fun j k H => k = ts.length - j ∧ j ≤ ts.length ∧ ∃ P', Holds N P' H (M1 ++ [(D, (flat2 f (ds.take i) ++ (l.take j).map (f (.tuple l))).map It.d)]) ∧ Ex P4 P', ⟨ts.length, by simp, Nat.zero_le _, P4, by simpa using h5, Ex.refl _⟩, ?_⟩
    rintro j k H6 ⟨rfl, hjl, P6, h6, e6⟩
    have sq6 : SqT X.K H6 ta ts := .inl (.inl (h6.ex _ _ (e6 _ _ t1)))
    by_cases hjt : j < ts.length
    · refine .inr ⟨⟨ts, ts[j], sq6, by simp [hjt]⟩, fun H' => ∃ P', Holds N P' H' (M1 ++ [(D, (flat2 f (ds.take i) ++ (l.take (j + 1)).map (f (.tuple l))).map It.d)]) ∧ Ex P4 P', fun H' p' => ⟨ts.length - (j + 1), by omega, rfl, hjt, p'⟩, fun x7 H7 yl7 => ?_⟩
      obtain ⟨rfl, yx7⟩ := yl7
      have hx7 := yx7 ts sq6
      have nl7 : j < l.length := tl ▸ hjt
      obtain ⟨v7, ev7, dv7⟩ := dnAll_get t2 (List.getElem?_eq_getElem nl7)
      rw [hx7] at ev7
      cases Option.some.inj ev7
      refine ⟨wipe_comp n2, ?_⟩
      dsimp only
      rw [if_pos rfl]
      intro s H0 C cl fp
      have g7 := slots_comp (g2.ex (e4.trans e6)) n2 (i := .d l[j]) (dn_ex e6 _ _ dv7)
      rw [el] at g7
      refine step l l[j] (el ▸ hmem) (List.getElem_mem nl7) (inner P6 H7 M1) s H0 C cl fp _ H7 P6 h6.enter g7 _ fun y8 H8 P8 e8 h8 r8 => ?_
      have h9 := h6.leave h8
      obtain ⟨acc, ea, ra⟩ := h9.cell (a := D) (its := (flat2 f (ds.take i) ++ (l.take j).map (f (.tuple l))).map It.d) (List.mem_append_right _ (List.mem_singleton.mpr rfl))
      have hlen := flat2_len f 64 (ds.take i) fun d hd => shape d (List.mem_of_mem_take hd)
      refine ⟨acc, ea, ?_, P8, ?_, e6.trans e8⟩
      · rw [ra.len]
        refine Nat.lt_of_lt_of_le (m := 100000) ?_ (by decide)
        simp
        have : (List.take i ds).length ≤ 1000 := by rw [List.length_take]; omega
        have h64 : (flat2 f (List.take i ds)).length ≤ 64000 := Nat.le_trans hlen (by omega)
        omega
      · have h10 := h9.write (a := D) (its := (flat2 f (ds.take i) ++ (l.take j).map (f (.tuple l))).map It.d) (its' := (flat2 f (ds.take i) ++ (l.take (j + 1)).map (f (.tuple l))).map It.d) (List.mem_append_right _ (List.mem_singleton.mpr rfl)) (xs' := acc ++ [y8]) (by
          have e11 : (flat2 f (ds.take i) ++ (l.take (j + 1)).map (f (.tuple l))).map It.d = (flat2 f (ds.take i) ++ (l.take j).map (f (.tuple l))).map It.d ++ [It.d (f (.tuple l) l[j])] := by
            rw [List.take_add_one, List.getElem?_eq_getElem nl7, List.map_append, List.map_append, List.map_append, List.map_append, List.append_assoc]
            rfl
          rw [e11]
          exact ra.app ⟨r8, trivial⟩)
        rw [put_last h9.nd] at h10
        exact h10
    · have ej : j = ts.length := by omega
      subst ej
      refine .inl ⟨⟨ts, sq6, Nat.le_refl _⟩, P6, ?_, (e2.trans e4).trans e6⟩
      rw [flat2_take f ((List.getElem?_eq_getElem nl).trans (congrArg some el))]
      rw [tl, List.take_length] at h6
      exact h6
  · have ei : i = xs.length := by omega
    subst ei
    refine .inl ⟨⟨xs, sq, Nat.le_refl _⟩, ?_⟩
    rw [xl, List.take_length] at h2
    exact q D H2 P2 (e1.trans e2) (h1.newF hD) h2
end
end Kt

/-! Kta: extend by a tuple; two names at once. -/
namespace PySem
namespace AutoSeq1
open Builtin
theorem extend_tup (l : Addr) (items : Array Value) (n : Nat) (b : Addr) (items2 : Array Value) (n2 : Nat) (dd : Option Addr) (sl : Array (Option Value)) (hs0 : ¬(!items.isEmpty && Builtin.List.listTooLong (items.size + items2.size)) = true) (hs1 : items.size ≤ sizeLine) (hs2 : items.size + items2.size ≤ sizeLine + 1) :
    Meets (Builtin.«list.extend» ⟨[.ref l, .ref b], []⟩) (fun _ R s => s.heap.get? l = some { cls := .type "list", dict := none, data := .seq items n, slots := #[] } ∧ s.heap.get? b = some { cls := .type "tuple", dict := dd, data := .seq items2 n2, slots := sl } ∧ R (.ok (.ret Value.none)) { s with heap := s.heap.update l (Obj.mapSeq fun x => x ++ items2), toks := s.toks }) :=
  .of_wp fun prog w A R s h => by
    obtain ⟨hp, g, d, tk, os⟩ := s; obtain ⟨hl, hb, h⟩ := h; have f1 := idx_int; have f2 := sub_tuple_tuple; have f3 := sub_list_list; have f4 := sub_tuple_list; have f5 := sub_list_tuple;
    have hz' : (items ++ items2).size ≤ sizeLine + 1 := by rw [Array.size_append]; exact hs2
    wp_walk using (wpAny_updateSeq hl rfl (hz := hs1) (_hz' := hz')), wpAny_loadPart' hl, wpAny_loadPart' hb; exact ⟨_, rfl, h⟩
end AutoSeq1
end PySem
namespace Kt
open PySem PySem.Spec PyProof.Rows L2
section
variable {X : Cx}
def rExtT (K : PySem.W.Frag) : V → List V → Hp → VK → Prop := fun x vs H Q => ∃ l b xs zs, x = .ref l ∧ vs = [.ref b] ∧ H l = some (.lst xs) ∧ SqT K H b zs ∧ xs.length + zs.length ≤ sizeLine ∧ Q .non (upd H l (.lst (xs ++ zs)))
theorem mt_extT : MtM X "list.extend" (rExtT X.K) := by
  intro pins s σ H x vs v us Q I rx rv h
  obtain ⟨l, b, xs, zs, rfl, rfl, hH, hB, hz, q⟩ := h
  cases rx
  obtain ⟨u, rfl, ru⟩ := rv.one
  cases ru
  obtain ⟨z, its, n, r, hl, e⟩ := I.lstM hH
  obtain ⟨its2, r2, ⟨o2, ho, hc, n2, hd⟩, hz2⟩ := I.tuple hB
  have hl2 := r2.length
  have hsz : its.toArray.size + its2.toArray.size ≤ sizeLine := by rw [List.size_toArray, List.size_toArray]; omega
  have hlong : ¬ (!its.toArray.isEmpty && Builtin.List.listTooLong (its.toArray.size + its2.toArray.size)) = true := by
    rw [notLongL hsz, Bool.and_false]
    exact Bool.false_ne_true
  obtain ⟨oc, od, odt, osl⟩ := o2
  dsimp only at hc hd
  subst hc hd
  refine call_meets F.slot_list_extend ⟨_, e, rfl⟩ F.entry_list_extend (F.args_list_extend_2 _ _)
    (AutoSeq1.extend_tup l its.toArray n b its2.toArray n2 od osl hlong (by rw [List.size_toArray]; omega) (by omega)) ⟨e, ho, ?_⟩
  refine ⟨.non, _, I.lset (its' := its ++ its2) hH e (by simp) (r.append r2) ?_, rfl, q⟩
  rw [List.length_append]
  omega
variable {N : Ent} {ρ ρ' : Rho} {M M1 M2 M' : Mem} {a b c e : Expr} {pos : Pos} {i j k : It} {Z : Post} {rest : List Stmt}
/-- xs.extend(t), xs one's own, t a tuple -/
theorem sj_extT {ap epos : Pos} {p : Addr} {is is0 : List It} {ds : List PyData} (ho : EJ X N ρ M a (.v (.ref p)) M) (hm0 : (p, is0) ∈ M) (he : EJ X N ρ M e (.d (.tuple ds)) M1) (hm : (p, is) ∈ M1) (hz : is.length + ds.length ≤ 100000) (hr : SJ X N ρ (M1.put p (is ++ ds.map It.d)) rest Z) (hs : swapsWith (.Call (.Attribute a "extend" ap) [e] [] pos) none epos.line X.env = pure false := by rfl)
    (hst : starEach [e] X.env = [(false, eval e X.env)] := by rfl) (ps : PE X (.Call (.Attribute a "extend" ap) [e] [] pos) (tBM X.K "list" (rExtT X.K) (wE X a) (wA X [e])) := by exact pe_bm PySem.F.plainAttrs_list PySem.F.slot_list_extend PySem.F.type_list_extend mt_extT pe_w pa_w) : SJ X N ρ M (.Expr (.Call (.Attribute a "extend" ap) [e] [] pos) epos :: rest) Z := sj_cons fun σ H P hh g D E tk z => by
  refine s_of (ps_expr ps hs) (ho σ H P hh g _ fun v H1 P1 e1 h1 r1 => ?_)
  cases (show v = .ref p from r1)
  obtain ⟨ys, ey, _⟩ := h1.cell hm0
  refine ⟨.inl ⟨rfl, ys, .inl (.inl ey)⟩, ?_⟩
  refine aj_cons he aj_nil hst σ H1 P1 h1 (g.ex e1) _ fun vs H2 P2 e2 h2 r2 => ?_
  obtain ⟨y, rfl, r3⟩ := ri1 r2
  obtain ⟨xs, e3, r4⟩ := h2.cell hm
  obtain ⟨b, zs, rfl, h5, h6⟩ := ri_tup r3
  refine ⟨p, b, xs, zs, rfl, rfl, e3, .inl (.inl (h2.ex _ _ h5)), by rw [r4.len, dnAll_len h6]; exact Nat.le_trans hz (by decide), ?_⟩
  exact z.nx ρ _ σ _ P2 hr (e1.trans e2) (h2.write hm (r4.app (RepIs.of_all h6))) (g.ex (e1.trans e2))
/-- x, y = a, b: two different local names -/
theorem sj_par (n1 n2 : Nat) {x y : Str} {px py pt pt2 : Pos} {kt k2 : Nat} (hc : X.calm = true) (hN : X.N.Nodup) (ne : n1 ≠ n2) (ha : EJ X N ρ M a i M1) (hb : EJ X N ρ M1 b j M2) (hr : SJ X N ((ρ.set n1 (some i)).set n2 (some j)) M2 rest Z)
    (hi : X.N[n1]? = some x := by rfl) (hj : X.N[n2]? = some y := by rfl) (hx : X.env.scope.names.lookup x = some .local := by rfl) (hy : X.env.scope.names.lookup y = some .local := by rfl)
    (hw : swappedStores [.Tuple [.Name x px, .Name y py] kt pt] (.Tuple [a, b] k2 pt2) X.env = pure (some [x, y]) := by rfl) (hs : swapsWithSole [.Tuple [.Name x px, .Name y py] kt pt] (.Tuple [a, b] k2 pt2) pos.line X.env = pure false := by rfl)
    (he : starEach [a, b] X.env = (false, eval a X.env) :: starEach [b] X.env := by rfl) (he2 : starEach [b] X.env = [(false, eval b X.env)] := by rfl) :
    SJ X N ρ M (.Assign [.Tuple [.Name x px, .Name y py] kt pt] (.Tuple [a, b] k2 pt2) pos :: rest) Z := sj_cons fun σ H P hh g D E tk z =>
  s_of (ps_par (i := n1) (j := n2) hc hN hi hj ne hx hy pa_w hw hs) (aj_cons ha (aj_cons hb aj_nil he2) he σ H P hh g _ fun vs H1 P1 e1 h1 r1 => by
    obtain ⟨v, w, rfl, r2, r3⟩ := ri2 r1
    exact ⟨v, w, rfl, z.nx _ _ _ _ P1 hr e1 h1 (((g.ex e1).set r2 n1).set r3 n2)⟩)
end
end Kt

/-! Ktb: max of a tuple of ints; small helps. -/
namespace Kt
open PySem PySem.Spec PyProof.Rows L2
def mxI (x : Int) (xs : List Int) : Int := xs.foldl (fun a y => if a < y then y else a) x
theorem maxOf_int (x : Int) (xs : List Int) : PySem.W.maxOf x xs = mxI x xs := by
  unfold PySem.W.maxOf mxI
  congr 1
  funext a y
  have : (PySem.W.DatumOrd.lt a y = true) = (a < y) := by
    show (decide (a < y) = true) = (a < y)
    simp
  simp only [this]
theorem mxI_ge : ∀ (xs : List Int) (x : Int), x ≤ mxI x xs ∧ ∀ y ∈ xs, y ≤ mxI x xs
  | [], x => ⟨Int.le_refl _, fun _ h => absurd h List.not_mem_nil⟩
  | z :: r, x => by
    have ih := mxI_ge r (if x < z then z else x)
    have e : mxI x (z :: r) = mxI (if x < z then z else x) r := rfl
    rw [e]
    refine ⟨?_, fun y hy => ?_⟩
    · have := ih.1
      split at this <;> omega
    · rcases List.mem_cons.mp hy with rfl | hy
      · have := ih.1
        split at this <;> omega
      · exact ih.2 y hy
theorem mxI_mem : ∀ (xs : List Int) (x : Int), mxI x xs = x ∨ mxI x xs ∈ xs
  | [], x => .inl rfl
  | z :: r, x => by
    have ih := mxI_mem r (if x < z then z else x)
    have e : mxI x (z :: r) = mxI (if x < z then z else x) r := rfl
    rw [e]
    rcases ih with h | h
    · rw [h]
      split
      · exact .inr List.mem_cons_self
      · exact .inl rfl
    · exact .inr (List.mem_cons_of_mem _ h)
section
variable {X : Cx}
def rMaxT (K : PySem.W.Frag) : List V → Hp → VK → Prop := fun vs H Q => ∃ (a : Addr) (n : Int) (ns : List Int), vs = [V.ref a] ∧ SqT K H a ((n :: ns).map V.int) ∧ Q (.int (mxI n ns)) H
theorem cr_maxT (hc : X.calm = true) (hu : X.A.units + 64 < cLine) : CallR X (.builtin "max") (rMaxT X.K) := by
  intro pins s σ H vs us Q I r h
  obtain ⟨a, n, ns, rfl, hs, q⟩ := h
  obtain ⟨its, rv, ⟨o, ho, hcl, n2, hd⟩, _⟩ := I.tuple hs
  rw [Vals.ref1 r]
  have hI : IntsAre its (n :: ns) := rv.ints
  have hu2 : X.A.units + 1 + PySem.W.Datum.depth Int < cLine := by
    have : PySem.W.Datum.depth Int ≤ 1 := by decide
    omega
  refine PySem.W.max_tuple_datum (x := n) (xs := ns) (vs := its.toArray) (I.ok.hd hc) ⟨o, ho, hcl, n2, hd⟩ (PySem.W.HoldAll.of_ints (by simpa using hI)) hu2 fun i v h' tk hv hh hk => ?_
  obtain ⟨as, rd⟩ := hh
  rw [maxOf_int] at rd
  have : ∃ t, v = .int (mxI n ns) t := by
    cases rd with
    | int i t => exact ⟨t, rfl⟩
  obtain ⟨t, rfl⟩ := this
  exact ⟨.int _, H, I.kept hk, ⟨_, rfl⟩, q⟩
variable {N : Ent} {ρ ρ' : Rho} {M M1 M2 M' : Mem} {a b c e : Expr} {pos : Pos} {i j k : It}
theorem ej_maxT {p q : Pos} {n : Int} {ns : List Int} (hc : X.calm = true) (hu : X.A.units + 64 < cLine) (hm : X.mg "max" = none) (ha : EJ X N ρ M a (.d (.tuple ((n :: ns).map PyData.int))) M1) (hg : Gl X "max" := by rfl) (he : starEach [a] X.env = [(false, eval a X.env)] := by rfl) (hpl : (backTo q (starEach ([] : List Expr) X.env)).any (·.1) = false := by rfl) :
    EJ X N ρ M (.Call (.Name "max" p) [a] [] q) (dI (mxI n ns)) M1 := ej_callB (cr_maxT hc hu) hm (by decide +kernel) (aj_cons ha aj_nil he) (fun vs H P h rr Q q => by
  obtain ⟨x, rfl, r⟩ := ri1 rr
  obtain ⟨y, ys, rfl, h1, h2⟩ := ri_tup r
  cases DnAll.ints (ns := n :: ns) h2
  exact ⟨y, n, ns, rfl, .inl (.inl (h.ex _ _ h1)), q _ H P (Ex.refl P) h (.int _)⟩) hg (by decide) (by decide) he hpl
theorem at_of0 {α : Type} {l : List α} {n : Int} (h0 : 0 ≤ n) {x : α} (h : l[n.toNat]? = some x) : atI l n = some x := by
  have e : n = ((n.toNat : Nat) : Int) := by omega
  rw [e]
  exact atI_nat (by simpa using h)
theorem at_map {α β : Type} {f : α → β} {l : List α} {n : Int} {x : α} (h0 : 0 ≤ n) (h : l[n.toNat]? = some x) : atI (l.map f) n = some (f x) := at_of0 h0 (by rw [List.getElem?_map, h]; rfl)
theorem tame_mono : ∀ {n : Nat} {d : PyData} {tame : Nat → PyData → Prop}, (∀ n d, tame (n + 1) d → tame n d) → tame (n + 1) d → tame n d := fun h => h _ _
end
end Kt

/-! Ktc: data that == may be asked of. -/
namespace Kt
open PySem PySem.Spec PyProof.Rows L2
/-- plain data of at most this depth -/
inductive PN : Nat → PyData → Prop
  | non {n : Nat} : PN n .none
  | bl {n : Nat} (b : Bool) : PN n (.bool b)
  | int {n : Nat} (i : Int) : PN n (.int i)
  | str {n : Nat} (x : Str) (h : PyData.strOk x = true) : PN n (.str x)
  | lst {n : Nat} (l : List PyData) (h : ∀ x ∈ l, PN n x) : PN (n + 1) (.list l)
  | tup {n : Nat} (l : List PyData) (h : ∀ x ∈ l, PN n x) : PN (n + 1) (.tuple l)
theorem pn_all {n : Nat} (f : ∀ x, PN n x → noDict x = true ∧ PyData.canLay0 x = true ∧ PyData.depth x ≤ n ∧ PyData.eqv x x = true) : ∀ l : List PyData, (∀ x ∈ l, PN n x) → noDicts l = true ∧ PyData.canLayAll0 l = true ∧ PyData.depthAll l ≤ n ∧ PyData.eqvAll l l = true
  | [], _ => ⟨rfl, rfl, by simp [PyData.depthAll], by simp [PyData.eqvAll]⟩
  | x :: r, h => by
    obtain ⟨a1, a2, a3, a4⟩ := f x (h x List.mem_cons_self)
    obtain ⟨b1, b2, b3, b4⟩ := pn_all f r fun y hy => h y (List.mem_cons_of_mem _ hy)
    refine ⟨?_, ?_, ?_, ?_⟩
    · show (noDict x && noDicts r) = true
      rw [a1, b1]
      rfl
    · simp only [PyData.canLayAll0, a2, b2, Bool.and_self]
    · simp only [PyData.depthAll]
      omega
    · simp only [PyData.eqvAll, a4, b4, Bool.and_self]
theorem pn_ok : ∀ (n : Nat) (d : PyData), PN n d → noDict d = true ∧ PyData.canLay0 d = true ∧ PyData.depth d ≤ n ∧ PyData.eqv d d = true := by
  intro n
  induction n with
  | zero =>
    intro d h
    cases h with
    | non => exact ⟨rfl, rfl, by simp [PyData.depth], by simp [PyData.eqv]⟩
    | bl b => exact ⟨rfl, rfl, by simp [PyData.depth], by simp [PyData.eqv]⟩
    | int i => exact ⟨rfl, rfl, by simp [PyData.depth], by simp [PyData.eqv]⟩
    | str x hx => exact ⟨rfl, by simpa [PyData.canLay0] using hx, by simp [PyData.depth], by simp [PyData.eqv]⟩
  | succ n ih =>
    intro d h
    cases h with
    | non => exact ⟨rfl, rfl, by simp [PyData.depth], by simp [PyData.eqv]⟩
    | bl b => exact ⟨rfl, rfl, by simp [PyData.depth], by simp [PyData.eqv]⟩
    | int i => exact ⟨rfl, rfl, by simp [PyData.depth], by simp [PyData.eqv]⟩
    | str x hx => exact ⟨rfl, by simpa [PyData.canLay0] using hx, by simp [PyData.depth], by simp [PyData.eqv]⟩
    | lst l hl =>
      obtain ⟨a, b, c, e⟩ := pn_all ih l hl
      exact ⟨a, by simpa [PyData.canLay0] using b, by simp only [PyData.depth]; omega, by simpa [PyData.eqv] using e⟩
    | tup l hl =>
      obtain ⟨a, b, c, e⟩ := pn_all ih l hl
      exact ⟨a, by simpa [PyData.canLay0] using b, by simp only [PyData.depth]; omega, by simpa [PyData.eqv] using e⟩
theorem PN.plain {n : Nat} {d : PyData} (h : PN n d) (hn : n ≤ 64 := by decide) : plainD d = true := by
  obtain ⟨a, b, c, _⟩ := pn_ok n d h
  unfold plainD SeqAt.shaped
  rw [a, b, decide_eq_true (Nat.le_trans c hn)]
  rfl
theorem PN.refl {n : Nat} {d : PyData} (h : PN n d) : PyData.eqv d d = true := (pn_ok n d h).2.2.2
theorem PN.ints {n : Nat} (ns : List Int) : PN (n + 1) (.list (ns.map PyData.int)) := .lst _ fun x hx => by
  obtain ⟨k, _, rfl⟩ := List.mem_map.mp hx
  exact .int k
theorem PN.intsT {n : Nat} (ns : List Int) : PN (n + 1) (.tuple (ns.map PyData.int)) := .tup _ fun x hx => by
  obtain ⟨k, _, rfl⟩ := List.mem_map.mp hx
  exact .int k
end Kt

/-! Ktd: ranges with a step, ranges from their end: one rule for a comprehension, one for a loop. -/
namespace Kt
open PySem PySem.Spec PyProof.Rows L2
theorem lc_steps {lo c : Int} {n : Nat} {g : TG} {tt : TT} {te : TE} {vs : List Nat} {σ : L2.St} {H1 : Hp} {D : Addr} {Qd : Hp → Prop} (W : Nat → Hp → Prop) (start : W 0 (upd H1 D (.lst [])))
    (one : ∀ i H, i < n → W i H → g (.int (lo + (i : Nat) * c)) (wipe σ vs) H fun σ2 H2 => wipe σ2 vs = wipe σ vs ∧ tt σ2 H2 fun b H3 =>
      if b = true then te σ2 H3 fun y H4 => ∃ acc, H4 D = some (.lst acc) ∧ acc.length < sizeLine ∧ W (i + 1) (upd H4 D (.lst (acc ++ [y]))) else W (i + 1) H3) (fin : ∀ H, W n H → Qd H) :
    ∃ V : Nat → Nat → Hp → Prop, (∃ m, V 0 m (upd H1 D (.lst []))) ∧ ∀ i m H, V i m H →
      ((Itc lo c n).stop i H ∧ Qd H) ∨ ((Itc lo c n).go i H ∧ ∃ Nx : Hp → Prop, (∀ H', Nx H' → ∃ m', m' < m ∧ V (i + 1) m' H') ∧ ∀ x H', (Itc lo c n).yld i H x H' →
        g x (wipe σ vs) H' fun σ2 H2 => wipe σ2 vs = wipe σ vs ∧ tt σ2 H2 fun b H3 => if b = true then te σ2 H3 fun y H4 => ∃ acc, H4 D = some (.lst acc) ∧ acc.length < sizeLine ∧ Nx (upd H4 D (.lst (acc ++ [y]))) else Nx H3) := by
  refine ⟨fun i m H => m + i = n ∧ W i H, ⟨n, rfl, start⟩, fun i m H hw => ?_⟩
  obtain ⟨hm, p⟩ := hw
  cases m with
  | zero =>
    refine .inl ⟨show n ≤ i by omega, fin H ?_⟩
    rw [show n = i by omega]
    exact p
  | succ m =>
    refine .inr ⟨show i < n by omega, W (i + 1), fun H' p' => ⟨m, Nat.lt_succ_self m, by omega, p'⟩, fun x H' y => ?_⟩
    obtain ⟨y1, y2⟩ := y
    rw [y1, y2]
    exact one i H (by omega) p
section
variable {X : Cx} {N : Ent} {ρ ρ' : Rho} {M M1 M2 M3 M' : Mem} {a b c e elt iter : Expr} {pos p pos' : Pos} {i j k : It} {scope : Scope} {Z : Post} {rest body : List Stmt} {tg : Expr}
/-- iterating this walks lo, lo + st, .. n times -/
def IC (X : Cx) (N : Ent) (ρ : Rho) (M : Mem) (iter : Expr) (lo st : Int) (n : Nat) (M1 : Mem) : Prop :=
  ∃ ti : TI, (∀ tg, PI X tg iter ti) ∧ ∀ σ H P, Holds N P H M → Slots P σ ρ → ∀ R, (∀ H1 P1, Ex P P1 → Holds N P1 H1 M1 → R (Itc lo st n) H1) → ti σ H R
theorem ic_range3 {p rp : Pos} {z1 z2 z3 : Int} {n : Nat} (hmr : X.mg "range" = none) (ha : EJ X N ρ M a (dI z1) M1) (hb : EJ X N ρ M1 b (dI z2) M2) (hc : EJ X N ρ M2 c (dI z3) M3) (hn : RgC z1 z2 z3 n) (hg : Gl X "range" := by rfl)
    (hs : starEach [a, b, c] X.env = (false, eval a X.env) :: starEach [b, c] X.env := by rfl) (hs2 : starEach [b, c] X.env = (false, eval b X.env) :: starEach [c] X.env := by rfl) (hs3 : starEach [c] X.env = [(false, eval c X.env)] := by rfl) (hpl : (backTo rp (starEach [b, c] X.env)).any (·.1) = false := by rfl) :
    IC X N ρ M (.Call (.Name "range" p) [a, b, c] [] rp) z1 z3 n M3 := by
  refine ⟨iRng3 (wA X [a, b, c]), fun tg => pi_range3 hg hmr pa_w hs hpl, fun σ H P hh g R q => ?_⟩
  refine aj_cons ha (aj_cons hb (aj_cons hc aj_nil hs3) hs2) hs σ H P hh g _ fun vs H1 P1 e1 h1 r1 => ?_
  match vs, r1 with
  | [x, y, w], ⟨rx, ry, rw', _⟩ =>
    cases ri_int rx
    cases ri_int ry
    cases ri_int rw'
    exact ⟨z1, z2, z3, n, rfl, hn, q H1 P1 e1 h1⟩
/-- reversed(range(z)) -/
theorem ic_rev {p rp p2 rp2 : Pos} {z : Int} (hmr : X.mg "range" = none) (hmv : X.mg "reversed" = none) (ha : EJ X N ρ M a (dI z) M1) (hz : -(2 ^ 62) ≤ z ∧ z < 2 ^ 62) (hg : Gl X "range" := by rfl) (hgv : Gl X "reversed" := by rfl)
    (hs : starEach [a] X.env = (false, eval a X.env) :: starEach [] X.env := by rfl)
    (hs2 : starEach [.Call (.Name "range" p) [a] [] rp] X.env = (false, eval (.Call (.Name "range" p) [a] [] rp) X.env) :: starEach [] X.env := by rfl) :
    IC X N ρ M (.Call (.Name "reversed" p2) [.Call (.Name "range" p) [a] [] rp] [] rp2) (z.toNat - 1) (-1) z.toNat M1 := by
  refine ⟨iRevR (tRg1 (wE X a)), fun tg => pi_revR hgv hmv (prg_1 hg hmr pe_w hs) hs2, fun σ H P hh g R q => ?_⟩
  refine ha σ H P hh g _ fun v H1 P1 e1 h1 r1 => ?_
  cases ri_int r1
  refine ⟨z, rfl, by decide, by decide, hz.1, hz.2, ?_⟩
  rw [show ((0 : Int) + (((z - 0).toNat : Nat) : Int) - 1) = (z.toNat : Int) - 1 by rw [Int.sub_zero, Int.zero_add], Int.sub_zero]
  exact q H1 P1 e1 h1
theorem lj_ic {lo st : Int} {z : Nat} {ti : TI} (n : Nat) (A : Nat → List It) (Mi : Nat → Mem) (hN : X.N.Nodup) (hi : ∀ σ H P, Holds N P H M → Slots P σ ρ → ∀ R, (∀ H1 P1, Ex P P1 → Holds N P1 H1 M1 → R (Itc lo st z) H1) → ti σ H R)
    (hA0 : A 0 = []) (hM0 : Mi 0 = M1) (hz : z ≤ 100000)
    (step : ∀ (m : Nat), m < z → ∃ j, A (m + 1) = A m ++ [j] ∧ (A m).length ≤ m ∧ ∀ N' s H C cl fp, EJ (X.blk s H scope (compEnvC scope cl C X.env) fp) N' (ρ.set n (some (dI (lo + (m : Nat) * st)))) (Mi m) elt j (Mi (m + 1))) :
    LJ X N ρ M (tLc ti (gName n) tYes (wBE X scope elt) [n]) (A z) (Mi z) := fun σ H P hh g Q q => by
  refine hi σ H P hh g _ fun H1 P1 e1 h1 D hD => ?_
  refine lc_steps (fun m H' => ∃ P', Holds N P' H' (Mi m ++ [(D, A m)]) ∧ Ex P1 P') ⟨P1, by rw [hA0, hM0]; exact h1.own hD (its := []) trivial, Ex.refl _⟩ (fun m H' nl hw => ?_) (fun H' hw => ?_)
  · obtain ⟨P', h2, e2⟩ := hw
    obtain ⟨j, eA, lA, S⟩ := step m nl
    refine ⟨wipe_comp n, ?_⟩
    unfold tYes
    dsimp only
    rw [if_pos rfl]
    intro s H0 C cl fp
    refine S (inner P' H' (Mi m)) s H0 C cl fp _ H' P' h2.enter (slots_comp (g.ex (e1.trans e2)) n (.int _)) _ fun y H4 P4 e4 h4 r4 => ?_
    have h5 := h2.leave h4
    obtain ⟨acc, ea, ra⟩ := h5.cell (a := D) (its := A m) (List.mem_append_right _ (List.mem_singleton.mpr rfl))
    refine ⟨acc, ea, by rw [ra.len]; exact Nat.lt_of_lt_of_le (Nat.lt_of_le_of_lt lA (by omega : m < 100000)) (by decide), P4, ?_, e2.trans e4⟩
    have h6 := h5.write (a := D) (its := A m) (its' := A (m + 1)) (List.mem_append_right _ (List.mem_singleton.mpr rfl)) (xs' := acc ++ [y]) (by rw [eA]; exact ra.app ⟨r4, trivial⟩)
    rw [put_last h5.nd] at h6
    exact h6
  · obtain ⟨P', h2, e2⟩ := hw
    exact q D H' P' (e1.trans e2) (h1.newF hD) h2
/-- [elt for x in such a walk] -/
theorem el_compC {x : Str} {p : Pos} (n : Nat) {lo st : Int} {z : Nat} (A : Nat → List It) (Mi : Nat → Mem) (hc : X.calm = true) (hN : X.N.Nodup) (hi : IC X N ρ M iter lo st z M1)
    (hA0 : A 0 = []) (hM0 : Mi 0 = M1) (hz : z ≤ 100000)
    (step : ∀ (m : Nat), m < z → ∃ j, A (m + 1) = A m ++ [j] ∧ (A m).length ≤ m ∧ ∀ N' s H C cl fp, EJ (X.blk s H scope (compEnvC scope cl C X.env) fp) N' (ρ.set n (some (dI (lo + (m : Nat) * st)))) (Mi m) elt j (Mi (m + 1)))
    (ok : BlkOk X.N X.env.scope scope [(x, n)] := by exact blkOk_by (by kernel_rfl))
    (hgn : ∀ (s : Shared) (H : Hp) (C : Addr) (cl : List (Str × Addr)) (fp : List Addr), PG (X.blk s H scope (compEnvC scope cl C X.env) fp) (.Name x p) (gName n) := by exact fun _ _ _ _ _ => pg_name (by assumption) rfl (Or.inl rfl))
    (hf : ∀ x, foldedSetIterable iter X.env x = pure x := by intro _; rfl) : EL X N ρ M (.ListComp elt [⟨.Name x p, iter, [], 0⟩] scope pos) (A z) (Mi z) := by
  obtain ⟨ti, pi, hi⟩ := hi
  exact el_lc (lj_ic n A Mi hN hi hA0 hM0 hz step) (pe_lc hc hN (pi _) ok hgn (fun _ _ _ _ _ => pts_nil) (te := wBE X scope elt) (fun s H C cl fp => ⟨fun pins s1 σ1 H1 Q1 I1 h1 => h1 s H C cl fp pins s1 I1⟩) hf)
/-- for tg in such a walk -/
theorem sj_forC {lo st : Int} {z : Nat} (hc : X.calm = true) (hi : IC X N ρ M iter lo st z M1) (Inv : Nat → Rho → Mem → Prop) (h0 : Inv 0 ρ M1)
    (step : ∀ n ρ' M', n < z → Inv n ρ' M' → ∃ ρ2, GJ X N tg (dI (lo + (n : Nat) * st)) ρ' ρ2 ∧ SJ X N ρ2 M' body { nx := Inv (n + 1), ct := Inv (n + 1), bk := fun ρ' M' => SJ X N ρ' M' rest Z, rt := Z.rt, er := Z.er })
    (done : ∀ ρ' M', Inv z ρ' M' → SJ X N ρ' M' rest Z) (hp : PassesOwn (model X.prog X.w) X.A X.env X.xe := by exact PassesOwn.never)
    (hf : ∀ x, foldedSetIterable iter X.env x = pure x := by intro _; rfl) : SJ X N ρ M (.For tg iter body [] pos :: rest) Z := sj_cons fun σ H P hh g D E tk z' => by
  obtain ⟨ti, pi, hi⟩ := hi
  refine s_of (ps_for hp hc (pi _) pg_w pss_w hf) (hi σ H P hh g _ fun H1 P1 e1 h1 => ?_)
  refine for_rangeC (lo := lo) (n := z) (fun n σ' H' => ∃ ρ' M' P', Inv n ρ' M' ∧ Holds N P' H' M' ∧ Slots P' σ' ρ' ∧ Ex P1 P') ⟨ρ, M1, P1, h0, h1, g.ex e1, Ex.refl _⟩ (fun n σ' H' hn hw => ?_) (fun σ' H' hw => ?_)
  · obtain ⟨ρ', M', P', w, h2, g2, e2⟩ := hw
    obtain ⟨ρ2, G, S⟩ := step n ρ' M' hn w
    refine G _ σ' H' P' M' h2 g2 (.int _) _ fun σ2 g3 => ?_
    exact S σ2 H' P' h2 g3 _ E tk ⟨fun ρ4 M4 σ4 H4 P4 a e h g => ⟨ρ4, M4, P4, a, h, g, e2.trans e⟩, fun i M4 v H4 P4 a e h r => z'.rt i M4 v H4 P4 a ((e1.trans e2).trans e) h r, fun ρ4 M4 σ4 H4 P4 a e h g => z'.nx ρ4 M4 σ4 H4 P4 a ((e1.trans e2).trans e) h g, fun ρ4 M4 σ4 H4 P4 a e h g => ⟨ρ4, M4, P4, a, h, g, e2.trans e⟩, fun w M4 d H4 P4 C c a e h x => z'.er w M4 d H4 P4 C c a ((e1.trans e2).trans e) h x⟩
  · obtain ⟨ρ', M', P', w, h2, g2, e2⟩ := hw
    exact z'.nx ρ' M' σ' H' P' (done ρ' M' w) (e1.trans e2) h2 g2
/-- xs[lo:hi], the parts ints that are reckoned -/
theorem el_slV {ds : List PyData} {lo hi : Expr} {l h : Int} {p2 : Pos} (ha : EJ X N ρ M a (.d (.list ds)) M1) (hl : EJ X N ρ M1 lo (dI l) M2) (hh : EJ X N ρ M2 hi (dI h) M3) :
    EL X N ρ M (.Subscript a (.Slice (some lo) (some hi) none p2) pos) ((cutD ds (some l) (some h)).map It.d) M3 := fun σ H P hd g Q q => by
  refine e_of (pe_slice sl_list pe_w (po_some pe_w) (po_some pe_w)) (ha σ H P hd g _ fun x H1 P1 e1 h1 r1 => ?_)
  refine hl σ H1 P1 h1 (g.ex e1) _ fun v2 H2 P2 e2 h2 r2 => ⟨l, ri_int r2, ?_⟩
  refine hh σ H2 P2 h2 (g.ex (e1.trans e2)) _ fun v3 H3 P3 e3 h3 r3 => ⟨h, ri_int r3, ?_⟩
  obtain ⟨a, xs, rfl, h4, h5⟩ := ri_lst (r1.ex (e2.trans e3))
  exact ⟨a, xs, rfl, .inl (.inl (h3.ex _ _ h4)), fun p hp => q p _ P3 (e1.trans (e2.trans e3)) (h3.newF hp) (h3.own hp (RepIs.of_all (h5.cut (some l) (some h))))⟩
end
end Kt

/-! Kte: comprehensions with two clauses, the inner one over a list that is reckoned. -/
namespace Kt
open PySem PySem.Spec PyProof.Rows L2
def flatL (fl : PyData → List PyData) (f : PyData → PyData → PyData) : List PyData → List PyData
  | [] => []
  | d :: r => (fl d).map (f d) ++ flatL fl f r
theorem flatL_app (fl : PyData → List PyData) (f : PyData → PyData → PyData) : ∀ a b : List PyData, flatL fl f (a ++ b) = flatL fl f a ++ flatL fl f b
  | [], b => rfl
  | d :: r, b => by
    show (fl d).map (f d) ++ flatL fl f (r ++ b) = ((fl d).map (f d) ++ flatL fl f r) ++ flatL fl f b
    rw [flatL_app fl f r b, List.append_assoc]
theorem flatL_take (fl : PyData → List PyData) (f : PyData → PyData → PyData) {ds : List PyData} {i : Nat} {d : PyData} (h : ds[i]? = some d) : flatL fl f (ds.take (i + 1)) = flatL fl f (ds.take i) ++ (fl d).map (f d) := by
  rw [List.take_add_one, h, flatL_app]
  show _ ++ ((fl d).map (f d) ++ []) = _
  rw [List.append_nil]
theorem flatL_len (fl : PyData → List PyData) (f : PyData → PyData → PyData) (z : Nat) : ∀ ds : List PyData, (∀ d ∈ ds, (fl d).length ≤ z) → (flatL fl f ds).length ≤ ds.length * z
  | [], _ => by simp [flatL]
  | d :: r, h => by
    have hl := h d List.mem_cons_self
    show ((fl d).map (f d) ++ flatL fl f r).length ≤ _
    have := flatL_len fl f z r fun d hd => h d (List.mem_cons_of_mem _ hd)
    rw [List.length_append, List.length_map, List.length_cons, Nat.succ_mul]
    omega
section
variable {X : Cx} {N : Ent} {ρ ρ' : Rho} {M M1 M2 M3 M' Mc Mr Mc' : Mem} {a b c e elt iter iter1 : Expr} {pos p pos' : Pos} {i j k : It} {t u : Bool} {scope : Scope}
/-- [elt for x in xs for y in (a list reckoned from x)] -/
theorem el_comp2L {x y : Str} {px py : Pos} (n1 n2 : Nat) {ds : List PyData} (fl : PyData → List PyData) (f : PyData → PyData → PyData) (hc : X.calm = true) (hN : X.N.Nodup) (ne : n1 ≠ n2) (hi : EJ X N ρ M iter (.d (.list ds)) M1)
    (hz : ds.length ≤ 1000) (shape : ∀ d ∈ ds, (fl d).length ≤ 64)
    (src : ∀ d ∈ ds, ∀ N' s H C cl fp, EJ (X.blk s H scope (compEnvC scope cl C X.env) fp) N' ((ρ.set n2 none).set n1 (some (.d d))) M1 iter1 (.d (.list (fl d))) M1)
    (step : ∀ (d0 d : PyData), d0 ∈ ds → d ∈ fl d0 → ∀ N' s H C cl fp, EJ (X.blk s H scope (compEnvC scope cl C X.env) fp) N' (((ρ.set n2 none).set n1 (some (.d d0))).set n2 (some (.d d))) M1 elt (.d (f d0 d)) M1)
    (ok : BlkOk X.N X.env.scope scope [(x, n1), (y, n2)] := by exact blkOk_by (by kernel_rfl))
    (hg1 : ∀ (s : Shared) (H : Hp) (C : Addr) (cl : List (Str × Addr)) (fp : List Addr), PG (X.blk s H scope (compEnvC scope cl C X.env) fp) (.Name x px) (gName n1) := by exact fun _ _ _ _ _ => pg_name (by assumption) rfl (Or.inl rfl))
    (hg2 : ∀ (s : Shared) (H : Hp) (C : Addr) (cl : List (Str × Addr)) (fp : List Addr), PG (X.blk s H scope (compEnvC scope cl C X.env) fp) (.Name y py) (gName n2) := by exact fun _ _ _ _ _ => pg_name (by assumption) rfl (Or.inl rfl))
    (hf : ∀ x, foldedSetIterable iter X.env x = pure x := by intro _; rfl) (hf1 : ∀ env x, foldedSetIterable iter1 env x = pure x := by intro _ _; rfl) : EL X N ρ M (.ListComp elt [⟨.Name x px, iter, [], 0⟩, ⟨.Name y py, iter1, [], 0⟩] scope pos) ((flatL fl f ds).map It.d) M1 := fun σ H P hh g Q q => by
  have pi1 : ∀ (s : Shared) (H : Hp) (C : Addr) (cl : List (Str × Addr)) (fp : List Addr), PI (X.blk s H scope (compEnvC scope cl C X.env) fp) (.Name y py) iter1 (iList X.K (wBE X scope iter1)) := fun s H C cl fp =>
    pi_list (X := X.blk s H scope (compEnvC scope cl C X.env) fp) ⟨fun pins s1 σ1 H1 Q1 I1 h1 => h1 s H C cl fp pins s1 I1⟩
  refine e_of (pe_lc2 (vs1 := [n2]) (te := wBE X scope elt) hc hN (pi_list pe_w) ok (by simp) hg1 (fun _ _ _ _ _ => pts_nil) pi1 hg2 (fun _ _ _ _ _ => pts_nil) (fun s H C cl fp => ⟨fun pins s1 σ1 H1 Q1 I1 h1 => h1 s H C cl fp pins s1 I1⟩) hf hf1) (hi σ H P hh g _ fun v H1 P1 e1 h1 r1 => ?_)
  obtain ⟨a, xs, rfl, x1, x2⟩ := ri_lst r1
  have xl := dnAll_len x2
  refine ⟨a, rfl, ⟨xs, .inl (.inl (h1.ex _ _ x1))⟩, fun D hD => ?_⟩
  refine ⟨fun i m H => m = xs.length - i ∧ i ≤ xs.length ∧ ∃ P', Holds N P' H (M1 ++ [(D, (flatL fl f (ds.take i)).map It.d)]) ∧ Ex P1 P', ⟨xs.length, by simp, Nat.zero_le _, P1, h1.own hD (its := []) trivial, Ex.refl _⟩, ?_⟩
  rintro i m H2 ⟨rfl, hil, P2, h2, e2⟩
  have sq : SqL X.K H2 a xs := .inl (.inl (h2.ex _ _ (e2 _ _ x1)))
  by_cases hlt : i < xs.length
  · refine .inr ⟨⟨xs, xs[i], sq, by simp [hlt]⟩, fun H' => ∃ P', Holds N P' H' (M1 ++ [(D, (flatL fl f (ds.take (i + 1))).map It.d)]) ∧ Ex P1 P', fun H' p' => ⟨xs.length - (i + 1), by omega, rfl, hlt, p'⟩, fun x' H' yl => ?_⟩
    obtain ⟨rfl, yx⟩ := yl
    have hx := yx xs sq
    have nl : i < ds.length := xl ▸ hlt
    obtain ⟨v', ev, dv⟩ := dnAll_get x2 (List.getElem?_eq_getElem nl)
    rw [hx] at ev
    cases Option.some.inj ev
    have hmem : ds[i] ∈ ds := List.getElem_mem nl
    have ll := shape _ hmem
    generalize hl : fl ds[i] = l at ll
    refine ⟨wipe_first ne, ?_⟩
    unfold tYes
    dsimp only
    rw [if_pos rfl]
    intro s H0 C cl fp
    have g2 : Slots P2 ((wipe σ [n1, n2]).set n1 (some x')) ((ρ.set n2 none).set n1 (some (.d ds[i]))) := by
      have e : (wipe σ [n1, n2]).set n1 (some x') = (σ.set n2 none).set n1 (some x') := by
        show ((σ.set n2 none).set n1 none).set n1 (some x') = _
        rw [List.set_set]
      rw [e]
      exact ((g.ex (e1.trans e2)).unset n2 none).set (it := .d ds[i]) (dn_ex e2 _ _ dv) n1
    refine src _ hmem (inner P2 H' M1) s H0 C cl fp _ H' P2 h2.enter g2 _ fun w H4 P4 e4 h4 r4 => ?_
    have h5 := h2.leave h4
    rw [hl] at r4
    obtain ⟨ta, ts, rfl, t1, t2⟩ := ri_lst r4
    have tl := dnAll_len t2
    refine ⟨ta, rfl, ⟨ts, .inl (.inl (h5.ex _ _ t1))⟩, fun j k H => k = ts.length - j ∧ j ≤ ts.length ∧ ∃ P', Holds N P' H (M1 ++ [(D, (flatL fl f (ds.take i) ++ (l.take j).map (f ds[i])).map It.d)]) ∧ Ex P4 P', ⟨ts.length, by simp, Nat.zero_le _, P4, by simpa using h5, Ex.refl _⟩, ?_⟩
    rintro j k H6 ⟨rfl, hjl, P6, h6, e6⟩
    have sq6 : SqL X.K H6 ta ts := .inl (.inl (h6.ex _ _ (e6 _ _ t1)))
    by_cases hjt : j < ts.length
    · refine .inr ⟨⟨ts, ts[j], sq6, by simp [hjt]⟩, fun H' => ∃ P', Holds N P' H' (M1 ++ [(D, (flatL fl f (ds.take i) ++ (l.take (j + 1)).map (f ds[i])).map It.d)]) ∧ Ex P4 P', fun H' p' => ⟨ts.length - (j + 1), by omega, rfl, hjt, p'⟩, fun x7 H7 yl7 => ?_⟩
      obtain ⟨rfl, yx7⟩ := yl7
      have hx7 := yx7 ts sq6
      have nl7 : j < l.length := tl ▸ hjt
      obtain ⟨v7, ev7, dv7⟩ := dnAll_get t2 (List.getElem?_eq_getElem nl7)
      rw [hx7] at ev7
      cases Option.some.inj ev7
      refine ⟨wipe_comp n2, ?_⟩
      dsimp only
      rw [if_pos rfl]
      intro s H0 C cl fp
      have g7 := slots_comp (g2.ex (e4.trans e6)) n2 (i := .d l[j]) (dn_ex e6 _ _ dv7)
      refine step ds[i] l[j] hmem (by rw [hl]; exact List.getElem_mem nl7) (inner P6 H7 M1) s H0 C cl fp _ H7 P6 h6.enter g7 _ fun y8 H8 P8 e8 h8 r8 => ?_
      have h9 := h6.leave h8
      obtain ⟨acc, ea, ra⟩ := h9.cell (a := D) (its := (flatL fl f (ds.take i) ++ (l.take j).map (f ds[i])).map It.d) (List.mem_append_right _ (List.mem_singleton.mpr rfl))
      have hlen := flatL_len fl f 64 (ds.take i) fun d hd => shape d (List.mem_of_mem_take hd)
      refine ⟨acc, ea, ?_, P8, ?_, e6.trans e8⟩
      · rw [ra.len]
        refine Nat.lt_of_lt_of_le (m := 100000) ?_ (by decide)
        simp
        have : (List.take i ds).length ≤ 1000 := by rw [List.length_take]; omega
        have h64 : (flatL fl f (List.take i ds)).length ≤ 64000 := Nat.le_trans hlen (by omega)
        omega
      · have h10 := h9.write (a := D) (its := (flatL fl f (ds.take i) ++ (l.take j).map (f ds[i])).map It.d) (its' := (flatL fl f (ds.take i) ++ (l.take (j + 1)).map (f ds[i])).map It.d) (List.mem_append_right _ (List.mem_singleton.mpr rfl)) (xs' := acc ++ [y8]) (by
          have e11 : (flatL fl f (ds.take i) ++ (l.take (j + 1)).map (f ds[i])).map It.d = (flatL fl f (ds.take i) ++ (l.take j).map (f ds[i])).map It.d ++ [It.d (f ds[i] l[j])] := by
            rw [List.take_add_one, List.getElem?_eq_getElem nl7, List.map_append, List.map_append, List.map_append, List.map_append, List.append_assoc]
            rfl
          rw [e11]
          exact ra.app ⟨r8, trivial⟩)
        rw [put_last h9.nd] at h10
        exact h10
    · have ej : j = ts.length := by omega
      subst ej
      refine .inl ⟨⟨ts, sq6, Nat.le_refl _⟩, P6, ?_, (e2.trans e4).trans e6⟩
      rw [flatL_take fl f (List.getElem?_eq_getElem nl), hl]
      rw [tl, List.take_length] at h6
      exact h6
  · have ei : i = xs.length := by omega
    subst ei
    refine .inl ⟨⟨xs, sq, Nat.le_refl _⟩, ?_⟩
    rw [xl, List.take_length] at h2
    exact q D H2 P2 (e1.trans e2) (h1.newF hD) h2
end
end Kt

/-! Ktf: tuples of any length joined, cut and repeated; targets of several names. -/
namespace Kt
open PySem PySem.Spec PyProof.Rows L2
section
variable {X : Cx} {N : Ent} {ρ ρ' ρ1 ρ2 : Rho} {M M1 M2 M3 M' : Mem} {a b c e : Expr} {pos p pos' : Pos} {i j k : It}
theorem rj_catA {ds es : List PyData} (hz : ds.length + es.length ≤ 100000) : RJ N (rCatA X.K) M (.d (.tuple ds)) (.d (.tuple es)) (.d (.tuple (ds ++ es))) M := fun x y H P h rx ry Q q => by
  obtain ⟨a, xs, rfl, h1, h2⟩ := ri_tup rx
  obtain ⟨b, ys, rfl, h3, h4⟩ := ri_tup ry
  have l1 := dnAll_len h2
  have l2 := dnAll_len h4
  refine ⟨a, b, xs, ys, rfl, rfl, .inl (.inl (h.ex _ _ h1)), .inl (.inl (h.ex _ _ h3)), by rw [l1, l2]; exact Nat.le_trans hz (by decide), fun ex => ?_, fun _ ey => ?_, fun _ _ p hp => ?_⟩
  · rw [ex] at l1
    have : ds = [] := List.length_eq_zero_iff.mp l1.symm
    subst this
    exact q _ H P (Ex.refl P) h (.tup h3 h4)
  · rw [ey] at l2
    have : es = [] := List.length_eq_zero_iff.mp l2.symm
    subst this
    rw [List.append_nil] at q
    exact q _ H P (Ex.refl P) h (.tup h1 h2)
  · obtain ⟨h5, e5⟩ := h.pers (o := .tup (xs ++ ys)) hp
    exact q _ _ _ e5 h5 (.tup upd_same (dnAll_ex e5 _ _ (h2.app h4)))
/-- t + u -/
theorem ej_catA {ds es : List PyData} (ha : EJ X N ρ M a (.d (.tuple ds)) M1) (hb : EJ X N ρ M1 b (.d (.tuple es)) M2) (hz : ds.length + es.length ≤ 100000) : EJ X N ρ M (.BinOp a .Add b pos) (.d (.tuple (ds ++ es))) M2 := ej_op op_catA ha hb (rj_catA hz)
/-- t * n, two times at least -/
theorem ej_repT {ds : List PyData} {n : Int} (ha : EJ X N ρ M a (.d (.tuple ds)) M1) (hb : EJ X N ρ M1 b (dI n) M2) (h0 : ds ≠ []) (h1 : 2 ≤ n) (h2 : n ≤ 1000) (hz : ds.length ≤ 1000) : EJ X N ρ M (.BinOp a .Mult b pos) (.d (.tuple (List.replicate n.toNat ds).flatten)) M2 :=
  ej_op op_repT ha hb fun x y H P h rx ry Q q => by
    obtain ⟨l, xs, rfl, h3, h4⟩ := ri_tup rx
    have l1 := dnAll_len h4
    refine ⟨l, n, xs, rfl, ri_int ry, .inl (.inl (h.ex _ _ h3)), fun ex => h0 ?_, h1, h2, by rw [l1]; exact hz, fun p hp => ?_⟩
    · rw [ex] at l1
      exact List.length_eq_zero_iff.mp l1.symm
    · obtain ⟨h5, e5⟩ := h.pers (o := .tup (List.replicate n.toNat xs).flatten) hp
      exact q _ _ _ e5 h5 (.tup upd_same (dnAll_ex e5 _ _ (h4.rep _)))
/-- t[lo:hi], the parts written ints or none, the whole of it too -/
theorem ej_slA {ds : List PyData} {lo hi : Option Expr} {l h : Option Int} {tl th : TO} {p2 : Pos} (ha : EJ X N ρ M a (.d (.tuple ds)) M1) (pl : PO X lo tl) (ph : PO X hi th) (el : ∀ σ H Q, Q l H → tl σ H Q) (eh : ∀ σ H Q, Q h H → th σ H Q) :
    EJ X N ρ M (.Subscript a (.Slice lo hi none p2) pos) (.d (.tuple (cutD ds l h))) M1 := fun σ H P hh g Q q =>
  e_of (pe_slice sl_tupA pe_w pl ph) (ha σ H P hh g _ fun x H1 P1 e1 h1 r1 => el _ _ _ (eh _ _ _ (by
    obtain ⟨a, xs, rfl, h3, h4⟩ := ri_tup r1
    have l1 := dnAll_len h4
    refine ⟨a, xs, rfl, .inl (.inl (h1.ex _ _ h3)), fun hw => ?_, fun _ p hp => ?_⟩
    · rw [l1] at hw
      have e : cutD ds l h = ds := by
        unfold cutD
        rw [hw.1, hw.2, List.drop_zero, Nat.sub_zero, List.take_length]
      rw [e] at q
      exact q _ H1 P1 e1 h1 (.tup h3 h4)
    · obtain ⟨h5, e5⟩ := h1.pers (o := .tup (cutV xs l h)) hp
      exact q _ _ _ (e1.trans e5) h5 (.tup upd_same (dnAll_ex e5 _ _ (h4.cut l h))))))
/-- several targets, one datum each -/
def GsJ (X : Cx) (N : Ent) (es : List Expr) (ds : List PyData) (ρ ρ' : Rho) : Prop :=
  ∃ t : TGs, PGs X es t ∧ ∀ vs σ H P M, Holds N P H M → Slots P σ ρ → DnAll P vs ds → ∀ Q : L2.St → Hp → Prop, (∀ σ', Slots P σ' ρ' → Q σ' H) → t vs σ H Q
theorem gs_nil : GsJ X N [] [] ρ ρ := ⟨gNil, pgs_nil, fun vs σ H P M hh g r Q q => by
  cases r
  exact ⟨rfl, q σ g⟩⟩
theorem gs_cons {es : List Expr} {d : PyData} {ds : List PyData} {x : Str} (n : Nat) (hN : X.N.Nodup) (h : GsJ X N es ds (ρ.set n (some (.d d))) ρ') (hi : X.N[n]? = some x := by rfl) (hx : Loc X.env.scope x := by first | exact .inl rfl | exact .inr rfl) (hf : X.fn x = true ∨ X.env.scope.names.lookup x = some .local := by first | exact .inl rfl | exact .inr rfl)
    (hs : (assignEach (.Name x p :: es) X.env).map (·.2) = assign (.Name x p) X.env :: (assignEach es X.env).map (·.2) := by rfl) : GsJ X N (.Name x p :: es) (d :: ds) ρ ρ' := by
  obtain ⟨t, pt, ht⟩ := h
  refine ⟨gCons (gName n) t, pgs_cons (pg_name (i := n) hN hi hx hf) pt hs, fun vs σ H P M hh g r Q q => ?_⟩
  cases r with
  | cons r1 r2 => exact ⟨_, _, rfl, ht _ _ H P M hh (g.set (it := .d d) r1 n) r2 Q q⟩
theorem gj_tup {es : List Expr} {ds : List PyData} {kk : Nat} (hc : X.calm = true) (h : GsJ X N es ds ρ ρ') (hl : es.length = ds.length := by rfl)
    (hn : (assignEach es X.env).length = es.length := by rfl) (hst : (assignEach es X.env).findIdx? (·.1) = none := by rfl) : GJ X N (.Tuple es kk pos) (.d (.tuple ds)) ρ ρ' := fun v σ H P M hh g r Q q => by
  obtain ⟨t, pt, ht⟩ := h
  obtain ⟨a, xs, rfl, h1, h2⟩ := ri_tup r
  exact g_of (pg_tup hc pt hn hst) ⟨a, xs, rfl, .inl (.inl (hh.ex _ _ h1)), by rw [dnAll_len h2, hl], ht xs σ H P M hh g h2 Q q⟩
end
end Kt

/-! Ktg: isinstance(e, ..) of an own error that bears a name, in a suite that answers with it. -/
namespace Kt
open PySem PySem.Spec PyProof.Rows L2
/-- what K tells of the error's class, so that isinstance may be asked of its instances -/
structure IsTxt (K : PySem.W.Frag) (Cs C0 : Addr) : Prop where
  cl : (PySem.W.clsIn K Cs).isSome = true
  sb : PySem.W.subIn K (.ref Cs) (.type "BaseException") = some true
  ha : PySem.W.findIn K (.ref Cs) "__class__" = some (some (.builtin "object.__class__"))
  hn : PySem.W.specialIn K (.builtin "object.__class__") "__get__" = some (some (.builtin "getset_descriptor.__get__"))
  ht : PySem.W.takesIn K (.builtin "object.__class__") = some true
  hm : PySem.W.mroIn K Cs (.type "object") = some true
  k0 : PySem.W.kitOne K (.ref Cs) (.ref C0) = some true
  kV : PySem.W.kitOne K (.ref Cs) (.type "ValueError") = some true
section
variable {X : Cx} {N : Ent} {M' : Mem} {Cs C0 fI a dd : Addr} {fd : FuncData} {sI : Stmt} {oe : Obj} {pn : List (Addr × Obj)} {pos : Pos} {rest : List Stmt}
def rIsD (K : PySem.W.Frag) (D a dd : Addr) : List V → Hp → VK → Prop := fun xs H Q => ∃ (c : V) (cv : Value) (b : Bool) (z : Str), xs = [.ref a, c] ∧ (∀ u, RelV c u → u = cv) ∧ PySem.W.kitOne K (.ref D) cv = some b ∧ H dd = some (XD z) ∧ Q (.bl b) H
theorem call_isD (T : ErrTxt X.K X.mg sI Cs C0 fI fd) (I0 : IsTxt X.K Cs C0) (hz : Zc (.ref Cs) (some dd) oe) (hf : ∃ vs, oe.data = .fields vs) : CallR (X.suite a ((a, oe) :: pn)) (.builtin "isinstance") (rIsD X.K Cs a dd) := by
  intro pins s σ H xs us Q I r h
  obtain ⟨c, cv, b, z, rfl, hcv, e, hd, q⟩ := h
  obtain ⟨x, us1, rx, r1, rfl⟩ : ∃ x us1, RelV (.ref a) x ∧ Vals [c] us1 ∧ us = x :: us1 := by
    cases r with
    | cons h1 h2 => exact ⟨_, _, h1, h2, rfl⟩
  obtain ⟨u, rt, rfl⟩ : ∃ u, RelV c u ∧ us1 = [u] := by
    cases r1 with
    | cons h1 h2 =>
      cases h2
      exact ⟨_, h1, rfl⟩
  obtain rfl : x = Value.ref a := rx
  obtain rfl := hcv u rt
  obtain ⟨hget, _⟩ := I.pin (a, oe) (List.mem_append_left _ List.mem_cons_self)
  obtain ⟨vs, hv⟩ := hf
  have hx : ObjOk X.prog X.w H s.heap dd (XD z) := I.hok dd _ hd
  obtain ⟨mA, hns, _⟩ := hx
  obtain ⟨od, ho, _⟩ := lookIn_ns hns
  have J : PySem.W.InstAt s.heap a oe Cs (some od) := ⟨hget, hz.1, by unfold PySem.W.notCls; rw [hv] <;> rfl, by rw [hz.2]; exact ho⟩
  exact PySem.W.kia_one (PySem.W.kitx_exc I0.cl T.ga T.gg I0.sb I0.ha I0.hn I0.ht I0.hm) I.kIn J e (fun z => nomatch z) fun tk => ⟨.bl b, H, I.kept (t' := tk) fun _ _ z => z, rfl, q⟩
/-- return isinstance(e, base) and isinstance(e, ValueError) and e.name == '..' -/
theorem suite_isEq (n : Nat) {nm b0 z w : Str} {p1 p2 p3 p4 p5 p6 p7 p8 p9 pA pB pC pD : Pos} {j : Nat} {rt : It → Mem → Prop} (T : ErrTxt X.K X.mg sI Cs C0 fI fd) (I0 : IsTxt X.K Cs C0) (hmi : X.mg "isinstance" = none) (hmv : X.mg "ValueError" = none) (h : rt (dB (decide (z = w))) M') (hi : X.N[n]? = some nm := by rfl)
    (hb0 : X.mg b0 = some (.ref C0)) (hg0 : Gl X b0 := by rfl) (hgi : Gl X "isinstance" := by rfl) (hgv : Gl X "ValueError" := by rfl) (hd0 : (b0 == ("__debug__" : Str)) = false := by decide)
    (hv : Vis X.env.scope nm := by exact Or.inl rfl) (hd : (nm == ("__debug__" : Str)) = false := by decide) (hcd : (nm == ("__classdict__" : Str)) = false := by decide)
    (hb : attributeBase (.Name nm p1) "name" X.env (eval (.Name nm p1) X.env) = eval (.Name nm p1) X.env := by rfl)
    (hs1 : starEach [.Name nm p6, .Name b0 p7] X.env = (false, eval (.Name nm p6) X.env) :: starEach [.Name b0 p7] X.env := by rfl) (hs2 : starEach [.Name b0 p7] X.env = [(false, eval (.Name b0 p7) X.env)] := by rfl) (hpl1 : (backTo p8 (starEach [.Name b0 p7] X.env)).any (·.1) = false := by rfl)
    (hs3 : starEach [.Name nm pA, .Name "ValueError" pB] X.env = (false, eval (.Name nm pA) X.env) :: starEach [.Name "ValueError" pB] X.env := by rfl) (hs4 : starEach [.Name "ValueError" pB] X.env = [(false, eval (.Name "ValueError" pB) X.env)] := by rfl) (hpl2 : (backTo pC (starEach [.Name "ValueError" pB] X.env)).any (·.1) = false := by rfl) :
    SuiteOk X N n Cs (.Return (some (.BoolOp .And [.Call (.Name "isinstance" p5) [.Name nm p6, .Name b0 p7] [] p8, .Call (.Name "isinstance" p9) [.Name nm pA, .Name "ValueError" pB] [] pC, .Compare (.Attribute (.Name nm p1) "name" p2) [.Eq] [.Constant (.str w) j p3] p4] pD)) pos :: rest) z M' rt := fun a dd P' H' σ' oe pn D hh x ha hl hz hf k => by
  have l : n < X.N.length := (List.getElem?_eq_some_iff.mp hi).1
  have sv : (σ'.set n (some (.ref a)))[n]? = some (some (.ref a)) := List.getElem?_set_self (by omega)
  have CI := call_isD (X := X) (pn := pn) (a := a) T I0 hz hf
  have PV : ∀ q : Pos, PE (X.suite a ((a, oe) :: pn)) (.Name nm q) _ := fun q => pe_var (i := n) hi hv hd hcd
  refine ss_of (pss_cons (ps_ret (pe_and (pe_callB CI hgi hmi boot_isinstance (pa_cons (PV p6) (pa_cons (pe_glob hg0 hb0 (v := .ref C0) rfl hd0) pa_nil hs2) hs1) (by decide) (by decide) hs1 hpl1) (pe_and (pe_callB CI hgi hmi boot_isinstance (pa_cons (PV pA) (pa_cons (pe_bltn hgv hmv (by decide +kernel) (v := .ty "ValueError") rfl) pa_nil hs4) hs3) (by decide) (by decide) hs3 hpl2) (pe_one (pe_cmpR op_eq (pe_ename T hz hf (PV p1) hb) pe_str (nomark _)))))) pss_w) ?_
  refine ⟨.ref a, sv, .ref C0, .ref C0, true, z, rfl, fun u hu => hu, I0.k0, x, true, rfl, iteT ?_⟩
  refine ⟨.ref a, sv, .ty "ValueError", .type "ValueError", true, z, rfl, fun u hu => hu, I0.kV, x, true, rfl, iteT ?_⟩
  refine ⟨.ref a, sv, rfl, rfl, dd, .str z, rfl, x, rfl, ?_⟩
  refine k (dB (decide (z = w))) M' _ H' P' h (Ex.refl _) hh ?_
  have e : decide (V.str z = V.str w) = decide (z = w) := by
    by_cases q : z = w
    · rw [q, decide_eq_true rfl, decide_eq_true rfl]
    · rw [decide_eq_false q, decide_eq_false fun h => q (V.str.inj h)]
  show Dn P' (.bl (decide (V.str z = V.str w))) (.bool (decide (z = w)))
  rw [e]
  exact .bl _
end
end Kt

/-! Kth: a tuple once: t * 1. -/
namespace Kt
open PySem PySem.Spec PyProof PyProof.Rows L2
theorem tup_once (l : Addr) (its : Array Value) (n : Nat) (dd : Option Addr) (sl : Array (Option Value)) (u : Tok) :
    Meets (Builtin.«tuple.__mul__» ⟨[.ref l, .int 1 u], []⟩) (fun _ R s => s.heap.get? l = some { cls := .type "tuple", dict := dd, data := .seq its n, slots := sl } ∧ R (.ok (.ret (Value.ref l))) s) :=
  .of_wp fun prog w A R s hr => by
    obtain ⟨hp, g, d, tk, os⟩ := s
    obtain ⟨at_, fin⟩ := hr
    have idx := AutoSeq1.idx_int
    have one : (its.isEmpty || (1 : Int) == 1) = true := by simp
    wp_walk using wpAny_loadPart' at_
    exact ⟨_, rfl, fin⟩
section
variable {X : Cx} {N : Ent} {ρ : Rho} {M M1 M2 : Mem} {a b : Expr} {pos : Pos}
def rOnce (K : PySem.W.Frag) : R2 := fun x y H Q => ∃ l xs, x = .ref l ∧ y = .int 1 ∧ SqT K H l xs ∧ Q (.ref l) H
theorem op_once : OpR X (binaryOp .Mult) (rOnce X.K) := by
  intro pins s σ H x y v u Q I rx ry h
  obtain ⟨l, xs, rfl, rfl, hT, q⟩ := h
  obtain rfl : v = Value.ref l := rx
  obtain ⟨t, rfl⟩ := ry
  obtain ⟨its, r, ⟨⟨cls, dd, data, sl⟩, ho, hc, n, hd⟩, _⟩ := I.tuple hT
  obtain rfl : cls = Value.type "tuple" := hc
  obtain rfl : data = _ := hd
  have ti : s.TypeIs (.ref l) "tuple" := ⟨_, ho, rfl⟩
  have mul := call_meets (prog := X.prog) (w := X.w) (A := X.A) (E := X.xe) F.slot_tuple_mul ti F.entry_tuple_mul (F.args_tuple_mul_2 _ _) (tup_once l its.toArray n dd sl t) (Q := EP X pins σ Q) ⟨ho, ⟨.ref l, H, I, rfl, q⟩⟩
  exact wpAny_binaryOp_repeat_ref (T := "tuple") (U := "int") (by decide) ti (fun s' => typeIs_int s' 1 t) noFill_tuple_mul F.fills_int_mul F.slot_int_rmul repeat_tuple F.slot_int_index.lookup
    (call_meets F.slot_int_rmul (typeIs_int s 1 t) F.entry_int_rmul (F.args_int_rmul_2 _ _) (int_rmul_tuple 1 t l its.toArray n dd sl) ⟨ho, rfl, ti, mul⟩)
/-- t * n, once at least -/
theorem ej_times {ds : List PyData} {n : Int} (ha : EJ X N ρ M a (.d (.tuple ds)) M1) (hb : EJ X N ρ M1 b (dI n) M2) (h0 : ds ≠ []) (h1 : 1 ≤ n) (h2 : n ≤ 1000) (hz : ds.length ≤ 1000) : EJ X N ρ M (.BinOp a .Mult b pos) (.d (.tuple (List.replicate n.toNat ds).flatten)) M2 := by
  by_cases h : n = 1
  · subst h
    rw [show (List.replicate (1 : Int).toNat ds).flatten = ds by simp]
    exact ej_op op_once ha hb fun x y H P hh rx ry Q q => by
      obtain ⟨l, xs, rfl, h3, h4⟩ := ri_tup rx
      exact ⟨l, xs, rfl, ri_int ry, .inl (.inl (hh.ex _ _ h3)), q _ H P (Ex.refl P) hh (.tup h3 h4)⟩
  · exact ej_repT ha hb h0 (by omega) h2 hz
end
end Kt

/-! Kti: enumerate over a tuple -/
namespace Kt
open PySem PySem.Spec PyProof PyProof.Rows L2
theorem wp_ite2 {M : Model} {A : Around} {α : Type} {c : Prop} [Decidable c] {t e : Sem α} {Q : α → Shared → Prop} {E : Value → Shared → Prop} {s : Shared} (h1 : wpAny M A t Q E s) (h2 : wpAny M A e Q E s) : wpAny M A (if c then t else e) Q E s := by
  split <;> assumption
theorem enum_newB {v : Value} {o : Obj} {Hh : Heap → Prop} (B : Begins v o Hh) : Meets (Builtin.«enumerate.__new__» ⟨[.type "enumerate", v], []⟩) (fun _ R s => Hh s.heap ∧ R (.ok (.ret (Value.ref (s.heap.push o).objs.size))) { s with heap := (s.heap.push o).push { cls := .type "enumerate", data := .fields #[.none, .bool false, .ref s.heap.objs.size, rawInt 0, .none, .none] } }) :=
  .of_wp fun prog w A R s hr => by
    obtain ⟨hp, g, d, tk, os⟩ := s
    obtain ⟨at_, fin⟩ := hr
    have hsub := sub_enumerate
    have hit := fun (A : Around) (E : Value → Shared → Prop) (s : Shared) (Q : Value → Shared → Prop) (h1 : Hh s.heap) (h2 : Q (.ref s.heap.objs.size) { s with heap := s.heap.push o }) => B.iter prog w A E s Q h1 h2
    unfold Builtin.«enumerate.__new__»
    wp_walk using hit
    refine wpAny_stack_any fun st => wpAny_pure ?_
    refine wp_ite2 ?_ ?_
    · wp_walk using hit
      case h1 => exact at_
      show wpAny _ _ _ _ _ ⟨hp.push o, g, d, tk, os⟩
      wp_walk
      exact ⟨_, rfl, fin⟩
    · wp_walk using hit
      case h1 => exact at_
      show wpAny _ _ _ _ _ ⟨hp.push o, g, d, tk, os⟩
      wp_walk
      exact ⟨_, rfl, fin⟩
def IteT (K : PySem.W.Frag) (a : Addr) : L2.It :=
  { go := fun i H => ∃ xs x, SqT K H a xs ∧ xs[i]? = some x
    yld := fun i H v H' => ∃ T x, v = .ref T ∧ H T = none ∧ H' = upd H T (.tup [.int (i : Nat), x]) ∧ ∀ xs, SqT K H a xs → xs[i]? = some x
    stop := fun i H => ∃ xs, SqT K H a xs ∧ xs.length = i }
theorem turn_enumT {P : Program} {w : World} {K : PySem.W.Frag} {elts : List Expr} {kk : Nat} {tpos : Pos} (a e it : Addr) :
    Turn P w K (.Tuple elts kk tpos) (IteT K a) [e, it] e fun i h => (∃ old, IsEnum h e it (i : Nat) old) ∧ h.IsTupleIter it a i ∧ e ≠ it := by
  refine ⟨by simp, ?_, ?_, ?_, ?_, ?_⟩
  · rintro i h ⟨⟨old, h1⟩, ⟨o, h2, _, h4⟩, ne⟩ b hb
    simp only [List.mem_cons, List.not_mem_nil, or_false] at hb
    rcases hb with rfl | rfl
    · exact ⟨_, h1, fun v => by simp⟩
    · exact ⟨_, h2, fun v => by rw [h4]; simp⟩
  · rintro i h h' ⟨⟨old, h1⟩, h2, ne⟩ hk
    exact ⟨⟨old, hk e (by simp) _ h1⟩, h2.at (hk it (by simp)), ne⟩
  · rintro X rfl rfl rfl hc i pins s σ H E I hfp ⟨⟨old, h1⟩, h2, ne⟩ ⟨xs, x, hq, hx⟩
    obtain ⟨its, hv, ht, hl⟩ := I.tuple hq
    obtain ⟨u, hu, ru⟩ := hv.get hx
    have nea : a ≠ e := fun q => by
      obtain ⟨o, ho, hcl, _⟩ := ht
      rw [q, h1] at ho
      cases ho
      simp at hcl
    have nei : a ≠ it := fun q => by
      obtain ⟨o, ho, hcl, _⟩ := ht
      obtain ⟨o2, ho2, hcl2, _⟩ := h2
      rw [q, ho2] at ho
      cases ho
      rw [hcl2] at hcl
      simp at hcl
    have G := GoesN.enumFrom (prog := X.prog) (w := X.w) (A := X.A) (elts := elts) (x1 := kk) (pos := tpos) 0 (Draws.tuple (prog := X.prog) (w := X.w) (A := X.A.in1) (I.ok.hd hc) it a nei its.toArray) e ne (by simp [ne, Ne.symm nea]) (by simp)
    refine G.goes i s _ E (by simp; exact (List.getElem?_eq_some_iff.mp hu).1) ⟨⟨old, by simpa using h1⟩, h2, ht⟩ fun v h' tk hY hS hfr htk => ?_
    obtain ⟨T, t, x', rfl, hT, hx', hTu⟩ := hY
    have ex : x' = u := by
      simp at hx'
      rw [hu] at hx'
      exact (Option.some.inj hx').symm
    subst ex
    have hT0 : H T = none := I.hok.fresh hT
    refine ⟨.ref T, upd H T (.tup [.int (i : Nat), x]), I.turnedNew hfr (fun b hb => hfp b hb) hT ?_, rfl, ⟨T, x, rfl, hT0, rfl, fun ys hy => by rw [I.tuple_inj hy hq]; exact hx⟩, ?_, fun b hb => ?_⟩
    · unfold ObjOk
      refine ⟨by show 2 ≤ sizeLine; decide, [.int (i : Nat) t, x'], .cons ⟨t, rfl⟩ (.cons ru .nil), ?_⟩
      rw [Int.zero_add] at hTu
      exact hTu
    · obtain ⟨⟨o, g1⟩, g2, _⟩ := hS
      exact ⟨⟨o, by simpa using g1⟩, g2, ne⟩
    · have hb0 := (hfp b hb).1
      by_cases q : b = T
      · subst q
        obtain ⟨_, _, _, h5, _⟩ := hfp b hb
        exfalso
        have : ∃ o, s.heap.get? b = some o := by
          simp only [List.mem_cons, List.not_mem_nil, or_false] at hb
          rcases hb with rfl | rfl
          · exact ⟨_, h1⟩
          · obtain ⟨o, q1, _⟩ := h2
            exact ⟨o, q1⟩
        obtain ⟨o, q1⟩ := this
        exact absurd (Heap.lt_size q1) (Nat.not_lt.mpr hT)
      · rw [upd_ne q]
        exact hb0
  · rintro X rfl rfl rfl hc i pins s σ H E I hfp ⟨⟨old, h1⟩, h2, ne⟩ ⟨xs, hq, hx⟩
    obtain ⟨its, hv, ht, hl⟩ := I.tuple hq
    have hlen : its.toArray.size = i := by simp; rw [← hv.length]; exact hx
    have nei : a ≠ it := fun q => by
      obtain ⟨o, ho, hcl, _⟩ := ht
      obtain ⟨o2, ho2, hcl2, _⟩ := h2
      rw [q, ho2] at ho
      cases ho
      rw [hcl2] at hcl
      simp at hcl
    refine wpAny_pyNext_enum_endD (Draws.tuple (prog := X.prog) (w := X.w) (A := X.A.in1) (I.ok.hd hc) it a nei its.toArray) h1 ⟨hlen ▸ h2, ht⟩ fun h' hx' => ⟨rfl, ?_⟩
    obtain ⟨a1, a2, a3, a4, a5, a6⟩ := hfp it (by simp)
    exact I.turned (fun b o hb hg => hx' b o hb hg) a1 a2 a4 a5 a6
  · rintro A i s Q E ⟨⟨old, h1⟩, _, _⟩ q
    exact wpAny_pyIter_enum h1 q

theorem walk_enumT {K : PySem.W.Frag} {a : Addr} {xs : List V} (inj : ∀ H ys, SqT K H a xs → SqT K H a ys → ys = xs) : Walk (IteT K a) xs.length (fun H => SqT K H a xs) (fun i H v H' => ∃ T x, v = .ref T ∧ H T = none ∧ H' = upd H T (.tup [.int (i : Nat), x]) ∧ xs[i]? = some x) :=
  ⟨fun i H hi g => ⟨xs, _, g, List.getElem?_eq_getElem hi⟩, fun H g => ⟨xs, g, rfl⟩, fun i H v H' hi g y => by
    obtain ⟨T, x, a1, a2, a3, a4⟩ := y
    exact ⟨T, x, a1, a2, a3, a4 xs g⟩⟩
theorem call_enumT {prog : Program} {w : World} {A : Around} {E : Value → Shared → Prop} {s : Shared} {v : Value} {o : Obj} {Hh : Heap → Prop} {Q : Value → Shared → Prop} (B : Begins v o Hh) (hh : Hh s.heap)
    (h : ∀ h' : Heap, IsEnum h' (s.heap.objs.size + 1) s.heap.objs.size 0 .none → h'.get? s.heap.objs.size = some o → h'.objs.size = s.heap.objs.size + 2 → (∀ (b : Addr) (o : Obj), s.heap.get? b = some o → h'.get? b = some o) → Q (.ref (s.heap.objs.size + 1)) { s with heap := h' }) :
    wpAny (model prog w) A (call (.type "enumerate") [v]) Q E s := by
  refine callType_new F.called_enumerate (by decide) (F.typeCall_enumerate_1 v) (F.newCall_enumerate_1 v) (fun obj => F.args_object_init_2 obj v) F.entry_enumerate_new (enum_newB B) ⟨hh, ?_⟩
  have hz := Heap.size_push s.heap o
  rw [hz]
  refine ⟨⟨_, Heap.get?_push_at hz.symm rfl, rfl⟩, h _ (Heap.get?_push_at hz.symm rfl) ?_ ?_ ?_⟩
  · exact Heap.get?_push_of_some _ (Heap.get?_push_at rfl B.free)
  · rw [Heap.size_push, hz]
  · exact fun b o2 hb => Heap.get?_push_of_some _ (Heap.get?_push_of_some _ hb)
def iEnumT (K : PySem.W.Frag) (ta : TA) : TI := fun σ H R => ta σ H fun vs H1 => ∃ a xs, vs = [.ref a] ∧ SqT K H1 a xs ∧ R (IteT K a) H1
theorem pi_enumT {X : Cx} {e : Expr} {ta : TA} {p pos tpos : Pos} {elts : List Expr} {kk : Nat} (hg : Gl X "enumerate") (hm : X.mg "enumerate" = none) (ha : PA X [e] ta) (hs : starEach [e] X.env = [(false, eval e X.env)] := by rfl) :
    PI X (.Tuple elts kk tpos) (.Call (.Name "enumerate" p) [e] [] pos) (iEnumT X.K ta) := by
  refine ⟨fun pins s σ H R I h => ?_⟩
  refine Call_ (ld_blt I hg hm boot_enumerate (PyProof.Rows.callWith_type1 (thn (ha.run pos pins s σ H _ I h) fun us s1 x => ?_) hs rfl))
  obtain ⟨vs, H1, I1, r1, a, xs, rfl, hq, q⟩ := x
  cases r1 with
  | cons r rr =>
    cases rr
    cases r
    obtain ⟨its, rv, ht, hz⟩ := I1.tuple hq
    refine call_enumT (begins_tuple a its.toArray) ht fun h' he ho hsz hk => wpAny_pyIter_enum he ?_
    have I2 := I1.kept (t' := s1.toks) hk
    refine ⟨_, [s1.heap.objs.size + 1, s1.heap.objs.size], _, IteT X.K a, H1, rfl, I2, turn_enumT a (s1.heap.objs.size + 1) s1.heap.objs.size, ⟨⟨_, he⟩, ⟨_, ho, rfl, rfl⟩, Nat.succ_ne_self _⟩, fun b hb => ?_, q⟩
    simp only [List.mem_cons, List.not_mem_nil, or_false] at hb
    rcases hb with rfl | rfl
    · exact I1.fpOk (by omega) (I1.hok.fresh (by omega))
    · exact I1.fpOk (by omega) (I1.hok.fresh (by omega))
end Kt

/-! Ktk: loops and comprehensions over any walk of data: enumerate, zip, lists, tuples. -/
namespace Kt
open PySem PySem.Spec PyProof PyProof.Rows L2
structure WalkQ (φ : Mem → Prop) (N : Ent) (P1 : Hp) (J : L2.It) (ds : List PyData) : Prop where
  go : ∀ i H P' M', i < ds.length → Holds N P' H M' → Ex P1 P' → φ M' → J.go i H
  stop : ∀ H P' M', Holds N P' H M' → Ex P1 P' → φ M' → J.stop ds.length H
  yld : ∀ i H x H' P' M', i < ds.length → Holds N P' H M' → Ex P1 P' → φ M' → J.yld i H x H' → ∃ P'' d, ds[i]? = some d ∧ Ex P' P'' ∧ Holds N P'' H' M' ∧ RepI P'' x (.d d)
abbrev anyM : Mem → Prop := fun _ => True
section
variable {X : Cx} {N : Ent} {ρ ρ' : Rho} {M M1 M2 : Mem} {a b e tg iter : Expr} {pos : Pos} {Z : Post} {body rest : List Stmt}
/-- a walk that asks φ of what may still change -/
def IWQ (φ : Mem → Prop) (X : Cx) (N : Ent) (ρ : Rho) (M : Mem) (tg iter : Expr) (ds : List PyData) (M1 : Mem) : Prop :=
  ∃ ti : TI, PI X tg iter ti ∧ ∀ σ H P, Holds N P H M → Slots P σ ρ → ∀ R, (∀ J H1 P1, Ex P P1 → Holds N P1 H1 M1 → WalkQ φ N P1 J ds → R J H1) → ti σ H R
abbrev IW (X : Cx) (N : Ent) (ρ : Rho) (M : Mem) (tg iter : Expr) (ds : List PyData) (M1 : Mem) : Prop := IWQ anyM X N ρ M tg iter ds M1
def enumD (ds : List PyData) : List PyData := ds.mapIdx fun i d => .tuple [.int (i : Int), d]
theorem enumD_get {ds : List PyData} {i : Nat} {d : PyData} (h : ds[i]? = some d) : (enumD ds)[i]? = some (.tuple [.int (i : Int), d]) := by
  unfold enumD
  rw [List.getElem?_mapIdx, h]
  rfl
theorem enumD_len (ds : List PyData) : (enumD ds).length = ds.length := by unfold enumD; simp
theorem enumD_inv {ds : List PyData} {i : Nat} {d : PyData} (h : (enumD ds)[i]? = some d) : ∃ x, ds[i]? = some x ∧ d = .tuple [.int (i : Int), x] := by
  unfold enumD at h
  rw [List.getElem?_mapIdx] at h
  obtain ⟨x, h1, h2⟩ := Option.map_eq_some_iff.mp h
  exact ⟨x, h1, h2.symm⟩
theorem iw_enumT {p : Pos} {elts : List Expr} {kk : Nat} {tpos : Pos} {ds : List PyData} (hm : X.mg "enumerate" = none) (ha : EJ X N ρ M a (.d (.tuple ds)) M1) (hg : Gl X "enumerate" := by rfl) (hs : starEach [a] X.env = [(false, eval a X.env)] := by rfl) :
    IW X N ρ M (.Tuple elts kk tpos) (.Call (.Name "enumerate" p) [a] [] pos) (enumD ds) M1 := by
  refine ⟨_, pi_enumT hg hm pa_w hs, fun σ H P hh g R q => ?_⟩
  refine aj_cons ha aj_nil hs σ H P hh g _ fun vs H1 P1 e1 h1 r1 => ?_
  obtain ⟨x, rfl, r2⟩ := ri1 r1
  obtain ⟨t, xs, rfl, x1, x2⟩ := ri_tup r2
  have xl := dnAll_len x2
  refine ⟨t, xs, rfl, .inl (.inl (h1.ex _ _ x1)), q _ H1 P1 e1 h1 ⟨fun i H P' M' hi h2 e2 _ => ?_, fun H P' M' h2 e2 _ => ?_, fun i H v H' P' M' hi h2 e2 _ y => ?_⟩⟩
  · rw [enumD_len, ← xl] at hi
    exact ⟨xs, _, .inl (.inl (h2.ex _ _ (e2 _ _ x1))), List.getElem?_eq_getElem hi⟩
  · exact ⟨xs, .inl (.inl (h2.ex _ _ (e2 _ _ x1))), by rw [enumD_len, xl]⟩
  · obtain ⟨T, u, rfl, hT, rfl, hx⟩ := y
    have hx := hx xs (.inl (.inl (h2.ex _ _ (e2 _ _ x1))))
    rw [enumD_len] at hi
    obtain ⟨v', ev, dv⟩ := dnAll_get x2 (List.getElem?_eq_getElem hi)
    rw [hx] at ev
    cases Option.some.inj ev
    obtain ⟨h5, e5⟩ := h2.pers (o := .tup [.int (i : Nat), u]) hT
    exact ⟨_, _, enumD_get (List.getElem?_eq_getElem hi), e5, h5, .tup upd_same (.cons (.int _) (.cons (dn_ex e5 _ _ (dn_ex e2 _ _ dv)) .nil))⟩
theorem iw_enumL {p : Pos} {elts : List Expr} {kk : Nat} {tpos : Pos} {ds : List PyData} (hm : X.mg "enumerate" = none) (ha : EJ X N ρ M a (.d (.list ds)) M1) (hg : Gl X "enumerate" := by rfl) (hs : starEach [a] X.env = [(false, eval a X.env)] := by rfl) :
    IW X N ρ M (.Tuple elts kk tpos) (.Call (.Name "enumerate" p) [a] [] pos) (enumD ds) M1 := by
  refine ⟨_, pi_enum hg hm pa_w hs, fun σ H P hh g R q => ?_⟩
  refine aj_cons ha aj_nil hs σ H P hh g _ fun vs H1 P1 e1 h1 r1 => ?_
  obtain ⟨x, rfl, r2⟩ := ri1 r1
  obtain ⟨t, xs, rfl, x1, x2⟩ := ri_lst r2
  have xl := dnAll_len x2
  refine ⟨t, xs, rfl, .inl (.inl (h1.ex _ _ x1)), q _ H1 P1 e1 h1 ⟨fun i H P' M' hi h2 e2 _ => ?_, fun H P' M' h2 e2 _ => ?_, fun i H v H' P' M' hi h2 e2 _ y => ?_⟩⟩
  · rw [enumD_len, ← xl] at hi
    exact ⟨xs, _, .inl (.inl (h2.ex _ _ (e2 _ _ x1))), List.getElem?_eq_getElem hi⟩
  · exact ⟨xs, .inl (.inl (h2.ex _ _ (e2 _ _ x1))), by rw [enumD_len, xl]; exact Nat.le_refl _⟩
  · obtain ⟨T, u, rfl, hT, rfl, hx⟩ := y
    have hx := hx xs (.inl (.inl (h2.ex _ _ (e2 _ _ x1))))
    rw [enumD_len] at hi
    obtain ⟨v', ev, dv⟩ := dnAll_get x2 (List.getElem?_eq_getElem hi)
    rw [hx] at ev
    cases Option.some.inj ev
    obtain ⟨h5, e5⟩ := h2.pers (o := .tup [.int (i : Nat), u]) hT
    exact ⟨_, _, enumD_get (List.getElem?_eq_getElem hi), e5, h5, .tup upd_same (.cons (.int _) (.cons (dn_ex e5 _ _ (dn_ex e2 _ _ dv)) .nil))⟩
theorem iw_list {ds : List PyData} (ha : EJ X N ρ M iter (.d (.list ds)) M1) : IW X N ρ M tg iter ds M1 := by
  refine ⟨_, pi_list pe_w, fun σ H P hh g R q => ?_⟩
  refine ha σ H P hh g _ fun v H1 P1 e1 h1 r1 => ?_
  obtain ⟨t, xs, rfl, x1, x2⟩ := ri_lst r1
  have xl := dnAll_len x2
  refine ⟨t, rfl, ⟨xs, .inl (.inl (h1.ex _ _ x1))⟩, q _ H1 P1 e1 h1 ⟨fun i H P' M' hi h2 e2 _ => ?_, fun H P' M' h2 e2 _ => ?_, fun i H v H' P' M' hi h2 e2 _ y => ?_⟩⟩
  · rw [← xl] at hi
    exact ⟨xs, _, .inl (.inl (h2.ex _ _ (e2 _ _ x1))), List.getElem?_eq_getElem hi⟩
  · exact ⟨xs, .inl (.inl (h2.ex _ _ (e2 _ _ x1))), by rw [xl]; exact Nat.le_refl _⟩
  · obtain ⟨rfl, hx⟩ := y
    have hx := hx xs (.inl (.inl (h2.ex _ _ (e2 _ _ x1))))
    obtain ⟨v', ev, dv⟩ := dnAll_get x2 (List.getElem?_eq_getElem hi)
    rw [hx] at ev
    cases Option.some.inj ev
    exact ⟨P', _, List.getElem?_eq_getElem hi, Ex.refl _, h2, dn_ex e2 _ _ dv⟩
theorem iw_tup {ds : List PyData} (ha : EJ X N ρ M iter (.d (.tuple ds)) M1) : IW X N ρ M tg iter ds M1 := by
  refine ⟨_, pi_tup pe_w, fun σ H P hh g R q => ?_⟩
  refine ha σ H P hh g _ fun v H1 P1 e1 h1 r1 => ?_
  obtain ⟨t, xs, rfl, x1, x2⟩ := ri_tup r1
  have xl := dnAll_len x2
  refine ⟨t, rfl, ⟨xs, .inl (.inl (h1.ex _ _ x1))⟩, q _ H1 P1 e1 h1 ⟨fun i H P' M' hi h2 e2 _ => ?_, fun H P' M' h2 e2 _ => ?_, fun i H v H' P' M' hi h2 e2 _ y => ?_⟩⟩
  · rw [← xl] at hi
    exact ⟨xs, _, .inl (.inl (h2.ex _ _ (e2 _ _ x1))), List.getElem?_eq_getElem hi⟩
  · exact ⟨xs, .inl (.inl (h2.ex _ _ (e2 _ _ x1))), by rw [xl]; exact Nat.le_refl _⟩
  · obtain ⟨rfl, hx⟩ := y
    have hx := hx xs (.inl (.inl (h2.ex _ _ (e2 _ _ x1))))
    obtain ⟨v', ev, dv⟩ := dnAll_get x2 (List.getElem?_eq_getElem hi)
    rw [hx] at ev
    cases Option.some.inj ev
    exact ⟨P', _, List.getElem?_eq_getElem hi, Ex.refl _, h2, dn_ex e2 _ _ dv⟩
/-- a list of one's own, as long as it stays -/
theorem iw_own {p : Addr} {ds : List PyData} (ha : EJ X N ρ M iter (.v (.ref p)) M1) (hp : (p, ds.map It.d) ∈ M1) : IWQ (fun M' => (p, ds.map It.d) ∈ M') X N ρ M tg iter ds M1 := by
  refine ⟨_, pi_list pe_w, fun σ H P hh g R q => ?_⟩
  refine ha σ H P hh g _ fun v H1 P1 e1 h1 r1 => ?_
  cases (show v = .ref p from r1)
  obtain ⟨xs0, x0, _⟩ := h1.cell hp
  refine ⟨p, rfl, ⟨xs0, .inl (.inl x0)⟩, q _ H1 P1 e1 h1 ⟨fun i H P' M' hi h2 e2 hm => ?_, fun H P' M' h2 e2 hm => ?_, fun i H v H' P' M' hi h2 e2 hm y => ?_⟩⟩
  · obtain ⟨xs, x1, x2⟩ := h2.cell hm
    have xl := dnAll_len x2.to_all
    rw [← xl] at hi
    exact ⟨xs, _, .inl (.inl x1), List.getElem?_eq_getElem hi⟩
  · obtain ⟨xs, x1, x2⟩ := h2.cell hm
    have xl := dnAll_len x2.to_all
    exact ⟨xs, .inl (.inl x1), by rw [xl]; exact Nat.le_refl _⟩
  · obtain ⟨rfl, hx⟩ := y
    obtain ⟨xs, x1, x2⟩ := h2.cell hm
    have hx := hx xs (.inl (.inl x1))
    obtain ⟨v', ev, dv⟩ := dnAll_get x2.to_all (List.getElem?_eq_getElem hi)
    rw [hx] at ev
    cases Option.some.inj ev
    exact ⟨P', _, List.getElem?_eq_getElem hi, Ex.refl _, h2, dv⟩
theorem iw_zipL {p : Pos} {elts : List Expr} {kk : Nat} {tpos : Pos} {ds es : List PyData} (hm : X.mg "zip" = none) (ha : EJ X N ρ M a (.d (.list ds)) M1) (hb : EJ X N ρ M1 b (.d (.list es)) M2) (hl : ds.length = es.length) (hg : Gl X "zip" := by rfl) (hs : starEach [a, b] X.env = (false, eval a X.env) :: starEach [b] X.env := by rfl) (hs2 : starEach [b] X.env = (false, eval b X.env) :: starEach [] X.env := by rfl) (hpl : (backTo pos (starEach [b] X.env)).any (·.1) = false := by rfl) :
    IW X N ρ M (.Tuple elts kk tpos) (.Call (.Name "zip" p) [a, b] [] pos) (List.zipWith (fun x y => .tuple [x, y]) ds es) M2 := by
  refine ⟨_, pi_zip hg hm pa_w hs hpl, fun σ H P hh g R q => ?_⟩
  refine aj_cons ha (aj_cons hb aj_nil hs2) hs σ H P hh g _ fun vs H1 P1 e1 h1 r1 => ?_
  obtain ⟨x, y, rfl, r2, r3⟩ := ri2 r1
  obtain ⟨t, xs, rfl, x1, x2⟩ := ri_lst r2
  obtain ⟨u, ys, rfl, y1, y2⟩ := ri_lst r3
  have xl := dnAll_len x2
  have yl := dnAll_len y2
  have zl : (List.zipWith (fun x y => PyData.tuple [x, y]) ds es).length = ds.length := by simp; omega
  refine ⟨t, u, xs, ys, rfl, .inl (.inl (h1.ex _ _ x1)), .inl (.inl (h1.ex _ _ y1)), q _ H1 P1 e1 h1 ⟨fun i H P' M' hi h2 e2 _ => ?_, fun H P' M' h2 e2 _ => ?_, fun i H v H' P' M' hi h2 e2 _ y => ?_⟩⟩
  · rw [zl] at hi
    exact ⟨xs, ys, _, _, .inl (.inl (h2.ex _ _ (e2 _ _ x1))), .inl (.inl (h2.ex _ _ (e2 _ _ y1))), List.getElem?_eq_getElem (by omega), List.getElem?_eq_getElem (by omega)⟩
  · exact ⟨xs, ys, .inl (.inl (h2.ex _ _ (e2 _ _ x1))), .inl (.inl (h2.ex _ _ (e2 _ _ y1))), .inl (by rw [zl, xl]; exact Nat.le_refl _)⟩
  · obtain ⟨T, x, y, rfl, hT, rfl, hx, hy⟩ := y
    have hx := hx xs (.inl (.inl (h2.ex _ _ (e2 _ _ x1))))
    have hy := hy ys (.inl (.inl (h2.ex _ _ (e2 _ _ y1))))
    rw [zl] at hi
    obtain ⟨v', ev, dv⟩ := dnAll_get x2 (List.getElem?_eq_getElem hi)
    rw [hx] at ev
    cases Option.some.inj ev
    obtain ⟨w', ew, dw⟩ := dnAll_get y2 (List.getElem?_eq_getElem (show i < es.length by omega))
    rw [hy] at ew
    cases Option.some.inj ew
    obtain ⟨h5, e5⟩ := h2.pers (o := .tup [x, y]) hT
    exact ⟨_, .tuple [ds[i], es[i]], by rw [List.getElem?_zipWith, List.getElem?_eq_getElem hi, List.getElem?_eq_getElem (show i < es.length by omega)], e5, h5, .tup upd_same (.cons (dn_ex e5 _ _ (dn_ex e2 _ _ dv)) (.cons (dn_ex e5 _ _ (dn_ex e2 _ _ dw)) .nil))⟩
theorem sj_forQ {φ : Mem → Prop} {ds : List PyData} (hc : X.calm = true) (hi : IWQ φ X N ρ M tg iter ds M1) (Inv : Nat → Rho → Mem → Prop) (hφ : ∀ n ρ' M', Inv n ρ' M' → φ M') (h0 : Inv 0 ρ M1)
    (step : ∀ n d ρ' M', ds[n]? = some d → Inv n ρ' M' → ∃ ρ2, GJ X N tg (.d d) ρ' ρ2 ∧ SJ X N ρ2 M' body { nx := Inv (n + 1), ct := Inv (n + 1), bk := fun ρ' M' => SJ X N ρ' M' rest Z, rt := Z.rt, er := Z.er })
    (done : ∀ ρ' M', Inv ds.length ρ' M' → SJ X N ρ' M' rest Z) (hp : PassesOwn (model X.prog X.w) X.A X.env X.xe := by exact PassesOwn.never) (hf : ∀ x, foldedSetIterable iter X.env x = pure x := by intro _; rfl) : SJ X N ρ M (.For tg iter body [] pos :: rest) Z := sj_cons fun σ H P hh g D E tk z => by
  obtain ⟨ti, pi, hi⟩ := hi
  refine s_of (ps_for hp hc pi pg_w pss_w hf) (hi σ H P hh g _ fun J H1 P1 e1 h1 W => ?_)
  have WK : Walk J ds.length (fun H => ∃ P' M', Holds N P' H M' ∧ Ex P1 P' ∧ φ M') (fun i H x H' => ∀ P' M', Holds N P' H M' → Ex P1 P' → φ M' → ∃ P'' d, ds[i]? = some d ∧ Ex P' P'' ∧ Holds N P'' H' M' ∧ RepI P'' x (.d d)) :=
    ⟨fun i H hi ⟨P', M', a, b, c⟩ => W.go i H P' M' hi a b c, fun H ⟨P', M', a, b, c⟩ => W.stop H P' M' a b c, fun i H x H' hi _ y P' M' a b c => W.yld i H x H' P' M' hi a b c y⟩
  refine for_it WK (fun n σ' H' => ∃ ρ' M' P', Inv n ρ' M' ∧ Holds N P' H' M' ∧ Slots P' σ' ρ' ∧ Ex P1 P') ⟨ρ, M1, P1, h0, h1, g.ex e1, Ex.refl _⟩ (fun i σ' H' _ ⟨ρ', M', P', iv, a, _, b⟩ => ⟨P', M', a, b, hφ _ _ _ iv⟩) (fun n x σ' H' H2 hn hw hy => ?_) (fun σ' H' hw => ?_)
  · obtain ⟨ρ', M', P', w, h2, g2, e2⟩ := hw
    obtain ⟨P2, d, ed, e3, h3, r3⟩ := hy P' M' h2 e2 (hφ _ _ _ w)
    obtain ⟨ρ2, G, S⟩ := step n d ρ' M' ed w
    refine G x σ' H2 P2 M' h3 (g2.ex e3) r3 _ fun σ2 g3 => ?_
    refine S σ2 H2 P2 h3 g3 _ E tk ⟨fun ρ4 M4 σ4 H4 P4 a e h g => ⟨ρ4, M4, P4, a, h, g, (e2.trans e3).trans e⟩, fun i M4 v H4 P4 a e h r => z.rt i M4 v H4 P4 a ((e1.trans (e2.trans e3)).trans e) h r, fun ρ4 M4 σ4 H4 P4 a e h g => z.nx ρ4 M4 σ4 H4 P4 a ((e1.trans (e2.trans e3)).trans e) h g, fun ρ4 M4 σ4 H4 P4 a e h g => ⟨ρ4, M4, P4, a, h, g, (e2.trans e3).trans e⟩, fun w M4 d H4 P4 C c a e h x => z.er w M4 d H4 P4 C c a ((e1.trans (e2.trans e3)).trans e) h x⟩
  · obtain ⟨ρ', M', P', w, h2, g2, e2⟩ := hw
    exact z.nx ρ' M' σ' H' P' (done ρ' M' w) (e1.trans e2) h2 g2
theorem sj_forW {ds : List PyData} (hc : X.calm = true) (hi : IW X N ρ M tg iter ds M1) (Inv : Nat → Rho → Mem → Prop) (h0 : Inv 0 ρ M1)
    (step : ∀ n d ρ' M', ds[n]? = some d → Inv n ρ' M' → ∃ ρ2, GJ X N tg (.d d) ρ' ρ2 ∧ SJ X N ρ2 M' body { nx := Inv (n + 1), ct := Inv (n + 1), bk := fun ρ' M' => SJ X N ρ' M' rest Z, rt := Z.rt, er := Z.er })
    (done : ∀ ρ' M', Inv ds.length ρ' M' → SJ X N ρ' M' rest Z) (hp : PassesOwn (model X.prog X.w) X.A X.env X.xe := by exact PassesOwn.never) (hf : ∀ x, foldedSetIterable iter X.env x = pure x := by intro _; rfl) : SJ X N ρ M (.For tg iter body [] pos :: rest) Z :=
  sj_forQ hc hi Inv (fun _ _ _ _ => trivial) h0 step done hp hf
/-! ### comprehensions over any walk -/
variable {scope : Scope} {cnd elt : Expr}
/-- a target of a comprehension: from a datum to the slots -/
def TgC (N : Ent) (ρ : Rho) (vs : List Nat) (tgt : TG) (d : PyData) (ρ2 : Rho) : Prop :=
  ∀ v σ H P M, Holds N P H M → Slots P σ ρ → RepI P v (.d d) → ∀ Q : L2.St → Hp → Prop, (∀ σ2, Slots P σ2 ρ2 → wipe σ2 vs = wipe σ vs → Q σ2 H) → tgt v (wipe σ vs) H Q
theorem tgc1 (n : Nat) {d : PyData} : TgC N ρ [n] (gName n) d (ρ.set n (some (.d d))) := fun v σ H P M hh g r Q q => q _ (slots_comp g n r) (wipe_comp n)
theorem tgc2 {K : PySem.W.Frag} (n1 n2 : Nat) (ne : n1 ≠ n2) {x y : PyData} : TgC N ρ [n1, n2] (gTup K 2 (gCons (gName n1) (gCons (gName n2) gNil))) (.tuple [x, y]) ((ρ.set n1 (some (.d x))).set n2 (some (.d y))) := fun v σ H P M hh g r Q q => by
  obtain ⟨ta, ts, rfl, t1, t2⟩ := ri_tup r
  cases t2 with
  | cons k1 kr =>
    cases kr with
    | cons k2 kn =>
      cases kn
      exact ⟨ta, _, rfl, .inl (.inl (hh.ex _ _ t1)), rfl, _, _, rfl, _, _, rfl, rfl, q _ (by rw [two_set ne]; exact (g.set (it := .d x) k1 n1).set (it := .d y) k2 n2) (two_wipe ne)⟩
theorem lj_compQ {φ : Mem → Prop} {ti : TI} (vs : List Nat) (tgt : TG) {ds : List PyData} (A : Nat → List It) (Mi : Nat → Mem)
    (hi : ∀ σ H P, Holds N P H M → Slots P σ ρ → ∀ R, (∀ J H1 P1, Ex P P1 → Holds N P1 H1 M1 → WalkQ φ N P1 J ds → R J H1) → ti σ H R)
    (hφ : ∀ m c, φ (Mi m ++ [c])) (hA0 : A 0 = []) (hM0 : Mi 0 = M1) (hz : ds.length ≤ 100000)
    (step : ∀ (m : Nat) d, ds[m]? = some d → ∃ ρ2 t Mm, TgC N ρ vs tgt d ρ2 ∧ (∀ N' s H C cl fp, TJ (X.blk s H scope (compEnvC scope cl C X.env) fp) N' ρ2 (Mi m) cnd t Mm) ∧ (A m).length ≤ m ∧
      (t = true → ∃ j, A (m + 1) = A m ++ [j] ∧ ∀ N' s H C cl fp, EJ (X.blk s H scope (compEnvC scope cl C X.env) fp) N' ρ2 Mm elt j (Mi (m + 1))) ∧ (t = false → A (m + 1) = A m ∧ Mi (m + 1) = Mm))
    : LJ X N ρ M (tLc ti tgt (wBT X scope cnd) (wBE X scope elt) vs) (A ds.length) (Mi ds.length) := fun σ H P hh g Q q => by
  refine hi σ H P hh g _ fun J H1 P1 e1 h1 W D hD => ?_
  have WK : Walk J ds.length (fun H => ∃ P' M', Holds N P' H M' ∧ Ex P1 P' ∧ φ M') (fun i H x H' => i < ds.length ∧ ∀ P' M', Holds N P' H M' → Ex P1 P' → φ M' → ∃ P'' d, ds[i]? = some d ∧ Ex P' P'' ∧ Holds N P'' H' M' ∧ RepI P'' x (.d d)) :=
    ⟨fun i H hi ⟨P', M', a, b, c⟩ => W.go i H P' M' hi a b c, fun H ⟨P', M', a, b, c⟩ => W.stop H P' M' a b c, fun i H x H' hi _ y => ⟨hi, fun P' M' a b c => W.yld i H x H' P' M' hi a b c y⟩⟩
  refine lc_it WK (fun m H' => ∃ P', Holds N P' H' (Mi m ++ [(D, A m)]) ∧ Ex P1 P') ⟨P1, by rw [hA0, hM0]; exact h1.own hD (its := []) trivial, Ex.refl _⟩ (fun m H' _ ⟨P', a, b⟩ => ⟨P', _, a, b, hφ m _⟩) (fun m x' H' H2 hn hw hy => ?_) (fun H' hw => ?_)
  · obtain ⟨P', h2', e2'⟩ := hw
    obtain ⟨P2, d, ed, e3', h2, r3⟩ := hy.2 P' _ h2' e2' (hφ m _)
    have e2 := e2'.trans e3'
    obtain ⟨ρ2, t, Mm, G, T, lA, S1, S2⟩ := step m d ed
    refine G x' σ H2 P2 _ h2 (g.ex (e1.trans e2)) r3 _ fun σ2 gs hw2 => ⟨hw2, ?_⟩
    intro s H0 C cl fp
    refine T (inner P2 H2 (Mi m)) s H0 C cl fp _ H2 P2 h2.enter gs _ fun H3 P3 e3 h3 => ?_
    cases t with
    | true =>
      obtain ⟨j, eA, S⟩ := S1 rfl
      rw [if_pos rfl]
      intro s H0 C cl fp
      refine S (inner P2 H2 (Mi m)) s H0 C cl fp _ H3 P3 h3 (gs.ex e3) _ fun y H4 P4 e4 h4 r4 => ?_
      have h5 := h2.leave h4
      obtain ⟨acc, ea, ra⟩ := h5.cell (a := D) (its := A m) (List.mem_append_right _ (List.mem_singleton.mpr rfl))
      refine ⟨acc, ea, by rw [ra.len]; exact Nat.lt_of_lt_of_le (Nat.lt_of_le_of_lt lA (Nat.lt_of_lt_of_le hn hz)) (by decide), P4, ?_, (e2.trans e3).trans e4⟩
      have h6 := h5.write (a := D) (its := A m) (its' := A (m + 1)) (List.mem_append_right _ (List.mem_singleton.mpr rfl)) (xs' := acc ++ [y]) (by rw [eA]; exact ra.app ⟨r4, trivial⟩)
      rw [put_last h5.nd] at h6
      exact h6
    | false =>
      obtain ⟨eA, eM⟩ := S2 rfl
      rw [if_neg Bool.false_ne_true]
      refine ⟨P3, ?_, e2.trans e3⟩
      rw [eA, eM]
      exact h2.leave h3
  · obtain ⟨P', h2, e2⟩ := hw
    exact q D H' P' (e1.trans e2) (h1.newF hD) h2
theorem lj_compW {φ : Mem → Prop} {ti : TI} (vs : List Nat) (tgt : TG) {ds : List PyData} (A : Nat → List It) (Mi : Nat → Mem)
    (hi : ∀ σ H P, Holds N P H M → Slots P σ ρ → ∀ R, (∀ J H1 P1, Ex P P1 → Holds N P1 H1 M1 → WalkQ φ N P1 J ds → R J H1) → ti σ H R)
    (hφ : ∀ m c, φ (Mi m ++ [c])) (hA0 : A 0 = []) (hM0 : Mi 0 = M1) (hz : ds.length ≤ 100000)
    (step : ∀ (m : Nat) d, ds[m]? = some d → ∃ ρ2 j, TgC N ρ vs tgt d ρ2 ∧ A (m + 1) = A m ++ [j] ∧ (A m).length ≤ m ∧ ∀ N' s H C cl fp, EJ (X.blk s H scope (compEnvC scope cl C X.env) fp) N' ρ2 (Mi m) elt j (Mi (m + 1)))
    : LJ X N ρ M (tLc ti tgt tYes (wBE X scope elt) vs) (A ds.length) (Mi ds.length) := fun σ H P hh g Q q => by
  refine hi σ H P hh g _ fun J H1 P1 e1 h1 W D hD => ?_
  have WK : Walk J ds.length (fun H => ∃ P' M', Holds N P' H M' ∧ Ex P1 P' ∧ φ M') (fun i H x H' => i < ds.length ∧ ∀ P' M', Holds N P' H M' → Ex P1 P' → φ M' → ∃ P'' d, ds[i]? = some d ∧ Ex P' P'' ∧ Holds N P'' H' M' ∧ RepI P'' x (.d d)) :=
    ⟨fun i H hi ⟨P', M', a, b, c⟩ => W.go i H P' M' hi a b c, fun H ⟨P', M', a, b, c⟩ => W.stop H P' M' a b c, fun i H x H' hi _ y => ⟨hi, fun P' M' a b c => W.yld i H x H' P' M' hi a b c y⟩⟩
  refine lc_it WK (fun m H' => ∃ P', Holds N P' H' (Mi m ++ [(D, A m)]) ∧ Ex P1 P') ⟨P1, by rw [hA0, hM0]; exact h1.own hD (its := []) trivial, Ex.refl _⟩ (fun m H' _ ⟨P', a, b⟩ => ⟨P', _, a, b, hφ m _⟩) (fun m x' H' H2 hn hw hy => ?_) (fun H' hw => ?_)
  · obtain ⟨P', h2', e2'⟩ := hw
    obtain ⟨P2, d, ed, e3', h2, r3⟩ := hy.2 P' _ h2' e2' (hφ m _)
    have e2 := e2'.trans e3'
    obtain ⟨ρ2, j, G, eA, lA, S⟩ := step m d ed
    refine G x' σ H2 P2 _ h2 (g.ex (e1.trans e2)) r3 _ fun σ2 gs hw2 => ⟨hw2, ?_⟩
    unfold tYes
    dsimp only
    rw [if_pos rfl]
    intro s H0 C cl fp
    refine S (inner P2 H2 (Mi m)) s H0 C cl fp _ H2 P2 h2.enter gs _ fun y H4 P4 e4 h4 r4 => ?_
    have h5 := h2.leave h4
    obtain ⟨acc, ea, ra⟩ := h5.cell (a := D) (its := A m) (List.mem_append_right _ (List.mem_singleton.mpr rfl))
    refine ⟨acc, ea, by rw [ra.len]; exact Nat.lt_of_lt_of_le (Nat.lt_of_le_of_lt lA (Nat.lt_of_lt_of_le hn hz)) (by decide), P4, ?_, e2.trans e4⟩
    have h6 := h5.write (a := D) (its := A m) (its' := A (m + 1)) (List.mem_append_right _ (List.mem_singleton.mpr rfl)) (xs' := acc ++ [y]) (by rw [eA]; exact ra.app ⟨r4, trivial⟩)
    rw [put_last h5.nd] at h6
    exact h6
  · obtain ⟨P', h2, e2⟩ := hw
    exact q D H' P' (e1.trans e2) (h1.newF hD) h2
/-- [e for x in walk] -/
theorem el_compW1 {φ : Mem → Prop} {x : Str} {p : Pos} (n : Nat) {ds : List PyData} (A : Nat → List It) (Mi : Nat → Mem) (hc : X.calm = true) (hN : X.N.Nodup) (hi : IWQ φ X N ρ M (.Name x p) iter ds M1)
    (hφ : ∀ m c, φ (Mi m ++ [c])) (hA0 : A 0 = []) (hM0 : Mi 0 = M1) (hz : ds.length ≤ 100000)
    (step : ∀ (m : Nat) d, ds[m]? = some d → ∃ j, A (m + 1) = A m ++ [j] ∧ (A m).length ≤ m ∧ ∀ N' s H C cl fp, EJ (X.blk s H scope (compEnvC scope cl C X.env) fp) N' (ρ.set n (some (.d d))) (Mi m) elt j (Mi (m + 1)))
    (ok : BlkOk X.N X.env.scope scope [(x, n)] := by exact blkOk_by (by kernel_rfl))
    (hgn : ∀ (s : Shared) (H : Hp) (C : Addr) (cl : List (Str × Addr)) (fp : List Addr), PG (X.blk s H scope (compEnvC scope cl C X.env) fp) (.Name x p) (gName n) := by exact fun _ _ _ _ _ => pg_name (by assumption) rfl (Or.inl rfl))
    (hf : ∀ x, foldedSetIterable iter X.env x = pure x := by intro _; rfl) : EL X N ρ M (.ListComp elt [⟨.Name x p, iter, [], 0⟩] scope pos) (A ds.length) (Mi ds.length) := by
  obtain ⟨ti, pi, hi⟩ := hi
  exact el_lc (lj_compW [n] (gName n) A Mi hi hφ hA0 hM0 hz fun m d hd => by obtain ⟨j, a, b, c⟩ := step m d hd; exact ⟨_, j, tgc1 n, a, b, c⟩) (pe_lc hc hN pi ok hgn (fun _ _ _ _ _ => pts_nil) (te := wBE X scope elt) (fun s H C cl fp => ⟨fun pins s1 σ1 H1 Q1 I1 h1 => h1 s H C cl fp pins s1 I1⟩) hf)
/-- [e for x in walk if c] -/
theorem el_compW1F {φ : Mem → Prop} {x : Str} {p : Pos} (n : Nat) {ds : List PyData} (A : Nat → List It) (Mi : Nat → Mem) (hc : X.calm = true) (hN : X.N.Nodup) (hi : IWQ φ X N ρ M (.Name x p) iter ds M1)
    (hφ : ∀ m c, φ (Mi m ++ [c])) (hA0 : A 0 = []) (hM0 : Mi 0 = M1) (hz : ds.length ≤ 100000)
    (step : ∀ (m : Nat) d, ds[m]? = some d → ∃ t Mm, (∀ N' s H C cl fp, TJ (X.blk s H scope (compEnvC scope cl C X.env) fp) N' (ρ.set n (some (.d d))) (Mi m) cnd t Mm) ∧ (A m).length ≤ m ∧
      (t = true → ∃ j, A (m + 1) = A m ++ [j] ∧ ∀ N' s H C cl fp, EJ (X.blk s H scope (compEnvC scope cl C X.env) fp) N' (ρ.set n (some (.d d))) Mm elt j (Mi (m + 1))) ∧ (t = false → A (m + 1) = A m ∧ Mi (m + 1) = Mm))
    (ok : BlkOk X.N X.env.scope scope [(x, n)] := by exact blkOk_by (by kernel_rfl))
    (hgn : ∀ (s : Shared) (H : Hp) (C : Addr) (cl : List (Str × Addr)) (fp : List Addr), PG (X.blk s H scope (compEnvC scope cl C X.env) fp) (.Name x p) (gName n) := by exact fun _ _ _ _ _ => pg_name (by assumption) rfl (Or.inl rfl))
    (hf : ∀ x, foldedSetIterable iter X.env x = pure x := by intro _; rfl) : EL X N ρ M (.ListComp elt [⟨.Name x p, iter, [cnd], 0⟩] scope pos) (A ds.length) (Mi ds.length) := by
  obtain ⟨ti, pi, hi⟩ := hi
  exact el_lc (lj_compQ [n] (gName n) A Mi hi hφ hA0 hM0 hz fun m d hd => by obtain ⟨t, Mm, a, b, c⟩ := step m d hd; exact ⟨_, t, Mm, tgc1 n, a, b, c⟩) (pe_lc hc hN pi ok hgn (tt := wBT X scope cnd) (fun s H C cl fp => pts_one ⟨fun pins s1 σ1 H1 Q1 I1 h1 => h1 s H C cl fp pins s1 I1⟩) (te := wBE X scope elt) (fun s H C cl fp => ⟨fun pins s1 σ1 H1 Q1 I1 h1 => h1 s H C cl fp pins s1 I1⟩) hf)
/-- [e for x, y in walk] -/
theorem el_compW2 {φ : Mem → Prop} {x y : Str} {px py tp : Pos} {tk : Nat} (n1 n2 : Nat) {ds : List PyData} (A : Nat → List It) (Mi : Nat → Mem) (hc : X.calm = true) (hN : X.N.Nodup) (ne : n1 ≠ n2) (hi : IWQ φ X N ρ M (.Tuple [.Name x px, .Name y py] tk tp) iter ds M1)
    (hφ : ∀ m c, φ (Mi m ++ [c])) (hA0 : A 0 = []) (hM0 : Mi 0 = M1) (hz : ds.length ≤ 100000)
    (step : ∀ (m : Nat) d, ds[m]? = some d → ∃ u v j, d = .tuple [u, v] ∧ A (m + 1) = A m ++ [j] ∧ (A m).length ≤ m ∧ ∀ N' s H C cl fp, EJ (X.blk s H scope (compEnvC scope cl C X.env) fp) N' ((ρ.set n1 (some (.d u))).set n2 (some (.d v))) (Mi m) elt j (Mi (m + 1)))
    (ok : BlkOk X.N X.env.scope scope [(x, n1), (y, n2)] := by exact blkOk_by (by kernel_rfl))
    (hgn : ∀ (s : Shared) (H : Hp) (C : Addr) (cl : List (Str × Addr)) (fp : List Addr), PG (X.blk s H scope (compEnvC scope cl C X.env) fp) (.Tuple [.Name x px, .Name y py] tk tp) (gTup X.K 2 (gCons (gName n1) (gCons (gName n2) gNil))) := by exact fun _ _ _ _ _ => pg_tup (by rfl) (pgs_cons (pg_name (by assumption) rfl (Or.inl rfl)) (pgs_cons (pg_name (by assumption) rfl (Or.inl rfl)) pgs_nil)))
    (hf : ∀ x, foldedSetIterable iter X.env x = pure x := by intro _; rfl) : EL X N ρ M (.ListComp elt [⟨.Tuple [.Name x px, .Name y py] tk tp, iter, [], 0⟩] scope pos) (A ds.length) (Mi ds.length) := by
  obtain ⟨ti, pi, hi⟩ := hi
  exact el_lc (lj_compW [n1, n2] (gTup X.K 2 (gCons (gName n1) (gCons (gName n2) gNil))) A Mi hi hφ hA0 hM0 hz fun m d hd => by obtain ⟨u, v, j, rfl, a, b, c⟩ := step m d hd; exact ⟨_, j, tgc2 n1 n2 ne, a, b, c⟩) (pe_lc hc hN pi ok hgn (fun _ _ _ _ _ => pts_nil) (te := wBE X scope elt) (fun s H C cl fp => ⟨fun pins s1 σ1 H1 Q1 I1 h1 => h1 s H C cl fp pins s1 I1⟩) hf)
/-- [e for x, y in walk if c] -/
theorem el_compW2F {φ : Mem → Prop} {x y : Str} {px py tp : Pos} {tk : Nat} (n1 n2 : Nat) {ds : List PyData} (A : Nat → List It) (Mi : Nat → Mem) (hc : X.calm = true) (hN : X.N.Nodup) (ne : n1 ≠ n2) (hi : IWQ φ X N ρ M (.Tuple [.Name x px, .Name y py] tk tp) iter ds M1)
    (hφ : ∀ m c, φ (Mi m ++ [c])) (hA0 : A 0 = []) (hM0 : Mi 0 = M1) (hz : ds.length ≤ 100000)
    (step : ∀ (m : Nat) d, ds[m]? = some d → ∃ u v t Mm, d = .tuple [u, v] ∧ (∀ N' s H C cl fp, TJ (X.blk s H scope (compEnvC scope cl C X.env) fp) N' ((ρ.set n1 (some (.d u))).set n2 (some (.d v))) (Mi m) cnd t Mm) ∧ (A m).length ≤ m ∧
      (t = true → ∃ j, A (m + 1) = A m ++ [j] ∧ ∀ N' s H C cl fp, EJ (X.blk s H scope (compEnvC scope cl C X.env) fp) N' ((ρ.set n1 (some (.d u))).set n2 (some (.d v))) Mm elt j (Mi (m + 1))) ∧ (t = false → A (m + 1) = A m ∧ Mi (m + 1) = Mm))
    (ok : BlkOk X.N X.env.scope scope [(x, n1), (y, n2)] := by exact blkOk_by (by kernel_rfl))
    (hgn : ∀ (s : Shared) (H : Hp) (C : Addr) (cl : List (Str × Addr)) (fp : List Addr), PG (X.blk s H scope (compEnvC scope cl C X.env) fp) (.Tuple [.Name x px, .Name y py] tk tp) (gTup X.K 2 (gCons (gName n1) (gCons (gName n2) gNil))) := by exact fun _ _ _ _ _ => pg_tup (by rfl) (pgs_cons (pg_name (by assumption) rfl (Or.inl rfl)) (pgs_cons (pg_name (by assumption) rfl (Or.inl rfl)) pgs_nil)))
    (hf : ∀ x, foldedSetIterable iter X.env x = pure x := by intro _; rfl) : EL X N ρ M (.ListComp elt [⟨.Tuple [.Name x px, .Name y py] tk tp, iter, [cnd], 0⟩] scope pos) (A ds.length) (Mi ds.length) := by
  obtain ⟨ti, pi, hi⟩ := hi
  exact el_lc (lj_compQ [n1, n2] (gTup X.K 2 (gCons (gName n1) (gCons (gName n2) gNil))) A Mi hi hφ hA0 hM0 hz fun m d hd => by obtain ⟨u, v, t, Mm, rfl, a, b, c⟩ := step m d hd; exact ⟨_, t, Mm, tgc2 n1 n2 ne, a, b, c⟩) (pe_lc hc hN pi ok hgn (tt := wBT X scope cnd) (fun s H C cl fp => pts_one ⟨fun pins s1 σ1 H1 Q1 I1 h1 => h1 s H C cl fp pins s1 I1⟩) (te := wBE X scope elt) (fun s H C cl fp => ⟨fun pins s1 σ1 H1 Q1 I1 h1 => h1 s H C cl fp pins s1 I1⟩) hf)
end
end Kt

/-! Ktl: slices of what is only read, max of two. -/
namespace Kt
open PySem PySem.Spec PyProof PyProof.Rows L2
section
variable {X : Cx} {N : Ent} {ρ ρ' : Rho} {M M1 M2 M3 : Mem} {a b c e : Expr} {pos : Pos} {i j k : It} {Z : Post} {rest : List Stmt}
theorem el_slS {x0 : It} {ds : List PyData} {lo hi : Option Expr} {l h : Option Int} {tl th : TO} {p2 : Pos} (ha : EJ X N ρ M a x0 M1) (src : ∀ v P, RepI P v x0 → ∃ a xs, v = .ref a ∧ SqL X.K P a xs ∧ DnAll P xs ds) (pl : PO X lo tl) (ph : PO X hi th) (el : ∀ σ H Q, Q l H → tl σ H Q) (eh : ∀ σ H Q, Q h H → th σ H Q) :
    EL X N ρ M (.Subscript a (.Slice lo hi none p2) pos) ((cutD ds l h).map It.d) M1 := fun σ H P hh g Q q =>
  e_of (pe_slice sl_list pe_w pl ph) (ha σ H P hh g _ fun x H1 P1 e1 h1 r1 => el _ _ _ (eh _ _ _ (by
    obtain ⟨a, xs, rfl, h3, h4⟩ := src _ _ r1
    exact ⟨a, xs, rfl, ex_l h1.ex h3, fun p hp => q p _ P1 e1 (h1.newF hp) (h1.own hp (RepIs.of_all (h4.cut l h)))⟩)))
theorem ej_max2 {p q : Pos} {n m : Int} (hc : X.calm = true) (hm : X.mg "max" = none) (ha : EJ X N ρ M a (dI n) M1) (hb : EJ X N ρ M1 b (dI m) M2) (hg : Gl X "max" := by rfl) (he : starEach [a, b] X.env = (false, eval a X.env) :: starEach [b] X.env := by rfl) (he2 : starEach [b] X.env = (false, eval b X.env) :: starEach [] X.env := by rfl) (hpl : (backTo q (starEach [b] X.env)).any (·.1) = false := by rfl) :
    EJ X N ρ M (.Call (.Name "max" p) [a, b] [] q) (dI (if m > n then m else n)) M2 := ej_callB (call_max2 hc) hm (by decide +kernel) (aj_cons ha (aj_cons hb aj_nil he2) he) (fun vs H P h rr Q k => by
  obtain ⟨x, y, rfl, r1, r2⟩ := ri2 rr
  cases ri_int r1
  cases ri_int r2
  exact ⟨n, m, rfl, k _ H P (Ex.refl P) h (.int _)⟩) hg (by decide) (by decide) he hpl
theorem ri3 {P : Hp} {vs : List V} {i j k : It} (h : RepIs P vs [i, j, k]) : ∃ x y z, vs = [x, y, z] ∧ RepI P x i ∧ RepI P y j ∧ RepI P z k := by
  match vs, h with
  | [x, y, z], ⟨a, b, c, _⟩ => exact ⟨x, y, z, rfl, a, b, c⟩
/-- x, y, z = a, b, c: three different local names -/
theorem sj_par3 (n1 n2 n3 : Nat) {x y z : Str} {px py pz pt pt2 : Pos} {kt k2 : Nat} (hc : X.calm = true) (hN : X.N.Nodup) (ne : n1 ≠ n2) (ne2 : n1 ≠ n3) (ne3 : n2 ≠ n3) (ha : EJ X N ρ M a i M1) (hb : EJ X N ρ M1 b j M2) (hd : EJ X N ρ M2 c k M3) (hr : SJ X N (((ρ.set n1 (some i)).set n2 (some j)).set n3 (some k)) M3 rest Z)
    (hi : X.N[n1]? = some x := by rfl) (hj : X.N[n2]? = some y := by rfl) (hl : X.N[n3]? = some z := by rfl) (hx : X.env.scope.names.lookup x = some .local := by rfl) (hy : X.env.scope.names.lookup y = some .local := by rfl) (hz : X.env.scope.names.lookup z = some .local := by rfl)
    (hw : swappedStores [.Tuple [.Name x px, .Name y py, .Name z pz] kt pt] (.Tuple [a, b, c] k2 pt2) X.env = pure (some [x, y, z]) := by rfl) (hs : swapsWithSole [.Tuple [.Name x px, .Name y py, .Name z pz] kt pt] (.Tuple [a, b, c] k2 pt2) pos.line X.env = pure false := by rfl)
    (he : starEach [a, b, c] X.env = (false, eval a X.env) :: starEach [b, c] X.env := by rfl) (he2 : starEach [b, c] X.env = (false, eval b X.env) :: starEach [c] X.env := by rfl) (he3 : starEach [c] X.env = (false, eval c X.env) :: starEach [] X.env := by rfl) :
    SJ X N ρ M (.Assign [.Tuple [.Name x px, .Name y py, .Name z pz] kt pt] (.Tuple [a, b, c] k2 pt2) pos :: rest) Z := sj_cons fun σ H P hh g D E tk zz =>
  s_of (ps_par3 (i := n1) (j := n2) (l := n3) hc hN hi hj hl ne ne2 ne3 hx hy hz pa_w hw hs) (aj_cons ha (aj_cons hb (aj_cons hd aj_nil he3) he2) he σ H P hh g _ fun vs H1 P1 e1 h1 r1 => by
    obtain ⟨v, w, u, rfl, r2, r3, r4⟩ := ri3 r1
    exact ⟨v, w, u, rfl, zz.nx _ _ _ _ P1 hr e1 h1 ((((g.ex e1).set r2 n1).set r3 n2).set r4 n3)⟩)
/-! int of a bool, powers, in -/
theorem ej_intb {p q : Pos} {n : Bool} (hm : X.mg "int" = none) (ha : EJ X N ρ M a (dB n) M1) (hg : Gl X "int" := by rfl) (he : starEach [a] X.env = [(false, eval a X.env)] := by rfl) (hpl : (backTo q (starEach ([] : List Expr) X.env)).any (·.1) = false := by rfl) :
    EJ X N ρ M (.Call (.Name "int" p) [a] [] q) (dI (if n then 1 else 0)) M1 := ej_callTy call_int1 hm (by decide +kernel) (aj_cons ha aj_nil he) (fun vs H P h rr Q k => by
  obtain ⟨x, rfl, r⟩ := ri1 rr
  cases ri_bl r
  exact .inr ⟨n, rfl, k _ H P (Ex.refl P) h (.int _)⟩) hg (by decide) (by decide) he hpl
theorem ej_pow {n m : Int} (ha : EJ X N ρ M a (dI n) M1) (hb : EJ X N ρ M1 b (dI m) M2) (hc : CPow n m) : EJ X N ρ M (.BinOp a .Pow b pos) (dI (n ^ m.toNat)) M2 := ej_op op_pow ha hb (rj_I hc)
def inI (n : Int) (ns : List Int) : Bool := ns.any fun m => decide (n = m)
theorem inV_int (n : Int) : ∀ ns : List Int, inV (.int n) (ns.map V.int) = inI n ns := by
  intro ns
  induction ns with
  | nil => rfl
  | cons m ms ih =>
    unfold inV inI at ih ⊢
    rw [List.map_cons, List.any_cons, List.any_cons, ih]
    congr 1
    show eqV (.int m) (.int n) = decide (n = m)
    unfold eqV
    by_cases h : n = m
    · subst h
      simp
    · have h' : ¬ m = n := fun e => h e.symm
      simp [h, h']
theorem flat_ints : ∀ ns : List Int, (ns.map V.int).all flatV = true := by
  intro ns
  rw [List.all_eq_true]
  intro x hx
  obtain ⟨m, _, rfl⟩ := List.mem_map.mp hx
  rfl
theorem tj_inI {n : Int} {ns : List Int} (ha : EJ X N ρ M a (dI n) M1) (hb : EJ X N ρ M1 b (.d (.list (ns.map .int))) M2) (hm : behindInMarks .In b = false := by rfl) : TJ X N ρ M (.Compare a [.In] [b] pos) (inI n ns) M2 := tj_cmp op_in_seq hm ha hb fun x y H P h rx ry Q q => by
  cases ri_int rx
  obtain ⟨p, xs, rfl, h1, h2⟩ := ri_lst ry
  have e := DnAll.ints h2
  subst e
  refine ⟨p, _, rfl, .inl (.inl (.inl (h.ex _ _ h1))), rfl, flat_ints ns, ?_⟩
  rw [if_neg (by decide), inV_int]
  exact q _ H P (Ex.refl P) h (.bl _)
theorem ej_ninI {n : Int} {ns : List Int} (ha : EJ X N ρ M a (dI n) M1) (hb : EJ X N ρ M1 b (.d (.list (ns.map .int))) M2) (hm : behindInMarks .NotIn b = false := by rfl) : EJ X N ρ M (.Compare a [.NotIn] [b] pos) (dB (!inI n ns)) M2 := ej_cmp op_notIn_seq hm ha hb fun x y H P h rx ry Q q => by
  cases ri_int rx
  obtain ⟨p, xs, rfl, h1, h2⟩ := ri_lst ry
  have e := DnAll.ints h2
  subst e
  refine ⟨p, _, rfl, .inl (.inl (.inl (h.ex _ _ h1))), rfl, flat_ints ns, ?_⟩
  rw [if_pos rfl, inV_int]
  exact q _ H P (Ex.refl P) h (.bl _)
/-! is None -/
theorem tj_isN {d : PyData} (ha : EJ X N ρ M a (.d d) M1) (hb : EJ X N ρ M1 b (.d .none) M2) : TJ X N ρ M (.Compare a [.Is] [b] pos) (decide (tyD d = "NoneType")) M2 := tj_cmp op_isN (nomark _) ha hb fun x y H P h rx ry Q q => by
  cases ri_non ry
  refine ⟨rfl, ?_⟩
  have e : decide (x = V.non) = decide (tyD d = "NoneType") := by
    cases (show Dn P x d from rx) <;> rfl
  rw [e]
  exact q _ H P (Ex.refl P) h (.bl _)
theorem tj_notNo {d : PyData} (ha : EJ X N ρ M a (.d d) M1) (hb : EJ X N ρ M1 b (.d .none) M2) : TJ X N ρ M (.Compare a [.IsNot] [b] pos) (!decide (tyD d = "NoneType")) M2 := tj_cmp op_notN (nomark _) ha hb fun x y H P h rx ry Q q => by
  cases ri_non ry
  refine ⟨rfl, ?_⟩
  have e : decide (x = V.non) = decide (tyD d = "NoneType") := by
    cases (show Dn P x d from rx) <;> rfl
  rw [e]
  exact q _ H P (Ex.refl P) h (.bl _)
end
section
variable {X : Cx} {N : Ent} {M' : Mem} {Cs C0 fI a dd : Addr} {fd : FuncData} {sI : Stmt} {oe : Obj} {pn : List (Addr × Obj)} {pos : Pos} {rest : List Stmt}
/-- return e.name if isinstance(e, base) else '..' -/
theorem suite_ifName (n : Nat) {nm b0 z w : Str} {p1 p2 p3 p5 p6 p7 p8 pD : Pos} {j : Nat} {rt : It → Mem → Prop} (T : ErrTxt X.K X.mg sI Cs C0 fI fd) (I0 : IsTxt X.K Cs C0) (hmi : X.mg "isinstance" = none) (h : rt (.d (.str z)) M') (hi : X.N[n]? = some nm := by rfl)
    (hb0 : X.mg b0 = some (.ref C0)) (hg0 : Gl X b0 := by rfl) (hgi : Gl X "isinstance" := by rfl) (hd0 : (b0 == ("__debug__" : Str)) = false := by decide)
    (hv : Vis X.env.scope nm := by exact Or.inl rfl) (hd : (nm == ("__debug__" : Str)) = false := by decide) (hcd : (nm == ("__classdict__" : Str)) = false := by decide)
    (hb : attributeBase (.Name nm p1) "name" X.env (eval (.Name nm p1) X.env) = eval (.Name nm p1) X.env := by rfl)
    (hs1 : starEach [.Name nm p6, .Name b0 p7] X.env = (false, eval (.Name nm p6) X.env) :: starEach [.Name b0 p7] X.env := by rfl) (hs2 : starEach [.Name b0 p7] X.env = [(false, eval (.Name b0 p7) X.env)] := by rfl) (hpl1 : (backTo p8 (starEach [.Name b0 p7] X.env)).any (·.1) = false := by rfl) :
    SuiteOk X N n Cs (.Return (some (.IfExp (.Call (.Name "isinstance" p5) [.Name nm p6, .Name b0 p7] [] p8) (.Attribute (.Name nm p1) "name" p2) (.Constant (.str w) j p3) pD)) pos :: rest) z M' rt := fun a dd P' H' σ' oe pn D hh x ha hl hz hf k => by
  have l : n < X.N.length := (List.getElem?_eq_some_iff.mp hi).1
  have sv : (σ'.set n (some (.ref a)))[n]? = some (some (.ref a)) := List.getElem?_set_self (by omega)
  have CI := call_isD (X := X) (pn := pn) (a := a) T I0 hz hf
  have PV : ∀ q : Pos, PE (X.suite a ((a, oe) :: pn)) (.Name nm q) _ := fun q => pe_var (i := n) hi hv hd hcd
  refine ss_of (pss_cons (ps_ret (pe_ifExp (pt_val (pe_callB CI hgi hmi boot_isinstance (pa_cons (PV p6) (pa_cons (pe_glob hg0 hb0 (v := .ref C0) rfl hd0) pa_nil hs2) hs1) (by decide) (by decide) hs1 hpl1) (by intro _; rfl)) (pe_ename T hz hf (PV p1) hb) pe_str)) pss_w) ?_
  refine ⟨.ref a, sv, .ref C0, .ref C0, true, z, rfl, fun u hu => hu, I0.k0, x, true, rfl, iteT ?_⟩
  refine ⟨.ref a, sv, rfl, rfl, dd, .str z, rfl, x, ?_⟩
  exact k (.d (.str z)) M' _ H' P' h (Ex.refl _) hh (.str z)
end
end Kt

/-! Ktm: chains, tuple slices with reckoned bounds, names set to comprehensions over walks. -/
namespace Kt
open PySem PySem.Spec PyProof PyProof.Rows L2
section
variable {X : Cx} {N : Ent} {ρ ρ' : Rho} {M M1 M2 M3 : Mem} {a b c e iter : Expr} {pos : Pos} {i j k : It} {Z : Post} {rest : List Stmt} {scope : Scope} {cnd elt : Expr}
theorem ej_chainLt {n m l : Int} (ha : EJ X N ρ M a (dI n) M) (hb : EJ X N ρ M b (dI m) M) (hc : EJ X N ρ M c (dI l) M) (hm : lastMarks [.LtE, .Lt] [b, c] = false := by with_unfolding_all rfl) : EJ X N ρ M (.Compare a [.LtE, .Lt] [b, c] pos) (dB (decide (n ≤ m) && decide (m < l))) M := fun σ H P h g Q q =>
  e_of (pe_chain op_le op_lt pe_w pe_w pe_w hm) (ha σ H P h g _ fun x H1 P1 e1 h1 r1 => hb σ H1 P1 h1 (g.ex e1) _ fun y H2 P2 e2 h2 r2 => ⟨n, m, ri_int r1, ri_int r2, decide (n ≤ m), rfl, by
    cases z : decide (n ≤ m) with
    | false => exact iteF (q _ H2 P2 (e1.trans e2) h2 (by rw [z]; exact .bl _))
    | true => exact iteT (hc σ H2 P2 h2 (g.ex (e1.trans e2)) _ fun w H3 P3 e3 h3 r3 => ⟨m, l, ri_int r2, ri_int r3, q _ H3 P3 ((e1.trans e2).trans e3) h3 (by rw [z]; exact .bl _)⟩)⟩)
theorem tj_chainLt {n m l : Int} (ha : EJ X N ρ M a (dI n) M) (hb : EJ X N ρ M b (dI m) M) (hc : EJ X N ρ M c (dI l) M) (hm : lastMarks [.LtE, .Lt] [b, c] = false := by with_unfolding_all rfl) : TJ X N ρ M (.Compare a [.LtE, .Lt] [b, c] pos) (decide (n ≤ m) && decide (m < l)) M := fun σ H P h g Q q =>
  t_of (pt_chain op_le op_lt pe_w pe_w pe_w hm) (ha σ H P h g _ fun x H1 P1 e1 h1 r1 => hb σ H1 P1 h1 (g.ex e1) _ fun y H2 P2 e2 h2 r2 => ⟨n, m, ri_int r1, ri_int r2, decide (n ≤ m), rfl, by
    cases z : decide (n ≤ m) with
    | false => exact iteF ⟨false, rfl, by rw [z] at q; exact q H2 P2 (e1.trans e2) h2⟩
    | true => exact iteT (hc σ H2 P2 h2 (g.ex (e1.trans e2)) _ fun w H3 P3 e3 h3 r3 => ⟨m, l, ri_int r2, ri_int r3, _, rfl, by rw [z, Bool.true_and] at q; exact q H3 P3 ((e1.trans e2).trans e3) h3⟩)⟩)
theorem ej_slTto {ds : List PyData} {hi : Expr} {h : Int} {p2 : Pos} (ha : EJ X N ρ M a (.d (.tuple ds)) M1) (hh : EJ X N ρ M1 hi (dI h) M2) :
    EJ X N ρ M (.Subscript a (.Slice none (some hi) none p2) pos) (.d (.tuple (cutD ds none (some h)))) M2 := fun σ H P hd g Q q => by
  refine e_of (pe_slice sl_tupA pe_w po_none (po_some pe_w)) (ha σ H P hd g _ fun x H1 P1 e1 h1 r1 => ?_)
  refine hh σ H1 P1 h1 (g.ex e1) _ fun v2 H2 P2 e2 h2 r2 => ⟨h, ri_int r2, ?_⟩
  obtain ⟨a, xs, rfl, h3, h4⟩ := ri_tup (r1.ex e2)
  have l1 := dnAll_len h4
  refine ⟨a, xs, rfl, .inl (.inl (h2.ex _ _ h3)), fun hw => ?_, fun _ p hp => ?_⟩
  · rw [l1] at hw
    have e : cutD ds none (some h) = ds := by
      unfold cutD
      rw [hw.1, hw.2, List.drop_zero, Nat.sub_zero, List.take_length]
    rw [e] at q
    exact q _ H2 P2 (e1.trans e2) h2 (.tup h3 h4)
  · obtain ⟨h5, e5⟩ := h2.pers (o := .tup (cutV xs none (some h))) hp
    exact q _ _ _ ((e1.trans e2).trans e5) h5 (.tup upd_same (dnAll_ex e5 _ _ (h4.cut none (some h))))
theorem ej_slTfrom {ds : List PyData} {lo : Expr} {h : Int} {p2 : Pos} (ha : EJ X N ρ M a (.d (.tuple ds)) M1) (hh : EJ X N ρ M1 lo (dI h) M2) :
    EJ X N ρ M (.Subscript a (.Slice (some lo) none none p2) pos) (.d (.tuple (cutD ds (some h) none))) M2 := fun σ H P hd g Q q => by
  refine e_of (pe_slice sl_tupA pe_w (po_some pe_w) po_none) (ha σ H P hd g _ fun x H1 P1 e1 h1 r1 => ?_)
  refine hh σ H1 P1 h1 (g.ex e1) _ fun v2 H2 P2 e2 h2 r2 => ⟨h, ri_int r2, ?_⟩
  obtain ⟨a, xs, rfl, h3, h4⟩ := ri_tup (r1.ex e2)
  have l1 := dnAll_len h4
  refine ⟨a, xs, rfl, .inl (.inl (h2.ex _ _ h3)), fun hw => ?_, fun _ p hp => ?_⟩
  · rw [l1] at hw
    have e : cutD ds (some h) none = ds := by
      unfold cutD
      rw [hw.1, hw.2, List.drop_zero, Nat.sub_zero, List.take_length]
    rw [e] at q
    exact q _ H2 P2 (e1.trans e2) h2 (.tup h3 h4)
  · obtain ⟨h5, e5⟩ := h2.pers (o := .tup (cutV xs (some h) none)) hp
    exact q _ _ _ ((e1.trans e2).trans e5) h5 (.tup upd_same (dnAll_ex e5 _ _ (h4.cut (some h) none)))
/-- y = [e for x, y in walk] -/
theorem sj_setW2 {φ : Mem → Prop} (n' : Nat) {nm : Str} {py spos : Pos} {x y : Str} {px p2 tp : Pos} {tk : Nat} (n1 n2 : Nat) {ds : List PyData} (A : Nat → List It) (Mi : Nat → Mem) (hc : X.calm = true) (hN : X.N.Nodup) (ne : n1 ≠ n2) (hi : IWQ φ X N ρ M (.Tuple [.Name x px, .Name y p2] tk tp) iter ds M1)
    (hφ : ∀ m c, φ (Mi m ++ [c])) (hA0 : A 0 = []) (hM0 : Mi 0 = M1) (hz : ds.length ≤ 100000)
    (step : ∀ (m : Nat) d, ds[m]? = some d → ∃ u v j, d = .tuple [u, v] ∧ A (m + 1) = A m ++ [j] ∧ (A m).length ≤ m ∧ ∀ N' s H C cl fp, EJ (X.blk s H scope (compEnvC scope cl C X.env) fp) N' ((ρ.set n1 (some (.d u))).set n2 (some (.d v))) (Mi m) elt j (Mi (m + 1)))
    (hr : ∀ p, p ∉ N.F → SJ X N (ρ.set n' (some (.v (.ref p)))) (Mi ds.length ++ [(p, A ds.length)]) rest Z)
    (hy : X.N[n']? = some nm := by rfl) (hyl : X.env.scope.names.lookup nm = some .local := by rfl)
    (hsw : swapsWith (.ListComp elt [⟨.Tuple [.Name x px, .Name y p2] tk tp, iter, [], 0⟩] scope pos) (some (.Name nm py)) spos.line X.env = pure true := by exact sw_true rfl rfl rfl (by kernel_rfl))
    (ok : BlkOk X.N X.env.scope scope [(x, n1), (y, n2)] := by exact blkOk_by (by kernel_rfl))
    (hgn : ∀ (s : Shared) (H : Hp) (C : Addr) (cl : List (Str × Addr)) (fp : List Addr), PG (X.blk s H scope (compEnvC scope cl C X.env) fp) (.Tuple [.Name x px, .Name y p2] tk tp) (gTup X.K 2 (gCons (gName n1) (gCons (gName n2) gNil))) := by exact fun _ _ _ _ _ => pg_tup (by rfl) (pgs_cons (pg_name (by assumption) rfl (Or.inl rfl)) (pgs_cons (pg_name (by assumption) rfl (Or.inl rfl)) pgs_nil)))
    (hf : ∀ x, foldedSetIterable iter X.env x = pure x := by intro _; rfl) : SJ X N ρ M (.Assign [.Name nm py] (.ListComp elt [⟨.Tuple [.Name x px, .Name y p2] tk tp, iter, [], 0⟩] scope pos) spos :: rest) Z := by
  obtain ⟨ti, pi, hi⟩ := hi
  exact sj_lc n' (lj_compW [n1, n2] (gTup X.K 2 (gCons (gName n1) (gCons (gName n2) gNil))) A Mi hi hφ hA0 hM0 hz fun m d hd => by obtain ⟨u, v, j, rfl, a, b, c⟩ := step m d hd; exact ⟨_, j, tgc2 n1 n2 ne, a, b, c⟩) (ps_setLc (i := n') (y := nm) (py := py) (spos := spos) hc hN hy hyl hsw pi ok hgn (fun _ _ _ _ _ => pts_nil) (te := wBE X scope elt) (fun s H C cl fp => ⟨fun pins s1 σ1 H1 Q1 I1 h1 => h1 s H C cl fp pins s1 I1⟩) hf) hr
end
end Kt

namespace K02
open PySem PySem.Spec PyProof.Rows L2 Kt
def topS (i : Nat) : Stmt := PySem.Challenge.pw_heardtrue_k02_what_lines_do.main.body.getD i (.Pass ⟨0, 0, 0, 0⟩)
abbrev s_is_integer : Stmt := topS 4
abbrev n_is_integer : List Str := ["thing"]
theorem sc_is_integer : FnScope n_is_integer ["thing"] (defScope s_is_integer) := ⟨rfl, rfl, rfl, by decide +kernel, rfl, by decide +kernel, by decide +kernel⟩
abbrev s_is_between : Stmt := topS 5
abbrev n_is_between : List Str := ["thing", "low", "high"]
theorem sc_is_between : FnScope n_is_between ["thing", "low", "high"] (defScope s_is_between) := ⟨rfl, rfl, rfl, by decide +kernel, rfl, by decide +kernel, by decide +kernel⟩
abbrev s_is_tuple : Stmt := topS 6
abbrev n_is_tuple : List Str := ["thing", "many"]
theorem sc_is_tuple : FnScope n_is_tuple ["thing", "many"] (defScope s_is_tuple) := ⟨rfl, rfl, rfl, by decide +kernel, rfl, by decide +kernel, by decide +kernel⟩
abbrev s_is_tuple_between : Stmt := topS 7
abbrev n_is_tuple_between : List Str := ["thing", "many", "low", "high", "item"]
theorem sc_is_tuple_between : FnScope n_is_tuple_between ["thing", "many", "low", "high"] (defScope s_is_tuple_between) := ⟨rfl, rfl, rfl, by decide +kernel, rfl, by decide +kernel, by decide +kernel⟩
abbrev s_plus : Stmt := topS 9
abbrev n_plus : List Str := ["one", "other"]
theorem sc_plus : FnScope n_plus ["one", "other"] (defScope s_plus) := ⟨rfl, rfl, rfl, by decide +kernel, rfl, by decide +kernel, by decide +kernel⟩
abbrev s_minus : Stmt := topS 10
abbrev n_minus : List Str := ["one", "other"]
theorem sc_minus : FnScope n_minus ["one", "other"] (defScope s_minus) := ⟨rfl, rfl, rfl, by decide +kernel, rfl, by decide +kernel, by decide +kernel⟩
abbrev s_times : Stmt := topS 11
abbrev n_times : List Str := ["one", "other"]
theorem sc_times : FnScope n_times ["one", "other"] (defScope s_times) := ⟨rfl, rfl, rfl, by decide +kernel, rfl, by decide +kernel, by decide +kernel⟩
abbrev s_turned : Stmt := topS 12
abbrev n_turned : List Str := ["point", "quarters", "x", "y", "_"]
theorem sc_turned : FnScope n_turned ["point", "quarters"] (defScope s_turned) := ⟨rfl, rfl, rfl, by decide +kernel, rfl, by decide +kernel, by decide +kernel⟩
abbrev s_size : Stmt := topS 13
abbrev n_size : List Str := ["point"]
theorem sc_size : FnScope n_size ["point"] (defScope s_size) := ⟨rfl, rfl, rfl, by decide +kernel, rfl, by decide +kernel, by decide +kernel⟩
abbrev s_total : Stmt := topS 14
abbrev n_total : List Str := ["points", "point"]
theorem sc_total : FnScope n_total ["points"] (defScope s_total) := ⟨rfl, rfl, rfl, by decide +kernel, rfl, by decide +kernel, by decide +kernel⟩
abbrev s_check_line : Stmt := topS 17
abbrev n_check_line : List Str := ["line", "taps", "tap"]
theorem sc_check_line : FnScope n_check_line ["line"] (defScope s_check_line) := ⟨rfl, rfl, rfl, by decide +kernel, rfl, by decide +kernel, by decide +kernel⟩
abbrev s_reach : Stmt := topS 18
abbrev n_reach : List Str := ["line"]
theorem sc_reach : FnScope n_reach ["line"] (defScope s_reach) := ⟨rfl, rfl, rfl, by decide +kernel, rfl, by decide +kernel, by decide +kernel⟩
abbrev s_smeared : Stmt := topS 19
abbrev n_smeared : List Str := ["taps", "points", "sums", "place", "point", "late", "tap"]
theorem sc_smeared : FnScope n_smeared ["taps", "points"] (defScope s_smeared) := ⟨rfl, rfl, rfl, by decide +kernel, rfl, by decide +kernel, by decide +kernel⟩
abbrev s_sent : Stmt := topS 20
abbrev n_sent : List Str := ["line", "points"]
theorem sc_sent : FnScope n_sent ["line", "points"] (defScope s_sent) := ⟨rfl, rfl, rfl, by decide +kernel, rfl, by decide +kernel, by decide +kernel⟩
abbrev s_turned_line : Stmt := topS 21
abbrev n_turned_line : List Str := ["line", "quarters", "tap"]
theorem sc_turned_line : FnScope n_turned_line ["line", "quarters"] (defScope s_turned_line) := ⟨rfl, rfl, rfl, by decide +kernel, rfl, by decide +kernel, by decide +kernel⟩
abbrev s_added : Stmt := topS 22
abbrev n_added : List Str := ["sample", "point"]
theorem sc_added : FnScope n_added ["sample", "point"] (defScope s_added) := ⟨rfl, rfl, rfl, by decide +kernel, rfl, by decide +kernel, by decide +kernel⟩
abbrev s_spoiled : Stmt := topS 23
abbrev n_spoiled : List Str := ["samples", "noise", "sample", "point"]
theorem sc_spoiled : FnScope n_spoiled ["samples", "noise"] (defScope s_spoiled) := ⟨rfl, rfl, rfl, by decide +kernel, rfl, by decide +kernel, by decide +kernel⟩
abbrev s_lost : Stmt := topS 24
abbrev n_lost : List Str := ["samples", "places", "left", "place"]
theorem sc_lost : FnScope n_lost ["samples", "places"] (defScope s_lost) := ⟨rfl, rfl, rfl, by decide +kernel, rfl, by decide +kernel, by decide +kernel⟩
abbrev s_cost : Stmt := topS 25
abbrev n_cost : List Str := ["samples", "points", "sample", "point"]
theorem sc_cost : FnScope n_cost ["samples", "points"] (defScope s_cost) := ⟨rfl, rfl, rfl, by decide +kernel, rfl, by decide +kernel, by decide +kernel⟩
abbrev s_law_stream : Stmt := topS 27
abbrev n_law_stream : List Str := ["script", "row", "cell", "left", "k", "seed"]
theorem sc_law_stream : FnScope n_law_stream ["script"] (defScope s_law_stream) := ⟨rfl, rfl, rfl, by decide +kernel, rfl, by decide +kernel, by decide +kernel⟩
abbrev s_law_take : Stmt := topS 28
abbrev n_law_take : List Str := ["row", "many"]
theorem sc_law_take : FnScope n_law_take ["row", "many"] (defScope s_law_take) := ⟨rfl, rfl, rfl, by decide +kernel, rfl, by decide +kernel, by decide +kernel⟩
abbrev s_law_point : Stmt := topS 29
abbrev n_law_point : List Str := ["row", "wide"]
theorem sc_law_point : FnScope n_law_point ["row"] (defScope s_law_point) := ⟨rfl, rfl, rfl, by decide +kernel, rfl, by decide +kernel, by decide +kernel⟩
abbrev s_law_line : Stmt := topS 30
abbrev n_law_line : List Str := ["row", "taps", "k", "wide", "tap"]
theorem sc_law_line : FnScope n_law_line ["row"] (defScope s_law_line) := ⟨rfl, rfl, rfl, by decide +kernel, rfl, by decide +kernel, by decide +kernel⟩
abbrev s_law_sent : Stmt := topS 31
abbrev n_law_sent : List Str := ["line", "points", "found", "k", "a", "b", "j", "c", "d", "x", "y"]
theorem sc_law_sent : FnScope n_law_sent ["line", "points"] (defScope s_law_sent) := ⟨rfl, rfl, rfl, by decide +kernel, rfl, by decide +kernel, by decide +kernel⟩
abbrev s_law_refused : Stmt := topS 32
abbrev n_law_refused : List Str := ["what", "thing", "e"]
theorem sc_law_refused : FnScope n_law_refused ["what", "thing"] (defScope s_law_refused) := ⟨rfl, rfl, rfl, by decide +kernel, rfl, by decide +kernel, by decide +kernel⟩
abbrev s_law_faults_right : Stmt := topS 33
abbrev n_law_faults_right : List Str := ["row", "line", "taps", "at", "bad", "wrong", "rows", "one", "due"]
theorem sc_law_faults_right : FnScope n_law_faults_right ["row", "line"] (defScope s_law_faults_right) := ⟨rfl, rfl, rfl, by decide +kernel, rfl, by decide +kernel, by decide +kernel⟩
abbrev s_law : Stmt := topS 34
abbrev n_law : List Str := ["script", "row", "line", "many", "points", "others", "samples", "both", "second", "quarters", "turned_v", "k", "places", "given", "less", "noise", "heard", "due", "total_v", "x", "y"]
theorem sc_law : FnScope n_law ["script"] (defScope s_law) := ⟨rfl, rfl, rfl, by decide +kernel, rfl, by decide +kernel, by decide +kernel⟩
abbrev s_init : Stmt := inClass (topS 2) 0
theorem sc_init : FnScope ["self", "name"] ["self", "name"] (defScope s_init) := ⟨rfl, rfl, rfl, by decide +kernel, rfl, by decide +kernel, by decide +kernel⟩
structure Txt (K : PySem.W.Frag) (mg : Str → Option Value) : Prop where
  err : ∃ Cs C0 fI fd, ErrTxt K mg s_init Cs C0 fI fd
  ist : ∀ {Cs C0 fI : Addr} {fd : FuncData}, ErrTxt K mg s_init Cs C0 fI fd → IsTxt K Cs C0
  f_is_integer : ∃ f fd, Fun K "is_integer" "is_integer" s_is_integer f fd ∧ mg "is_integer" = some (.ref f) ∧ Binds K fd ["thing"] []
  f_is_between : ∃ f fd, Fun K "is_between" "is_between" s_is_between f fd ∧ mg "is_between" = some (.ref f) ∧ Binds K fd ["thing", "low", "high"] []
  f_is_tuple : ∃ f fd, Fun K "is_tuple" "is_tuple" s_is_tuple f fd ∧ mg "is_tuple" = some (.ref f) ∧ Binds K fd ["thing", "many"] []
  f_is_tuple_between : ∃ f fd, Fun K "is_tuple_between" "is_tuple_between" s_is_tuple_between f fd ∧ mg "is_tuple_between" = some (.ref f) ∧ Binds K fd ["thing", "many", "low", "high"] []
  f_plus : ∃ f fd, Fun K "plus" "plus" s_plus f fd ∧ mg "plus" = some (.ref f) ∧ Binds K fd ["one", "other"] []
  f_minus : ∃ f fd, Fun K "minus" "minus" s_minus f fd ∧ mg "minus" = some (.ref f) ∧ Binds K fd ["one", "other"] []
  f_times : ∃ f fd, Fun K "times" "times" s_times f fd ∧ mg "times" = some (.ref f) ∧ Binds K fd ["one", "other"] []
  f_turned : ∃ f fd, Fun K "turned" "turned" s_turned f fd ∧ mg "turned" = some (.ref f) ∧ Binds K fd ["point", "quarters"] []
  f_size : ∃ f fd, Fun K "size" "size" s_size f fd ∧ mg "size" = some (.ref f) ∧ Binds K fd ["point"] []
  f_total : ∃ f fd, Fun K "total" "total" s_total f fd ∧ mg "total" = some (.ref f) ∧ Binds K fd ["points"] []
  f_check_line : ∃ f fd, Fun K "check_line" "check_line" s_check_line f fd ∧ mg "check_line" = some (.ref f) ∧ Binds K fd ["line"] []
  f_reach : ∃ f fd, Fun K "reach" "reach" s_reach f fd ∧ mg "reach" = some (.ref f) ∧ Binds K fd ["line"] []
  f_smeared : ∃ f fd, Fun K "smeared" "smeared" s_smeared f fd ∧ mg "smeared" = some (.ref f) ∧ Binds K fd ["taps", "points"] []
  f_sent : ∃ f fd, Fun K "sent" "sent" s_sent f fd ∧ mg "sent" = some (.ref f) ∧ Binds K fd ["line", "points"] []
  f_turned_line : ∃ f fd, Fun K "turned_line" "turned_line" s_turned_line f fd ∧ mg "turned_line" = some (.ref f) ∧ Binds K fd ["line", "quarters"] []
  f_added : ∃ f fd, Fun K "added" "added" s_added f fd ∧ mg "added" = some (.ref f) ∧ Binds K fd ["sample", "point"] []
  f_spoiled : ∃ f fd, Fun K "spoiled" "spoiled" s_spoiled f fd ∧ mg "spoiled" = some (.ref f) ∧ Binds K fd ["samples", "noise"] []
  f_lost : ∃ f fd, Fun K "lost" "lost" s_lost f fd ∧ mg "lost" = some (.ref f) ∧ Binds K fd ["samples", "places"] []
  f_cost : ∃ f fd, Fun K "cost" "cost" s_cost f fd ∧ mg "cost" = some (.ref f) ∧ Binds K fd ["samples", "points"] []
  f_law_stream : ∃ f fd, Fun K "_law_stream" "_law_stream" s_law_stream f fd ∧ mg "_law_stream" = some (.ref f) ∧ Binds K fd ["script"] []
  f_law_take : ∃ f fd, Fun K "_law_take" "_law_take" s_law_take f fd ∧ mg "_law_take" = some (.ref f) ∧ Binds K fd ["row", "many"] []
  f_law_point : ∃ f fd, Fun K "_law_point" "_law_point" s_law_point f fd ∧ mg "_law_point" = some (.ref f) ∧ Binds K fd ["row"] []
  f_law_line : ∃ f fd, Fun K "_law_line" "_law_line" s_law_line f fd ∧ mg "_law_line" = some (.ref f) ∧ Binds K fd ["row"] []
  f_law_sent : ∃ f fd, Fun K "_law_sent" "_law_sent" s_law_sent f fd ∧ mg "_law_sent" = some (.ref f) ∧ Binds K fd ["line", "points"] []
  f_law_refused : ∃ f fd, Fun K "_law_refused" "_law_refused" s_law_refused f fd ∧ mg "_law_refused" = some (.ref f) ∧ Binds K fd ["what", "thing"] []
  f_law_faults_right : ∃ f fd, Fun K "_law_faults_right" "_law_faults_right" s_law_faults_right f fd ∧ mg "_law_faults_right" = some (.ref f) ∧ Binds K fd ["row", "line"] []
  f_law : ∃ f fd, Fun K "law" "law" s_law f fd ∧ mg "law" = some (.ref f) ∧ Binds K fd ["script"] []
  b_ValueError : mg "ValueError" = none
  b_abs : mg "abs" = none
  b_all : mg "all" = none
  b_bool : mg "bool" = none
  b_enumerate : mg "enumerate" = none
  b_int : mg "int" = none
  b_isinstance : mg "isinstance" = none
  b_len : mg "len" = none
  b_list : mg "list" = none
  b_range : mg "range" = none
  b_sum : mg "sum" = none
  b_tuple : mg "tuple" = none
  b_zip : mg "zip" = none
  c_LIMIT : ∃ t, mg "LIMIT" = some (.int 50 t)

/-! ### kinds -/
theorem boot_int' : bootBuiltins "int" = some (.type "int") := by decide +kernel
theorem boot_bool' : bootBuiltins "bool" = some (.type "bool") := by decide +kernel
theorem boot_tuple' : bootBuiltins "tuple" = some (.type "tuple") := by decide +kernel
theorem boot_str' : bootBuiltins "str" = some (.type "str") := by decide +kernel
theorem boot_list' : bootBuiltins "list" = some (.type "list") := by decide +kernel
def betw (d : PyData) (lo hi : Int) : Bool := match d with
  | .int i => decide (lo ≤ i) && decide (i ≤ hi)
  | _ => false
def isTupN (d : PyData) (many : Int) : Bool := match d with
  | .tuple l => decide ((l.length : Int) = many)
  | _ => false
def tupB (d : PyData) (many lo hi : Int) : Bool := match d with
  | .tuple l => decide ((l.length : Int) = many) && (l.map fun x => betw x lo hi).all id
  | _ => false
def isWordD (d : PyData) (z : Str) : Bool := match d with
  | .str x => decide (x = z)
  | _ => false
def CoIsInt : Co := fun is M i M' => M = [] ∧ M' = [] ∧ ∃ d, is = [.d d] ∧ i = dB (decide (tyD d = "int"))
def CoBetw : Co := fun is M i M' => M = [] ∧ M' = [] ∧ ∃ d lo hi, is = [.d d, dI lo, dI hi] ∧ i = dB (betw d lo hi)
def CoIsTup : Co := fun is M i M' => M = [] ∧ M' = [] ∧ ∃ d m, is = [.d d, dI m] ∧ i = dB (isTupN d m)
def tame : Nat → PyData → Prop
  | n + 1, .tuple l => l.length ≤ 1000 ∧ ∀ x ∈ l, tame n x
  | n + 1, .list l => l.length ≤ 1000 ∧ ∀ x ∈ l, tame n x
  | _, _ => True
def CoTupB : Co := fun is M i M' => M = [] ∧ M' = [] ∧ ∃ d m lo hi, is = [.d d, dI m, dI lo, dI hi] ∧ tame 1 d ∧ i = dB (tupB d m lo hi)
def CoWord : Co := fun is M i M' => M = [] ∧ M' = [] ∧ ∃ d z, is = [.d d, .d (.str z)] ∧ i = dB (isWordD d z)
theorem take_map_succ {α β : Type} {l : List α} {m : Nat} {x : α} (f : α → β) (h : l[m]? = some x) : (l.take (m + 1)).map f = (l.take m).map f ++ [f x] := by
  rw [List.take_add_one, h, List.map_append]
  rfl
section
variable {P : Program} {w : World} {K : PySem.W.Frag} {mg : Str → Option Value} {base : Heap}
theorem d_is_integer (T : Txt K mg) : Def P w K mg base "is_integer" 1 CoIsInt := by
  obtain ⟨f, fd, F, hm, hb⟩ := T.f_is_integer
  refine def_ok F sc_is_integer hm hb (fun is M i M' h => ?_) fun X hX N is M i M' hF hC => ?_
  · obtain ⟨rfl, rfl, d, rfl, _⟩ := h
    exact ⟨rfl, rfl⟩
  · obtain ⟨cdv, A, outer, s, H, E, rfl, hr⟩ := hX
    obtain ⟨rfl, rfl, d, rfl, rfl⟩ := hC
    refine sj_ret (ej_is (ej_andV (ej_isi T.b_isinstance (ej_name 0) (ej_ty T.b_int boot_int') (kit_int d)) fun _ => ej_one (ej_notV (ej_isi T.b_isinstance (ej_name 0) (ej_ty T.b_bool boot_bool') (kit_bool d)))) ?_) ⟨rfl, [], rfl⟩
    cases d <;> rfl
theorem d_is_between (T : Txt K mg) : Def P w K mg base "is_between" 2 CoBetw := by
  obtain ⟨f, fd, F, hm, hb⟩ := T.f_is_between
  have G := d_is_integer (P := P) (w := w) (base := base) T
  refine def_ok F sc_is_between hm hb (fun is M i M' h => ?_) fun X hX N is M i M' hF hC => ?_
  · obtain ⟨rfl, rfl, d, lo, hi, rfl, _⟩ := h
    exact ⟨rfl, rfl⟩
  · obtain ⟨cdv, A, outer, s, H, E, rfl, hr⟩ := hX
    obtain ⟨rfl, rfl, d, lo, hi, rfl, rfl⟩ := hC
    cases d with
      | int v => exact sj_ret (ej_is (ej_andV (ej_callP G hr (aj_cons (ej_name 0) aj_nil) ⟨rfl, rfl, .int v, rfl, rfl⟩) fun _ => ej_one (ej_chainLL (n := lo) (m := v) (l := hi) (ej_name 1) (ej_name 0) (ej_name 2))) rfl) ⟨rfl, [], rfl⟩
      | _ =>
        refine sj_ret (ej_is (ej_andV (u := true) (ej_callP G hr (aj_cons (ej_name 0) aj_nil) ⟨rfl, rfl, _, rfl, rfl⟩) fun h => ?_) ?_) ⟨rfl, [], rfl⟩
        · simp [tyD] at h
        · rfl
theorem d_is_tuple (T : Txt K mg) : Def P w K mg base "is_tuple" 1 CoIsTup := by
  obtain ⟨f, fd, F, hm, hb⟩ := T.f_is_tuple
  refine def_ok F sc_is_tuple hm hb (fun is M i M' h => ?_) fun X hX N is M i M' hF hC => ?_
  · obtain ⟨rfl, rfl, d, m, rfl, _⟩ := h
    exact ⟨rfl, rfl⟩
  · obtain ⟨cdv, A, outer, s, H, E, rfl, hr⟩ := hX
    obtain ⟨rfl, rfl, d, m, rfl, rfl⟩ := hC
    cases d with
      | tuple l => exact sj_ret (ej_is (ej_andV (ej_isi T.b_isinstance (ej_name 0) (ej_ty T.b_tuple boot_tuple') (kit_tuple (.tuple l))) fun _ => ej_one (ej_eqI (ej_lenT (ds := l) T.b_len (ej_name 0)) (ej_name 1))) rfl) ⟨rfl, [], rfl⟩
      | _ =>
        refine sj_ret (ej_is (ej_andV (u := true) (ej_isi T.b_isinstance (ej_name 0) (ej_ty T.b_tuple boot_tuple') (kit_tuple _)) fun h => ?_) ?_) ⟨rfl, [], rfl⟩
        · simp [tyD] at h
        · rfl
theorem d_is_tuple_between (T : Txt K mg) : Def P w K mg base "is_tuple_between" 3 CoTupB := by
  obtain ⟨f, fd, F, hm, hb⟩ := T.f_is_tuple_between
  have G1 := d_is_tuple (P := P) (w := w) (base := base) T
  have G2 := d_is_between (P := P) (w := w) (base := base) T
  refine def_ok F sc_is_tuple_between hm hb (fun is M i M' h => ?_) fun X hX N is M i M' hF hC => ?_
  · obtain ⟨rfl, rfl, d, m, lo, hi, rfl, _⟩ := h
    exact ⟨rfl, rfl⟩
  · obtain ⟨cdv, A, outer, s, H, E, rfl, hr⟩ := hX
    obtain ⟨rfl, rfl, d, m, lo, hi, rfl, hs, rfl⟩ := hC
    have nd := sc_is_tuple_between.nd
    cases d with
      | tuple l =>
        refine sj_ret (ej_andV (ej_callP G1 (hr.mono (by decide)) (aj_cons (ej_name 0) (aj_cons (ej_name 1) aj_nil)) ⟨rfl, rfl, .tuple l, m, rfl, rfl⟩) fun _ => ej_one (ej_all (bs := l.map fun x => betw x lo hi) rfl T.b_all (ej_el (el_compT 4 (ds := l) (fun k => (l.take k).map fun x => dB (betw x lo hi)) (fun _ => []) rfl nd (ej_name 0) rfl rfl (Nat.le_trans hs.1 (by decide)) fun k d hk => ⟨dB (betw d lo hi), take_map_succ _ hk, by simp; omega, fun N' s H C cl fp => ej_callP G2 hr (aj_cons (ej_name 4) (aj_cons (ej_name 2) (aj_cons (ej_name 3) aj_nil))) ⟨rfl, rfl, d, lo, hi, rfl, rfl⟩⟩) ?_))) ⟨rfl, [], rfl⟩
        rw [List.take_length, List.map_map, List.map_map]
        rfl
      | _ =>
        refine sj_ret (ej_is (ej_andV (u := true) (ej_callP G1 (hr.mono (by decide)) (aj_cons (ej_name 0) (aj_cons (ej_name 1) aj_nil)) ⟨rfl, rfl, _, m, rfl, rfl⟩) fun h => ?_) rfl) ⟨rfl, [], rfl⟩
        simp [isTupN] at h
end

/-! points as pairs, lines as lists of points: sums, products -/
abbrev Gp := Int × Int
def gadd (p q : Gp) : Gp := (p.1 + q.1, p.2 + q.2)
def gmul (p q : Gp) : Gp := (p.1 * q.1 - p.2 * q.2, p.1 * q.2 + p.2 * q.1)
def g0 : Gp := (0, 0)
theorem gadd_comm (p q : Gp) : gadd p q = gadd q p := by unfold gadd; rw [Int.add_comm, Int.add_comm p.2]
theorem gadd_assoc (p q r : Gp) : gadd (gadd p q) r = gadd p (gadd q r) := by unfold gadd; simp [Int.add_assoc]
theorem gadd_0 (p : Gp) : gadd p g0 = p := by unfold gadd g0; simp
theorem g0_add (p : Gp) : gadd g0 p = p := by unfold gadd g0; simp
theorem gmul_comm (p q : Gp) : gmul p q = gmul q p := by
  unfold gmul
  rw [Int.mul_comm p.1, Int.mul_comm p.2 q.2, Int.mul_comm p.1 q.2, Int.mul_comm p.2 q.1, Int.add_comm]
theorem gmul_add (p q r : Gp) : gmul p (gadd q r) = gadd (gmul p q) (gmul p r) := by
  unfold gmul gadd
  simp only [Int.mul_add]
  congr 1 <;> omega
theorem gadd_mul (p q r : Gp) : gmul (gadd p q) r = gadd (gmul p r) (gmul q r) := by
  rw [gmul_comm, gmul_add, gmul_comm r p, gmul_comm r q]
theorem gmul_assoc (p q r : Gp) : gmul (gmul p q) r = gmul p (gmul q r) := by
  unfold gmul
  simp only [Int.mul_add, Int.add_mul, Int.mul_sub, Int.sub_mul, Int.mul_assoc]
  congr 1 <;> omega
theorem g0_mul (p : Gp) : gmul g0 p = g0 := by unfold gmul g0; simp
theorem gmul_0 (p : Gp) : gmul p g0 = g0 := by unfold gmul g0; simp
theorem sq_nn (x : Int) : 0 ≤ x * x := by
  rcases Int.le_total 0 x with h | h
  · exact Int.mul_nonneg h h
  · exact Int.mul_nonneg_of_nonpos_of_nonpos h h
theorem sq_0 {x : Int} (h : x * x = 0) : x = 0 := by
  rcases Int.mul_eq_zero.mp h with h | h <;> exact h
theorem gn_0 {p : Gp} (h : p.1 * p.1 + p.2 * p.2 = 0) : p = g0 := by
  have a := sq_nn p.1
  have b := sq_nn p.2
  have h1 : p.1 * p.1 = 0 := by omega
  have h2 : p.2 * p.2 = 0 := by omega
  exact Prod.ext (sq_0 h1) (sq_0 h2)
theorem gmul_eq0 {p q : Gp} (h : gmul p q = g0) : p = g0 ∨ q = g0 := by
  have h1 : p.1 * q.1 - p.2 * q.2 = 0 := congrArg Prod.fst h
  have h2 : p.1 * q.2 + p.2 * q.1 = 0 := congrArg Prod.snd h
  have k : (p.1 * p.1 + p.2 * p.2) * (q.1 * q.1 + q.2 * q.2) = 0 := by
    have e : (p.1 * p.1 + p.2 * p.2) * (q.1 * q.1 + q.2 * q.2) = (p.1 * q.1 - p.2 * q.2) * (p.1 * q.1 - p.2 * q.2) + (p.1 * q.2 + p.2 * q.1) * (p.1 * q.2 + p.2 * q.1) := by
      obtain ⟨a, b⟩ := p
      obtain ⟨c, d⟩ := q
      show (a * a + b * b) * (c * c + d * d) = (a * c - b * d) * (a * c - b * d) + (a * d + b * c) * (a * d + b * c)
      simp only [Int.mul_add, Int.add_mul, Int.mul_sub, Int.sub_mul]
      have e1 : a * c * (a * c) = a * a * (c * c) := by ac_rfl
      have e2 : a * c * (b * d) = a * d * (b * c) := by ac_rfl
      have e3 : b * d * (a * c) = b * c * (a * d) := by ac_rfl
      have e4 : b * d * (b * d) = b * b * (d * d) := by ac_rfl
      have e5 : a * d * (a * d) = a * a * (d * d) := by ac_rfl
      have e6 : b * c * (b * c) = b * b * (c * c) := by ac_rfl
      omega
    rw [e, h1, h2]
    rfl
  rcases Int.mul_eq_zero.mp k with k | k
  · exact .inl (gn_0 k)
  · exact .inr (gn_0 k)
/-- sums of lists, the longer one's end as it is -/
def ladd : List Gp → List Gp → List Gp
  | [], l => l
  | l, [] => l
  | x :: xs, y :: ys => gadd x y :: ladd xs ys
def scl (x : Gp) (l : List Gp) : List Gp := l.map (gmul x)
/-- what a line makes of points -/
def conv : List Gp → List Gp → List Gp
  | [], _ => []
  | x :: xs, b => ladd (scl x b) (g0 :: conv xs b)
theorem ladd_nil (l : List Gp) : ladd l [] = l := by cases l <;> rfl
theorem nil_ladd (l : List Gp) : ladd [] l = l := by cases l <;> rfl
theorem ladd_comm : ∀ a b : List Gp, ladd a b = ladd b a
  | [], b => by rw [nil_ladd, ladd_nil]
  | x :: xs, [] => rfl
  | x :: xs, y :: ys => by
    show gadd x y :: ladd xs ys = gadd y x :: ladd ys xs
    rw [gadd_comm, ladd_comm xs ys]
theorem ladd_assoc : ∀ a b c : List Gp, ladd (ladd a b) c = ladd a (ladd b c)
  | [], b, c => by rw [nil_ladd, nil_ladd]
  | x :: xs, [], c => by rw [ladd_nil, nil_ladd]
  | x :: xs, y :: ys, [] => by rw [ladd_nil, ladd_nil]
  | x :: xs, y :: ys, z :: zs => by
    show gadd (gadd x y) z :: ladd (ladd xs ys) zs = gadd x (gadd y z) :: ladd xs (ladd ys zs)
    rw [gadd_assoc, ladd_assoc xs ys zs]
theorem ladd_len : ∀ a b : List Gp, (ladd a b).length = max a.length b.length
  | [], b => by rw [nil_ladd]; simp
  | x :: xs, [] => by rw [ladd_nil]; simp
  | x :: xs, y :: ys => by
    show (ladd xs ys).length + 1 = _
    rw [ladd_len xs ys]
    simp only [List.length_cons]
    omega
theorem scl_len (x : Gp) (l : List Gp) : (scl x l).length = l.length := by simp [scl]
theorem scl_ladd (x : Gp) : ∀ a b : List Gp, scl x (ladd a b) = ladd (scl x a) (scl x b)
  | [], b => by rw [nil_ladd]; rfl
  | y :: ys, [] => by rw [ladd_nil]; rfl
  | y :: ys, z :: zs => by
    show gmul x (gadd y z) :: scl x (ladd ys zs) = gadd (gmul x y) (gmul x z) :: ladd (scl x ys) (scl x zs)
    rw [gmul_add, scl_ladd x ys zs]
theorem scl_scl (x y : Gp) (l : List Gp) : scl x (scl y l) = scl (gmul x y) l := by
  unfold scl
  rw [List.map_map]
  exact List.map_congr_left fun z _ => (gmul_assoc x y z).symm
theorem scl_add (x y : Gp) (l : List Gp) : scl (gadd x y) l = ladd (scl x l) (scl y l) := by
  induction l with
  | nil => rfl
  | cons z zs ih =>
    show gmul (gadd x y) z :: scl (gadd x y) zs = gadd (gmul x z) (gmul y z) :: ladd (scl x zs) (scl y zs)
    rw [gadd_mul, ih]
theorem conv_len {b : List Gp} (hb : b ≠ []) : ∀ {a : List Gp}, a ≠ [] → (conv a b).length + 1 = a.length + b.length
  | [], h => absurd rfl h
  | [x], _ => by
    have : 0 < b.length := List.length_pos_iff.mpr hb
    show (ladd (scl x b) [g0]).length + 1 = _
    rw [ladd_len, scl_len]
    simp
    omega
  | x :: y :: ys, _ => by
    have ih := conv_len hb (a := y :: ys) (by simp)
    have : 0 < b.length := List.length_pos_iff.mpr hb
    show (ladd (scl x b) (g0 :: conv (y :: ys) b)).length + 1 = _
    rw [ladd_len, scl_len]
    simp at ih ⊢
    omega
theorem ladd_shift (a b : List Gp) : ladd (g0 :: a) (g0 :: b) = g0 :: ladd a b := by
  show gadd g0 g0 :: ladd a b = _
  rw [gadd_0]
theorem ladd_swap (a b c d : List Gp) : ladd (ladd a b) (ladd c d) = ladd (ladd a c) (ladd b d) := by
  rw [ladd_assoc, ← ladd_assoc b c d, ladd_comm b c, ladd_assoc c b d, ← ladd_assoc]
theorem conv_ladd : ∀ (a a' b : List Gp), conv (ladd a a') b = ladd (conv a b) (conv a' b)
  | [], a', b => by rw [nil_ladd]; show _ = ladd [] _; rw [nil_ladd]
  | x :: xs, [], b => by rw [ladd_nil]; show _ = ladd _ []; rw [ladd_nil]
  | x :: xs, y :: ys, b => by
    show ladd (scl (gadd x y) b) (g0 :: conv (ladd xs ys) b) = ladd (ladd (scl x b) (g0 :: conv xs b)) (ladd (scl y b) (g0 :: conv ys b))
    rw [conv_ladd xs ys b, scl_add, ladd_swap, ladd_shift]
theorem scl_cons (x y : Gp) (l : List Gp) : scl x (y :: l) = gmul x y :: scl x l := rfl
theorem scl_0 : ∀ l : List Gp, scl g0 l = List.replicate l.length g0
  | [] => rfl
  | x :: xs => by
    show gmul g0 x :: scl g0 xs = g0 :: List.replicate xs.length g0
    rw [g0_mul, scl_0 xs]
theorem ladd_rep : ∀ (n : Nat) (l : List Gp), n ≤ l.length → ladd (List.replicate n g0) l = l
  | 0, l, _ => nil_ladd l
  | n + 1, [], h => by simp at h
  | n + 1, x :: xs, h => by
    show gadd g0 x :: ladd (List.replicate n g0) xs = _
    rw [g0_add, ladd_rep n xs (by simpa using h)]
theorem conv_one (y : Gp) : ∀ {a : List Gp}, a ≠ [] → conv a [y] = scl y a
  | [], h => absurd rfl h
  | [x], _ => by
    show [gadd (gmul x y) g0] = [gmul y x]
    rw [gadd_0, gmul_comm]
  | x :: w :: ws, _ => by
    show ladd [gmul x y] (g0 :: conv (w :: ws) [y]) = gmul y x :: scl y (w :: ws)
    rw [conv_one y (a := w :: ws) (by simp)]
    show gadd (gmul x y) g0 :: ladd [] (scl y (w :: ws)) = _
    rw [gadd_0, gmul_comm, nil_ladd]
theorem conv_snoc (y : Gp) {ys : List Gp} (hy : ys ≠ []) : ∀ {a : List Gp}, a ≠ [] → conv a (y :: ys) = ladd (scl y a) (g0 :: conv a ys)
  | [], h => absurd rfl h
  | [x], _ => by
    cases ys with
    | nil => exact absurd rfl hy
    | cons z zs =>
      show gadd (gmul x y) g0 :: ladd (scl x (z :: zs)) [] = gadd (gmul y x) g0 :: ladd [] (gadd (gmul x z) g0 :: ladd (scl x zs) [])
      rw [gmul_comm, ladd_nil, nil_ladd, gadd_0, gadd_0, ladd_nil]
      rfl
  | x :: w :: ws, _ => by
    have ih := conv_snoc y hy (a := w :: ws) (by simp)
    show ladd (scl x (y :: ys)) (g0 :: conv (w :: ws) (y :: ys)) = ladd (scl y (x :: w :: ws)) (g0 :: ladd (scl x ys) (g0 :: conv (w :: ws) ys))
    rw [ih]
    show gadd (gmul x y) g0 :: ladd (scl x ys) (ladd (scl y (w :: ws)) (g0 :: conv (w :: ws) ys)) = gadd (gmul y x) g0 :: ladd (scl y (w :: ws)) (ladd (scl x ys) (g0 :: conv (w :: ws) ys))
    rw [gmul_comm x y, ← ladd_assoc, ← ladd_assoc, ladd_comm (scl x ys)]
theorem conv_comm : ∀ {a b : List Gp}, a ≠ [] → b ≠ [] → conv a b = conv b a
  | [], _, h, _ => absurd rfl h
  | [x], b, _, hb => by
    rw [conv_one x hb]
    show ladd (scl x b) [g0] = _
    rw [ladd_comm]
    exact ladd_rep 1 _ (by rw [scl_len]; exact List.length_pos_iff.mpr hb)
  | x :: w :: ws, b, _, hb => by
    show ladd (scl x b) (g0 :: conv (w :: ws) b) = _
    rw [conv_comm (a := w :: ws) (b := b) (by simp) hb]
    exact (conv_snoc x (by simp) hb).symm
theorem scl_conv (x : Gp) : ∀ b c : List Gp, conv (scl x b) c = scl x (conv b c)
  | [], c => rfl
  | y :: ys, c => by
    show ladd (scl (gmul x y) c) (g0 :: conv (scl x ys) c) = scl x (ladd (scl y c) (g0 :: conv ys c))
    rw [scl_conv x ys c, scl_ladd, scl_scl]
    show _ = ladd _ (gmul x g0 :: scl x (conv ys c))
    rw [gmul_0]
theorem conv_shift {l c : List Gp} (hl : l ≠ [] ) (hc : c ≠ []) : conv (g0 :: l) c = g0 :: conv l c := by
  show ladd (scl g0 c) (g0 :: conv l c) = _
  rw [scl_0]
  refine ladd_rep _ _ ?_
  have := conv_len hc hl
  have : 0 < l.length := List.length_pos_iff.mpr hl
  simp
  omega
theorem conv_ne {a b : List Gp} (ha : a ≠ []) (hb : b ≠ []) : conv a b ≠ [] := fun h => by
  have := conv_len hb ha
  have : 0 < b.length := List.length_pos_iff.mpr hb
  have : 0 < a.length := List.length_pos_iff.mpr ha
  rw [h] at *
  simp at *
  omega
theorem conv_assoc {b c : List Gp} (hb : b ≠ []) (hc : c ≠ []) : ∀ {a : List Gp}, a ≠ [] → conv (conv a b) c = conv a (conv b c)
  | [], h => absurd rfl h
  | [x], _ => by
    have pb : 0 < b.length := List.length_pos_iff.mpr hb
    have e0 : ∀ l : List Gp, l ≠ [] → ladd l [g0] = l := fun l h => by
      rw [ladd_comm]
      exact ladd_rep 1 l (List.length_pos_iff.mpr h)
    show conv (ladd (scl x b) [g0]) c = ladd (scl x (conv b c)) [g0]
    rw [e0 _ (by simpa [scl] using hb), e0 _ (by simpa [scl] using conv_ne hb hc), scl_conv]
  | x :: y :: ys, _ => by
    have ih := conv_assoc hb hc (a := y :: ys) (by simp)
    show conv (ladd (scl x b) (g0 :: conv (y :: ys) b)) c = ladd (scl x (conv b c)) (g0 :: conv (y :: ys) (conv b c))
    rw [conv_ladd, scl_conv, conv_shift (conv_ne (by simp) hb) hc, ih]
/-- no product of two lines is nothing -/
def allz (l : List Gp) : Prop := ∀ x ∈ l, x = g0
theorem allz_rep : ∀ {l : List Gp}, allz l → l = List.replicate l.length g0
  | [], _ => rfl
  | x :: xs, h => by
    show _ = g0 :: List.replicate xs.length g0
    rw [← allz_rep (l := xs) fun y hy => h y (List.mem_cons_of_mem _ hy), h x List.mem_cons_self]
theorem conv_z : ∀ {a b : List Gp}, a ≠ [] → b ≠ [] → allz (conv a b) → allz a ∨ allz b
  | [], _, h, _, _ => absurd rfl h
  | x :: xs, [], _, h, _ => absurd rfl h
  | x :: xs, y :: ys, _, _, h => by
    by_cases hx : x = g0
    · cases xs with
      | nil => exact .inl fun z hz => by simpa [hx] using hz
      | cons w ws =>
        subst hx
        rw [conv_shift (by simp) (by simp)] at h
        rcases conv_z (a := w :: ws) (b := y :: ys) (by simp) (by simp) (fun z hz => h z (List.mem_cons_of_mem _ hz)) with k | k
        · exact .inl fun z hz => by
            rcases List.mem_cons.mp hz with rfl | hz
            · rfl
            · exact k z hz
        · exact .inr k
    · by_cases hy : y = g0
      · cases ys with
        | nil => exact .inr fun z hz => by simpa [hy] using hz
        | cons w ws =>
          subst hy
          rw [conv_comm (by simp) (by simp), conv_shift (by simp) (by simp)] at h
          rcases conv_z (a := w :: ws) (b := x :: xs) (by simp) (by simp) (fun z hz => h z (List.mem_cons_of_mem _ hz)) with k | k
          · exact .inr fun z hz => by
              rcases List.mem_cons.mp hz with rfl | hz
              · rfl
              · exact k z hz
          · exact .inl k
      · exfalso
        have : gadd (gmul x y) g0 = g0 := h _ (by show _ ∈ gadd (gmul x y) g0 :: _; exact List.mem_cons_self)
        rw [gadd_0] at this
        rcases gmul_eq0 this with k | k
        · exact hx k
        · exact hy k
termination_by a b => a.length + b.length
/-- the loops: products put where they belong -/
def addAt : List Gp → Nat → List Gp → List Gp
  | L, _, [] => L
  | [], _, _ :: _ => []
  | l :: L, 0, v :: vs => gadd l v :: addAt L 0 vs
  | l :: L, j + 1, v :: vs => l :: addAt L j (v :: vs)
theorem addAt_nil (L : List Gp) (j : Nat) : addAt L j [] = L := by cases L <;> cases j <;> rfl
theorem addAt_len : ∀ (L : List Gp) (j : Nat) (vs : List Gp), (addAt L j vs).length = L.length
  | L, j, [] => by rw [addAt_nil]
  | [], _, _ :: _ => rfl
  | l :: L, 0, v :: vs => by
    show (addAt L 0 vs).length + 1 = L.length + 1
    rw [addAt_len L 0 vs]
  | l :: L, j + 1, v :: vs => by
    show (addAt L j (v :: vs)).length + 1 = L.length + 1
    rw [addAt_len L j (v :: vs)]
theorem addAt_snoc (w : Gp) : ∀ (L : List Gp) (j : Nat) (vs : List Gp) (u : Gp), (addAt L j vs)[j + vs.length]? = some u → addAt L j (vs ++ [w]) = (addAt L j vs).set (j + vs.length) (gadd u w)
  | [], j, [], u, h => by rw [addAt_nil] at h; simp at h
  | [], j, _ :: _, u, h => by simp [addAt] at h
  | l :: L, 0, [], u, h => by
    have e : l = u := by simpa [addAt] using h
    subst e
    show gadd l w :: addAt L 0 [] = _
    rw [addAt_nil]
    rfl
  | l :: L, 0, v :: vs, u, h => by
    show gadd l v :: addAt L 0 (vs ++ [w]) = (gadd l v :: addAt L 0 vs).set (0 + (vs.length + 1)) (gadd u w)
    have h' : (addAt L 0 vs)[0 + vs.length]? = some u := by
      have : (gadd l v :: addAt L 0 vs)[0 + (vs.length + 1)]? = some u := h
      simpa using this
    rw [addAt_snoc w L 0 vs u h']
    simp
  | l :: L, j + 1, [], u, h => by
    show l :: addAt L j [w] = (l :: L).set (j + 1 + 0) (gadd u w)
    have h' : (addAt L j [])[j + 0]? = some u := by
      rw [addAt_nil]
      have : (l :: L)[j + 1 + 0]? = some u := h
      simpa using this
    have ih := addAt_snoc w L j [] u h'
    rw [addAt_nil] at ih
    rw [show [w] = [] ++ [w] from rfl, ih]
    rfl
  | l :: L, j + 1, v :: vs, u, h => by
    show l :: addAt L j ((v :: vs) ++ [w]) = (l :: addAt L j (v :: vs)).set (j + 1 + (v :: vs).length) (gadd u w)
    have h' : (addAt L j (v :: vs))[j + (v :: vs).length]? = some u := by
      have : (l :: addAt L j (v :: vs))[j + 1 + (v :: vs).length]? = some u := h
      rw [show j + 1 + (v :: vs).length = j + (v :: vs).length + 1 by omega] at this
      simpa using this
    rw [addAt_snoc w L j (v :: vs) u h', show j + 1 + (v :: vs).length = j + (v :: vs).length + 1 by omega]
    rfl
/-- all products of a list of points at j, j + 1 .. -/
def mulAt : List Gp → Nat → List Gp → List Gp → List Gp
  | L, _, [], _ => L
  | L, j, x :: xs, b => mulAt (addAt L j (scl x b)) (j + 1) xs b
theorem mulAt_len : ∀ (a L : List Gp) (j : Nat) (b : List Gp), (mulAt L j a b).length = L.length
  | [], L, j, b => rfl
  | x :: xs, L, j, b => by
    show (mulAt (addAt L j (scl x b)) (j + 1) xs b).length = _
    rw [mulAt_len, addAt_len]
theorem mulAt_snoc (x : Gp) (b : List Gp) : ∀ (a L : List Gp) (j : Nat), mulAt L j (a ++ [x]) b = addAt (mulAt L j a b) (j + a.length) (scl x b)
  | [], L, j => rfl
  | y :: ys, L, j => by
    show mulAt (addAt L j (scl y b)) (j + 1) (ys ++ [x]) b = addAt (mulAt (addAt L j (scl y b)) (j + 1) ys b) (j + (ys.length + 1)) (scl x b)
    rw [mulAt_snoc x b ys, show j + 1 + ys.length = j + (ys.length + 1) by omega]
theorem addAt_0 : ∀ (L vs : List Gp), vs.length ≤ L.length → addAt L 0 vs = ladd L vs
  | L, [], _ => by rw [addAt_nil, ladd_nil]
  | [], _ :: _, h => by simp at h
  | l :: L, v :: vs, h => by
    show gadd l v :: addAt L 0 vs = gadd l v :: ladd L vs
    rw [addAt_0 L vs (by simpa using h)]
theorem addAt_shift (l : Gp) (L vs : List Gp) (j : Nat) : addAt (l :: L) (j + 1) vs = l :: addAt L j vs := by
  cases vs with
  | nil => rw [addAt_nil, addAt_nil]
  | cons v vs => rfl
theorem mulAt_shift (l : Gp) (b : List Gp) : ∀ (a L : List Gp) (j : Nat), mulAt (l :: L) (j + 1) a b = l :: mulAt L j a b
  | [], L, j => rfl
  | x :: xs, L, j => by
    show mulAt (addAt (l :: L) (j + 1) (scl x b)) (j + 1 + 1) xs b = l :: mulAt (addAt L j (scl x b)) (j + 1) xs b
    rw [addAt_shift, mulAt_shift l b xs]
theorem mulAt_0 {b : List Gp} (hb : b ≠ []) : ∀ (a L : List Gp), a.length + b.length ≤ L.length + 1 → mulAt L 0 a b = ladd L (conv a b)
  | [], L, _ => by show L = ladd L []; rw [ladd_nil]
  | x :: xs, [], h => by
    have : 0 < b.length := List.length_pos_iff.mpr hb
    simp at h
    omega
  | x :: xs, l :: L, h => by
    show mulAt (addAt (l :: L) 0 (scl x b)) (0 + 1) xs b = ladd (l :: L) (ladd (scl x b) (g0 :: conv xs b))
    rw [addAt_0 _ _ (by rw [scl_len]; simp at h ⊢; omega)]
    cases b with
    | nil => exact absurd rfl hb
    | cons y ys =>
      rw [← ladd_assoc]
      show mulAt (gadd l (gmul x y) :: ladd L (scl x ys)) (0 + 1) xs (y :: ys) = gadd (gadd l (gmul x y)) g0 :: ladd (ladd L (scl x ys)) (conv xs (y :: ys))
      rw [mulAt_shift, gadd_0, mulAt_0 hb xs (ladd L (scl x ys)) (by rw [ladd_len, scl_len]; simp at h ⊢; omega)]
theorem mul_conv {a b : List Gp} (ha : a ≠ []) (hb : b ≠ []) : mulAt (List.replicate (a.length + b.length - 1) g0) 0 a b = conv a b := by
  have pa : 0 < a.length := List.length_pos_iff.mpr ha
  have pb : 0 < b.length := List.length_pos_iff.mpr hb
  rw [mulAt_0 hb a _ (by simp; omega)]
  refine ladd_rep _ _ ?_
  have := conv_len hb ha
  omega

/-! ### points and lines of the program -/
def pD (p : Gp) : PyData := .tuple [.int p.1, .int p.2]
def psD (l : List Gp) : List PyData := l.map pD
def itG (l : List Gp) : List Kt.It := (psD l).map It.d
def sm (p : Gp) : Prop := (-2 ^ 64 < p.1 ∧ p.1 < 2 ^ 64) ∧ (-2 ^ 64 < p.2 ∧ p.2 < 2 ^ 64)
theorem psD_len (l : List Gp) : (psD l).length = l.length := by simp [psD]
theorem itG_len (l : List Gp) : (itG l).length = l.length := by simp [itG, psD]
theorem psD_get {l : List Gp} {n : Nat} {p : Gp} (h : l[n]? = some p) : (psD l)[n]? = some (pD p) := by
  unfold psD
  rw [List.getElem?_map, h]
  rfl
theorem itG_at {l : List Gp} {n : Nat} {p : Gp} (h : l[n]? = some p) : atI (itG l) (n : Int) = some (.d (pD p)) := atI_nat (j := n) (by unfold itG; rw [List.getElem?_map, psD_get h]; rfl)
theorem psD_at {l : List Gp} {n : Nat} {p : Gp} (h : l[n]? = some p) : atI (psD l) (n : Int) = some (pD p) := atI_nat (j := n) (psD_get h)
theorem itG_set (l : List Gp) (n : Nat) (p : Gp) : (itG l).set n (.d (pD p)) = itG (l.set n p) := by
  unfold itG psD
  rw [List.map_set, List.map_set]
theorem psD_inv {l : List Gp} {n : Nat} {d : PyData} (h : (psD l)[n]? = some d) : ∃ p, l[n]? = some p ∧ d = pD p := by
  unfold psD at h
  rw [List.getElem?_map] at h
  obtain ⟨p, h1, h2⟩ := Option.map_eq_some_iff.mp h
  exact ⟨p, h1, h2.symm⟩
def CoPlus : Co := fun is M i M' => M = [] ∧ M' = [] ∧ ∃ p q, is = [.d (pD p), .d (pD q)] ∧ i = .d (pD (gadd p q))
def CoTimes : Co := fun is M i M' => M = [] ∧ M' = [] ∧ ∃ p q, is = [.d (pD p), .d (pD q)] ∧ sm p ∧ i = .d (pD (gmul p q))
def CoSm : Co := fun is M i M' => M = [] ∧ M' = [] ∧ ∃ ts ps pp, (pp = .tuple (psD ps) ∨ pp = .list (psD ps)) ∧ is = [.d (.tuple (psD ts)), .d pp] ∧ ts ≠ [] ∧ ps ≠ [] ∧ (∀ t ∈ ts, sm t) ∧ ts.length + ps.length ≤ 1000 ∧ i = .d (.list (psD (conv ps ts)))
theorem take_snoc {α : Type} {l : List α} {m : Nat} {x : α} (h : l[m]? = some x) : l.take (m + 1) = l.take m ++ [x] := by
  rw [List.take_add_one, h]
  rfl
section
variable {P : Program} {w : World} {K : PySem.W.Frag} {mg : Str → Option Value} {base : Heap}
theorem d_plus (T : Txt K mg) : Def P w K mg base "plus" 1 CoPlus := by
  obtain ⟨f, fd, F, hm, hb⟩ := T.f_plus
  refine def_ok F sc_plus hm hb (fun is M i M' h => ?_) fun X hX N is M i M' hF hC => ?_
  · obtain ⟨rfl, rfl, p, q, rfl, _⟩ := h
    exact ⟨rfl, rfl⟩
  · obtain ⟨cdv, A, outer, sh, H, E, rfl, hr⟩ := hX
    obtain ⟨rfl, rfl, p, q, rfl, rfl⟩ := hC
    have a0 : ∀ p : Gp, atI [PyData.int p.1, .int p.2] 0 = some (.int p.1) := fun p => atI_nat (j := 0) rfl
    have a1 : ∀ p : Gp, atI [PyData.int p.1, .int p.2] 1 = some (.int p.2) := fun p => atI_nat (j := 1) rfl
    exact sj_ret (ej_tup (aj_cons (ej_add (ej_ixT (ej_name 0) ej_int (a0 p)) (ej_ixT (ej_name 1) ej_int (a0 q))) (aj_cons (ej_add (ej_ixT (ej_name 0) ej_int (a1 p)) (ej_ixT (ej_name 1) ej_int (a1 q))) aj_nil))) ⟨rfl, [], rfl⟩
theorem d_times (T : Txt K mg) : Def P w K mg base "times" 1 CoTimes := by
  obtain ⟨f, fd, F, hm, hb⟩ := T.f_times
  refine def_ok F sc_times hm hb (fun is M i M' h => ?_) fun X hX N is M i M' hF hC => ?_
  · obtain ⟨rfl, rfl, p, q, rfl, _⟩ := h
    exact ⟨rfl, rfl⟩
  · obtain ⟨cdv, A, outer, sh, H, E, rfl, hr⟩ := hX
    obtain ⟨rfl, rfl, p, q, rfl, hs, rfl⟩ := hC
    have a0 : ∀ p : Gp, atI [PyData.int p.1, .int p.2] 0 = some (.int p.1) := fun p => atI_nat (j := 0) rfl
    have a1 : ∀ p : Gp, atI [PyData.int p.1, .int p.2] 1 = some (.int p.2) := fun p => atI_nat (j := 1) rfl
    exact sj_ret (ej_tup (aj_cons (ej_sub (ej_mul (ej_ixT (ej_name 0) ej_int (a0 p)) (ej_ixT (ej_name 1) ej_int (a0 q)) (.inl hs.1)) (ej_mul (ej_ixT (ej_name 0) ej_int (a1 p)) (ej_ixT (ej_name 1) ej_int (a1 q)) (.inl hs.2))) (aj_cons (ej_add (ej_mul (ej_ixT (ej_name 0) ej_int (a0 p)) (ej_ixT (ej_name 1) ej_int (a1 q)) (.inl hs.1)) (ej_mul (ej_ixT (ej_name 0) ej_int (a1 p)) (ej_ixT (ej_name 1) ej_int (a0 q)) (.inl hs.2))) aj_nil))) ⟨rfl, [], rfl⟩
theorem d_smeared (T : Txt K mg) : Def P w K mg base "smeared" 2 CoSm := by
  obtain ⟨f, fd, F, hm, hb⟩ := T.f_smeared
  have G1 := d_plus (P := P) (w := w) (base := base) T
  have G2 := d_times (P := P) (w := w) (base := base) T
  refine def_ok F sc_smeared hm hb (fun is M i M' h => ?_) fun X hX N is M i M' hF hC => ?_
  · obtain ⟨rfl, rfl, ts, ps, pp, _, rfl, _⟩ := h
    exact ⟨rfl, rfl⟩
  · obtain ⟨cdv, A, outer, sh, H, E, rfl, hr⟩ := hX
    obtain ⟨rfl, rfl, ts, ps, pp, hpp, rfl, ht, hp, hsm, hz, rfl⟩ := hC
    have nd := sc_smeared.nd
    have hr1 : Room 1 (A.deeper (envOfC "smeared" (defScope s_smeared) sh.heap.objs.size f cdv)) := hr.mono (by decide)
    have pt : 0 < ts.length := List.length_pos_iff.mpr ht
    have pq : 0 < ps.length := List.length_pos_iff.mpr hp
    have Zl : ((List.replicate ((((ts.length : Nat) : Int) + ((ps.length : Nat) : Int) - 1)).toNat [pD g0]).flatten).map It.d = itG (List.replicate (ps.length + ts.length - 1) g0) := by
      have e : (((ts.length : Nat) : Int) + ((ps.length : Nat) : Int) - 1).toNat = ps.length + ts.length - 1 := by omega
      rw [e]
      unfold itG psD
      congr 1
      generalize ps.length + ts.length - 1 = n
      induction n with
      | zero => rfl
      | succ n ih =>
        rw [List.replicate_succ, List.replicate_succ, List.flatten_cons, ih]
        rfl
    refine sj_own (M1 := []) 2 nd (el_rep (ds := [pD g0]) (n := ((ts.length : Nat) : Int) + ((ps.length : Nat) : Int) - 1) (ej_el (el_disp (aj_cons (ej_tup (aj_cons ej_int (aj_cons ej_int aj_nil))) aj_nil)) rfl) (ej_sub (ej_add (ej_is (ej_lenT (ds := psD ts) T.b_len (ej_name 0)) (congrArg (fun n : Nat => dI (n : Int)) (psD_len ts))) ?hlen) ej_int) (by omega) (by omega) (by simp; omega)) fun p hpF => ?_
    case hlen =>
      rcases hpp with rfl | rfl
      · exact ej_is (ej_lenT (ds := psD ps) T.b_len (ej_name 1)) (congrArg (fun n : Nat => dI (n : Int)) (psD_len ps))
      · exact ej_is (ej_lenL (ds := psD ps) T.b_len (ej_name 1)) (congrArg (fun n : Nat => dI (n : Int)) (psD_len ps))
    rw [Zl]
    refine sj_forW (ds := enumD (psD ps)) (M1 := [(p, itG (List.replicate (ps.length + ts.length - 1) g0))]) rfl ?hit (fun j ρ M => ∃ y1 y2 y3 y4, ρ = [some (.d (.tuple (psD ts))), some (.d pp), some (.v (.ref p)), y1, y2, y3, y4] ∧ M = [(p, itG (mulAt (List.replicate (ps.length + ts.length - 1) g0) 0 (ps.take j) ts))]) ⟨none, none, none, none, rfl, rfl⟩ (fun j d ρ M hd hI => ?_) fun ρ M hI => ?_
    case hit =>
      rcases hpp with rfl | rfl
      · exact iw_enumT T.b_enumerate (ej_name 1)
      · exact iw_enumL T.b_enumerate (ej_name 1)
    · obtain ⟨y1, y2, y3, y4, rfl, rfl⟩ := hI
      obtain ⟨x, hx, rfl⟩ := enumD_inv hd
      obtain ⟨pt0, hp0, rfl⟩ := psD_inv hx
      have jl : j < ps.length := (List.getElem?_eq_some_iff.mp hp0).1
      refine ⟨_, gj_tup rfl (gs_cons 3 nd (gs_cons 4 nd gs_nil)), ?_⟩
      generalize hL : mulAt (List.replicate (ps.length + ts.length - 1) g0) 0 (ps.take j) ts = L
      have hLl : L.length = ps.length + ts.length - 1 := by rw [← hL, mulAt_len, List.length_replicate]
      refine sj_forW (ds := enumD (psD ts)) rfl (iw_enumT T.b_enumerate (ej_name 0)) (fun k ρ M => ∃ y3 y4, ρ = [some (.d (.tuple (psD ts))), some (.d pp), some (.v (.ref p)), some (dI (j : Int)), some (.d (pD pt0)), y3, y4] ∧ M = [(p, itG (addAt L j (scl pt0 (ts.take k))))]) ⟨y3, y4, rfl, by rw [List.take_zero]; show _ = [(p, itG (addAt L j []))]; rw [addAt_nil]⟩ (fun k d ρ M hd hI => ?_) fun ρ M hI => ?_
      · obtain ⟨y3, y4, rfl, rfl⟩ := hI
        obtain ⟨x, hx, rfl⟩ := enumD_inv hd
        obtain ⟨t0, ht0, rfl⟩ := psD_inv hx
        have kl : k < ts.length := (List.getElem?_eq_some_iff.mp ht0).1
        refine ⟨_, gj_tup rfl (gs_cons 5 nd (gs_cons 6 nd gs_nil)), ?_⟩
        have tl : (scl pt0 (ts.take k)).length = k := by rw [scl_len, List.length_take]; omega
        generalize hL2 : addAt L j (scl pt0 (ts.take k)) = L2
        have hL2l : L2.length = ps.length + ts.length - 1 := by rw [← hL2, addAt_len, hLl]
        have hix : j + k < L2.length := by omega
        obtain ⟨u, hu⟩ : ∃ u, L2[j + k]? = some u := ⟨_, List.getElem?_eq_getElem hix⟩
        have eix : ((j : Int) + (k : Int)) = ((j + k : Nat) : Int) := by omega
        refine sj_setO (p := p) (n := j + k) (ej_callP G1 hr1 (aj_cons (ej_ixO (ej_name 2) (ej_is (ej_add (ej_name 3) (ej_name 5)) (congrArg (fun z => dI z) eix)) (List.mem_singleton.mpr rfl) (itG_at hu)) (aj_cons (ej_callP G2 hr1 (aj_cons (ej_name 6) (aj_cons (ej_name 4) aj_nil)) ⟨rfl, rfl, t0, pt0, rfl, hsm t0 (List.mem_of_getElem? ht0), rfl⟩) aj_nil)) ⟨rfl, rfl, u, gmul t0 pt0, rfl, rfl⟩) (ej_name 2) (ej_is (ej_add (ej_name 3) (ej_name 5)) (congrArg (fun z => dI z) eix)) (List.mem_singleton.mpr rfl) (by rw [itG_len]; exact hix) (sj_nil ⟨_, _, rfl, ?_⟩)
        rw [itG_set]
        have e1 : addAt L j (scl pt0 (ts.take (k + 1))) = L2.set (j + k) (gadd u (gmul t0 pt0)) := by
          have e2 : scl pt0 (ts.take (k + 1)) = scl pt0 (ts.take k) ++ [gmul pt0 t0] := by
            rw [take_snoc ht0]
            unfold scl
            rw [List.map_append]
            rfl
          rw [e2, addAt_snoc _ L j _ u (by rw [hL2, tl]; exact hu), hL2, tl, gmul_comm]
        rw [e1]
        simp [Mem.put]
      · obtain ⟨y3, y4, rfl, rfl⟩ := hI
        refine sj_nil ⟨_, _, _, _, rfl, ?_⟩
        rw [take_snoc hp0, mulAt_snoc, hL, enumD_len, psD_len, List.take_length]
        have : 0 + (ps.take j).length = j := by rw [List.length_take]; omega
        rw [this]
    · obtain ⟨y1, y2, y3, y4, rfl, rfl⟩ := hI
      rw [enumD_len, psD_len, List.take_length, mul_conv hp ht]
      refine sj_freeze 2 (p := p) (ds := psD (conv ps ts)) rfl (List.mem_singleton.mpr rfl) hpF ?_
      exact sj_ret (ej_name 2) ⟨rfl, [], by simp⟩
end

theorem ok_init {P : Program} {w : World} {K : PySem.W.Frag} {mg : Str → Option Value} {base : Heap} {Cs C0 fI : Addr} {fd : FuncData} (T : ErrTxt K mg s_init Cs C0 fI fd) : InitOk P w K mg base Cs fI fd := by
  refine T.fn.ok sc_init (fun vs H Q E h => ?_) (fun cdv A outer s H vs Q E hr h => ?_)
  · obtain ⟨a, z, rfl, _⟩ := h
    rfl
  · obtain ⟨a, z, rfl, ea, hz, q⟩ := h
    refine ⟨_, pss_cons (ps_expr (pe_hinit rfl T.g0 T.sp0 T.rd0 T.v0 (pa_cons (pv 0) (pa_cons (pe_joined (.cons pe_str (.cons (pe_fmt (pv 1)) .nil))) pa_nil)))) (pss_one (ps_ost (pv 0) (pv 1))), ?_⟩
    have l1 : ((Str.empty ++ Str.ofString "wrong shape: ") : Str).length ≤ 1000 := by decide +kernel
    refine ⟨.ref a, rfl, _, rfl, Nat.le_trans l1 (by decide), .str z, rfl, .inl ⟨z, rfl, Nat.le_trans hz (by decide), z, rfl, ?_, ?_⟩⟩
    · rw [Str.length_append]
      exact Nat.le_trans (Nat.add_le_add l1 hz) (by decide)
    · exact ⟨a, Cs, _, rfl, (by show 1 ≤ 1000; decide), T.oex, ea, .str z, rfl, .ref a, rfl, a, Cs, rfl, T.oex, T.no, .inl ⟨ea, fun dx hdx ne => q dx hdx ne⟩⟩

/-! ### lines -/
def lnD (ts : List Gp) : PyData := .tuple [.str "line", .tuple (psD ts)]
def zeroP (x : PyData) : Bool := match x with
  | .tuple [.int a, .int b] => decide (a = 0) && decide (b = 0)
  | _ => false
def chkL (d : PyData) : Option Str := match d with
  | .tuple l => if betw (.int (l.length : Int)) 1 4 = true then if (l.map fun x => tupB x 2 (-50) 50).all id = true then if (l.map zeroP).all id = true then some "nothing" else none else some "tap" else some "taps"
  | _ => some "taps"
theorem chkL_tup (l : List PyData) : chkL (.tuple l) = if betw (.int (l.length : Int)) 1 4 = true then if (l.map fun x => tupB x 2 (-50) 50).all id = true then if (l.map zeroP).all id = true then some ("nothing" : Str) else none else some ("tap" : Str) else some ("taps" : Str) := rfl
theorem tup2_inv {x : PyData} (h : tupB x 2 (-50) 50 = true) : ∃ a b : Int, x = .tuple [.int a, .int b] := by
  cases x with
  | tuple l =>
    have h := Bool.and_eq_true_iff.mp h
    have hl : (l.length : Int) = 2 := of_decide_eq_true h.1
    match l, hl, h.2 with
    | [x, y], _, h2 =>
      simp only [List.map_cons, List.map_nil, List.all_cons, List.all_nil, id, Bool.and_true, Bool.and_eq_true] at h2
      have f : ∀ x : PyData, betw x (-50) 50 = true → ∃ a : Int, x = .int a := fun x hx => by
        cases x <;> simp [betw] at hx
        exact ⟨_, rfl⟩
      obtain ⟨a, rfl⟩ := f x h2.1
      obtain ⟨b, rfl⟩ := f y h2.2
      exact ⟨a, b, rfl⟩
    | [], hl, _ => simp at hl
    | [_], hl, _ => simp at hl
    | _ :: _ :: _ :: _, hl, _ => simp at hl; omega
  | _ => simp [tupB] at h
theorem eqv_pt (a b c d : Int) : PyData.eqv (.tuple [.int a, .int b]) (.tuple [.int c, .int d]) = (decide (a = c) && decide (b = d)) := by
  simp [PyData.eqv, PyData.eqvAll]
  rfl
theorem pn_pt (a b : Int) : PN 1 (.tuple [.int a, .int b]) := .tup _ fun x hx => by
  simp only [List.mem_cons, List.not_mem_nil, or_false] at hx
  rcases hx with rfl | rfl <;> exact .int _
def CoChk : Co := fun is M i M' => M = [] ∧ M' = [] ∧ ∃ d, is = [.d (.tuple [.str "line", d])] ∧ tame 2 d ∧ chkL d = none ∧ i = .d .none
def RoChk : Ro := fun is M z => M = [] ∧ ∃ d, is = [.d (.tuple [.str "line", d])] ∧ tame 2 d ∧ chkL d = some z
def CoSent : Co := fun is M i M' => M = [] ∧ M' = [] ∧ ∃ ts ps, is = [.d (lnD ts), .d (.list (psD ps))] ∧ ts ≠ [] ∧ (∀ t ∈ ts, sm t) ∧ ts.length + ps.length ≤ 1000 ∧ i = .d (.list (psD (conv ps ts)))
section
variable {P : Program} {w : World} {K : PySem.W.Frag} {mg : Str → Option Value} {base : Heap}
theorem d_check_line (T : Txt K mg) : DefX P w K mg base "check_line" 4 CoChk RoChk := by
  obtain ⟨f, fd, F, hm, hb⟩ := T.f_check_line
  obtain ⟨Cs, C0, fI, fdI, ER⟩ := T.err
  obtain ⟨tL, cL⟩ := T.c_LIMIT
  have F1 := ok_init (P := P) (w := w) (base := base) ER
  have G1 := d_is_between (P := P) (w := w) (base := base) T
  have G2 := d_is_tuple_between (P := P) (w := w) (base := base) T
  refine defX_ok F sc_check_line hm hb (fun is M i M' h => ?_) (fun is M z h => ?_) fun X hX N is M hF => ?_
  · obtain ⟨rfl, rfl, d, rfl, _⟩ := h
    exact ⟨rfl, rfl⟩
  · obtain ⟨rfl, d, rfl, _⟩ := h
    rfl
  · obtain ⟨cdv, A, outer, sh, H, E, rfl, hr⟩ := hX
    have nd := sc_check_line.nd
    have hr2 : Room 2 (A.deeper (envOfC "check_line" (defScope s_check_line) sh.heap.objs.size f cdv)) := hr.mono (by decide)
    have hr3 : Room 3 (A.deeper (envOfC "check_line" (defScope s_check_line) sh.heap.objs.size f cdv)) := hr.mono (by decide)
    have core : ∀ d, tame 2 d → ∀ Z : Post, (chkL d = none → ∀ ρ', Z.nx ρ' []) → (∀ z, chkL d = some z → Z.er z []) → SJ (cxOf (L2.CX P w) P w K mg base n_check_line "check_line" (defScope s_check_line) f cdv A outer sh H E) N (rho n_check_line [.d (.tuple [.str "line", d])]) [] (defBody s_check_line) Z := by
      intro d ht Z h0 hz
      refine sj_set (i := .d d) 1 nd (ej_ixT (ds := [.str "line", d]) (ej_name 0) ej_int (atI_nat (j := 1) rfl)) ?_
      cases d with
      | tuple l =>
        refine sj_if (tj_w (wj_or (t := false) (tj_is (tj_not (tj_val (ej_isi T.b_isinstance (ej_name 1) (ej_ty T.b_tuple boot_tuple') (kit_tuple (.tuple l))))) rfl) fun _ => wj_or1 (tj_not (tj_val (ej_callP G1 hr2 (aj_cons (ej_lenT (ds := l) T.b_len (ej_name 1)) (aj_cons ej_int (aj_cons ej_int aj_nil))) ⟨rfl, rfl, .int (l.length : Int), 1, 4, rfl, rfl⟩))))) (fun h => ?_) fun h => sj_nil ?_
        · have hb : betw (.int (l.length : Int)) 1 4 = false := by simpa using h
          exact sj_raise rfl ER F1 hr2 ej_str (by decide) (hz _ (by rw [chkL_tup, hb]; rfl))
        · have hb : betw (.int (l.length : Int)) 1 4 = true := by simpa using h
          have hl4 : l.length ≤ 4 := by
            have := of_decide_eq_true (Bool.and_eq_true_iff.mp hb).2
            omega
          refine sj_if (tj_not (tj_val (ej_all (bs := l.map fun x => tupB x 2 (-50) 50) rfl T.b_all (ej_el (el_compT 2 (ds := l) (fun k => (l.take k).map fun x => dB (tupB x 2 (-50) 50)) (fun _ => []) rfl nd (ej_name 1) rfl rfl (by omega) fun k d hk => ⟨dB (tupB d 2 (-50) 50), take_map_succ _ hk, by simp; omega, fun N' s H C cl fp => ej_callP G2 hr3 (aj_cons (ej_name 2) (aj_cons ej_int (aj_cons (ej_neg (n := 50) (ej_gint cL)) (aj_cons (ej_gint cL) aj_nil)))) ⟨rfl, rfl, d, 2, -50, 50, rfl, ht.2 d (List.mem_of_getElem? hk), rfl⟩⟩) ?_)))) (fun h => ?_) fun h => sj_nil ?_
          · rw [List.take_length, List.map_map, List.map_map]
            rfl
          · have h2 : ((l.map fun x => tupB x 2 (-50) 50).all id) = false := by simpa using h
            exact sj_raise rfl ER F1 hr2 ej_str (by decide) (hz _ (by rw [chkL_tup, hb, if_pos rfl, h2]; rfl))
          · have h2 : ((l.map fun x => tupB x 2 (-50) 50).all id) = true := by simpa using h
            have h2' : ∀ x ∈ l, ∃ a b : Int, x = .tuple [.int a, .int b] := fun x hx => tup2_inv (by simpa using List.all_eq_true.mp h2 _ (List.mem_map_of_mem hx))
            refine sj_if (tj_val (ej_all (bs := l.map zeroP) rfl T.b_all (ej_el (el_compT 2 (ds := l) (fun k => (l.take k).map fun x => dB (zeroP x)) (fun _ => []) rfl nd (ej_name 1) rfl rfl (by omega) fun k d hk => ⟨dB (zeroP d), take_map_succ _ hk, by simp; omega, fun N' s H C cl fp => ?_⟩) ?_))) (fun h => ?_) fun h => sj_nil ?_
            · obtain ⟨a, b, rfl⟩ := h2' d (List.mem_of_getElem? hk)
              exact ej_is (ej_eqD hr.units (ej_name 2) (ej_tup (ds := [.int 0, .int 0]) (aj_cons ej_int (aj_cons ej_int aj_nil))) (.d _) (.d _) (pn_pt a b).plain (pn_pt 0 0).plain) (congrArg dB (eqv_pt a b 0 0))
            · rw [List.take_length, List.map_map, List.map_map]
              rfl
            · exact sj_raise rfl ER F1 hr2 ej_str (by decide) (hz _ (by rw [chkL_tup, hb, if_pos rfl, h2, if_pos rfl, h]; rfl))
            · exact sj_nil (h0 (by rw [chkL_tup, hb, if_pos rfl, h2, if_pos rfl, h]; rfl) _)
      | _ =>
        refine sj_if (tj_w (wj_or (t := true) (u := true) (tj_is (tj_not (tj_val (ej_isi T.b_isinstance (ej_name 1) (ej_ty T.b_tuple boot_tuple') (kit_tuple _)))) rfl) fun h => nomatch h)) (fun _ => ?_) fun h => nomatch h
        exact sj_raise rfl ER F1 hr2 ej_str (by decide) (hz _ rfl)
    refine ⟨fun i M' hC => ?_, fun z hR => ?_⟩
    · obtain ⟨rfl, rfl, d, rfl, ht, h0, rfl⟩ := hC
      exact core d ht _ (fun _ ρ' => ⟨rfl, [], rfl⟩) fun z hz => by rw [h0] at hz; cases hz
    · obtain ⟨rfl, d, rfl, ht, h0⟩ := hR
      exact core d ht _ (fun h => by rw [h0] at h; cases h) fun z' hz => by
        rw [h0] at hz
        cases hz
        exact ⟨rfl, rfl⟩
theorem d_sent (T : Txt K mg) : Def P w K mg base "sent" 3 CoSent := by
  obtain ⟨f, fd, F, hm, hb⟩ := T.f_sent
  have G1 := d_smeared (P := P) (w := w) (base := base) T
  refine def_ok F sc_sent hm hb (fun is M i M' h => ?_) fun X hX N is M i M' hF hC => ?_
  · obtain ⟨rfl, rfl, ts, ps, rfl, _⟩ := h
    exact ⟨rfl, rfl⟩
  · obtain ⟨cdv, A, outer, sh, H, E, rfl, hr⟩ := hX
    obtain ⟨rfl, rfl, ts, ps, rfl, ht, hs, hz, rfl⟩ := hC
    refine sj_if (tj_eqI (ej_lenL (ds := psD ps) T.b_len (ej_name 1)) ej_int) (fun h => ?_) fun h => sj_nil ?_
    · have h0 : ps = [] := by
        have := of_decide_eq_true h
        rw [psD_len] at this
        exact List.length_eq_zero_iff.mp (by omega)
      subst h0
      exact sj_ret (ej_el (ds := []) (el_disp aj_nil) rfl) ⟨rfl, [], rfl⟩
    · have h0 : ps ≠ [] := fun e => by
        subst e
        simp [psD] at h
      exact sj_ret (ej_callP G1 hr (aj_cons (ej_ixT (ds := [.str "line", .tuple (psD ts)]) (ej_name 0) ej_int (atI_nat (j := 1) rfl)) (aj_cons (ej_name 1) aj_nil)) ⟨rfl, rfl, ts, ps, _, .inr rfl, rfl, ht, h0, hs, hz, rfl⟩) ⟨rfl, [], rfl⟩
end

/-! ### the law's stream -/
def Gd (c : List Int) : Prop := ∀ x ∈ c, 0 ≤ x ∧ x < 59
theorem Gd.app {c : List Int} {x : Int} (h : Gd c) (h0 : 0 ≤ x) (h1 : x < 59) : Gd (c ++ [x]) := fun y hy => by
  rcases List.mem_append.mp hy with hy | hy
  · exact h y hy
  · cases List.mem_singleton.mp hy
    exact ⟨h0, h1⟩
def Sk (p : Addr) (k : Nat) (c : List Int) : Mem := [(p, dI (k : Int) :: c.map dI)]
def tkV (c : List Int) (k : Nat) (many : Int) : Int := if k < c.length + 1 then c.getD (k - 1) 0 % many else 0
def tkK (c : List Int) (k : Nat) : Nat := if k < c.length + 1 then k + 1 else k
theorem tkV_lo (c : List Int) (k : Nat) {many : Int} (h : 0 < many) : 0 ≤ tkV c k many := by
  unfold tkV
  split
  · exact Int.emod_nonneg _ (by omega)
  · exact Int.le_refl 0
theorem tkV_hi (c : List Int) (k : Nat) {many : Int} (h : 0 < many) : tkV c k many < many := by
  unfold tkV
  split
  · exact Int.emod_lt_of_pos _ h
  · exact h
theorem tkK_pos (c : List Int) (k : Nat) (h : 1 ≤ k) : 1 ≤ tkK c k := by
  unfold tkK
  split <;> omega
def PreStream (K : PySem.W.Frag) : Pre := fun is M => M = [] ∧ ∃ a ns, is = [scr K a ns] ∧ ns.length ≤ 63
def CoStream (K : PySem.W.Frag) : Co := fun is _ i M' => ∃ a ns p c, is = [scr K a ns] ∧ i = .v (.ref p) ∧ M' = Sk p 1 c ∧ Gd c ∧ c.length ≤ 9000
def CoTake : Co := fun is M i M' => ∃ (p : Addr) (k : Nat) (c : List Int) (many : Int), is = [.v (.ref p), dI many] ∧ M = Sk p k c ∧ 1 ≤ k ∧ 0 < many ∧ i = dI (tkV c k many) ∧ M' = Sk p (tkK c k) c
theorem sk_mem {p : Addr} {k : Nat} {c : List Int} : (p, dI (k : Int) :: c.map dI) ∈ Sk p k c := List.mem_singleton.mpr rfl
theorem sk_put {p : Addr} {k k' : Nat} {c : List Int} {l : List Kt.It} (h : l = dI (k' : Int) :: c.map dI) : (Sk p k c).put p l = Sk p k' c := by
  subst h
  simp [Sk, Mem.put]
theorem sk_app {p : Addr} {k : Nat} {c : List Int} {x : Int} : (Sk p k c).put p ((dI (k : Int) :: c.map dI) ++ [dI x]) = Sk p k (c ++ [x]) := by
  simp [Sk, Mem.put]
section
variable {P : Program} {w : World} {K : PySem.W.Frag} {mg : Str → Option Value} {base : Heap}
theorem d_law_take (T : Txt K mg) : Def P w K mg base "_law_take" 1 CoTake := by
  obtain ⟨f, fd, F, hm, hb⟩ := T.f_law_take
  refine def_ok F sc_law_take hm hb (fun is M i M' h => ?_) fun X hX N is M i M' hF hC => ?_
  · obtain ⟨p, k, c, many, rfl, rfl, _, _, _, rfl⟩ := h
    exact ⟨rfl, rfl⟩
  · obtain ⟨cdv, A, outer, s, H, E, rfl, hr⟩ := hX
    obtain ⟨p, k, c, many, rfl, rfl, h1, h2, rfl, rfl⟩ := hC
    have nd := sc_law_take.nd
    have a0 : ∀ k : Nat, atI (dI (k : Int) :: c.map dI) 0 = some (dI (k : Int)) := fun k => atI_nat (j := 0) rfl
    refine sj_if (tj_lt (ej_ixO (ej_name 0) ej_int sk_mem (a0 k)) (ej_lenO T.b_len (ej_name 0) sk_mem)) (fun h => ?_) fun h => sj_nil ?_
    · have hk : k < c.length + 1 := by
        have := of_decide_eq_true h
        simp at this
        omega
      refine sj_setO (p := p) (n := 0) (ej_is (ej_add (ej_ixO (ej_name 0) ej_int sk_mem (a0 k)) ej_int) (congrArg (fun z => dI z) (show (k : Int) + 1 = ((k + 1 : Nat) : Int) by omega))) (ej_name 0) ej_int sk_mem (by simp) ?_
      refine sj_is (M' := Sk p (k + 1) c) ?_ rfl (sk_put (by simp))
      have hix : atI (dI ((k + 1 : Nat) : Int) :: c.map dI) ((k : Nat) : Int) = some (dI (c.getD (k - 1) 0)) := by
        refine atI_nat (j := k) ?_
        obtain ⟨j, rfl⟩ : ∃ j, k = j + 1 := ⟨k - 1, by omega⟩
        show (c.map dI)[j]? = _
        rw [List.getElem?_map, Nat.add_sub_cancel, List.getD_eq_getElem?_getD, List.getElem?_eq_getElem (by omega)]
        rfl
      refine sj_is (M' := Sk p (k + 1) c) (sj_ret (ej_mod (ej_intc T.b_int (ej_ixO (ej_name 0) (ej_is (ej_sub (ej_ixO (ej_name 0) ej_int sk_mem (a0 (k + 1))) ej_int) (congrArg (fun z => dI z) (show ((k + 1 : Nat) : Int) - 1 = (k : Int) by omega))) sk_mem hix)) (ej_name 1) h2) ⟨?_, [], ?_⟩) rfl rfl
      · unfold tkV
        rw [if_pos hk]
      · unfold tkK
        rw [if_pos hk, List.append_nil]
    · have hk : ¬ k < c.length + 1 := by
        have := of_decide_eq_false h
        simp at this
        omega
      refine sj_ret ej_int ⟨?_, [], ?_⟩
      · unfold tkV
        rw [if_neg hk]
      · unfold tkK
        rw [if_neg hk, List.append_nil]
theorem d_law_stream (T : Txt K mg) : DefN P w K mg base "_law_stream" 1 (PreStream K) (CoStream K) := by
  obtain ⟨f, fd, F, hm, hb⟩ := T.f_law_stream
  refine defN_ok F sc_law_stream hm hb (fun is M h => ?_) (fun is M i M' h _ a ha => ?_) fun X hX N is M hF hA => ?_
  · obtain ⟨rfl, a, ns, rfl, _⟩ := h
    rfl
  · obtain ⟨rfl, _⟩ := h
    exact absurd ha List.not_mem_nil
  · obtain ⟨cdv, A, outer, s, H, E, rfl, hr⟩ := hX
    obtain ⟨rfl, a, ns, rfl, hl⟩ := hA
    have nd := sc_law_stream.nd
    have hcut : Kt.cutD (ns.map PyData.int) none (some 63) = ns.map .int := by
      unfold Kt.cutD
      rw [show HT.sIx (ns.map PyData.int).length 0 none = 0 from rfl, List.drop_zero]
      refine List.take_of_length_le ?_
      show _ ≤ HT.sIx _ _ (some ((63 : Nat) : Int)) - 0
      rw [HT.sIx_nat]
      simp
      omega
    refine sj_own (M1 := []) 1 nd (el_disp (aj_cons ej_int aj_nil)) fun p hp => ?_
    refine sj_forL (ds := ns.map .int) (M1 := Sk p 1 []) rfl (ej_el (el_slS (l := none) (h := some 63) (ej_name 0) scr_src po_none (po_some pe_int) (fun _ _ _ q => q) (fun _ _ _ q => ⟨63, rfl, q⟩)) (by rw [hcut])) (fun n ρ M => ∃ y1 y2 y3 y4 c, ρ = [some (scr K a ns), some (.v (.ref p)), y1, y2, y3, y4] ∧ M = Sk p 1 c ∧ Gd c ∧ c.length ≤ 60 * n) ⟨none, none, none, none, [], rfl, rfl, fun _ h => (nomatch h), Nat.le_refl _⟩ (fun n d ρ M hd hI => ?_) fun ρ M hI => ?_
    · obtain ⟨y1, y2, y3, y4, c, rfl, rfl, hg, hc⟩ := hI
      rw [List.getElem?_map] at hd
      obtain ⟨v, hv, rfl⟩ := Option.map_eq_some_iff.mp hd
      have nl : n < ns.length := (List.getElem?_eq_some_iff.mp hv).1
      refine ⟨_, gj_name 2 nd, ?_⟩
      refine sj_set 3 nd (ej_abs T.b_abs (ej_intc T.b_int (ej_name 2))) ?_
      refine sj_forR (m := 60) rfl T.b_range ej_int (by decide) (fun k ρ M => ∃ y2 left y4 c, ρ = [some (scr K a ns), some (.v (.ref p)), some (dI v), some (dI left), y2, y4] ∧ M = Sk p 1 c ∧ Gd c ∧ c.length ≤ 60 * n + k) ⟨_, _, _, c, rfl, rfl, hg, hc⟩ (fun k ρ M hk hI => ?_) fun ρ M hI => ?_
      · obtain ⟨y2, left, y4, c, rfl, rfl, hg, hc⟩ := hI
        have hk : k < 60 := hk
        refine ⟨_, gj_name 4 nd, ?_⟩
        refine sj_append (p := p) (ej_name 1) sk_mem (ej_mod (ej_name 3) ej_int (by decide)) sk_mem (by simp; omega) ?_
        refine sj_is (M' := Sk p 1 (c ++ [left % 59])) ?_ rfl sk_app
        refine sj_set 3 nd (ej_fdiv (ej_name 3) ej_int (by decide)) ?_
        have g2 : Gd (c ++ [left % 59]) := hg.app (Int.emod_nonneg _ (by decide)) (Int.emod_lt_of_pos _ (by decide))
        refine sj_if (tj_eqI (ej_name 3) ej_int) (fun h => sj_break (sj_nil ⟨_, _, _, _, _, rfl, rfl, g2, by simp; omega⟩)) fun h => sj_nil (sj_nil ⟨_, _, _, _, rfl, rfl, g2, by simp; omega⟩)
      · obtain ⟨y2, left, y4, c, rfl, rfl, hg, hc⟩ := hI
        exact sj_nil ⟨_, _, _, _, c, rfl, rfl, hg, by have : c.length ≤ 60 * n + 60 := hc; omega⟩
    · obtain ⟨y1, y2, y3, y4, c, rfl, rfl, hg, hc⟩ := hI
      have hc : c.length ≤ 3780 := by rw [List.length_map] at hc; omega
      refine sj_set 5 nd ej_int ?_
      refine sj_forL (ds := ns.map .int) (M1 := Sk p 1 c) rfl (ej_el (el_slS (l := none) (h := some 63) (ej_name 0) scr_src po_none (po_some pe_int) (fun _ _ _ q => q) (fun _ _ _ q => ⟨63, rfl, q⟩)) (by rw [hcut])) (fun n ρ M => ∃ y1 y2 y3 sd, ρ = [some (scr K a ns), some (.v (.ref p)), y1, y2, y3, some (dI sd)] ∧ M = Sk p 1 c) ⟨_, _, _, _, rfl, rfl⟩ (fun n d ρ M hd hI => ?_) fun ρ M hI => ?_
      · obtain ⟨y1, y2, y3, sd, rfl, rfl⟩ := hI
        rw [List.getElem?_map] at hd
        obtain ⟨v, hv, rfl⟩ := Option.map_eq_some_iff.mp hd
        refine ⟨_, gj_name 2 nd, ?_⟩
        exact sj_set 5 nd (ej_mod (ej_intc T.b_int (ej_add (ej_add (ej_mul (ej_name 5) ej_int (.inr (by decide))) (ej_name 2)) ej_int)) ej_int (by decide)) (sj_nil ⟨_, _, _, _, rfl, rfl⟩)
      · obtain ⟨y1, y2, y3, sd, rfl, rfl⟩ := hI
        refine sj_forR (m := 150) rfl T.b_range ej_int (by decide) (fun k ρ M => ∃ y1 y2 y3 sd c, ρ = [some (scr K a ns), some (.v (.ref p)), y1, y2, y3, some (dI sd)] ∧ M = Sk p 1 c ∧ Gd c ∧ c.length ≤ 3780 + k) ⟨_, _, _, _, c, rfl, rfl, hg, hc⟩ (fun k ρ M hk hI => ?_) fun ρ M hI => ?_
        · obtain ⟨y1, y2, y3, sd, c, rfl, rfl, hg, hc⟩ := hI
          have hk : k < 150 := hk
          refine ⟨_, gj_name 4 nd, ?_⟩
          refine sj_set 5 nd (ej_mod (ej_intc T.b_int (ej_add (ej_add (ej_mul (ej_name 5) ej_int (.inr (by decide))) (ej_mul (ej_name 4) ej_int (.inr (by decide)))) ej_int)) ej_int (by decide)) ?_
          generalize (sd * 48271 + (k : Int) * 69621 + 11) % 2147483647 = s2
          refine sj_append (p := p) (ej_name 1) sk_mem (ej_mod (ej_fdiv (ej_name 5) ej_int (by decide)) ej_int (by decide)) sk_mem (by simp; omega) ?_
          exact sj_is (M' := Sk p 1 (c ++ [s2 / 1009 % 59])) (sj_nil ⟨_, _, _, _, _, rfl, rfl, hg.app (Int.emod_nonneg _ (by decide)) (Int.emod_lt_of_pos _ (by decide)), by simp; omega⟩) rfl sk_app
        · obtain ⟨y1, y2, y3, sd, c, rfl, rfl, hg, hc⟩ := hI
          have hc : c.length ≤ 3780 + 150 := hc
          exact sj_ret (ej_name 1) ⟨Sk p 1 c, ⟨a, ns, p, c, rfl, rfl, rfl, hg, by omega⟩, fun x hx => hx, fun h => h⟩
end

/-! ### the other functions of points and lines -/
def gsub (p q : Gp) : Gp := (p.1 - q.1, p.2 - q.2)
def rotG (p : Gp) : Gp := (-p.2, p.1)
def rotN : Nat → Gp → Gp
  | 0, p => p
  | n + 1, p => rotG (rotN n p)
def szG (p : Gp) : Int := p.1 * p.1 + p.2 * p.2
def optD : Option Gp → PyData
  | none => .none
  | some p => pD p
def osD (l : List (Option Gp)) : List PyData := l.map optD
def costG (ss : List (Option Gp)) (ps : List Gp) : List Gp := (ss.zip ps).filterMap fun x => x.1.map fun s => gsub s x.2
def loseAt (ss : List (Option Gp)) (k : Int) : List (Option Gp) := if 0 ≤ k ∧ k < ss.length then ss.set k.toNat none else ss
def loseN (ss : List (Option Gp)) (ks : List Int) : List (Option Gp) := ks.foldl loseAt ss
theorem osD_len (l : List (Option Gp)) : (osD l).length = l.length := by simp [osD]
theorem osD_get {l : List (Option Gp)} {n : Nat} {p : Option Gp} (h : l[n]? = some p) : (osD l)[n]? = some (optD p) := by
  unfold osD
  rw [List.getElem?_map, h]
  rfl
theorem psD_os (l : List Gp) : psD l = osD (l.map some) := by
  unfold psD osD
  rw [List.map_map]
  rfl
def CoMinus : Co := fun is M i M' => M = [] ∧ M' = [] ∧ ∃ p q, is = [.d (pD p), .d (pD q)] ∧ i = .d (pD (gsub p q))
def CoTurned : Co := fun is M i M' => M = [] ∧ M' = [] ∧ ∃ p q, is = [.d (pD p), dI q] ∧ i = .d (pD (rotN (q % 4).toNat p))
def CoSize : Co := fun is M i M' => M = [] ∧ M' = [] ∧ ∃ p, is = [.d (pD p)] ∧ sm p ∧ i = dI (szG p)
def CoTotal : Co := fun is M i M' => M = [] ∧ M' = [] ∧ ∃ ps, is = [.d (.list (psD ps))] ∧ (∀ p ∈ ps, sm p) ∧ ps.length ≤ 1000 ∧ i = dI (ps.map szG).sum
def CoReach : Co := fun is M i M' => M = [] ∧ M' = [] ∧ ∃ ts, is = [.d (lnD ts)] ∧ i = dI ((ts.length : Int) - 1)
def CoTline : Co := fun is M i M' => M = [] ∧ M' = [] ∧ ∃ ts q, is = [.d (lnD ts), dI q] ∧ ts.length ≤ 1000 ∧ i = .d (lnD (ts.map (rotN (q % 4).toNat)))
def CoAdded : Co := fun is M i M' => M = [] ∧ M' = [] ∧ ∃ s p, is = [.d (optD s), .d (pD p)] ∧ i = .d (optD (s.map fun s => gadd s p))
def CoSpoil : Co := fun is M i M' => M = [] ∧ M' = [] ∧ ∃ ss ps, is = [.d (.list (osD ss)), .d (.list (psD ps))] ∧ ss.length = ps.length ∧ ps.length ≤ 1000 ∧ i = .d (.list (osD (List.zipWith (fun s p => s.map fun s => gadd s p) ss ps)))
def RoSpoil : Ro := fun is M z => M = [] ∧ z = "noise" ∧ ∃ ss es : List PyData, is = [.d (.list ss), .d (.list es)] ∧ ss.length ≠ es.length
def CoLost : Co := fun is M i M' => M = [] ∧ M' = [] ∧ ∃ ss ks, is = [.d (.list (osD ss)), .d (.list (ks.map .int))] ∧ ss.length ≤ 1000 ∧ i = .d (.list (osD (loseN ss ks)))
def CoCost : Co := fun is M i M' => M = [] ∧ M' = [] ∧ ∃ ss ps, is = [.d (.list (osD ss)), .d (.list (psD ps))] ∧ ss.length = ps.length ∧ ps.length ≤ 1000 ∧ (∀ p ∈ costG ss ps, sm p) ∧ i = dI ((costG ss ps).map szG).sum
def RoCost : Ro := fun is M z => M = [] ∧ z = "samples" ∧ ∃ ss es : List PyData, is = [.d (.list ss), .d (.list es)] ∧ ss.length ≠ es.length
theorem loseAt_len (ss : List (Option Gp)) (k : Int) : (loseAt ss k).length = ss.length := by
  unfold loseAt
  split
  · rw [List.length_set]
  · rfl
theorem loseN_len : ∀ (ks : List Int) (ss : List (Option Gp)), (loseN ss ks).length = ss.length
  | [], ss => rfl
  | k :: ks, ss => by
    show (loseN (loseAt ss k) ks).length = _
    rw [loseN_len ks, loseAt_len]
theorem loseN_snoc (ss : List (Option Gp)) (ks : List Int) (k : Int) : loseN ss (ks ++ [k]) = loseAt (loseN ss ks) k := by
  unfold loseN
  rw [List.foldl_append]
  rfl
section
variable {P : Program} {w : World} {K : PySem.W.Frag} {mg : Str → Option Value} {base : Heap}
theorem d_minus (T : Txt K mg) : Def P w K mg base "minus" 1 CoMinus := by
  obtain ⟨f, fd, F, hm, hb⟩ := T.f_minus
  refine def_ok F sc_minus hm hb (fun is M i M' h => ?_) fun X hX N is M i M' hF hC => ?_
  · obtain ⟨rfl, rfl, p, q, rfl, _⟩ := h
    exact ⟨rfl, rfl⟩
  · obtain ⟨cdv, A, outer, sh, H, E, rfl, hr⟩ := hX
    obtain ⟨rfl, rfl, p, q, rfl, rfl⟩ := hC
    have a0 : ∀ p : Gp, atI [PyData.int p.1, .int p.2] 0 = some (.int p.1) := fun p => atI_nat (j := 0) rfl
    have a1 : ∀ p : Gp, atI [PyData.int p.1, .int p.2] 1 = some (.int p.2) := fun p => atI_nat (j := 1) rfl
    exact sj_ret (ej_tup (aj_cons (ej_sub (ej_ixT (ej_name 0) ej_int (a0 p)) (ej_ixT (ej_name 1) ej_int (a0 q))) (aj_cons (ej_sub (ej_ixT (ej_name 0) ej_int (a1 p)) (ej_ixT (ej_name 1) ej_int (a1 q))) aj_nil))) ⟨rfl, [], rfl⟩
theorem d_turned (T : Txt K mg) : Def P w K mg base "turned" 1 CoTurned := by
  obtain ⟨f, fd, F, hm, hb⟩ := T.f_turned
  refine def_ok F sc_turned hm hb (fun is M i M' h => ?_) fun X hX N is M i M' hF hC => ?_
  · obtain ⟨rfl, rfl, p, q, rfl, _⟩ := h
    exact ⟨rfl, rfl⟩
  · obtain ⟨cdv, A, outer, sh, H, E, rfl, hr⟩ := hX
    obtain ⟨rfl, rfl, p, q, rfl, rfl⟩ := hC
    have nd := sc_turned.nd
    refine sj_asgG (i := .d (pD p)) (ej_name 0) (gj_tup rfl (gs_cons 2 nd (gs_cons 3 nd gs_nil))) ?_
    refine sj_forR (m := q % 4) (M1 := []) rfl T.b_range (ej_mod (ej_name 1) ej_int (by decide)) (by omega) (fun n ρ M => ∃ y, ρ = [some (.d (pD p)), some (dI q), some (dI (rotN n p).1), some (dI (rotN n p).2), y] ∧ M = []) ⟨none, rfl, rfl⟩ (fun n ρ M hn hI => ?_) fun ρ M hI => ?_
    · obtain ⟨y, rfl, rfl⟩ := hI
      refine ⟨_, gj_name 4 nd, ?_⟩
      exact sj_par 2 3 rfl nd (by decide) (ej_neg (ej_name 3)) (ej_name 2) (sj_nil ⟨_, rfl, rfl⟩)
    · obtain ⟨y, rfl, rfl⟩ := hI
      exact sj_ret (ej_tup (ds := [.int (rotN (q % 4).toNat p).1, .int (rotN (q % 4).toNat p).2]) (aj_cons (ej_name 2) (aj_cons (ej_name 3) aj_nil)) rfl) ⟨rfl, [], rfl⟩
theorem d_size (T : Txt K mg) : Def P w K mg base "size" 1 CoSize := by
  obtain ⟨f, fd, F, hm, hb⟩ := T.f_size
  refine def_ok F sc_size hm hb (fun is M i M' h => ?_) fun X hX N is M i M' hF hC => ?_
  · obtain ⟨rfl, rfl, p, rfl, _⟩ := h
    exact ⟨rfl, rfl⟩
  · obtain ⟨cdv, A, outer, sh, H, E, rfl, hr⟩ := hX
    obtain ⟨rfl, rfl, p, rfl, hs, rfl⟩ := hC
    have a0 : atI [PyData.int p.1, .int p.2] 0 = some (.int p.1) := atI_nat (j := 0) rfl
    have a1 : atI [PyData.int p.1, .int p.2] 1 = some (.int p.2) := atI_nat (j := 1) rfl
    exact sj_ret (ej_add (ej_mul (ej_ixT (ej_name 0) ej_int a0) (ej_ixT (ej_name 0) ej_int a0) (.inl hs.1)) (ej_mul (ej_ixT (ej_name 0) ej_int a1) (ej_ixT (ej_name 0) ej_int a1) (.inl hs.2))) ⟨rfl, [], rfl⟩
theorem d_total (T : Txt K mg) : Def P w K mg base "total" 2 CoTotal := by
  obtain ⟨f, fd, F, hm, hb⟩ := T.f_total
  have G := d_size (P := P) (w := w) (base := base) T
  refine def_ok F sc_total hm hb (fun is M i M' h => ?_) fun X hX N is M i M' hF hC => ?_
  · obtain ⟨rfl, rfl, p, rfl, _⟩ := h
    exact ⟨rfl, rfl⟩
  · obtain ⟨cdv, A, outer, sh, H, E, rfl, hr⟩ := hX
    obtain ⟨rfl, rfl, ps, rfl, hs, hz, rfl⟩ := hC
    have nd := sc_total.nd
    have hr1 : Room 1 (A.deeper (envOfC "total" (defScope s_total) sh.heap.objs.size f cdv)) := hr.mono (by decide)
    refine sj_ret (ej_sum (ns := ps.map szG) rfl T.b_sum (ej_el (el_comp 1 (ds := psD ps) (fun k => ((ps.take k).map szG).map dI) (fun _ => []) rfl nd (ej_name 0) rfl rfl (by rw [psD_len]; omega) (fun k d hk => ?_)) ?_)) ⟨rfl, [], rfl⟩
    · obtain ⟨p, hp, rfl⟩ := psD_inv hk
      refine ⟨dI (szG p), ?_, by simp; omega, fun N' s H C cl fp => ej_callP G hr1 (aj_cons (ej_name 1) aj_nil) ⟨rfl, rfl, p, rfl, hs p (List.mem_of_getElem? hp), rfl⟩⟩
      rw [take_snoc hp, List.map_append, List.map_append]
      rfl
    · rw [psD_len, List.take_length, List.map_map, List.map_map, List.map_map]
      rfl
theorem d_reach (T : Txt K mg) : Def P w K mg base "reach" 1 CoReach := by
  obtain ⟨f, fd, F, hm, hb⟩ := T.f_reach
  refine def_ok F sc_reach hm hb (fun is M i M' h => ?_) fun X hX N is M i M' hF hC => ?_
  · obtain ⟨rfl, rfl, p, rfl, _⟩ := h
    exact ⟨rfl, rfl⟩
  · obtain ⟨cdv, A, outer, sh, H, E, rfl, hr⟩ := hX
    obtain ⟨rfl, rfl, ts, rfl, rfl⟩ := hC
    exact sj_ret (ej_sub (ej_lenT (ds := psD ts) T.b_len (ej_ixT (ds := [.str "line", .tuple (psD ts)]) (ej_name 0) ej_int (atI_nat (j := 1) rfl))) ej_int) ⟨by rw [psD_len], [], rfl⟩
theorem d_turned_line (T : Txt K mg) : Def P w K mg base "turned_line" 2 CoTline := by
  obtain ⟨f, fd, F, hm, hb⟩ := T.f_turned_line
  have G := d_turned (P := P) (w := w) (base := base) T
  refine def_ok F sc_turned_line hm hb (fun is M i M' h => ?_) fun X hX N is M i M' hF hC => ?_
  · obtain ⟨rfl, rfl, p, q, rfl, _⟩ := h
    exact ⟨rfl, rfl⟩
  · obtain ⟨cdv, A, outer, sh, H, E, rfl, hr⟩ := hX
    obtain ⟨rfl, rfl, ts, q, rfl, hz, rfl⟩ := hC
    have nd := sc_turned_line.nd
    have hr1 : Room 1 (A.deeper (envOfC "turned_line" (defScope s_turned_line) sh.heap.objs.size f cdv)) := hr.mono (by decide)
    refine sj_ret (ej_tup (ds := [.str "line", .tuple (psD (ts.map (rotN (q % 4).toNat)))]) (aj_cons ej_str (aj_cons (ej_tupleL (ds := psD (ts.map (rotN (q % 4).toNat))) T.b_tuple (el_compT 2 (ds := psD ts) (fun k => itG ((ts.take k).map (rotN (q % 4).toNat))) (fun _ => []) rfl nd (ej_ixT (ds := [.str "line", .tuple (psD ts)]) (ej_name 0) ej_int (atI_nat (j := 1) rfl)) rfl rfl (by rw [psD_len]; omega) (fun k d hk => ?_)) ?_) aj_nil)) rfl) ⟨rfl, [], rfl⟩
    · obtain ⟨p, hp, rfl⟩ := psD_inv hk
      refine ⟨.d (pD (rotN (q % 4).toNat p)), ?_, by rw [itG_len]; simp; omega, fun N' s H C cl fp => ej_callP G hr1 (aj_cons (ej_name 2) (aj_cons (ej_name 1) aj_nil)) ⟨rfl, rfl, p, q, rfl, rfl⟩⟩
      rw [take_snoc hp, List.map_append]
      unfold itG psD
      rw [List.map_append, List.map_append]
      rfl
    · rw [psD_len, List.take_length]
      rfl
theorem d_added (T : Txt K mg) : Def P w K mg base "added" 2 CoAdded := by
  obtain ⟨f, fd, F, hm, hb⟩ := T.f_added
  have G := d_plus (P := P) (w := w) (base := base) T
  refine def_ok F sc_added hm hb (fun is M i M' h => ?_) fun X hX N is M i M' hF hC => ?_
  · obtain ⟨rfl, rfl, p, q, rfl, _⟩ := h
    exact ⟨rfl, rfl⟩
  · obtain ⟨cdv, A, outer, sh, H, E, rfl, hr⟩ := hX
    obtain ⟨rfl, rfl, s, p, rfl, rfl⟩ := hC
    cases s with
    | none => exact sj_if (t := true) (tj_isN (d := .none) (ej_name 0) ej_non) (fun _ => sj_ret ej_non ⟨rfl, [], rfl⟩) fun h => nomatch h
    | some s => exact sj_if (t := false) (tj_isN (d := pD s) (ej_name 0) ej_non) (fun h => nomatch h) fun _ => sj_nil (sj_ret (ej_callP G hr (aj_cons (ej_name 0) (aj_cons (ej_name 1) aj_nil)) ⟨rfl, rfl, s, p, rfl, rfl⟩) ⟨rfl, [], rfl⟩)
theorem zip_get {ss : List (Option Gp)} {ps : List Gp} {k : Nat} {d : PyData} (h : (List.zipWith (fun x y => PyData.tuple [x, y]) (osD ss) (psD ps))[k]? = some d) : ∃ s p, ss[k]? = some s ∧ ps[k]? = some p ∧ d = .tuple [optD s, pD p] := by
  rw [List.getElem?_zipWith] at h
  unfold osD psD at h
  rw [List.getElem?_map, List.getElem?_map] at h
  cases e1 : ss[k]? with
  | none => rw [e1] at h; cases h
  | some s =>
    cases e2 : ps[k]? with
    | none => rw [e1, e2] at h; cases h
    | some p =>
      rw [e1, e2] at h
      exact ⟨s, p, rfl, rfl, (Option.some.inj h).symm⟩
theorem zw_take {α β γ : Type} (f : α → β → γ) : ∀ (xs : List α) (ys : List β) (k : Nat) (x : α) (y : β), xs[k]? = some x → ys[k]? = some y → List.zipWith f (xs.take (k + 1)) (ys.take (k + 1)) = List.zipWith f (xs.take k) (ys.take k) ++ [f x y]
  | [], _, _, _, _, h, _ => by simp at h
  | _ :: _, [], _, _, _, _, h => by simp at h
  | x :: xs, y :: ys, 0, a, b, h1, h2 => by
    cases Option.some.inj (h1 : some x = some a)
    cases Option.some.inj (h2 : some y = some b)
    rfl
  | x :: xs, y :: ys, k + 1, a, b, h1, h2 => by
    show f x y :: List.zipWith f (xs.take (k + 1)) (ys.take (k + 1)) = f x y :: (List.zipWith f (xs.take k) (ys.take k) ++ [f a b])
    rw [zw_take f xs ys k a b h1 h2]
theorem d_spoiled (T : Txt K mg) : DefX P w K mg base "spoiled" 4 CoSpoil RoSpoil := by
  obtain ⟨f, fd, F, hm, hb⟩ := T.f_spoiled
  obtain ⟨Cs, C0, fI, fdI, ER⟩ := T.err
  have F1 := ok_init (P := P) (w := w) (base := base) ER
  have G := d_added (P := P) (w := w) (base := base) T
  refine defX_ok F sc_spoiled hm hb (fun is M i M' h => ?_) (fun is M z h => ?_) fun X hX N is M hF => ⟨fun i M' hC => ?_, fun z hR => ?_⟩
  · obtain ⟨rfl, rfl, a, b, rfl, _⟩ := h
    exact ⟨rfl, rfl⟩
  · obtain ⟨rfl, _, a, b, rfl, _⟩ := h
    rfl
  · obtain ⟨cdv, A, outer, sh, H, E, rfl, hr⟩ := hX
    obtain ⟨rfl, rfl, ss, ps, rfl, hl, hz, rfl⟩ := hC
    have nd := sc_spoiled.nd
    have hr2 : Room 2 (A.deeper (envOfC "spoiled" (defScope s_spoiled) sh.heap.objs.size f cdv)) := hr.mono (by decide)
    refine sj_if (t := false) (tj_is (tj_neI (ej_lenL (ds := osD ss) T.b_len (ej_name 0)) (ej_lenL (ds := psD ps) T.b_len (ej_name 1))) (by rw [osD_len, psD_len, hl, decide_eq_true rfl]; rfl)) (fun h => nomatch h) fun _ => sj_nil ?_
    refine sj_ret (ej_el (ds := osD (List.zipWith (fun s p => s.map fun s => gadd s p) ss ps)) (el_compW2 (φ := anyM) (M1 := []) 2 3 (ds := List.zipWith (fun x y => .tuple [x, y]) (osD ss) (psD ps)) (fun k => (osD (List.zipWith (fun s p => s.map fun s => gadd s p) (ss.take k) (ps.take k))).map It.d) (fun _ => []) rfl nd (by decide) (iw_zipL T.b_zip (ej_name 0) (ej_name 1) (by rw [osD_len, psD_len, hl])) (fun _ _ => trivial) rfl rfl (by simp [osD_len, psD_len]; omega) (fun k d hk => ?_)) ?_) ⟨rfl, [], rfl⟩
    · obtain ⟨s, p, hs, hp, rfl⟩ := zip_get hk
      refine ⟨optD s, pD p, .d (optD (s.map fun s => gadd s p)), rfl, ?_, by simp [osD_len]; omega, fun N' sh H C cl fp => ej_callP G hr2 (aj_cons (ej_name 2) (aj_cons (ej_name 3) aj_nil)) ⟨rfl, rfl, s, p, rfl, rfl⟩⟩
      rw [zw_take _ ss ps k s p hs hp]
      unfold osD
      rw [List.map_append, List.map_append]
      rfl
    · have zl : (List.zipWith (fun x y => PyData.tuple [x, y]) (osD ss) (psD ps)).length = ss.length := by rw [List.length_zipWith, osD_len, psD_len, hl, Nat.min_self]
      rw [zl, List.take_length, hl, List.take_length]
  · obtain ⟨cdv, A, outer, sh, H, E, rfl, hr⟩ := hX
    obtain ⟨rfl, rfl, ss, es, rfl, hl⟩ := hR
    refine sj_if (t := true) (tj_is (tj_neI (ej_lenL (ds := ss) T.b_len (ej_name 0)) (ej_lenL (ds := es) T.b_len (ej_name 1))) ?_) (fun _ => sj_raise rfl ER F1 (hr.mono (by decide)) ej_str (by decide) ⟨rfl, rfl⟩) fun h => nomatch h
    rw [decide_eq_false (by omega)]
    rfl
theorem d_lost (T : Txt K mg) : Def P w K mg base "lost" 1 CoLost := by
  obtain ⟨f, fd, F, hm, hb⟩ := T.f_lost
  refine def_ok F sc_lost hm hb (fun is M i M' h => ?_) fun X hX N is M i M' hF hC => ?_
  · obtain ⟨rfl, rfl, p, q, rfl, _⟩ := h
    exact ⟨rfl, rfl⟩
  · obtain ⟨cdv, A, outer, sh, H, E, rfl, hr⟩ := hX
    obtain ⟨rfl, rfl, ss, ks, rfl, hz, rfl⟩ := hC
    have nd := sc_lost.nd
    refine sj_own (M1 := []) 2 nd (el_listL T.b_list (ds := osD ss) (ej_name 0)) fun p hp => ?_
    refine sj_forL (ds := ks.map .int) (M1 := [(p, (osD ss).map It.d)]) rfl (ej_name 1) (fun n ρ M => ∃ y, ρ = [some (.d (.list (osD ss))), some (.d (.list (ks.map .int))), some (.v (.ref p)), y] ∧ M = [(p, (osD (loseN ss (ks.take n))).map It.d)]) ⟨none, rfl, rfl⟩ (fun n d ρ M hd hI => ?_) fun ρ M hI => ?_
    · obtain ⟨y, rfl, rfl⟩ := hI
      rw [List.getElem?_map] at hd
      obtain ⟨k, hk, rfl⟩ := Option.map_eq_some_iff.mp hd
      refine ⟨_, gj_name 3 nd, ?_⟩
      have ln : (loseN ss (ks.take n)).length = ss.length := loseN_len _ _
      have e1 : loseN ss (ks.take (n + 1)) = loseAt (loseN ss (ks.take n)) k := by rw [take_snoc hk, loseN_snoc]
      generalize loseN ss (ks.take n) = cur at ln e1 ⊢
      refine sj_if (tj_chainLt (n := 0) (m := k) (l := (cur.length : Int)) ej_int (ej_name 3) (ej_is (ej_lenO T.b_len (ej_name 2) (List.mem_singleton.mpr rfl)) (by simp [osD_len]))) (fun h => ?_) fun h => sj_nil (sj_nil ⟨_, rfl, ?_⟩)
      · have h := Bool.and_eq_true_iff.mp h
        have h0 := of_decide_eq_true h.1
        have h1 := of_decide_eq_true h.2
        refine sj_setO (p := p) (n := k.toNat) (i := .d .none) ej_non (ej_name 2) (ej_is (ej_name 3) (by rw [Int.toNat_of_nonneg h0])) (List.mem_singleton.mpr rfl) (by simp [osD_len]; omega) (sj_nil (sj_nil ⟨_, rfl, ?_⟩))
        rw [e1]
        unfold loseAt
        rw [if_pos ⟨h0, h1⟩]
        simp only [Mem.put, List.map_cons, List.map_nil, if_pos]
        unfold osD
        rw [List.map_set, List.map_set]
        rfl
      · have h : ¬ (0 ≤ k ∧ k < (cur.length : Int)) := fun g => by
          rw [decide_eq_true g.1, decide_eq_true g.2] at h
          cases h
        rw [e1]
        unfold loseAt
        rw [if_neg h]
    · obtain ⟨y, rfl, rfl⟩ := hI
      rw [List.length_map, List.take_length]
      refine sj_freeze 2 (p := p) (ds := osD (loseN ss ks)) rfl (List.mem_singleton.mpr rfl) hp ?_
      exact sj_ret (ej_name 2) ⟨rfl, [], by simp⟩
theorem d_cost (T : Txt K mg) : DefX P w K mg base "cost" 4 CoCost RoCost := by
  obtain ⟨f, fd, F, hm, hb⟩ := T.f_cost
  obtain ⟨Cs, C0, fI, fdI, ER⟩ := T.err
  have F1 := ok_init (P := P) (w := w) (base := base) ER
  have G := d_minus (P := P) (w := w) (base := base) T
  have G2 := d_total (P := P) (w := w) (base := base) T
  refine defX_ok F sc_cost hm hb (fun is M i M' h => ?_) (fun is M z h => ?_) fun X hX N is M hF => ⟨fun i M' hC => ?_, fun z hR => ?_⟩
  · obtain ⟨rfl, rfl, a, b, rfl, _⟩ := h
    exact ⟨rfl, rfl⟩
  · obtain ⟨rfl, _, a, b, rfl, _⟩ := h
    rfl
  · obtain ⟨cdv, A, outer, sh, H, E, rfl, hr⟩ := hX
    obtain ⟨rfl, rfl, ss, ps, rfl, hl, hz, hs, rfl⟩ := hC
    have nd := sc_cost.nd
    have hr1 : Room 1 (A.deeper (envOfC "cost" (defScope s_cost) sh.heap.objs.size f cdv)) := hr.mono (by decide)
    have hr2 : Room 2 (A.deeper (envOfC "cost" (defScope s_cost) sh.heap.objs.size f cdv)) := hr.mono (by decide)
    have cl : ∀ k, (costG (ss.take k) (ps.take k)).length ≤ k := fun k => Nat.le_trans (List.length_filterMap_le _ _) (by rw [List.length_zip, List.length_take]; omega)
    refine sj_if (t := false) (tj_is (tj_neI (ej_lenL (ds := osD ss) T.b_len (ej_name 0)) (ej_lenL (ds := psD ps) T.b_len (ej_name 1))) (by rw [osD_len, psD_len, hl, decide_eq_true rfl]; rfl)) (fun h => nomatch h) fun _ => sj_nil ?_
    refine sj_ret (ej_callP G2 hr2 (aj_cons (ej_el (ds := psD (costG ss ps)) (el_compW2F (φ := anyM) (M1 := []) 2 3 (ds := List.zipWith (fun x y => .tuple [x, y]) (osD ss) (psD ps)) (fun k => itG (costG (ss.take k) (ps.take k))) (fun _ => []) rfl nd (by decide) (iw_zipL T.b_zip (ej_name 0) (ej_name 1) (by rw [osD_len, psD_len, hl])) (fun _ _ => trivial) rfl rfl (by simp [osD_len, psD_len]; omega) (fun k d hk => ?_)) ?_) aj_nil) ⟨rfl, rfl, costG ss ps, rfl, hs, Nat.le_trans (List.length_filterMap_le _ _) (by rw [List.length_zip]; omega), rfl⟩) ⟨rfl, [], rfl⟩
    · obtain ⟨s, p, hs, hp, rfl⟩ := zip_get hk
      have e0 : (ss.take (k + 1)).zip (ps.take (k + 1)) = (ss.take k).zip (ps.take k) ++ [(s, p)] := zw_take Prod.mk ss ps k s p hs hp
      have e1 : costG (ss.take (k + 1)) (ps.take (k + 1)) = costG (ss.take k) (ps.take k) ++ ([(s, p)].filterMap fun x => x.1.map fun s => gsub s x.2) := by
        unfold costG
        rw [e0, List.filterMap_append]
      refine ⟨optD s, pD p, !decide (tyD (optD s) = "NoneType"), [], rfl, fun N' sh H C cl fp => tj_notNo (ej_name 2) ej_non, by rw [itG_len]; exact cl k, fun h => ?_, fun h => ?_⟩
      · cases s with
        | none => simp [optD, tyD] at h
        | some s =>
          refine ⟨.d (pD (gsub s p)), ?_, fun N' sh H C cl fp => ej_callP G hr1 (aj_cons (ej_name 2) (aj_cons (ej_name 3) aj_nil)) ⟨rfl, rfl, s, p, rfl, rfl⟩⟩
          rw [e1]
          unfold itG psD
          rw [List.map_append, List.map_append]
          rfl
      · cases s with
        | some s => simp [optD, pD, tyD] at h
        | none =>
          refine ⟨?_, rfl⟩
          rw [e1]
          unfold itG psD
          rw [List.map_append, List.map_append]
          simp
    · have zl : (List.zipWith (fun x y => PyData.tuple [x, y]) (osD ss) (psD ps)).length = ss.length := by rw [List.length_zipWith, osD_len, psD_len, hl, Nat.min_self]
      rw [zl, List.take_length, hl, List.take_length]
      rfl
  · obtain ⟨cdv, A, outer, sh, H, E, rfl, hr⟩ := hX
    obtain ⟨rfl, rfl, ss, es, rfl, hl⟩ := hR
    refine sj_if (t := true) (tj_is (tj_neI (ej_lenL (ds := ss) T.b_len (ej_name 0)) (ej_lenL (ds := es) T.b_len (ej_name 1))) ?_) (fun _ => sj_raise rfl ER F1 (hr.mono (by decide)) ej_str (by decide) ⟨rfl, rfl⟩) fun h => nomatch h
    rw [decide_eq_false (by omega)]
    rfl
end

/-! ### a line of the law, products -/
theorem eqv_pD (p q : Gp) : PyData.eqv (pD p) (pD q) = decide (p = q) := by
  unfold pD
  rw [eqv_pt]
  by_cases h : p = q
  · subst h
    simp
  · rw [decide_eq_false h]
    by_cases h1 : p.1 = q.1
    · rw [decide_eq_true h1, decide_eq_false (fun h2 => h (Prod.ext h1 h2))]
      rfl
    · rw [decide_eq_false h1]
      rfl
theorem pn_pD (p : Gp) : PN 1 (pD p) := pn_pt p.1 p.2
def wdF (c : List Int) (k : Nat) : Int := [5, 5, 101].getD (tkV c k 3).toNat 5
def zzF (c : List Int) (k : Nat) : Int := [1, -1, 50].getD (tkV c k 3).toNat 1
def tapF (c : List Int) (k : Nat) : Gp := ((tkV c (tkK c k) 59 * 59) % wdF c k - wdF c k / 2, (tkV c (tkK c (tkK c k)) 59 * 61) % wdF c k - wdF c k / 2)
def k3 (c : List Int) (k : Nat) : Nat := tkK c (tkK c (tkK c k))
def kN (c : List Int) : Nat → Nat → Nat
  | 0, k => k
  | n + 1, k => k3 c (kN c n k)
def tapsN (c : List Int) : Nat → Nat → List Gp
  | 0, _ => []
  | n + 1, k => tapsN c n k ++ [tapF c (kN c n k)]
def lineF (c : List Int) (k : Nat) : List Gp :=
  let n := (tkV c k 4 + 1).toNat
  let ts := tapsN c n (tkK c k)
  if (ts.filter fun t => !decide (t = g0)).length = 0 then ts.set (tkV c (tkK c (kN c n (tkK c k))) (n : Int)).toNat (0, zzF c (kN c n (tkK c k))) else ts
def lineK (c : List Int) (k : Nat) : Nat :=
  let n := (tkV c k 4 + 1).toNat
  let ts := tapsN c n (tkK c k)
  if (ts.filter fun t => !decide (t = g0)).length = 0 then tkK c (tkK c (kN c n (tkK c k))) else kN c n (tkK c k)
theorem tapsN_len (c : List Int) : ∀ n k : Nat, (tapsN c n k).length = n
  | 0, _ => rfl
  | n + 1, k => by
    show (tapsN c n k ++ [_]).length = _
    rw [List.length_append, tapsN_len c n k]
    rfl
theorem k3_pos (c : List Int) (k : Nat) (h : 1 ≤ k) : 1 ≤ k3 c k := tkK_pos _ _ (tkK_pos _ _ (tkK_pos _ _ h))
theorem kN_pos (c : List Int) : ∀ n k : Nat, 1 ≤ k → 1 ≤ kN c n k
  | 0, _, h => h
  | n + 1, k, h => k3_pos _ _ (kN_pos c n k h)
def inB (p : Gp) : Prop := (-50 ≤ p.1 ∧ p.1 ≤ 50) ∧ (-50 ≤ p.2 ∧ p.2 ≤ 50)
theorem wdF_or (c : List Int) (k : Nat) : wdF c k = 5 ∨ wdF c k = 101 := by
  unfold wdF
  have h0 := tkV_lo c k (many := 3) (by decide)
  have h1 := tkV_hi c k (many := 3) (by decide)
  generalize tkV c k 3 = v at h0 h1 ⊢
  have : v = 0 ∨ v = 1 ∨ v = 2 := by omega
  rcases this with rfl | rfl | rfl <;> simp
theorem zzF_or (c : List Int) (k : Nat) : zzF c k = 1 ∨ zzF c k = -1 ∨ zzF c k = 50 := by
  unfold zzF
  have h0 := tkV_lo c k (many := 3) (by decide)
  have h1 := tkV_hi c k (many := 3) (by decide)
  generalize tkV c k 3 = v at h0 h1 ⊢
  have : v = 0 ∨ v = 1 ∨ v = 2 := by omega
  rcases this with rfl | rfl | rfl <;> simp
theorem tapF_in (c : List Int) (k : Nat) : inB (tapF c k) := by
  unfold tapF inB
  generalize tkV c (tkK c k) 59 * 59 = a
  generalize tkV c (tkK c (tkK c k)) 59 * 61 = b
  rcases wdF_or c k with h | h <;> rw [h] <;> simp only <;> omega
theorem tapsN_in (c : List Int) : ∀ n k : Nat, ∀ t ∈ tapsN c n k, inB t
  | 0, _, t, h => nomatch h
  | n + 1, k, t, h => by
    rcases List.mem_append.mp h with h | h
    · exact tapsN_in c n k t h
    · cases List.mem_singleton.mp h
      exact tapF_in _ _
/-- a line of the law: 1 to 4 taps, not all nothing, small ones -/
structure LnOk (ts : List Gp) : Prop where
  ne : ts ≠ []
  le : ts.length ≤ 4
  sm : ∀ t ∈ ts, inB t
  nz : ¬ allz ts
theorem lineF_ok (c : List Int) (k : Nat) : LnOk (lineF c k) := by
  have h0 := tkV_lo c k (many := 4) (by decide)
  have h1 := tkV_hi c k (many := 4) (by decide)
  unfold lineF
  simp only
  generalize hn : (tkV c k 4 + 1).toNat = n
  have n1 : 1 ≤ n := by omega
  have n4 : n ≤ 4 := by omega
  have hl := tapsN_len c n (tkK c k)
  have hi := tapsN_in c n (tkK c k)
  generalize tapsN c n (tkK c k) = ts at hl hi ⊢
  generalize kN c n (tkK c k) = k2
  split
  · rename_i hz
    have v0 := tkV_lo c (tkK c k2) (many := (n : Int)) (by omega)
    have v1 := tkV_hi c (tkK c k2) (many := (n : Int)) (by omega)
    have vl : (tkV c (tkK c k2) (n : Int)).toNat < ts.length := by omega
    have zz := zzF_or c k2
    refine ⟨fun h => ?_, by rw [List.length_set]; omega, fun t ht => ?_, fun h => ?_⟩
    · have := congrArg List.length h
      rw [List.length_set, hl, List.length_nil] at this
      omega
    · rcases List.mem_or_eq_of_mem_set ht with ht | rfl
      · exact hi t ht
      · exact ⟨by show (-50 : Int) ≤ 0 ∧ (0 : Int) ≤ 50; decide, by show -50 ≤ zzF c k2 ∧ zzF c k2 ≤ 50; omega⟩
    · have := h (0, zzF c k2) (List.mem_iff_getElem?.mpr ⟨_, by rw [List.getElem?_set_self vl]⟩)
      have : zzF c k2 = 0 := congrArg Prod.snd this
      omega
  · rename_i hz
    refine ⟨fun h => ?_, by omega, hi, fun h => ?_⟩
    · subst h
      simp at hl
      omega
    · apply hz
      rw [List.length_eq_zero_iff, List.filter_eq_nil_iff]
      intro t ht
      rw [h t ht]
      simp
theorem inB_sm {p : Gp} (h : inB p) : sm p := by
  unfold inB at h
  unfold sm
  omega
def CoLine : Co := fun is M i M' => ∃ (p : Addr) (k : Nat) (c : List Int), is = [.v (.ref p)] ∧ M = Sk p k c ∧ 1 ≤ k ∧ i = .d (lnD (lineF c k)) ∧ M' = Sk p (lineK c k) c
theorem lineK_pos (c : List Int) (k : Nat) (h : 1 ≤ k) : 1 ≤ lineK c k := by
  unfold lineK
  simp only
  split
  · exact tkK_pos _ _ (tkK_pos _ _ (kN_pos _ _ _ (tkK_pos _ _ h)))
  · exact kN_pos _ _ _ (tkK_pos _ _ h)
section
variable {P : Program} {w : World} {K : PySem.W.Frag} {mg : Str → Option Value} {base : Heap}
theorem ej_take {X : Cx} {N : Ent} {ρ : Rho} {M : Mem} {a b : Expr} {pos q : Pos} {p : Addr} {k : Nat} {c : List Int} {many : Int} {Mr : Mem} (G : Def X.prog X.w X.K X.mg X.base "_law_take" 1 CoTake) (hr : Room 1 X.A) (ha : EJ X N ρ M a (.v (.ref p)) M) (hb : EJ X N ρ M b (dI many) M) (hM : M = Sk p k c ++ Mr) (hk : 1 ≤ k) (hm : 0 < many)
    (hg : Gl X "_law_take" := by rfl) (he : starEach [a, b] X.env = (false, eval a X.env) :: starEach [b] X.env := by rfl) (he2 : starEach [b] X.env = (false, eval b X.env) :: starEach [] X.env := by rfl) (hpl : (backTo q (starEach [b] X.env)).any (·.1) = false := by rfl) :
    EJ X N ρ M (.Call (.Name "_law_take" pos) [a, b] [] q) (dI (tkV c k many)) (Sk p (tkK c k) c ++ Mr) :=
  ej_call G hr (aj_cons ha (aj_cons hb aj_nil he2) he) hM ⟨p, k, c, many, rfl, rfl, hk, hm, rfl, rfl⟩ rfl hg (by decide) he hpl
theorem d_law_line (T : Txt K mg) : Def P w K mg base "_law_line" 2 CoLine := by
  obtain ⟨f, fd, F, hm, hb⟩ := T.f_law_line
  have G := d_law_take (P := P) (w := w) (base := base) T
  refine def_ok F sc_law_line hm hb (fun is M i M' h => ?_) fun X hX N is M i M' hF hC => ?_
  · obtain ⟨p, k, c, rfl, rfl, _, _, rfl⟩ := h
    exact ⟨rfl, rfl⟩
  · obtain ⟨cdv, A, outer, s, H, E, rfl, hr⟩ := hX
    obtain ⟨p, k, c, rfl, rfl, hk, rfl, rfl⟩ := hC
    have nd := sc_law_line.nd
    have hr1 : Room 1 (A.deeper (envOfC "_law_line" (defScope s_law_line) s.heap.objs.size f cdv)) := hr.mono (by decide)
    have v0 := tkV_lo c k (many := 4) (by decide)
    have v1 := tkV_hi c k (many := 4) (by decide)
    have hpF : p ∈ N.F := by rw [hF]; exact List.mem_singleton.mpr rfl
    refine sj_own (M1 := Sk p k c) 1 nd (el_disp aj_nil) fun q hq => ?_
    have nqp : p ≠ q := fun e => hq (e ▸ hpF)
    have put2 : ∀ (k : Nat) (l l' : List Kt.It), (Sk p k c ++ [(q, l)]).put q l' = Sk p k c ++ [(q, l')] := fun k l l' => by
      simp [Sk, Mem.put, nqp]
    have hk1 := tkK_pos c k hk
    refine sj_forR (m := 1 + tkV c k 4) (M1 := Sk p (tkK c k) c ++ [(q, [])]) rfl T.b_range (ej_add ej_int (ej_take (Mr := [(q, [])]) G hr1 (ej_name 0) ej_int rfl hk (by decide))) (by omega) (fun n ρ M => ∃ y1 y2 y3, ρ = [some (.v (.ref p)), some (.v (.ref q)), y1, y2, y3] ∧ M = Sk p (kN c n (tkK c k)) c ++ [(q, itG (tapsN c n (tkK c k)))]) ⟨none, none, none, rfl, rfl⟩ (fun n ρ M hn hI => ?_) fun ρ M hI => ?_
    · obtain ⟨y1, y2, y3, rfl, rfl⟩ := hI
      have hkn := kN_pos c n _ hk1
      show ∃ ρ2, _
      have e1 : kN c (n + 1) (tkK c k) = k3 c (kN c n (tkK c k)) := rfl
      have e2 : tapsN c (n + 1) (tkK c k) = tapsN c n (tkK c k) ++ [tapF c (kN c n (tkK c k))] := rfl
      rw [e1, e2]
      have ln := tapsN_len c n (tkK c k)
      generalize kN c n (tkK c k) = kk at hkn ⊢
      generalize tapsN c n (tkK c k) = ts at ln ⊢
      have n4 : n < 4 := by omega
      refine ⟨_, gj_name 2 nd, ?_⟩
      have w0 := tkV_lo c kk (many := 3) (by decide)
      have w1 := tkV_hi c kk (many := 3) (by decide)
      have hw : atI [PyData.int 5, .int 5, .int 101] (tkV c kk 3) = some (.int (wdF c kk)) := by
        unfold wdF
        generalize tkV c kk 3 = v at w0 w1 ⊢
        have : v = 0 ∨ v = 1 ∨ v = 2 := by omega
        rcases this with rfl | rfl | rfl <;> exact atI_nat (j := _) rfl
      have wp : 0 < wdF c kk := by rcases wdF_or c kk with h | h <;> rw [h] <;> decide
      refine sj_set (i := dI (wdF c kk)) (M1 := Sk p (tkK c kk) c ++ [(q, itG ts)]) 3 nd (ej_ixL (ds := [.int 5, .int 5, .int 101]) (ej_el (el_disp (aj_cons ej_int (aj_cons ej_int (aj_cons ej_int aj_nil)))) rfl) (ej_take (Mr := [(q, itG ts)]) G hr1 (ej_name 0) ej_int rfl hkn (by decide)) hw) ?_
      have hk2 := tkK_pos c kk hkn
      have hk3 := tkK_pos c _ hk2
      have hs59 : ∀ j, CMul (tkV c j 59) 59 := fun j => .inr (by decide)
      refine sj_append (p := q) (is := itG ts) (is0 := itG ts) (M1 := Sk p (k3 c kk) c ++ [(q, itG ts)]) (ej_name 1) (by simp) (ej_tup (ds := [.int (tapF c kk).1, .int (tapF c kk).2]) (aj_cons (ej_sub (ej_mod (ej_intc T.b_int (ej_mul (ej_take (Mr := [(q, itG ts)]) G hr1 (ej_name 0) ej_int rfl hk2 (by decide)) ej_int (.inr (by decide)))) (ej_name 3) wp) (ej_fdiv (ej_name 3) ej_int (by decide))) (aj_cons (ej_sub (ej_mod (ej_intc T.b_int (ej_mul (ej_take (Mr := [(q, itG ts)]) G hr1 (ej_name 0) ej_int rfl hk3 (by decide)) ej_int (.inr (by decide)))) (ej_name 3) wp) (ej_fdiv (ej_name 3) ej_int (by decide))) aj_nil)) rfl) (by simp) (by rw [itG_len]; omega) ?_
      rw [put2]
      refine sj_nil ⟨_, _, _, rfl, ?_⟩
      unfold itG psD
      rw [List.map_append, List.map_append]
      rfl
    · obtain ⟨y1, y2, y3, rfl, rfl⟩ := hI
      have hkn := kN_pos c (1 + tkV c k 4).toNat _ hk1
      have ln := tapsN_len c (1 + tkV c k 4).toNat (tkK c k)
      have en : (1 + tkV c k 4).toNat = (tkV c k 4 + 1).toNat := by omega
      unfold lineF lineK
      simp only
      rw [en] at hkn ln ⊢
      have n1 : 1 ≤ (tkV c k 4 + 1).toNat := by omega
      have n4 : (tkV c k 4 + 1).toNat ≤ 4 := by omega
      generalize (tkV c k 4 + 1).toNat = n at hkn ln n1 n4 ⊢
      generalize kN c n (tkK c k) = kk at hkn ⊢
      generalize tapsN c n (tkK c k) = ts at ln ⊢
      have flen : ∀ m, ((itG ((ts.take m).filter fun t => !decide (t = g0))).length) ≤ m := fun m => by
        rw [itG_len]
        exact Nat.le_trans (List.length_filter_le _ _) (by simp; omega)
      refine sj_if (t := decide ((ts.filter fun t => !decide (t = g0)).length = 0)) (tj_is (tj_eqI (n := ((ts.filter fun t => !decide (t = g0)).length : Int)) (m := 0) (ej_is (ej_lenL (ds := psD (ts.filter fun t => !decide (t = g0))) T.b_len (ej_el (el_compW1F (φ := fun M' => (q, (psD ts).map It.d) ∈ M') (M1 := Sk p kk c ++ [(q, itG ts)]) 4 (ds := psD ts) (fun m => itG ((ts.take m).filter fun t => !decide (t = g0))) (fun _ => Sk p kk c ++ [(q, itG ts)]) rfl nd (iw_own (ej_name 1) (by simp [itG])) (fun m c => by simp [itG]) rfl rfl (by rw [psD_len]; omega) (fun m d hd => ?_)) ?_)) (by rw [psD_len])) ej_int) ?_) (fun h => ?_) fun h => sj_nil ?_
      · obtain ⟨t, ht, rfl⟩ := psD_inv hd
        refine ⟨!decide (t = g0), _, fun N' s H C cl fp => tj_is (tj_neD hr.units (ej_name 4) (ej_tup (ds := [.int 0, .int 0]) (aj_cons ej_int (aj_cons ej_int aj_nil))) (.d _) (.d _) (pn_pD t).plain (pn_pt 0 0).plain) (congrArg (fun b => !b) (eqv_pD t g0)), flen m, fun h => ⟨.d (pD t), ?_, fun N' s H C cl fp => ej_name 4⟩, fun h => ⟨?_, rfl⟩⟩
        · rw [take_snoc ht, List.filter_append, List.filter_cons_of_pos (by rw [h]), List.filter_nil]
          unfold itG psD
          rw [List.map_append, List.map_append]
          rfl
        · rw [take_snoc ht, List.filter_append, List.filter_cons_of_neg (by rw [h]; decide), List.filter_nil, List.append_nil]
      · rw [psD_len, List.take_length]
        rfl
      · simp
      · have hz := of_decide_eq_true h
        rw [if_pos hz, if_pos hz]
        have hk5 := tkK_pos c kk hkn
        have u0 := tkV_lo c (tkK c kk) (many := (n : Int)) (by omega)
        have u1 := tkV_hi c (tkK c kk) (many := (n : Int)) (by omega)
        have z0 := tkV_lo c kk (many := 3) (by decide)
        have z1 := tkV_hi c kk (many := 3) (by decide)
        have hw : atI [PyData.int 1, .int (-1), .int 50] (tkV c kk 3) = some (.int (zzF c kk)) := by
          unfold zzF
          generalize tkV c kk 3 = v at z0 z1 ⊢
          have : v = 0 ∨ v = 1 ∨ v = 2 := by omega
          rcases this with rfl | rfl | rfl <;> exact atI_nat (j := _) rfl
        refine sj_setO (p := q) (is := itG ts) (n := (tkV c (tkK c kk) (n : Int)).toNat) (M1 := Sk p (tkK c kk) c ++ [(q, itG ts)]) (M2 := Sk p (tkK c (tkK c kk)) c ++ [(q, itG ts)]) (i := .d (pD (0, zzF c kk))) (ej_tup (ds := [.int 0, .int (zzF c kk)]) (aj_cons ej_int (aj_cons (ej_ixL (ds := [.int 1, .int (-1), .int 50]) (ej_el (el_disp (aj_cons ej_int (aj_cons (ej_neg ej_int) (aj_cons ej_int aj_nil)))) rfl) (ej_take (Mr := [(q, itG ts)]) G hr1 (ej_name 0) ej_int rfl hkn (by decide)) hw) aj_nil)) rfl) (ej_name 1) (ej_is (ej_take (many := (n : Int)) (Mr := [(q, itG ts)]) G hr1 (ej_name 0) (ej_is (ej_lenO T.b_len (ej_name 1) (by simp : (q, itG ts) ∈ Sk p (tkK c kk) c ++ [(q, itG ts)])) (by rw [itG_len, ln])) rfl hk5 (by omega)) (by rw [Int.toNat_of_nonneg u0])) (by simp) (by rw [itG_len]; omega) ?_
        rw [put2, itG_set]
        refine sj_nil ?_
        refine sj_ret (ej_tup (ds := [.str "line", .tuple (psD (ts.set (tkV c (tkK c kk) (n : Int)).toNat (0, zzF c kk)))]) (aj_cons ej_str (aj_cons (ej_tupleO T.b_tuple (ej_name 1) (by simp [itG] : (q, (psD (ts.set (tkV c (tkK c kk) (n : Int)).toNat (0, zzF c kk))).map It.d) ∈ _)) aj_nil)) rfl) ⟨rfl, _, rfl⟩
      · have hz := of_decide_eq_false h
        rw [if_neg hz, if_neg hz]
        refine sj_ret (ej_tup (ds := [.str "line", .tuple (psD ts)]) (aj_cons ej_str (aj_cons (ej_tupleO T.b_tuple (ej_name 1) (by simp [itG] : (q, (psD ts).map It.d) ∈ _)) aj_nil)) rfl) ⟨rfl, _, rfl⟩
end

def wd2 (c : List Int) (k : Nat) : Int := [7, 101, 2001].getD (tkV c k 3).toNat 7
def ptG (c : List Int) (k : Nat) : Gp := ((tkV c (tkK c k) 59 * 59) % wd2 c k - wd2 c k / 2, (tkV c (tkK c (tkK c k)) 59 * 61) % wd2 c k - wd2 c k / 2)
def inK (p : Gp) : Prop := (-1000 ≤ p.1 ∧ p.1 ≤ 1000) ∧ (-1000 ≤ p.2 ∧ p.2 ≤ 1000)
theorem wd2_or (c : List Int) (k : Nat) : wd2 c k = 7 ∨ wd2 c k = 101 ∨ wd2 c k = 2001 := by
  unfold wd2
  have h0 := tkV_lo c k (many := 3) (by decide)
  have h1 := tkV_hi c k (many := 3) (by decide)
  generalize tkV c k 3 = v at h0 h1 ⊢
  have : v = 0 ∨ v = 1 ∨ v = 2 := by omega
  rcases this with rfl | rfl | rfl <;> simp
theorem ptG_in (c : List Int) (k : Nat) : inK (ptG c k) := by
  unfold ptG inK
  generalize tkV c (tkK c k) 59 * 59 = a
  generalize tkV c (tkK c (tkK c k)) 59 * 61 = b
  rcases wd2_or c k with h | h | h <;> rw [h] <;> simp only <;> omega
def CoPoint : Co := fun is M i M' => ∃ (p : Addr) (k : Nat) (c : List Int), is = [.v (.ref p)] ∧ M = Sk p k c ∧ 1 ≤ k ∧ i = .d (pD (ptG c k)) ∧ M' = Sk p (k3 c k) c
section
variable {P : Program} {w : World} {K : PySem.W.Frag} {mg : Str → Option Value} {base : Heap}
theorem d_law_point (T : Txt K mg) : Def P w K mg base "_law_point" 2 CoPoint := by
  obtain ⟨f, fd, F, hm, hb⟩ := T.f_law_point
  have G := d_law_take (P := P) (w := w) (base := base) T
  refine def_ok F sc_law_point hm hb (fun is M i M' h => ?_) fun X hX N is M i M' hF hC => ?_
  · obtain ⟨p, k, c, rfl, rfl, _, _, rfl⟩ := h
    exact ⟨rfl, rfl⟩
  · obtain ⟨cdv, A, outer, s, H, E, rfl, hr⟩ := hX
    obtain ⟨p, kk, c, rfl, rfl, hkn, rfl, rfl⟩ := hC
    have nd := sc_law_point.nd
    have hr1 : Room 1 (A.deeper (envOfC "_law_point" (defScope s_law_point) s.heap.objs.size f cdv)) := hr.mono (by decide)
    have w0 := tkV_lo c kk (many := 3) (by decide)
    have w1 := tkV_hi c kk (many := 3) (by decide)
    have hw : atI [PyData.int 7, .int 101, .int 2001] (tkV c kk 3) = some (.int (wd2 c kk)) := by
      unfold wd2
      generalize tkV c kk 3 = v at w0 w1 ⊢
      have : v = 0 ∨ v = 1 ∨ v = 2 := by omega
      rcases this with rfl | rfl | rfl <;> exact atI_nat (j := _) rfl
    have wp : 0 < wd2 c kk := by rcases wd2_or c kk with h | h | h <;> rw [h] <;> decide
    refine sj_set (i := dI (wd2 c kk)) (M1 := Sk p (tkK c kk) c) 1 nd (ej_ixL (ds := [.int 7, .int 101, .int 2001]) (ej_el (el_disp (aj_cons ej_int (aj_cons ej_int (aj_cons ej_int aj_nil)))) rfl) (ej_take (Mr := []) G hr1 (ej_name 0) ej_int rfl hkn (by decide)) hw) ?_
    have hk2 := tkK_pos c kk hkn
    have hk3 := tkK_pos c _ hk2
    exact sj_ret (ej_tup (ds := [.int (ptG c kk).1, .int (ptG c kk).2]) (aj_cons (ej_sub (ej_mod (ej_intc T.b_int (ej_mul (ej_take (Mr := []) G hr1 (ej_name 0) ej_int rfl hk2 (by decide)) ej_int (.inr (by decide)))) (ej_name 1) wp) (ej_fdiv (ej_name 1) ej_int (by decide))) (aj_cons (ej_sub (ej_mod (ej_intc T.b_int (ej_mul (ej_take (Mr := []) G hr1 (ej_name 0) ej_int rfl hk3 (by decide)) ej_int (.inr (by decide)))) (ej_name 1) wp) (ej_fdiv (ej_name 1) ej_int (by decide))) aj_nil)) rfl) ⟨rfl, [], rfl⟩
end

/-! ### the law's own sending -/
def CoLsent : Co := fun is M i M' => M = [] ∧ M' = [] ∧ ∃ ts ps, is = [.d (lnD ts), .d (.list (psD ps))] ∧ ts ≠ [] ∧ (∀ p ∈ ps, sm p) ∧ ps.length + ts.length ≤ 1000 ∧ i = .d (.list (psD (conv ps ts)))
section
variable {P : Program} {w : World} {K : PySem.W.Frag} {mg : Str → Option Value} {base : Heap}
theorem d_law_sent (T : Txt K mg) : Def P w K mg base "_law_sent" 1 CoLsent := by
  obtain ⟨f, fd, F, hm, hb⟩ := T.f_law_sent
  refine def_ok F sc_law_sent hm hb (fun is M i M' h => ?_) fun X hX N is M i M' hF hC => ?_
  · obtain ⟨rfl, rfl, ts, ps, rfl, _⟩ := h
    exact ⟨rfl, rfl⟩
  · obtain ⟨cdv, A, outer, sh, H, E, rfl, hr⟩ := hX
    obtain ⟨rfl, rfl, b, a, rfl, hb, hsm, hz, rfl⟩ := hC
    have nd := sc_law_sent.nd
    refine sj_if (tj_eqI (ej_lenL (ds := psD a) T.b_len (ej_name 1)) ej_int) (fun h => ?_) fun h => sj_nil ?_
    · have h0 : a = [] := by
        have := of_decide_eq_true h
        rw [psD_len] at this
        exact List.length_eq_zero_iff.mp (by omega)
      subst h0
      exact sj_ret (ej_el (ds := []) (el_disp aj_nil) rfl) ⟨rfl, [], rfl⟩
    have ha : a ≠ [] := fun e => by
      subst e
      simp [psD] at h
    have pa : 0 < a.length := List.length_pos_iff.mpr ha
    have t1 : ∀ {X : Cx} {N : Ent} {ρ : Rho} {M M1 M2 : Mem} {x y : Expr} {pos : Pos}, EJ X N ρ M x (.d (lnD b)) M1 → EJ X N ρ M1 y (dI 1) M2 → PlainIx y → EJ X N ρ M (.Subscript x y pos) (.d (.tuple (psD b))) M2 := fun h1 h2 h3 => ej_ixT (ds := [.str "line", .tuple (psD b)]) h1 h2 (atI_nat (j := 1) rfl) h3
    have pb : 0 < b.length := List.length_pos_iff.mpr hb
    have Zl : ((List.replicate ((((a.length : Nat) : Int) + ((b.length : Nat) : Int) - 1)).toNat [pD g0]).flatten).map It.d = itG (List.replicate (a.length + b.length - 1) g0) := by
      have e : (((a.length : Nat) : Int) + ((b.length : Nat) : Int) - 1).toNat = a.length + b.length - 1 := by omega
      rw [e]
      unfold itG psD
      congr 1
      generalize a.length + b.length - 1 = n
      induction n with
      | zero => rfl
      | succ n ih =>
        rw [List.replicate_succ, List.replicate_succ, List.flatten_cons, ih]
        rfl
    have la : ∀ l : List Gp, dI ((psD l).length : Int) = dI (l.length : Int) := fun l => by rw [psD_len]
    refine sj_own (M1 := []) 2 nd (el_rep (ds := [pD g0]) (n := ((a.length : Nat) : Int) + ((b.length : Nat) : Int) - 1) (ej_el (el_disp (aj_cons (ej_tup (aj_cons ej_int (aj_cons ej_int aj_nil))) aj_nil)) rfl) (ej_sub (ej_add (ej_is (ej_lenL (ds := psD a) T.b_len (ej_name 1)) (la a)) (ej_is (ej_lenT (ds := psD b) T.b_len (t1 (ej_name 0) ej_int (fun _ _ => rfl))) (la b))) ej_int) (by omega) (by omega) (by simp; omega)) fun p hpF => ?_
    rw [Zl]
    refine sj_forR (m := (a.length : Int)) (M1 := [(p, itG (List.replicate (a.length + b.length - 1) g0))]) rfl T.b_range (ej_is (ej_lenL (ds := psD a) T.b_len (ej_name 1)) (la a)) (by omega) (fun j ρ M => ∃ y3 y4 y5 y6 y7 y8 y9 y10, ρ = [some (.d (lnD b)), some (.d (.list (psD a))), some (.v (.ref p)), y3, y4, y5, y6, y7, y8, y9, y10] ∧ M = [(p, itG (mulAt (List.replicate (a.length + b.length - 1) g0) 0 (a.take j) b))]) ⟨none, none, none, none, none, none, none, none, rfl, rfl⟩ (fun j ρ M hj hI => ?_) fun ρ M hI => ?_
    · obtain ⟨y3, y4, y5, y6, y7, y8, y9, y10, rfl, rfl⟩ := hI
      have jl : j < a.length := by omega
      obtain ⟨pt0, hp0⟩ : ∃ u, a[j]? = some u := ⟨_, List.getElem?_eq_getElem jl⟩
      refine ⟨_, gj_name 3 nd, ?_⟩
      refine sj_asgG (i := .d (pD pt0)) (ej_ixL (ds := psD a) (ej_name 1) (ej_name 3) (psD_at hp0)) (gj_tup rfl (gs_cons 4 nd (gs_cons 5 nd gs_nil))) ?_
      generalize hL : mulAt (List.replicate (a.length + b.length - 1) g0) 0 (a.take j) b = L
      have hLl : L.length = a.length + b.length - 1 := by rw [← hL, mulAt_len, List.length_replicate]
      refine sj_forR (m := (b.length : Int)) (M1 := [(p, itG L)]) rfl T.b_range (ej_is (ej_lenT (ds := psD b) T.b_len (t1 (ej_name 0) ej_int (fun _ _ => rfl))) (la b)) (by omega) (fun k ρ M => ∃ y6 y7 y8 y9 y10, ρ = [some (.d (lnD b)), some (.d (.list (psD a))), some (.v (.ref p)), some (dI (j : Int)), some (dI pt0.1), some (dI pt0.2), y6, y7, y8, y9, y10] ∧ M = [(p, itG (addAt L j (scl pt0 (b.take k))))]) ⟨y6, y7, y8, y9, y10, rfl, by rw [List.take_zero]; show _ = [(p, itG (addAt L j []))]; rw [addAt_nil]⟩ (fun k ρ M hk hI => ?_) fun ρ M hI => ?_
      · obtain ⟨y6, y7, y8, y9, y10, rfl, rfl⟩ := hI
        have kl : k < b.length := by omega
        obtain ⟨t0, ht0⟩ : ∃ u, b[k]? = some u := ⟨_, List.getElem?_eq_getElem kl⟩
        refine ⟨_, gj_name 6 nd, ?_⟩
        have tl : (scl pt0 (b.take k)).length = k := by rw [scl_len, List.length_take]; omega
        generalize hL2 : addAt L j (scl pt0 (b.take k)) = L2
        have hL2l : L2.length = a.length + b.length - 1 := by rw [← hL2, addAt_len, hLl]
        have hix : j + k < L2.length := by omega
        obtain ⟨u, hu⟩ : ∃ u, L2[j + k]? = some u := ⟨_, List.getElem?_eq_getElem hix⟩
        have eix : ((j : Int) + (k : Int)) = ((j + k : Nat) : Int) := by omega
        have hs := hsm pt0 (List.mem_of_getElem? hp0)
        refine sj_asgG (i := .d (pD t0)) (ej_ixT (ds := psD b) (t1 (ej_name 0) ej_int (fun _ _ => rfl)) (ej_name 6) (psD_at ht0)) (gj_tup rfl (gs_cons 7 nd (gs_cons 8 nd gs_nil))) ?_
        refine sj_asgG (i := .d (pD u)) (ej_ixO (p := p) (ej_name 2) (ej_is (ej_add (ej_name 3) (ej_name 6)) (congrArg (fun z => dI z) eix)) (List.mem_singleton.mpr rfl) (itG_at hu)) (gj_tup rfl (gs_cons 9 nd (gs_cons 10 nd gs_nil))) ?_
        refine sj_setO (p := p) (n := j + k) (i := .d (pD (gadd u (gmul pt0 t0)))) (ej_is (ej_tup (ds := [.int (u.1 + pt0.1 * t0.1 - pt0.2 * t0.2), .int (u.2 + pt0.1 * t0.2 + pt0.2 * t0.1)]) (aj_cons (ej_sub (ej_add (ej_name 9) (ej_mul (ej_name 4) (ej_name 7) (.inl hs.1))) (ej_mul (ej_name 5) (ej_name 8) (.inl hs.2))) (aj_cons (ej_add (ej_add (ej_name 10) (ej_mul (ej_name 4) (ej_name 8) (.inl hs.1))) (ej_mul (ej_name 5) (ej_name 7) (.inl hs.2))) aj_nil)) rfl) ?_) (ej_name 2) (ej_is (ej_add (ej_name 3) (ej_name 6)) (congrArg (fun z => dI z) eix)) (List.mem_singleton.mpr rfl) (by rw [itG_len]; exact hix) (sj_nil ⟨_, _, _, _, _, rfl, ?_⟩)
        · show It.d (.tuple [.int (u.1 + pt0.1 * t0.1 - pt0.2 * t0.2), .int (u.2 + pt0.1 * t0.2 + pt0.2 * t0.1)]) = .d (.tuple [.int (u.1 + (pt0.1 * t0.1 - pt0.2 * t0.2)), .int (u.2 + (pt0.1 * t0.2 + pt0.2 * t0.1))])
          rw [Int.add_sub_assoc, Int.add_assoc]
        · rw [itG_set]
          have e1 : addAt L j (scl pt0 (b.take (k + 1))) = L2.set (j + k) (gadd u (gmul pt0 t0)) := by
            have e2 : scl pt0 (b.take (k + 1)) = scl pt0 (b.take k) ++ [gmul pt0 t0] := by
              rw [take_snoc ht0]
              unfold scl
              rw [List.map_append]
              rfl
            rw [e2, addAt_snoc _ L j _ u (by rw [hL2, tl]; exact hu), hL2, tl]
          rw [e1]
          simp [Mem.put]
      · obtain ⟨y6, y7, y8, y9, y10, rfl, rfl⟩ := hI
        refine sj_nil ⟨_, _, _, _, _, _, _, _, rfl, ?_⟩
        rw [take_snoc hp0, mulAt_snoc, hL]
        have : 0 + (a.take j).length = j := by rw [List.length_take]; omega
        rw [this, show ((b.length : Int)).toNat = b.length from Int.toNat_natCast _, List.take_length]
    · obtain ⟨y3, y4, y5, y6, y7, y8, y9, y10, rfl, rfl⟩ := hI
      rw [show ((a.length : Int)).toNat = a.length from Int.toNat_natCast _, List.take_length, mul_conv ha hb]
      refine sj_freeze 2 (p := p) (ds := psD (conv a b)) rfl (List.mem_singleton.mpr rfl) hpF ?_
      exact sj_ret (ej_name 2) ⟨rfl, [], by simp⟩
end

/-! ### refused -/
def CoRef : Co := fun is M i M' => M = [] ∧ M' = [] ∧ ((∃ d, is = [.d (.str "line"), .d (.tuple [.str "line", d])] ∧ tame 2 d ∧ i = .d (.str ((chkL d).getD ""))) ∨ (∃ ss : List PyData, is = [.d (.str "noise"), .d (.list ss)] ∧ ss.length ≤ 1000 ∧ i = .d (.str "noise")) ∨ (∃ ss : List PyData, is = [.d (.str "cost"), .d (.list ss)] ∧ ss.length ≤ 1000 ∧ i = .d (.str "samples")))
section
variable {P : Program} {w : World} {K : PySem.W.Frag} {mg : Str → Option Value} {base : Heap}
theorem d_law_refused (T : Txt K mg) : Def P w K mg base "_law_refused" 5 CoRef := by
  obtain ⟨f, fd, F, hm, hb⟩ := T.f_law_refused
  obtain ⟨Cs, C0, fI, fdI, ER⟩ := T.err
  have G1 := d_check_line (P := P) (w := w) (base := base) T
  have G2 := d_spoiled (P := P) (w := w) (base := base) T
  have G3 := d_cost (P := P) (w := w) (base := base) T
  refine def_ok F sc_law_refused hm hb (fun is M i M' h => ?_) fun X hX N is M i M' hF hC => ?_
  · obtain ⟨rfl, rfl, ⟨d, rfl, _⟩ | ⟨d, rfl, _⟩ | ⟨d, rfl, _⟩⟩ := h <;> exact ⟨rfl, rfl⟩
  · obtain ⟨cdv, A, outer, sh, H, E, rfl, hr⟩ := hX
    have nd := sc_law_refused.nd
    obtain ⟨rfl, rfl, ⟨d, rfl, ht, rfl⟩ | ⟨ss, rfl, hl, rfl⟩ | ⟨ss, rfl, hl, rfl⟩⟩ := hC
    · refine sj_try 2 (fun z M' => chkL d = some z ∧ M' = []) nd ER (fun pn xe po => ?_) fun z M' hz => ?_
      · refine sj_if (t := true) (tj_is (tj_eqS (ej_name 0) ej_str) (decide_eq_true rfl)) (fun _ => ?_) fun h => nomatch h
        cases hc : chkL d with
        | none =>
          refine sj_expr (ej_callX G1 hr (aj_cons (ej_name 1) aj_nil) (Mc := []) rfl ⟨rfl, rfl, d, rfl, ht, hc, rfl⟩ rfl) (sj_nil (sj_nil (sj_ret ej_str ⟨rfl, [], rfl⟩)))
        | some z => exact sj_exprX (xj_callX G1 hr (aj_cons (ej_name 1) aj_nil) ⟨rfl, d, rfl, ht, hc⟩) ⟨rfl, rfl⟩
      · obtain ⟨hc, rfl⟩ := hz
        refine suite_ifName 2 ER (T.ist ER) T.b_isinstance (b0 := "HeardError") ⟨?_, [], rfl⟩ (hb0 := ER.g0)
        rw [hc]
        rfl
    · refine sj_try 2 (fun z M' => z = "noise" ∧ M' = []) nd ER (fun pn xe po => ?_) fun z M' hz => ?_
      · refine sj_if (t := false) (tj_is (tj_eqS (ej_name 0) ej_str) (by decide)) (fun h => nomatch h) fun _ => sj_if (t := true) (tj_is (tj_eqS (ej_name 0) ej_str) (decide_eq_true rfl)) (fun _ => ?_) fun h => nomatch h
        exact sj_exprX (xj_callX G2 hr (aj_cons (ej_name 1) (aj_cons (ej_el (el_rep (ds := [pD g0]) (n := (ss.length : Int) + 1) (ej_el (el_disp (aj_cons (ej_tup (aj_cons ej_int (aj_cons ej_int aj_nil))) aj_nil)) rfl) (ej_add (ej_lenL (ds := ss) T.b_len (ej_name 1)) ej_int) (by omega) (by omega) (by simp <;> omega)) rfl) aj_nil)) ⟨rfl, rfl, ss, _, rfl, by simp <;> omega⟩) ⟨rfl, rfl⟩
      · obtain ⟨rfl, rfl⟩ := hz
        exact suite_ifName 2 ER (T.ist ER) T.b_isinstance (b0 := "HeardError") ⟨rfl, [], rfl⟩ (hb0 := ER.g0)
    · refine sj_try 2 (fun z M' => z = "samples" ∧ M' = []) nd ER (fun pn xe po => ?_) fun z M' hz => ?_
      · refine sj_if (t := false) (tj_is (tj_eqS (ej_name 0) ej_str) (by decide)) (fun h => nomatch h) fun _ => sj_if (t := false) (tj_is (tj_eqS (ej_name 0) ej_str) (by decide)) (fun h => nomatch h) fun _ => ?_
        exact sj_exprX (xj_callX G3 hr (aj_cons (ej_name 1) (aj_cons (ej_el (el_rep (ds := [pD g0]) (n := (ss.length : Int) + 1) (ej_el (el_disp (aj_cons (ej_tup (aj_cons ej_int (aj_cons ej_int aj_nil))) aj_nil)) rfl) (ej_add (ej_lenL (ds := ss) T.b_len (ej_name 1)) ej_int) (by omega) (by omega) (by simp <;> omega)) rfl) aj_nil)) ⟨rfl, rfl, ss, _, rfl, by simp <;> omega⟩) ⟨rfl, rfl⟩
      · obtain ⟨rfl, rfl⟩ := hz
        exact suite_ifName 2 ER (T.ist ER) T.b_isinstance (b0 := "HeardError") ⟨rfl, [], rfl⟩ (hb0 := ER.g0)
end

/-! ### what is due -/
def big (p : Gp) : Bool := decide (50 < (if (if p.2 < 0 then -p.2 else p.2) > (if p.1 < 0 then -p.1 else p.1) then (if p.2 < 0 then -p.2 else p.2) else (if p.1 < 0 then -p.1 else p.1)))
def dueL (l : List Gp) : PyData := if 4 < l.length then .str "taps" else if 0 < (l.filter big).length then .str "tap" else lnD l
def in50 (p : Gp) : Prop := (-50 ≤ p.1 ∧ p.1 ≤ 50) ∧ (-50 ≤ p.2 ∧ p.2 ≤ 50)
theorem big_iff (p : Gp) : big p = false ↔ in50 p := by
  unfold big in50
  rw [decide_eq_false_iff_not]
  repeat' split
  all_goals omega
theorem tupB_pD (p : Gp) : tupB (pD p) 2 (-50) 50 = !big p := by
  have e : tupB (pD p) 2 (-50) 50 = (decide (-50 ≤ p.1) && decide (p.1 ≤ 50) && (decide (-50 ≤ p.2) && decide (p.2 ≤ 50))) := by
    show (decide ((2 : Int) = 2) && ((betw (.int p.1) (-50) 50) && ((betw (.int p.2) (-50) 50) && true))) = _
    simp [betw]
  rw [e]
  have h := big_iff p
  unfold in50 at h
  cases hb : big p with
  | false =>
    obtain ⟨⟨a, b⟩, c, d⟩ := h.mp hb
    simp [a, b, c, d]
  | true =>
    have : ¬ ((-50 ≤ p.1 ∧ p.1 ≤ 50) ∧ (-50 ≤ p.2 ∧ p.2 ≤ 50)) := fun g => by
      rw [h.mpr g] at hb
      cases hb
    simp only [← Bool.decide_and, Bool.not_true, decide_eq_false_iff_not]
    exact this
theorem zeroP_pD (p : Gp) : zeroP (pD p) = decide (p = g0) := by
  rw [← eqv_pD p g0]
  show (decide (p.1 = 0) && decide (p.2 = 0)) = _
  rw [show pD p = .tuple [.int p.1, .int p.2] from rfl, show pD g0 = .tuple [.int 0, .int 0] from rfl, eqv_pt]
theorem chk_due {l : List Gp} (hl : l ≠ []) (hz : ¬ allz l) : (chkL (.tuple (psD l)) = none ∧ dueL l = lnD l ∧ l.length ≤ 4 ∧ ∀ p ∈ l, in50 p) ∨ (∃ z, chkL (.tuple (psD l)) = some z ∧ dueL l = .str z ∧ z.length ≤ 1000 ∧ PN 0 (.str z)) := by
  have pl : 0 < l.length := List.length_pos_iff.mpr hl
  rw [chkL_tup, psD_len]
  unfold dueL
  by_cases h4 : 4 < l.length
  · rw [if_pos h4, if_neg (by simp [betw]; omega)]
    exact .inr ⟨_, rfl, rfl, by decide, .str _ (by decide +kernel)⟩
  · rw [if_neg h4, if_pos (by simp [betw]; omega)]
    have e1 : ((psD l).map fun x => tupB x 2 (-50) 50) = l.map fun p => !big p := by
      unfold psD
      rw [List.map_map]
      exact List.map_congr_left fun p _ => tupB_pD p
    have e2 : ((psD l).map zeroP) = l.map fun p => decide (p = g0) := by
      unfold psD
      rw [List.map_map]
      exact List.map_congr_left fun p _ => zeroP_pD p
    rw [e1, e2]
    by_cases hb : 0 < (l.filter big).length
    · rw [if_pos hb, if_neg]
      · exact .inr ⟨_, rfl, rfl, by decide, .str _ (by decide +kernel)⟩
      · intro h
        obtain ⟨p, hp⟩ := List.exists_mem_of_length_pos hb
        obtain ⟨p1, p2⟩ := List.mem_filter.mp hp
        have := List.all_eq_true.mp h _ (List.mem_map_of_mem p1)
        rw [p2] at this
        cases this
    · rw [if_neg hb]
      have hall : ∀ p ∈ l, big p = false := fun p hp => by
        cases e : big p with
        | false => rfl
        | true =>
          exact absurd (List.length_pos_of_mem (List.mem_filter.mpr ⟨hp, e⟩)) hb
      rw [if_pos, if_neg]
      · exact .inl ⟨rfl, rfl, by omega, fun p hp => (big_iff p).mp (hall p hp)⟩
      · intro h
        apply hz
        intro p hp
        have := List.all_eq_true.mp h _ (List.mem_map_of_mem hp)
        exact of_decide_eq_true this
      · rw [List.all_eq_true]
        intro x hx
        obtain ⟨p, hp, rfl⟩ := List.mem_map.mp hx
        rw [hall p hp]
        rfl
theorem pn_psD (l : List Gp) : PN 2 (.tuple (psD l)) := .tup _ fun x hx => by
  obtain ⟨p, _, rfl⟩ := List.mem_map.mp hx
  exact pn_pD p
theorem pn_psL (l : List Gp) : PN 2 (.list (psD l)) := .lst _ fun x hx => by
  obtain ⟨p, _, rfl⟩ := List.mem_map.mp hx
  exact pn_pD p
theorem pn_lnD (l : List Gp) : PN 3 (lnD l) := .tup _ fun x hx => by
  simp only [List.mem_cons, List.not_mem_nil, or_false] at hx
  rcases hx with rfl | rfl
  · exact .str _ (by decide +kernel)
  · exact pn_psD l
theorem pn_due (l : List Gp) : PN 3 (dueL l) := by
  unfold dueL
  split
  · exact .str _ (by decide +kernel)
  · split
    · exact .str _ (by decide +kernel)
    · exact pn_lnD l

/-! ### faults -/
theorem sk_nil (p : Addr) (k : Nat) (c : List Int) : Sk p k c ++ [] = Sk p k c := List.append_nil _
theorem chk_ok {ts : List Gp} (h : LnOk ts) : chkL (.tuple (psD ts)) = none := by
  rcases chk_due h.ne h.nz with ⟨a, _⟩ | ⟨z, a, b, _⟩
  · exact a
  · exfalso
    unfold dueL at b
    rw [if_neg (by have := h.le; omega), if_neg] at b
    · cases b
    · intro g
      obtain ⟨p, hp⟩ := List.exists_mem_of_length_pos g
      obtain ⟨p1, p2⟩ := List.mem_filter.mp hp
      rw [(big_iff p).mpr (h.sm p p1)] at p2
      cases p2
def badL : List PyData := [.tuple [.int 51, .int 0], .tuple [.int 0, .int (-51)], .tuple [.int 1], .list [.int 0, .int 1], .str "ab", .tuple [.int 0, .bool false], .none]
theorem bad_ok : ∀ b ∈ badL, tupB b 2 (-50) 50 = false ∧ tame 1 b := by
  intro b hb
  simp only [badL, List.mem_cons, List.not_mem_nil, or_false] at hb
  rcases hb with rfl | rfl | rfl | rfl | rfl | rfl | rfl
  · exact ⟨by decide, by show _ ≤ 1000; decide, fun x _ => trivial⟩
  · exact ⟨by decide, by show _ ≤ 1000; decide, fun x _ => trivial⟩
  · exact ⟨by decide, by show _ ≤ 1000; decide, fun x _ => trivial⟩
  · exact ⟨by decide, by show _ ≤ 1000; decide, fun x _ => trivial⟩
  · exact ⟨rfl, trivial⟩
  · exact ⟨by decide, by show _ ≤ 1000; decide, fun x _ => trivial⟩
  · exact ⟨rfl, trivial⟩
theorem tame_pD (p : Gp) : tame 1 (pD p) := ⟨by show 2 ≤ 1000; decide, fun y _ => trivial⟩
theorem wrong_chk {l : List PyData} {b : PyData} (h1 : 1 ≤ l.length) (h2 : l.length ≤ 4) (hb : b ∈ l) (hf : tupB b 2 (-50) 50 = false) : chkL (.tuple l) = some ("tap" : Str) := by
  rw [chkL_tup, if_pos (by simp [betw]; omega), if_neg]
  intro h
  have := List.all_eq_true.mp h _ (List.mem_map_of_mem hb)
  rw [hf] at this
  cases this
theorem zeros_chk {n : Nat} (h1 : 1 ≤ n) (h2 : n ≤ 4) : chkL (.tuple (List.replicate n [pD g0]).flatten) = some ("nothing" : Str) := by
  have : n = 1 ∨ n = 2 ∨ n = 3 ∨ n = 4 := by omega
  rcases this with rfl | rfl | rfl | rfl <;> decide +kernel
theorem five_chk (b : PyData) : chkL (.tuple [b, b, b, b, b]) = some ("taps" : Str) := by
  rw [chkL_tup, if_neg (by simp [betw])]
def rowsF (ts : List Gp) (b : PyData) (a : Nat) : List PyData := [.tuple [.tuple [], .str "taps"], .tuple [.tuple [b, b, b, b, b], .str "taps"], .tuple [.tuple ((psD ts).take a ++ [b] ++ (psD ts).drop (a + 1)), .str "tap"], .tuple [.tuple (List.replicate ts.length [pD g0]).flatten, .str "nothing"], .tuple [.tuple (psD ts), .str ""]]
theorem rowsF_ok {ts : List Gp} (h : LnOk ts) {b : PyData} (hb : b ∈ badL) {a : Nat} (ha : a < ts.length) : ∀ d ∈ rowsF ts b a, ∃ o z, d = .tuple [o, .str z] ∧ tame 2 o ∧ (chkL o).getD "" = z ∧ PN 0 (.str z) := by
  have hl := h.le
  obtain ⟨b1, b2⟩ := bad_ok b hb
  have hp : ∀ x ∈ psD ts, tame 1 x := fun x hx => by
    obtain ⟨p, _, rfl⟩ := List.mem_map.mp hx
    exact tame_pD p
  intro d hd
  simp only [rowsF, List.mem_cons, List.not_mem_nil, or_false] at hd
  rcases hd with rfl | rfl | rfl | rfl | rfl
  · exact ⟨_, _, rfl, ⟨by show 0 ≤ 1000; decide, fun x hx => nomatch hx⟩, rfl, .str _ (by decide +kernel)⟩
  · refine ⟨_, _, rfl, ⟨by show 5 ≤ 1000; decide, fun x hx => ?_⟩, by rw [five_chk]; rfl, .str _ (by decide +kernel)⟩
    simp only [List.mem_cons, List.not_mem_nil, or_false, or_self] at hx
    rw [hx]
    exact b2
  · have el : ((psD ts).take a ++ [b] ++ (psD ts).drop (a + 1)).length = ts.length := by
      simp [psD_len]
      omega
    refine ⟨_, _, rfl, ⟨by rw [el]; omega, fun x hx => ?_⟩, by rw [wrong_chk (b := b) (by rw [el]; omega) (by rw [el]; omega) (by simp) b1]; rfl, .str _ (by decide +kernel)⟩
    rcases List.mem_append.mp hx with hx | hx
    · rcases List.mem_append.mp hx with hx | hx
      · exact hp x (List.mem_of_mem_take hx)
      · cases List.mem_singleton.mp hx
        exact b2
    · exact hp x (List.mem_of_mem_drop hx)
  · refine ⟨_, _, rfl, ⟨by simp; omega, fun x hx => ?_⟩, by rw [zeros_chk (by omega) hl]; rfl, .str _ (by decide +kernel)⟩
    obtain ⟨l, hl, hx⟩ := List.mem_flatten.mp hx
    rw [(List.mem_replicate.mp hl).2] at hx
    cases List.mem_singleton.mp hx
    exact tame_pD _
  · exact ⟨_, _, rfl, ⟨by rw [psD_len]; omega, hp⟩, by rw [chk_ok h]; rfl, .str _ (by decide +kernel)⟩
def CoFaults : Co := fun is M i M' => ∃ (p : Addr) (k : Nat) (c : List Int) (ts : List Gp), is = [.v (.ref p), .d (lnD ts)] ∧ M = Sk p k c ∧ 1 ≤ k ∧ LnOk ts ∧ i = dB true ∧ M' = Sk p (tkK c (tkK c k)) c
section
variable {P : Program} {w : World} {K : PySem.W.Frag} {mg : Str → Option Value} {base : Heap}
theorem d_law_faults_right (T : Txt K mg) : Def P w K mg base "_law_faults_right" 6 CoFaults := by
  obtain ⟨f, fd, F, hm, hb⟩ := T.f_law_faults_right
  have G := d_law_take (P := P) (w := w) (base := base) T
  have GR := d_law_refused (P := P) (w := w) (base := base) T
  refine def_ok F sc_law_faults_right hm hb (fun is M i M' h => ?_) fun X hX N is M i M' hF hC => ?_
  · obtain ⟨p, k, c, ts, rfl, rfl, _, _, _, rfl⟩ := h
    exact ⟨rfl, rfl⟩
  · obtain ⟨cdv, A, outer, s, H, E, rfl, hr⟩ := hX
    obtain ⟨p, k, c, ts, rfl, rfl, hk, ok, rfl, rfl⟩ := hC
    have nd := sc_law_faults_right.nd
    have hr1 : Room 1 (A.deeper (envOfC "_law_faults_right" (defScope s_law_faults_right) s.heap.objs.size f cdv)) := hr.mono (by decide)
    have hl := ok.le
    have hn : 0 < ts.length := List.length_pos_iff.mpr ok.ne
    have k2 := tkK_pos c k hk
    have v0 := tkV_lo c k (many := (ts.length : Int)) (by omega)
    have v1 := tkV_hi c k (many := (ts.length : Int)) (by omega)
    have w0 := tkV_lo c (tkK c k) (many := 7) (by decide)
    have w1 := tkV_hi c (tkK c k) (many := 7) (by decide)
    refine sj_set (i := .d (.tuple (psD ts))) 2 nd (ej_ixT (ds := [.str "line", .tuple (psD ts)]) (ej_name 1) ej_int (atI_nat (j := 1) rfl)) ?_
    refine sj_set (i := dI (tkV c k (ts.length : Int))) (M1 := Sk p (tkK c k) c) 3 nd (ej_m (ej_take (Mr := []) G hr1 (ej_name 0) (ej_is (ej_lenT (ds := psD ts) T.b_len (ej_name 2)) (by rw [psD_len])) (sk_nil _ _ _).symm hk (by omega)) (sk_nil _ _ _)) ?_
    obtain ⟨a, ha⟩ : ∃ a : Nat, tkV c k (ts.length : Int) = (a : Int) := ⟨_, (Int.toNat_of_nonneg v0).symm⟩
    rw [ha] at v1 ⊢
    have hal : a < ts.length := by omega
    obtain ⟨b, hb, hbm⟩ : ∃ b, atI badL (tkV c (tkK c k) 7) = some b ∧ b ∈ badL := by
      have : (tkV c (tkK c k) 7).toNat < badL.length := by show _ < 7; omega
      exact ⟨_, at_of0 w0 (List.getElem?_eq_getElem this), List.getElem_mem this⟩
    refine sj_set (i := .d b) (M1 := Sk p (tkK c (tkK c k)) c) 4 nd (ej_ixL (ds := badL) (ej_el (el_disp (aj_cons (ej_tup (aj_cons ej_int (aj_cons ej_int aj_nil))) (aj_cons (ej_tup (aj_cons ej_int (aj_cons (ej_neg ej_int) aj_nil))) (aj_cons (ej_tup (aj_cons ej_int aj_nil)) (aj_cons (ej_el (ds := [.int 0, .int 1]) (el_disp (aj_cons ej_int (aj_cons ej_int aj_nil))) rfl) (aj_cons ej_str (aj_cons (ej_tup (aj_cons ej_int (aj_cons ej_bl aj_nil))) (aj_cons ej_non aj_nil)))))))) rfl) (ej_m (ej_take (Mr := []) G hr1 (ej_name 0) ej_int (sk_nil _ _ _).symm k2 (by decide)) (sk_nil _ _ _)) hb) ?_
    have c1 : Kt.cutD (psD ts) none (some (a : Int)) = (psD ts).take a := by
      unfold Kt.cutD
      rw [HT.sIx_nat, show HT.sIx (psD ts).length 0 none = 0 from rfl, List.drop_zero, Nat.sub_zero, Nat.min_eq_left (by rw [psD_len]; omega)]
    have c2 : Kt.cutD (psD ts) (some ((a : Int) + 1)) none = (psD ts).drop (a + 1) := by
      unfold Kt.cutD
      rw [show (a : Int) + 1 = ((a + 1 : Nat) : Int) by omega, HT.sIx_nat, show HT.sIx (psD ts).length (psD ts).length none = (psD ts).length from rfl, Nat.min_eq_left (by rw [psD_len]; omega), List.take_of_length_le (by simp)]
    refine sj_set (i := .d (.tuple ((psD ts).take a ++ [b] ++ (psD ts).drop (a + 1)))) 5 nd (ej_catA (ej_catA (ej_is (ej_slTto (ds := psD ts) (h := (a : Int)) (ej_name 2) (ej_name 3)) (by rw [c1])) (ej_tup (ds := [b]) (aj_cons (ej_name 4) aj_nil)) (by simp [psD_len]; omega)) (ej_is (ej_slTfrom (ds := psD ts) (h := (a : Int) + 1) (ej_name 2) (ej_add (ej_name 3) ej_int)) (by rw [c2])) (by simp [psD_len]; omega)) ?_
    have h5 : List.replicate (5 : Int).toNat [b] = [[b], [b], [b], [b], [b]] := rfl
    refine sj_set (i := .d (.list (rowsF ts b a))) 6 nd (ej_el (el_disp (aj_cons (ej_tup (ds := [.tuple [], .str "taps"]) (aj_cons (ej_tup aj_nil) (aj_cons ej_str aj_nil))) (aj_cons (ej_tup (ds := [.tuple [b, b, b, b, b], .str "taps"]) (aj_cons (ej_times (ds := [b]) (n := 5) (ej_tup (ds := [b]) (aj_cons (ej_name 4) aj_nil)) ej_int (by simp) (by decide) (by decide) (by show 1 ≤ 1000; decide)) (aj_cons ej_str aj_nil)) rfl) (aj_cons (ej_tup (aj_cons (ej_name 5) (aj_cons ej_str aj_nil))) (aj_cons (ej_tup (ds := [.tuple (List.replicate ts.length [pD g0]).flatten, .str "nothing"]) (aj_cons (ej_is (ej_times (ds := [pD g0]) (n := (ts.length : Int)) (ej_tup (ds := [pD g0]) (aj_cons (ej_tup (ds := [.int 0, .int 0]) (aj_cons ej_int (aj_cons ej_int aj_nil))) aj_nil)) (ej_is (ej_lenT (ds := psD ts) T.b_len (ej_name 2)) (by rw [psD_len])) (by simp) (by omega) (by omega) (by show 1 ≤ 1000; decide)) rfl) (aj_cons ej_str aj_nil)) rfl) (aj_cons (ej_tup (aj_cons (ej_name 2) (aj_cons ej_str aj_nil))) aj_nil)))))) rfl) ?_
    have ro := rowsF_ok ok hbm hal
    have rl : (rowsF ts b a).length = 5 := rfl
    generalize rowsF ts b a = R at ro rl ⊢
    refine sj_ret (ej_eqI (n := 0) (m := 0) (ej_lenL (ds := []) T.b_len (ej_el (el_compW2F (φ := anyM) (M1 := Sk p (tkK c (tkK c k)) c) 7 8 (ds := R) (fun _ => []) (fun _ => Sk p (tkK c (tkK c k)) c) rfl nd (by decide) (iw_list (ej_name 6)) (fun _ _ => trivial) rfl rfl (by rw [rl]; decide) (fun m d hd => ?_)) rfl)) ej_int) ⟨rfl, [], by simp [Sk]⟩
    obtain ⟨o, z, rfl, ht, hz, pz⟩ := ro d (List.mem_of_getElem? hd)
    refine ⟨o, .str z, false, _, rfl, fun N' sh H C cl fp => tj_is (tj_neD hr.units (ej_callP GR hr (aj_cons ej_str (aj_cons (ej_tup (ds := [.str "line", o]) (aj_cons ej_str (aj_cons (ej_name 7) aj_nil))) aj_nil)) ⟨rfl, rfl, .inl ⟨o, rfl, ht, by rw [hz]⟩⟩) (ej_name 8) (.d _) (.d _) pz.plain pz.plain) (by rw [pz.refl]; rfl), Nat.zero_le _, ?_, ?_⟩
    · exact fun h => Bool.noConfusion h
    · exact fun _ => ⟨rfl, rfl⟩
end

/-! ### the mathematics of the law -/
theorem ladd_zip : ∀ {a b : List Gp}, a.length = b.length → ladd a b = List.zipWith gadd a b
  | [], [], _ => rfl
  | [], _ :: _, h => by simp at h
  | _ :: _, [], h => by simp at h
  | x :: xs, y :: ys, h => by
    show gadd x y :: ladd xs ys = gadd x y :: List.zipWith gadd xs ys
    rw [ladd_zip (by simpa using h)]
theorem conv_lens {a a' b : List Gp} (hb : b ≠ []) (h : a.length = a'.length) : (conv a b).length = (conv a' b).length := by
  by_cases ha : a = []
  · subst ha
    have : a' = [] := List.length_eq_zero_iff.mp (by simpa using h.symm)
    subst this
    rfl
  · have ha' : a' ≠ [] := fun e => ha (List.length_eq_zero_iff.mp (by rw [h, e]; rfl))
    have := conv_len hb ha
    have := conv_len hb ha'
    omega
theorem conv_sum {a a' b : List Gp} (hb : b ≠ []) (h : a.length = a'.length) : conv (List.zipWith gadd a a') b = List.zipWith gadd (conv a b) (conv a' b) := by
  rw [← ladd_zip h, conv_ladd, ladd_zip (conv_lens hb h)]
theorem rot_mul (p : Gp) : rotG p = gmul (0, 1) p := by
  unfold rotG gmul
  simp
theorem conv_scl (i : Gp) : ∀ a b : List Gp, conv a (scl i b) = scl i (conv a b)
  | [], _ => rfl
  | x :: xs, b => by
    show ladd (scl x (scl i b)) (g0 :: conv xs (scl i b)) = scl i (ladd (scl x b) (g0 :: conv xs b))
    rw [conv_scl i xs b, scl_ladd, scl_scl, scl_scl, gmul_comm x i]
    show _ = ladd _ (gmul i g0 :: _)
    rw [gmul_0]
    rfl
theorem map_rot (l : List Gp) : l.map rotG = scl (0, 1) l := List.map_congr_left fun p _ => rot_mul p
theorem rotN_map (n : Nat) (l : List Gp) : l.map (rotN (n + 1)) = (l.map (rotN n)).map rotG := by
  rw [List.map_map]
  rfl
theorem conv_rot (a b : List Gp) : ∀ n : Nat, conv a (b.map (rotN n)) = (conv a b).map (rotN n)
  | 0 => by
    have e : ∀ l : List Gp, l.map (rotN 0) = l := fun l => by
      show l.map (fun p => p) = l
      simp
    rw [e, e]
  | n + 1 => by
    rw [rotN_map, rotN_map, map_rot, conv_scl, ← map_rot, conv_rot a b n]
theorem loseN_get (ks : List Int) (hk : ∀ k ∈ ks, 0 ≤ k) : ∀ (ss : List (Option Gp)) (j : Nat), (loseN ss ks)[j]? = if inI (j : Int) ks = true then (ss[j]?).map (fun _ => none) else ss[j]? := by
  induction ks with
  | nil => intro ss j; rfl
  | cons k ks ih =>
    intro ss j
    show (loseN (loseAt ss k) ks)[j]? = _
    rw [ih fun k h => hk k (List.mem_cons_of_mem _ h)]
    have e : inI (j : Int) (k :: ks) = (decide ((j : Int) = k) || inI (j : Int) ks) := rfl
    have h0 := hk k List.mem_cons_self
    rw [e]
    have g : (loseAt ss k)[j]? = if (j : Int) = k then (ss[j]?).map (fun _ => none) else ss[j]? := by
      unfold loseAt
      by_cases hl : 0 ≤ k ∧ k < (ss.length : Int)
      · rw [if_pos hl, List.getElem?_set]
        by_cases hj : (j : Int) = k
        · rw [if_pos (by omega), if_pos hj, if_pos (by omega), List.getElem?_eq_getElem (by omega)]
          rfl
        · rw [if_neg (by omega), if_neg hj]
      · rw [if_neg hl]
        by_cases hj : (j : Int) = k
        · rw [if_pos hj, List.getElem?_eq_none (by omega)]
          rfl
        · rw [if_neg hj]
    rw [g]
    by_cases hj : (j : Int) = k
    · rw [decide_eq_true hj, Bool.true_or, if_pos rfl, if_pos hj]
      split
      · rw [Option.map_map]
        rfl
      · rfl
    · rw [decide_eq_false hj, Bool.false_or, if_neg hj]
/-- the samples with those at the places lost -/
def lessF (ks : List Int) (ss : List Gp) : List (Option Gp) := ss.mapIdx fun j s => if inI (j : Int) ks = true then none else some s
theorem lessF_len (ks : List Int) (ss : List Gp) : (lessF ks ss).length = ss.length := by simp [lessF]
theorem lessF_get {ks : List Int} {ss : List Gp} {j : Nat} {s : Gp} (h : ss[j]? = some s) : (lessF ks ss)[j]? = some (if inI (j : Int) ks = true then none else some s) := by
  unfold lessF
  rw [List.getElem?_mapIdx, h]
  rfl
theorem loseN_less {ks : List Int} (hk : ∀ k ∈ ks, 0 ≤ k) (ss : List Gp) : loseN (ss.map some) ks = lessF ks ss := by
  refine List.ext_getElem? fun j => ?_
  rw [loseN_get ks hk, List.getElem?_map]
  unfold lessF
  rw [List.getElem?_mapIdx]
  cases ss[j]? with
  | none => split <;> rfl
  | some s => split <;> rfl
def dueF (ks : List Int) (ss ns : List Gp) : List (Option Gp) := List.zipWith (fun s p => s.map fun s => gadd s p) (lessF ks ss) ns
theorem dueF_get {ks : List Int} {ss ns : List Gp} {j : Nat} {s n : Gp} (h : ss[j]? = some s) (h2 : ns[j]? = some n) : (dueF ks ss ns)[j]? = some (if inI (j : Int) ks = true then none else some (gadd s n)) := by
  unfold dueF
  rw [List.getElem?_zipWith, lessF_get h, h2]
  cases inI (j : Int) ks <;> rfl
theorem dueF_len {ks : List Int} {ss ns : List Gp} (h : ss.length = ns.length) : (dueF ks ss ns).length = ss.length := by
  unfold dueF
  rw [List.length_zipWith, lessF_len]
  omega
/-- the noise that counts -/
def nsF (ks : List Int) : Nat → List Gp → List Gp
  | _, [] => []
  | j, n :: ns => if inI (j : Int) ks = true then nsF ks (j + 1) ns else n :: nsF ks (j + 1) ns
theorem gsub_add (s n : Gp) : gsub (gadd s n) s = n := by
  unfold gsub gadd
  refine Prod.ext ?_ ?_ <;> simp only <;> omega
theorem cost_ns (ks : List Int) : ∀ (ss ns : List Gp) (j : Nat), ss.length = ns.length → ((List.zipWith (fun s p => s.map fun s => gadd s p) (ss.mapIdx fun i s => if inI ((i + j : Nat) : Int) ks = true then none else some s) ns).zip ss).filterMap (fun x => x.1.map fun s => gsub s x.2) = nsF ks j ns
  | [], [], _, _ => rfl
  | [], _ :: _, _, h => by simp at h
  | _ :: _, [], _, h => by simp at h
  | s :: ss, n :: ns, j, h => by
    have ih := cost_ns ks ss ns (j + 1) (by simpa using h)
    rw [List.mapIdx_cons]
    show ((_ :: List.zipWith _ _ ns).zip (s :: ss)).filterMap _ = _
    rw [List.zip_cons_cons]
    have e : (fun i s => if inI (((i + 1) + j : Nat) : Int) ks = true then none else some s) = (fun (i : Nat) (s : Gp) => if inI ((i + (j + 1) : Nat) : Int) ks = true then (none : Option Gp) else some s) := by
      funext i s
      rw [show i + 1 + j = i + (j + 1) by omega]
    have e2 : nsF ks j (n :: ns) = if inI (j : Int) ks = true then nsF ks (j + 1) ns else n :: nsF ks (j + 1) ns := rfl
    rw [e2]
    simp only [Nat.zero_add]
    by_cases hj : inI (j : Int) ks = true
    · rw [if_pos hj, if_pos hj, List.filterMap_cons_none rfl, e]
      exact ih
    · rw [if_neg hj, if_neg hj, List.filterMap_cons_some (b := n) (by show some (gsub (gadd s n) s) = some n; rw [gsub_add]), e]
      congr 1
theorem cost_due {ks : List Int} {ss ns : List Gp} (h : ss.length = ns.length) : costG (dueF ks ss ns) ss = nsF ks 0 ns := cost_ns ks ss ns 0 h
theorem nsF_sub (ks : List Int) : ∀ (ns : List Gp) (j : Nat), ∀ p ∈ nsF ks j ns, p ∈ ns
  | [], _, _, h => nomatch h
  | n :: ns, j, p, h => by
    have e2 : nsF ks j (n :: ns) = if inI (j : Int) ks = true then nsF ks (j + 1) ns else n :: nsF ks (j + 1) ns := rfl
    rw [e2] at h
    split at h
    · exact List.mem_cons_of_mem _ (nsF_sub ks ns (j + 1) p h)
    · rcases List.mem_cons.mp h with rfl | h
      · exact List.mem_cons_self
      · exact List.mem_cons_of_mem _ (nsF_sub ks ns (j + 1) p h)
def totF (ks : List Int) (ns : List Gp) : Int := ((nsF ks 0 ns).map szG).sum
theorem nsF_snoc (ks : List Int) (n : Gp) : ∀ (ns : List Gp) (j : Nat), nsF ks j (ns ++ [n]) = nsF ks j ns ++ (if inI ((j + ns.length : Nat) : Int) ks = true then [] else [n])
  | [], j => by
    show nsF ks j [n] = [] ++ _
    rw [List.nil_append]
    show (if inI (j : Int) ks = true then nsF ks (j + 1) [] else n :: nsF ks (j + 1) []) = _
    rfl
  | m :: ms, j => by
    show (if inI (j : Int) ks = true then nsF ks (j + 1) (ms ++ [n]) else m :: nsF ks (j + 1) (ms ++ [n])) = (if inI (j : Int) ks = true then nsF ks (j + 1) ms else m :: nsF ks (j + 1) ms) ++ _
    rw [nsF_snoc ks n ms (j + 1), show j + 1 + ms.length = j + (m :: ms).length by simp; omega]
    split <;> rfl
theorem totF_take {ks : List Int} {ns : List Gp} {k : Nat} {n : Gp} (h : ns[k]? = some n) : totF ks (ns.take (k + 1)) = totF ks (ns.take k) + (if (!inI (k : Int) ks) = true then 1 else 0) * (n.1 ^ 2 + n.2 ^ 2) := by
  have hl : (ns.take k).length = k := by
    rw [List.length_take]
    have := (List.getElem?_eq_some_iff.mp h).1
    omega
  unfold totF
  rw [take_snoc h, nsF_snoc, hl, Nat.zero_add, List.map_append, List.sum_append]
  congr 1
  cases inI (k : Int) ks with
  | true => simp
  | false => simp [szG, Int.pow_succ]
/-! the lists that are drawn -/
def ptsL (c : List Int) : Nat → Nat → List Gp
  | 0, _ => []
  | n + 1, k => ptsL c n k ++ [ptG c (kN c n k)]
theorem ptsL_len (c : List Int) : ∀ n k : Nat, (ptsL c n k).length = n
  | 0, _ => rfl
  | n + 1, k => by
    show (ptsL c n k ++ [_]).length = _
    rw [List.length_append, ptsL_len c n k]
    rfl
theorem ptsL_in (c : List Int) : ∀ n k : Nat, ∀ t ∈ ptsL c n k, inK t
  | 0, _, t, h => nomatch h
  | n + 1, k, t, h => by
    rcases List.mem_append.mp h with h | h
    · exact ptsL_in c n k t h
    · cases List.mem_singleton.mp h
      exact ptG_in _ _
def kT (c : List Int) : Nat → Nat → Nat
  | 0, k => k
  | n + 1, k => tkK c (kT c n k)
theorem kT_pos (c : List Int) : ∀ n k : Nat, 1 ≤ k → 1 ≤ kT c n k
  | 0, _, h => h
  | n + 1, k, h => tkK_pos _ _ (kT_pos c n k h)
def plF (c : List Int) : Nat → Nat → List Int
  | 0, _ => []
  | n + 1, k => plF c n k ++ (if tkV c (kT c n k) 3 = 0 then [(n : Int)] else [])
theorem plF_len (c : List Int) : ∀ n k : Nat, (plF c n k).length ≤ n
  | 0, _ => Nat.le_refl 0
  | n + 1, k => by
    show (plF c n k ++ _).length ≤ _
    rw [List.length_append]
    have := plF_len c n k
    split <;> simp <;> omega
theorem plF_lo (c : List Int) : ∀ n k : Nat, ∀ x ∈ plF c n k, 0 ≤ x
  | 0, _, x, h => nomatch h
  | n + 1, k, x, h => by
    rcases List.mem_append.mp h with h | h
    · exact plF_lo c n k x h
    · split at h
      · cases List.mem_singleton.mp h
        exact Int.natCast_nonneg n
      · exact nomatch h
theorem inK_sm {p : Gp} (h : inK p) : sm p := by
  unfold inK at h
  unfold sm
  omega
theorem pn_osD (l : List (Option Gp)) : PN 2 (.list (osD l)) := .lst _ fun x hx => by
  obtain ⟨p, _, rfl⟩ := List.mem_map.mp hx
  cases p with
  | none => exact .non
  | some p => exact pn_pD p
theorem sj_frzS {X : Cx} {N : Ent} {ρ : Rho} {sts : List Stmt} {Z : Post} {p q : Addr} {k : Nat} {c : List Int} {ds : List PyData} (n : Nat) (hρ : ρ[n]? = some (some (.v (.ref q)))) (hF : q ∉ N.F) (hr : SJ X N (ρ.set n (some (.d (.list ds)))) (Sk p k c) sts Z) : SJ X N ρ (Sk p k c ++ [(q, ds.map It.d)]) sts Z :=
  sj_nd fun hne => sj_freeze n (p := q) (ds := ds) hρ (List.mem_append_right _ (List.mem_singleton.mpr rfl)) hF (by
    have e : p ≠ q := by simpa [Sk] using hne
    have : ((Sk p k c ++ [(q, ds.map It.d)]).filter fun c => decide (c.1 ≠ q)) = Sk p k c := by simp [Sk, e]
    rw [this]
    exact hr)

section
variable {P : Program} {w : World} {K : PySem.W.Frag} {mg : Str → Option Value} {base : Heap}
theorem fr3 {α : Type} {l : List α} {m : Nat} {x : α} (h : l[m]? = some x) (f : α → PyData) : ((l.take (m + 1)).map f).map It.d = ((l.take m).map f).map It.d ++ [It.d (f x)] := by
  rw [take_snoc h, List.map_append, List.map_append]
  rfl
theorem rotN_in (n : Nat) {p : Gp} (h : inB p) : inB (rotN n p) := by
  induction n with
  | zero => exact h
  | succ n ih =>
    show inB (rotG (rotN n p))
    unfold inB at ih ⊢
    show (-50 ≤ -(rotN n p).2 ∧ -(rotN n p).2 ≤ 50) ∧ (-50 ≤ (rotN n p).1 ∧ (rotN n p).1 ≤ 50)
    omega
theorem itG_snoc (l : List Gp) (x : Gp) : itG (l ++ [x]) = itG l ++ [.d (pD x)] := by
  unfold itG psD
  rw [List.map_append, List.map_append]
  rfl
theorem ok_law {f : Addr} {fd : FuncData} (F : Fun K "law" "law" s_law f fd) (T : Txt K mg) : FnOk P w K mg base CX0 8 f fd ["script"] (spLaw K) := by
  have GS := d_law_stream (P := P) (w := w) (base := base) T
  have GT := d_law_take (P := P) (w := w) (base := base) T
  have GL := d_law_line (P := P) (w := w) (base := base) T
  have GP := d_law_point (P := P) (w := w) (base := base) T
  have GW := d_law_sent (P := P) (w := w) (base := base) T
  have GE := d_sent (P := P) (w := w) (base := base) T
  have GR := d_reach (P := P) (w := w) (base := base) T
  have GU := d_turned_line (P := P) (w := w) (base := base) T
  have GO := d_lost (P := P) (w := w) (base := base) T
  have GX := d_spoiled (P := P) (w := w) (base := base) T
  have GC := d_cost (P := P) (w := w) (base := base) T
  have GQ := d_law_refused (P := P) (w := w) (base := base) T
  have GF := d_law_faults_right (P := P) (w := w) (base := base) T
  refine law_ok F sc_law fun X hX N a ns hF hl => ?_
  obtain ⟨cdv, A, outer, sh, H, E, rfl, hr⟩ := hX
  have nd := sc_law.nd
  have hr1 : Room 1 (A.deeper (envOfC "law" (defScope s_law) sh.heap.objs.size f cdv)) := hr.mono (by decide)
  have hr2 : Room 2 (A.deeper (envOfC "law" (defScope s_law) sh.heap.objs.size f cdv)) := hr.mono (by decide)
  refine sj_setN (Mc := []) (Mr := []) 1 nd GS hr1 (aj_cons (ej_name 0) aj_nil) rfl ⟨rfl, a, ns, rfl, hl⟩ fun i M' hB => ?_
  obtain ⟨_, _, p, c, _, rfl, rfl, hg, hcl⟩ := hB
  rw [sk_nil]
  have lok := lineF_ok c 1
  have kk1 := lineK_pos c 1 (Nat.le_refl 1)
  refine sj_set (i := .d (lnD (lineF c 1))) (M1 := Sk p (lineK c 1) c) 2 nd (ej_call GL hr2 (aj_cons (ej_name 1) aj_nil) (Mc := Sk p 1 c) (Mr := []) rfl ⟨p, 1, c, rfl, rfl, Nat.le_refl 1, rfl, rfl⟩ rfl) ?_
  generalize lineF c 1 = ts at lok ⊢
  generalize lineK c 1 = k1 at kk1 ⊢
  have tsm : ∀ t ∈ ts, sm t := fun t ht => inB_sm (lok.sm t ht)
  have tle := lok.le
  have tpos : 0 < ts.length := List.length_pos_iff.mpr lok.ne
  have v0 := tkV_lo c k1 (many := 9) (by decide)
  have v1 := tkV_hi c k1 (many := 9) (by decide)
  have kk2 := tkK_pos c k1 kk1
  refine sj_set (i := dI (tkV c k1 9)) (M1 := Sk p (tkK c k1) c) 3 nd (ej_take (Mr := []) GT hr1 (ej_name 1) ej_int rfl kk1 (by decide)) ?_
  obtain ⟨m, hm⟩ : ∃ m : Nat, tkV c k1 9 = (m : Int) := ⟨_, (Int.toNat_of_nonneg v0).symm⟩
  rw [hm] at v1 ⊢
  generalize tkK c k1 = k2 at kk2 ⊢
  have m9 : m < 9 := by omega
  -- points
  refine sj_own 4 nd (el_compR 11 (z := (m : Int)) (M1 := Sk p k2 c) (fun n => itG (ptsL c n k2)) (fun n => Sk p (kN c n k2) c) rfl T.b_range nd (ej_name 3) rfl rfl (by omega) (fun n hn => ⟨.d (pD (ptG c (kN c n k2))), itG_snoc _ _, by rw [itG_len, ptsL_len]; exact Nat.le_refl _, fun N' s H C cl fp => ej_call GP hr2 (aj_cons (ej_name 1) aj_nil) (Mc := Sk p (kN c n k2) c) (Mr := []) rfl ⟨p, _, c, rfl, rfl, kN_pos c n _ kk2, rfl, rfl⟩ rfl⟩)) fun q hq => ?_
  have pl := ptsL_len c (m : Int).toNat k2
  have pin := ptsL_in c (m : Int).toNat k2
  have kk3 := kN_pos c (m : Int).toNat k2 kk2
  rw [Int.toNat_natCast] at pl pin kk3 ⊢
  generalize ptsL c m k2 = pts at pl pin ⊢
  generalize kN c m k2 = k3' at kk3 ⊢
  refine sj_frzS 4 (ds := psD pts) rfl hq ?_
  -- others
  refine sj_own 5 nd (el_compR 11 (z := (m : Int)) (M1 := Sk p k3' c) (fun n => itG (ptsL c n k3')) (fun n => Sk p (kN c n k3') c) rfl T.b_range nd (ej_name 3) rfl rfl (by omega) (fun n hn => ⟨.d (pD (ptG c (kN c n k3'))), itG_snoc _ _, by rw [itG_len, ptsL_len]; exact Nat.le_refl _, fun N' s H C cl fp => ej_call GP hr2 (aj_cons (ej_name 1) aj_nil) (Mc := Sk p (kN c n k3') c) (Mr := []) rfl ⟨p, _, c, rfl, rfl, kN_pos c n _ kk3, rfl, rfl⟩ rfl⟩)) fun q hq => ?_
  have ql := ptsL_len c (m : Int).toNat k3'
  have qin := ptsL_in c (m : Int).toNat k3'
  have kk4 := kN_pos c (m : Int).toNat k3' kk3
  rw [Int.toNat_natCast] at ql qin kk4 ⊢
  generalize ptsL c m k3' = oth at ql qin ⊢
  generalize kN c m k3' = k4 at kk4 ⊢
  refine sj_frzS 5 (ds := psD oth) rfl hq ?_
  refine sj_is (ρ' := [some (scr K a ns), some (.v (.ref p)), some (.d (lnD ts)), some (dI (m : Int)), some (.d (.list (psD pts))), some (.d (.list (psD oth))), none, none, none, none, none, none, none, none, none, none, none, none, none, none, none]) (M' := Sk p k4 c) ?_ rfl rfl
  -- samples
  refine sj_set (i := .d (.list (psD (conv pts ts)))) 6 nd (ej_callP GW hr1 (aj_cons (ej_name 2) (aj_cons (ej_name 4) aj_nil)) ⟨rfl, rfl, ts, pts, rfl, lok.ne, fun t ht => inK_sm (pin t ht), by omega, rfl⟩) ?_
  refine sj_if (t := false) (tj_is (tj_w (wj_or (tj_neD hr.units (ej_callP GE (hr.mono (by decide)) (aj_cons (ej_name 2) (aj_cons (ej_el (el_listL T.b_list (ds := psD pts) (ej_name 4)) rfl) aj_nil)) ⟨rfl, rfl, ts, pts, rfl, lok.ne, tsm, by omega, rfl⟩) (ej_name 6) (.d _) (.d _) (pn_psL _).plain (pn_psL _).plain) fun _ => wj_or1 (tj_neI (ej_callP GR hr1 (aj_cons (ej_name 2) aj_nil) ⟨rfl, rfl, ts, rfl, rfl⟩) (ej_sub (ej_lenT (ds := psD ts) T.b_len (ej_ixT (ds := [.str "line", .tuple (psD ts)]) (ej_name 2) ej_int (atI_nat (j := 1) rfl))) ej_int)))) ?_) (fun h => nomatch h) fun _ => sj_nil ?_
  · rw [(pn_psL _).refl, psD_len, decide_eq_true rfl]
    rfl
  have slen : (conv pts ts).length = (conv oth ts).length := conv_lens lok.ne (by omega)
  have sz : (conv pts ts).length ≤ 20 := by
    by_cases h : pts = []
    · rw [h]
      exact Nat.zero_le _
    · have := conv_len lok.ne h
      omega
  have csum := conv_sum (a := pts) (a' := oth) lok.ne (by omega)
  have a0 : ∀ p : Gp, atI [PyData.int p.1, .int p.2] 0 = some (.int p.1) := fun p => atI_nat (j := 0) rfl
  have a1 : ∀ p : Gp, atI [PyData.int p.1, .int p.2] 1 = some (.int p.2) := fun p => atI_nat (j := 1) rfl
  -- both
  refine sj_setcompR 7 11 (z := (m : Int)) (M1 := Sk p k4 c) (fun n => itG (List.zipWith gadd (pts.take n) (oth.take n))) (fun n => Sk p k4 c) rfl T.b_range nd (ej_name 3) rfl rfl (by omega) (fun n hn => ?_) fun q hq => ?_
  · have nl : n < m := by omega
    obtain ⟨x, hx⟩ : ∃ x, pts[n]? = some x := ⟨_, List.getElem?_eq_getElem (by omega)⟩
    obtain ⟨y, hy⟩ : ∃ y, oth[n]? = some y := ⟨_, List.getElem?_eq_getElem (by omega)⟩
    refine ⟨.d (pD (gadd x y)), by rw [zw_take gadd pts oth n x y hx hy, itG_snoc], by rw [itG_len]; simp; omega, fun N' s H C cl fp => ej_tup (ds := [.int (x.1 + y.1), .int (x.2 + y.2)]) (aj_cons (ej_add (ej_ixT (ds := [.int x.1, .int x.2]) (ej_ixL (ds := psD pts) (ej_name 4) (ej_name 11) (psD_at hx)) ej_int (a0 x)) (ej_ixT (ds := [.int y.1, .int y.2]) (ej_ixL (ds := psD oth) (ej_name 5) (ej_name 11) (psD_at hy)) ej_int (a0 y))) (aj_cons (ej_add (ej_ixT (ds := [.int x.1, .int x.2]) (ej_ixL (ds := psD pts) (ej_name 4) (ej_name 11) (psD_at hx)) ej_int (a1 x)) (ej_ixT (ds := [.int y.1, .int y.2]) (ej_ixL (ds := psD oth) (ej_name 5) (ej_name 11) (psD_at hy)) ej_int (a1 y))) aj_nil)) rfl⟩
  rw [Int.toNat_natCast, List.take_of_length_le (by omega), List.take_of_length_le (by omega)]
  refine sj_frzS 7 (ds := psD (List.zipWith gadd pts oth)) rfl hq ?_
  refine sj_set (i := .d (.list (psD (conv oth ts)))) 8 nd (ej_callP GE (hr.mono (by decide)) (aj_cons (ej_name 2) (aj_cons (ej_name 5) aj_nil)) ⟨rfl, rfl, ts, oth, rfl, lok.ne, tsm, by omega, rfl⟩) ?_
  generalize hss : conv pts ts = ss at slen sz csum ⊢
  generalize hs2 : conv oth ts = s2 at slen csum ⊢
  have e3 : (List.zipWith gadd pts oth).length + ts.length ≤ 1000 := by simp; omega
  refine sj_if (t := false) (tj_is (tj_neD (d := .list (psD (List.zipWith gadd ss s2))) (d' := .list (psD (List.zipWith gadd ss s2))) hr.units (ej_is (ej_callP GE (hr.mono (by decide)) (aj_cons (ej_name 2) (aj_cons (ej_name 7) aj_nil)) ⟨rfl, rfl, ts, List.zipWith gadd pts oth, rfl, lok.ne, tsm, by omega, rfl⟩) (by rw [csum])) (ej_el (ds := psD (List.zipWith gadd ss s2)) (el_compR 11 (z := (ss.length : Int)) (M1 := Sk p k4 c) (fun n => itG (List.zipWith gadd (ss.take n) (s2.take n))) (fun n => Sk p k4 c) rfl T.b_range nd (ej_is (ej_lenL (ds := psD ss) T.b_len (ej_name 6)) (by rw [psD_len])) rfl rfl (by omega) (fun n hn => ?_)) ?_) (.d _) (.d _) (pn_psL _).plain (pn_psL _).plain) ?_) (fun h => nomatch h) fun _ => sj_nil ?_
  · have nl : n < ss.length := by omega
    obtain ⟨x, hx⟩ : ∃ x, ss[n]? = some x := ⟨_, List.getElem?_eq_getElem (by omega)⟩
    obtain ⟨y, hy⟩ : ∃ y, s2[n]? = some y := ⟨_, List.getElem?_eq_getElem (by omega)⟩
    refine ⟨.d (pD (gadd x y)), by rw [zw_take gadd ss s2 n x y hx hy, itG_snoc], by rw [itG_len]; simp; omega, fun N' s H C cl fp => ej_tup (ds := [.int (x.1 + y.1), .int (x.2 + y.2)]) (aj_cons (ej_add (ej_ixT (ds := [.int x.1, .int x.2]) (ej_ixL (ds := psD ss) (ej_name 6) (ej_name 11) (psD_at hx)) ej_int (a0 x)) (ej_ixT (ds := [.int y.1, .int y.2]) (ej_ixL (ds := psD s2) (ej_name 8) (ej_name 11) (psD_at hy)) ej_int (a0 y))) (aj_cons (ej_add (ej_ixT (ds := [.int x.1, .int x.2]) (ej_ixL (ds := psD ss) (ej_name 6) (ej_name 11) (psD_at hx)) ej_int (a1 x)) (ej_ixT (ds := [.int y.1, .int y.2]) (ej_ixL (ds := psD s2) (ej_name 8) (ej_name 11) (psD_at hy)) ej_int (a1 y))) aj_nil)) rfl⟩
  · rw [Int.toNat_natCast, List.take_of_length_le (by omega), List.take_of_length_le (by omega)]
    rfl
  · rw [(pn_psL _).refl]
    rfl
  refine sj_is (ρ' := [some (scr K a ns), some (.v (.ref p)), some (.d (lnD ts)), some (dI (m : Int)), some (.d (.list (psD pts))), some (.d (.list (psD oth))), some (.d (.list (psD ss))), some (.d (.list (psD (List.zipWith gadd pts oth)))), some (.d (.list (psD s2))), none, none, none, none, none, none, none, none, none, none, none, none]) (M' := Sk p k4 c) ?_ rfl rfl
  clear e3 csum
  generalize PyData.list (psD (List.zipWith gadd pts oth)) = d7
  -- quarters
  have u0 := tkV_lo c k4 (many := 9) (by decide)
  have u1 := tkV_hi c k4 (many := 9) (by decide)
  have kk5 := tkK_pos c k4 kk4
  refine sj_set (i := dI (tkV c k4 9 - 4)) (M1 := Sk p (tkK c k4) c) 9 nd (ej_sub (ej_take (Mr := []) GT hr1 (ej_name 1) ej_int rfl kk4 (by decide)) ej_int) ?_
  generalize tkV c k4 9 = v at u0 u1 ⊢
  generalize tkK c k4 = k5 at kk5 ⊢
  have hv : atI [PyData.int 0, .int 1, .int 2, .int 3, .int 0, .int 1, .int 2, .int 3, .int 0] (v - 4 + 4) = some (.int (v % 4)) := by
    have : v = 0 ∨ v = 1 ∨ v = 2 ∨ v = 3 ∨ v = 4 ∨ v = 5 ∨ v = 6 ∨ v = 7 ∨ v = 8 := by omega
    rcases this with rfl | rfl | rfl | rfl | rfl | rfl | rfl | rfl | rfl <;> exact atI_nat (j := _) rfl
  refine sj_set (i := .d (.list (psD ss))) 10 nd (ej_el (el_listL T.b_list (ds := psD ss) (ej_name 6)) rfl) ?_
  refine sj_forR (m := v % 4) (M1 := Sk p k5 c) rfl T.b_range (ej_ixL (ds := [.int 0, .int 1, .int 2, .int 3, .int 0, .int 1, .int 2, .int 3, .int 0]) (ej_el (el_disp (aj_cons ej_int (aj_cons ej_int (aj_cons ej_int (aj_cons ej_int (aj_cons ej_int (aj_cons ej_int (aj_cons ej_int (aj_cons ej_int (aj_cons ej_int aj_nil)))))))))) rfl) (ej_add (ej_name 9) ej_int) hv) (by omega) (fun n ρ M => ∃ y, ρ = [some (scr K a ns), some (.v (.ref p)), some (.d (lnD ts)), some (dI (m : Int)), some (.d (.list (psD pts))), some (.d (.list (psD oth))), some (.d (.list (psD ss))), some (.d d7), some (.d (.list (psD s2))), some (dI (v - 4)), some (.d (.list (psD (ss.map (rotN n))))), y, none, none, none, none, none, none, none, none, none] ∧ M = Sk p k5 c) ⟨none, by show _ = [some (scr K a ns), some (.v (.ref p)), some (.d (lnD ts)), some (dI (m : Int)), some (.d (.list (psD pts))), some (.d (.list (psD oth))), some (.d (.list (psD ss))), some (.d d7), some (.d (.list (psD s2))), some (dI (v - 4)), some (.d (.list (psD (ss.map (fun p => p))))), none, none, none, none, none, none, none, none, none, none]; rw [List.map_id']; rfl, rfl⟩ (fun n ρ M hn hI => ?_) fun ρ M hI => ?_
  · obtain ⟨y, rfl, rfl⟩ := hI
    refine ⟨_, gj_name 11 nd, ?_⟩
    refine sj_setW2 (φ := anyM) (M1 := Sk p k5 c) 10 19 20 (ds := psD (ss.map (rotN n))) (fun k => itG (((ss.map (rotN n)).take k).map rotG)) (fun _ => Sk p k5 c) rfl nd (by decide) (iw_list (ej_name 10)) (fun _ _ => trivial) rfl rfl (by rw [psD_len, List.length_map]; omega) (fun k d hd => ?_) fun q hq => ?_
    · obtain ⟨x, hx, rfl⟩ := psD_inv hd
      refine ⟨.int x.1, .int x.2, .d (pD (rotG x)), rfl, ?_, by rw [itG_len]; simp; omega, fun N' s H C cl fp => ej_is (ej_tup (ds := [.int (0 - x.2), .int x.1]) (aj_cons (ej_sub ej_int (ej_name 20)) (aj_cons (ej_name 19) aj_nil)) rfl) (by rw [Int.zero_sub]; rfl)⟩
      rw [take_snoc hx, List.map_append]
      exact itG_snoc _ _
    · rw [psD_len, List.take_length]
      refine sj_frzS 10 (ds := psD ((ss.map (rotN n)).map rotG)) rfl hq ?_
      refine sj_nil ⟨some (dI (n : Int)), ?_, rfl⟩
      rw [rotN_map]
      rfl
  obtain ⟨y, rfl, rfl⟩ := hI
  have erot : ((v - 4) % 4).toNat = (v % 4).toNat := by omega
  have hrot : conv pts (ts.map (rotN ((v - 4) % 4).toNat)) = ss.map (rotN (v % 4).toNat) := by rw [conv_rot, hss, erot]
  refine sj_if (t := false) (tj_is (tj_neD (d := .list (psD (ss.map (rotN (v % 4).toNat)))) (d' := .list (psD (ss.map (rotN (v % 4).toNat)))) hr.units (ej_is (ej_callP GE (hr.mono (by decide)) (aj_cons (ej_callP GU hr2 (aj_cons (ej_name 2) (aj_cons (ej_name 9) aj_nil)) ⟨rfl, rfl, ts, v - 4, rfl, by omega, rfl⟩) (aj_cons (ej_name 4) aj_nil)) ⟨rfl, rfl, ts.map (rotN ((v - 4) % 4).toNat), pts, rfl, by simpa using lok.ne, fun t ht => ?_, by rw [List.length_map]; omega, rfl⟩) (by rw [hrot])) (ej_name 10) (.d _) (.d _) (pn_psL _).plain (pn_psL _).plain) ?_) (fun h => nomatch h) fun _ => sj_nil ?_
  · obtain ⟨t', ht', rfl⟩ := List.mem_map.mp ht
    exact inB_sm (rotN_in _ (lok.sm t' ht'))
  · rw [(pn_psL _).refl]
    rfl
  generalize PyData.list (psD (ss.map (rotN (v % 4).toNat))) = d10
  clear hrot
  -- places
  refine sj_own 12 nd (el_compRF 11 (z := (ss.length : Int)) (M1 := Sk p k5 c) (fun n => ((plF c n k5).map PyData.int).map It.d) (fun n => Sk p (kT c n k5) c) rfl T.b_range nd (ej_is (ej_lenL (ds := psD ss) T.b_len (ej_name 6)) (by rw [psD_len])) rfl rfl (by omega) (fun n hn => ?_)) fun q hq => ?_
  · refine ⟨decide (tkV c (kT c n k5) 3 = 0), Sk p (kT c (n + 1) k5) c, fun N' s H C cl fp => tj_eqI (ej_take (Mr := []) GT hr1 (ej_name 1) ej_int rfl (kT_pos c n _ kk5) (by decide)) ej_int, by simpa using plF_len c n k5, fun h => ⟨dI (n : Int), ?_, fun N' s H C cl fp => ej_name 11⟩, fun h => ⟨?_, rfl⟩⟩
    · show ((plF c n k5 ++ (if tkV c (kT c n k5) 3 = 0 then [(n : Int)] else [])).map PyData.int).map It.d = _
      rw [if_pos (of_decide_eq_true h), List.map_append, List.map_append]
      rfl
    · show ((plF c n k5 ++ (if tkV c (kT c n k5) 3 = 0 then [(n : Int)] else [])).map PyData.int).map It.d = _
      rw [if_neg (of_decide_eq_false h), List.append_nil]
  rw [Int.toNat_natCast]
  have klo := plF_lo c ss.length k5
  have kk6 := kT_pos c ss.length k5 kk5
  generalize plF c ss.length k5 = ks at klo ⊢
  generalize kT c ss.length k5 = k6 at kk6 ⊢
  refine sj_frzS 12 (ds := ks.map .int) rfl hq ?_
  refine sj_set (i := .d (.list (psD ss))) 13 nd (ej_el (el_listL T.b_list (ds := psD ss) (ej_name 6)) rfl) ?_
  refine sj_set (i := .d (.list (osD (lessF ks ss)))) 14 nd (ej_is (ej_callP GO hr1 (aj_cons (ej_name 13) (aj_cons (ej_name 12) aj_nil)) ⟨rfl, rfl, ss.map some, ks, by rw [← psD_os], by rw [List.length_map]; omega, rfl⟩) (by rw [loseN_less klo])) ?_
  refine sj_if (t := false) (tj_is (tj_w (wj_or (tj_neD hr.units (ej_name 13) (ej_name 6) (.d _) (.d _) (pn_psL _).plain (pn_psL _).plain) fun _ => wj_or1 (tj_neD (d := .list (osD (lessF ks ss))) (d' := .list (osD (lessF ks ss))) hr.units (ej_name 14) (ej_el (ds := osD (lessF ks ss)) (el_compR 11 (z := (ss.length : Int)) (M1 := Sk p k6 c) (fun n => (osD ((lessF ks ss).take n)).map It.d) (fun n => Sk p k6 c) rfl T.b_range nd (ej_is (ej_lenL (ds := psD ss) T.b_len (ej_name 6)) (by rw [psD_len])) rfl rfl (by omega) (fun n hn => ?_)) ?_) (.d _) (.d _) (pn_osD _).plain (pn_osD _).plain))) ?_) (fun h => nomatch h) fun _ => sj_nil ?_
  · obtain ⟨x, hx⟩ : ∃ x, ss[n]? = some x := ⟨_, List.getElem?_eq_getElem (by omega)⟩
    refine ⟨.d (optD (if inI (n : Int) ks = true then none else some x)), fr3 (lessF_get hx) optD, by simp [osD_len]; omega, fun N' s H C cl fp => ej_if (tj_inI (ej_name 11) (ej_name 12)) (fun h => ?_) fun h => ?_⟩
    · rw [if_pos h]
      exact ej_non
    · rw [if_neg (by rw [h]; decide)]
      exact ej_ixL (ds := psD ss) (ej_name 6) (ej_name 11) (psD_at hx)
  · rw [Int.toNat_natCast, List.take_of_length_le (by rw [lessF_len]; exact Nat.le_refl _)]
  · rw [(pn_psL _).refl, (pn_osD _).refl]
    rfl
  -- noise
  refine sj_setcompR 15 11 (z := (ss.length : Int)) (M1 := Sk p k6 c) (fun n => itG (ptsL c n k6)) (fun n => Sk p (kN c n k6) c) rfl T.b_range nd (ej_is (ej_lenL (ds := psD ss) T.b_len (ej_name 6)) (by rw [psD_len])) rfl rfl (by omega) (fun n hn => ⟨.d (pD (ptG c (kN c n k6))), itG_snoc _ _, by rw [itG_len, ptsL_len]; exact Nat.le_refl _, fun N' s H C cl fp => ej_call GP hr2 (aj_cons (ej_name 1) aj_nil) (Mc := Sk p (kN c n k6) c) (Mr := []) rfl ⟨p, _, c, rfl, rfl, kN_pos c n _ kk6, rfl, rfl⟩ rfl⟩) fun q hq => ?_
  rw [Int.toNat_natCast]
  have nl := ptsL_len c ss.length k6
  have nin := ptsL_in c ss.length k6
  have kk7 := kN_pos c ss.length k6 kk6
  generalize ptsL c ss.length k6 = nz at nl nin ⊢
  generalize kN c ss.length k6 = k7 at kk7 ⊢
  refine sj_frzS 15 (ds := psD nz) rfl hq ?_
  have dl := dueF_len (ks := ks) nl.symm
  refine sj_set (i := .d (.list (osD (dueF ks ss nz)))) 16 nd (ej_callX GX (hr.mono (by decide)) (aj_cons (ej_name 14) (aj_cons (ej_name 15) aj_nil)) (Mc := []) rfl ⟨rfl, rfl, lessF ks ss, nz, rfl, by rw [lessF_len, nl], by omega, rfl⟩ rfl) ?_
  refine sj_is (ρ' := [some (scr K a ns), some (.v (.ref p)), some (.d (lnD ts)), some (dI (m : Int)), some (.d (.list (psD pts))), some (.d (.list (psD oth))), some (.d (.list (psD ss))), some (.d d7), some (.d (.list (psD s2))), some (dI (v - 4)), some (.d d10), y, some (.d (.list (ks.map .int))), some (.d (.list (psD ss))), some (.d (.list (osD (lessF ks ss)))), some (.d (.list (psD nz))), some (.d (.list (osD (dueF ks ss nz)))), none, none, none, none]) (M' := Sk p k7 c) ?_ rfl rfl
  -- due
  refine sj_own (M1 := Sk p k7 c) 17 nd (el_disp aj_nil) fun q hq => ?_
  refine sj_nd fun hne => ?_
  have npq : p ≠ q := by simpa [Sk] using hne
  have put2 : ∀ (l l' : List Kt.It), (Sk p k7 c ++ [(q, l)]).put q l' = Sk p k7 c ++ [(q, l')] := fun l l' => by
    simp [Sk, Mem.put, npq]
  refine sj_set (i := dI 0) 18 nd ej_int ?_
  refine sj_forR (m := (ss.length : Int)) (M1 := Sk p k7 c ++ [(q, [])]) rfl T.b_range (ej_is (ej_lenL (ds := psD ss) T.b_len (ej_name 6)) (by rw [psD_len])) (by omega) (fun n ρ M => ∃ y, ρ = [some (scr K a ns), some (.v (.ref p)), some (.d (lnD ts)), some (dI (m : Int)), some (.d (.list (psD pts))), some (.d (.list (psD oth))), some (.d (.list (psD ss))), some (.d d7), some (.d (.list (psD s2))), some (dI (v - 4)), some (.d d10), y, some (.d (.list (ks.map .int))), some (.d (.list (psD ss))), some (.d (.list (osD (lessF ks ss)))), some (.d (.list (psD nz))), some (.d (.list (osD (dueF ks ss nz)))), some (.v (.ref q)), some (dI (totF ks (nz.take n))), none, none] ∧ M = Sk p k7 c ++ [(q, (osD ((dueF ks ss nz).take n)).map It.d)]) ⟨y, rfl, rfl⟩ (fun n ρ M hn hI => ?_) fun ρ M hI => ?_
  · obtain ⟨y, rfl, rfl⟩ := hI
    have nl2 : n < ss.length := by omega
    obtain ⟨x, hx⟩ : ∃ x, ss[n]? = some x := ⟨_, List.getElem?_eq_getElem (by omega)⟩
    obtain ⟨z, hz⟩ : ∃ z, nz[n]? = some z := ⟨_, List.getElem?_eq_getElem (by omega)⟩
    have zs := inK_sm (nin z (List.mem_of_getElem? hz))
    refine ⟨_, gj_name 11 nd, ?_⟩
    refine sj_append (p := q) (is := (osD ((dueF ks ss nz).take n)).map It.d) (is0 := (osD ((dueF ks ss nz).take n)).map It.d) (i := .d (optD (if inI (n : Int) ks = true then none else some (gadd x z)))) (M1 := Sk p k7 c ++ [(q, (osD ((dueF ks ss nz).take n)).map It.d)]) (ej_name 17) (List.mem_append_right _ (List.mem_singleton.mpr rfl)) (ej_if (tj_inI (ej_name 11) (ej_name 12)) (fun h => ?_) fun h => ?_) (List.mem_append_right _ (List.mem_singleton.mpr rfl)) (by rw [List.length_map, osD_len, List.length_take]; omega) ?_
    · rw [if_pos h]
      exact ej_non
    · rw [if_neg (by rw [h]; decide)]
      exact ej_tup (ds := [.int (x.1 + z.1), .int (x.2 + z.2)]) (aj_cons (ej_add (ej_ixT (ds := [.int x.1, .int x.2]) (ej_ixL (ds := psD ss) (ej_name 6) (ej_name 11) (psD_at hx)) ej_int (a0 x)) (ej_ixT (ds := [.int z.1, .int z.2]) (ej_ixL (ds := psD nz) (ej_name 15) (ej_name 11) (psD_at hz)) ej_int (a0 z))) (aj_cons (ej_add (ej_ixT (ds := [.int x.1, .int x.2]) (ej_ixL (ds := psD ss) (ej_name 6) (ej_name 11) (psD_at hx)) ej_int (a1 x)) (ej_ixT (ds := [.int z.1, .int z.2]) (ej_ixL (ds := psD nz) (ej_name 15) (ej_name 11) (psD_at hz)) ej_int (a1 z))) aj_nil)) rfl
    rw [put2]
    refine sj_set (i := dI (totF ks (nz.take n) + (if (!inI (n : Int) ks) = true then 1 else 0) * (z.1 ^ 2 + z.2 ^ 2))) 18 nd (ej_add (ej_name 18) (ej_mul (ej_intb T.b_int (ej_ninI (ej_name 11) (ej_name 12))) (ej_add (ej_pow (n := z.1) (m := 2) (ej_ixT (ds := [.int z.1, .int z.2]) (ej_ixL (ds := psD nz) (ej_name 15) (ej_name 11) (psD_at hz)) ej_int (a0 z)) ej_int ⟨by decide, by decide, by have := zs.1; omega⟩) (ej_pow (n := z.2) (m := 2) (ej_ixT (ds := [.int z.1, .int z.2]) (ej_ixL (ds := psD nz) (ej_name 15) (ej_name 11) (psD_at hz)) ej_int (a1 z)) ej_int ⟨by decide, by decide, by have := zs.2; omega⟩)) (.inl (by split <;> decide)))) ?_
    refine sj_nil ⟨some (dI (n : Int)), ?_, ?_⟩
    · rw [totF_take hz]
      rfl
    · unfold osD
      rw [fr3 (dueF_get hx hz) optD]
  obtain ⟨y2, rfl, rfl⟩ := hI
  rw [Int.toNat_natCast, List.take_of_length_le (show nz.length ≤ ss.length by omega), List.take_of_length_le (show (dueF ks ss nz).length ≤ ss.length by omega)]
  refine sj_frzS 17 (ds := osD (dueF ks ss nz)) rfl hq ?_
  have hcs : costG (dueF ks ss nz) ss = nsF ks 0 nz := cost_due nl.symm
  refine sj_if (t := false) (tj_is (tj_w (wj_or (tj_neD hr.units (ej_name 16) (ej_name 17) (.d _) (.d _) (pn_osD _).plain (pn_osD _).plain) fun _ => wj_or1 (tj_neI (n := totF ks nz) (m := totF ks nz) (ej_is (ej_callX GC (hr.mono (by decide)) (aj_cons (ej_name 16) (aj_cons (ej_name 6) aj_nil)) (Mc := []) rfl ⟨rfl, rfl, dueF ks ss nz, ss, rfl, dl, by omega, fun t ht => ?_, rfl⟩ rfl) (by rw [hcs]; rfl)) (ej_name 18)))) ?_) (fun h => nomatch h) fun _ => sj_nil ?_
  · rw [hcs] at ht
    exact inK_sm (nin t (nsF_sub ks nz 0 t ht))
  · rw [(pn_osD _).refl, decide_eq_true rfl]
    rfl
  have pns : ∀ z : Str, PyData.strOk z = true → PN 0 (.str z) := fun z h => .str z h
  refine sj_if (t := false) (tj_is (tj_w (wj_or (tj_neD (d := .str "noise") (d' := .str "noise") hr.units (ej_callP GQ (hr.mono (by decide)) (aj_cons ej_str (aj_cons (ej_name 6) aj_nil)) ⟨rfl, rfl, .inr (.inl ⟨psD ss, rfl, by rw [psD_len]; omega, rfl⟩)⟩) ej_str (.d _) (.d _) (pns _ (by decide +kernel)).plain (pns _ (by decide +kernel)).plain) fun _ => wj_or1 (tj_neD (d := .str "samples") (d' := .str "samples") hr.units (ej_callP GQ (hr.mono (by decide)) (aj_cons ej_str (aj_cons (ej_name 6) aj_nil)) ⟨rfl, rfl, .inr (.inr ⟨psD ss, rfl, by rw [psD_len]; omega, rfl⟩)⟩) ej_str (.d _) (.d _) (pns _ (by decide +kernel)).plain (pns _ (by decide +kernel)).plain))) ?_) (fun h => nomatch h) fun _ => sj_nil ?_
  · rw [(pns "noise" (by decide +kernel)).refl, (pns "samples" (by decide +kernel)).refl]
    rfl
  exact sj_ret (ej_call GF (hr.mono (by decide)) (aj_cons (ej_name 1) (aj_cons (ej_name 2) aj_nil)) (Mc := Sk p k7 c) (Mr := []) (sk_nil _ _ _).symm ⟨p, k7, c, ts, rfl, rfl, kk7, lok, rfl, rfl⟩ rfl) rfl
end

theorem all_mk {l : PySem.W.OpenLaw} {w : World} {K : PySem.W.Frag} {h : Heap} {mg : Str → Option Value} {fa : Addr} (X : K.In h) (G : h.Ns mainGlobals mg) (hfa : mg "law" = some (.ref fa))
    {Cs C0 fI : Addr} {nmS qS : Str} {NS : Addr} {bsS : List Value} {snS : List Str} {subS : List Value} {abS : Bool} {colS : Option Bool} {ddS : Option Addr} {m0 m1 m2 m3 m5 : Option Value} {odI anI : Option Addr} {slI : Array (Option Value)} {ocI kVI dcI pmI cdI ctI : Value}
    (eA : PySem.W.nsIn K mainGlobals "ShapeError" = some (some (.ref Cs))) (eB : PySem.W.nsIn K mainGlobals "HeardError" = some (some (.ref C0)))
    (eX : K.lookup Cs = some (excClassObj nmS qS Cs NS bsS [.ref C0, .type "ValueError", .type "Exception", .type "BaseException", .type "object"] true snS subS abS colS ddS m0 m1 m2 m3 m5 "ValueError.__new__"))
    (eS : PySem.W.findIn K (.ref Cs) "__setattr__" = some (some (.builtin "object.__setattr__"))) (eC : PySem.W.subIn K (.ref Cs) (.type "BaseException") = some true) (eT : PySem.W.typeIn K (.ref Cs) = some (.type "type")) (eK : PySem.W.keepIn K (.ref Cs) = true)
    (eI : PySem.W.findIn K (.ref Cs) "__init__" = some (some (.ref fI))) (eJ : PySem.W.typeIn K (.ref fI) = some (.type "function")) (eN : PySem.W.findIn K (.ref Cs) "name" = some none)
    (eP : PySem.W.specialIn K (.ref C0) "__getattribute__" = some (some (.builtin "type.__getattribute__"))) (eR : PySem.W.readsIn K C0 (.type "type") = true) (eV : PySem.W.findCls K (.ref C0) (.type "type") "__init__" = some (.val (.builtin "ValueError.__init__")))
    (eG : PySem.W.findIn K (.ref Cs) "__getattribute__" = some (some (.builtin "BaseException.__getattribute__"))) (eH : PySem.W.findIn K (.ref Cs) "__getattr__" = some none) (eD : PySem.W.hasDictIn K Cs = true) (eL : PySem.W.isClsIn K Cs = true) (eM : PySem.W.subIn K (.ref Cs) (.ref Cs) = some true)
    (eQ : K.lookup fI = some ⟨ocI, odI, .func (PySem.W.fnOf "__init__" "ShapeError.__init__" (defArgs s_init) (defBody s_init) (defScope s_init) .none kVI dcI pmI anI cdI ctI), slI⟩) (eU : PySem.W.codeIn K cdI "ShapeError.__init__" = true) (eW : PySem.W.keepIn K (.ref fI) = true)
    (iB : PySem.W.subIn K (.ref Cs) (.type "BaseException") = some true) (iC0 : PySem.W.findIn K (.ref Cs) "__class__" = some (some (.builtin "object.__class__"))) (iD : PySem.W.specialIn K (.builtin "object.__class__") "__get__" = some (some (.builtin "getset_descriptor.__get__"))) (iE : PySem.W.takesIn K (.builtin "object.__class__") = some true) (iF : PySem.W.mroIn K Cs (.type "object") = some true) (iG : PySem.W.kitOne K (.ref Cs) (.ref C0) = some true) (iH : PySem.W.kitOne K (.ref Cs) (.type "ValueError") = some true)
    {f0 : Addr} {od0 an0 : Option Addr} {sl0 : Array (Option Value)} {oc0 kV0 dc0 pm0 cd0 ct0 : Value}
    (a0 : PySem.W.nsIn K mainGlobals "is_integer" = some (some (.ref f0))) (l0 : K.lookup f0 = some ⟨oc0, od0, .func (PySem.W.fnOf "is_integer" "is_integer" (defArgs s_is_integer) (defBody s_is_integer) (defScope s_is_integer) .none kV0 dc0 pm0 an0 cd0 ct0), sl0⟩) (c0 : PySem.W.codeIn K cd0 "is_integer" = true) (k0 : PySem.W.keepIn K (.ref f0) = true)
    {f1 : Addr} {od1 an1 : Option Addr} {sl1 : Array (Option Value)} {oc1 kV1 dc1 pm1 cd1 ct1 : Value}
    (a1 : PySem.W.nsIn K mainGlobals "is_between" = some (some (.ref f1))) (l1 : K.lookup f1 = some ⟨oc1, od1, .func (PySem.W.fnOf "is_between" "is_between" (defArgs s_is_between) (defBody s_is_between) (defScope s_is_between) .none kV1 dc1 pm1 an1 cd1 ct1), sl1⟩) (c1 : PySem.W.codeIn K cd1 "is_between" = true) (k1 : PySem.W.keepIn K (.ref f1) = true)
    {f2 : Addr} {od2 an2 : Option Addr} {sl2 : Array (Option Value)} {oc2 kV2 dc2 pm2 cd2 ct2 : Value}
    (a2 : PySem.W.nsIn K mainGlobals "is_tuple" = some (some (.ref f2))) (l2 : K.lookup f2 = some ⟨oc2, od2, .func (PySem.W.fnOf "is_tuple" "is_tuple" (defArgs s_is_tuple) (defBody s_is_tuple) (defScope s_is_tuple) .none kV2 dc2 pm2 an2 cd2 ct2), sl2⟩) (c2 : PySem.W.codeIn K cd2 "is_tuple" = true) (k2 : PySem.W.keepIn K (.ref f2) = true)
    {f3 : Addr} {od3 an3 : Option Addr} {sl3 : Array (Option Value)} {oc3 kV3 dc3 pm3 cd3 ct3 : Value}
    (a3 : PySem.W.nsIn K mainGlobals "is_tuple_between" = some (some (.ref f3))) (l3 : K.lookup f3 = some ⟨oc3, od3, .func (PySem.W.fnOf "is_tuple_between" "is_tuple_between" (defArgs s_is_tuple_between) (defBody s_is_tuple_between) (defScope s_is_tuple_between) .none kV3 dc3 pm3 an3 cd3 ct3), sl3⟩) (c3 : PySem.W.codeIn K cd3 "is_tuple_between" = true) (k3 : PySem.W.keepIn K (.ref f3) = true)
    {f4 : Addr} {od4 an4 : Option Addr} {sl4 : Array (Option Value)} {oc4 kV4 dc4 pm4 cd4 ct4 : Value}
    (a4 : PySem.W.nsIn K mainGlobals "plus" = some (some (.ref f4))) (l4 : K.lookup f4 = some ⟨oc4, od4, .func (PySem.W.fnOf "plus" "plus" (defArgs s_plus) (defBody s_plus) (defScope s_plus) .none kV4 dc4 pm4 an4 cd4 ct4), sl4⟩) (c4 : PySem.W.codeIn K cd4 "plus" = true) (k4 : PySem.W.keepIn K (.ref f4) = true)
    {f5 : Addr} {od5 an5 : Option Addr} {sl5 : Array (Option Value)} {oc5 kV5 dc5 pm5 cd5 ct5 : Value}
    (a5 : PySem.W.nsIn K mainGlobals "minus" = some (some (.ref f5))) (l5 : K.lookup f5 = some ⟨oc5, od5, .func (PySem.W.fnOf "minus" "minus" (defArgs s_minus) (defBody s_minus) (defScope s_minus) .none kV5 dc5 pm5 an5 cd5 ct5), sl5⟩) (c5 : PySem.W.codeIn K cd5 "minus" = true) (k5 : PySem.W.keepIn K (.ref f5) = true)
    {f6 : Addr} {od6 an6 : Option Addr} {sl6 : Array (Option Value)} {oc6 kV6 dc6 pm6 cd6 ct6 : Value}
    (a6 : PySem.W.nsIn K mainGlobals "times" = some (some (.ref f6))) (l6 : K.lookup f6 = some ⟨oc6, od6, .func (PySem.W.fnOf "times" "times" (defArgs s_times) (defBody s_times) (defScope s_times) .none kV6 dc6 pm6 an6 cd6 ct6), sl6⟩) (c6 : PySem.W.codeIn K cd6 "times" = true) (k6 : PySem.W.keepIn K (.ref f6) = true)
    {f7 : Addr} {od7 an7 : Option Addr} {sl7 : Array (Option Value)} {oc7 kV7 dc7 pm7 cd7 ct7 : Value}
    (a7 : PySem.W.nsIn K mainGlobals "turned" = some (some (.ref f7))) (l7 : K.lookup f7 = some ⟨oc7, od7, .func (PySem.W.fnOf "turned" "turned" (defArgs s_turned) (defBody s_turned) (defScope s_turned) .none kV7 dc7 pm7 an7 cd7 ct7), sl7⟩) (c7 : PySem.W.codeIn K cd7 "turned" = true) (k7 : PySem.W.keepIn K (.ref f7) = true)
    {f8 : Addr} {od8 an8 : Option Addr} {sl8 : Array (Option Value)} {oc8 kV8 dc8 pm8 cd8 ct8 : Value}
    (a8 : PySem.W.nsIn K mainGlobals "size" = some (some (.ref f8))) (l8 : K.lookup f8 = some ⟨oc8, od8, .func (PySem.W.fnOf "size" "size" (defArgs s_size) (defBody s_size) (defScope s_size) .none kV8 dc8 pm8 an8 cd8 ct8), sl8⟩) (c8 : PySem.W.codeIn K cd8 "size" = true) (k8 : PySem.W.keepIn K (.ref f8) = true)
    {f9 : Addr} {od9 an9 : Option Addr} {sl9 : Array (Option Value)} {oc9 kV9 dc9 pm9 cd9 ct9 : Value}
    (a9 : PySem.W.nsIn K mainGlobals "total" = some (some (.ref f9))) (l9 : K.lookup f9 = some ⟨oc9, od9, .func (PySem.W.fnOf "total" "total" (defArgs s_total) (defBody s_total) (defScope s_total) .none kV9 dc9 pm9 an9 cd9 ct9), sl9⟩) (c9 : PySem.W.codeIn K cd9 "total" = true) (k9 : PySem.W.keepIn K (.ref f9) = true)
    {f10 : Addr} {od10 an10 : Option Addr} {sl10 : Array (Option Value)} {oc10 kV10 dc10 pm10 cd10 ct10 : Value}
    (a10 : PySem.W.nsIn K mainGlobals "check_line" = some (some (.ref f10))) (l10 : K.lookup f10 = some ⟨oc10, od10, .func (PySem.W.fnOf "check_line" "check_line" (defArgs s_check_line) (defBody s_check_line) (defScope s_check_line) .none kV10 dc10 pm10 an10 cd10 ct10), sl10⟩) (c10 : PySem.W.codeIn K cd10 "check_line" = true) (k10 : PySem.W.keepIn K (.ref f10) = true)
    {f11 : Addr} {od11 an11 : Option Addr} {sl11 : Array (Option Value)} {oc11 kV11 dc11 pm11 cd11 ct11 : Value}
    (a11 : PySem.W.nsIn K mainGlobals "reach" = some (some (.ref f11))) (l11 : K.lookup f11 = some ⟨oc11, od11, .func (PySem.W.fnOf "reach" "reach" (defArgs s_reach) (defBody s_reach) (defScope s_reach) .none kV11 dc11 pm11 an11 cd11 ct11), sl11⟩) (c11 : PySem.W.codeIn K cd11 "reach" = true) (k11 : PySem.W.keepIn K (.ref f11) = true)
    {f12 : Addr} {od12 an12 : Option Addr} {sl12 : Array (Option Value)} {oc12 kV12 dc12 pm12 cd12 ct12 : Value}
    (a12 : PySem.W.nsIn K mainGlobals "smeared" = some (some (.ref f12))) (l12 : K.lookup f12 = some ⟨oc12, od12, .func (PySem.W.fnOf "smeared" "smeared" (defArgs s_smeared) (defBody s_smeared) (defScope s_smeared) .none kV12 dc12 pm12 an12 cd12 ct12), sl12⟩) (c12 : PySem.W.codeIn K cd12 "smeared" = true) (k12 : PySem.W.keepIn K (.ref f12) = true)
    {f13 : Addr} {od13 an13 : Option Addr} {sl13 : Array (Option Value)} {oc13 kV13 dc13 pm13 cd13 ct13 : Value}
    (a13 : PySem.W.nsIn K mainGlobals "sent" = some (some (.ref f13))) (l13 : K.lookup f13 = some ⟨oc13, od13, .func (PySem.W.fnOf "sent" "sent" (defArgs s_sent) (defBody s_sent) (defScope s_sent) .none kV13 dc13 pm13 an13 cd13 ct13), sl13⟩) (c13 : PySem.W.codeIn K cd13 "sent" = true) (k13 : PySem.W.keepIn K (.ref f13) = true)
    {f14 : Addr} {od14 an14 : Option Addr} {sl14 : Array (Option Value)} {oc14 kV14 dc14 pm14 cd14 ct14 : Value}
    (a14 : PySem.W.nsIn K mainGlobals "turned_line" = some (some (.ref f14))) (l14 : K.lookup f14 = some ⟨oc14, od14, .func (PySem.W.fnOf "turned_line" "turned_line" (defArgs s_turned_line) (defBody s_turned_line) (defScope s_turned_line) .none kV14 dc14 pm14 an14 cd14 ct14), sl14⟩) (c14 : PySem.W.codeIn K cd14 "turned_line" = true) (k14 : PySem.W.keepIn K (.ref f14) = true)
    {f15 : Addr} {od15 an15 : Option Addr} {sl15 : Array (Option Value)} {oc15 kV15 dc15 pm15 cd15 ct15 : Value}
    (a15 : PySem.W.nsIn K mainGlobals "added" = some (some (.ref f15))) (l15 : K.lookup f15 = some ⟨oc15, od15, .func (PySem.W.fnOf "added" "added" (defArgs s_added) (defBody s_added) (defScope s_added) .none kV15 dc15 pm15 an15 cd15 ct15), sl15⟩) (c15 : PySem.W.codeIn K cd15 "added" = true) (k15 : PySem.W.keepIn K (.ref f15) = true)
    {f16 : Addr} {od16 an16 : Option Addr} {sl16 : Array (Option Value)} {oc16 kV16 dc16 pm16 cd16 ct16 : Value}
    (a16 : PySem.W.nsIn K mainGlobals "spoiled" = some (some (.ref f16))) (l16 : K.lookup f16 = some ⟨oc16, od16, .func (PySem.W.fnOf "spoiled" "spoiled" (defArgs s_spoiled) (defBody s_spoiled) (defScope s_spoiled) .none kV16 dc16 pm16 an16 cd16 ct16), sl16⟩) (c16 : PySem.W.codeIn K cd16 "spoiled" = true) (k16 : PySem.W.keepIn K (.ref f16) = true)
    {f17 : Addr} {od17 an17 : Option Addr} {sl17 : Array (Option Value)} {oc17 kV17 dc17 pm17 cd17 ct17 : Value}
    (a17 : PySem.W.nsIn K mainGlobals "lost" = some (some (.ref f17))) (l17 : K.lookup f17 = some ⟨oc17, od17, .func (PySem.W.fnOf "lost" "lost" (defArgs s_lost) (defBody s_lost) (defScope s_lost) .none kV17 dc17 pm17 an17 cd17 ct17), sl17⟩) (c17 : PySem.W.codeIn K cd17 "lost" = true) (k17 : PySem.W.keepIn K (.ref f17) = true)
    {f18 : Addr} {od18 an18 : Option Addr} {sl18 : Array (Option Value)} {oc18 kV18 dc18 pm18 cd18 ct18 : Value}
    (a18 : PySem.W.nsIn K mainGlobals "cost" = some (some (.ref f18))) (l18 : K.lookup f18 = some ⟨oc18, od18, .func (PySem.W.fnOf "cost" "cost" (defArgs s_cost) (defBody s_cost) (defScope s_cost) .none kV18 dc18 pm18 an18 cd18 ct18), sl18⟩) (c18 : PySem.W.codeIn K cd18 "cost" = true) (k18 : PySem.W.keepIn K (.ref f18) = true)
    {f19 : Addr} {od19 an19 : Option Addr} {sl19 : Array (Option Value)} {oc19 kV19 dc19 pm19 cd19 ct19 : Value}
    (a19 : PySem.W.nsIn K mainGlobals "_law_stream" = some (some (.ref f19))) (l19 : K.lookup f19 = some ⟨oc19, od19, .func (PySem.W.fnOf "_law_stream" "_law_stream" (defArgs s_law_stream) (defBody s_law_stream) (defScope s_law_stream) .none kV19 dc19 pm19 an19 cd19 ct19), sl19⟩) (c19 : PySem.W.codeIn K cd19 "_law_stream" = true) (k19 : PySem.W.keepIn K (.ref f19) = true)
    {f20 : Addr} {od20 an20 : Option Addr} {sl20 : Array (Option Value)} {oc20 kV20 dc20 pm20 cd20 ct20 : Value}
    (a20 : PySem.W.nsIn K mainGlobals "_law_take" = some (some (.ref f20))) (l20 : K.lookup f20 = some ⟨oc20, od20, .func (PySem.W.fnOf "_law_take" "_law_take" (defArgs s_law_take) (defBody s_law_take) (defScope s_law_take) .none kV20 dc20 pm20 an20 cd20 ct20), sl20⟩) (c20 : PySem.W.codeIn K cd20 "_law_take" = true) (k20 : PySem.W.keepIn K (.ref f20) = true)
    {f21 : Addr} {od21 an21 : Option Addr} {sl21 : Array (Option Value)} {oc21 kV21 dc21 pm21 cd21 ct21 : Value}
    (a21 : PySem.W.nsIn K mainGlobals "_law_point" = some (some (.ref f21))) (l21 : K.lookup f21 = some ⟨oc21, od21, .func (PySem.W.fnOf "_law_point" "_law_point" (defArgs s_law_point) (defBody s_law_point) (defScope s_law_point) .none kV21 dc21 pm21 an21 cd21 ct21), sl21⟩) (c21 : PySem.W.codeIn K cd21 "_law_point" = true) (k21 : PySem.W.keepIn K (.ref f21) = true)
    {f22 : Addr} {od22 an22 : Option Addr} {sl22 : Array (Option Value)} {oc22 kV22 dc22 pm22 cd22 ct22 : Value}
    (a22 : PySem.W.nsIn K mainGlobals "_law_line" = some (some (.ref f22))) (l22 : K.lookup f22 = some ⟨oc22, od22, .func (PySem.W.fnOf "_law_line" "_law_line" (defArgs s_law_line) (defBody s_law_line) (defScope s_law_line) .none kV22 dc22 pm22 an22 cd22 ct22), sl22⟩) (c22 : PySem.W.codeIn K cd22 "_law_line" = true) (k22 : PySem.W.keepIn K (.ref f22) = true)
    {f23 : Addr} {od23 an23 : Option Addr} {sl23 : Array (Option Value)} {oc23 kV23 dc23 pm23 cd23 ct23 : Value}
    (a23 : PySem.W.nsIn K mainGlobals "_law_sent" = some (some (.ref f23))) (l23 : K.lookup f23 = some ⟨oc23, od23, .func (PySem.W.fnOf "_law_sent" "_law_sent" (defArgs s_law_sent) (defBody s_law_sent) (defScope s_law_sent) .none kV23 dc23 pm23 an23 cd23 ct23), sl23⟩) (c23 : PySem.W.codeIn K cd23 "_law_sent" = true) (k23 : PySem.W.keepIn K (.ref f23) = true)
    {f24 : Addr} {od24 an24 : Option Addr} {sl24 : Array (Option Value)} {oc24 kV24 dc24 pm24 cd24 ct24 : Value}
    (a24 : PySem.W.nsIn K mainGlobals "_law_refused" = some (some (.ref f24))) (l24 : K.lookup f24 = some ⟨oc24, od24, .func (PySem.W.fnOf "_law_refused" "_law_refused" (defArgs s_law_refused) (defBody s_law_refused) (defScope s_law_refused) .none kV24 dc24 pm24 an24 cd24 ct24), sl24⟩) (c24 : PySem.W.codeIn K cd24 "_law_refused" = true) (k24 : PySem.W.keepIn K (.ref f24) = true)
    {f25 : Addr} {od25 an25 : Option Addr} {sl25 : Array (Option Value)} {oc25 kV25 dc25 pm25 cd25 ct25 : Value}
    (a25 : PySem.W.nsIn K mainGlobals "_law_faults_right" = some (some (.ref f25))) (l25 : K.lookup f25 = some ⟨oc25, od25, .func (PySem.W.fnOf "_law_faults_right" "_law_faults_right" (defArgs s_law_faults_right) (defBody s_law_faults_right) (defScope s_law_faults_right) .none kV25 dc25 pm25 an25 cd25 ct25), sl25⟩) (c25 : PySem.W.codeIn K cd25 "_law_faults_right" = true) (k25 : PySem.W.keepIn K (.ref f25) = true)
    {f26 : Addr} {od26 an26 : Option Addr} {sl26 : Array (Option Value)} {oc26 kV26 dc26 pm26 cd26 ct26 : Value}
    (a26 : PySem.W.nsIn K mainGlobals "law" = some (some (.ref f26))) (l26 : K.lookup f26 = some ⟨oc26, od26, .func (PySem.W.fnOf "law" "law" (defArgs s_law) (defBody s_law) (defScope s_law) .none kV26 dc26 pm26 an26 cd26 ct26), sl26⟩) (c26 : PySem.W.codeIn K cd26 "law" = true) (k26 : PySem.W.keepIn K (.ref f26) = true)
    (z_ValueError : PySem.W.nsIn K mainGlobals "ValueError" = some none)
    (z_abs : PySem.W.nsIn K mainGlobals "abs" = some none)
    (z_all : PySem.W.nsIn K mainGlobals "all" = some none)
    (z_bool : PySem.W.nsIn K mainGlobals "bool" = some none)
    (z_enumerate : PySem.W.nsIn K mainGlobals "enumerate" = some none)
    (z_int : PySem.W.nsIn K mainGlobals "int" = some none)
    (z_isinstance : PySem.W.nsIn K mainGlobals "isinstance" = some none)
    (z_len : PySem.W.nsIn K mainGlobals "len" = some none)
    (z_list : PySem.W.nsIn K mainGlobals "list" = some none)
    (z_range : PySem.W.nsIn K mainGlobals "range" = some none)
    (z_sum : PySem.W.nsIn K mainGlobals "sum" = some none)
    (z_tuple : PySem.W.nsIn K mainGlobals "tuple" = some none)
    (z_zip : PySem.W.nsIn K mainGlobals "zip" = some none)
    {t_LIMIT : Tok} (g_LIMIT : PySem.W.nsIn K mainGlobals "LIMIT" = some (some (.int 50 t_LIMIT)))
    : ∃ fd : FuncData, (∀ (s : Shared) (v : Value), BindsTo s fd ⟨[v], []⟩ [("script", v)]) ∧ ∀ base : Heap, K.In base → base.Ns mainGlobals mg → FnOk l.prog w K mg base CX0 8 fa fd ["script"] (spLaw K) := by
  have e := hfa.symm.trans (PySem.W.mg_of X G a26)
  cases e
  have T : Txt K mg := {
    err := ⟨Cs, C0, fI, _, { gS := PySem.W.mg_of X G eA, g0 := PySem.W.mg_of X G eB, oex := ⟨⟨nmS, qS, NS, bsS, _, snS, subS, abS, colS, ddS, m0, m1, m2, m3, m5, eX, by rfl⟩, eS, eC, eT, eK⟩, iC := eI, tI := eJ, no := eN, sp0 := eP, rd0 := eR, v0 := eV, te := PySem.W.exm_ref eC eD eT eM, ga := eG, gg := eH, hd := eD, fn := fun_mk (st := s_init) eQ eU eW, bi := (fun_mk (st := s_init) eQ eU eW).binds (ps := ["self", "name"]) fun _ _ _ _ _ _ us hl => match us, hl with | [_, _], _ => rfl }⟩
    ist := fun q => by
      cases q.gS.symm.trans (PySem.W.mg_of X G eA)
      cases q.g0.symm.trans (PySem.W.mg_of X G eB)
      exact ⟨eL, iB, iC0, iD, iE, iF, iG, iH⟩
    f_is_integer := ⟨_, _, fun_mk (st := s_is_integer) l0 c0 k0, PySem.W.mg_of X G a0, (fun_mk (st := s_is_integer) l0 c0 k0).binds (ps := ["thing"]) fun _ _ _ _ _ _ us hl => match us, hl with | [_], _ => rfl⟩
    f_is_between := ⟨_, _, fun_mk (st := s_is_between) l1 c1 k1, PySem.W.mg_of X G a1, (fun_mk (st := s_is_between) l1 c1 k1).binds (ps := ["thing", "low", "high"]) fun _ _ _ _ _ _ us hl => match us, hl with | [_, _, _], _ => rfl⟩
    f_is_tuple := ⟨_, _, fun_mk (st := s_is_tuple) l2 c2 k2, PySem.W.mg_of X G a2, (fun_mk (st := s_is_tuple) l2 c2 k2).binds (ps := ["thing", "many"]) fun _ _ _ _ _ _ us hl => match us, hl with | [_, _], _ => rfl⟩
    f_is_tuple_between := ⟨_, _, fun_mk (st := s_is_tuple_between) l3 c3 k3, PySem.W.mg_of X G a3, (fun_mk (st := s_is_tuple_between) l3 c3 k3).binds (ps := ["thing", "many", "low", "high"]) fun _ _ _ _ _ _ us hl => match us, hl with | [_, _, _, _], _ => rfl⟩
    f_plus := ⟨_, _, fun_mk (st := s_plus) l4 c4 k4, PySem.W.mg_of X G a4, (fun_mk (st := s_plus) l4 c4 k4).binds (ps := ["one", "other"]) fun _ _ _ _ _ _ us hl => match us, hl with | [_, _], _ => rfl⟩
    f_minus := ⟨_, _, fun_mk (st := s_minus) l5 c5 k5, PySem.W.mg_of X G a5, (fun_mk (st := s_minus) l5 c5 k5).binds (ps := ["one", "other"]) fun _ _ _ _ _ _ us hl => match us, hl with | [_, _], _ => rfl⟩
    f_times := ⟨_, _, fun_mk (st := s_times) l6 c6 k6, PySem.W.mg_of X G a6, (fun_mk (st := s_times) l6 c6 k6).binds (ps := ["one", "other"]) fun _ _ _ _ _ _ us hl => match us, hl with | [_, _], _ => rfl⟩
    f_turned := ⟨_, _, fun_mk (st := s_turned) l7 c7 k7, PySem.W.mg_of X G a7, (fun_mk (st := s_turned) l7 c7 k7).binds (ps := ["point", "quarters"]) fun _ _ _ _ _ _ us hl => match us, hl with | [_, _], _ => rfl⟩
    f_size := ⟨_, _, fun_mk (st := s_size) l8 c8 k8, PySem.W.mg_of X G a8, (fun_mk (st := s_size) l8 c8 k8).binds (ps := ["point"]) fun _ _ _ _ _ _ us hl => match us, hl with | [_], _ => rfl⟩
    f_total := ⟨_, _, fun_mk (st := s_total) l9 c9 k9, PySem.W.mg_of X G a9, (fun_mk (st := s_total) l9 c9 k9).binds (ps := ["points"]) fun _ _ _ _ _ _ us hl => match us, hl with | [_], _ => rfl⟩
    f_check_line := ⟨_, _, fun_mk (st := s_check_line) l10 c10 k10, PySem.W.mg_of X G a10, (fun_mk (st := s_check_line) l10 c10 k10).binds (ps := ["line"]) fun _ _ _ _ _ _ us hl => match us, hl with | [_], _ => rfl⟩
    f_reach := ⟨_, _, fun_mk (st := s_reach) l11 c11 k11, PySem.W.mg_of X G a11, (fun_mk (st := s_reach) l11 c11 k11).binds (ps := ["line"]) fun _ _ _ _ _ _ us hl => match us, hl with | [_], _ => rfl⟩
    f_smeared := ⟨_, _, fun_mk (st := s_smeared) l12 c12 k12, PySem.W.mg_of X G a12, (fun_mk (st := s_smeared) l12 c12 k12).binds (ps := ["taps", "points"]) fun _ _ _ _ _ _ us hl => match us, hl with | [_, _], _ => rfl⟩
    f_sent := ⟨_, _, fun_mk (st := s_sent) l13 c13 k13, PySem.W.mg_of X G a13, (fun_mk (st := s_sent) l13 c13 k13).binds (ps := ["line", "points"]) fun _ _ _ _ _ _ us hl => match us, hl with | [_, _], _ => rfl⟩
    f_turned_line := ⟨_, _, fun_mk (st := s_turned_line) l14 c14 k14, PySem.W.mg_of X G a14, (fun_mk (st := s_turned_line) l14 c14 k14).binds (ps := ["line", "quarters"]) fun _ _ _ _ _ _ us hl => match us, hl with | [_, _], _ => rfl⟩
    f_added := ⟨_, _, fun_mk (st := s_added) l15 c15 k15, PySem.W.mg_of X G a15, (fun_mk (st := s_added) l15 c15 k15).binds (ps := ["sample", "point"]) fun _ _ _ _ _ _ us hl => match us, hl with | [_, _], _ => rfl⟩
    f_spoiled := ⟨_, _, fun_mk (st := s_spoiled) l16 c16 k16, PySem.W.mg_of X G a16, (fun_mk (st := s_spoiled) l16 c16 k16).binds (ps := ["samples", "noise"]) fun _ _ _ _ _ _ us hl => match us, hl with | [_, _], _ => rfl⟩
    f_lost := ⟨_, _, fun_mk (st := s_lost) l17 c17 k17, PySem.W.mg_of X G a17, (fun_mk (st := s_lost) l17 c17 k17).binds (ps := ["samples", "places"]) fun _ _ _ _ _ _ us hl => match us, hl with | [_, _], _ => rfl⟩
    f_cost := ⟨_, _, fun_mk (st := s_cost) l18 c18 k18, PySem.W.mg_of X G a18, (fun_mk (st := s_cost) l18 c18 k18).binds (ps := ["samples", "points"]) fun _ _ _ _ _ _ us hl => match us, hl with | [_, _], _ => rfl⟩
    f_law_stream := ⟨_, _, fun_mk (st := s_law_stream) l19 c19 k19, PySem.W.mg_of X G a19, (fun_mk (st := s_law_stream) l19 c19 k19).binds (ps := ["script"]) fun _ _ _ _ _ _ us hl => match us, hl with | [_], _ => rfl⟩
    f_law_take := ⟨_, _, fun_mk (st := s_law_take) l20 c20 k20, PySem.W.mg_of X G a20, (fun_mk (st := s_law_take) l20 c20 k20).binds (ps := ["row", "many"]) fun _ _ _ _ _ _ us hl => match us, hl with | [_, _], _ => rfl⟩
    f_law_point := ⟨_, _, fun_mk (st := s_law_point) l21 c21 k21, PySem.W.mg_of X G a21, (fun_mk (st := s_law_point) l21 c21 k21).binds (ps := ["row"]) fun _ _ _ _ _ _ us hl => match us, hl with | [_], _ => rfl⟩
    f_law_line := ⟨_, _, fun_mk (st := s_law_line) l22 c22 k22, PySem.W.mg_of X G a22, (fun_mk (st := s_law_line) l22 c22 k22).binds (ps := ["row"]) fun _ _ _ _ _ _ us hl => match us, hl with | [_], _ => rfl⟩
    f_law_sent := ⟨_, _, fun_mk (st := s_law_sent) l23 c23 k23, PySem.W.mg_of X G a23, (fun_mk (st := s_law_sent) l23 c23 k23).binds (ps := ["line", "points"]) fun _ _ _ _ _ _ us hl => match us, hl with | [_, _], _ => rfl⟩
    f_law_refused := ⟨_, _, fun_mk (st := s_law_refused) l24 c24 k24, PySem.W.mg_of X G a24, (fun_mk (st := s_law_refused) l24 c24 k24).binds (ps := ["what", "thing"]) fun _ _ _ _ _ _ us hl => match us, hl with | [_, _], _ => rfl⟩
    f_law_faults_right := ⟨_, _, fun_mk (st := s_law_faults_right) l25 c25 k25, PySem.W.mg_of X G a25, (fun_mk (st := s_law_faults_right) l25 c25 k25).binds (ps := ["row", "line"]) fun _ _ _ _ _ _ us hl => match us, hl with | [_, _], _ => rfl⟩
    f_law := ⟨_, _, fun_mk (st := s_law) l26 c26 k26, PySem.W.mg_of X G a26, (fun_mk (st := s_law) l26 c26 k26).binds (ps := ["script"]) fun _ _ _ _ _ _ us hl => match us, hl with | [_], _ => rfl⟩
    b_ValueError := PySem.W.mg_none_of X G z_ValueError
    b_abs := PySem.W.mg_none_of X G z_abs
    b_all := PySem.W.mg_none_of X G z_all
    b_bool := PySem.W.mg_none_of X G z_bool
    b_enumerate := PySem.W.mg_none_of X G z_enumerate
    b_int := PySem.W.mg_none_of X G z_int
    b_isinstance := PySem.W.mg_none_of X G z_isinstance
    b_len := PySem.W.mg_none_of X G z_len
    b_list := PySem.W.mg_none_of X G z_list
    b_range := PySem.W.mg_none_of X G z_range
    b_sum := PySem.W.mg_none_of X G z_sum
    b_tuple := PySem.W.mg_none_of X G z_tuple
    b_zip := PySem.W.mg_none_of X G z_zip
    c_LIMIT := ⟨_, PySem.W.mg_of X G g_LIMIT⟩
  }
  have FL := fun_mk (st := s_law) l26 c26 k26
  exact ⟨_, fun s v => .of_eq rfl, fun base _ _ => ok_law FL T⟩
end K02
open PySem PySem.W PyProof.Rows
set_option maxHeartbeats 0 in
theorem PySem.Challenge.cw_heardtrue_k02_what_lines_do_holds : PySem.Challenge.rw_heardtrue_k02_what_lines_do.Holds := by
  w_on; o_law; k_head; (case hw => w_witness2)
  k_fill
  refine L2.walk_of (l := PySem.Challenge.rw_heardtrue_k02_what_lines_do) (n := 63) (k := 8) (x := "script") (CX := fun _ => L2.CX0) (sp := fun w => Kt.spLaw _) rfl (by decide) rfl ⟨rfl, by decide, by decide⟩ (fun w h Y => PySem.W.kIn_of Y) ?F (fun _ _ a ns hl _ hS => ⟨a, ns, rfl, hS, hl, fun _ => rfl⟩) (fun _ _ _ _ _ h => h)
  case F =>
    intro w mg fa h KX G hmg
    refine' K02.all_mk KX G hmg ?eA ?eB ?eX ?eS ?eC ?eT ?eK ?eI ?eJ ?eN ?eP ?eR ?eV ?eG ?eH ?eD ?eL ?eM ?eQ ?eU ?eW ?iB ?iC0 ?iD ?iE ?iF ?iG ?iH ?a0 ?l0 ?c0 ?k0 ?a1 ?l1 ?c1 ?k1 ?a2 ?l2 ?c2 ?k2 ?a3 ?l3 ?c3 ?k3 ?a4 ?l4 ?c4 ?k4 ?a5 ?l5 ?c5 ?k5 ?a6 ?l6 ?c6 ?k6 ?a7 ?l7 ?c7 ?k7 ?a8 ?l8 ?c8 ?k8 ?a9 ?l9 ?c9 ?k9 ?a10 ?l10 ?c10 ?k10 ?a11 ?l11 ?c11 ?k11 ?a12 ?l12 ?c12 ?k12 ?a13 ?l13 ?c13 ?k13 ?a14 ?l14 ?c14 ?k14 ?a15 ?l15 ?c15 ?k15 ?a16 ?l16 ?c16 ?k16 ?a17 ?l17 ?c17 ?k17 ?a18 ?l18 ?c18 ?k18 ?a19 ?l19 ?c19 ?k19 ?a20 ?l20 ?c20 ?k20 ?a21 ?l21 ?c21 ?k21 ?a22 ?l22 ?c22 ?k22 ?a23 ?l23 ?c23 ?k23 ?a24 ?l24 ?c24 ?k24 ?a25 ?l25 ?c25 ?k25 ?a26 ?l26 ?c26 ?k26 ?z_ValueError ?z_abs ?z_all ?z_bool ?z_enumerate ?z_int ?z_isinstance ?z_len ?z_list ?z_range ?z_sum ?z_tuple ?z_zip ?g_LIMIT
    (case eA => k_is); (case eB => k_is); (case eX => k_is); (case eS => k_is); (case eC => k_is); (case eT => k_is); (case eK => k_is); (case eI => k_is); (case eJ => k_is); (case eN => k_is); (case eP => k_is); (case eR => k_is); (case eV => k_is); (case eG => k_is); (case eH => k_is); (case eD => k_is); (case eL => k_is); (case eM => first | rfl | k_is); (case eQ => k_is); (case eU => k_is); (case eW => k_is); (case iB => k_is); (case iC0 => k_is); (case iD => k_is); (case iE => k_is); (case iF => k_is); (case iG => kit_is); (case iH => kit_is); (case a0 => k_is); (case l0 => k_is); (case c0 => k_is); (case k0 => k_is); (case a1 => k_is); (case l1 => k_is); (case c1 => k_is); (case k1 => k_is); (case a2 => k_is); (case l2 => k_is); (case c2 => k_is); (case k2 => k_is); (case a3 => k_is); (case l3 => k_is); (case c3 => k_is); (case k3 => k_is); (case a4 => k_is); (case l4 => k_is); (case c4 => k_is); (case k4 => k_is); (case a5 => k_is); (case l5 => k_is); (case c5 => k_is); (case k5 => k_is); (case a6 => k_is); (case l6 => k_is); (case c6 => k_is); (case k6 => k_is); (case a7 => k_is); (case l7 => k_is); (case c7 => k_is); (case k7 => k_is); (case a8 => k_is); (case l8 => k_is); (case c8 => k_is); (case k8 => k_is); (case a9 => k_is); (case l9 => k_is); (case c9 => k_is); (case k9 => k_is); (case a10 => k_is); (case l10 => k_is); (case c10 => k_is); (case k10 => k_is); (case a11 => k_is); (case l11 => k_is); (case c11 => k_is); (case k11 => k_is); (case a12 => k_is); (case l12 => k_is); (case c12 => k_is); (case k12 => k_is); (case a13 => k_is); (case l13 => k_is); (case c13 => k_is); (case k13 => k_is); (case a14 => k_is); (case l14 => k_is); (case c14 => k_is); (case k14 => k_is); (case a15 => k_is); (case l15 => k_is); (case c15 => k_is); (case k15 => k_is); (case a16 => k_is); (case l16 => k_is); (case c16 => k_is); (case k16 => k_is); (case a17 => k_is); (case l17 => k_is); (case c17 => k_is); (case k17 => k_is); (case a18 => k_is); (case l18 => k_is); (case c18 => k_is); (case k18 => k_is); (case a19 => k_is); (case l19 => k_is); (case c19 => k_is); (case k19 => k_is); (case a20 => k_is); (case l20 => k_is); (case c20 => k_is); (case k20 => k_is); (case a21 => k_is); (case l21 => k_is); (case c21 => k_is); (case k21 => k_is); (case a22 => k_is); (case l22 => k_is); (case c22 => k_is); (case k22 => k_is); (case a23 => k_is); (case l23 => k_is); (case c23 => k_is); (case k23 => k_is); (case a24 => k_is); (case l24 => k_is); (case c24 => k_is); (case k24 => k_is); (case a25 => k_is); (case l25 => k_is); (case c25 => k_is); (case k25 => k_is); (case a26 => k_is); (case l26 => k_is); (case c26 => k_is); (case k26 => k_is); (case z_ValueError => k_is); (case z_abs => k_is); (case z_all => k_is); (case z_bool => k_is); (case z_enumerate => k_is); (case z_int => k_is); (case z_isinstance => k_is); (case z_len => k_is); (case z_list => k_is); (case z_range => k_is); (case z_sum => k_is); (case z_tuple => k_is); (case z_zip => k_is); (case g_LIMIT => k_is)

