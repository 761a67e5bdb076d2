import PyProof.Rows.All
import PySem.Challenge.RW_heardtrue_k41_fewest_unseen
import HandS.ForMost
import HandS.CallLocal
import HandS.Conv
import HandS.ExcInit
import HandS.ExcIs
import HandS.FStr
import HandS.ForExc
import HandS.IsInst
import HandS.Iter
import HandS.RevRange
import HandS.SortKw
import HandS.Style
import HandS.Text
import HandS.TryOnly
import HandS.TupAny
import HandS.TupMul
import HandS.TupSets
import HandS.Walk
import HandS.Wide
import HandS.WideBits
import HandS.Zip
import KE.BitLaws
import KE.DataMinMax
import KE.DatumOrd
import KE.GoesEnum
import KE.GoesNew
import KE.KExcIs
import KE.OsArith
import PyProof.AutoSeq1
set_option Elab.async false
set_option linter.all false
set_option maxRecDepth 100000
set_option maxHeartbeats 40000000
/-! Kt: symbolic states over the hand layer. Slots and cells hold items: plain data (persistent), or a raw value. -/
namespace Kt
open PySem PySem.Spec PyProof.Rows L2

def Ex (H H' : Hp) : Prop := ∀ a o, H a = some o → H' a = some o
/-- an item: plain data; a raw value; a raw value of which something is true that stays true -/
inductive It where
  | d (x : PyData)
  | v (u : V)
  | m (u : V) (φ : Hp → Prop) (h : ∀ P P', Ex P P' → φ P → φ P')
abbrev Mem := List (Addr × List It)
abbrev Rho := List (Option It)

theorem Ex.refl (H : Hp) : Ex H H := fun _ _ h => h
theorem Ex.trans {H H1 H2 : Hp} (a : Ex H H1) (b : Ex H1 H2) : Ex H H2 := fun x o h => b x o (a x o h)
theorem Ex.new {H : Hp} {p : Addr} {o : HO} (h : H p = none) : Ex H (upd H p o) := fun a u e => by
  rw [upd_ne (ne_of_none e h)]
  exact e
theorem ex_rd {H H' : Hp} {a : Addr} {u : HO} (e : Ex H H') (h : Rd H a u) : Rd H' a u := by
  rcases h with h | ⟨o, h⟩
  · exact Or.inl (e a _ h)
  · exact Or.inr ⟨o, e a _ h⟩
theorem ex_l {K : PySem.W.Frag} {H H' : Hp} {a : Addr} {xs : List V} (e : Ex H H') (h : SqL K H a xs) : SqL K H' a xs := by
  rcases h with h | h
  · exact Or.inl (ex_rd e h)
  · exact Or.inr h
/-- all that is persistent stands; a dict perhaps under a lock -/
def ExW (P H : Hp) : Prop := ∀ a o, P a = some o → H a = some o ∨ ((∃ kvs, o = .dK kvs) ∧ ∃ od, H a = some (.frz od o))
theorem Ex.w {H H' : Hp} (e : Ex H H') : ExW H H' := fun a o h => .inl (e a o h)
theorem ExW.of {H H' : Hp} (e : ExW H H') {a : Addr} {o : HO} (h : H a = some o) (nd : ∀ kvs, o ≠ .dK kvs := by intro _ h; cases h) : H' a = some o := by
  rcases e a o h with k | ⟨⟨kvs, k⟩, _⟩
  · exact k
  · exact absurd k (nd kvs)
theorem ExW.rd {H H' : Hp} (e : ExW H H') {a : Addr} {kvs : List (Key × V)} (h : Rd H a (.dK kvs)) : Rd H' a (.dK kvs) := by
  rcases h with h | ⟨o, h⟩
  · rcases e a _ h with k | ⟨_, od, k⟩
    · exact .inl k
    · exact .inr ⟨od, k⟩
  · exact .inr ⟨o, e.of h⟩
theorem exw_l {K : PySem.W.Frag} {H H' : Hp} {a : Addr} {xs : List V} (e : ExW H H') (h : SqL K H a xs) : SqL K H' a xs := by
  rcases h with (h | ⟨o, h⟩) | h
  · exact .inl (.inl (e.of h))
  · exact .inl (.inr ⟨o, e.of h⟩)
  · exact .inr h
mutual
/-- plain data at any depth, tracked -/
inductive Dn (H : Hp) : V → PyData → Prop
  | non : Dn H .non .none
  | bl (b : Bool) : Dn H (.bl b) (.bool b)
  | int (i : Int) : Dn H (.int i) (.int i)
  | str (x : Str) : Dn H (.str x) (.str x)
  | lst {a : Addr} {xs : List V} {ds : List PyData} : H a = some (.lst xs) → DnAll H xs ds → Dn H (.ref a) (.list ds)
  | tup {a : Addr} {xs : List V} {ds : List PyData} : H a = some (.tup xs) → DnAll H xs ds → Dn H (.ref a) (.tuple ds)
  | dic {a : Addr} {kvs : List (Key × V)} {es : List (PyData × PyData)} : Rd H a (.dK kvs) → DnKV H kvs es → Dn H (.ref a) (.dict es)
inductive DnAll (H : Hp) : List V → List PyData → Prop
  | nil : DnAll H [] []
  | cons {v : V} {vs : List V} {d : PyData} {ds : List PyData} : Dn H v d → DnAll H vs ds → DnAll H (v :: vs) (d :: ds)
inductive DnKV (H : Hp) : List (Key × V) → List (PyData × PyData) → Prop
  | nil : DnKV H [] []
  | inl {i : Int} {v : V} {r : List (Key × V)} {d : PyData} {es : List (PyData × PyData)} : Dn H v d → DnKV H r es → DnKV H ((.inl i, v) :: r) ((.int i, d) :: es)
  | inr {x : Str} {v : V} {r : List (Key × V)} {d : PyData} {es : List (PyData × PyData)} : Dn H v d → DnKV H r es → DnKV H ((.inr x, v) :: r) ((.str x, d) :: es)
end
mutual
theorem dnw_ex {H H' : Hp} (e : ExW H H') : ∀ (d : PyData) (v : V), Dn H v d → Dn H' v d
  | .none, _, h => by cases h; exact .non
  | .bool b, _, h => by cases h; exact .bl b
  | .int i, _, h => by cases h; exact .int i
  | .str x, _, h => by cases h; exact .str x
  | .list ds, _, h => by
    cases h with
    | lst hs ha => exact .lst (e.of hs) (dnwAll_ex e ds _ ha)
  | .tuple ds, _, h => by
    cases h with
    | tup hs ha => exact .tup (e.of hs) (dnwAll_ex e ds _ ha)
  | .dict es, _, h => by
    cases h with
    | dic hs ha => exact .dic (e.rd hs) (dnwKV_ex e es _ ha)
theorem dnwAll_ex {H H' : Hp} (e : ExW H H') : ∀ (ds : List PyData) (vs : List V), DnAll H vs ds → DnAll H' vs ds
  | [], _, h => by cases h; exact .nil
  | d :: ds, _, h => by
    cases h with
    | cons h1 h2 => exact .cons (dnw_ex e d _ h1) (dnwAll_ex e ds _ h2)
theorem dnwKV_ex {H H' : Hp} (e : ExW H H') : ∀ (es : List (PyData × PyData)) (kvs : List (Key × V)), DnKV H kvs es → DnKV H' kvs es
  | [], _, h => by cases h; exact .nil
  | (k, d) :: es, _, h => by
    cases h with
    | inl h1 h2 => exact .inl (dnw_ex e d _ h1) (dnwKV_ex e es _ h2)
    | inr h1 h2 => exact .inr (dnw_ex e d _ h1) (dnwKV_ex e es _ h2)
end
theorem dn_ex {H H' : Hp} (e : Ex H H') (d : PyData) (v : V) (h : Dn H v d) : Dn H' v d := dnw_ex e.w d v h
theorem dnAll_ex {H H' : Hp} (e : Ex H H') (ds : List PyData) (vs : List V) (h : DnAll H vs ds) : DnAll H' vs ds := dnwAll_ex e.w ds vs h
theorem dnKV_ex {H H' : Hp} (e : Ex H H') (es : List (PyData × PyData)) (kvs : List (Key × V)) (h : DnKV H kvs es) : DnKV H' kvs es := dnwKV_ex e.w es kvs h
theorem dnAll_len {H : Hp} : ∀ {vs : List V} {ds : List PyData}, DnAll H vs ds → vs.length = ds.length
  | _, [], h => by cases h; rfl
  | _, d :: ds, h => by
    cases h with
    | cons h1 h2 => rw [List.length_cons, List.length_cons, dnAll_len h2]
theorem dnAll_get {H : Hp} : ∀ {vs : List V} {ds : List PyData} {i : Nat} {d : PyData}, DnAll H vs ds → ds[i]? = some d → ∃ v, vs[i]? = some v ∧ Dn H v d
  | _, [], i, d, h, e => by simp at e
  | _, x :: ds, 0, d, h, e => by
    cases h with
    | cons h1 h2 =>
      have e' : x = d := Option.some.inj e
      exact ⟨_, rfl, e' ▸ h1⟩
  | _, x :: ds, i + 1, d, h, e => by
    cases h with
    | cons h1 h2 =>
      obtain ⟨v, a, b⟩ := dnAll_get (i := i) h2 e
      exact ⟨v, a, b⟩
theorem DnAll.app {H : Hp} : ∀ {vs ws : List V} {ds es : List PyData}, DnAll H vs ds → DnAll H ws es → DnAll H (vs ++ ws) (ds ++ es)
  | _, _, _, _, .nil, h => h
  | _, _, _, _, .cons a b, h => .cons a (DnAll.app b h)
theorem DnAll.drop {H : Hp} : ∀ {vs : List V} {ds : List PyData} (n : Nat), DnAll H vs ds → DnAll H (vs.drop n) (ds.drop n)
  | _, _, 0, h => h
  | _, _, _ + 1, .nil => .nil
  | _, _, n + 1, .cons _ b => DnAll.drop n b
theorem DnAll.take {H : Hp} : ∀ {vs : List V} {ds : List PyData} (n : Nat), DnAll H vs ds → DnAll H (vs.take n) (ds.take n)
  | _, _, 0, _ => .nil
  | _, _, _ + 1, .nil => .nil
  | _, _, n + 1, .cons a b => .cons a (DnAll.take n b)
theorem DnAll.rep {H : Hp} {vs : List V} {ds : List PyData} (h : DnAll H vs ds) : ∀ n : Nat, DnAll H (List.replicate n vs).flatten (List.replicate n ds).flatten
  | 0 => .nil
  | n + 1 => h.app (DnAll.rep h n)
theorem DnAll.ints {H : Hp} : ∀ {vs : List V} {ns : List Int}, DnAll H vs (ns.map PyData.int) → vs = ns.map V.int
  | _, [], h => by cases h; rfl
  | _, n :: ns, h => by
    cases h with
    | cons a b =>
      cases a
      rw [DnAll.ints b]
      rfl
theorem DnAll.bools {H : Hp} : ∀ {vs : List V} {ns : List Bool}, DnAll H vs (ns.map PyData.bool) → vs = ns.map V.bl
  | _, [], h => by cases h; rfl
  | _, n :: ns, h => by
    cases h with
    | cons a b =>
      cases a
      rw [DnAll.bools b]
      rfl
/-! to the layer (no dicts) -/
mutual
def noDict : PyData → Bool
  | .dict _ => false
  | .list ds => noDicts ds
  | .tuple ds => noDicts ds
  | _ => true
def noDicts : List PyData → Bool
  | [] => true
  | d :: ds => noDict d && noDicts ds
end
mutual
theorem dp_of {K : PySem.W.Frag} {H : Hp} : ∀ (d : PyData) (v : V), noDict d = true → Dn H v d → Dp K H v d
  | .none, _, _, h => by cases h; exact .non
  | .bool b, _, _, h => by cases h; exact .bl b
  | .int i, _, _, h => by cases h; exact .int i
  | .str x, _, _, h => by cases h; exact .str x
  | .list ds, _, n, h => by
    cases h with
    | lst hs ha => exact .lst (.inl (.inl hs)) (dpAll_of ds _ n ha)
  | .tuple ds, _, n, h => by
    cases h with
    | tup hs ha => exact .tup (.inl (.inl hs)) (dpAll_of ds _ n ha)
  | .dict es, _, n, h => by cases n
theorem dpAll_of {K : PySem.W.Frag} {H : Hp} : ∀ (ds : List PyData) (vs : List V), noDicts ds = true → DnAll H vs ds → DpAll K H vs ds
  | [], _, _, h => by cases h; exact .nil
  | d :: ds, _, n, h => by
    cases h with
    | cons h1 h2 =>
      have n' := Bool.and_eq_true_iff.mp (show (noDict d && noDicts ds) = true from n)
      exact .cons (dp_of d _ n'.1 h1) (dpAll_of ds _ n'.2 h2)
end

/-! ### items -/
section
variable {P P' H H' : Hp}
def RepI (P : Hp) (v : V) : It → Prop
  | .d x => Dn P v x
  | .v u => v = u
  | .m u φ _ => v = u ∧ φ P
def RepIs (P : Hp) : List V → List It → Prop
  | [], [] => True
  | v :: vs, i :: is => RepI P v i ∧ RepIs P vs is
  | _, _ => False
theorem RepI.ex {v : V} {i : It} (e : Ex P P') (h : RepI P v i) : RepI P' v i := by
  cases i with
  | d x => exact dn_ex e x v h
  | v u => exact h
  | m u φ k => exact ⟨h.1, k _ _ e h.2⟩
theorem RepIs.ex (e : Ex P P') : ∀ {vs : List V} {is : List It}, RepIs P vs is → RepIs P' vs is
  | [], [], _ => trivial
  | v :: vs, i :: is, h => ⟨h.1.ex e, RepIs.ex e h.2⟩
  | [], _ :: _, h => h.elim
  | _ :: _, [], h => h.elim
theorem RepIs.len : ∀ {vs : List V} {is : List It}, RepIs P vs is → vs.length = is.length
  | [], [], _ => rfl
  | v :: vs, i :: is, h => by rw [List.length_cons, List.length_cons, RepIs.len h.2]
  | [], _ :: _, h => h.elim
  | _ :: _, [], h => h.elim
theorem RepIs.app : ∀ {vs ws : List V} {is js : List It}, RepIs P vs is → RepIs P ws js → RepIs P (vs ++ ws) (is ++ js)
  | [], _, [], _, _, h => h
  | v :: vs, _, i :: is, _, h, g => ⟨h.1, RepIs.app h.2 g⟩
  | [], _, _ :: _, _, h, _ => h.elim
  | _ :: _, _, [], _, h, _ => h.elim
theorem RepIs.get : ∀ {vs : List V} {is : List It} {n : Nat} {i : It}, RepIs P vs is → is[n]? = some i → ∃ v, vs[n]? = some v ∧ RepI P v i
  | [], [], _, _, _, e => by simp at e
  | v :: vs, j :: is, 0, i, h, e => by
    have e' : j = i := Option.some.inj e
    exact ⟨v, rfl, e' ▸ h.1⟩
  | v :: vs, j :: is, n + 1, i, h, e => RepIs.get (vs := vs) (is := is) (n := n) h.2 e
  | [], _ :: _, _, _, h, _ => h.elim
  | _ :: _, [], _, _, h, _ => h.elim
theorem RepIs.set {v : V} {i : It} (r : RepI P v i) : ∀ {vs : List V} {is : List It} (n : Nat), RepIs P vs is → RepIs P (vs.set n v) (is.set n i)
  | [], [], _, _ => trivial
  | _ :: _, _ :: _, 0, h => ⟨r, h.2⟩
  | _ :: _, _ :: _, n + 1, h => ⟨h.1, RepIs.set r n h.2⟩
  | [], _ :: _, _, h => h.elim
  | _ :: _, [], _, h => h.elim
theorem RepIs.of_all : ∀ {vs : List V} {ds : List PyData}, DnAll P vs ds → RepIs P vs (ds.map It.d)
  | _, [], h => by cases h; trivial
  | _, d :: ds, h => by
    cases h with
    | cons h1 h2 => exact ⟨h1, RepIs.of_all h2⟩
theorem RepIs.to_all : ∀ {vs : List V} {ds : List PyData}, RepIs P vs (ds.map It.d) → DnAll P vs ds
  | [], [], _ => .nil
  | v :: vs, d :: ds, h => .cons h.1 (RepIs.to_all h.2)
  | [], _ :: _, h => h.elim
  | _ :: _, [], h => h.elim
end

/-! ### what stands at a point: entry facts, slots, cells -/
structure Ent where
  P0 : Hp
  H0 : Hp
  F : List Addr
/-- no dict is under a lock -/
def NzD (H : Hp) : Prop := ∀ a od kvs, H a ≠ some (.frz od (.dK kvs))
theorem NzD.new {H : Hp} (h : NzD H) {p : Addr} {o : HO} (nf : ∀ od kvs, o ≠ .frz od (.dK kvs)) : NzD (upd H p o) := fun a od kvs e => by
  by_cases ea : a = p
  · subst ea
    rw [upd_same] at e
    exact nf od kvs (Option.some.inj e)
  · rw [upd_ne ea] at e
    exact h a od kvs e
structure Holds (N : Ent) (P H : Hp) (M : Mem) : Prop where
  exw : ExW P H
  ex0 : Ex N.P0 P
  fr : ∀ b o, N.H0 b = some o → b ∉ N.F → H b = some o
  nw : ∀ b, N.P0 b = none → P b ≠ none → N.H0 b = none
  mem : ∀ c ∈ M, P c.1 = none ∧ ∃ xs, H c.1 = some (.lst xs) ∧ RepIs P xs c.2
  nd : (M.map Prod.fst).Nodup
  mf : ∀ a ∈ N.F, a ∈ M.map Prod.fst
  fs : ∀ c ∈ M, c.1 ∈ N.F ∨ N.H0 c.1 = none
  uf : ∀ a od kvs, H a = some (.frz od (.dK kvs)) → N.H0 a = some (.frz od (.dK kvs))
  pf : NzD P
theorem Holds.ex {N : Ent} {P H : Hp} {M : Mem} (h : Holds N P H M) (a : Addr) (o : HO) (e : P a = some o) (nd : ∀ kvs, o ≠ .dK kvs := by intro _ h; cases h) : H a = some o := by
  rcases h.exw a o e with k | ⟨⟨kvs, k⟩, _⟩
  · exact k
  · exact absurd k (nd kvs)
theorem Holds.no {N : Ent} {P H : Hp} {M : Mem} (h : Holds N P H M) {p : Addr} (hp : H p = none) : P p = none := by
  cases e : P p with
  | none => rfl
  | some u =>
    rcases h.exw p u e with k | ⟨_, od, k⟩
    · rw [hp] at k; cases k
    · rw [hp] at k; cases k
theorem Holds.ufu {N : Ent} {P H : Hp} {M : Mem} (h : Holds N P H M) {p : Addr} {o : HO} (nf : ∀ od kvs, o ≠ .frz od (.dK kvs)) (a : Addr) (od : Obj) (u : List (Key × V)) (e : upd H p o a = some (.frz od (.dK u))) : N.H0 a = some (.frz od (.dK u)) := by
  by_cases ea : a = p
  · subst ea
    rw [upd_same] at e
    exact absurd (Option.some.inj e) (nf od u)
  · rw [upd_ne ea] at e
    exact h.uf a od u e
def Slots (P : Hp) (σ : L2.St) (ρ : Rho) : Prop :=
  σ.length = ρ.length ∧ ∀ (i : Nat) it, ρ[i]? = some (some it) → ∃ v, σ[i]? = some (some v) ∧ RepI P v it

section
variable {N : Ent} {P P' H H' : Hp} {M : Mem} {σ : L2.St} {ρ : Rho}
theorem Slots.ex (e : Ex P P') (h : Slots P σ ρ) : Slots P' σ ρ := ⟨h.1, fun i it q => by
  obtain ⟨v, a, b⟩ := h.2 i it q
  exact ⟨v, a, b.ex e⟩⟩
theorem Slots.set {v : V} {it : It} (r : RepI P v it) (i : Nat) (h : Slots P σ ρ) : Slots P (σ.set i (some v)) (ρ.set i (some it)) := by
  refine ⟨by rw [List.length_set, List.length_set]; exact h.1, fun j jt q => ?_⟩
  by_cases e : i = j
  · subst e
    by_cases l : i < ρ.length
    · rw [List.getElem?_set_self l] at q
      cases Option.some.inj q
      exact ⟨v, List.getElem?_set_self (h.1 ▸ l), r⟩
    · rw [List.getElem?_eq_none (by rw [List.length_set]; omega)] at q
      cases q
  · rw [List.getElem?_set_ne e] at q ⊢
    exact h.2 j jt q
theorem Slots.unset (i : Nat) (h : Slots P σ ρ) (x : Option V) : Slots P (σ.set i x) (ρ.set i none) := by
  refine ⟨by rw [List.length_set, List.length_set]; exact h.1, fun j jt q => ?_⟩
  by_cases e : i = j
  · subst e
    by_cases l : i < ρ.length
    · rw [List.getElem?_set_self l] at q
      cases Option.some.inj q
    · rw [List.getElem?_eq_none (by rw [List.length_set]; omega)] at q
      cases q
  · rw [List.getElem?_set_ne e] at q ⊢
    exact h.2 j jt q
/-- fewer slots known -/
theorem Slots.weak {ρ' : Rho} (h : Slots P σ ρ) (hl : ρ'.length = ρ.length) (w : ∀ (i : Nat) (it : It), ρ'[i]? = some (some it) → ρ[i]? = some (some it)) : Slots P σ ρ' :=
  ⟨h.1.trans hl.symm, fun i it q => h.2 i it (w i it q)⟩
theorem Holds.cell (h : Holds N P H M) {a : Addr} {its : List It} (hm : (a, its) ∈ M) : ∃ xs, H a = some (.lst xs) ∧ RepIs P xs its := (h.mem _ hm).2
/-- a new persistent object -/
theorem Holds.pers (h : Holds N P H M) {p : Addr} {o : HO} (hp : H p = none) (nf : ∀ od kvs, o ≠ .frz od (.dK kvs) := by intro _ _ h; cases h) : Holds N (upd P p o) (upd H p o) M ∧ Ex P (upd P p o) := by
  have pn : P p = none := h.no hp
  have h0 : N.H0 p = none ∨ p ∈ N.F := by
    by_cases f : p ∈ N.F
    · exact .inr f
    · refine .inl ?_
      cases e : N.H0 p with
      | none => rfl
      | some u => rw [h.fr p u e f] at hp; cases hp
  have np : p ∉ N.F := fun f => by
    obtain ⟨c, hc, e⟩ := List.mem_map.mp (h.mf p f)
    obtain ⟨xs, e1, _⟩ := (h.mem c hc).2
    rw [e, hp] at e1
    cases e1
  have q : Ex P (upd P p o) := Ex.new pn
  refine ⟨⟨fun a u e => ?_, h.ex0.trans q, fun b u e f => ?_, fun b e f => ?_, fun c hc => ?_, h.nd, h.mf, h.fs, fun a od u e => ?_, h.pf.new nf⟩, q⟩
  · by_cases ea : a = p
    · subst ea
      rw [upd_same] at e ⊢
      exact .inl e
    · rw [upd_ne ea] at e ⊢
      exact h.exw a u e
  · have := h.fr b u e f
    rw [upd_ne (ne_of_none this hp)]
    exact this
  · by_cases eb : b = p
    · subst eb
      rcases h0 with h0 | h0
      · exact h0
      · exact absurd h0 np
    · rw [upd_ne eb] at f
      exact h.nw b e f
  · obtain ⟨a1, xs, a2, a3⟩ := h.mem c hc
    have ne : c.1 ≠ p := ne_of_none a2 hp
    exact ⟨by rw [upd_ne ne]; exact a1, xs, by rw [upd_ne ne]; exact a2, a3.ex q⟩
  · exact h.ufu nf a od u e
/-- a new own list -/
theorem Holds.own (h : Holds N P H M) {p : Addr} {xs : List V} {its : List It} (hp : H p = none) (r : RepIs P xs its) : Holds N P (upd H p (.lst xs)) (M ++ [(p, its)]) := by
  have pn : P p = none := h.no hp
  have np : p ∉ M.map Prod.fst := fun f => by
    obtain ⟨c, hc, e⟩ := List.mem_map.mp f
    obtain ⟨xs, e1, _⟩ := (h.mem c hc).2
    rw [e, hp] at e1
    cases e1
  have h0 : N.H0 p = none := by
    cases e : N.H0 p with
    | none => rfl
    | some u => rw [h.fr p u e (fun f => np (h.mf p f))] at hp; cases hp
  refine ⟨fun a u e => ?_, h.ex0, fun b u e f => ?_, h.nw, fun c hc => ?_, ?_, fun a ha => ?_, fun c hc => ?_, h.ufu (o := .lst xs) (fun _ _ h => by cases h), h.pf⟩
  · rw [upd_ne (ne_of_none e pn)]
    exact h.exw a u e
  · have := h.fr b u e f
    rw [upd_ne (ne_of_none this hp)]
    exact this
  · rcases List.mem_append.mp hc with hc | hc
    · obtain ⟨a1, xs, a2, a3⟩ := h.mem c hc
      have ne : c.1 ≠ p := ne_of_none a2 hp
      exact ⟨a1, xs, by rw [upd_ne ne]; exact a2, a3⟩
    · cases List.mem_singleton.mp hc
      exact ⟨pn, xs, upd_same, r⟩
  · rw [List.map_append]
    refine List.nodup_append.mpr ⟨h.nd, by simp, fun a ha b hb => ?_⟩
    simp at hb
    subst hb
    exact fun e => np (e ▸ ha)
  · rw [List.map_append]
    exact List.mem_append_left _ (h.mf a ha)
  · rcases List.mem_append.mp hc with hc | hc
    · exact h.fs c hc
    · cases List.mem_singleton.mp hc
      exact .inr h0
def Mem.put (M : Mem) (a : Addr) (its : List It) : Mem := M.map fun c => if c.1 = a then (a, its) else c
theorem put_fst (M : Mem) (a : Addr) (its : List It) : (M.put a its).map Prod.fst = M.map Prod.fst := by
  unfold Mem.put
  rw [List.map_map]
  refine List.map_congr_left fun c _ => ?_
  show (if c.1 = a then (a, its) else c).1 = c.1
  by_cases e : c.1 = a
  · rw [if_pos e]; exact e.symm
  · rw [if_neg e]
/-- an own list changes -/
theorem Holds.write (h : Holds N P H M) {a : Addr} {its its' : List It} {xs' : List V} (hm : (a, its) ∈ M) (r : RepIs P xs' its') : Holds N P (upd H a (.lst xs')) (M.put a its') := by
  have an : P a = none := (h.mem _ hm).1
  refine ⟨fun b u e => ?_, h.ex0, fun b u e f => ?_, h.nw, fun c hc => ?_, by rw [put_fst]; exact h.nd, fun b hb => by rw [put_fst]; exact h.mf b hb, fun c hc => ?_, h.ufu (o := .lst xs') (fun _ _ h => by cases h), h.pf⟩
  · rw [upd_ne (ne_of_none e an)]
    exact h.exw b u e
  · have ne : b ≠ a := fun z => by
      subst z
      rcases h.fs _ hm with k | k
      · exact f k
      · rw [show N.H0 b = none from k] at e; cases e
    rw [upd_ne ne]
    exact h.fr b u e f
  · obtain ⟨c0, hc0, e⟩ := List.mem_map.mp hc
    by_cases q : c0.1 = a
    · rw [if_pos q] at e
      subst e
      exact ⟨an, xs', upd_same, r⟩
    · rw [if_neg q] at e
      subst e
      obtain ⟨a1, xs, a2, a3⟩ := h.mem c0 hc0
      exact ⟨a1, xs, by rw [upd_ne q]; exact a2, a3⟩
  · obtain ⟨c0, hc0, e⟩ := List.mem_map.mp hc
    by_cases q : c0.1 = a
    · rw [if_pos q] at e
      subst e
      exact h.fs (a, its) hm
    · rw [if_neg q] at e
      subst e
      exact h.fs c0 hc0
/-- cells forgotten, others in another order -/
theorem Holds.sub (h : Holds N P H M) {M' : Mem} (s : ∀ c ∈ M', c ∈ M) (nd : (M'.map Prod.fst).Nodup) (mf : ∀ a ∈ N.F, a ∈ M'.map Prod.fst) : Holds N P H M' :=
  ⟨h.exw, h.ex0, h.fr, h.nw, fun c hc => h.mem c (s c hc), nd, mf, fun c hc => h.fs c (s c hc), h.uf, h.pf⟩
/-- an own list of data becomes persistent -/
theorem Holds.freeze (h : Holds N P H M) {a : Addr} {ds : List PyData} (hm : (a, ds.map It.d) ∈ M) (hf : a ∉ N.F) :
    ∃ P', Ex P P' ∧ Dn P' (.ref a) (.list ds) ∧ Holds N P' H (M.filter fun c => decide (c.1 ≠ a)) := by
  obtain ⟨an, xs, e, r⟩ := h.mem _ hm
  have q : Ex P (upd P a (.lst xs)) := Ex.new an
  refine ⟨upd P a (.lst xs), q, .lst upd_same (dnAll_ex q _ _ r.to_all), fun b u z => ?_, h.ex0.trans q, h.fr, fun b z f => ?_, fun c hc => ?_, ?_, fun b hb => ?_, fun c hc => h.fs c (List.mem_filter.mp hc).1, h.uf, h.pf.new (o := .lst xs) (fun _ _ h => by cases h)⟩
  · by_cases eb : b = a
    · subst eb
      rw [upd_same] at z
      rw [← z]
      exact .inl e
    · rw [upd_ne eb] at z
      exact h.exw b u z
  · by_cases eb : b = a
    · subst eb
      rcases h.fs _ hm with k | k
      · exact absurd k hf
      · exact k
    · rw [upd_ne eb] at f
      exact h.nw b z f
  · obtain ⟨hc, ne⟩ := List.mem_filter.mp hc
    have ne : c.1 ≠ a := of_decide_eq_true ne
    obtain ⟨a1, ys, a2, a3⟩ := h.mem c hc
    exact ⟨by rw [upd_ne ne]; exact a1, ys, a2, a3.ex q⟩
  · exact (h.nd.sublist ((List.filter_sublist (l := M)).map _))
  · obtain ⟨c, hc, e⟩ := List.mem_map.mp (h.mf b hb)
    refine List.mem_map.mpr ⟨c, List.mem_filter.mpr ⟨hc, decide_eq_true fun z => hf ?_⟩, e⟩
    rw [← z, e]
    exact hb
end
end Kt

namespace Kt
open PySem PySem.Spec PyProof.Rows L2

/-! ### what an expression, a test, arguments, a statement need, canonically -/
def wE (X : Cx) (e : Expr) : TE := fun σ H Q => ∀ pins s, Inv X pins σ H s → wpAny (model X.prog X.w) X.A (eval e X.env) (EP X pins σ Q) X.xe s
def wT (X : Cx) (e : Expr) : TT := fun σ H Q => ∀ pins s, Inv X pins σ H s → wpAny (model X.prog X.w) X.A (isTrue e X.env (eval e X.env)) (TP X pins σ Q) X.xe s
def wW (X : Cx) (e : Expr) : TT := fun σ H Q => ∀ (whole : Sem Value) pins s, Inv X pins σ H s → wpAny (model X.prog X.w) X.A (isTrue e X.env whole) (TP X pins σ Q) X.xe s
def wA (X : Cx) (es : List Expr) : TA := fun σ H Q => ∀ (pos : Pos) pins s, Inv X pins σ H s → wpAny (model X.prog X.w) X.A (spliced (backTo pos (starEach es X.env))) (AP X pins σ Q) X.xe s
def wS (X : Cx) (st : Stmt) : TS := fun D σ H => ∀ pins s, Inv X pins σ H s → wpAny (model X.prog X.w) X.A (exec st X.env) (SP X pins D) X.xe s
def wSs (X : Cx) (st : List Stmt) : TS := fun D σ H => ∀ pins s, Inv X pins σ H s → wpAny (model X.prog X.w) X.A (execs st X.env) (SP X pins D) X.xe s
def wG (X : Cx) (tg : Expr) : TG := fun v σ H Q => ∀ pins s (u : Value), Inv X pins σ H s → RelV v u → wpAny (model X.prog X.w) X.A (assign tg X.env u) (fun _ s' => ∃ σ' H', Inv X pins σ' H' s' ∧ Q σ' H') X.xe s
section
variable {X : Cx}
theorem pe_w {e : Expr} : PE X e (wE X e) := ⟨fun pins s σ H Q I h => h pins s I⟩
theorem pt_w {e : Expr} : PT X e (wT X e) := ⟨fun pins s σ H Q I h => h pins s I⟩
theorem pw_w {e : Expr} : PW X e (wW X e) := ⟨fun wh pins s σ H Q I h => h wh pins s I⟩
theorem pa_w {es : List Expr} : PA X es (wA X es) := ⟨fun pos pins s σ H Q I h => h pos pins s I⟩
theorem ps_w {st : Stmt} : PS X st (wS X st) := ⟨fun pins s σ H D I h => h pins s I⟩
theorem pss_w {st : List Stmt} : PSs X st (wSs X st) := ⟨fun pins s σ H D I h => h pins s I⟩
theorem pg_w {tg : Expr} : PG X tg (wG X tg) := ⟨fun pins s σ H v u Q I r h => h pins s u I r⟩
theorem e_of {e : Expr} {t : TE} (h : PE X e t) {σ : L2.St} {H : Hp} {Q : VK} (q : t σ H Q) : wE X e σ H Q := fun pins s I => h.run pins s σ H Q I q
theorem t_of {e : Expr} {t : TT} (h : PT X e t) {σ : L2.St} {H : Hp} {Q : Bool → Hp → Prop} (q : t σ H Q) : wT X e σ H Q := fun pins s I => h.run pins s σ H Q I q
theorem w_of {e : Expr} {t : TT} (h : PW X e t) {σ : L2.St} {H : Hp} {Q : Bool → Hp → Prop} (q : t σ H Q) : wW X e σ H Q := fun wh pins s I => h.run wh pins s σ H Q I q
theorem a_of {es : List Expr} {t : TA} (h : PA X es t) {σ : L2.St} {H : Hp} {Q : List V → Hp → Prop} (q : t σ H Q) : wA X es σ H Q := fun pos pins s I => h.run pos pins s σ H Q I q
theorem s_of {st : Stmt} {t : TS} (h : PS X st t) {σ : L2.St} {H : Hp} {D : Ends} (q : t D σ H) : wS X st D σ H := fun pins s I => h.run pins s σ H D I q
theorem ss_of {st : List Stmt} {t : TS} (h : PSs X st t) {σ : L2.St} {H : Hp} {D : Ends} (q : t D σ H) : wSs X st D σ H := fun pins s I => h.run pins s σ H D I q
theorem g_of {tg : Expr} {t : TG} (h : PG X tg t) {v : V} {σ : L2.St} {H : Hp} {Q : L2.St → Hp → Prop} (q : t v σ H Q) : wG X tg v σ H Q := fun pins s u I r => h.run pins s σ H v u Q I r q
end

/-! ### judgements over symbolic states -/
def EJ (X : Cx) (N : Ent) (ρ : Rho) (M : Mem) (e : Expr) (i : It) (M' : Mem) : Prop :=
  ∀ σ H P, Holds N P H M → Slots P σ ρ → ∀ Q : VK, (∀ v H' P', Ex P P' → Holds N P' H' M' → RepI P' v i → Q v H') → wE X e σ H Q
/-- e gives a new list of these items -/
def EL (X : Cx) (N : Ent) (ρ : Rho) (M : Mem) (e : Expr) (is : List It) (M' : Mem) : Prop :=
  ∀ σ H P, Holds N P H M → Slots P σ ρ → ∀ Q : VK, (∀ p H' P', Ex P P' → p ∉ N.F → Holds N P' H' (M' ++ [(p, is)]) → Q (.ref p) H') → wE X e σ H Q
def TJ (X : Cx) (N : Ent) (ρ : Rho) (M : Mem) (e : Expr) (b : Bool) (M' : Mem) : Prop :=
  ∀ σ H P, Holds N P H M → Slots P σ ρ → ∀ Q : Bool → Hp → Prop, (∀ H' P', Ex P P' → Holds N P' H' M' → Q b H') → wT X e σ H Q
def WJ (X : Cx) (N : Ent) (ρ : Rho) (M : Mem) (e : Expr) (b : Bool) (M' : Mem) : Prop :=
  ∀ σ H P, Holds N P H M → Slots P σ ρ → ∀ Q : Bool → Hp → Prop, (∀ H' P', Ex P P' → Holds N P' H' M' → Q b H') → wW X e σ H Q
def AJ (X : Cx) (N : Ent) (ρ : Rho) (M : Mem) (es : List Expr) (is : List It) (M' : Mem) : Prop :=
  ∀ σ H P, Holds N P H M → Slots P σ ρ → ∀ Q : List V → Hp → Prop, (∀ vs H' P', Ex P P' → Holds N P' H' M' → RepIs P' vs is → Q vs H') → wA X es σ H Q
/-- a rule by values -/
def RJ (N : Ent) (r : R2) (M : Mem) (i j k : It) (M' : Mem) : Prop :=
  ∀ x y H P, Holds N P H M → RepI P x i → RepI P y j → ∀ Q : VK, (∀ v H' P', Ex P P' → Holds N P' H' M' → RepI P' v k → Q v H') → r x y H Q
/-- a built-in's call by values -/
def CJ (N : Ent) (r : List V → Hp → VK → Prop) (M : Mem) (is : List It) (k : It) (M' : Mem) : Prop :=
  ∀ vs H P, Holds N P H M → RepIs P vs is → ∀ Q : VK, (∀ v H' P', Ex P P' → Holds N P' H' M' → RepI P' v k → Q v H') → r vs H Q
def CL (N : Ent) (r : List V → Hp → VK → Prop) (M : Mem) (is js : List It) (M' : Mem) : Prop :=
  ∀ vs H P, Holds N P H M → RepIs P vs is → ∀ Q : VK, (∀ p H' P', Ex P P' → p ∉ N.F → Holds N P' H' (M' ++ [(p, js)]) → Q (.ref p) H') → r vs H Q
theorem Holds.newF {N : Ent} {P H : Hp} {M : Mem} (h : Holds N P H M) {p : Addr} (hp : H p = none) : p ∉ N.F := fun f => by
  obtain ⟨c, hc, e⟩ := List.mem_map.mp (h.mf p f)
  obtain ⟨xs, e1, _⟩ := (h.mem c hc).2
  rw [e, hp] at e1
  cases e1
theorem filter_last {M : Mem} {p : Addr} {is : List It} (nd : ((M ++ [(p, is)]).map Prod.fst).Nodup) : ((M ++ [(p, is)]).filter fun c => decide (c.1 ≠ p)) = M := by
  rw [List.filter_append]
  have h2 : ([(p, is)].filter fun c : Addr × List It => decide (c.1 ≠ p)) = [] := by simp
  rw [h2, List.append_nil]
  refine List.filter_eq_self.mpr fun c hc => decide_eq_true fun e => ?_
  rw [List.map_append] at nd
  have := (List.nodup_append.mp nd).2.2 c.1 (List.mem_map.mpr ⟨c, hc, rfl⟩) p (by simp)
  exact this e

section
variable {X : Cx} {N : Ent} {ρ : Rho} {M M1 M2 M3 M' : Mem} {a b c e : Expr} {pos : Pos} {i j k : It}
abbrev dI (n : Int) : It := .d (.int n)
abbrev dB (b : Bool) : It := .d (.bool b)
theorem ri_int {P : Hp} {v : V} {n : Int} (h : RepI P v (dI n)) : v = .int n := by cases (show Dn P v (.int n) from h); rfl
theorem ri_bl {P : Hp} {v : V} {n : Bool} (h : RepI P v (dB n)) : v = .bl n := by cases (show Dn P v (.bool n) from h); rfl
theorem ri_str {P : Hp} {v : V} {n : Str} (h : RepI P v (.d (.str n))) : v = .str n := by cases (show Dn P v (.str n) from h); rfl
theorem ri_non {P : Hp} {v : V} (h : RepI P v (.d .none)) : v = .non := by cases (show Dn P v .none from h); rfl
theorem ri_tup {P : Hp} {v : V} {ds : List PyData} (h : RepI P v (.d (.tuple ds))) : ∃ a xs, v = .ref a ∧ P a = some (.tup xs) ∧ DnAll P xs ds := by
  cases (show Dn P v (.tuple ds) from h) with
  | tup h1 h2 => exact ⟨_, _, rfl, h1, h2⟩
theorem ri_lst {P : Hp} {v : V} {ds : List PyData} (h : RepI P v (.d (.list ds))) : ∃ a xs, v = .ref a ∧ P a = some (.lst xs) ∧ DnAll P xs ds := by
  cases (show Dn P v (.list ds) from h) with
  | lst h1 h2 => exact ⟨_, _, rfl, h1, h2⟩

/-! names and constants -/
theorem ej_name (n : Nat) {x : Str} (hρ : ρ[n]? = some (some i) := by rfl) (hN : X.N[n]? = some x := by rfl) (hv : Vis X.env.scope x := by first | exact Or.inl rfl | exact Or.inr (Or.inl rfl) | exact Or.inr (Or.inr rfl)) (hd : (x == ("__debug__" : Str)) = false := by decide)
    (hcd : (x == ("__classdict__" : Str)) = false := by decide) : EJ X N ρ M (.Name x pos) i M := fun σ H P h g Q q => by
  obtain ⟨v, e, r⟩ := g.2 n i hρ
  exact e_of (pe_var (i := n) hN hv hd hcd) ⟨v, e, q v H P (Ex.refl P) h r⟩
theorem ej_int {n : Int} {j : Nat} : EJ X N ρ M (.Constant (.int n) j pos) (dI n) M := fun σ H P h g Q q => e_of pe_int (q _ H P (Ex.refl P) h (.int n))
theorem ej_bl {n : Bool} {j : Nat} : EJ X N ρ M (.Constant (.bool n) j pos) (dB n) M := fun σ H P h g Q q => e_of pe_bl (q _ H P (Ex.refl P) h (.bl n))
theorem ej_non {j : Nat} : EJ X N ρ M (.Constant .none j pos) (.d .none) M := fun σ H P h g Q q => e_of pe_non (q _ H P (Ex.refl P) h .non)
theorem ej_str {n : Str} {j : Nat} : EJ X N ρ M (.Constant (.str n) j pos) (.d (.str n)) M := fun σ H P h g Q q => e_of pe_str (q _ H P (Ex.refl P) h (.str n))
/-- a module's int -/
theorem ej_gint {x : Str} {n : Int} {t : Tok} (hm : X.mg x = some (.int n t)) (hg : Gl X x := by rfl) (hd : (x == ("__debug__" : Str)) = false := by decide) : EJ X N ρ M (.Name x pos) (dI n) M := fun σ H P h g Q q =>
  e_of (pe_glob (v := .int n) hg hm ⟨t, rfl⟩ hd) (q _ H P (Ex.refl P) h (.int n))

/-! operators -/
theorem ej_op {op : Operator} {r : R2} (ho : OpR X (binaryOp op) r) (ha : EJ X N ρ M a i M1) (hb : EJ X N ρ M1 b j M2) (hr : RJ N r M2 i j k M3) : EJ X N ρ M (.BinOp a op b pos) k M3 := fun σ H P h g Q q =>
  e_of (pe_op ho pe_w pe_w) (ha σ H P h g _ fun x H1 P1 e1 h1 r1 => hb σ H1 P1 h1 (g.ex e1) _ fun y H2 P2 e2 h2 r2 =>
    hr x y H2 P2 h2 (r1.ex e2) r2 Q fun v H3 P3 e3 h3 r3 => q v H3 P3 ((e1.trans e2).trans e3) h3 r3)
theorem ej_cmp {op : CmpOp} {r : R2} (ho : OpR X (compareOp op) r) (hm : behindInMarks op b = false) (ha : EJ X N ρ M a i M1) (hb : EJ X N ρ M1 b j M2) (hr : RJ N r M2 i j k M3) : EJ X N ρ M (.Compare a [op] [b] pos) k M3 := fun σ H P h g Q q =>
  e_of (pe_cmpR ho pe_w pe_w hm) (ha σ H P h g _ fun x H1 P1 e1 h1 r1 => hb σ H1 P1 h1 (g.ex e1) _ fun y H2 P2 e2 h2 r2 =>
    hr x y H2 P2 h2 (r1.ex e2) r2 Q fun v H3 P3 e3 h3 r3 => q v H3 P3 ((e1.trans e2).trans e3) h3 r3)
theorem tj_cmp {op : CmpOp} {r : R2} {t : Bool} (ho : OpR X (compareOp op) r) (hm : behindInMarks op b = false) (ha : EJ X N ρ M a i M1) (hb : EJ X N ρ M1 b j M2) (hr : RJ N r M2 i j (dB t) M3) : TJ X N ρ M (.Compare a [op] [b] pos) t M3 := fun σ H P h g Q q =>
  t_of (pt_cmpR ho pe_w pe_w hm) (ha σ H P h g _ fun x H1 P1 e1 h1 r1 => hb σ H1 P1 h1 (g.ex e1) _ fun y H2 P2 e2 h2 r2 =>
    hr x y H2 P2 h2 (r1.ex e2) r2 _ fun v H3 P3 e3 h3 r3 => ⟨t, ri_bl r3, q H3 P3 ((e1.trans e2).trans e3) h3⟩)
theorem ej_un {op : UnaryOp} {r : V → Hp → VK → Prop} (ho : UnR X (unaryOp op) r) (ha : EJ X N ρ M a i M1) (hr : ∀ x H P, Holds N P H M1 → RepI P x i → ∀ Q : VK, (∀ v, RepI P v k → Q v H) → r x H Q) : EJ X N ρ M (.UnaryOp op a pos) k M1 := fun σ H P h g Q q =>
  e_of (pe_un ho pe_w) (ha σ H P h g _ fun x H1 P1 e1 h1 r1 => hr x H1 P1 h1 r1 Q fun v r => q v H1 P1 e1 h1 r)
theorem ej_neg {n : Int} (ha : EJ X N ρ M a (dI n) M1) : EJ X N ρ M (.UnaryOp .USub a pos) (dI (-n)) M1 := ej_un un_neg ha fun x H P h r Q q => ⟨n, ri_int r, q _ (.int _)⟩
theorem rj_I0 {g : Int → Int → Int} {n m : Int} : RJ N (rI0 fun i j => .int (g i j)) M (dI n) (dI m) (dI (g n m)) M := fun x y H P h rx ry Q q =>
  ⟨n, m, ri_int rx, ri_int ry, q _ H P (Ex.refl P) h (.int _)⟩
theorem rj_B0 {g : Int → Int → Bool} {n m : Int} : RJ N (rI0 fun i j => .bl (g i j)) M (dI n) (dI m) (dB (g n m)) M := fun x y H P h rx ry Q q =>
  ⟨n, m, ri_int rx, ri_int ry, q _ H P (Ex.refl P) h (.bl _)⟩
theorem rj_I {C : Int → Int → Prop} {g : Int → Int → Int} {n m : Int} (hc : C n m) : RJ N (rI C fun i j => .int (g i j)) M (dI n) (dI m) (dI (g n m)) M := fun x y H P h rx ry Q q =>
  ⟨n, m, ri_int rx, ri_int ry, hc, q _ H P (Ex.refl P) h (.int _)⟩
theorem ej_add {n m : Int} (ha : EJ X N ρ M a (dI n) M1) (hb : EJ X N ρ M1 b (dI m) M2) : EJ X N ρ M (.BinOp a .Add b pos) (dI (n + m)) M2 := ej_op op_add ha hb rj_I0
theorem ej_sub {n m : Int} (ha : EJ X N ρ M a (dI n) M1) (hb : EJ X N ρ M1 b (dI m) M2) : EJ X N ρ M (.BinOp a .Sub b pos) (dI (n - m)) M2 := ej_op op_sub ha hb rj_I0
theorem ej_mul {n m : Int} (ha : EJ X N ρ M a (dI n) M1) (hb : EJ X N ρ M1 b (dI m) M2) (hc : CMul n m) : EJ X N ρ M (.BinOp a .Mult b pos) (dI (n * m)) M2 := ej_op op_mul ha hb (rj_I hc)
theorem ej_fdiv {n m : Int} (ha : EJ X N ρ M a (dI n) M1) (hb : EJ X N ρ M1 b (dI m) M2) (hc : 0 < m ∧ m < 1073741824) : EJ X N ρ M (.BinOp a .FloorDiv b pos) (dI (n / m)) M2 := ej_op op_fdiv ha hb (rj_I hc)
theorem ej_mod {n m : Int} (ha : EJ X N ρ M a (dI n) M1) (hb : EJ X N ρ M1 b (dI m) M2) (hc : 0 < m) : EJ X N ρ M (.BinOp a .Mod b pos) (dI (n % m)) M2 := ej_op op_mod ha hb (rj_I hc)
theorem ej_shl {n m : Int} (ha : EJ X N ρ M a (dI n) M1) (hb : EJ X N ρ M1 b (dI m) M2) (hc : CPow n m) : EJ X N ρ M (.BinOp a .LShift b pos) (dI (n * 2 ^ m.toNat)) M2 := ej_op op_shl ha hb (rj_I hc)
theorem ej_shr {n m : Int} (ha : EJ X N ρ M a (dI n) M1) (hb : EJ X N ρ M1 b (dI m) M2) (hc : 0 ≤ m) : EJ X N ρ M (.BinOp a .RShift b pos) (dI (n / 2 ^ m.toNat)) M2 := ej_op op_shr ha hb (rj_I hc)
theorem ej_and {n m : Int} (ha : EJ X N ρ M a (dI n) M1) (hb : EJ X N ρ M1 b (dI m) M2) : EJ X N ρ M (.BinOp a .BitAnd b pos) (dI (Builtin.bitAnd n m)) M2 := ej_op op_and ha hb rj_I0
theorem ej_xor {n m : Int} (ha : EJ X N ρ M a (dI n) M1) (hb : EJ X N ρ M1 b (dI m) M2) : EJ X N ρ M (.BinOp a .BitXor b pos) (dI (Builtin.bitXor n m)) M2 := ej_op op_xor ha hb rj_I0
theorem tj_lt {n m : Int} (ha : EJ X N ρ M a (dI n) M1) (hb : EJ X N ρ M1 b (dI m) M2) : TJ X N ρ M (.Compare a [.Lt] [b] pos) (decide (n < m)) M2 := tj_cmp op_lt (nomark _) ha hb rj_B0
theorem tj_le {n m : Int} (ha : EJ X N ρ M a (dI n) M1) (hb : EJ X N ρ M1 b (dI m) M2) : TJ X N ρ M (.Compare a [.LtE] [b] pos) (decide (n ≤ m)) M2 := tj_cmp op_le (nomark _) ha hb rj_B0
theorem tj_gt {n m : Int} (ha : EJ X N ρ M a (dI n) M1) (hb : EJ X N ρ M1 b (dI m) M2) : TJ X N ρ M (.Compare a [.Gt] [b] pos) (decide (m < n)) M2 := tj_cmp op_gt (nomark _) ha hb rj_B0
theorem tj_ge {n m : Int} (ha : EJ X N ρ M a (dI n) M1) (hb : EJ X N ρ M1 b (dI m) M2) : TJ X N ρ M (.Compare a [.GtE] [b] pos) (decide (m ≤ n)) M2 := tj_cmp op_ge (nomark _) ha hb rj_B0
/-- == of scalars -/
def scalD : PyData → PyData → Option Bool
  | .int a, .int b => some (decide (a = b))
  | .bool a, .bool b => some (decide (a = b))
  | .str a, .str b => some (decide (a = b))
  | .none, .none => some true
  | _, _ => none
theorem rj_eqI {n m : Int} : RJ N rEq M (dI n) (dI m) (dB (decide (n = m))) M := fun x y H P h rx ry Q q => by
  cases ri_int rx
  cases ri_int ry
  refine ⟨rfl, q _ H P (Ex.refl P) h ?_⟩
  have e : decide (V.int n = V.int m) = decide (n = m) := by
    by_cases z : n = m
    · subst z; simp
    · simp [z]
  rw [e]
  exact .bl _
theorem tj_eqI {n m : Int} (ha : EJ X N ρ M a (dI n) M1) (hb : EJ X N ρ M1 b (dI m) M2) : TJ X N ρ M (.Compare a [.Eq] [b] pos) (decide (n = m)) M2 := tj_cmp op_eq (nomark _) ha hb rj_eqI
theorem ej_eqI {n m : Int} (ha : EJ X N ρ M a (dI n) M1) (hb : EJ X N ρ M1 b (dI m) M2) : EJ X N ρ M (.Compare a [.Eq] [b] pos) (dB (decide (n = m))) M2 := ej_cmp op_eq (nomark _) ha hb rj_eqI
theorem rj_neI {n m : Int} : RJ N rNe M (dI n) (dI m) (dB (!decide (n = m))) M := fun x y H P h rx ry Q q => by
  cases ri_int rx
  cases ri_int ry
  refine ⟨rfl, q _ H P (Ex.refl P) h ?_⟩
  have e : decide (V.int n = V.int m) = decide (n = m) := by
    by_cases z : n = m
    · subst z; simp
    · simp [z]
  rw [e]
  exact .bl _
theorem tj_neI {n m : Int} (ha : EJ X N ρ M a (dI n) M1) (hb : EJ X N ρ M1 b (dI m) M2) : TJ X N ρ M (.Compare a [.NotEq] [b] pos) (!decide (n = m)) M2 := tj_cmp op_ne (nomark _) ha hb rj_neI

/-! what an item reads as, in cells -/
inductive Rd1 (M : Mem) : It → PyData → Prop
  | d (x : PyData) : Rd1 M (.d x) x
  | own {a : Addr} {ds : List PyData} : (a, ds.map It.d) ∈ M → Rd1 M (.v (.ref a)) (.list ds)
theorem Rd1.dn {P H : Hp} (h : Holds N P H M) {v : V} {i : It} {d : PyData} (r : RepI P v i) (k : Rd1 M i d) : Dn H v d := by
  cases k with
  | d => exact dnw_ex h.exw d v r
  | own hm =>
    obtain ⟨xs, e, q⟩ := h.cell hm
    cases (show v = .ref _ from r)
    exact .lst e (dnwAll_ex h.exw _ _ q.to_all)
def plainD (d : PyData) : Bool := noDict d && SeqAt.shaped d
theorem rj_eqD {d d' : PyData} (hi : Rd1 M i d) (hj : Rd1 M j d') (s1 : plainD d = true) (s2 : plainD d' = true) : RJ N (rEqD X.K) M i j (dB (PyData.eqv d d')) M := fun x y H P h rx ry Q q => by
  have a1 := Bool.and_eq_true_iff.mp s1
  have a2 := Bool.and_eq_true_iff.mp s2
  exact ⟨d, d', dp_of d x a1.1 (hi.dn h rx), dp_of d' y a2.1 (hj.dn h ry), a1.2, a2.2, q _ H P (Ex.refl P) h (.bl _)⟩
theorem rj_neD {d d' : PyData} (hi : Rd1 M i d) (hj : Rd1 M j d') (s1 : plainD d = true) (s2 : plainD d' = true) : RJ N (rNeD X.K) M i j (dB (!PyData.eqv d d')) M := fun x y H P h rx ry Q q => by
  have a1 := Bool.and_eq_true_iff.mp s1
  have a2 := Bool.and_eq_true_iff.mp s2
  exact ⟨d, d', dp_of d x a1.1 (hi.dn h rx), dp_of d' y a2.1 (hj.dn h ry), a1.2, a2.2, q _ H P (Ex.refl P) h (.bl _)⟩

/-! subscripts -/
theorem rj_ixT {ds : List PyData} {n : Int} {d : PyData} (hd : atI ds n = some d) : RJ N (rIxT X.K) M (.d (.tuple ds)) (dI n) (.d d) M := fun x y H P h rx ry Q q => by
  obtain ⟨a, xs, rfl, h1, h2⟩ := ri_tup rx
  obtain ⟨j, e1, e2⟩ : ∃ j, ixN ds.length n = some j ∧ ds[j]? = some d := by
    unfold atI at hd
    cases e : ixN ds.length n with
    | none => rw [e] at hd; cases hd
    | some j => rw [e] at hd; exact ⟨j, rfl, hd⟩
  obtain ⟨v, e3, e4⟩ := dnAll_get h2 e2
  refine ⟨a, xs, n, v, rfl, ri_int ry, .inl (.inl (h.ex _ _ h1)), ?_, q v H P (Ex.refl P) h e4⟩
  unfold atI
  rw [dnAll_len h2, e1]
  exact e3
theorem rj_ixL {ds : List PyData} {n : Int} {d : PyData} (hd : atI ds n = some d) : RJ N (rIxL X.K) M (.d (.list ds)) (dI n) (.d d) M := fun x y H P h rx ry Q q => by
  obtain ⟨a, xs, rfl, h1, h2⟩ := ri_lst rx
  obtain ⟨j, e1, e2⟩ : ∃ j, ixN ds.length n = some j ∧ ds[j]? = some d := by
    unfold atI at hd
    cases e : ixN ds.length n with
    | none => rw [e] at hd; cases hd
    | some j => rw [e] at hd; exact ⟨j, rfl, hd⟩
  obtain ⟨v, e3, e4⟩ := dnAll_get h2 e2
  refine ⟨a, xs, n, v, rfl, ri_int ry, .inl (.inl (h.ex _ _ h1)), ?_, q v H P (Ex.refl P) h e4⟩
  unfold atI
  rw [dnAll_len h2, e1]
  exact e3
theorem rj_ixO {p : Addr} {is : List It} {n : Int} {k : It} (hm : (p, is) ∈ M) (hd : atI is n = some k) : RJ N (rIxL X.K) M (.v (.ref p)) (dI n) k M := fun x y H P h rx ry Q q => by
  obtain ⟨xs, h1, h2⟩ := h.cell hm
  cases (show x = .ref p from rx)
  obtain ⟨j, e1, e2⟩ : ∃ j, ixN is.length n = some j ∧ is[j]? = some k := by
    unfold atI at hd
    cases e : ixN is.length n with
    | none => rw [e] at hd; cases hd
    | some j => rw [e] at hd; exact ⟨j, rfl, hd⟩
  obtain ⟨v, e3, e4⟩ := h2.get e2
  refine ⟨p, xs, n, v, rfl, ri_int ry, .inl (.inl h1), ?_, q v H P (Ex.refl P) h e4⟩
  unfold atI
  rw [h2.len, e1]
  exact e3
theorem ej_ix {r : R2} (hr : IxR X r) (ha : EJ X N ρ M a i M1) (hb : EJ X N ρ M1 b j M2) (hj : RJ N r M2 i j k M3) (hs : PlainIx b := by exact fun _ _ => rfl) : EJ X N ρ M (.Subscript a b pos) k M3 := fun σ H P h g Q q =>
  e_of (pe_ix hr pe_w pe_w hs) (ha σ H P h g _ fun x H1 P1 e1 h1 r1 => hb σ H1 P1 h1 (g.ex e1) _ fun y H2 P2 e2 h2 r2 =>
    hj x y H2 P2 h2 (r1.ex e2) r2 Q fun v H3 P3 e3 h3 r3 => q v H3 P3 ((e1.trans e2).trans e3) h3 r3)
theorem ej_ixT {ds : List PyData} {n : Int} {d : PyData} (ha : EJ X N ρ M a (.d (.tuple ds)) M1) (hb : EJ X N ρ M1 b (dI n) M2) (hd : atI ds n = some d) (hs : PlainIx b := by exact fun _ _ => rfl) : EJ X N ρ M (.Subscript a b pos) (.d d) M2 := ej_ix ix_tup ha hb (rj_ixT hd) hs
theorem ej_ixL {ds : List PyData} {n : Int} {d : PyData} (ha : EJ X N ρ M a (.d (.list ds)) M1) (hb : EJ X N ρ M1 b (dI n) M2) (hd : atI ds n = some d) (hs : PlainIx b := by exact fun _ _ => rfl) : EJ X N ρ M (.Subscript a b pos) (.d d) M2 := ej_ix ix_list ha hb (rj_ixL hd) hs
theorem ej_ixO {p : Addr} {is : List It} {n : Int} {k : It} (ha : EJ X N ρ M a (.v (.ref p)) M1) (hb : EJ X N ρ M1 b (dI n) M2) (hm : (p, is) ∈ M2) (hd : atI is n = some k) (hs : PlainIx b := by exact fun _ _ => rfl) : EJ X N ρ M (.Subscript a b pos) k M2 := ej_ix ix_list ha hb (rj_ixO hm hd) hs

/-! arguments, displays -/
theorem aj_nil : AJ X N ρ M [] [] M := fun σ H P h g Q q => a_of pa_nil (q [] H P (Ex.refl P) h trivial)
theorem aj_cons {es : List Expr} {is : List It} (ha : EJ X N ρ M a i M1) (hb : AJ X N ρ M1 es is M2) (hs : starEach (a :: es) X.env = (false, eval a X.env) :: starEach es X.env := by rfl) : AJ X N ρ M (a :: es) (i :: is) M2 := fun σ H P h g Q q =>
  a_of (pa_cons pe_w pa_w hs) (ha σ H P h g _ fun x H1 P1 e1 h1 r1 => hb σ H1 P1 h1 (g.ex e1) _ fun vs H2 P2 e2 h2 r2 => q _ H2 P2 (e1.trans e2) h2 ⟨r1.ex e2, r2⟩)
def allD : List It → Option (List PyData)
  | [] => some []
  | .d x :: r => (allD r).map (x :: ·)
  | _ => none
theorem allD_eq : ∀ {is : List It} {ds : List PyData}, allD is = some ds → is = ds.map It.d
  | [], ds, h => by cases Option.some.inj h; rfl
  | .d x :: r, ds, h => by
    cases e : allD r with
    | none => rw [show allD (.d x :: r) = (allD r).map (x :: ·) from rfl, e] at h; cases h
    | some l =>
      rw [show allD (.d x :: r) = (allD r).map (x :: ·) from rfl, e] at h
      cases Option.some.inj h
      rw [allD_eq e]
      rfl
  | .v u :: r, ds, h => by cases h
  | .m u φ k :: r, ds, h => by cases h
theorem ej_tup {es : List Expr} {is : List It} {ds : List PyData} {n : Nat} (ha : AJ X N ρ M es is M1) (hd : allD is = some ds := by rfl) (hz : ds.length ≤ 100000 := by first | decide | (simp; done)) : EJ X N ρ M (.Tuple es n pos) (.d (.tuple ds)) M1 := fun σ H P h g Q q =>
  e_of (pe_tup pa_w) (ha σ H P h g _ fun xs H1 P1 e1 h1 r1 => by
    rw [allD_eq hd] at r1
    have z := dnAll_len r1.to_all
    refine ⟨by rw [z]; exact Nat.le_trans hz (by decide), fun p hp => ?_⟩
    obtain ⟨h2, e2⟩ := h1.pers (o := .tup xs) hp
    exact q _ _ _ (e1.trans e2) h2 (.tup upd_same (dnAll_ex e2 _ _ r1.to_all)))
theorem el_disp {es : List Expr} {is : List It} (ha : AJ X N ρ M es is M1) (hz : is.length ≤ 100000 := by first | decide | (simp; done)) : EL X N ρ M (.List es pos) is M1 := fun σ H P h g Q q =>
  e_of (pe_lst pa_w) (ha σ H P h g _ fun xs H1 P1 e1 h1 r1 => by
    have z : xs.length ≤ sizeLine := by rw [r1.len]; exact Nat.le_trans hz (by decide)
    exact ⟨z, fun p hp => q p _ P1 e1 (h1.newF hp) (h1.own hp r1)⟩)
/-- a new list that stays as it is -/
theorem ej_el {is : List It} {ds : List PyData} (h : EL X N ρ M e is M1) (hd : is = ds.map It.d) : EJ X N ρ M e (.d (.list ds)) M1 := fun σ H P hh g Q q =>
  h σ H P hh g Q fun p H1 P1 e1 hp h1 => by
    subst hd
    obtain ⟨P2, e2, dn, h2⟩ := h1.freeze (a := p) (ds := ds) (List.mem_append_right _ (List.mem_singleton.mpr rfl)) hp
    rw [filter_last h1.nd] at h2
    exact q _ H1 P2 (e1.trans e2) h2 dn

/-! built-ins called by name -/
theorem ej_callB {x : Str} {id : String} {r : List V → Hp → VK → Prop} {p : Pos} {es : List Expr} {is : List It} (hc : CallR X (.builtin id) r) (hm : X.mg x = none) (hv : bootBuiltins x = some (.builtin id)) (ha : AJ X N ρ M (e :: es) is M1) (hr : CJ N r M1 is k M2)
    (hg : Gl X x := by rfl) (hn : x ≠ "__name__" := by decide) (hdb : (x == ("__debug__" : Str)) = false := by decide)
    (he : starEach (e :: es) X.env = (false, eval e X.env) :: starEach es X.env := by rfl) (hpl : (backTo pos (starEach es X.env)).any (·.1) = false := by rfl) : EJ X N ρ M (.Call (.Name x p) (e :: es) [] pos) k M2 := fun σ H P h g Q q =>
  e_of (pe_callB hc hg hm hv pa_w hn hdb he hpl) (ha σ H P h g _ fun vs H1 P1 e1 h1 r1 => hr vs H1 P1 h1 r1 Q fun v H2 P2 e2 h2 r2 => q v H2 P2 (e1.trans e2) h2 r2)
theorem ej_callTy {x : Str} {T : String} {r : List V → Hp → VK → Prop} {p : Pos} {es : List Expr} {is : List It} (hc : CallR X (.type T) r) (hm : X.mg x = none) (hv : bootBuiltins x = some (.type T)) (ha : AJ X N ρ M (e :: es) is M1) (hr : CJ N r M1 is k M2)
    (hg : Gl X x := by rfl) (hn : x ≠ "__name__" := by decide) (hdb : (x == ("__debug__" : Str)) = false := by decide)
    (he : starEach (e :: es) X.env = (false, eval e X.env) :: starEach es X.env := by rfl) (hpl : (backTo pos (starEach es X.env)).any (·.1) = false := by rfl) : EJ X N ρ M (.Call (.Name x p) (e :: es) [] pos) k M2 := fun σ H P h g Q q =>
  e_of (pe_callTy hc hg hm hv pa_w hn hdb he hpl) (ha σ H P h g _ fun vs H1 P1 e1 h1 r1 => hr vs H1 P1 h1 r1 Q fun v H2 P2 e2 h2 r2 => q v H2 P2 (e1.trans e2) h2 r2)
end
end Kt

namespace Kt
open PySem PySem.Spec PyProof.Rows L2
section
variable {X : Cx} {N : Ent} {ρ ρ' : Rho} {M M1 M2 M3 M' : Mem} {a b c e : Expr} {pos : Pos} {i j k : It} {t u : Bool}

/-! tests -/
theorem tj_val (h : EJ X N ρ M e (dB t) M1) (he : ∀ whole, isTrue e X.env whole = (do let v ← whole; standAt e.pos; holding [v] (truthy v)) := by intro _; rfl) : TJ X N ρ M e t M1 := fun σ H P hh g Q q =>
  t_of (pt_val pe_w he) (h σ H P hh g _ fun v H1 P1 e1 h1 r1 => ⟨t, ri_bl r1, q H1 P1 e1 h1⟩)
theorem tj_w (h : WJ X N ρ M e t M1) : TJ X N ρ M e t M1 := fun σ H P hh g Q q => t_of pw_w.pt (h σ H P hh g Q q)
theorem tj_not (h : TJ X N ρ M a t M1) : TJ X N ρ M (.UnaryOp .Not a pos) (!t) M1 := fun σ H P hh g Q q => t_of (pt_not pt_w) (h σ H P hh g _ q)
theorem wj_and1 (h : TJ X N ρ M a t M1) : WJ X N ρ M (.BoolOp .And [a] pos) t M1 := fun σ H P hh g Q q => w_of (pw_and1 pt_w) (h σ H P hh g Q q)
theorem wj_or1 (h : TJ X N ρ M a t M1) : WJ X N ρ M (.BoolOp .Or [a] pos) t M1 := fun σ H P hh g Q q => w_of (pw_or1 pt_w) (h σ H P hh g Q q)
theorem wj_and {es : List Expr} (h : TJ X N ρ M a t M1) (h2 : t = true → WJ X N ρ M1 (.BoolOp .And (b :: es) pos) u M1) : WJ X N ρ M (.BoolOp .And (a :: b :: es) pos) (t && u) M1 := fun σ H P hh g Q q =>
  w_of (pw_and pt_w pw_w) (h σ H P hh g _ fun H1 P1 e1 h1 => by
    cases t with
    | true => exact iteT (h2 rfl σ H1 P1 h1 (g.ex e1) Q fun H2 P2 e2 h3 => q H2 P2 (e1.trans e2) h3)
    | false => exact iteF (q H1 P1 e1 h1))
theorem wj_or {es : List Expr} (h : TJ X N ρ M a t M1) (h2 : t = false → WJ X N ρ M1 (.BoolOp .Or (b :: es) pos) u M1) : WJ X N ρ M (.BoolOp .Or (a :: b :: es) pos) (t || u) M1 := fun σ H P hh g Q q =>
  w_of (pw_or pt_w pw_w) (h σ H P hh g _ fun H1 P1 e1 h1 => by
    cases t with
    | true => exact iteT (q H1 P1 e1 h1)
    | false => exact iteF (h2 rfl σ H1 P1 h1 (g.ex e1) Q fun H2 P2 e2 h3 => q H2 P2 (e1.trans e2) h3))
theorem tj_is (h : TJ X N ρ M e t M1) (q : t = u) : TJ X N ρ M e u M1 := q ▸ h
theorem ej_is (h : EJ X N ρ M e i M1) (q : i = j) : EJ X N ρ M e j M1 := q ▸ h
/-! as values -/
theorem ej_one {op : BoolOp} (h : EJ X N ρ M a i M1) : EJ X N ρ M (.BoolOp op [a] pos) i M1 := fun σ H P hh g Q q => e_of (pe_one pe_w) (h σ H P hh g Q q)
theorem ej_andV {es : List Expr} (h : EJ X N ρ M a (dB t) M1) (h2 : t = true → EJ X N ρ M1 (.BoolOp .And (b :: es) pos) (dB u) M1) : EJ X N ρ M (.BoolOp .And (a :: b :: es) pos) (dB (t && u)) M1 := fun σ H P hh g Q q =>
  e_of (pe_and pe_w pe_w) (h σ H P hh g _ fun v H1 P1 e1 h1 r1 => ⟨t, ri_bl r1, by
    cases t with
    | true => exact iteT (h2 rfl σ H1 P1 h1 (g.ex e1) Q fun v2 H2 P2 e2 h3 r => q v2 H2 P2 (e1.trans e2) h3 r)
    | false => exact iteF (q _ H1 P1 e1 h1 (.bl _))⟩)
theorem ej_orV {es : List Expr} (h : EJ X N ρ M a (dB t) M1) (h2 : t = false → EJ X N ρ M1 (.BoolOp .Or (b :: es) pos) (dB u) M1) : EJ X N ρ M (.BoolOp .Or (a :: b :: es) pos) (dB (t || u)) M1 := fun σ H P hh g Q q =>
  e_of (pe_or pe_w pe_w) (h σ H P hh g _ fun v H1 P1 e1 h1 r1 => ⟨t, ri_bl r1, by
    cases t with
    | true => exact iteT (q _ H1 P1 e1 h1 (.bl _))
    | false => exact iteF (h2 rfl σ H1 P1 h1 (g.ex e1) Q fun v2 H2 P2 e2 h3 r => q v2 H2 P2 (e1.trans e2) h3 r)⟩)
theorem ej_notV (h : EJ X N ρ M a (dB t) M1) : EJ X N ρ M (.UnaryOp .Not a pos) (dB (!t)) M1 := fun σ H P hh g Q q =>
  e_of (pe_not pe_w) (h σ H P hh g _ fun v H1 P1 e1 h1 r1 => ⟨t, ri_bl r1, q _ H1 P1 e1 h1 (.bl _)⟩)
theorem ej_if (hc : TJ X N ρ M c t M1) (h1 : t = true → EJ X N ρ M1 a i M2) (h2 : t = false → EJ X N ρ M1 b i M2) : EJ X N ρ M (.IfExp c a b pos) i M2 := fun σ H P hh g Q q =>
  e_of (pe_ifExp pt_w pe_w pe_w) (hc σ H P hh g _ fun H1 P1 e1 hh1 => by
    cases t with
    | true => exact iteT (h1 rfl σ H1 P1 hh1 (g.ex e1) Q fun v H2 P2 e2 h3 r => q v H2 P2 (e1.trans e2) h3 r)
    | false => exact iteF (h2 rfl σ H1 P1 hh1 (g.ex e1) Q fun v H2 P2 e2 h3 r => q v H2 P2 (e1.trans e2) h3 r))
/-- low <= x <= high, as a value, as a test -/
theorem ej_chainLL {n m l : Int} (ha : EJ X N ρ M a (dI n) M) (hb : EJ X N ρ M b (dI m) M) (hc : EJ X N ρ M c (dI l) M) (hm : lastMarks [.LtE, .LtE] [b, c] = false := by with_unfolding_all rfl) : EJ X N ρ M (.Compare a [.LtE, .LtE] [b, c] pos) (dB (decide (n ≤ m) && decide (m ≤ l))) M := fun σ H P h g Q q =>
  e_of (pe_chain op_le op_le pe_w pe_w pe_w hm) (ha σ H P h g _ fun x H1 P1 e1 h1 r1 => hb σ H1 P1 h1 (g.ex e1) _ fun y H2 P2 e2 h2 r2 => ⟨n, m, ri_int r1, ri_int r2, decide (n ≤ m), rfl, by
    cases z : decide (n ≤ m) with
    | false => exact iteF (q _ H2 P2 (e1.trans e2) h2 (by rw [z]; exact .bl _))
    | true => exact iteT (hc σ H2 P2 h2 (g.ex (e1.trans e2)) _ fun w H3 P3 e3 h3 r3 => ⟨m, l, ri_int r2, ri_int r3, q _ H3 P3 ((e1.trans e2).trans e3) h3 (by rw [z]; exact .bl _)⟩)⟩)

/-! ### built-ins -/
theorem ri2 {P : Hp} {vs : List V} {i j : It} (h : RepIs P vs [i, j]) : ∃ x y, vs = [x, y] ∧ RepI P x i ∧ RepI P y j := by
  match vs, h with
  | [x, y], h => exact ⟨x, y, rfl, h.1, h.2.1⟩
theorem ri1 {P : Hp} {vs : List V} {i : It} (h : RepIs P vs [i]) : ∃ x, vs = [x] ∧ RepI P x i := by
  match vs, h with
  | [x], h => exact ⟨x, rfl, h.1⟩
theorem ej_len {p q : Pos} {x : It} {n : Nat} (hm : X.mg "len" = none) (ha : EJ X N ρ M a x M1) (hn : ∀ v H P, Holds N P H M1 → RepI P v x → ∃ y ys, v = .ref y ∧ (SqL X.K H y ys ∨ SqT X.K H y ys) ∧ ys.length = n)
    (hg : Gl X "len" := by rfl) (he : starEach [a] X.env = [(false, eval a X.env)] := by rfl) (hpl : (backTo q (starEach ([] : List Expr) X.env)).any (·.1) = false := by rfl) : EJ X N ρ M (.Call (.Name "len" p) [a] [] q) (dI (n : Int)) M1 :=
  ej_callB call_len_seq hm PySem.boot_len (aj_cons ha aj_nil he) (fun vs H P h rr Q q => by
    obtain ⟨x, rfl, r⟩ := ri1 rr
    obtain ⟨y, ys, rfl, s, z⟩ := hn x H P h r
    exact ⟨y, ys, rfl, s, q _ H P (Ex.refl P) h (by rw [z]; exact .int _)⟩) hg (by decide) (by decide) he hpl
theorem ej_lenL {p q : Pos} {ds : List PyData} (hm : X.mg "len" = none) (ha : EJ X N ρ M a (.d (.list ds)) M1) (hg : Gl X "len" := by rfl) (he : starEach [a] X.env = [(false, eval a X.env)] := by rfl) (hpl : (backTo q (starEach ([] : List Expr) X.env)).any (·.1) = false := by rfl) :
    EJ X N ρ M (.Call (.Name "len" p) [a] [] q) (dI (ds.length : Int)) M1 := ej_len hm ha (fun v H P h r => by
  obtain ⟨y, ys, rfl, h1, h2⟩ := ri_lst r
  exact ⟨y, ys, rfl, .inl (.inl (.inl (h.ex _ _ h1))), dnAll_len h2⟩) hg he hpl
theorem ej_lenT {p q : Pos} {ds : List PyData} (hm : X.mg "len" = none) (ha : EJ X N ρ M a (.d (.tuple ds)) M1) (hg : Gl X "len" := by rfl) (he : starEach [a] X.env = [(false, eval a X.env)] := by rfl) (hpl : (backTo q (starEach ([] : List Expr) X.env)).any (·.1) = false := by rfl) :
    EJ X N ρ M (.Call (.Name "len" p) [a] [] q) (dI (ds.length : Int)) M1 := ej_len hm ha (fun v H P h r => by
  obtain ⟨y, ys, rfl, h1, h2⟩ := ri_tup r
  exact ⟨y, ys, rfl, .inr (.inl (.inl (h.ex _ _ h1))), dnAll_len h2⟩) hg he hpl
theorem ej_lenO {p q : Pos} {o : Addr} {is : List It} (hm : X.mg "len" = none) (ha : EJ X N ρ M a (.v (.ref o)) M1) (hM : (o, is) ∈ M1) (hg : Gl X "len" := by rfl) (he : starEach [a] X.env = [(false, eval a X.env)] := by rfl) (hpl : (backTo q (starEach ([] : List Expr) X.env)).any (·.1) = false := by rfl) :
    EJ X N ρ M (.Call (.Name "len" p) [a] [] q) (dI (is.length : Int)) M1 := ej_len hm ha (fun v H P h r => by
  cases (show v = .ref o from r)
  obtain ⟨xs, h1, h2⟩ := h.cell hM
  exact ⟨o, xs, rfl, .inl (.inl (.inl h1)), h2.len⟩) hg he hpl
theorem ej_intc {p q : Pos} {n : Int} (hm : X.mg "int" = none) (ha : EJ X N ρ M a (dI n) M1) (hg : Gl X "int" := by rfl) (he : starEach [a] X.env = [(false, eval a X.env)] := by rfl) (hpl : (backTo q (starEach ([] : List Expr) X.env)).any (·.1) = false := by rfl) :
    EJ X N ρ M (.Call (.Name "int" p) [a] [] q) (dI n) M1 := ej_callTy call_int1 hm (by decide +kernel) (aj_cons ha aj_nil he) (fun vs H P h rr Q q => by
  obtain ⟨x, rfl, r⟩ := ri1 rr
  cases ri_int r
  exact .inl ⟨n, rfl, q _ H P (Ex.refl P) h (.int _)⟩) hg (by decide) (by decide) he hpl
theorem ej_abs {p q : Pos} {n : Int} (hm : X.mg "abs" = none) (ha : EJ X N ρ M a (dI n) M1) (hg : Gl X "abs" := by rfl) (he : starEach [a] X.env = [(false, eval a X.env)] := by rfl) (hpl : (backTo q (starEach ([] : List Expr) X.env)).any (·.1) = false := by rfl) :
    EJ X N ρ M (.Call (.Name "abs" p) [a] [] q) (dI (if n < 0 then -n else n)) M1 := ej_callB call_abs hm (by decide +kernel) (aj_cons ha aj_nil he) (fun vs H P h rr Q q => by
  obtain ⟨x, rfl, r⟩ := ri1 rr
  cases ri_int r
  exact ⟨n, rfl, q _ H P (Ex.refl P) h (.int _)⟩) hg (by decide) (by decide) he hpl
theorem ej_sum {p q : Pos} {ns : List Int} (hc : X.calm = true) (hm : X.mg "sum" = none) (ha : EJ X N ρ M a (.d (.list (ns.map PyData.int))) M1) (hg : Gl X "sum" := by rfl) (he : starEach [a] X.env = [(false, eval a X.env)] := by rfl) (hpl : (backTo q (starEach ([] : List Expr) X.env)).any (·.1) = false := by rfl) :
    EJ X N ρ M (.Call (.Name "sum" p) [a] [] q) (dI ns.sum) M1 := ej_callB (cr_sum hc) hm (by decide +kernel) (aj_cons ha aj_nil he) (fun vs H P h rr Q q => by
  obtain ⟨x, rfl, r⟩ := ri1 rr
  obtain ⟨y, ys, rfl, h1, h2⟩ := ri_lst r
  cases h2.ints
  exact ⟨y, ns, rfl, .inl (.inl (h.ex _ _ h1)), q _ H P (Ex.refl P) h (.int _)⟩) hg (by decide) (by decide) he hpl
theorem ej_all {p q : Pos} {bs : List Bool} (hc : X.calm = true) (hm : X.mg "all" = none) (ha : EJ X N ρ M a (.d (.list (bs.map PyData.bool))) M1) (hg : Gl X "all" := by rfl) (he : starEach [a] X.env = [(false, eval a X.env)] := by rfl) (hpl : (backTo q (starEach ([] : List Expr) X.env)).any (·.1) = false := by rfl) :
    EJ X N ρ M (.Call (.Name "all" p) [a] [] q) (dB (bs.all id)) M1 := ej_callB (cr_all hc) hm (by decide +kernel) (aj_cons ha aj_nil he) (fun vs H P h rr Q q => by
  obtain ⟨x, rfl, r⟩ := ri1 rr
  obtain ⟨y, ys, rfl, h1, h2⟩ := ri_lst r
  cases h2.bools
  exact ⟨y, bs, rfl, .inl (.inl (h.ex _ _ h1)), q _ H P (Ex.refl P) h (.bl _)⟩) hg (by decide) (by decide) he hpl
theorem ej_maxL {p q : Pos} {ns : List Int} {m : Int} (hc : X.calm = true) (hm : X.mg "max" = none) (ha : EJ X N ρ M a (.d (.list (ns.map PyData.int))) M1) (h1 : m ∈ ns) (h2 : ∀ y ∈ ns, y ≤ m) (hg : Gl X "max" := by rfl) (he : starEach [a] X.env = [(false, eval a X.env)] := by rfl) (hpl : (backTo q (starEach ([] : List Expr) X.env)).any (·.1) = false := by rfl) :
    EJ X N ρ M (.Call (.Name "max" p) [a] [] q) (dI m) M1 := ej_callB (cr_max hc) hm (by decide +kernel) (aj_cons ha aj_nil he) (fun vs H P h rr Q q => by
  obtain ⟨x, rfl, r⟩ := ri1 rr
  obtain ⟨y, ys, rfl, h3, h4⟩ := ri_lst r
  cases h4.ints
  refine ⟨y, ns, rfl, .inl (.inl (h.ex _ _ h3)), List.length_pos_of_mem h1, fun m' hm' hy => ?_⟩
  have e : m' = m := by have := hy m h1; have := h2 m' hm'; omega
  exact q _ H P (Ex.refl P) h (e ▸ .int _)) hg (by decide) (by decide) he hpl
/-- tuple(a list): a new tuple -/
theorem ej_tupleL {p q : Pos} {is : List It} {ds : List PyData} (hm : X.mg "tuple" = none) (ha : EL X N ρ M a is M1) (hd : is = ds.map It.d) (hg : Gl X "tuple" := by rfl) (he : starEach [a] X.env = [(false, eval a X.env)] := by rfl) (hpl : (backTo q (starEach ([] : List Expr) X.env)).any (·.1) = false := by rfl) :
    EJ X N ρ M (.Call (.Name "tuple" p) [a] [] q) (.d (.tuple ds)) M1 := ej_callTy call_tuple_of hm (by decide +kernel) (aj_cons (ej_el ha hd) aj_nil he) (fun vs H P h rr Q q => by
  obtain ⟨x, rfl, r⟩ := ri1 rr
  obtain ⟨y, ys, rfl, h1, h2⟩ := ri_lst r
  refine ⟨y, ys, rfl, .inl ⟨.inl (.inl (h.ex _ _ h1)), fun l hl => ?_⟩⟩
  obtain ⟨h3, e3⟩ := h.pers (o := .tup ys) hl
  exact q _ _ _ e3 h3 (.tup upd_same (dnAll_ex e3 _ _ h2))) hg (by decide) (by decide) he hpl
theorem ej_tupleD {p q : Pos} {ds : List PyData} (hm : X.mg "tuple" = none) (ha : EJ X N ρ M a (.d (.list ds)) M1) (hg : Gl X "tuple" := by rfl) (he : starEach [a] X.env = [(false, eval a X.env)] := by rfl) (hpl : (backTo q (starEach ([] : List Expr) X.env)).any (·.1) = false := by rfl) :
    EJ X N ρ M (.Call (.Name "tuple" p) [a] [] q) (.d (.tuple ds)) M1 := ej_callTy call_tuple_of hm (by decide +kernel) (aj_cons ha aj_nil he) (fun vs H P h rr Q q => by
  obtain ⟨x, rfl, r⟩ := ri1 rr
  obtain ⟨y, ys, rfl, h1, h2⟩ := ri_lst r
  refine ⟨y, ys, rfl, .inl ⟨.inl (.inl (h.ex _ _ h1)), fun l hl => ?_⟩⟩
  obtain ⟨h3, e3⟩ := h.pers (o := .tup ys) hl
  exact q _ _ _ e3 h3 (.tup upd_same (dnAll_ex e3 _ _ h2))) hg (by decide) (by decide) he hpl
theorem ej_tupleO {p q : Pos} {o : Addr} {ds : List PyData} (hm : X.mg "tuple" = none) (ha : EJ X N ρ M a (.v (.ref o)) M1) (hM : (o, ds.map It.d) ∈ M1) (hg : Gl X "tuple" := by rfl) (he : starEach [a] X.env = [(false, eval a X.env)] := by rfl) (hpl : (backTo q (starEach ([] : List Expr) X.env)).any (·.1) = false := by rfl) :
    EJ X N ρ M (.Call (.Name "tuple" p) [a] [] q) (.d (.tuple ds)) M1 := ej_callTy call_tuple_of hm (by decide +kernel) (aj_cons ha aj_nil he) (fun vs H P h rr Q q => by
  obtain ⟨x, rfl, r⟩ := ri1 rr
  cases (show x = .ref o from r)
  obtain ⟨ys, h1, h2⟩ := h.cell hM
  refine ⟨o, ys, rfl, .inl ⟨.inl (.inl h1), fun l hl => ?_⟩⟩
  obtain ⟨h3, e3⟩ := h.pers (o := .tup ys) hl
  exact q _ _ _ e3 h3 (.tup upd_same (dnAll_ex e3 _ _ h2.to_all))) hg (by decide) (by decide) he hpl

/-! ### statements -/
structure Post where
  nx : Rho → Mem → Prop
  rt : It → Mem → Prop
  bk : Rho → Mem → Prop := fun _ _ => False
  ct : Rho → Mem → Prop := fun _ _ => False
  er : Str → Mem → Prop := fun _ _ => False
/-- the dict of an exception with this name -/
abbrev XD (z : Str) : HO := .xd [("name", .str z)]
structure ZD (mg : Str → Option Value) (N : Ent) (P : Hp) (Z : Post) (D : Ends) (E : XK) : Prop where
  nx : ∀ ρ' M' σ' H' P', Z.nx ρ' M' → Ex P P' → Holds N P' H' M' → Slots P' σ' ρ' → D.nx σ' H'
  rt : ∀ i M' v H' P', Z.rt i M' → Ex P P' → Holds N P' H' M' → RepI P' v i → D.rt v H'
  bk : ∀ ρ' M' σ' H' P', Z.bk ρ' M' → Ex P P' → Holds N P' H' M' → Slots P' σ' ρ' → D.bk σ' H'
  ct : ∀ ρ' M' σ' H' P', Z.ct ρ' M' → Ex P P' → Holds N P' H' M' → Slots P' σ' ρ' → D.ct σ' H'
  er : ∀ z M' d H' P' C, mg "ShapeError" = some (.ref C) → Z.er z M' → Ex P P' → Holds N P' H' M' → H' d = some (XD z) → E (.ref C) (some d) H'
theorem ZD.ex {mg : Str → Option Value} {P P' : Hp} {Z : Post} {D : Ends} {E : XK} (e : Ex P P') (z : ZD mg N P Z D E) : ZD mg N P' Z D E :=
  ⟨fun ρ' M' σ' H' P'' a b => z.nx ρ' M' σ' H' P'' a (e.trans b), fun i M' v H' P'' a b => z.rt i M' v H' P'' a (e.trans b), fun ρ' M' σ' H' P'' a b => z.bk ρ' M' σ' H' P'' a (e.trans b), fun ρ' M' σ' H' P'' a b => z.ct ρ' M' σ' H' P'' a (e.trans b), fun w M' d H' P'' C c a b => z.er w M' d H' P'' C c a (e.trans b)⟩
def SJ (X : Cx) (N : Ent) (ρ : Rho) (M : Mem) (sts : List Stmt) (Z : Post) : Prop :=
  ∀ σ H P, Holds N P H M → Slots P σ ρ → ∀ (D : Ends) (E : XK), Takes X (fun c d _ H => E c d H) → ZD X.mg N P Z D E → wSs X sts D σ H
/-- a target takes an item -/
def GJ (X : Cx) (N : Ent) (tg : Expr) (i : It) (ρ : Rho) (ρ' : Rho) : Prop :=
  ∀ v σ H P M, Holds N P H M → Slots P σ ρ → RepI P v i → ∀ Q : L2.St → Hp → Prop, (∀ σ', Slots P σ' ρ' → Q σ' H) → wG X tg v σ H Q
variable {Z : Post} {rest : List Stmt}
theorem sj_nil (h : Z.nx ρ M) : SJ X N ρ M [] Z := fun σ H P hh g D E tk z => ss_of pss_nil (z.nx ρ M σ H P h (Ex.refl P) hh g)
theorem sj_cons {st : Stmt} (h : ∀ σ H P, Holds N P H M → Slots P σ ρ → ∀ (D : Ends) (E : XK), Takes X (fun c d _ H => E c d H) → ZD X.mg N P { Z with nx := fun ρ' M' => SJ X N ρ' M' rest Z } D E → wS X st D σ H) : SJ X N ρ M (st :: rest) Z := fun σ H P hh g D E tk z =>
  ss_of (pss_cons ps_w pss_w) (h σ H P hh g _ E tk ⟨fun ρ' M' σ' H' P' a e hh' g' => a σ' H' P' hh' g' D E tk (z.ex e), z.rt, z.bk, z.ct, z.er⟩)
theorem gj_name (n : Nat) {x : Str} (hN : X.N.Nodup) (hi : X.N[n]? = some x := by rfl) (hx : Loc X.env.scope x := by first | exact .inl rfl | exact .inr rfl) (hf : X.fn x = true ∨ X.env.scope.names.lookup x = some .local := by first | exact .inl rfl | exact .inr rfl) :
    GJ X N (.Name x pos) i ρ (ρ.set n (some i)) := fun v σ H P M hh g r Q q => g_of (pg_name (i := n) hN hi hx hf) (q _ (g.set r n))
theorem sj_asgG {tg : Expr} (he : EJ X N ρ M e i M1) (hg : GJ X N tg i ρ ρ') (hr : SJ X N ρ' M1 rest Z) (hs : swapsWithSole [tg] e pos.line X.env = pure false := by rfl) (hw : swappedStores [tg] e X.env = pure none := by rfl)
    (h1 : (assignEach [tg] X.env).map (·.2) = [assign tg X.env] := by rfl) : SJ X N ρ M (.Assign [tg] e pos :: rest) Z := sj_cons fun σ H P hh g D E tk z =>
  s_of (ps_asg pe_w pg_w hs hw h1) (he σ H P hh g _ fun v H1 P1 e1 h1 r1 => hg v σ H1 P1 M1 h1 (g.ex e1) r1 _ fun σ' g' => z.nx ρ' M1 σ' H1 P1 hr e1 h1 g')
/-- x = e -/
theorem sj_set (n : Nat) {x : Str} {pos' : Pos} (hN : X.N.Nodup) (he : EJ X N ρ M e i M1) (hr : SJ X N (ρ.set n (some i)) M1 rest Z) (hi : X.N[n]? = some x := by rfl) (hx : Loc X.env.scope x := by first | exact .inl rfl | exact .inr rfl) (hs : swapsWith e (some (.Name x pos')) pos.line X.env = pure false := by rfl) (hf : X.fn x = true ∨ X.env.scope.names.lookup x = some .local := by first | exact .inl rfl | exact .inr rfl) :
    SJ X N ρ M (.Assign [.Name x pos'] e pos :: rest) Z := sj_cons fun σ H P hh g D E tk z =>
  s_of (ps_set (i := n) hN hi hx pe_w hs hf) (he σ H P hh g _ fun v H1 P1 e1 h1 r1 => z.nx _ M1 _ H1 P1 hr e1 h1 ((g.ex e1).set r1 n))
/-- x = a new list of one's own -/
theorem sj_own (n : Nat) {x : Str} {pos' : Pos} {is : List It} (hN : X.N.Nodup) (he : EL X N ρ M e is M1) (hr : ∀ p, p ∉ N.F → SJ X N (ρ.set n (some (.v (.ref p)))) (M1 ++ [(p, is)]) rest Z) (hi : X.N[n]? = some x := by rfl) (hx : Loc X.env.scope x := by first | exact .inl rfl | exact .inr rfl) (hs : swapsWith e (some (.Name x pos')) pos.line X.env = pure false := by rfl) (hf : X.fn x = true ∨ X.env.scope.names.lookup x = some .local := by first | exact .inl rfl | exact .inr rfl) :
    SJ X N ρ M (.Assign [.Name x pos'] e pos :: rest) Z := sj_cons fun σ H P hh g D E tk z =>
  s_of (ps_set (i := n) hN hi hx pe_w hs hf) (he σ H P hh g _ fun p H1 P1 e1 hp h1 => z.nx _ _ _ _ P1 (hr p hp) e1 h1 ((g.ex e1).set (it := .v (.ref p)) rfl n))
theorem sj_ret (he : EJ X N ρ M e i M1) (h : Z.rt i M1) : SJ X N ρ M (.Return (some e) pos :: rest) Z := sj_cons fun σ H P hh g D E tk z =>
  s_of (ps_ret pe_w) (he σ H P hh g _ fun v H1 P1 e1 h1 r1 => z.rt i M1 v H1 P1 h e1 h1 r1)
theorem sj_retN (h : Z.rt (.d .none) M) : SJ X N ρ M (.Return none pos :: rest) Z := sj_cons fun σ H P hh g D E tk z => s_of ps_retN (z.rt _ M _ H P h (Ex.refl P) hh .non)
theorem sj_if {A B : List Stmt} (hc : TJ X N ρ M c t M1) (h1 : t = true → SJ X N ρ M1 A { Z with nx := fun ρ' M' => SJ X N ρ' M' rest Z }) (h2 : t = false → SJ X N ρ M1 B { Z with nx := fun ρ' M' => SJ X N ρ' M' rest Z }) : SJ X N ρ M (.If c A B pos :: rest) Z := sj_cons fun σ H P hh g D E tk z =>
  s_of (ps_if pt_w pss_w pss_w) (hc σ H P hh g _ fun H1 P1 e1 hh1 => by
    cases t with
    | true => exact iteT (h1 rfl σ H1 P1 hh1 (g.ex e1) D E tk (z.ex e1))
    | false => exact iteF (h2 rfl σ H1 P1 hh1 (g.ex e1) D E tk (z.ex e1)))
theorem sj_expr (he : EJ X N ρ M e i M1) (hr : SJ X N ρ M1 rest Z) (hs : swapsWith e none pos.line X.env = pure false := by rfl) : SJ X N ρ M (.Expr e pos :: rest) Z := sj_cons fun σ H P hh g D E tk z =>
  s_of (ps_expr pe_w hs) (he σ H P hh g _ fun v H1 P1 e1 h1 r1 => z.nx ρ M1 σ H1 P1 hr e1 h1 (g.ex e1))
theorem sj_break (h : Z.bk ρ M) : SJ X N ρ M (.Break pos :: rest) Z := sj_cons fun σ H P hh g D E tk z => s_of ps_break (z.bk ρ M σ H P h (Ex.refl P) hh g)
theorem sj_continue (h : Z.ct ρ M) : SJ X N ρ M (.Continue pos :: rest) Z := sj_cons fun σ H P hh g D E tk z => s_of ps_continue (z.ct ρ M σ H P h (Ex.refl P) hh g)
/-- fewer things known -/
theorem sj_weak {sts : List Stmt} (h : SJ X N ρ' M' sts Z) (hl : ρ'.length = ρ.length) (w : ∀ (n : Nat) (it : It), ρ'[n]? = some (some it) → ρ[n]? = some (some it)) (s : ∀ c ∈ M', c ∈ M) (nd : (M.map Prod.fst).Nodup → (M'.map Prod.fst).Nodup) (mf : ∀ a ∈ N.F, a ∈ M'.map Prod.fst) : SJ X N ρ M sts Z :=
  fun σ H P hh g D E tk z => h σ H P (hh.sub s (nd hh.nd) mf) (g.weak hl w) D E tk z
/-- x += e, ints -/
theorem sj_aug (n : Nat) {x : Str} {pos' : Pos} {op : Operator} {f : Int → Int → Int} {z1 z2 : Int} (ho : PIp X op (ipI f)) (hN : X.N.Nodup) (hρ : ρ[n]? = some (some (dI z1))) (he : EJ X N ρ M e (dI z2) M1) (hr : SJ X N (ρ.set n (some (dI (f z1 z2)))) M1 rest Z) (hi : X.N[n]? = some x := by rfl) (hx : Loc X.env.scope x := by first | exact .inl rfl | exact .inr rfl) (hf : X.fn x = true ∨ X.env.scope.names.lookup x = some .local := by first | exact .inl rfl | exact .inr rfl) :
    SJ X N ρ M (.AugAssign (.Name x pos') op e pos :: rest) Z := sj_cons fun σ H P hh g D E tk z => by
  obtain ⟨v, e0, r0⟩ := g.2 n _ hρ
  refine s_of (ps_aug (i := n) hN hi hx pe_w ho hf) ⟨v, e0, he σ H P hh g _ fun y H1 P1 e1 h1 r1 => ⟨z1, z2, ri_int r0, ri_int r1, ?_⟩⟩
  exact z.nx _ M1 _ H1 P1 hr e1 h1 ((g.ex e1).set (it := dI (f z1 z2)) (.int _) n)
/-- xs.append(e), xs one's own -/
theorem sj_append {ap epos : Pos} {p : Addr} {is is0 : List It} (ho : EJ X N ρ M a (.v (.ref p)) M) (hm0 : (p, is0) ∈ M) (he : EJ X N ρ M e i M1) (hm : (p, is) ∈ M1) (hz : is.length < 100000) (hr : SJ X N ρ (M1.put p (is ++ [i])) rest Z) (hs : swapsWith (.Call (.Attribute a "append" ap) [e] [] pos) none epos.line X.env = pure false := by rfl)
    (hst : starEach [e] X.env = [(false, eval e X.env)] := by rfl) (ps : PE X (.Call (.Attribute a "append" ap) [e] [] pos) (tBM X.K "list" rAppend (wE X a) (wA X [e])) := by exact pe_bm PySem.F.plainAttrs_list PySem.F.slot_list_append PySem.F.type_list_append mt_append pe_w pa_w) : SJ X N ρ M (.Expr (.Call (.Attribute a "append" ap) [e] [] pos) epos :: rest) Z := sj_cons fun σ H P hh g D E tk z => by
  refine s_of (ps_expr ps hs) (ho σ H P hh g _ fun v H1 P1 e1 h1 r1 => ?_)
  cases (show v = .ref p from r1)
  obtain ⟨ys, ey, _⟩ := h1.cell hm0
  refine ⟨.inl ⟨rfl, ys, .inl (.inl ey)⟩, ?_⟩
  refine aj_cons he aj_nil hst σ H1 P1 h1 (g.ex e1) _ fun vs H2 P2 e2 h2 r2 => ?_
  obtain ⟨y, rfl, r3⟩ := ri1 r2
  obtain ⟨xs, e3, r4⟩ := h2.cell hm
  refine ⟨p, xs, y, rfl, rfl, e3, by rw [r4.len]; exact Nat.lt_of_lt_of_le hz (by decide), ?_⟩
  exact z.nx ρ _ σ _ P2 hr (e1.trans e2) (h2.write hm (r4.app ⟨r3, trivial⟩)) (g.ex (e1.trans e2))
/-- xs[i] = e, xs one's own -/
theorem sj_setO {o x : Expr} {spos : Pos} {p : Addr} {is : List It} {n : Nat} (he : EJ X N ρ M e i M1) (ho : EJ X N ρ M1 o (.v (.ref p)) M1) (hx : EJ X N ρ M1 x (dI (n : Int)) M2) (hm : (p, is) ∈ M2) (hn : n < is.length) (hr : SJ X N ρ (M2.put p (is.set n i)) rest Z)
    (ha : ∀ v, assign (.Subscript o x spos) X.env v = (do
      let ov ← holding [v] (eval o X.env)
      let iv ← holding [v, ov] (eval x X.env)
      standAt spos
      holding [v, ov, iv] (setItem ov iv v)
      release [v, ov, iv] []) := by intro _; rfl)
    (hs : swapsWithSole [.Subscript o x spos] e pos.line X.env = pure false := by rfl) (hw : swappedStores [.Subscript o x spos] e X.env = pure none := by rfl)
    (h1 : (assignEach [.Subscript o x spos] X.env).map (·.2) = [assign (.Subscript o x spos) X.env] := by rfl) : SJ X N ρ M (.Assign [.Subscript o x spos] e pos :: rest) Z := sj_cons fun σ H P hh g D E tk z => by
  refine s_of (ps_asg pe_w (pg_sub pe_w pe_w set_list ha) hs hw h1) (he σ H P hh g _ fun v H1 P1 e1 h1 r1 => ho σ H1 P1 h1 (g.ex e1) _ fun ov H2 P2 e2 h2 r2 => hx σ H2 P2 h2 (g.ex (e1.trans e2)) _ fun iv H3 P3 e3 h3 r3 => ?_)
  obtain ⟨xs, e4, r4⟩ := h3.cell hm
  have z4 := r4.len
  refine ⟨p, xs, (n : Int), n, r2, ri_int r3, e4, ?_, ?_⟩
  · unfold ixN
    rw [if_pos (by omega), if_pos (by omega)]
    simp
  · exact z.nx ρ _ σ _ P3 hr ((e1.trans e2).trans e3) (h3.write hm (r4.set ((r1.ex e2).ex e3) n)) (g.ex ((e1.trans e2).trans e3))
/-- an own list of data becomes persistent, at a slot -/
theorem sj_freeze (n : Nat) {p : Addr} {ds : List PyData} {sts : List Stmt} (hρ : ρ[n]? = some (some (.v (.ref p)))) (hm : (p, ds.map It.d) ∈ M) (hF : p ∉ N.F) (hr : SJ X N (ρ.set n (some (.d (.list ds)))) (M.filter fun c => decide (c.1 ≠ p)) sts Z) : SJ X N ρ M sts Z := fun σ H P hh g D E tk z => by
  obtain ⟨P', e, dn, h'⟩ := hh.freeze hm hF
  obtain ⟨v, ev, rv⟩ := g.2 n _ hρ
  cases (show v = .ref p from rv)
  have es : σ.set n (some (.ref p)) = σ := by
    refine List.ext_getElem? fun m => ?_
    by_cases q : n = m
    · subst q
      have l : n < σ.length := (List.getElem?_eq_some_iff.mp ev).1
      rw [List.getElem?_set_self l, ev]
    · rw [List.getElem?_set_ne q]
  have g' := (g.ex e).set (it := .d (.list ds)) (v := .ref p) dn n
  rw [es] at g'
  exact hr σ H P' h' g' D E tk (z.ex e)
end
end Kt

namespace Kt
open PySem PySem.Spec PyProof.Rows L2

/-! ### the frame: a part of the cells alone -/
section
variable {N : Ent} {P P' H H' : Hp} {Mc Mr Mc' : Mem}
abbrev inner (P H : Hp) (Mc : Mem) : Ent := ⟨P, H, Mc.map Prod.fst⟩
theorem Holds.h0_none (h : Holds N P H Mc) {b : Addr} (hb : H b = none) : N.H0 b = none := by
  cases e : N.H0 b with
  | none => rfl
  | some o =>
    by_cases f : b ∈ N.F
    · exact absurd f (h.newF hb)
    · rw [h.fr b o e f] at hb; cases hb
theorem Holds.enter (h : Holds N P H (Mc ++ Mr)) : Holds (inner P H Mc) P H Mc :=
  ⟨h.exw, Ex.refl P, fun _ _ e _ => e, fun b e f => absurd e f, fun c hc => h.mem c (List.mem_append_left _ hc), by
    have := h.nd
    rw [List.map_append] at this
    exact (List.nodup_append.mp this).1, fun a ha => ha, fun c hc => .inl (List.mem_map.mpr ⟨c, hc, rfl⟩), fun _ _ _ e => e, h.pf⟩
theorem Holds.leave (h : Holds N P H (Mc ++ Mr)) (h' : Holds (inner P H Mc) P' H' Mc') : Holds N P' H' (Mc' ++ Mr) := by
  have nd := h.nd
  rw [List.map_append] at nd
  obtain ⟨n1, n2, n3⟩ := List.nodup_append.mp nd
  have old : ∀ c ∈ Mc', c.1 ∈ Mc.map Prod.fst ∨ H c.1 = none := h'.fs
  refine ⟨h'.exw, h.ex0.trans h'.ex0, fun b o e f => ?_, fun b e f => ?_, fun c hc => ?_, ?_, fun a ha => ?_, fun c hc => ?_, fun a od u e => h.uf a od u (h'.uf a od u e), h'.pf⟩
  · refine h'.fr b o (h.fr b o e f) fun hb => ?_
    obtain ⟨c, hc, ec⟩ := List.mem_map.mp hb
    rcases h.fs c (List.mem_append_left _ hc) with k | k
    · exact f (ec ▸ k)
    · rw [ec, e] at k; cases k
  · cases q : P b with
    | some u => exact h.nw b e (by rw [q]; exact Option.some_ne_none u)
    | none => exact h.h0_none (h'.nw b q f)
  · rcases List.mem_append.mp hc with hc | hc
    · exact h'.mem c hc
    · obtain ⟨a1, xs, a2, a3⟩ := h.mem c (List.mem_append_right _ hc)
      have nc : c.1 ∉ Mc.map Prod.fst := fun z => n3 c.1 z c.1 (List.mem_map.mpr ⟨c, hc, rfl⟩) rfl
      refine ⟨?_, xs, h'.fr c.1 _ a2 nc, a3.ex h'.ex0⟩
      cases q : P' c.1 with
      | none => rfl
      | some u =>
        have := h'.nw c.1 a1 (by rw [q]; exact Option.some_ne_none u)
        rw [show (inner P H Mc).H0 = H from rfl] at this
        rw [this] at a2
        cases a2
  · rw [List.map_append]
    refine List.nodup_append.mpr ⟨h'.nd, n2, fun a ha b hb e => ?_⟩
    subst e
    obtain ⟨c, hc, ec⟩ := List.mem_map.mp ha
    rcases old c hc with k | k
    · exact n3 a (ec ▸ k) a hb rfl
    · obtain ⟨c2, hc2, e2⟩ := List.mem_map.mp hb
      obtain ⟨xs, a2, _⟩ := (h.mem c2 (List.mem_append_right _ hc2)).2
      rw [e2, ← ec, k] at a2
      cases a2
  · have := h.mf a ha
    rw [List.map_append] at this ⊢
    rcases List.mem_append.mp this with k | k
    · exact List.mem_append_left _ (h'.mf a k)
    · exact List.mem_append_right _ k
  · rcases List.mem_append.mp hc with hc | hc
    · rcases old c hc with k | k
      · obtain ⟨c2, hc2, e2⟩ := List.mem_map.mp k
        have := h.fs c2 (List.mem_append_left _ hc2)
        rw [e2] at this
        exact this
      · exact .inr (h.h0_none k)
    · exact h.fs c (List.mem_append_right _ hc)
end

/-! ### contracts -/
abbrev Co := List It → Mem → It → Mem → Prop
def spC (C : Co) : Sp := fun vs H Q _ => ∃ (P : Hp) (is : List It) (M : Mem) (i : It) (M' : Mem), Holds (inner P H M) P H M ∧ RepIs P vs is ∧ C is M i M' ∧ ∀ v H' P', Holds (inner P H M) P' H' M' → RepI P' v i → Q v H'
structure Def (P : Program) (w : World) (K : PySem.W.Frag) (mg : Str → Option Value) (base : Heap) (x : Str) (k : Nat) (C : Co) : Prop where
  ex : ∃ f fd ps, FnOk P w K mg base CX0 k f fd ps (spC C) ∧ mg x = some (.ref f) ∧ PySem.W.keepIn K (.ref f) = true ∧ Binds K fd ps []
theorem Def.mono {P : Program} {w : World} {K : PySem.W.Frag} {mg : Str → Option Value} {base : Heap} {x : Str} {k k' : Nat} {C : Co} (F : Def P w K mg base x k C) (h : k ≤ k') : Def P w K mg base x k' C := by
  obtain ⟨f, fd, ps, a, b⟩ := F.ex
  exact ⟨f, fd, ps, a.mono h, b⟩
section
variable {X : Cx} {N : Ent} {ρ ρ' : Rho} {M M1 M2 M3 M' Mc Mr Mc' : Mem} {a b c e : Expr} {pos : Pos} {i j k : It} {t u : Bool}
theorem ej_call {x : Str} {l : Nat} {C : Co} {p : Pos} {es : List Expr} {is : List It} (F : Def X.prog X.w X.K X.mg X.base x l C) (hr : Room l X.A) (ha : AJ X N ρ M (e :: es) is M1) (hM : M1 = Mc ++ Mr) (hC : C is Mc i Mc') (hM2 : M2 = Mc' ++ Mr)
    (hg : Gl X x := by rfl) (hdb : (x == ("__debug__" : Str)) = false := by decide) (he : starEach (e :: es) X.env = (false, eval e X.env) :: starEach es X.env := by rfl) (hpl : (backTo pos (starEach es X.env)).any (·.1) = false := by rfl) :
    EJ X N ρ M (.Call (.Name x p) (e :: es) [] pos) i M2 := fun σ H P hh g Q q => by
  obtain ⟨f, fd, ps, F1, hm, hk, hb⟩ := F.ex
  refine e_of (pe_call F1 hr hg hm hk hb .nil pass0 pa_w hdb he hpl) (ha σ H P hh g _ fun vs H1 P1 e1 h1 r1 => ?_)
  subst hM hM2
  refine ⟨P1, is, Mc, i, Mc', h1.enter, ?_, hC, fun v H' P' h' r' => ?_⟩
  · rw [List.append_nil]; exact r1
  · exact q v H' P' (e1.trans h'.ex0) (h1.leave h') r'
/-- a call that asks for no cells -/
theorem ej_callP {x : Str} {l : Nat} {C : Co} {p : Pos} {es : List Expr} {is : List It} (F : Def X.prog X.w X.K X.mg X.base x l C) (hr : Room l X.A) (ha : AJ X N ρ M (e :: es) is M1) (hC : C is [] i [])
    (hg : Gl X x := by rfl) (hdb : (x == ("__debug__" : Str)) = false := by decide) (he : starEach (e :: es) X.env = (false, eval e X.env) :: starEach es X.env := by rfl) (hpl : (backTo pos (starEach es X.env)).any (·.1) = false := by rfl) :
    EJ X N ρ M (.Call (.Name x p) (e :: es) [] pos) i M1 := ej_call F hr ha (Mc := []) (Mr := M1) rfl hC rfl hg hdb he hpl

/-! ### loops -/
variable {Z : Post} {body rest : List Stmt} {tg iter : Expr}
theorem sj_forL {ds : List PyData} (hc : X.calm = true) (hi : EJ X N ρ M iter (.d (.list ds)) M1) (Inv : Nat → Rho → Mem → Prop) (h0 : Inv 0 ρ M1)
    (step : ∀ n d ρ' M', ds[n]? = some d → Inv n ρ' M' → ∃ ρ2, GJ X N tg (.d d) ρ' ρ2 ∧ SJ X N ρ2 M' body { nx := Inv (n + 1), ct := Inv (n + 1), bk := fun ρ' M' => SJ X N ρ' M' rest Z, rt := Z.rt, er := Z.er })
    (done : ∀ ρ' M', Inv ds.length ρ' M' → SJ X N ρ' M' rest Z) (hp : PassesOwn (model X.prog X.w) X.A X.env X.xe := by exact PassesOwn.never) (hf : ∀ x, foldedSetIterable iter X.env x = pure x := by intro _; rfl) : SJ X N ρ M (.For tg iter body [] pos :: rest) Z := sj_cons fun σ H P hh g D E tk z => by
  refine s_of (ps_for hp hc (pi_list pe_w) pg_w pss_w hf) (hi σ H P hh g _ fun v H1 P1 e1 h1 r1 => ?_)
  obtain ⟨a, xs, rfl, x1, x2⟩ := ri_lst r1
  have xl := dnAll_len x2
  refine ⟨a, rfl, ⟨xs, .inl (.inl (h1.ex _ _ x1))⟩, for_list (xs := xs) (fun n σ' H' => ∃ ρ' M' P', Inv n ρ' M' ∧ Holds N P' H' M' ∧ Slots P' σ' ρ' ∧ Ex P1 P') ⟨ρ, M1, P1, h0, h1, g.ex e1, Ex.refl _⟩ (fun n σ' H' _ hw => ?_) (fun n x σ' H' hx hw => ?_) (fun σ' H' hw => ?_)⟩
  · obtain ⟨ρ', M', P', _, h2, _, e2⟩ := hw
    exact .inl (.inl (h2.ex _ _ (e2 _ _ x1)))
  · obtain ⟨ρ', M', P', w, h2, g2, e2⟩ := hw
    have nl : n < ds.length := xl ▸ (List.getElem?_eq_some_iff.mp hx).1
    obtain ⟨v', ev, dv⟩ := dnAll_get x2 (List.getElem?_eq_getElem nl)
    rw [hx] at ev
    cases Option.some.inj ev
    obtain ⟨ρ2, G, S⟩ := step n _ ρ' M' (List.getElem?_eq_getElem nl) w
    refine G x σ' H' P' M' h2 g2 (dn_ex e2 _ _ dv) _ fun σ2 g3 => ?_
    refine S σ2 H' P' h2 g3 _ E tk ⟨fun ρ4 M4 σ4 H4 P4 a e h g => ⟨ρ4, M4, P4, a, h, g, e2.trans e⟩, fun i M4 v H4 P4 a e h r => z.rt i M4 v H4 P4 a ((e1.trans e2).trans e) h r, fun ρ4 M4 σ4 H4 P4 a e h g => z.nx ρ4 M4 σ4 H4 P4 a ((e1.trans e2).trans e) h g, fun ρ4 M4 σ4 H4 P4 a e h g => ⟨ρ4, M4, P4, a, h, g, e2.trans e⟩, fun w M4 d H4 P4 C c a e h x => z.er w M4 d H4 P4 C c a ((e1.trans e2).trans e) h x⟩
  · obtain ⟨ρ', M', P', w, h2, g2, e2⟩ := hw
    rw [xl] at w
    exact z.nx ρ' M' σ' H' P' (done ρ' M' w) (e1.trans e2) h2 g2
theorem sj_forT {ds : List PyData} (hc : X.calm = true) (hi : EJ X N ρ M iter (.d (.tuple ds)) M1) (Inv : Nat → Rho → Mem → Prop) (h0 : Inv 0 ρ M1)
    (step : ∀ n d ρ' M', ds[n]? = some d → Inv n ρ' M' → ∃ ρ2, GJ X N tg (.d d) ρ' ρ2 ∧ SJ X N ρ2 M' body { nx := Inv (n + 1), ct := Inv (n + 1), bk := fun ρ' M' => SJ X N ρ' M' rest Z, rt := Z.rt, er := Z.er })
    (done : ∀ ρ' M', Inv ds.length ρ' M' → SJ X N ρ' M' rest Z) (hp : PassesOwn (model X.prog X.w) X.A X.env X.xe := by exact PassesOwn.never) (hf : ∀ x, foldedSetIterable iter X.env x = pure x := by intro _; rfl) : SJ X N ρ M (.For tg iter body [] pos :: rest) Z := sj_cons fun σ H P hh g D E tk z => by
  refine s_of (ps_for hp hc (pi_tup pe_w) pg_w pss_w hf) (hi σ H P hh g _ fun v H1 P1 e1 h1 r1 => ?_)
  obtain ⟨a, xs, rfl, x1, x2⟩ := ri_tup r1
  have xl := dnAll_len x2
  refine ⟨a, rfl, ⟨xs, .inl (.inl (h1.ex _ _ x1))⟩, for_tup (xs := xs) (fun n σ' H' => ∃ ρ' M' P', Inv n ρ' M' ∧ Holds N P' H' M' ∧ Slots P' σ' ρ' ∧ Ex P1 P') ⟨ρ, M1, P1, h0, h1, g.ex e1, Ex.refl _⟩ (fun n σ' H' _ hw => ?_) (fun n x σ' H' hx hw => ?_) (fun σ' H' hw => ?_)⟩
  · obtain ⟨ρ', M', P', _, h2, _, e2⟩ := hw
    exact .inl (.inl (h2.ex _ _ (e2 _ _ x1)))
  · obtain ⟨ρ', M', P', w, h2, g2, e2⟩ := hw
    have nl : n < ds.length := xl ▸ (List.getElem?_eq_some_iff.mp hx).1
    obtain ⟨v', ev, dv⟩ := dnAll_get x2 (List.getElem?_eq_getElem nl)
    rw [hx] at ev
    cases Option.some.inj ev
    obtain ⟨ρ2, G, S⟩ := step n _ ρ' M' (List.getElem?_eq_getElem nl) w
    refine G x σ' H' P' M' h2 g2 (dn_ex e2 _ _ dv) _ fun σ2 g3 => ?_
    refine S σ2 H' P' h2 g3 _ E tk ⟨fun ρ4 M4 σ4 H4 P4 a e h g => ⟨ρ4, M4, P4, a, h, g, e2.trans e⟩, fun i M4 v H4 P4 a e h r => z.rt i M4 v H4 P4 a ((e1.trans e2).trans e) h r, fun ρ4 M4 σ4 H4 P4 a e h g => z.nx ρ4 M4 σ4 H4 P4 a ((e1.trans e2).trans e) h g, fun ρ4 M4 σ4 H4 P4 a e h g => ⟨ρ4, M4, P4, a, h, g, e2.trans e⟩, fun w M4 d H4 P4 C c a e h x => z.er w M4 d H4 P4 C c a ((e1.trans e2).trans e) h x⟩
  · obtain ⟨ρ', M', P', w, h2, g2, e2⟩ := hw
    rw [xl] at w
    exact z.nx ρ' M' σ' H' P' (done ρ' M' w) (e1.trans e2) h2 g2
/-- for x in range(n) -/
theorem sj_forR {p rp : Pos} {m : Int} (hc : X.calm = true) (hmr : X.mg "range" = none) (hi : EJ X N ρ M a (dI m) M1) (hb : -(2 ^ 62) ≤ m ∧ m < 2 ^ 62) (Inv : Nat → Rho → Mem → Prop) (h0 : Inv 0 ρ M1)
    (step : ∀ n ρ' M', n < m.toNat → Inv n ρ' M' → ∃ ρ2, GJ X N tg (dI (n : Int)) ρ' ρ2 ∧ SJ X N ρ2 M' body { nx := Inv (n + 1), ct := Inv (n + 1), bk := fun ρ' M' => SJ X N ρ' M' rest Z, rt := Z.rt, er := Z.er })
    (done : ∀ ρ' M', Inv m.toNat ρ' M' → SJ X N ρ' M' rest Z) (hp : PassesOwn (model X.prog X.w) X.A X.env X.xe := by exact PassesOwn.never) (hg : Gl X "range" := by rfl) (hs : starEach [a] X.env = [(false, eval a X.env)] := by rfl)
    (hf : ∀ x, foldedSetIterable (.Call (.Name "range" p) [a] [] rp) X.env x = pure x := by intro _; rfl) : SJ X N ρ M (.For tg (.Call (.Name "range" p) [a] [] rp) body [] pos :: rest) Z := sj_cons fun σ H P hh g D E tk z => by
  refine s_of (ps_for hp hc (pi_range1 hg hmr pa_w hs) pg_w pss_w hf) (aj_cons hi aj_nil hs σ H P hh g _ fun vs H1 P1 e1 h1 r1 => ?_)
  obtain ⟨x, rfl, r2⟩ := ri1 r1
  cases ri_int r2
  refine ⟨m, rfl, hb.1, hb.2, for_range (lo := 0) (n := m.toNat) (fun n σ' H' => ∃ ρ' M' P', Inv n ρ' M' ∧ Holds N P' H' M' ∧ Slots P' σ' ρ' ∧ Ex P1 P') ⟨ρ, M1, P1, h0, h1, g.ex e1, Ex.refl _⟩ (fun n σ' H' hn hw => ?_) (fun σ' H' hw => ?_)⟩
  · obtain ⟨ρ', M', P', w, h2, g2, e2⟩ := hw
    obtain ⟨ρ2, G, S⟩ := step n ρ' M' hn w
    refine G _ σ' H' P' M' h2 g2 (by rw [Int.zero_add]; exact .int _) _ fun σ2 g3 => ?_
    refine S σ2 H' P' h2 g3 _ E tk ⟨fun ρ4 M4 σ4 H4 P4 a e h g => ⟨ρ4, M4, P4, a, h, g, e2.trans e⟩, fun i M4 v H4 P4 a e h r => z.rt i M4 v H4 P4 a ((e1.trans e2).trans e) h r, fun ρ4 M4 σ4 H4 P4 a e h g => z.nx ρ4 M4 σ4 H4 P4 a ((e1.trans e2).trans e) h g, fun ρ4 M4 σ4 H4 P4 a e h g => ⟨ρ4, M4, P4, a, h, g, e2.trans e⟩, fun w M4 d H4 P4 C c a e h x => z.er w M4 d H4 P4 C c a ((e1.trans e2).trans e) h x⟩
  · obtain ⟨ρ', M', P', w, h2, g2, e2⟩ := hw
    exact z.nx ρ' M' σ' H' P' (done ρ' M' w) (e1.trans e2) h2 g2
theorem sj_while (n0 : Nat) (Inv : Nat → Rho → Mem → Prop) (h0 : Inv n0 ρ M)
    (step : ∀ m ρ' M', Inv m ρ' M' → ∃ t M2, TJ X N ρ' M' c t M2 ∧ (t = true → SJ X N ρ' M2 body { nx := fun ρ2 M3 => ∃ m', m' < m ∧ Inv m' ρ2 M3, ct := fun ρ2 M3 => ∃ m', m' < m ∧ Inv m' ρ2 M3, bk := fun ρ' M' => SJ X N ρ' M' rest Z, rt := Z.rt, er := Z.er }) ∧ (t = false → SJ X N ρ' M2 rest Z))
    (hp : PassesOwn (model X.prog X.w) X.A X.env X.xe := by exact PassesOwn.never) : SJ X N ρ M (.While c body [] pos :: rest) Z := sj_cons fun σ H P hh g D E tk z => by
  refine s_of (ps_while hp pt_w pss_w) ⟨fun m σ' H' => ∃ ρ' M' P', Inv m ρ' M' ∧ Holds N P' H' M' ∧ Slots P' σ' ρ' ∧ Ex P P', ⟨n0, ρ, M, P, h0, hh, g, Ex.refl P⟩, fun m σ' H' hw => ?_⟩
  obtain ⟨ρ', M', P', w, h2, g2, e2⟩ := hw
  obtain ⟨t, M2, T, S1, S2⟩ := step m ρ' M' w
  refine T σ' H' P' h2 g2 _ fun H3 P3 e3 h3 => ?_
  cases t with
  | true =>
    refine iteT ⟨fun σ4 H4 => ∃ m', m' < m ∧ ∃ ρ' M' P', Inv m' ρ' M' ∧ Holds N P' H4 M' ∧ Slots P' σ4 ρ' ∧ Ex P P', fun σ4 H4 ⟨m', l, w'⟩ => ⟨m', l, w'⟩, ?_⟩
    refine S1 rfl σ' H3 P3 h3 (g2.ex e3) _ E tk ⟨fun ρ4 M4 σ4 H4 P4 ⟨m', l, w'⟩ e h g => ⟨m', l, ρ4, M4, P4, w', h, g, (e2.trans e3).trans e⟩, fun i M4 v H4 P4 a e h r => z.rt i M4 v H4 P4 a ((e2.trans e3).trans e) h r, fun ρ4 M4 σ4 H4 P4 a e h g => z.nx ρ4 M4 σ4 H4 P4 a ((e2.trans e3).trans e) h g, fun ρ4 M4 σ4 H4 P4 ⟨m', l, w'⟩ e h g => ⟨m', l, ρ4, M4, P4, w', h, g, (e2.trans e3).trans e⟩, fun w M4 d H4 P4 C c a e h x => z.er w M4 d H4 P4 C c a ((e2.trans e3).trans e) h x⟩
  | false => exact iteF (z.nx ρ' M2 σ' H3 P3 (S2 rfl) (e2.trans e3) h3 (g2.ex e3))

/-! ### comprehensions -/
theorem put_last {M : Mem} {D : Addr} {is js : List It} (nd : ((M ++ [(D, is)]).map Prod.fst).Nodup) : (M ++ [(D, is)]).put D js = M ++ [(D, js)] := by
  unfold Mem.put
  rw [List.map_append]
  rw [List.map_append] at nd
  congr 1
  · have : (M.map fun c => if c.1 = D then (D, js) else c) = M.map id := List.map_congr_left fun c hc => if_neg fun e => (List.nodup_append.mp nd).2.2 c.1 (List.mem_map.mpr ⟨c, hc, rfl⟩) D (by simp) e
    rw [this, List.map_id]
  · simp
abbrev Blk (X : Cx) (Y : Cx) (scope : Scope) : Prop := ∃ s H C cl fp, Y = X.blk s H scope (compEnvC scope cl C X.env) fp
def wBE (X : Cx) (scope : Scope) (e : Expr) : TE := fun σ H Q => ∀ s H0 C cl fp, wE (X.blk s H0 scope (compEnvC scope cl C X.env) fp) e σ H Q
theorem slots_comp {P : Hp} {σ : L2.St} {v : V} (g : Slots P σ ρ) (n : Nat) (r : RepI P v i) : Slots P ((wipe σ [n]).set n (some v)) (ρ.set n (some i)) := by
  show Slots P ((σ.set n none).set n (some v)) (ρ.set n (some i))
  rw [List.set_set]
  exact g.set r n
theorem wipe_comp {σ : L2.St} {v : V} (n : Nat) : wipe ((wipe σ [n]).set n (some v)) [n] = wipe σ [n] := by
  show ((σ.set n none).set n (some v)).set n none = σ.set n none
  rw [List.set_set, List.set_set]
def LJ (X : Cx) (N : Ent) (ρ : Rho) (M : Mem) (te : TE) (is : List It) (M' : Mem) : Prop :=
  ∀ σ H P, Holds N P H M → Slots P σ ρ → ∀ Q : VK, (∀ p H' P', Ex P P' → p ∉ N.F → Holds N P' H' (M' ++ [(p, is)]) → Q (.ref p) H') → te σ H Q
theorem el_lc {te : TE} {is : List It} (h : LJ X N ρ M te is M1) (pe : PE X e te) : EL X N ρ M e is M1 := fun σ H P hh g Q q => e_of pe (h σ H P hh g Q q)
theorem sj_lc (n : Nat) {te : TE} {is : List It} {st : Stmt} {Z : Post} {rest : List Stmt} (h : LJ X N ρ M te is M1) (ps : PS X st (tAsg te (gName n))) (hr : ∀ p, p ∉ N.F → SJ X N (ρ.set n (some (.v (.ref p)))) (M1 ++ [(p, is)]) rest Z) : SJ X N ρ M (st :: rest) Z := sj_cons fun σ H P hh g D E tk z =>
  s_of ps (h σ H P hh g _ fun p H1 P1 e1 hp h1 => z.nx _ _ _ _ P1 (hr p hp) e1 h1 ((g.ex e1).set (it := .v (.ref p)) rfl n))
/-- (the reading) [e for x in a list of data] -/
theorem lj_comp {elt : Expr} {scope : Scope} (n : Nat) {ds : List PyData} (A : Nat → List It) (Mi : Nat → Mem) (hc : X.calm = true) (hN : X.N.Nodup) (hi : (EJ X N ρ M iter (.d (.list ds)) M1))
    (hA0 : A 0 = []) (hM0 : Mi 0 = M1) (hz : ds.length ≤ 100000)
    (step : ∀ (m : Nat) d, ds[m]? = some d → ∃ j, A (m + 1) = A m ++ [j] ∧ (A m).length ≤ m ∧ ∀ N' s H C cl fp, EJ (X.blk s H scope (compEnvC scope cl C X.env) fp) N' (ρ.set n (some (.d d))) (Mi m) elt j (Mi (m + 1)))
    : LJ X N ρ M (tLc (iList X.K (wE X iter)) (gName n) tYes (wBE X scope elt) [n]) (A ds.length) (Mi ds.length) := fun σ H P hh g Q q => by
  refine (hi σ H P hh g _ fun v H1 P1 e1 h1 r1 => ?_)
  obtain ⟨a, xs, rfl, x1, x2⟩ := ri_lst r1
  have xl := dnAll_len x2
  refine ⟨a, rfl, ⟨xs, .inl (.inl (h1.ex _ _ x1))⟩, fun D hD => lc_list (xs := xs) (fun m H' => ∃ P', Holds N P' H' (Mi m ++ [(D, A m)]) ∧ Ex P1 P') ⟨P1, by rw [hA0, hM0]; exact h1.own hD (its := []) trivial, Ex.refl _⟩ (fun m H' _ hw => ?_) (fun m x' H' hx hw => ?_) (fun H' hw => ?_)⟩
  · obtain ⟨P', h2, e2⟩ := hw
    exact .inl (.inl (h2.ex _ _ (e2 _ _ x1)))
  · obtain ⟨P', h2, e2⟩ := hw
    have nl : m < ds.length := xl ▸ (List.getElem?_eq_some_iff.mp hx).1
    obtain ⟨v', ev, dv⟩ := dnAll_get x2 (List.getElem?_eq_getElem nl)
    rw [hx] at ev
    cases Option.some.inj ev
    obtain ⟨j, eA, lA, S⟩ := step m _ (List.getElem?_eq_getElem nl)
    refine ⟨wipe_comp n, ?_⟩
    unfold tYes
    dsimp only
    rw [if_pos rfl]
    intro s H0 C cl fp
    refine S (inner P' H' (Mi m)) s H0 C cl fp _ H' P' h2.enter (slots_comp (g.ex (e1.trans e2)) n (dn_ex e2 _ _ dv)) _ fun y H4 P4 e4 h4 r4 => ?_
    have h5 := h2.leave h4
    obtain ⟨acc, ea, ra⟩ := h5.cell (a := D) (its := A m) (List.mem_append_right _ (List.mem_singleton.mpr rfl))
    refine ⟨acc, ea, by rw [ra.len]; exact Nat.lt_of_lt_of_le (Nat.lt_of_le_of_lt lA (Nat.lt_of_lt_of_le nl hz)) (by decide), P4, ?_, e2.trans e4⟩
    have h6 := h5.write (a := D) (its := A m) (its' := A (m + 1)) (List.mem_append_right _ (List.mem_singleton.mpr rfl)) (xs' := acc ++ [y]) (by rw [eA]; exact ra.app ⟨r4, trivial⟩)
    rw [put_last h5.nd] at h6
    exact h6
  · obtain ⟨P', h2, e2⟩ := hw
    rw [xl] at h2
    exact q D H' P' (e1.trans e2) (h1.newF hD) h2
/-- [e for x in a list of data] -/
theorem el_comp {elt : Expr} {x : Str} {p : Pos} {scope : Scope} (n : Nat) {ds : List PyData} (A : Nat → List It) (Mi : Nat → Mem) (hc : X.calm = true) (hN : X.N.Nodup) (hi : (EJ X N ρ M iter (.d (.list ds)) M1))
    (hA0 : A 0 = []) (hM0 : Mi 0 = M1) (hz : ds.length ≤ 100000)
    (step : ∀ (m : Nat) d, ds[m]? = some d → ∃ j, A (m + 1) = A m ++ [j] ∧ (A m).length ≤ m ∧ ∀ N' s H C cl fp, EJ (X.blk s H scope (compEnvC scope cl C X.env) fp) N' (ρ.set n (some (.d d))) (Mi m) elt j (Mi (m + 1)))
    (ok : BlkOk X.N X.env.scope scope [(x, n)] := by exact blkOk_by (by kernel_rfl))
    (hgn : ∀ (s : Shared) (H : Hp) (C : Addr) (cl : List (Str × Addr)) (fp : List Addr), PG (X.blk s H scope (compEnvC scope cl C X.env) fp) (.Name x p) (gName n) := by exact fun _ _ _ _ _ => pg_name (by assumption) rfl (Or.inl rfl))
    (hf : ∀ x, foldedSetIterable iter X.env x = pure x := by intro _; rfl) : EL X N ρ M (.ListComp elt [⟨.Name x p, iter, [], 0⟩] scope pos) (A ds.length) (Mi ds.length) :=
  el_lc (lj_comp n A Mi hc hN hi hA0 hM0 hz step) (pe_lc hc hN (pi_list pe_w) ok hgn (fun _ _ _ _ _ => pts_nil) (te := wBE X scope elt) (fun s H C cl fp => ⟨fun pins s1 σ1 H1 Q1 I1 h1 => h1 s H C cl fp pins s1 I1⟩) hf)
theorem sj_setcomp (n' : Nat) {y : Str} {py spos : Pos} {Z : Post} {rest : List Stmt} {elt : Expr} {x : Str} {p : Pos} {scope : Scope} (n : Nat) {ds : List PyData} (A : Nat → List It) (Mi : Nat → Mem) (hc : X.calm = true) (hN : X.N.Nodup) (hi : (EJ X N ρ M iter (.d (.list ds)) M1))
    (hA0 : A 0 = []) (hM0 : Mi 0 = M1) (hz : ds.length ≤ 100000)
    (step : ∀ (m : Nat) d, ds[m]? = some d → ∃ j, A (m + 1) = A m ++ [j] ∧ (A m).length ≤ m ∧ ∀ N' s H C cl fp, EJ (X.blk s H scope (compEnvC scope cl C X.env) fp) N' (ρ.set n (some (.d d))) (Mi m) elt j (Mi (m + 1)))
    (hr : ∀ p, p ∉ N.F → SJ X N (ρ.set n' (some (.v (.ref p)))) (Mi ds.length ++ [(p, A ds.length)]) rest Z)
    (hy : X.N[n']? = some y := by rfl) (hyl : X.env.scope.names.lookup y = some .local := by rfl)
    (hsw : swapsWith (.ListComp elt [⟨.Name x p, iter, [], 0⟩] scope pos) (some (.Name y py)) spos.line X.env = pure true := by exact sw_true rfl rfl rfl (by kernel_rfl))
    (ok : BlkOk X.N X.env.scope scope [(x, n)] := by exact blkOk_by (by kernel_rfl))
    (hgn : ∀ (s : Shared) (H : Hp) (C : Addr) (cl : List (Str × Addr)) (fp : List Addr), PG (X.blk s H scope (compEnvC scope cl C X.env) fp) (.Name x p) (gName n) := by exact fun _ _ _ _ _ => pg_name (by assumption) rfl (Or.inl rfl))
    (hf : ∀ x, foldedSetIterable iter X.env x = pure x := by intro _; rfl) : SJ X N ρ M (.Assign [.Name y py] (.ListComp elt [⟨.Name x p, iter, [], 0⟩] scope pos) spos :: rest) Z :=
  sj_lc n' (lj_comp n A Mi hc hN hi hA0 hM0 hz step) (ps_setLc (i := n') (y := y) (py := py) (spos := spos) hc hN hy hyl hsw (pi_list pe_w) ok hgn (fun _ _ _ _ _ => pts_nil) (te := wBE X scope elt) (fun s H C cl fp => ⟨fun pins s1 σ1 H1 Q1 I1 h1 => h1 s H C cl fp pins s1 I1⟩) hf) hr
/-- (the reading) [e for x in a tuple of data] -/
theorem lj_compT {elt : Expr} {scope : Scope} (n : Nat) {ds : List PyData} (A : Nat → List It) (Mi : Nat → Mem) (hc : X.calm = true) (hN : X.N.Nodup) (hi : (EJ X N ρ M iter (.d (.tuple ds)) M1))
    (hA0 : A 0 = []) (hM0 : Mi 0 = M1) (hz : ds.length ≤ 100000)
    (step : ∀ (m : Nat) d, ds[m]? = some d → ∃ j, A (m + 1) = A m ++ [j] ∧ (A m).length ≤ m ∧ ∀ N' s H C cl fp, EJ (X.blk s H scope (compEnvC scope cl C X.env) fp) N' (ρ.set n (some (.d d))) (Mi m) elt j (Mi (m + 1)))
    : LJ X N ρ M (tLc (iTup X.K (wE X iter)) (gName n) tYes (wBE X scope elt) [n]) (A ds.length) (Mi ds.length) := fun σ H P hh g Q q => by
  refine (hi σ H P hh g _ fun v H1 P1 e1 h1 r1 => ?_)
  obtain ⟨a, xs, rfl, x1, x2⟩ := ri_tup r1
  have xl := dnAll_len x2
  refine ⟨a, rfl, ⟨xs, .inl (.inl (h1.ex _ _ x1))⟩, fun D hD => lc_tup (xs := xs) (fun m H' => ∃ P', Holds N P' H' (Mi m ++ [(D, A m)]) ∧ Ex P1 P') ⟨P1, by rw [hA0, hM0]; exact h1.own hD (its := []) trivial, Ex.refl _⟩ (fun m H' _ hw => ?_) (fun m x' H' hx hw => ?_) (fun H' hw => ?_)⟩
  · obtain ⟨P', h2, e2⟩ := hw
    exact .inl (.inl (h2.ex _ _ (e2 _ _ x1)))
  · obtain ⟨P', h2, e2⟩ := hw
    have nl : m < ds.length := xl ▸ (List.getElem?_eq_some_iff.mp hx).1
    obtain ⟨v', ev, dv⟩ := dnAll_get x2 (List.getElem?_eq_getElem nl)
    rw [hx] at ev
    cases Option.some.inj ev
    obtain ⟨j, eA, lA, S⟩ := step m _ (List.getElem?_eq_getElem nl)
    refine ⟨wipe_comp n, ?_⟩
    unfold tYes
    dsimp only
    rw [if_pos rfl]
    intro s H0 C cl fp
    refine S (inner P' H' (Mi m)) s H0 C cl fp _ H' P' h2.enter (slots_comp (g.ex (e1.trans e2)) n (dn_ex e2 _ _ dv)) _ fun y H4 P4 e4 h4 r4 => ?_
    have h5 := h2.leave h4
    obtain ⟨acc, ea, ra⟩ := h5.cell (a := D) (its := A m) (List.mem_append_right _ (List.mem_singleton.mpr rfl))
    refine ⟨acc, ea, by rw [ra.len]; exact Nat.lt_of_lt_of_le (Nat.lt_of_le_of_lt lA (Nat.lt_of_lt_of_le nl hz)) (by decide), P4, ?_, e2.trans e4⟩
    have h6 := h5.write (a := D) (its := A m) (its' := A (m + 1)) (List.mem_append_right _ (List.mem_singleton.mpr rfl)) (xs' := acc ++ [y]) (by rw [eA]; exact ra.app ⟨r4, trivial⟩)
    rw [put_last h5.nd] at h6
    exact h6
  · obtain ⟨P', h2, e2⟩ := hw
    rw [xl] at h2
    exact q D H' P' (e1.trans e2) (h1.newF hD) h2
/-- [e for x in a tuple of data] -/
theorem el_compT {elt : Expr} {x : Str} {p : Pos} {scope : Scope} (n : Nat) {ds : List PyData} (A : Nat → List It) (Mi : Nat → Mem) (hc : X.calm = true) (hN : X.N.Nodup) (hi : (EJ X N ρ M iter (.d (.tuple ds)) M1))
    (hA0 : A 0 = []) (hM0 : Mi 0 = M1) (hz : ds.length ≤ 100000)
    (step : ∀ (m : Nat) d, ds[m]? = some d → ∃ j, A (m + 1) = A m ++ [j] ∧ (A m).length ≤ m ∧ ∀ N' s H C cl fp, EJ (X.blk s H scope (compEnvC scope cl C X.env) fp) N' (ρ.set n (some (.d d))) (Mi m) elt j (Mi (m + 1)))
    (ok : BlkOk X.N X.env.scope scope [(x, n)] := by exact blkOk_by (by kernel_rfl))
    (hgn : ∀ (s : Shared) (H : Hp) (C : Addr) (cl : List (Str × Addr)) (fp : List Addr), PG (X.blk s H scope (compEnvC scope cl C X.env) fp) (.Name x p) (gName n) := by exact fun _ _ _ _ _ => pg_name (by assumption) rfl (Or.inl rfl))
    (hf : ∀ x, foldedSetIterable iter X.env x = pure x := by intro _; rfl) : EL X N ρ M (.ListComp elt [⟨.Name x p, iter, [], 0⟩] scope pos) (A ds.length) (Mi ds.length) :=
  el_lc (lj_compT n A Mi hc hN hi hA0 hM0 hz step) (pe_lc hc hN (pi_tup pe_w) ok hgn (fun _ _ _ _ _ => pts_nil) (te := wBE X scope elt) (fun s H C cl fp => ⟨fun pins s1 σ1 H1 Q1 I1 h1 => h1 s H C cl fp pins s1 I1⟩) hf)
theorem sj_setcompT (n' : Nat) {y : Str} {py spos : Pos} {Z : Post} {rest : List Stmt} {elt : Expr} {x : Str} {p : Pos} {scope : Scope} (n : Nat) {ds : List PyData} (A : Nat → List It) (Mi : Nat → Mem) (hc : X.calm = true) (hN : X.N.Nodup) (hi : (EJ X N ρ M iter (.d (.tuple ds)) M1))
    (hA0 : A 0 = []) (hM0 : Mi 0 = M1) (hz : ds.length ≤ 100000)
    (step : ∀ (m : Nat) d, ds[m]? = some d → ∃ j, A (m + 1) = A m ++ [j] ∧ (A m).length ≤ m ∧ ∀ N' s H C cl fp, EJ (X.blk s H scope (compEnvC scope cl C X.env) fp) N' (ρ.set n (some (.d d))) (Mi m) elt j (Mi (m + 1)))
    (hr : ∀ p, p ∉ N.F → SJ X N (ρ.set n' (some (.v (.ref p)))) (Mi ds.length ++ [(p, A ds.length)]) rest Z)
    (hy : X.N[n']? = some y := by rfl) (hyl : X.env.scope.names.lookup y = some .local := by rfl)
    (hsw : swapsWith (.ListComp elt [⟨.Name x p, iter, [], 0⟩] scope pos) (some (.Name y py)) spos.line X.env = pure true := by exact sw_true rfl rfl rfl (by kernel_rfl))
    (ok : BlkOk X.N X.env.scope scope [(x, n)] := by exact blkOk_by (by kernel_rfl))
    (hgn : ∀ (s : Shared) (H : Hp) (C : Addr) (cl : List (Str × Addr)) (fp : List Addr), PG (X.blk s H scope (compEnvC scope cl C X.env) fp) (.Name x p) (gName n) := by exact fun _ _ _ _ _ => pg_name (by assumption) rfl (Or.inl rfl))
    (hf : ∀ x, foldedSetIterable iter X.env x = pure x := by intro _; rfl) : SJ X N ρ M (.Assign [.Name y py] (.ListComp elt [⟨.Name x p, iter, [], 0⟩] scope pos) spos :: rest) Z :=
  sj_lc n' (lj_compT n A Mi hc hN hi hA0 hM0 hz step) (ps_setLc (i := n') (y := y) (py := py) (spos := spos) hc hN hy hyl hsw (pi_tup pe_w) ok hgn (fun _ _ _ _ _ => pts_nil) (te := wBE X scope elt) (fun s H C cl fp => ⟨fun pins s1 σ1 H1 Q1 I1 h1 => h1 s H C cl fp pins s1 I1⟩) hf) hr
/-- (the reading) [e for x in range(n)] -/
theorem lj_compR {elt : Expr} {scope : Scope} (n : Nat) {z : Int} (A : Nat → List It) (Mi : Nat → Mem) (hc : X.calm = true) (hmr : X.mg "range" = none) (hN : X.N.Nodup) (hi : EJ X N ρ M a (dI z) M1)
    (hA0 : A 0 = []) (hM0 : Mi 0 = M1) (hz : z ≤ 100000 ∧ -(2 ^ 62) ≤ z)
    (step : ∀ (m : Nat), m < z.toNat → ∃ j, A (m + 1) = A m ++ [j] ∧ (A m).length ≤ m ∧ ∀ N' s H C cl fp, EJ (X.blk s H scope (compEnvC scope cl C X.env) fp) N' (ρ.set n (some (dI (m : Int)))) (Mi m) elt j (Mi (m + 1)))
    (hs : starEach [a] X.env = [(false, eval a X.env)] := by rfl)
    : LJ X N ρ M (tLc (iRng1 (wA X [a])) (gName n) tYes (wBE X scope elt) [n]) (A z.toNat) (Mi z.toNat) := fun σ H P hh g Q q => by
  refine (aj_cons hi aj_nil hs σ H P hh g _ fun vs H1 P1 e1 h1 r1 => ?_)
  obtain ⟨x', rfl, r2⟩ := ri1 r1
  cases ri_int r2
  refine ⟨z, rfl, hz.2, by omega, fun D hD => lc_range (lo := 0) (n := z.toNat) (fun m H' => ∃ P', Holds N P' H' (Mi m ++ [(D, A m)]) ∧ Ex P1 P') ⟨P1, by rw [hA0, hM0]; exact h1.own hD (its := []) trivial, Ex.refl _⟩ (fun m H' nl hw => ?_) (fun H' hw => ?_)⟩
  · obtain ⟨P', h2, e2⟩ := hw
    obtain ⟨j, eA, lA, S⟩ := step m nl
    refine ⟨wipe_comp n, ?_⟩
    unfold tYes
    dsimp only
    rw [if_pos rfl]
    intro s H0 C cl fp
    refine S (inner P' H' (Mi m)) s H0 C cl fp _ H' P' h2.enter (slots_comp (g.ex (e1.trans e2)) n (by rw [Int.zero_add]; exact .int _)) _ fun y H4 P4 e4 h4 r4 => ?_
    have h5 := h2.leave h4
    obtain ⟨acc, ea, ra⟩ := h5.cell (a := D) (its := A m) (List.mem_append_right _ (List.mem_singleton.mpr rfl))
    refine ⟨acc, ea, by rw [ra.len]; exact Nat.lt_of_lt_of_le (Nat.lt_of_le_of_lt lA (by omega : m < 100000)) (by decide), P4, ?_, e2.trans e4⟩
    have h6 := h5.write (a := D) (its := A m) (its' := A (m + 1)) (List.mem_append_right _ (List.mem_singleton.mpr rfl)) (xs' := acc ++ [y]) (by rw [eA]; exact ra.app ⟨r4, trivial⟩)
    rw [put_last h5.nd] at h6
    exact h6
  · obtain ⟨P', h2, e2⟩ := hw
    exact q D H' P' (e1.trans e2) (h1.newF hD) h2
/-- [e for x in range(n)] -/
theorem el_compR {elt : Expr} {x : Str} {p rpp rp : Pos} {scope : Scope} (n : Nat) {z : Int} (A : Nat → List It) (Mi : Nat → Mem) (hc : X.calm = true) (hmr : X.mg "range" = none) (hN : X.N.Nodup) (hi : EJ X N ρ M a (dI z) M1)
    (hA0 : A 0 = []) (hM0 : Mi 0 = M1) (hz : z ≤ 100000 ∧ -(2 ^ 62) ≤ z)
    (step : ∀ (m : Nat), m < z.toNat → ∃ j, A (m + 1) = A m ++ [j] ∧ (A m).length ≤ m ∧ ∀ N' s H C cl fp, EJ (X.blk s H scope (compEnvC scope cl C X.env) fp) N' (ρ.set n (some (dI (m : Int)))) (Mi m) elt j (Mi (m + 1)))
    (ok : BlkOk X.N X.env.scope scope [(x, n)] := by exact blkOk_by (by kernel_rfl))
    (hgn : ∀ (s : Shared) (H : Hp) (C : Addr) (cl : List (Str × Addr)) (fp : List Addr), PG (X.blk s H scope (compEnvC scope cl C X.env) fp) (.Name x p) (gName n) := by exact fun _ _ _ _ _ => pg_name (by assumption) rfl (Or.inl rfl))
    (hg : Gl X "range" := by rfl) (hs : starEach [a] X.env = [(false, eval a X.env)] := by rfl)
    (hf : ∀ x, foldedSetIterable (.Call (.Name "range" rpp) [a] [] rp) X.env x = pure x := by intro _; rfl) : EL X N ρ M (.ListComp elt [⟨.Name x p, .Call (.Name "range" rpp) [a] [] rp, [], 0⟩] scope pos) (A z.toNat) (Mi z.toNat) :=
  el_lc (lj_compR n A Mi hc hmr hN hi hA0 hM0 hz step hs) (pe_lc hc hN (pi_range1 hg hmr pa_w hs) ok hgn (fun _ _ _ _ _ => pts_nil) (te := wBE X scope elt) (fun s H C cl fp => ⟨fun pins s1 σ1 H1 Q1 I1 h1 => h1 s H C cl fp pins s1 I1⟩) hf)
theorem sj_setcompR (n' : Nat) {y : Str} {py spos : Pos} {Z : Post} {rest : List Stmt} {elt : Expr} {x : Str} {p rpp rp : Pos} {scope : Scope} (n : Nat) {z : Int} (A : Nat → List It) (Mi : Nat → Mem) (hc : X.calm = true) (hmr : X.mg "range" = none) (hN : X.N.Nodup) (hi : EJ X N ρ M a (dI z) M1)
    (hA0 : A 0 = []) (hM0 : Mi 0 = M1) (hz : z ≤ 100000 ∧ -(2 ^ 62) ≤ z)
    (step : ∀ (m : Nat), m < z.toNat → ∃ j, A (m + 1) = A m ++ [j] ∧ (A m).length ≤ m ∧ ∀ N' s H C cl fp, EJ (X.blk s H scope (compEnvC scope cl C X.env) fp) N' (ρ.set n (some (dI (m : Int)))) (Mi m) elt j (Mi (m + 1)))
    (hr : ∀ p, p ∉ N.F → SJ X N (ρ.set n' (some (.v (.ref p)))) (Mi z.toNat ++ [(p, A z.toNat)]) rest Z)
    (hy : X.N[n']? = some y := by rfl) (hyl : X.env.scope.names.lookup y = some .local := by rfl)
    (hsw : swapsWith (.ListComp elt [⟨.Name x p, .Call (.Name "range" rpp) [a] [] rp, [], 0⟩] scope pos) (some (.Name y py)) spos.line X.env = pure true := by exact sw_true rfl rfl rfl (by kernel_rfl))
    (ok : BlkOk X.N X.env.scope scope [(x, n)] := by exact blkOk_by (by kernel_rfl))
    (hgn : ∀ (s : Shared) (H : Hp) (C : Addr) (cl : List (Str × Addr)) (fp : List Addr), PG (X.blk s H scope (compEnvC scope cl C X.env) fp) (.Name x p) (gName n) := by exact fun _ _ _ _ _ => pg_name (by assumption) rfl (Or.inl rfl))
    (hg : Gl X "range" := by rfl) (hs : starEach [a] X.env = [(false, eval a X.env)] := by rfl)
    (hf : ∀ x, foldedSetIterable (.Call (.Name "range" rpp) [a] [] rp) X.env x = pure x := by intro _; rfl) : SJ X N ρ M (.Assign [.Name y py] (.ListComp elt [⟨.Name x p, .Call (.Name "range" rpp) [a] [] rp, [], 0⟩] scope pos) spos :: rest) Z :=
  sj_lc n' (lj_compR n A Mi hc hmr hN hi hA0 hM0 hz step hs) (ps_setLc (i := n') (y := y) (py := py) (spos := spos) hc hN hy hyl hsw (pi_range1 hg hmr pa_w hs) ok hgn (fun _ _ _ _ _ => pts_nil) (te := wBE X scope elt) (fun s H C cl fp => ⟨fun pins s1 σ1 H1 Q1 I1 h1 => h1 s H C cl fp pins s1 I1⟩) hf) hr

/-! ### a def keeps its contract -/
theorem slots_start {P : Hp} {vs : List V} {is : List It} (n : Nat) (r : RepIs P vs is) : Slots P (vs.map some ++ List.replicate n none) (is.map some ++ List.replicate n none) := by
  refine ⟨by simp [r.len], fun k it q => ?_⟩
  by_cases l : k < is.length
  · rw [List.getElem?_append_left (by simpa using l), List.getElem?_map] at q
    cases e : is[k]? with
    | none => rw [e] at q; cases q
    | some i =>
      rw [e] at q
      cases Option.some.inj (Option.some.inj q)
      obtain ⟨v, e1, e2⟩ := r.get e
      refine ⟨v, ?_, e2⟩
      rw [List.getElem?_append_left (by simpa [r.len] using l), List.getElem?_map, e1]
      rfl
  · rw [List.getElem?_append_right (by simpa using Nat.le_of_not_lt l), List.getElem?_replicate] at q
    split at q
    · cases q
    · cases q
def rho (N : List Str) (is : List It) : Rho := is.map some ++ List.replicate (N.length - is.length) none
def retZ (i : It) (M' : Mem) : Post := { nx := fun _ M'' => i = .d .none ∧ ∃ L, M'' = M' ++ L, rt := fun i' M'' => i' = i ∧ ∃ L, M'' = M' ++ L }
theorem def_ok {P : Program} {w : World} {K : PySem.W.Frag} {mg : Str → Option Value} {base : Heap} {x qual : Str} {st : Stmt} {f : Addr} {fd : FuncData} {NN ps : List Str} {l : Nat} {C : Co} (F : Fun K x qual st f fd) (S : FnScope NN ps (defScope st))
    (hm : mg x = some (.ref f)) (hb : Binds K fd ps []) (len : ∀ is M i M', C is M i M' → is.length = ps.length ∧ M'.map Prod.fst = M.map Prod.fst)
    (body : ∀ X : Cx, (∃ cdv A outer s H E, X = (cxOf CX0 P w K mg base NN qual (defScope st) f cdv A outer s H E).nox ∧ Room l X.A) → ∀ N is M i M', N.F = M.map Prod.fst → C is M i M' → SJ X N (rho NN is) M (defBody st) (retZ i M')) : Def P w K mg base x (l + 1) C := by
  refine ⟨f, fd, ps, F.ok S (fun vs H Q E h => ?_) (fun cdv A outer s H vs Q E hr h => ?_), hm, F.kp, hb⟩
  · obtain ⟨P0, is, M, i, M', _, r, hC, _⟩ := h
    rw [r.len]
    exact (len _ _ _ _ hC).1
  · obtain ⟨P0, is, M, i, M', h0, r, hC, q⟩ := h
    have back : ∀ {P' H' M'' L}, M'' = M' ++ L → Holds (inner P0 H M) P' H' M'' → Holds (inner P0 H M) P' H' M' := fun {P' H' M'' L} e hh => by
      subst e
      refine hh.sub (fun c hc => List.mem_append_left _ hc) ?_ fun a ha => ?_
      · have := hh.nd
        rw [List.map_append] at this
        exact (List.nodup_append.mp this).1
      · rw [(len _ _ _ _ hC).2]
        exact ha
    refine ⟨_, pss_w, ?_⟩
    have es : L2.start NN vs = vs.map some ++ List.replicate (NN.length - is.length) none := by
      unfold L2.start
      rw [r.len]
    rw [es]
    refine body _ ⟨cdv, A, outer, s, H, E, rfl, hr⟩ (inner P0 H M) is M i M' rfl hC _ H P0 h0 (slots_start _ r) _ E0 takes0 ⟨fun ρ' M'' σ' H' P' a e hh g => ?_, fun i' M'' v H' P' a e hh rr => ?_, fun _ _ _ _ _ a => a.elim, fun _ _ _ _ _ a => a.elim, fun _ _ _ _ _ _ _ a => a.elim⟩
    · obtain ⟨rfl, L, eL⟩ := a
      exact q _ H' P' (back eL hh) .non
    · obtain ⟨rfl, L, eL⟩ := a
      exact q _ H' P' (back eL hh) rr
end
end Kt

/-! Kt5: the program's own error with a name: made, raised, caught, read. -/
namespace Kt
open PySem PySem.Spec PyProof.Rows L2
section
variable {X : Cx} {e : Expr} {es : List Expr} {ta : TA} {p p1 p2 pos : Pos}
/-- Base.__init__(self, ..), Base an own class over ValueError without an __init__ of its own -/
theorem pe_hinit {x : Str} {C0 : Addr} {pl : Sem Bool} (hg : Gl X x) (hm : X.mg x = some (.ref C0)) (sp : PySem.W.specialIn X.K (.ref C0) "__getattribute__" = some (some (.builtin "type.__getattribute__"))) (hr : PySem.W.readsIn X.K C0 (.type "type") = true)
    (vV : PySem.W.findCls X.K (.ref C0) (.type "type") "__init__" = some (.val (.builtin "ValueError.__init__"))) (ha : PA X (e :: es) ta)
    (hd : (x == ("__debug__" : Str)) = false := by decide)
    (hc : eval (.Call (.Attribute (.Name x p1) "__init__" p2) (e :: es) [] pos) X.env = (do
      let ov ← eval (.Name x p1) X.env
      standAt p2.atName
      let (f, first) ← holding [ov] (getMethod ov "__init__" pl)
      callWith pos f first (backTo pos (starEach (e :: es) X.env)) (backToKw pos (keywordEach [] X.env))) := by rfl)
    (he : starEach (e :: es) X.env = (false, eval e X.env) :: starEach es X.env := by rfl) (hpl : (backTo pos (starEach es X.env)).any (·.1) = false := by rfl) :
    PE X (.Call (.Attribute (.Name x p1) "__init__" p2) (e :: es) [] pos) (tVeI X.K ta) := by
  refine ⟨fun pins s σ H Q I h => ?_⟩
  refine PySem.W.methodCall_KW (ld_glob I hg hm ?_ hd) hc
  refine PySem.W.method_cls I.kIn sp ?_
  refine PySem.W.cls_value I.kIn hr vV (by decide +kernel) ?_
  show wpAny _ _ (callWith pos (Value.builtin "ValueError.__init__") [] (backTo pos (starEach (e :: es) X.env)) []) _ _ _
  refine PyProof.Rows.callWith_method1 (thn (ha.run pos pins _ σ H _ (I.tok _) h) fun us s1 ⟨vs, H1, I1, r1, a, C, ws, ev, hl, T, ea, q⟩ => ?_) he hpl
  subst ev
  cases r1 with
  | @cons _ u0 _ ur ra rw' =>
    obtain rfl : u0 = Value.ref a := ra
    have hlen : ur.length ≤ sizeLine := by
      rw [← Paired.length rw', sizeLine_eq]
      omega
    exact oinit_ok T I1 ea hlen fun s' J => ⟨.non, H1, J, rfl, q⟩
end
structure ErrTxt (K : PySem.W.Frag) (mg : Str → Option Value) (sI : Stmt) (Cs C0 fI : Addr) (fd : FuncData) : Prop where
  gS : mg "ShapeError" = some (.ref Cs)
  g0 : mg "HeardError" = some (.ref C0)
  oex : OexC K Cs
  iC : PySem.W.findIn K (.ref Cs) "__init__" = some (some (.ref fI))
  tI : PySem.W.typeIn K (.ref fI) = some (.type "function")
  no : PySem.W.findIn K (.ref Cs) "name" = some none
  sp0 : PySem.W.specialIn K (.ref C0) "__getattribute__" = some (some (.builtin "type.__getattribute__"))
  rd0 : PySem.W.readsIn K C0 (.type "type") = true
  v0 : PySem.W.findCls K (.ref C0) (.type "type") "__init__" = some (.val (.builtin "ValueError.__init__"))
  te : PySem.W.exmOne K (.ref Cs) (.ref Cs) = some true
  ga : PySem.W.findIn K (.ref Cs) "__getattribute__" = some (some (.builtin "BaseException.__getattribute__"))
  gg : PySem.W.findIn K (.ref Cs) "__getattr__" = some none
  hd : PySem.W.hasDictIn K Cs = true
  fn : Fun K "__init__" "ShapeError.__init__" sI fI fd
  bi : Binds K fd ["self", "name"] []
def spInit (Cs : Addr) : Sp := fun vs H Q _ => ∃ (a : Addr) (z : Str), vs = [.ref a, .str z] ∧ H a = some (exo a Cs none) ∧ z.length ≤ 1000 ∧ ∀ dx, H dx = none → dx ≠ a → Q .non (upd (upd H dx (exd dx [("name", .str z)])) a (exo a Cs (some dx)))
def InitOk (P : Program) (w : World) (K : PySem.W.Frag) (mg : Str → Option Value) (base : Heap) (Cs fI : Addr) (fd : FuncData) : Prop := FnOk P w K mg base CX0 1 fI fd ["self", "name"] (spInit Cs)
theorem Holds.junk {N : Ent} {P H : Hp} {M : Mem} (h : Holds N P H M) {p : Addr} {o : HO} (hp : H p = none) (nf : ∀ od kvs, o ≠ .frz od (.dK kvs) := by intro _ _ h; cases h) : Holds N P (upd H p o) M := by
  refine ⟨fun a u e => ?_, h.ex0, fun b u e f => ?_, h.nw, fun c hc => ?_, h.nd, h.mf, h.fs, h.ufu nf, h.pf⟩
  · rw [upd_ne (ne_of_none e (h.no hp))]
    exact h.exw a u e
  · have := h.fr b u e f
    rw [upd_ne (ne_of_none this hp)]
    exact this
  · obtain ⟨a1, xs, a2, a3⟩ := h.mem c hc
    exact ⟨a1, xs, by rw [upd_ne (ne_of_none a2 hp)]; exact a2, a3⟩
section
variable {X : Cx} {N : Ent} {ρ ρ' : Rho} {M M1 M2 M' Mc Mr Mc' : Mem} {a b c e : Expr} {pos pos2 p : Pos} {i j k : It} {Z : Post} {rest : List Stmt} {Cs C0 fI : Addr} {fd : FuncData} {sI : Stmt}
/-- raise ShapeError(e) -/
theorem sj_raise {z : Str} (hc : X.calm = true) (T : ErrTxt X.K X.mg sI Cs C0 fI fd) (F1 : InitOk X.prog X.w X.K X.mg X.base Cs fI fd) (hr : Room 2 X.A) (he : EJ X N ρ M e (.d (.str z)) M1) (hz : z.length ≤ 1000) (h : Z.er z M1)
    (hg : Gl X "ShapeError" := by rfl) (hs : starEach [e] X.env = [(false, eval e X.env)] := by rfl) (hpl : (backTo pos (starEach ([] : List Expr) X.env)).any (·.1) = false := by rfl) :
    SJ X N ρ M (.Raise (some (.Call (.Name "ShapeError" p) [e] [] pos)) none pos2 :: rest) Z := sj_cons fun σ H P hh g D E tk zd => by
  refine s_of (ps_raise hc tk (pmk_oex T.oex T.iC T.tI F1 hr T.bi .nil pass0 hg T.gS (pa_cons pe_w pa_nil hs) (by decide) hs hpl)) ?_
  refine he σ H P hh g _ fun v H1 P1 e1 h1 r1 => ?_
  cases ri_str r1
  refine ⟨(by show 1 ≤ 1000; decide), fun a ha => ⟨a, z, rfl, upd_same, hz, fun dx hdx ne => ⟨rfl, dx, [("name", .str z)], upd_same, ?_, ?_, ?_⟩⟩⟩
  · rw [upd_ne ne, upd_same]
  · rw [upd_ne ne] at hdx
    exact hdx
  · have hdx' : H1 dx = none := by
      rw [upd_ne ne] at hdx
      exact hdx
    have eq : upd (del (upd (upd (upd H1 a (exo a Cs none)) dx (exd dx [("name", .str z)])) a (exo a Cs (some dx))) a) dx (XD z) = upd H1 dx (XD z) := by
      funext b
      by_cases hb : b = dx
      · subst hb
        rw [upd_same, upd_same]
      · rw [upd_ne hb, upd_ne hb]
        by_cases hba : b = a
        · subst hba
          rw [del_same, ha]
        · rw [del_ne hba, upd_ne hba, upd_ne hb, upd_ne hba]
    show E (.ref Cs) (some dx) (upd (del (upd (upd (upd H1 a (exo a Cs none)) dx (exd dx [("name", .str z)])) a (exo a Cs (some dx))) a) dx (XD z))
    rw [eq]
    exact zd.er z M1 dx _ P1 Cs T.gS h e1 (h1.junk hdx') upd_same

/-! ### contracts of defs that may raise -/
abbrev Ro := List It → Mem → Str → Prop
def spX (mg : Str → Option Value) (C : Co) (R : Ro) : Sp := fun vs H Q E => ∃ (P : Hp) (is : List It) (M : Mem), Holds (inner P H M) P H M ∧ RepIs P vs is ∧
  ((∃ i M', C is M i M' ∧ ∀ v H' P', Holds (inner P H M) P' H' M' → RepI P' v i → Q v H') ∨
    (∃ z, R is M z ∧ ∀ d H' P' Cs, mg "ShapeError" = some (.ref Cs) → Holds (inner P H M) P' H' M → H' d = some (XD z) → E (.ref Cs) (some d) H'))
structure DefX (P : Program) (w : World) (K : PySem.W.Frag) (mg : Str → Option Value) (base : Heap) (x : Str) (k : Nat) (C : Co) (R : Ro) : Prop where
  ex : ∃ f fd ps, FnOk P w K mg base (L2.CX P w) k f fd ps (spX mg C R) ∧ mg x = some (.ref f) ∧ PySem.W.keepIn K (.ref f) = true ∧ Binds K fd ps []
/-- e raises an error of this name -/
def XJ (X : Cx) (N : Ent) (ρ : Rho) (M : Mem) (e : Expr) (z : Str) : Prop :=
  ∀ σ H P, Holds N P H M → Slots P σ ρ → ∀ E : XK, Takes X (fun c d _ H => E c d H) → (∀ d H' P' Cs, X.mg "ShapeError" = some (.ref Cs) → Ex P P' → Holds N P' H' M → H' d = some (XD z) → E (.ref Cs) (some d) H') → ∀ Q : VK, wE X e σ H Q
variable {es : List Expr} {is : List It}
/-- a call that does not raise here -/
theorem ej_callX {x : Str} {l : Nat} {C : Co} {R : Ro} (F : DefX X.prog X.w X.K X.mg X.base x l C R) (hr : Room l X.A) (ha : AJ X N ρ M (e :: es) is M1) (hM : M1 = Mc ++ Mr) (hC : C is Mc i Mc') (hM2 : M2 = Mc' ++ Mr)
    (hg : Gl X x := by rfl) (hdb : (x == ("__debug__" : Str)) = false := by decide) (he : starEach (e :: es) X.env = (false, eval e X.env) :: starEach es X.env := by rfl) (hpl : (backTo pos (starEach es X.env)).any (·.1) = false := by rfl) :
    EJ X N ρ M (.Call (.Name x p) (e :: es) [] pos) i M2 := fun σ H P hh g Q q => by
  obtain ⟨f, fd, ps, F1, hm, hk, hb⟩ := F.ex
  refine e_of (pe_call F1 hr hg hm hk hb .nil passL pa_w hdb he hpl) (ha σ H P hh g _ fun vs H1 P1 e1 h1 r1 => ?_)
  subst hM hM2
  refine ⟨P1, is, Mc, h1.enter, ?_, .inl ⟨i, Mc', hC, fun v H' P' h' r' => ?_⟩⟩
  · rw [List.append_nil]; exact r1
  · exact q v H' P' (e1.trans h'.ex0) (h1.leave h') r'
/-- a call that raises -/
theorem xj_callX {x : Str} {z : Str} {l : Nat} {C : Co} {R : Ro} (F : DefX X.prog X.w X.K X.mg X.base x l C R) (hr : Room l X.A) (ha : AJ X N ρ M (e :: es) is M) (hR : R is [] z)
    (hg : Gl X x := by rfl) (hdb : (x == ("__debug__" : Str)) = false := by decide) (he : starEach (e :: es) X.env = (false, eval e X.env) :: starEach es X.env := by rfl) (hpl : (backTo pos (starEach es X.env)).any (·.1) = false := by rfl) :
    XJ X N ρ M (.Call (.Name x p) (e :: es) [] pos) z := fun σ H P hh g E tk er Q => by
  obtain ⟨f, fd, ps, F1, hm, hk, hb⟩ := F.ex
  refine e_of (pe_callS F1 hr hg hm hk hb (fun σ => passAt tk σ) pa_w hdb he hpl) (ha σ H P hh g _ fun vs H1 P1 e1 h1 r1 => ?_)
  have h2 : Holds N P1 H1 ([] ++ M) := h1
  refine ⟨P1, is, [], h2.enter, r1, .inr ⟨z, hR, fun d H' P' Cs gs h' x' => ?_⟩⟩
  exact er d H' P' Cs gs (e1.trans h'.ex0) (h2.leave h') x'
theorem sj_exprX {z : Str} (he : XJ X N ρ M e z) (h : Z.er z M) (hs : swapsWith e none pos.line X.env = pure false := by rfl) : SJ X N ρ M (.Expr e pos :: rest) Z := sj_cons fun σ H P hh g D E tk zd =>
  s_of (ps_expr pe_w hs) (he σ H P hh g E tk (fun d H' P' Cs gs e1 h1 x => zd.er z M d H' P' Cs gs h e1 h1 x) _)
theorem sj_retX {z : Str} (he : XJ X N ρ M e z) (h : Z.er z M) : SJ X N ρ M (.Return (some e) pos :: rest) Z := sj_cons fun σ H P hh g D E tk zd =>
  s_of (ps_ret pe_w) (he σ H P hh g E tk (fun d H' P' Cs gs e1 h1 x => zd.er z M d H' P' Cs gs h e1 h1 x) _)
/-- a def that may raise keeps its contract -/
theorem defX_ok {P : Program} {w : World} {K : PySem.W.Frag} {mg : Str → Option Value} {base : Heap} {x qual : Str} {st : Stmt} {f : Addr} {fd : FuncData} {NN ps : List Str} {l : Nat} {C : Co} {R : Ro} (F : Fun K x qual st f fd) (S : FnScope NN ps (defScope st))
    (hm : mg x = some (.ref f)) (hb : Binds K fd ps []) (len : ∀ is M i M', C is M i M' → is.length = ps.length ∧ M'.map Prod.fst = M.map Prod.fst) (len2 : ∀ is M z, R is M z → is.length = ps.length)
    (body : ∀ X : Cx, (∃ cdv A outer s H E, X = cxOf (L2.CX P w) P w K mg base NN qual (defScope st) f cdv A outer s H E ∧ Room l X.A) → ∀ N is M, N.F = M.map Prod.fst →
      (∀ i M', C is M i M' → SJ X N (rho NN is) M (defBody st) (retZ i M')) ∧ (∀ z, R is M z → SJ X N (rho NN is) M (defBody st) { nx := fun _ _ => False, rt := fun _ _ => False, er := fun z' M' => z' = z ∧ M' = M })) : DefX P w K mg base x (l + 1) C R := by
  refine ⟨f, fd, ps, F.okX S (fun vs H Q E h => ?_) (fun cdv A outer s H vs Q E hr h => ?_), hm, F.kp, hb⟩
  · obtain ⟨P0, is, M, _, r, ⟨i, M', hC, _⟩ | ⟨z, hR, _⟩⟩ := h
    · rw [r.len]
      exact (len _ _ _ _ hC).1
    · rw [r.len]
      exact len2 _ _ _ hR
  · obtain ⟨P0, is, M, h0, r, hq⟩ := h
    refine ⟨_, pss_w, ?_⟩
    have es : L2.start NN vs = vs.map some ++ List.replicate (NN.length - is.length) none := by
      unfold L2.start
      rw [r.len]
    rw [es]
    have B := body _ ⟨cdv, A, outer, s, H, E, rfl, hr⟩ (inner P0 H M) is M rfl
    rcases hq with ⟨i, M', hC, q⟩ | ⟨z, hR, q⟩
    · have back : ∀ {P' H' M'' L}, M'' = M' ++ L → Holds (inner P0 H M) P' H' M'' → Holds (inner P0 H M) P' H' M' := fun {P' H' M'' L} e hh => by
        subst e
        refine hh.sub (fun c hc => List.mem_append_left _ hc) ?_ fun a ha => ?_
        · have := hh.nd
          rw [List.map_append] at this
          exact (List.nodup_append.mp this).1
        · rw [(len _ _ _ _ hC).2]
          exact ha
      refine B.1 i M' hC _ H P0 h0 (slots_start _ r) _ E0 takes0 ⟨fun ρ' M'' σ' H' P' a e hh g => ?_, fun i' M'' v H' P' a e hh rr => ?_, fun _ _ _ _ _ a => a.elim, fun _ _ _ _ _ a => a.elim, fun _ _ _ _ _ _ _ a => a.elim⟩
      · obtain ⟨rfl, L, eL⟩ := a
        exact q _ H' P' (back eL hh) .non
      · obtain ⟨rfl, L, eL⟩ := a
        exact q _ H' P' (back eL hh) rr
    · refine B.2 z hR _ H P0 h0 (slots_start _ r) _ E (takes_of rfl rfl rfl rfl) ⟨fun _ _ _ _ _ a => a.elim, fun _ _ _ _ _ a => a.elim, fun _ _ _ _ _ a => a.elim, fun _ _ _ _ _ a => a.elim, fun z' M'' d H' P' Cs gs a e hh x => ?_⟩
      obtain ⟨rfl, rfl⟩ := a
      exact q d H' P' Cs gs hh x
end
end Kt

namespace Kt
open PySem PySem.Spec PyProof.Rows L2
section
variable {X : Cx} {N : Ent} {ρ ρ' : Rho} {M M1 M2 M' Mc Mr Mc' : Mem} {a b c e : Expr} {pos pos2 p : Pos} {i j k : It} {Z : Post} {rest : List Stmt} {Cs C0 fI : Addr} {fd : FuncData} {sI : Stmt}
/-- e.name in the suite that holds e (at a, its dict d) -/
def tEN (C : Addr) (a : Addr) (cls : Value) (d : Option Addr) (te : TE) : TE := fun σ H Q => te σ H fun x H1 => x = .ref a ∧ cls = .ref C ∧ ∃ (dd : Addr) (v : V), d = some dd ∧ H1 dd = some (.xd [(("name" : Str), v)]) ∧ Q v H1
theorem relO_name {v : V} {v' : Value} (r : RelV v v') (f : Str) : RelO (List.lookup f [(("name" : Str), v)]) (if f = "name" then some v' else none) := by
  by_cases hw : f = "name"
  · subst hw
    rw [if_pos rfl]
    have q : List.lookup ("name" : Str) [(("name" : Str), v)] = some v := by simp [List.lookup]
    rw [q]
    exact r
  · rw [if_neg hw]
    have qw : (f == ("name" : Str)) = false := by simpa using hw
    have q2 : List.lookup f [(("name" : Str), v)] = none := by simp [List.lookup, qw]
    rw [q2]
    trivial
theorem pe_ename {a : Addr} {oe : Obj} {cls : Value} {d : Option Addr} {pn : List (Addr × Obj)} {te : TE} (T : ErrTxt X.K X.mg sI Cs C0 fI fd) (hz : Zc cls d oe) (hf : ∃ vs, oe.data = .fields vs) (he : PE (X.suite a ((a, oe) :: pn)) e te)
    (hb : attributeBase e "name" X.env (eval e X.env) = eval e X.env := by rfl) :
    PE (X.suite a ((a, oe) :: pn)) (.Attribute e "name" pos) (tEN Cs a cls d te) := by
  refine ⟨fun pins s σ H Q I h => ?_⟩
  refine attr_of hb (thn (he.run pins s σ H _ I h) fun u s1 hh => ?_)
  obtain ⟨x, H1, I1, rx, ex, ec, dd, v, ed, ea, q⟩ := hh
  subst ex
  obtain rfl : u = Value.ref a := rx
  subst ec
  subst ed
  obtain ⟨ha, _⟩ := I1.pin (a, oe) (List.mem_append_left _ List.mem_cons_self)
  obtain ⟨vs, hd⟩ := hf
  have hx : ObjOk X.prog X.w H1 s1.heap dd (.xd [(("name" : Str), v)]) := I1.hok dd _ ea
  obtain ⟨mA, hns, hr⟩ := hx
  obtain ⟨od, ho, hl⟩ := lookIn_ns hns
  have l : List.lookup ("name" : Str) [(("name" : Str), v)] = some v := by simp [List.lookup]
  obtain ⟨u, hu, ru⟩ := RelO.some_of (v := v) (o := mA "name") (by rw [← l]; exact hr "name")
  have J : PySem.W.InstAt s1.heap a oe Cs (some od) := ⟨ha, hz.1, by unfold PySem.W.notCls; rw [hd] <;> rfl, by rw [hz.2]; exact ho⟩
  exact HandSPX.exc_get I1.kIn J T.ga T.gg T.oex.exC (PySem.W.findObj_own T.hd T.no rfl (by rw [hl, hu])) (handed_of ru) ⟨v, H1, I1.tok _, ru, q⟩
theorem takes_len {W W' : WX} (t : Takes X W) (h : ∀ c d σ H, σ.length = X.N.length → W' c d σ H → W c d σ H) : Takes X W' := fun u s' ⟨a, B, sI, pins, σ, H, cls, d, e, I, nb, up, sky, na, os, ag, w⟩ =>
  t u s' ⟨a, B, sI, pins, σ, H, cls, d, e, I, nb, up, sky, na, os, ag, h _ _ _ _ I.len w⟩
/-- what a suite of returns is to give -/
def SuiteOk (X : Cx) (N : Ent) (n : Nat) (Cs : Addr) (suite : List Stmt) (z : Str) (M' : Mem) (rt : It → Mem → Prop) : Prop :=
  ∀ (a dd : Addr) (P' H' : Hp) (σ' : L2.St) (oe : Obj) (pn : List (Addr × Obj)) (D : Ends), Holds N P' H' M' → H' dd = some (XD z) → H' a = none → σ'.length = X.N.length → Zc (.ref Cs) (some dd) oe → (∃ vs, oe.data = .fields vs) →
    (∀ i M'' v H'' P'', rt i M'' → Ex P' P'' → Holds N P'' H'' M'' → RepI P'' v i → D.rt v H'') → wSs (X.suite a ((a, oe) :: pn)) suite D (σ'.set n (some (.ref a))) H'
theorem sj_try (n : Nat) {nm : Str} {np pos' : Pos} {body suite : List Stmt} {b₀ : Stmt} (ER : Str → Mem → Prop) (hN : X.N.Nodup) (T : ErrTxt X.K X.mg sI Cs C0 fI fd)
    (hb : ∀ (pn : List (Addr × Obj)) (xe : Value → Shared → Prop), PassesOwn (model X.prog X.w) X.A X.env xe → SJ (X.tr pn xe) N ρ M body { nx := fun ρ' M' => SJ X N ρ' M' rest Z, rt := Z.rt, bk := Z.bk, ct := Z.ct, er := ER })
    (hsu : ∀ z M', ER z M' → SuiteOk X N n Cs (b₀ :: suite) z M' Z.rt)
    (hi : X.N[n]? = some nm := by rfl) (hln : X.env.kindOf nm = some .local := by rfl) (hg : Gl X "ShapeError" := by rfl) (hs : X.stack = X.env :: X.outer := by rfl) (hf : X.env.frame = some X.env.locals := by rfl) :
    SJ X N ρ M (.Try body [.ExceptHandler (some (.Name "ShapeError" np)) (some nm) (b₀ :: suite) pos'] [] [] pos :: rest) Z := sj_cons fun σ H P hh g D E tk zd => by
  refine s_of (ps_try_as (i := n) (c := .ref Cs) (tb := fun W => fun D σ H => ∀ pn xe, Takes (X.tr pn xe) W → PassesOwn (model X.prog X.w) X.A X.env xe → wSs (X.tr pn xe) body D σ H)
    (ts := fun a cls d => fun D σ H => ∀ oe pn, Zc cls d oe → (∃ vs, oe.data = .fields vs) → wSs (X.suite a ((a, oe) :: pn)) (b₀ :: suite) D σ H) (Wout := fun _ _ _ _ => False) hs hf hN hi hln ⟨hg, by decide, .inl T.gS⟩ takes0
    (fun W pn xe tk1 po => ⟨fun pins s σ H D I h => h pn xe tk1 po pins s I⟩) (fun a oe cls d pn hz hv => ⟨fun pins s σ H D I h => h oe pn hz hv pins s I⟩)) ?_
  intro pn xe tk1 po
  refine hb pn xe po σ H P hh g D (fun c d H' => ∀ σ' : L2.St, σ'.length = X.N.length → wAs X.K (.ref Cs) n (fun a cls d => fun D σ H => ∀ oe pn, Zc cls d oe → (∃ vs, oe.data = .fields vs) → wSs (X.suite a ((a, oe) :: pn)) (b₀ :: suite) D σ H) (fun _ _ _ _ => False) D c d σ' H') (takes_len tk1 fun c d σ' H' hl w => w σ' hl) ⟨zd.nx, zd.rt, zd.bk, zd.ct, fun z M' d H' P' C gC hz e1 h1 x1 => ?_⟩
  intro σ' hl
  have eC : C = Cs := by
    have := gC.symm.trans T.gS
    cases this
    rfl
  subst eC
  refine ⟨true, T.te, fun _ a ha oe pn2 hz2 hv2 => ?_, fun q => Bool.noConfusion q⟩
  exact hsu z M' hz a d P' H' σ' oe pn2 _ h1 x1 ha hl hz2 hv2 fun i M'' v H'' P'' r e2 h2 r2 => zd.rt i M'' v H'' P'' r (e1.trans e2) h2 r2
/-- return e.name == '..' -/
theorem suite_eq (n : Nat) {nm z w : Str} {p1 p2 p3 p4 : Pos} {j : Nat} {rest : List Stmt} {rt : It → Mem → Prop} (T : ErrTxt X.K X.mg sI Cs C0 fI fd) (h : rt (dB (decide (z = w))) M') (hi : X.N[n]? = some nm := by rfl) (hv : Vis X.env.scope nm := by exact Or.inl rfl) (hd : (nm == ("__debug__" : Str)) = false := by decide) (hcd : (nm == ("__classdict__" : Str)) = false := by decide)
    (hb : attributeBase (.Name nm p1) "name" X.env (eval (.Name nm p1) X.env) = eval (.Name nm p1) X.env := by rfl) :
    SuiteOk X N n Cs (.Return (some (.Compare (.Attribute (.Name nm p1) "name" p2) [.Eq] [.Constant (.str w) j p3] p4)) pos :: rest) z M' rt := fun a dd P' H' σ' oe pn D hh x ha hl hz hf k => by
  have l : n < X.N.length := (List.getElem?_eq_some_iff.mp hi).1
  refine ss_of (pss_cons (ps_ret (pe_cmpR op_eq (pe_ename T hz hf (pe_var (i := n) hi hv hd hcd) hb) pe_str (nomark _))) pss_w) ?_
  refine ⟨.ref a, List.getElem?_set_self (by omega), rfl, rfl, dd, .str z, rfl, x, rfl, ?_⟩
  refine k (dB (decide (z = w))) M' _ H' P' h (Ex.refl _) hh ?_
  have e : decide (V.str z = V.str w) = decide (z = w) := by
    by_cases q : z = w
    · subst q; simp
    · simp [q]
  show Dn P' (.bl (decide (V.str z = V.str w))) (.bool (decide (z = w)))
  rw [e]
  exact .bl _
/-- return e.name -/
theorem suite_name (n : Nat) {nm z : Str} {p1 p2 : Pos} {rest : List Stmt} {rt : It → Mem → Prop} (T : ErrTxt X.K X.mg sI Cs C0 fI fd) (h : rt (.d (.str z)) M') (hi : X.N[n]? = some nm := by rfl) (hv : Vis X.env.scope nm := by exact Or.inl rfl) (hd : (nm == ("__debug__" : Str)) = false := by decide) (hcd : (nm == ("__classdict__" : Str)) = false := by decide)
    (hb : attributeBase (.Name nm p1) "name" X.env (eval (.Name nm p1) X.env) = eval (.Name nm p1) X.env := by rfl) :
    SuiteOk X N n Cs (.Return (some (.Attribute (.Name nm p1) "name" p2)) pos :: rest) z M' rt := fun a dd P' H' σ' oe pn D hh x ha hl hz hf k => by
  have l : n < X.N.length := (List.getElem?_eq_some_iff.mp hi).1
  refine ss_of (pss_cons (ps_ret (pe_ename T hz hf (pe_var (i := n) hi hv hd hcd) hb)) pss_w) ?_
  refine ⟨.ref a, List.getElem?_set_self (by omega), rfl, rfl, dd, .str z, rfl, x, ?_⟩
  exact k (.d (.str z)) M' _ H' P' h (Ex.refl _) hh (.str z)
end
end Kt

/-! Kt7: kinds, concatenation, slices, filters, the script as a source. -/
namespace Kt
open PySem PySem.Spec PyProof.Rows L2

namespace HT
theorem seqIx (n m : Nat) (h : n < m) : seqIndex? (n : Int) m = some n := (L2.ixN_seq (by unfold L2.ixN; rw [if_pos (by omega), if_pos (by omega)]; simp)).1
end HT
theorem RepIs.erase {P : Hp} : ∀ {vs : List V} {is : List It} (n : Nat), RepIs P vs is → RepIs P (vs.eraseIdx n) (is.eraseIdx n)
  | [], [], _, _ => trivial
  | _ :: _, _ :: _, 0, h => h.2
  | _ :: _, _ :: _, n + 1, h => ⟨h.1, RepIs.erase n h.2⟩
  | [], _ :: _, _, h => h.elim
  | _ :: _, [], _, h => h.elim
section
variable {X : Cx} {N : Ent} {ρ ρ' : Rho} {M M1 M2 M3 M' Mc Mr Mc' : Mem} {a b c e : Expr} {pos : Pos} {i j k : It} {t u : Bool} {Z : Post} {body rest : List Stmt} {tg iter : Expr}
def wBT (X : Cx) (scope : Scope) (e : Expr) : TT := fun σ H Q => ∀ s H0 C cl fp, wT (X.blk s H0 scope (compEnvC scope cl C X.env) fp) e σ H Q
/-- (the reading) [e for x in a list-like source] -/
theorem lj_compS {x0 : It} {elt : Expr} {scope : Scope} (n : Nat) {ds : List PyData} (A : Nat → List It) (Mi : Nat → Mem) (hc : X.calm = true) (hN : X.N.Nodup) (hi : EJ X N ρ M iter x0 M1) (src : ∀ v P, RepI P v x0 → ∃ a xs, v = .ref a ∧ SqL X.K P a xs ∧ DnAll P xs ds)
    (hA0 : A 0 = []) (hM0 : Mi 0 = M1) (hz : ds.length ≤ 100000)
    (step : ∀ (m : Nat) d, ds[m]? = some d → ∃ j, A (m + 1) = A m ++ [j] ∧ (A m).length ≤ m ∧ ∀ N' s H C cl fp, EJ (X.blk s H scope (compEnvC scope cl C X.env) fp) N' (ρ.set n (some (.d d))) (Mi m) elt j (Mi (m + 1)))
    : LJ X N ρ M (tLc (iList X.K (wE X iter)) (gName n) tYes (wBE X scope elt) [n]) (A ds.length) (Mi ds.length) := fun σ H P hh g Q q => by
  refine (hi σ H P hh g _ fun v H1 P1 e1 h1 r1 => ?_)
  obtain ⟨a, xs, rfl, x1, x2⟩ := src _ _ r1
  have xl := dnAll_len x2
  refine ⟨a, rfl, ⟨xs, exw_l h1.exw x1⟩, fun D hD => lc_list (xs := xs) (fun m H' => ∃ P', Holds N P' H' (Mi m ++ [(D, A m)]) ∧ Ex P1 P') ⟨P1, by rw [hA0, hM0]; exact h1.own hD (its := []) trivial, Ex.refl _⟩ (fun m H' _ hw => ?_) (fun m x' H' hx hw => ?_) (fun H' hw => ?_)⟩
  · obtain ⟨P', h2, e2⟩ := hw
    exact exw_l h2.exw (ex_l e2 x1)
  · obtain ⟨P', h2, e2⟩ := hw
    have nl : m < ds.length := xl ▸ (List.getElem?_eq_some_iff.mp hx).1
    obtain ⟨v', ev, dv⟩ := dnAll_get x2 (List.getElem?_eq_getElem nl)
    rw [hx] at ev
    cases Option.some.inj ev
    obtain ⟨j, eA, lA, S⟩ := step m _ (List.getElem?_eq_getElem nl)
    refine ⟨wipe_comp n, ?_⟩
    unfold tYes
    dsimp only
    rw [if_pos rfl]
    intro s H0 C cl fp
    refine S (inner P' H' (Mi m)) s H0 C cl fp _ H' P' h2.enter (slots_comp (g.ex (e1.trans e2)) n (dn_ex e2 _ _ dv)) _ fun y H4 P4 e4 h4 r4 => ?_
    have h5 := h2.leave h4
    obtain ⟨acc, ea, ra⟩ := h5.cell (a := D) (its := A m) (List.mem_append_right _ (List.mem_singleton.mpr rfl))
    refine ⟨acc, ea, by rw [ra.len]; exact Nat.lt_of_lt_of_le (Nat.lt_of_le_of_lt lA (Nat.lt_of_lt_of_le nl hz)) (by decide), P4, ?_, e2.trans e4⟩
    have h6 := h5.write (a := D) (its := A m) (its' := A (m + 1)) (List.mem_append_right _ (List.mem_singleton.mpr rfl)) (xs' := acc ++ [y]) (by rw [eA]; exact ra.app ⟨r4, trivial⟩)
    rw [put_last h5.nd] at h6
    exact h6
  · obtain ⟨P', h2, e2⟩ := hw
    rw [xl] at h2
    exact q D H' P' (e1.trans e2) (h1.newF hD) h2
/-- [e for x in a list-like source] -/
theorem el_compS {x0 : It} {elt : Expr} {x : Str} {p : Pos} {scope : Scope} (n : Nat) {ds : List PyData} (A : Nat → List It) (Mi : Nat → Mem) (hc : X.calm = true) (hN : X.N.Nodup) (hi : EJ X N ρ M iter x0 M1) (src : ∀ v P, RepI P v x0 → ∃ a xs, v = .ref a ∧ SqL X.K P a xs ∧ DnAll P xs ds)
    (hA0 : A 0 = []) (hM0 : Mi 0 = M1) (hz : ds.length ≤ 100000)
    (step : ∀ (m : Nat) d, ds[m]? = some d → ∃ j, A (m + 1) = A m ++ [j] ∧ (A m).length ≤ m ∧ ∀ N' s H C cl fp, EJ (X.blk s H scope (compEnvC scope cl C X.env) fp) N' (ρ.set n (some (.d d))) (Mi m) elt j (Mi (m + 1)))
    (ok : BlkOk X.N X.env.scope scope [(x, n)] := by exact blkOk_by (by kernel_rfl))
    (hgn : ∀ (s : Shared) (H : Hp) (C : Addr) (cl : List (Str × Addr)) (fp : List Addr), PG (X.blk s H scope (compEnvC scope cl C X.env) fp) (.Name x p) (gName n) := by exact fun _ _ _ _ _ => pg_name (by assumption) rfl (Or.inl rfl))
    (hf : ∀ x, foldedSetIterable iter X.env x = pure x := by intro _; rfl) : EL X N ρ M (.ListComp elt [⟨.Name x p, iter, [], 0⟩] scope pos) (A ds.length) (Mi ds.length) :=
  el_lc (lj_compS n A Mi hc hN hi src hA0 hM0 hz step) (pe_lc hc hN (pi_list pe_w) ok hgn (fun _ _ _ _ _ => pts_nil) (te := wBE X scope elt) (fun s H C cl fp => ⟨fun pins s1 σ1 H1 Q1 I1 h1 => h1 s H C cl fp pins s1 I1⟩) hf)
theorem sj_setcompS (n' : Nat) {y : Str} {py spos : Pos} {Z : Post} {rest : List Stmt} {x0 : It} {elt : Expr} {x : Str} {p : Pos} {scope : Scope} (n : Nat) {ds : List PyData} (A : Nat → List It) (Mi : Nat → Mem) (hc : X.calm = true) (hN : X.N.Nodup) (hi : EJ X N ρ M iter x0 M1) (src : ∀ v P, RepI P v x0 → ∃ a xs, v = .ref a ∧ SqL X.K P a xs ∧ DnAll P xs ds)
    (hA0 : A 0 = []) (hM0 : Mi 0 = M1) (hz : ds.length ≤ 100000)
    (step : ∀ (m : Nat) d, ds[m]? = some d → ∃ j, A (m + 1) = A m ++ [j] ∧ (A m).length ≤ m ∧ ∀ N' s H C cl fp, EJ (X.blk s H scope (compEnvC scope cl C X.env) fp) N' (ρ.set n (some (.d d))) (Mi m) elt j (Mi (m + 1)))
    (hr : ∀ p, p ∉ N.F → SJ X N (ρ.set n' (some (.v (.ref p)))) (Mi ds.length ++ [(p, A ds.length)]) rest Z)
    (hy : X.N[n']? = some y := by rfl) (hyl : X.env.scope.names.lookup y = some .local := by rfl)
    (hsw : swapsWith (.ListComp elt [⟨.Name x p, iter, [], 0⟩] scope pos) (some (.Name y py)) spos.line X.env = pure true := by exact sw_true rfl rfl rfl (by kernel_rfl))
    (ok : BlkOk X.N X.env.scope scope [(x, n)] := by exact blkOk_by (by kernel_rfl))
    (hgn : ∀ (s : Shared) (H : Hp) (C : Addr) (cl : List (Str × Addr)) (fp : List Addr), PG (X.blk s H scope (compEnvC scope cl C X.env) fp) (.Name x p) (gName n) := by exact fun _ _ _ _ _ => pg_name (by assumption) rfl (Or.inl rfl))
    (hf : ∀ x, foldedSetIterable iter X.env x = pure x := by intro _; rfl) : SJ X N ρ M (.Assign [.Name y py] (.ListComp elt [⟨.Name x p, iter, [], 0⟩] scope pos) spos :: rest) Z :=
  sj_lc n' (lj_compS n A Mi hc hN hi src hA0 hM0 hz step) (ps_setLc (i := n') (y := y) (py := py) (spos := spos) hc hN hy hyl hsw (pi_list pe_w) ok hgn (fun _ _ _ _ _ => pts_nil) (te := wBE X scope elt) (fun s H C cl fp => ⟨fun pins s1 σ1 H1 Q1 I1 h1 => h1 s H C cl fp pins s1 I1⟩) hf) hr
/-- (the reading) [e for x in a list of data if c] -/
theorem lj_compF {cnd : Expr} {elt : Expr} {scope : Scope} (n : Nat) {ds : List PyData} (A : Nat → List It) (Mi : Nat → Mem) (hc : X.calm = true) (hN : X.N.Nodup) (hi : (EJ X N ρ M iter (.d (.list ds)) M1))
    (hA0 : A 0 = []) (hM0 : Mi 0 = M1) (hz : ds.length ≤ 100000)
    (step : ∀ (m : Nat) d, ds[m]? = some d → ∃ t Mm, (∀ N' s H C cl fp, TJ (X.blk s H scope (compEnvC scope cl C X.env) fp) N' (ρ.set n (some (.d d))) (Mi m) cnd t Mm) ∧ (A m).length ≤ m ∧
      (t = true → ∃ j, A (m + 1) = A m ++ [j] ∧ ∀ N' s H C cl fp, EJ (X.blk s H scope (compEnvC scope cl C X.env) fp) N' (ρ.set n (some (.d d))) Mm elt j (Mi (m + 1))) ∧ (t = false → A (m + 1) = A m ∧ Mi (m + 1) = Mm))
    : LJ X N ρ M (tLc (iList X.K (wE X iter)) (gName n) (wBT X scope cnd) (wBE X scope elt) [n]) (A ds.length) (Mi ds.length) := fun σ H P hh g Q q => by
  refine (hi σ H P hh g _ fun v H1 P1 e1 h1 r1 => ?_)
  obtain ⟨a, xs, rfl, x1, x2⟩ := ri_lst r1
  have xl := dnAll_len x2
  refine ⟨a, rfl, ⟨xs, .inl (.inl (h1.ex _ _ x1))⟩, fun D hD => lc_list (xs := xs) (fun m H' => ∃ P', Holds N P' H' (Mi m ++ [(D, A m)]) ∧ Ex P1 P') ⟨P1, by rw [hA0, hM0]; exact h1.own hD (its := []) trivial, Ex.refl _⟩ (fun m H' _ hw => ?_) (fun m x' H' hx hw => ?_) (fun H' hw => ?_)⟩
  · obtain ⟨P', h2, e2⟩ := hw
    exact .inl (.inl (h2.ex _ _ (e2 _ _ x1)))
  · obtain ⟨P', h2, e2⟩ := hw
    have nl : m < ds.length := xl ▸ (List.getElem?_eq_some_iff.mp hx).1
    obtain ⟨v', ev, dv⟩ := dnAll_get x2 (List.getElem?_eq_getElem nl)
    rw [hx] at ev
    cases Option.some.inj ev
    obtain ⟨t, Mm, T, lA, S1, S2⟩ := step m _ (List.getElem?_eq_getElem nl)
    refine ⟨wipe_comp n, ?_⟩
    intro s H0 C cl fp
    have gs := slots_comp (g.ex (e1.trans e2)) n (i := .d ds[m]) (dn_ex e2 _ _ dv)
    refine T (inner P' H' (Mi m)) s H0 C cl fp _ H' P' h2.enter gs _ fun H3 P3 e3 h3 => ?_
    cases t with
    | true =>
      obtain ⟨j, eA, S⟩ := S1 rfl
      rw [if_pos rfl]
      intro s H0 C cl fp
      refine S (inner P' H' (Mi m)) s H0 C cl fp _ H3 P3 h3 (gs.ex e3) _ fun y H4 P4 e4 h4 r4 => ?_
      have h5 := h2.leave h4
      obtain ⟨acc, ea, ra⟩ := h5.cell (a := D) (its := A m) (List.mem_append_right _ (List.mem_singleton.mpr rfl))
      refine ⟨acc, ea, by rw [ra.len]; exact Nat.lt_of_lt_of_le (Nat.lt_of_le_of_lt lA (Nat.lt_of_lt_of_le nl hz)) (by decide), P4, ?_, (e2.trans e3).trans e4⟩
      have h6 := h5.write (a := D) (its := A m) (its' := A (m + 1)) (List.mem_append_right _ (List.mem_singleton.mpr rfl)) (xs' := acc ++ [y]) (by rw [eA]; exact ra.app ⟨r4, trivial⟩)
      rw [put_last h5.nd] at h6
      exact h6
    | false =>
      obtain ⟨eA, eM⟩ := S2 rfl
      rw [if_neg Bool.false_ne_true]
      refine ⟨P3, ?_, e2.trans e3⟩
      rw [eA, eM]
      exact h2.leave h3
  · obtain ⟨P', h2, e2⟩ := hw
    rw [xl] at h2
    exact q D H' P' (e1.trans e2) (h1.newF hD) h2
/-- [e for x in a list of data if c] -/
theorem el_compF {cnd : Expr} {elt : Expr} {x : Str} {p : Pos} {scope : Scope} (n : Nat) {ds : List PyData} (A : Nat → List It) (Mi : Nat → Mem) (hc : X.calm = true) (hN : X.N.Nodup) (hi : (EJ X N ρ M iter (.d (.list ds)) M1))
    (hA0 : A 0 = []) (hM0 : Mi 0 = M1) (hz : ds.length ≤ 100000)
    (step : ∀ (m : Nat) d, ds[m]? = some d → ∃ t Mm, (∀ N' s H C cl fp, TJ (X.blk s H scope (compEnvC scope cl C X.env) fp) N' (ρ.set n (some (.d d))) (Mi m) cnd t Mm) ∧ (A m).length ≤ m ∧
      (t = true → ∃ j, A (m + 1) = A m ++ [j] ∧ ∀ N' s H C cl fp, EJ (X.blk s H scope (compEnvC scope cl C X.env) fp) N' (ρ.set n (some (.d d))) Mm elt j (Mi (m + 1))) ∧ (t = false → A (m + 1) = A m ∧ Mi (m + 1) = Mm))
    (ok : BlkOk X.N X.env.scope scope [(x, n)] := by exact blkOk_by (by kernel_rfl))
    (hgn : ∀ (s : Shared) (H : Hp) (C : Addr) (cl : List (Str × Addr)) (fp : List Addr), PG (X.blk s H scope (compEnvC scope cl C X.env) fp) (.Name x p) (gName n) := by exact fun _ _ _ _ _ => pg_name (by assumption) rfl (Or.inl rfl))
    (hf : ∀ x, foldedSetIterable iter X.env x = pure x := by intro _; rfl) : EL X N ρ M (.ListComp elt [⟨.Name x p, iter, [cnd], 0⟩] scope pos) (A ds.length) (Mi ds.length) :=
  el_lc (lj_compF n A Mi hc hN hi hA0 hM0 hz step) (pe_lc hc hN (pi_list pe_w) ok hgn (tt := wBT X scope cnd) (fun s H C cl fp => pts_one ⟨fun pins s1 σ1 H1 Q1 I1 h1 => h1 s H C cl fp pins s1 I1⟩) (te := wBE X scope elt) (fun s H C cl fp => ⟨fun pins s1 σ1 H1 Q1 I1 h1 => h1 s H C cl fp pins s1 I1⟩) hf)
theorem sj_setcompF (n' : Nat) {y : Str} {py spos : Pos} {Z : Post} {rest : List Stmt} {cnd : Expr} {elt : Expr} {x : Str} {p : Pos} {scope : Scope} (n : Nat) {ds : List PyData} (A : Nat → List It) (Mi : Nat → Mem) (hc : X.calm = true) (hN : X.N.Nodup) (hi : (EJ X N ρ M iter (.d (.list ds)) M1))
    (hA0 : A 0 = []) (hM0 : Mi 0 = M1) (hz : ds.length ≤ 100000)
    (step : ∀ (m : Nat) d, ds[m]? = some d → ∃ t Mm, (∀ N' s H C cl fp, TJ (X.blk s H scope (compEnvC scope cl C X.env) fp) N' (ρ.set n (some (.d d))) (Mi m) cnd t Mm) ∧ (A m).length ≤ m ∧
      (t = true → ∃ j, A (m + 1) = A m ++ [j] ∧ ∀ N' s H C cl fp, EJ (X.blk s H scope (compEnvC scope cl C X.env) fp) N' (ρ.set n (some (.d d))) Mm elt j (Mi (m + 1))) ∧ (t = false → A (m + 1) = A m ∧ Mi (m + 1) = Mm))
    (hr : ∀ p, p ∉ N.F → SJ X N (ρ.set n' (some (.v (.ref p)))) (Mi ds.length ++ [(p, A ds.length)]) rest Z)
    (hy : X.N[n']? = some y := by rfl) (hyl : X.env.scope.names.lookup y = some .local := by rfl)
    (hsw : swapsWith (.ListComp elt [⟨.Name x p, iter, [cnd], 0⟩] scope pos) (some (.Name y py)) spos.line X.env = pure true := by exact sw_true rfl rfl rfl (by kernel_rfl))
    (ok : BlkOk X.N X.env.scope scope [(x, n)] := by exact blkOk_by (by kernel_rfl))
    (hgn : ∀ (s : Shared) (H : Hp) (C : Addr) (cl : List (Str × Addr)) (fp : List Addr), PG (X.blk s H scope (compEnvC scope cl C X.env) fp) (.Name x p) (gName n) := by exact fun _ _ _ _ _ => pg_name (by assumption) rfl (Or.inl rfl))
    (hf : ∀ x, foldedSetIterable iter X.env x = pure x := by intro _; rfl) : SJ X N ρ M (.Assign [.Name y py] (.ListComp elt [⟨.Name x p, iter, [cnd], 0⟩] scope pos) spos :: rest) Z :=
  sj_lc n' (lj_compF n A Mi hc hN hi hA0 hM0 hz step) (ps_setLc (i := n') (y := y) (py := py) (spos := spos) hc hN hy hyl hsw (pi_list pe_w) ok hgn (tt := wBT X scope cnd) (fun s H C cl fp => pts_one ⟨fun pins s1 σ1 H1 Q1 I1 h1 => h1 s H C cl fp pins s1 I1⟩) (te := wBE X scope elt) (fun s H C cl fp => ⟨fun pins s1 σ1 H1 Q1 I1 h1 => h1 s H C cl fp pins s1 I1⟩) hf) hr
/-- (the reading) [e for x in range(n) if c] -/
theorem lj_compRF {cnd : Expr} {elt : Expr} {scope : Scope} (n : Nat) {z : Int} (A : Nat → List It) (Mi : Nat → Mem) (hc : X.calm = true) (hmr : X.mg "range" = none) (hN : X.N.Nodup) (hi : EJ X N ρ M a (dI z) M1)
    (hA0 : A 0 = []) (hM0 : Mi 0 = M1) (hz : z ≤ 100000 ∧ -(2 ^ 62) ≤ z)
    (step : ∀ (m : Nat), m < z.toNat → ∃ t Mm, (∀ N' s H C cl fp, TJ (X.blk s H scope (compEnvC scope cl C X.env) fp) N' (ρ.set n (some (dI (m : Int)))) (Mi m) cnd t Mm) ∧ (A m).length ≤ m ∧
      (t = true → ∃ j, A (m + 1) = A m ++ [j] ∧ ∀ N' s H C cl fp, EJ (X.blk s H scope (compEnvC scope cl C X.env) fp) N' (ρ.set n (some (dI (m : Int)))) Mm elt j (Mi (m + 1))) ∧ (t = false → A (m + 1) = A m ∧ Mi (m + 1) = Mm))
    (hs : starEach [a] X.env = [(false, eval a X.env)] := by rfl)
    : LJ X N ρ M (tLc (iRng1 (wA X [a])) (gName n) (wBT X scope cnd) (wBE X scope elt) [n]) (A z.toNat) (Mi z.toNat) := fun σ H P hh g Q q => by
  refine (aj_cons hi aj_nil hs σ H P hh g _ fun vs H1 P1 e1 h1 r1 => ?_)
  obtain ⟨x', rfl, r2⟩ := ri1 r1
  cases ri_int r2
  refine ⟨z, rfl, hz.2, by omega, fun D hD => lc_range (lo := 0) (n := z.toNat) (fun m H' => ∃ P', Holds N P' H' (Mi m ++ [(D, A m)]) ∧ Ex P1 P') ⟨P1, by rw [hA0, hM0]; exact h1.own hD (its := []) trivial, Ex.refl _⟩ (fun m H' nl hw => ?_) (fun H' hw => ?_)⟩
  · obtain ⟨P', h2, e2⟩ := hw
    obtain ⟨t, Mm, T, lA, S1, S2⟩ := step m nl
    refine ⟨wipe_comp n, ?_⟩
    intro s H0 C cl fp
    have gs := slots_comp (v := .int (0 + (m : Int))) (g.ex (e1.trans e2)) n (i := dI (m : Int)) (by rw [Int.zero_add]; exact .int _)
    refine T (inner P' H' (Mi m)) s H0 C cl fp _ H' P' h2.enter gs _ fun H3 P3 e3 h3 => ?_
    cases t with
    | true =>
      obtain ⟨j, eA, S⟩ := S1 rfl
      rw [if_pos rfl]
      intro s H0 C cl fp
      refine S (inner P' H' (Mi m)) s H0 C cl fp _ H3 P3 h3 (gs.ex e3) _ fun y H4 P4 e4 h4 r4 => ?_
      have h5 := h2.leave h4
      obtain ⟨acc, ea, ra⟩ := h5.cell (a := D) (its := A m) (List.mem_append_right _ (List.mem_singleton.mpr rfl))
      refine ⟨acc, ea, by rw [ra.len]; exact Nat.lt_of_lt_of_le (Nat.lt_of_le_of_lt lA (by omega : m < 100000)) (by decide), P4, ?_, (e2.trans e3).trans e4⟩
      have h6 := h5.write (a := D) (its := A m) (its' := A (m + 1)) (List.mem_append_right _ (List.mem_singleton.mpr rfl)) (xs' := acc ++ [y]) (by rw [eA]; exact ra.app ⟨r4, trivial⟩)
      rw [put_last h5.nd] at h6
      exact h6
    | false =>
      obtain ⟨eA, eM⟩ := S2 rfl
      rw [if_neg Bool.false_ne_true]
      refine ⟨P3, ?_, e2.trans e3⟩
      rw [eA, eM]
      exact h2.leave h3
  · obtain ⟨P', h2, e2⟩ := hw
    exact q D H' P' (e1.trans e2) (h1.newF hD) h2
/-- [e for x in range(n) if c] -/
theorem el_compRF {cnd : Expr} {elt : Expr} {x : Str} {p rpp rp : Pos} {scope : Scope} (n : Nat) {z : Int} (A : Nat → List It) (Mi : Nat → Mem) (hc : X.calm = true) (hmr : X.mg "range" = none) (hN : X.N.Nodup) (hi : EJ X N ρ M a (dI z) M1)
    (hA0 : A 0 = []) (hM0 : Mi 0 = M1) (hz : z ≤ 100000 ∧ -(2 ^ 62) ≤ z)
    (step : ∀ (m : Nat), m < z.toNat → ∃ t Mm, (∀ N' s H C cl fp, TJ (X.blk s H scope (compEnvC scope cl C X.env) fp) N' (ρ.set n (some (dI (m : Int)))) (Mi m) cnd t Mm) ∧ (A m).length ≤ m ∧
      (t = true → ∃ j, A (m + 1) = A m ++ [j] ∧ ∀ N' s H C cl fp, EJ (X.blk s H scope (compEnvC scope cl C X.env) fp) N' (ρ.set n (some (dI (m : Int)))) Mm elt j (Mi (m + 1))) ∧ (t = false → A (m + 1) = A m ∧ Mi (m + 1) = Mm))
    (ok : BlkOk X.N X.env.scope scope [(x, n)] := by exact blkOk_by (by kernel_rfl))
    (hgn : ∀ (s : Shared) (H : Hp) (C : Addr) (cl : List (Str × Addr)) (fp : List Addr), PG (X.blk s H scope (compEnvC scope cl C X.env) fp) (.Name x p) (gName n) := by exact fun _ _ _ _ _ => pg_name (by assumption) rfl (Or.inl rfl))
    (hg : Gl X "range" := by rfl) (hs : starEach [a] X.env = [(false, eval a X.env)] := by rfl)
    (hf : ∀ x, foldedSetIterable (.Call (.Name "range" rpp) [a] [] rp) X.env x = pure x := by intro _; rfl) : EL X N ρ M (.ListComp elt [⟨.Name x p, .Call (.Name "range" rpp) [a] [] rp, [cnd], 0⟩] scope pos) (A z.toNat) (Mi z.toNat) :=
  el_lc (lj_compRF n A Mi hc hmr hN hi hA0 hM0 hz step hs) (pe_lc hc hN (pi_range1 hg hmr pa_w hs) ok hgn (tt := wBT X scope cnd) (fun s H C cl fp => pts_one ⟨fun pins s1 σ1 H1 Q1 I1 h1 => h1 s H C cl fp pins s1 I1⟩) (te := wBE X scope elt) (fun s H C cl fp => ⟨fun pins s1 σ1 H1 Q1 I1 h1 => h1 s H C cl fp pins s1 I1⟩) hf)
theorem sj_setcompRF (n' : Nat) {y : Str} {py spos : Pos} {Z : Post} {rest : List Stmt} {cnd : Expr} {elt : Expr} {x : Str} {p rpp rp : Pos} {scope : Scope} (n : Nat) {z : Int} (A : Nat → List It) (Mi : Nat → Mem) (hc : X.calm = true) (hmr : X.mg "range" = none) (hN : X.N.Nodup) (hi : EJ X N ρ M a (dI z) M1)
    (hA0 : A 0 = []) (hM0 : Mi 0 = M1) (hz : z ≤ 100000 ∧ -(2 ^ 62) ≤ z)
    (step : ∀ (m : Nat), m < z.toNat → ∃ t Mm, (∀ N' s H C cl fp, TJ (X.blk s H scope (compEnvC scope cl C X.env) fp) N' (ρ.set n (some (dI (m : Int)))) (Mi m) cnd t Mm) ∧ (A m).length ≤ m ∧
      (t = true → ∃ j, A (m + 1) = A m ++ [j] ∧ ∀ N' s H C cl fp, EJ (X.blk s H scope (compEnvC scope cl C X.env) fp) N' (ρ.set n (some (dI (m : Int)))) Mm elt j (Mi (m + 1))) ∧ (t = false → A (m + 1) = A m ∧ Mi (m + 1) = Mm))
    (hr : ∀ p, p ∉ N.F → SJ X N (ρ.set n' (some (.v (.ref p)))) (Mi z.toNat ++ [(p, A z.toNat)]) rest Z)
    (hy : X.N[n']? = some y := by rfl) (hyl : X.env.scope.names.lookup y = some .local := by rfl)
    (hsw : swapsWith (.ListComp elt [⟨.Name x p, .Call (.Name "range" rpp) [a] [] rp, [cnd], 0⟩] scope pos) (some (.Name y py)) spos.line X.env = pure true := by exact sw_true rfl rfl rfl (by kernel_rfl))
    (ok : BlkOk X.N X.env.scope scope [(x, n)] := by exact blkOk_by (by kernel_rfl))
    (hgn : ∀ (s : Shared) (H : Hp) (C : Addr) (cl : List (Str × Addr)) (fp : List Addr), PG (X.blk s H scope (compEnvC scope cl C X.env) fp) (.Name x p) (gName n) := by exact fun _ _ _ _ _ => pg_name (by assumption) rfl (Or.inl rfl))
    (hg : Gl X "range" := by rfl) (hs : starEach [a] X.env = [(false, eval a X.env)] := by rfl)
    (hf : ∀ x, foldedSetIterable (.Call (.Name "range" rpp) [a] [] rp) X.env x = pure x := by intro _; rfl) : SJ X N ρ M (.Assign [.Name y py] (.ListComp elt [⟨.Name x p, .Call (.Name "range" rpp) [a] [] rp, [cnd], 0⟩] scope pos) spos :: rest) Z :=
  sj_lc n' (lj_compRF n A Mi hc hmr hN hi hA0 hM0 hz step hs) (ps_setLc (i := n') (y := y) (py := py) (spos := spos) hc hN hy hyl hsw (pi_range1 hg hmr pa_w hs) ok hgn (tt := wBT X scope cnd) (fun s H C cl fp => pts_one ⟨fun pins s1 σ1 H1 Q1 I1 h1 => h1 s H C cl fp pins s1 I1⟩) (te := wBE X scope elt) (fun s H C cl fp => ⟨fun pins s1 σ1 H1 Q1 I1 h1 => h1 s H C cl fp pins s1 I1⟩) hf) hr
theorem sj_forS {x0 : It} {ds : List PyData} (hc : X.calm = true) (hi : EJ X N ρ M iter x0 M1) (src : ∀ v P, RepI P v x0 → ∃ a xs, v = .ref a ∧ SqL X.K P a xs ∧ DnAll P xs ds) (Inv : Nat → Rho → Mem → Prop) (h0 : Inv 0 ρ M1)
    (step : ∀ n d ρ' M', ds[n]? = some d → Inv n ρ' M' → ∃ ρ2, GJ X N tg (.d d) ρ' ρ2 ∧ SJ X N ρ2 M' body { nx := Inv (n + 1), ct := Inv (n + 1), bk := fun ρ' M' => SJ X N ρ' M' rest Z, rt := Z.rt, er := Z.er })
    (done : ∀ ρ' M', Inv ds.length ρ' M' → SJ X N ρ' M' rest Z) (hp : PassesOwn (model X.prog X.w) X.A X.env X.xe := by exact PassesOwn.never) (hf : ∀ x, foldedSetIterable iter X.env x = pure x := by intro _; rfl) : SJ X N ρ M (.For tg iter body [] pos :: rest) Z := sj_cons fun σ H P hh g D E tk z => by
  refine s_of (ps_for hp hc (pi_list pe_w) pg_w pss_w hf) (hi σ H P hh g _ fun v H1 P1 e1 h1 r1 => ?_)
  obtain ⟨a, xs, rfl, x1, x2⟩ := src _ _ r1
  have xl := dnAll_len x2
  refine ⟨a, rfl, ⟨xs, exw_l h1.exw x1⟩, for_list (xs := xs) (fun n σ' H' => ∃ ρ' M' P', Inv n ρ' M' ∧ Holds N P' H' M' ∧ Slots P' σ' ρ' ∧ Ex P1 P') ⟨ρ, M1, P1, h0, h1, g.ex e1, Ex.refl _⟩ (fun n σ' H' _ hw => ?_) (fun n x σ' H' hx hw => ?_) (fun σ' H' hw => ?_)⟩
  · obtain ⟨ρ', M', P', _, h2, _, e2⟩ := hw
    exact exw_l h2.exw (ex_l e2 x1)
  · obtain ⟨ρ', M', P', w, h2, g2, e2⟩ := hw
    have nl : n < ds.length := xl ▸ (List.getElem?_eq_some_iff.mp hx).1
    obtain ⟨v', ev, dv⟩ := dnAll_get x2 (List.getElem?_eq_getElem nl)
    rw [hx] at ev
    cases Option.some.inj ev
    obtain ⟨ρ2, G, S⟩ := step n _ ρ' M' (List.getElem?_eq_getElem nl) w
    refine G x σ' H' P' M' h2 g2 (dn_ex e2 _ _ dv) _ fun σ2 g3 => ?_
    refine S σ2 H' P' h2 g3 _ E tk ⟨fun ρ4 M4 σ4 H4 P4 a e h g => ⟨ρ4, M4, P4, a, h, g, e2.trans e⟩, fun i M4 v H4 P4 a e h r => z.rt i M4 v H4 P4 a ((e1.trans e2).trans e) h r, fun ρ4 M4 σ4 H4 P4 a e h g => z.nx ρ4 M4 σ4 H4 P4 a ((e1.trans e2).trans e) h g, fun ρ4 M4 σ4 H4 P4 a e h g => ⟨ρ4, M4, P4, a, h, g, e2.trans e⟩, fun w M4 d H4 P4 C c a e h x => z.er w M4 d H4 P4 C c a ((e1.trans e2).trans e) h x⟩
  · obtain ⟨ρ', M', P', w, h2, g2, e2⟩ := hw
    rw [xl] at w
    exact z.nx ρ' M' σ' H' P' (done ρ' M' w) (e1.trans e2) h2 g2

/-- the script -/
def scr (K : PySem.W.Frag) (a : Addr) (ns : List Int) : It := .m (.ref a) (fun P => SqL K P a (ns.map V.int)) fun _ _ e h => ex_l e h
theorem dn_ints {P : Hp} : ∀ ns : List Int, DnAll P (ns.map V.int) (ns.map PyData.int)
  | [] => .nil
  | n :: r => .cons (.int n) (dn_ints r)
theorem scr_src {K : PySem.W.Frag} {a : Addr} {ns : List Int} : ∀ v P, RepI P v (scr K a ns) → ∃ a xs, v = .ref a ∧ SqL K P a xs ∧ DnAll P xs (ns.map PyData.int) := fun v P h => ⟨a, _, h.1, h.2, dn_ints ns⟩
theorem sj_nd {sts : List Stmt} (h : (M.map Prod.fst).Nodup → SJ X N ρ M sts Z) : SJ X N ρ M sts Z := fun σ H P hh => h hh.nd σ H P hh
theorem sj_is {sts : List Stmt} (h : SJ X N ρ' M' sts Z) (e1 : ρ = ρ') (e2 : M = M') : SJ X N ρ M sts Z := by
  subst e1 e2
  exact h
theorem ej_m (h : EJ X N ρ M e i M1) (q : M1 = M2) : EJ X N ρ M e i M2 := q ▸ h
/-! kinds -/
def tyD : PyData → String
  | .none => "NoneType"
  | .bool _ => "bool"
  | .int _ => "int"
  | .str _ => "str"
  | .list _ => "list"
  | .tuple _ => "tuple"
  | .dict _ => "dict"
theorem ty_of {K : PySem.W.Frag} {H : Hp} {v : V} {d : PyData} (h : Dn H v d) : TyX K H v (.type (tyD d)) := by
  cases h with
  | non => exact .base .non
  | bl b => exact .base (.bl b)
  | int i => exact .base (.int i)
  | str x => exact .base (.str x)
  | lst e _ => exact .base (.lst e)
  | tup e _ => exact .base (.tup e)
  | dic e _ =>
    rcases e with e | ⟨o, e⟩
    · exact .base (.dK e)
    · exact .fDict e
theorem ej_ty {x : Str} {T : String} (hm : X.mg x = none) (hv : bootBuiltins x = some (.type T)) (hg : Gl X x := by rfl) (hn : x ≠ "__name__" := by decide) (hd : (x == ("__debug__" : Str)) = false := by decide) : EJ X N ρ M (.Name x pos) (.v (.ty T)) M := fun σ H P h g Q q =>
  e_of (pe_bltn (v := .ty T) hg hm hv rfl hn hd) (q _ H P (Ex.refl P) h rfl)
theorem ej_isi {p q : Pos} {d : PyData} {T : String} {r : Bool} (hm : X.mg "isinstance" = none) (ha : EJ X N ρ M a (.d d) M1) (hb : EJ X N ρ M1 b (.v (.ty T)) M2) (hk : kitB (tyD d) T = some r) (hg : Gl X "isinstance" := by rfl) (he : starEach [a, b] X.env = (false, eval a X.env) :: starEach [b] X.env := by rfl)
    (he2 : starEach [b] X.env = [(false, eval b X.env)] := by rfl) (hpl : (backTo q (starEach [b] X.env)).any (·.1) = false := by rfl) : EJ X N ρ M (.Call (.Name "isinstance" p) [a, b] [] q) (dB r) M2 :=
  ej_callB call_isi hm (by decide +kernel) (aj_cons ha (aj_cons hb aj_nil he2) he) (fun vs H P h rr Q q => by
    obtain ⟨x, y, rfl, r1, r2⟩ := ri2 rr
    cases (show y = .ty T from r2)
    exact ⟨x, .ty T, _, _, r, rfl, .ty T, ty_of (dnw_ex h.exw d x r1), kit_ty hk, q _ H P (Ex.refl P) h (.bl _)⟩) hg (by decide) (by decide) he hpl
theorem ej_isB (ha : EJ X N ρ M a (dB t) M1) (hb : EJ X N ρ M1 b (dB u) M2) : EJ X N ρ M (.Compare a [.Is] [b] pos) (dB (decide (t = u))) M2 := ej_cmp op_isBl (nomark _) ha hb fun x y H P h rx ry Q q => ⟨t, u, ri_bl rx, ri_bl ry, q _ H P (Ex.refl P) h (.bl _)⟩
theorem tj_isB (ha : EJ X N ρ M a (dB t) M1) (hb : EJ X N ρ M1 b (dB u) M2) : TJ X N ρ M (.Compare a [.Is] [b] pos) (decide (t = u)) M2 := tj_cmp op_isBl (nomark _) ha hb fun x y H P h rx ry Q q => ⟨t, u, ri_bl rx, ri_bl ry, q _ H P (Ex.refl P) h (.bl _)⟩
theorem tj_notB (ha : EJ X N ρ M a (dB t) M1) (hb : EJ X N ρ M1 b (dB u) M2) : TJ X N ρ M (.Compare a [.IsNot] [b] pos) (!decide (t = u)) M2 := tj_cmp op_notBl (nomark _) ha hb fun x y H P h rx ry Q q => ⟨t, u, ri_bl rx, ri_bl ry, q _ H P (Ex.refl P) h (.bl _)⟩
/-! concatenation, repetition, slices -/
theorem rj_catT {ds es : List PyData} (h0 : ds ≠ []) (hz : ds.length + es.length ≤ 100000) : RJ N (rCatT X.K) M (.d (.tuple ds)) (.d (.tuple es)) (.d (.tuple (ds ++ es))) M := fun x y H P h rx ry Q q => by
  obtain ⟨a, xs, rfl, h1, h2⟩ := ri_tup rx
  obtain ⟨b, ys, rfl, h3, h4⟩ := ri_tup ry
  have l1 := dnAll_len h2
  have l2 := dnAll_len h4
  refine ⟨a, b, xs, ys, rfl, rfl, .inl (.inl (h.ex _ _ h1)), .inl (.inl (h.ex _ _ h3)), fun e => h0 ?_, by rw [l1, l2]; exact Nat.le_trans hz (by decide), fun e => ?_, fun _ p hp => ?_⟩
  · rw [e] at l1
    exact List.length_eq_zero_iff.mp l1.symm
  · rw [e] at l2
    have : es = [] := List.length_eq_zero_iff.mp l2.symm
    subst this
    rw [List.append_nil] at q
    exact q _ H P (Ex.refl P) h (.tup h1 h2)
  · obtain ⟨h5, e5⟩ := h.pers (o := .tup (xs ++ ys)) hp
    exact q _ _ _ e5 h5 (.tup upd_same (dnAll_ex e5 _ _ (h2.app h4)))
theorem ej_catT {ds es : List PyData} (ha : EJ X N ρ M a (.d (.tuple ds)) M1) (hb : EJ X N ρ M1 b (.d (.tuple es)) M2) (h0 : ds ≠ []) (hz : ds.length + es.length ≤ 100000) : EJ X N ρ M (.BinOp a .Add b pos) (.d (.tuple (ds ++ es))) M2 := ej_op op_catT ha hb (rj_catT h0 hz)
theorem el_op {op : Operator} {r : R2} {is : List It} (ho : OpR X (binaryOp op) r) (ha : EJ X N ρ M a i M1) (hb : EJ X N ρ M1 b j M2)
    (hr : ∀ x y H P, Holds N P H M2 → RepI P x i → RepI P y j → ∀ Q : VK, (∀ xs, RepIs P xs is → ∀ p, H p = none → Q (.ref p) (upd H p (.lst xs))) → r x y H Q) : EL X N ρ M (.BinOp a op b pos) is M2 := fun σ H P h g Q q =>
  e_of (pe_op ho pe_w pe_w) (ha σ H P h g _ fun x H1 P1 e1 h1 r1 => hb σ H1 P1 h1 (g.ex e1) _ fun y H2 P2 e2 h2 r2 =>
    hr x y H2 P2 h2 (r1.ex e2) r2 Q fun xs rs p hp => q p _ P2 (e1.trans e2) (h2.newF hp) (h2.own hp rs))
theorem el_cat {ds es : List PyData} (ha : EJ X N ρ M a (.d (.list ds)) M1) (hb : EJ X N ρ M1 b (.d (.list es)) M2) (hz : ds.length + es.length ≤ 100000) : EL X N ρ M (.BinOp a .Add b pos) ((ds ++ es).map It.d) M2 :=
  el_op op_cat ha hb fun x y H P h rx ry Q q => by
    obtain ⟨a, xs, rfl, h1, h2⟩ := ri_lst rx
    obtain ⟨b, ys, rfl, h3, h4⟩ := ri_lst ry
    exact ⟨a, b, xs, ys, rfl, rfl, h.ex _ _ h1, h.ex _ _ h3, by rw [dnAll_len h2, dnAll_len h4]; exact Nat.le_trans hz (by decide), fun p hp => q _ (RepIs.of_all (h2.app h4)) p hp⟩
theorem el_rep {ds : List PyData} {n : Int} (ha : EJ X N ρ M a (.d (.list ds)) M1) (hb : EJ X N ρ M1 b (dI n) M2) (h1 : -(2 ^ 63) ≤ n) (h2 : n < 2 ^ 63) (hz : ds.length * n.toNat ≤ 100000) : EL X N ρ M (.BinOp a .Mult b pos) (((List.replicate n.toNat ds).flatten).map It.d) M2 :=
  el_op op_rep ha hb fun x y H P h rx ry Q q => by
    obtain ⟨a, xs, rfl, h3, h4⟩ := ri_lst rx
    exact ⟨a, n, xs, rfl, ri_int ry, h.ex _ _ h3, h1, h2, by rw [dnAll_len h4]; exact Nat.le_trans hz (by decide), fun p hp => q _ (RepIs.of_all (h4.rep _)) p hp⟩
def OJ (X : Cx) (N : Ent) (ρ : Rho) (M : Mem) (e : Option Expr) (o : Option Int) (M' : Mem) : Prop :=
  ∀ σ H P, Holds N P H M → Slots P σ ρ → ∃ to : TO, PO X e to ∧ ∀ Q : Option Int → Hp → Prop, (∀ H' P', Ex P P' → Holds N P' H' M' → Q o H') → to σ H Q
def cutD (ds : List PyData) (lo hi : Option Int) : List PyData := (ds.drop (HT.sIx ds.length 0 lo)).take (HT.sIx ds.length ds.length hi - HT.sIx ds.length 0 lo)
theorem DnAll.cut {P : Hp} {xs : List V} {ds : List PyData} (h : DnAll P xs ds) (lo hi : Option Int) : DnAll P (cutV xs lo hi) (cutD ds lo hi) := by
  unfold cutV cutD
  rw [dnAll_len h]
  exact (h.drop _).take _
/-- t[lo:hi], the parts written ints or none -/
theorem ej_slT {ds : List PyData} {lo hi : Option Expr} {l h : Option Int} {tl th : TO} {p2 : Pos} (ha : EJ X N ρ M a (.d (.tuple ds)) M1) (pl : PO X lo tl) (ph : PO X hi th) (el : ∀ σ H Q, Q l H → tl σ H Q) (eh : ∀ σ H Q, Q h H → th σ H Q)
    (hw : ¬ (HT.sIx ds.length 0 l = 0 ∧ HT.sIx ds.length ds.length h = ds.length)) : EJ X N ρ M (.Subscript a (.Slice lo hi none p2) pos) (.d (.tuple (cutD ds l h))) M1 := fun σ H P hh g Q q =>
  e_of (pe_slice sl_tup pe_w pl ph) (ha σ H P hh g _ fun x H1 P1 e1 h1 r1 => el _ _ _ (eh _ _ _ (by
    obtain ⟨a, xs, rfl, h3, h4⟩ := ri_tup r1
    refine ⟨a, xs, rfl, .inl (.inl (h1.ex _ _ h3)), by rw [dnAll_len h4]; exact hw, fun p hp => ?_⟩
    obtain ⟨h5, e5⟩ := h1.pers (o := .tup (cutV xs l h)) hp
    exact q _ _ _ (e1.trans e5) h5 (.tup upd_same (dnAll_ex e5 _ _ (h4.cut l h))))))
theorem el_slL {ds : List PyData} {lo hi : Option Expr} {l h : Option Int} {tl th : TO} {p2 : Pos} (ha : EJ X N ρ M a (.d (.list ds)) M1) (pl : PO X lo tl) (ph : PO X hi th) (el : ∀ σ H Q, Q l H → tl σ H Q) (eh : ∀ σ H Q, Q h H → th σ H Q) :
    EL X N ρ M (.Subscript a (.Slice lo hi none p2) pos) ((cutD ds l h).map It.d) M1 := fun σ H P hh g Q q =>
  e_of (pe_slice sl_list pe_w pl ph) (ha σ H P hh g _ fun x H1 P1 e1 h1 r1 => el _ _ _ (eh _ _ _ (by
    obtain ⟨a, xs, rfl, h3, h4⟩ := ri_lst r1
    exact ⟨a, xs, rfl, .inl (.inl (h1.ex _ _ h3)), fun p hp => q p _ P1 e1 (h1.newF hp) (h1.own hp (RepIs.of_all (h4.cut l h)))⟩)))
/-- list(t), list(xs) -/
theorem el_listT {p q : Pos} {ds : List PyData} (hm : X.mg "list" = none) (ha : EJ X N ρ M a (.d (.tuple ds)) M1) (hg : Gl X "list" := by rfl) (he : starEach [a] X.env = [(false, eval a X.env)] := by rfl) (hpl : (backTo q (starEach ([] : List Expr) X.env)).any (·.1) = false := by rfl) :
    EL X N ρ M (.Call (.Name "list" p) [a] [] q) (ds.map It.d) M1 := fun σ H P hh g Q k =>
  e_of (pe_callTy call_list_of hg hm (by decide +kernel) pa_w (by decide) (by decide) he hpl) (aj_cons ha aj_nil he σ H P hh g _ fun vs H1 P1 e1 h1 r1 => by
    obtain ⟨x, rfl, r2⟩ := ri1 r1
    obtain ⟨y, ys, rfl, h3, h4⟩ := ri_tup r2
    exact ⟨y, ys, rfl, .inr (.inl (.inl (h1.ex _ _ h3))), fun l hl => k l _ P1 e1 (h1.newF hl) (h1.own hl (RepIs.of_all h4))⟩)
theorem el_listL {p q : Pos} {ds : List PyData} (hm : X.mg "list" = none) (ha : EJ X N ρ M a (.d (.list ds)) M1) (hg : Gl X "list" := by rfl) (he : starEach [a] X.env = [(false, eval a X.env)] := by rfl) (hpl : (backTo q (starEach ([] : List Expr) X.env)).any (·.1) = false := by rfl) :
    EL X N ρ M (.Call (.Name "list" p) [a] [] q) (ds.map It.d) M1 := fun σ H P hh g Q k =>
  e_of (pe_callTy call_list_of hg hm (by decide +kernel) pa_w (by decide) (by decide) he hpl) (aj_cons ha aj_nil he σ H P hh g _ fun vs H1 P1 e1 h1 r1 => by
    obtain ⟨x, rfl, r2⟩ := ri1 r1
    obtain ⟨y, ys, rfl, h3, h4⟩ := ri_lst r2
    exact ⟨y, ys, rfl, .inl (.inl (.inl (h1.ex _ _ h3))), fun l hl => k l _ P1 e1 (h1.newF hl) (h1.own hl (RepIs.of_all h4))⟩)
/-- == of data -/
theorem ej_eqD {d d' : PyData} (hr : X.A.units + 64 < cLine) (ha : EJ X N ρ M a i M1) (hb : EJ X N ρ M1 b j M2) (hi : Rd1 M2 i d) (hj : Rd1 M2 j d') (s1 : plainD d = true) (s2 : plainD d' = true) : EJ X N ρ M (.Compare a [.Eq] [b] pos) (dB (PyData.eqv d d')) M2 := ej_cmp (op_eqD hr) (nomark _) ha hb (rj_eqD hi hj s1 s2)
theorem tj_eqD {d d' : PyData} (hr : X.A.units + 64 < cLine) (ha : EJ X N ρ M a i M1) (hb : EJ X N ρ M1 b j M2) (hi : Rd1 M2 i d) (hj : Rd1 M2 j d') (s1 : plainD d = true) (s2 : plainD d' = true) : TJ X N ρ M (.Compare a [.Eq] [b] pos) (PyData.eqv d d') M2 := tj_cmp (op_eqD hr) (nomark _) ha hb (rj_eqD hi hj s1 s2)
theorem tj_neD {d d' : PyData} (hr : X.A.units + 64 < cLine) (ha : EJ X N ρ M a i M1) (hb : EJ X N ρ M1 b j M2) (hi : Rd1 M2 i d) (hj : Rd1 M2 j d') (s1 : plainD d = true) (s2 : plainD d' = true) : TJ X N ρ M (.Compare a [.NotEq] [b] pos) (!PyData.eqv d d') M2 := tj_cmp (op_neD hr) (nomark _) ha hb (rj_neD hi hj s1 s2)
/-- xs.pop(i), xs one's own -/
theorem sj_popAt {ap epos : Pos} {p : Addr} {is : List It} {n : Nat} (ho : EJ X N ρ M a (.v (.ref p)) M) (he : EJ X N ρ M e (dI (n : Int)) M) (hm : (p, is) ∈ M) (hn : n < is.length) (hz : is.length < 100000) (hr : SJ X N ρ (M.put p (is.eraseIdx n)) rest Z) (hs : swapsWith (.Call (.Attribute a "pop" ap) [e] [] pos) none epos.line X.env = pure false := by rfl)
    (hst : starEach [e] X.env = [(false, eval e X.env)] := by rfl) (ps : PE X (.Call (.Attribute a "pop" ap) [e] [] pos) (tBM X.K "list" rPopAt (wE X a) (wA X [e])) := by exact pe_bm PySem.F.plainAttrs_list PySem.F.slot_list_pop PySem.F.type_list_pop mt_popAt pe_w pa_w) : SJ X N ρ M (.Expr (.Call (.Attribute a "pop" ap) [e] [] pos) epos :: rest) Z := sj_cons fun σ H P hh g D E tk z => by
  refine s_of (ps_expr ps hs) (ho σ H P hh g _ fun v H1 P1 e1 h1 r1 => ?_)
  cases (show v = .ref p from r1)
  obtain ⟨ys, ey, _⟩ := h1.cell hm
  refine ⟨.inl ⟨rfl, ys, .inl (.inl ey)⟩, ?_⟩
  refine aj_cons he aj_nil hst σ H1 P1 h1 (g.ex e1) _ fun vs H2 P2 e2 h2 r2 => ?_
  obtain ⟨y, rfl, r3⟩ := ri1 r2
  cases ri_int r3
  obtain ⟨xs, e3, r4⟩ := h2.cell hm
  have z4 := r4.len
  have hx : n < xs.length := by omega
  refine ⟨p, xs, (n : Int), n, xs[n], rfl, rfl, e3, by omega, by omega, ?_, List.getElem?_eq_getElem hx, ?_⟩
  · have q := (HT.seqIx n xs.length hx)
    exact q
  · exact z.nx ρ _ σ _ P2 hr (e1.trans e2) (h2.write hm (r4.erase n)) (g.ex (e1.trans e2))
end
end Kt

/-! Kt8: defs that hand back cells of their own; the law itself. -/
namespace Kt
open PySem PySem.Spec PyProof.Rows L2
abbrev Pre := List It → Mem → Prop
def spN (A : Pre) (B : Co) : Sp := fun vs H Q _ => ∃ (P : Hp) (is : List It) (M : Mem), Holds (inner P H M) P H M ∧ RepIs P vs is ∧ A is M ∧ ∀ i M' v H' P', B is M i M' → Holds (inner P H M) P' H' M' → RepI P' v i → Q v H'
structure DefN (P : Program) (w : World) (K : PySem.W.Frag) (mg : Str → Option Value) (base : Heap) (x : Str) (k : Nat) (A : Pre) (B : Co) : Prop where
  ex : ∃ f fd ps, FnOk P w K mg base CX0 k f fd ps (spN A B) ∧ mg x = some (.ref f) ∧ PySem.W.keepIn K (.ref f) = true ∧ Binds K fd ps []
def MSub (M' M'' : Mem) : Prop := (∀ c ∈ M', c ∈ M'') ∧ ((M''.map Prod.fst).Nodup → (M'.map Prod.fst).Nodup)
theorem defN_ok {P : Program} {w : World} {K : PySem.W.Frag} {mg : Str → Option Value} {base : Heap} {x qual : Str} {st : Stmt} {f : Addr} {fd : FuncData} {NN ps : List Str} {l : Nat} {A : Pre} {B : Co} (F : Fun K x qual st f fd) (S : FnScope NN ps (defScope st))
    (hm : mg x = some (.ref f)) (hb : Binds K fd ps []) (len : ∀ is M, A is M → is.length = ps.length) (keep : ∀ is M i M', A is M → B is M i M' → ∀ a ∈ M.map Prod.fst, a ∈ M'.map Prod.fst)
    (body : ∀ X : Cx, (∃ cdv A outer s H E, X = (cxOf CX0 P w K mg base NN qual (defScope st) f cdv A outer s H E).nox ∧ Room l X.A) → ∀ N is M, N.F = M.map Prod.fst → A is M → SJ X N (rho NN is) M (defBody st) { nx := fun _ M'' => ∃ M', B is M (.d .none) M' ∧ MSub M' M'', rt := fun i M'' => ∃ M', B is M i M' ∧ MSub M' M'' }) : DefN P w K mg base x (l + 1) A B := by
  refine ⟨f, fd, ps, F.ok S (fun vs H Q E h => ?_) (fun cdv A outer s H vs Q E hr h => ?_), hm, F.kp, hb⟩
  · obtain ⟨P0, is, M, h0, r, hA, _⟩ := h
    rw [r.len]
    exact len _ _ hA
  · obtain ⟨P0, is, M, h0, r, hA, q⟩ := h
    refine ⟨_, pss_w, ?_⟩
    have es : L2.start NN vs = vs.map some ++ List.replicate (NN.length - is.length) none := by
      unfold L2.start
      rw [r.len]
    rw [es]
    refine body _ ⟨cdv, A, outer, s, H, E, rfl, hr⟩ (inner P0 H M) is M rfl hA _ H P0 h0 (slots_start _ r) _ E0 takes0 ⟨fun ρ' M'' σ' H' P' a e hh g => ?_, fun i' M'' v H' P' a e hh rr => ?_, fun _ _ _ _ _ a => a.elim, fun _ _ _ _ _ a => a.elim, fun _ _ _ _ _ _ _ a => a.elim⟩
    · obtain ⟨M', hB, s1, s2⟩ := a
      exact q _ _ _ H' P' hB (hh.sub s1 (s2 hh.nd) fun a ha => keep _ _ _ _ hA hB a ha) .non
    · obtain ⟨M', hB, s1, s2⟩ := a
      exact q _ _ _ H' P' hB (hh.sub s1 (s2 hh.nd) fun a ha => keep _ _ _ _ hA hB a ha) rr
section
variable {X : Cx} {N : Ent} {ρ ρ' : Rho} {M M1 M2 M3 M' Mc Mr Mc' : Mem} {a b c e : Expr} {pos p pos' : Pos} {i j k : It} {t u : Bool} {Z : Post} {body rest : List Stmt} {es : List Expr} {is : List It}
/-- x = f(..), f handing back cells -/
theorem sj_setN (n : Nat) {x y : Str} {l : Nat} {A : Pre} {B : Co} (hN : X.N.Nodup) (F : DefN X.prog X.w X.K X.mg X.base y l A B) (hr : Room l X.A) (ha : AJ X N ρ M (e :: es) is M1) (hM : M1 = Mc ++ Mr) (hA : A is Mc)
    (hk : ∀ i Mc', B is Mc i Mc' → SJ X N (ρ.set n (some i)) (Mc' ++ Mr) rest Z) (hi : X.N[n]? = some x := by rfl) (hx : Loc X.env.scope x := by first | exact .inl rfl | exact .inr rfl)
    (hs : swapsWith (.Call (.Name y p) (e :: es) [] pos) (some (.Name x pos')) pos.line X.env = pure false := by rfl) (hf : X.fn x = true ∨ X.env.scope.names.lookup x = some .local := by first | exact .inl rfl | exact .inr rfl)
    (hg : Gl X y := by rfl) (hdb : (y == ("__debug__" : Str)) = false := by decide) (he : starEach (e :: es) X.env = (false, eval e X.env) :: starEach es X.env := by rfl) (hpl : (backTo pos (starEach es X.env)).any (·.1) = false := by rfl) {spos : Pos}
    (hs2 : swapsWith (.Call (.Name y p) (e :: es) [] pos) (some (.Name x pos')) spos.line X.env = pure false := by rfl) :
    SJ X N ρ M (.Assign [.Name x pos'] (.Call (.Name y p) (e :: es) [] pos) spos :: rest) Z := sj_cons fun σ H P hh g D E tk z => by
  obtain ⟨f, fd, ps, F1, hm, hkp, hb⟩ := F.ex
  refine s_of (ps_set (i := n) hN hi hx (pe_call F1 hr hg hm hkp hb .nil pass0 pa_w hdb he hpl) hs2 hf) (ha σ H P hh g _ fun vs H1 P1 e1 h1 r1 => ?_)
  subst hM
  refine ⟨P1, is, Mc, h1.enter, ?_, hA, fun i M' v H' P' hB h' r' => ?_⟩
  · rw [List.append_nil]; exact r1
  · exact z.nx _ _ _ _ P' (hk i M' hB) (e1.trans h'.ex0) (h1.leave h') ((g.ex (e1.trans h'.ex0)).set r' n)
/-- return [a, b], a a new list -/
theorem sj_retLL {lp : Pos} (ha : EL X N ρ M a is M1) (hb : ∀ p, EJ X N ρ (M1 ++ [(p, is)]) b j (M1 ++ [(p, is)])) (h : ∀ p q, Z.rt (.v (.ref q)) (M1 ++ [(p, is)] ++ [(q, [.v (.ref p), j])]))
    (he : starEach [a, b] X.env = (false, eval a X.env) :: starEach [b] X.env := by rfl) (he2 : starEach [b] X.env = [(false, eval b X.env)] := by rfl) : SJ X N ρ M (.Return (some (.List [a, b] lp)) pos :: rest) Z := sj_cons fun σ H P hh g D E tk z =>
  s_of (ps_ret (pe_lst (pa_cons pe_w (pa_cons pe_w pa_nil he2) he))) (ha σ H P hh g _ fun p H1 P1 e1 hp h1 => hb p σ H1 P1 h1 (g.ex e1) _ fun v2 H2 P2 e2 h2 r2 => ⟨(by show 2 ≤ sizeLine; decide), fun q hq => z.rt _ _ _ _ P2 (h p q) (e1.trans e2) (h2.own hq ⟨rfl, r2, trivial⟩) rfl⟩)
end
/-- the law -/
theorem nz_only {H : Hp} (h : Only H) : NzD H := fun a od kvs e => by
  rcases h a with k | ⟨o, xs, k⟩
  · rw [k] at e; cases e
  · rw [k] at e; cases e
def spLaw (K : PySem.W.Frag) : Sp := fun vs H Q _ => ∃ (a : Addr) (ns : List Int), vs = [.ref a] ∧ SqL K H a (ns.map V.int) ∧ ns.length ≤ 63 ∧ NzD H ∧ ∀ H', Q (.bl true) H'
theorem law_ok {P : Program} {w : World} {K : PySem.W.Frag} {mg : Str → Option Value} {base : Heap} {st : Stmt} {f : Addr} {fd : FuncData} {NN : List Str} {l : Nat} (F : Fun K "law" "law" st f fd) (S : FnScope NN ["script"] (defScope st))
    (body : ∀ X : Cx, (∃ cdv A outer s H E, X = (cxOf CX0 P w K mg base NN "law" (defScope st) f cdv A outer s H E).nox ∧ Room l X.A) → ∀ N a ns, N.F = [] → ns.length ≤ 63 → SJ X N (rho NN [scr K a ns]) [] (defBody st) { nx := fun _ _ => False, rt := fun i _ => i = dB true }) : FnOk P w K mg base CX0 (l + 1) f fd ["script"] (spLaw K) := by
  refine F.ok S (fun vs H Q E h => ?_) (fun cdv A outer s H vs Q E hr h => ?_)
  · obtain ⟨a, ns, rfl, _⟩ := h
    rfl
  · obtain ⟨a, ns, rfl, hS, hl, nz, q⟩ := h
    refine ⟨_, pss_w, ?_⟩
    have h0 : Holds (inner H H []) H H [] := ⟨(Ex.refl H).w, Ex.refl H, fun _ _ e _ => e, fun _ e f => absurd e f, fun _ hc => absurd hc (List.not_mem_nil), List.nodup_nil, fun _ ha => ha, fun _ hc => absurd hc (List.not_mem_nil), fun _ _ _ e => e, nz⟩
    have es : L2.start NN [V.ref a] = ([V.ref a] : List V).map some ++ List.replicate (NN.length - ([scr K a ns] : List It).length) none := rfl
    rw [es]
    refine body _ ⟨cdv, A, outer, s, H, E, rfl, hr⟩ (inner H H []) a ns rfl hl _ H H h0 (slots_start (vs := [V.ref a]) (is := [scr K a ns]) _ ⟨⟨rfl, hS⟩, trivial⟩) _ E0 takes0 ⟨fun _ _ _ _ _ a => a.elim, fun i' M'' v H' P' e _ hh rr => ?_, fun _ _ _ _ _ a => a.elim, fun _ _ _ _ _ a => a.elim, fun _ _ _ _ _ _ _ a => a.elim⟩
    subst e
    rw [ri_bl rr]
    exact q H'
end Kt
namespace Kt
open PySem PySem.Spec PyProof.Rows L2
section
variable {X : Cx} {N : Ent} {ρ ρ' : Rho} {M M1 M2 M3 M' Mc Mr Mc' : Mem} {a b c e : Expr} {pos p pos' : Pos} {i j k : It} {t u : Bool}
theorem rj_eqS {n m : Str} : RJ N rEq M (.d (.str n)) (.d (.str m)) (dB (decide (n = m))) M := fun x y H P h rx ry Q q => by
  cases ri_str rx
  cases ri_str ry
  refine ⟨rfl, q _ H P (Ex.refl P) h ?_⟩
  have e : decide (V.str n = V.str m) = decide (n = m) := by
    by_cases z : n = m
    · subst z; simp
    · simp [z]
  rw [e]
  exact .bl _
theorem ej_eqS {n m : Str} (ha : EJ X N ρ M a (.d (.str n)) M1) (hb : EJ X N ρ M1 b (.d (.str m)) M2) : EJ X N ρ M (.Compare a [.Eq] [b] pos) (dB (decide (n = m))) M2 := ej_cmp op_eq (nomark _) ha hb rj_eqS
theorem tj_eqS {n m : Str} (ha : EJ X N ρ M a (.d (.str n)) M1) (hb : EJ X N ρ M1 b (.d (.str m)) M2) : TJ X N ρ M (.Compare a [.Eq] [b] pos) (decide (n = m)) M2 := tj_cmp op_eq (nomark _) ha hb rj_eqS
end
theorem kit_int (d : PyData) : kitB (tyD d) "int" = some (decide (tyD d = "int" ∨ tyD d = "bool")) := by cases d <;> kernel_rfl
theorem kit_bool (d : PyData) : kitB (tyD d) "bool" = some (decide (tyD d = "bool")) := by cases d <;> kernel_rfl
theorem kit_str (d : PyData) : kitB (tyD d) "str" = some (decide (tyD d = "str")) := by cases d <;> kernel_rfl
theorem kit_tuple (d : PyData) : kitB (tyD d) "tuple" = some (decide (tyD d = "tuple")) := by cases d <;> kernel_rfl
theorem kit_list (d : PyData) : kitB (tyD d) "list" = some (decide (tyD d = "list")) := by cases d <;> kernel_rfl
end Kt

/-! Kt9: comprehensions with a pair as a target; with two clauses. -/
namespace Kt
open PySem PySem.Spec PyProof.Rows L2
section
variable {X : Cx} {N : Ent} {ρ ρ' : Rho} {M M1 M2 M3 M' Mc Mr Mc' : Mem} {a b c e elt iter iter1 : Expr} {pos p pos' : Pos} {i j k : It} {t u : Bool} {scope : Scope}
theorem two_set {σ : L2.St} {n1 n2 : Nat} {v1 v2 : V} (ne : n1 ≠ n2) : ((wipe σ [n1, n2]).set n1 (some v1)).set n2 (some v2) = (σ.set n1 (some v1)).set n2 (some v2) := by
  show ((((σ.set n2 none).set n1 none).set n1 (some v1)).set n2 (some v2)) = _
  rw [List.set_set, List.set_comm _ _ ne.symm, List.set_set]
theorem two_wipe {σ : L2.St} {n1 n2 : Nat} {v1 v2 : V} (ne : n1 ≠ n2) : wipe (((wipe σ [n1, n2]).set n1 (some v1)).set n2 (some v2)) [n1, n2] = wipe σ [n1, n2] := by
  rw [two_set ne]
  show ((((σ.set n1 (some v1)).set n2 (some v2)).set n2 none).set n1 none) = (σ.set n2 none).set n1 none
  rw [List.set_set, List.set_comm _ _ ne, List.set_set, List.set_comm _ _ ne.symm]
/-- [e for x, y in a list of pairs] -/
theorem lj_compP (n1 n2 : Nat) {ds : List PyData} (A : Nat → List It) (Mi : Nat → Mem) (hc : X.calm = true) (hN : X.N.Nodup) (ne : n1 ≠ n2) (hi : EJ X N ρ M iter (.d (.list ds)) M1)
    (hA0 : A 0 = []) (hM0 : Mi 0 = M1) (hz : ds.length ≤ 100000)
    (step : ∀ (m : Nat) d, ds[m]? = some d → ∃ x y j, d = .tuple [x, y] ∧ A (m + 1) = A m ++ [j] ∧ (A m).length ≤ m ∧ ∀ N' s H C cl fp, EJ (X.blk s H scope (compEnvC scope cl C X.env) fp) N' ((ρ.set n1 (some (.d x))).set n2 (some (.d y))) (Mi m) elt j (Mi (m + 1)))
    : LJ X N ρ M (tLc (iList X.K (wE X iter)) (gTup X.K 2 (gCons (gName n1) (gCons (gName n2) gNil))) tYes (wBE X scope elt) [n1, n2]) (A ds.length) (Mi ds.length) := fun σ H P hh g Q q => by
  refine (hi σ H P hh g _ fun v H1 P1 e1 h1 r1 => ?_)
  obtain ⟨a, xs, rfl, x1, x2⟩ := ri_lst r1
  have xl := dnAll_len x2
  refine ⟨a, rfl, ⟨xs, .inl (.inl (h1.ex _ _ x1))⟩, fun D hD => lc_list (xs := xs) (fun m H' => ∃ P', Holds N P' H' (Mi m ++ [(D, A m)]) ∧ Ex P1 P') ⟨P1, by rw [hA0, hM0]; exact h1.own hD (its := []) trivial, Ex.refl _⟩ (fun m H' _ hw => ?_) (fun m x' H' hx hw => ?_) (fun H' hw => ?_)⟩
  · obtain ⟨P', h2, e2⟩ := hw
    exact .inl (.inl (h2.ex _ _ (e2 _ _ x1)))
  · obtain ⟨P', h2, e2⟩ := hw
    have nl : m < ds.length := xl ▸ (List.getElem?_eq_some_iff.mp hx).1
    obtain ⟨v', ev, dv⟩ := dnAll_get x2 (List.getElem?_eq_getElem nl)
    rw [hx] at ev
    cases Option.some.inj ev
    obtain ⟨dx, dy, j, ed, eA, lA, S⟩ := step m _ (List.getElem?_eq_getElem nl)
    rw [ed] at dv
    obtain ⟨ta, ts, rfl, t1, t2⟩ := ri_tup (show RepI P1 x' (.d (.tuple [dx, dy])) from dv)
    cases t2 with
    | cons k1 kr =>
      cases kr with
      | cons k2 kn =>
        cases kn
        refine ⟨ta, _, rfl, .inl (.inl (h2.ex _ _ (e2 _ _ t1))), rfl, _, _, rfl, _, _, rfl, rfl, two_wipe ne, ?_⟩
        unfold tYes
        dsimp only
        rw [if_pos rfl]
        intro s H0 C cl fp
        refine S (inner P' H' (Mi m)) s H0 C cl fp _ H' P' h2.enter (by rw [two_set ne]; exact ((g.ex (e1.trans e2)).set (it := .d dx) (dn_ex e2 _ _ k1) n1).set (it := .d dy) (dn_ex e2 _ _ k2) n2) _ fun y H4 P4 e4 h4 r4 => ?_
        have h5 := h2.leave h4
        obtain ⟨acc, ea, ra⟩ := h5.cell (a := D) (its := A m) (List.mem_append_right _ (List.mem_singleton.mpr rfl))
        refine ⟨acc, ea, by rw [ra.len]; exact Nat.lt_of_lt_of_le (Nat.lt_of_le_of_lt lA (Nat.lt_of_lt_of_le nl hz)) (by decide), P4, ?_, e2.trans e4⟩
        have h6 := h5.write (a := D) (its := A m) (its' := A (m + 1)) (List.mem_append_right _ (List.mem_singleton.mpr rfl)) (xs' := acc ++ [y]) (by rw [eA]; exact ra.app ⟨r4, trivial⟩)
        rw [put_last h5.nd] at h6
        exact h6
  · obtain ⟨P', h2, e2⟩ := hw
    rw [xl] at h2
    exact q D H' P' (e1.trans e2) (h1.newF hD) h2
theorem el_compP {x y : Str} {px py tp : Pos} {tk : Nat} (n1 n2 : Nat) {ds : List PyData} (A : Nat → List It) (Mi : Nat → Mem) (hc : X.calm = true) (hN : X.N.Nodup) (ne : n1 ≠ n2) (hi : EJ X N ρ M iter (.d (.list ds)) M1)
    (hA0 : A 0 = []) (hM0 : Mi 0 = M1) (hz : ds.length ≤ 100000)
    (step : ∀ (m : Nat) d, ds[m]? = some d → ∃ x y j, d = .tuple [x, y] ∧ A (m + 1) = A m ++ [j] ∧ (A m).length ≤ m ∧ ∀ N' s H C cl fp, EJ (X.blk s H scope (compEnvC scope cl C X.env) fp) N' ((ρ.set n1 (some (.d x))).set n2 (some (.d y))) (Mi m) elt j (Mi (m + 1)))
    (ok : BlkOk X.N X.env.scope scope [(x, n1), (y, n2)] := by exact blkOk_by (by kernel_rfl))
    (hgn : ∀ (s : Shared) (H : Hp) (C : Addr) (cl : List (Str × Addr)) (fp : List Addr), PG (X.blk s H scope (compEnvC scope cl C X.env) fp) (.Tuple [.Name x px, .Name y py] tk tp) (gTup X.K 2 (gCons (gName n1) (gCons (gName n2) gNil))) := by exact fun _ _ _ _ _ => pg_tup (by rfl) (pgs_cons (pg_name (by assumption) rfl (Or.inl rfl)) (pgs_cons (pg_name (by assumption) rfl (Or.inl rfl)) pgs_nil)))
    (hf : ∀ x, foldedSetIterable iter X.env x = pure x := by intro _; rfl) : EL X N ρ M (.ListComp elt [⟨.Tuple [.Name x px, .Name y py] tk tp, iter, [], 0⟩] scope pos) (A ds.length) (Mi ds.length) :=
  el_lc (lj_compP n1 n2 A Mi hc hN ne hi hA0 hM0 hz step) (pe_lc hc hN (pi_list pe_w) ok hgn (fun _ _ _ _ _ => pts_nil) (te := wBE X scope elt) (fun s H C cl fp => ⟨fun pins s1 σ1 H1 Q1 I1 h1 => h1 s H C cl fp pins s1 I1⟩) hf)
/-- [e for x in t for y in x], tuples of tuples, cells as they stand -/
def flat2 (f : PyData → PyData → PyData) : List PyData → List PyData
  | [] => []
  | .tuple l :: r => l.map (f (.tuple l)) ++ flat2 f r
  | _ :: r => flat2 f r
theorem flat2_app (f : PyData → PyData → PyData) : ∀ a b : List PyData, flat2 f (a ++ b) = flat2 f a ++ flat2 f b
  | [], b => rfl
  | d :: r, b => by
    cases d with
    | tuple l =>
      show l.map (f (.tuple l)) ++ flat2 f (r ++ b) = (l.map (f (.tuple l)) ++ flat2 f r) ++ flat2 f b
      rw [flat2_app f r b, List.append_assoc]
    | _ => exact flat2_app f r b
theorem wipe_first {σ : L2.St} {n1 n2 : Nat} {v : V} (ne : n1 ≠ n2) : wipe ((wipe σ [n1, n2]).set n1 (some v)) [n1, n2] = wipe σ [n1, n2] := by
  show ((((σ.set n2 none).set n1 none).set n1 (some v)).set n2 none).set n1 none = (σ.set n2 none).set n1 none
  rw [List.set_set, List.set_comm _ _ ne, List.set_set, List.set_set]
theorem flat2_take (f : PyData → PyData → PyData) {ds : List PyData} {i : Nat} {l : List PyData} (h : ds[i]? = some (.tuple l)) : flat2 f (ds.take (i + 1)) = flat2 f (ds.take i) ++ l.map (f (.tuple l)) := by
  rw [List.take_add_one, h, flat2_app]
  show _ ++ (l.map (f (.tuple l)) ++ []) = _
  rw [List.append_nil]
theorem flat2_len (f : PyData → PyData → PyData) (z : Nat) : ∀ ds : List PyData, (∀ d ∈ ds, ∃ l, d = .tuple l ∧ l.length ≤ z) → (flat2 f ds).length ≤ ds.length * z
  | [], _ => by simp [flat2]
  | d :: r, h => by
    obtain ⟨l, rfl, hl⟩ := h d List.mem_cons_self
    show (l.map (f (.tuple l)) ++ flat2 f r).length ≤ _
    have := flat2_len f z r fun d hd => h d (List.mem_cons_of_mem _ hd)
    rw [List.length_append, List.length_map, List.length_cons, Nat.succ_mul]
    omega
theorem el_comp22 {x y : Str} {px py : Pos} (n1 n2 : Nat) {ds : List PyData} (f : PyData → PyData → PyData) (hc : X.calm = true) (hN : X.N.Nodup) (ne : n1 ≠ n2) (hi : EJ X N ρ M iter (.d (.tuple ds)) M1)
    (hz : ds.length ≤ 1000) (shape : ∀ d ∈ ds, ∃ l, d = .tuple l ∧ l.length ≤ 64)
    (src : ∀ d ∈ ds, ∀ N' s H C cl fp, EJ (X.blk s H scope (compEnvC scope cl C X.env) fp) N' ((ρ.set n2 none).set n1 (some (.d d))) M1 iter1 (.d d) M1)
    (step : ∀ (l : List PyData) (d : PyData), .tuple l ∈ ds → d ∈ l → ∀ N' s H C cl fp, EJ (X.blk s H scope (compEnvC scope cl C X.env) fp) N' (((ρ.set n2 none).set n1 (some (.d (.tuple l)))).set n2 (some (.d d))) M1 elt (.d (f (.tuple l) d)) M1)
    (ok : BlkOk X.N X.env.scope scope [(x, n1), (y, n2)] := by exact blkOk_by (by kernel_rfl))
    (hg1 : ∀ (s : Shared) (H : Hp) (C : Addr) (cl : List (Str × Addr)) (fp : List Addr), PG (X.blk s H scope (compEnvC scope cl C X.env) fp) (.Name x px) (gName n1) := by exact fun _ _ _ _ _ => pg_name (by assumption) rfl (Or.inl rfl))
    (hg2 : ∀ (s : Shared) (H : Hp) (C : Addr) (cl : List (Str × Addr)) (fp : List Addr), PG (X.blk s H scope (compEnvC scope cl C X.env) fp) (.Name y py) (gName n2) := by exact fun _ _ _ _ _ => pg_name (by assumption) rfl (Or.inl rfl))
    (hf : ∀ x, foldedSetIterable iter X.env x = pure x := by intro _; rfl) (hf1 : ∀ env x, foldedSetIterable iter1 env x = pure x := by intro _ _; rfl) : EL X N ρ M (.ListComp elt [⟨.Name x px, iter, [], 0⟩, ⟨.Name y py, iter1, [], 0⟩] scope pos) ((flat2 f ds).map It.d) M1 := fun σ H P hh g Q q => by
  have pi1 : ∀ (s : Shared) (H : Hp) (C : Addr) (cl : List (Str × Addr)) (fp : List Addr), PI (X.blk s H scope (compEnvC scope cl C X.env) fp) (.Name y py) iter1 (iTup X.K (wBE X scope iter1)) := fun s H C cl fp =>
    pi_tup (X := X.blk s H scope (compEnvC scope cl C X.env) fp) ⟨fun pins s1 σ1 H1 Q1 I1 h1 => h1 s H C cl fp pins s1 I1⟩
  refine e_of (pe_lc2 (vs1 := [n2]) (te := wBE X scope elt) hc hN (pi_tup pe_w) ok (by simp) hg1 (fun _ _ _ _ _ => pts_nil) pi1 hg2 (fun _ _ _ _ _ => pts_nil) (fun s H C cl fp => ⟨fun pins s1 σ1 H1 Q1 I1 h1 => h1 s H C cl fp pins s1 I1⟩) hf hf1) (hi σ H P hh g _ fun v H1 P1 e1 h1 r1 => ?_)
  obtain ⟨a, xs, rfl, x1, x2⟩ := ri_tup r1
  have xl := dnAll_len x2
  refine ⟨a, rfl, ⟨xs, .inl (.inl (h1.ex _ _ x1))⟩, fun D hD => ?_⟩
  refine ⟨fun i m H => m = xs.length - i ∧ i ≤ xs.length ∧ ∃ P', Holds N P' H (M1 ++ [(D, (flat2 f (ds.take i)).map It.d)]) ∧ Ex P1 P', ⟨xs.length, by simp, Nat.zero_le _, P1, h1.own hD (its := []) trivial, Ex.refl _⟩, ?_⟩
  rintro i m H2 ⟨rfl, hil, P2, h2, e2⟩
  have sq : SqT X.K H2 a xs := .inl (.inl (h2.ex _ _ (e2 _ _ x1)))
  by_cases hlt : i < xs.length
  · refine .inr ⟨⟨xs, xs[i], sq, by simp [hlt]⟩, fun H' => ∃ P', Holds N P' H' (M1 ++ [(D, (flat2 f (ds.take (i + 1))).map It.d)]) ∧ Ex P1 P', fun H' p' => ⟨xs.length - (i + 1), by omega, rfl, hlt, p'⟩, fun x' H' yl => ?_⟩
    obtain ⟨rfl, yx⟩ := yl
    have hx := yx xs sq
    have nl : i < ds.length := xl ▸ hlt
    obtain ⟨v', ev, dv⟩ := dnAll_get x2 (List.getElem?_eq_getElem nl)
    rw [hx] at ev
    cases Option.some.inj ev
    have hmem : ds[i] ∈ ds := List.getElem_mem nl
    obtain ⟨l, el, ll⟩ := shape _ hmem
    refine ⟨wipe_first ne, ?_⟩
    unfold tYes
    dsimp only
    rw [if_pos rfl]
    intro s H0 C cl fp
    have g2 : Slots P2 ((wipe σ [n1, n2]).set n1 (some x')) ((ρ.set n2 none).set n1 (some (.d ds[i]))) := by
      have e : (wipe σ [n1, n2]).set n1 (some x') = (σ.set n2 none).set n1 (some x') := by
        show ((σ.set n2 none).set n1 none).set n1 (some x') = _
        rw [List.set_set]
      rw [e]
      exact ((g.ex (e1.trans e2)).unset n2 none).set (it := .d ds[i]) (dn_ex e2 _ _ dv) n1
    refine src _ hmem (inner P2 H' M1) s H0 C cl fp _ H' P2 h2.enter g2 _ fun w H4 P4 e4 h4 r4 => ?_
    have h5 := h2.leave h4
    rw [el] at r4
    obtain ⟨ta, ts, rfl, t1, t2⟩ := ri_tup r4
    have tl := dnAll_len t2
    refine ⟨ta, rfl, ⟨ts, .inl (.inl (h5.ex _ _ t1))⟩, fun j k H => k = ts.length - j ∧ j ≤ ts.length ∧ ∃ P', Holds N P' H (M1 ++ [(D, (flat2 f (ds.take i) ++ (l.take j).map (f (.tuple l))).map It.d)]) ∧ Ex P4 P', ⟨ts.length, by simp, Nat.zero_le _, P4, by simpa using h5, Ex.refl _⟩, ?_⟩
    rintro j k H6 ⟨rfl, hjl, P6, h6, e6⟩
    have sq6 : SqT X.K H6 ta ts := .inl (.inl (h6.ex _ _ (e6 _ _ t1)))
    by_cases hjt : j < ts.length
    · refine .inr ⟨⟨ts, ts[j], sq6, by simp [hjt]⟩, fun H' => ∃ P', Holds N P' H' (M1 ++ [(D, (flat2 f (ds.take i) ++ (l.take (j + 1)).map (f (.tuple l))).map It.d)]) ∧ Ex P4 P', fun H' p' => ⟨ts.length - (j + 1), by omega, rfl, hjt, p'⟩, fun x7 H7 yl7 => ?_⟩
      obtain ⟨rfl, yx7⟩ := yl7
      have hx7 := yx7 ts sq6
      have nl7 : j < l.length := tl ▸ hjt
      obtain ⟨v7, ev7, dv7⟩ := dnAll_get t2 (List.getElem?_eq_getElem nl7)
      rw [hx7] at ev7
      cases Option.some.inj ev7
      refine ⟨wipe_comp n2, ?_⟩
      dsimp only
      rw [if_pos rfl]
      intro s H0 C cl fp
      have g7 := slots_comp (g2.ex (e4.trans e6)) n2 (i := .d l[j]) (dn_ex e6 _ _ dv7)
      rw [el] at g7
      refine step l l[j] (el ▸ hmem) (List.getElem_mem nl7) (inner P6 H7 M1) s H0 C cl fp _ H7 P6 h6.enter g7 _ fun y8 H8 P8 e8 h8 r8 => ?_
      have h9 := h6.leave h8
      obtain ⟨acc, ea, ra⟩ := h9.cell (a := D) (its := (flat2 f (ds.take i) ++ (l.take j).map (f (.tuple l))).map It.d) (List.mem_append_right _ (List.mem_singleton.mpr rfl))
      have hlen := flat2_len f 64 (ds.take i) fun d hd => shape d (List.mem_of_mem_take hd)
      refine ⟨acc, ea, ?_, P8, ?_, e6.trans e8⟩
      · rw [ra.len]
        refine Nat.lt_of_lt_of_le (m := 100000) ?_ (by decide)
        simp
        have : (List.take i ds).length ≤ 1000 := by rw [List.length_take]; omega
        have h64 : (flat2 f (List.take i ds)).length ≤ 64000 := Nat.le_trans hlen (by omega)
        omega
      · have h10 := h9.write (a := D) (its := (flat2 f (ds.take i) ++ (l.take j).map (f (.tuple l))).map It.d) (its' := (flat2 f (ds.take i) ++ (l.take (j + 1)).map (f (.tuple l))).map It.d) (List.mem_append_right _ (List.mem_singleton.mpr rfl)) (xs' := acc ++ [y8]) (by
          have e11 : (flat2 f (ds.take i) ++ (l.take (j + 1)).map (f (.tuple l))).map It.d = (flat2 f (ds.take i) ++ (l.take j).map (f (.tuple l))).map It.d ++ [It.d (f (.tuple l) l[j])] := by
            rw [List.take_add_one, List.getElem?_eq_getElem nl7, List.map_append, List.map_append, List.map_append, List.map_append, List.append_assoc]
            rfl
          rw [e11]
          exact ra.app ⟨r8, trivial⟩)
        rw [put_last h9.nd] at h10
        exact h10
    · have ej : j = ts.length := by omega
      subst ej
      refine .inl ⟨⟨ts, sq6, Nat.le_refl _⟩, P6, ?_, (e2.trans e4).trans e6⟩
      rw [flat2_take f ((List.getElem?_eq_getElem nl).trans (congrArg some el))]
      rw [tl, List.take_length] at h6
      exact h6
  · have ei : i = xs.length := by omega
    subst ei
    refine .inl ⟨⟨xs, sq, Nat.le_refl _⟩, ?_⟩
    rw [xl, List.take_length] at h2
    exact q D H2 P2 (e1.trans e2) (h1.newF hD) h2
end
end Kt

/-! Kta: extend by a tuple; two names at once. -/
namespace PySem
namespace AutoSeq1
open Builtin
theorem extend_tup (l : Addr) (items : Array Value) (n : Nat) (b : Addr) (items2 : Array Value) (n2 : Nat) (dd : Option Addr) (sl : Array (Option Value)) (hs0 : ¬(!items.isEmpty && Builtin.List.listTooLong (items.size + items2.size)) = true) (hs1 : items.size ≤ sizeLine) (hs2 : items.size + items2.size ≤ sizeLine + 1) :
    Meets (Builtin.«list.extend» ⟨[.ref l, .ref b], []⟩) (fun _ R s => s.heap.get? l = some { cls := .type "list", dict := none, data := .seq items n, slots := #[] } ∧ s.heap.get? b = some { cls := .type "tuple", dict := dd, data := .seq items2 n2, slots := sl } ∧ R (.ok (.ret Value.none)) { s with heap := s.heap.update l (Obj.mapSeq fun x => x ++ items2), toks := s.toks }) :=
  .of_wp fun prog w A R s h => by
    obtain ⟨hp, g, d, tk, os⟩ := s; obtain ⟨hl, hb, h⟩ := h; have f1 := idx_int; have f2 := sub_tuple_tuple; have f3 := sub_list_list; have f4 := sub_tuple_list; have f5 := sub_list_tuple;
    have hz' : (items ++ items2).size ≤ sizeLine + 1 := by rw [Array.size_append]; exact hs2
    wp_walk using (wpAny_updateSeq hl rfl (hz := hs1) (_hz' := hz')), wpAny_loadPart' hl, wpAny_loadPart' hb; exact ⟨_, rfl, h⟩
end AutoSeq1
end PySem
namespace Kt
open PySem PySem.Spec PyProof.Rows L2
section
variable {X : Cx}
def rExtT (K : PySem.W.Frag) : V → List V → Hp → VK → Prop := fun x vs H Q => ∃ l b xs zs, x = .ref l ∧ vs = [.ref b] ∧ H l = some (.lst xs) ∧ SqT K H b zs ∧ xs.length + zs.length ≤ sizeLine ∧ Q .non (upd H l (.lst (xs ++ zs)))
theorem mt_extT : MtM X "list.extend" (rExtT X.K) := by
  intro pins s σ H x vs v us Q I rx rv h
  obtain ⟨l, b, xs, zs, rfl, rfl, hH, hB, hz, q⟩ := h
  cases rx
  obtain ⟨u, rfl, ru⟩ := rv.one
  cases ru
  obtain ⟨z, its, n, r, hl, e⟩ := I.lstM hH
  obtain ⟨its2, r2, ⟨o2, ho, hc, n2, hd⟩, hz2⟩ := I.tuple hB
  have hl2 := r2.length
  have hsz : its.toArray.size + its2.toArray.size ≤ sizeLine := by rw [List.size_toArray, List.size_toArray]; omega
  have hlong : ¬ (!its.toArray.isEmpty && Builtin.List.listTooLong (its.toArray.size + its2.toArray.size)) = true := by
    rw [notLongL hsz, Bool.and_false]
    exact Bool.false_ne_true
  obtain ⟨oc, od, odt, osl⟩ := o2
  dsimp only at hc hd
  subst hc hd
  refine call_meets F.slot_list_extend ⟨_, e, rfl⟩ F.entry_list_extend (F.args_list_extend_2 _ _)
    (AutoSeq1.extend_tup l its.toArray n b its2.toArray n2 od osl hlong (by rw [List.size_toArray]; omega) (by omega)) ⟨e, ho, ?_⟩
  refine ⟨.non, _, I.lset (its' := its ++ its2) hH e (by simp) (r.append r2) ?_, rfl, q⟩
  rw [List.length_append]
  omega
variable {N : Ent} {ρ ρ' : Rho} {M M1 M2 M' : Mem} {a b c e : Expr} {pos : Pos} {i j k : It} {Z : Post} {rest : List Stmt}
/-- xs.extend(t), xs one's own, t a tuple -/
theorem sj_extT {ap epos : Pos} {p : Addr} {is is0 : List It} {ds : List PyData} (ho : EJ X N ρ M a (.v (.ref p)) M) (hm0 : (p, is0) ∈ M) (he : EJ X N ρ M e (.d (.tuple ds)) M1) (hm : (p, is) ∈ M1) (hz : is.length + ds.length ≤ 100000) (hr : SJ X N ρ (M1.put p (is ++ ds.map It.d)) rest Z) (hs : swapsWith (.Call (.Attribute a "extend" ap) [e] [] pos) none epos.line X.env = pure false := by rfl)
    (hst : starEach [e] X.env = [(false, eval e X.env)] := by rfl) (ps : PE X (.Call (.Attribute a "extend" ap) [e] [] pos) (tBM X.K "list" (rExtT X.K) (wE X a) (wA X [e])) := by exact pe_bm PySem.F.plainAttrs_list PySem.F.slot_list_extend PySem.F.type_list_extend mt_extT pe_w pa_w) : SJ X N ρ M (.Expr (.Call (.Attribute a "extend" ap) [e] [] pos) epos :: rest) Z := sj_cons fun σ H P hh g D E tk z => by
  refine s_of (ps_expr ps hs) (ho σ H P hh g _ fun v H1 P1 e1 h1 r1 => ?_)
  cases (show v = .ref p from r1)
  obtain ⟨ys, ey, _⟩ := h1.cell hm0
  refine ⟨.inl ⟨rfl, ys, .inl (.inl ey)⟩, ?_⟩
  refine aj_cons he aj_nil hst σ H1 P1 h1 (g.ex e1) _ fun vs H2 P2 e2 h2 r2 => ?_
  obtain ⟨y, rfl, r3⟩ := ri1 r2
  obtain ⟨xs, e3, r4⟩ := h2.cell hm
  obtain ⟨b, zs, rfl, h5, h6⟩ := ri_tup r3
  refine ⟨p, b, xs, zs, rfl, rfl, e3, .inl (.inl (h2.ex _ _ h5)), by rw [r4.len, dnAll_len h6]; exact Nat.le_trans hz (by decide), ?_⟩
  exact z.nx ρ _ σ _ P2 hr (e1.trans e2) (h2.write hm (r4.app (RepIs.of_all h6))) (g.ex (e1.trans e2))
/-- x, y = a, b: two different local names -/
theorem sj_par (n1 n2 : Nat) {x y : Str} {px py pt pt2 : Pos} {kt k2 : Nat} (hc : X.calm = true) (hN : X.N.Nodup) (ne : n1 ≠ n2) (ha : EJ X N ρ M a i M1) (hb : EJ X N ρ M1 b j M2) (hr : SJ X N ((ρ.set n1 (some i)).set n2 (some j)) M2 rest Z)
    (hi : X.N[n1]? = some x := by rfl) (hj : X.N[n2]? = some y := by rfl) (hx : X.env.scope.names.lookup x = some .local := by rfl) (hy : X.env.scope.names.lookup y = some .local := by rfl)
    (hw : swappedStores [.Tuple [.Name x px, .Name y py] kt pt] (.Tuple [a, b] k2 pt2) X.env = pure (some [x, y]) := by rfl) (hs : swapsWithSole [.Tuple [.Name x px, .Name y py] kt pt] (.Tuple [a, b] k2 pt2) pos.line X.env = pure false := by rfl)
    (he : starEach [a, b] X.env = (false, eval a X.env) :: starEach [b] X.env := by rfl) (he2 : starEach [b] X.env = [(false, eval b X.env)] := by rfl) :
    SJ X N ρ M (.Assign [.Tuple [.Name x px, .Name y py] kt pt] (.Tuple [a, b] k2 pt2) pos :: rest) Z := sj_cons fun σ H P hh g D E tk z =>
  s_of (ps_par (i := n1) (j := n2) hc hN hi hj ne hx hy pa_w hw hs) (aj_cons ha (aj_cons hb aj_nil he2) he σ H P hh g _ fun vs H1 P1 e1 h1 r1 => by
    obtain ⟨v, w, rfl, r2, r3⟩ := ri2 r1
    exact ⟨v, w, rfl, z.nx _ _ _ _ P1 hr e1 h1 (((g.ex e1).set r2 n1).set r3 n2)⟩)
end
end Kt

/-! Ktb: max of a tuple of ints; small helps. -/
namespace Kt
open PySem PySem.Spec PyProof.Rows L2
def mxI (x : Int) (xs : List Int) : Int := xs.foldl (fun a y => if a < y then y else a) x
theorem maxOf_int (x : Int) (xs : List Int) : PySem.W.maxOf x xs = mxI x xs := by
  unfold PySem.W.maxOf mxI
  congr 1
  funext a y
  have : (PySem.W.DatumOrd.lt a y = true) = (a < y) := by
    show (decide (a < y) = true) = (a < y)
    simp
  simp only [this]
theorem mxI_ge : ∀ (xs : List Int) (x : Int), x ≤ mxI x xs ∧ ∀ y ∈ xs, y ≤ mxI x xs
  | [], x => ⟨Int.le_refl _, fun _ h => absurd h List.not_mem_nil⟩
  | z :: r, x => by
    have ih := mxI_ge r (if x < z then z else x)
    have e : mxI x (z :: r) = mxI (if x < z then z else x) r := rfl
    rw [e]
    refine ⟨?_, fun y hy => ?_⟩
    · have := ih.1
      split at this <;> omega
    · rcases List.mem_cons.mp hy with rfl | hy
      · have := ih.1
        split at this <;> omega
      · exact ih.2 y hy
theorem mxI_mem : ∀ (xs : List Int) (x : Int), mxI x xs = x ∨ mxI x xs ∈ xs
  | [], x => .inl rfl
  | z :: r, x => by
    have ih := mxI_mem r (if x < z then z else x)
    have e : mxI x (z :: r) = mxI (if x < z then z else x) r := rfl
    rw [e]
    rcases ih with h | h
    · rw [h]
      split
      · exact .inr List.mem_cons_self
      · exact .inl rfl
    · exact .inr (List.mem_cons_of_mem _ h)
section
variable {X : Cx}
def rMaxT (K : PySem.W.Frag) : List V → Hp → VK → Prop := fun vs H Q => ∃ (a : Addr) (n : Int) (ns : List Int), vs = [V.ref a] ∧ SqT K H a ((n :: ns).map V.int) ∧ Q (.int (mxI n ns)) H
theorem cr_maxT (hc : X.calm = true) (hu : X.A.units + 64 < cLine) : CallR X (.builtin "max") (rMaxT X.K) := by
  intro pins s σ H vs us Q I r h
  obtain ⟨a, n, ns, rfl, hs, q⟩ := h
  obtain ⟨its, rv, ⟨o, ho, hcl, n2, hd⟩, _⟩ := I.tuple hs
  rw [Vals.ref1 r]
  have hI : IntsAre its (n :: ns) := rv.ints
  have hu2 : X.A.units + 1 + PySem.W.Datum.depth Int < cLine := by
    have : PySem.W.Datum.depth Int ≤ 1 := by decide
    omega
  refine PySem.W.max_tuple_datum (x := n) (xs := ns) (vs := its.toArray) (I.ok.hd hc) ⟨o, ho, hcl, n2, hd⟩ (PySem.W.HoldAll.of_ints (by simpa using hI)) hu2 fun i v h' tk hv hh hk => ?_
  obtain ⟨as, rd⟩ := hh
  rw [maxOf_int] at rd
  have : ∃ t, v = .int (mxI n ns) t := by
    cases rd with
    | int i t => exact ⟨t, rfl⟩
  obtain ⟨t, rfl⟩ := this
  exact ⟨.int _, H, I.kept hk, ⟨_, rfl⟩, q⟩
variable {N : Ent} {ρ ρ' : Rho} {M M1 M2 M' : Mem} {a b c e : Expr} {pos : Pos} {i j k : It}
theorem ej_maxT {p q : Pos} {n : Int} {ns : List Int} (hc : X.calm = true) (hu : X.A.units + 64 < cLine) (hm : X.mg "max" = none) (ha : EJ X N ρ M a (.d (.tuple ((n :: ns).map PyData.int))) M1) (hg : Gl X "max" := by rfl) (he : starEach [a] X.env = [(false, eval a X.env)] := by rfl) (hpl : (backTo q (starEach ([] : List Expr) X.env)).any (·.1) = false := by rfl) :
    EJ X N ρ M (.Call (.Name "max" p) [a] [] q) (dI (mxI n ns)) M1 := ej_callB (cr_maxT hc hu) hm (by decide +kernel) (aj_cons ha aj_nil he) (fun vs H P h rr Q q => by
  obtain ⟨x, rfl, r⟩ := ri1 rr
  obtain ⟨y, ys, rfl, h1, h2⟩ := ri_tup r
  cases DnAll.ints (ns := n :: ns) h2
  exact ⟨y, n, ns, rfl, .inl (.inl (h.ex _ _ h1)), q _ H P (Ex.refl P) h (.int _)⟩) hg (by decide) (by decide) he hpl
theorem at_of0 {α : Type} {l : List α} {n : Int} (h0 : 0 ≤ n) {x : α} (h : l[n.toNat]? = some x) : atI l n = some x := by
  have e : n = ((n.toNat : Nat) : Int) := by omega
  rw [e]
  exact atI_nat (by simpa using h)
theorem at_map {α β : Type} {f : α → β} {l : List α} {n : Int} {x : α} (h0 : 0 ≤ n) (h : l[n.toNat]? = some x) : atI (l.map f) n = some (f x) := at_of0 h0 (by rw [List.getElem?_map, h]; rfl)
theorem tame_mono : ∀ {n : Nat} {d : PyData} {tame : Nat → PyData → Prop}, (∀ n d, tame (n + 1) d → tame n d) → tame (n + 1) d → tame n d := fun h => h _ _
end
end Kt

/-! Ktc: data that == may be asked of. -/
namespace Kt
open PySem PySem.Spec PyProof.Rows L2
/-- plain data of at most this depth -/
inductive PN : Nat → PyData → Prop
  | non {n : Nat} : PN n .none
  | bl {n : Nat} (b : Bool) : PN n (.bool b)
  | int {n : Nat} (i : Int) : PN n (.int i)
  | str {n : Nat} (x : Str) (h : PyData.strOk x = true) : PN n (.str x)
  | lst {n : Nat} (l : List PyData) (h : ∀ x ∈ l, PN n x) : PN (n + 1) (.list l)
  | tup {n : Nat} (l : List PyData) (h : ∀ x ∈ l, PN n x) : PN (n + 1) (.tuple l)
theorem pn_all {n : Nat} (f : ∀ x, PN n x → noDict x = true ∧ PyData.canLay0 x = true ∧ PyData.depth x ≤ n ∧ PyData.eqv x x = true) : ∀ l : List PyData, (∀ x ∈ l, PN n x) → noDicts l = true ∧ PyData.canLayAll0 l = true ∧ PyData.depthAll l ≤ n ∧ PyData.eqvAll l l = true
  | [], _ => ⟨rfl, rfl, by simp [PyData.depthAll], by simp [PyData.eqvAll]⟩
  | x :: r, h => by
    obtain ⟨a1, a2, a3, a4⟩ := f x (h x List.mem_cons_self)
    obtain ⟨b1, b2, b3, b4⟩ := pn_all f r fun y hy => h y (List.mem_cons_of_mem _ hy)
    refine ⟨?_, ?_, ?_, ?_⟩
    · show (noDict x && noDicts r) = true
      rw [a1, b1]
      rfl
    · simp only [PyData.canLayAll0, a2, b2, Bool.and_self]
    · simp only [PyData.depthAll]
      omega
    · simp only [PyData.eqvAll, a4, b4, Bool.and_self]
theorem pn_ok : ∀ (n : Nat) (d : PyData), PN n d → noDict d = true ∧ PyData.canLay0 d = true ∧ PyData.depth d ≤ n ∧ PyData.eqv d d = true := by
  intro n
  induction n with
  | zero =>
    intro d h
    cases h with
    | non => exact ⟨rfl, rfl, by simp [PyData.depth], by simp [PyData.eqv]⟩
    | bl b => exact ⟨rfl, rfl, by simp [PyData.depth], by simp [PyData.eqv]⟩
    | int i => exact ⟨rfl, rfl, by simp [PyData.depth], by simp [PyData.eqv]⟩
    | str x hx => exact ⟨rfl, by simpa [PyData.canLay0] using hx, by simp [PyData.depth], by simp [PyData.eqv]⟩
  | succ n ih =>
    intro d h
    cases h with
    | non => exact ⟨rfl, rfl, by simp [PyData.depth], by simp [PyData.eqv]⟩
    | bl b => exact ⟨rfl, rfl, by simp [PyData.depth], by simp [PyData.eqv]⟩
    | int i => exact ⟨rfl, rfl, by simp [PyData.depth], by simp [PyData.eqv]⟩
    | str x hx => exact ⟨rfl, by simpa [PyData.canLay0] using hx, by simp [PyData.depth], by simp [PyData.eqv]⟩
    | lst l hl =>
      obtain ⟨a, b, c, e⟩ := pn_all ih l hl
      exact ⟨a, by simpa [PyData.canLay0] using b, by simp only [PyData.depth]; omega, by simpa [PyData.eqv] using e⟩
    | tup l hl =>
      obtain ⟨a, b, c, e⟩ := pn_all ih l hl
      exact ⟨a, by simpa [PyData.canLay0] using b, by simp only [PyData.depth]; omega, by simpa [PyData.eqv] using e⟩
theorem PN.plain {n : Nat} {d : PyData} (h : PN n d) (hn : n ≤ 64 := by decide) : plainD d = true := by
  obtain ⟨a, b, c, _⟩ := pn_ok n d h
  unfold plainD SeqAt.shaped
  rw [a, b, decide_eq_true (Nat.le_trans c hn)]
  rfl
theorem PN.refl {n : Nat} {d : PyData} (h : PN n d) : PyData.eqv d d = true := (pn_ok n d h).2.2.2
theorem PN.ints {n : Nat} (ns : List Int) : PN (n + 1) (.list (ns.map PyData.int)) := .lst _ fun x hx => by
  obtain ⟨k, _, rfl⟩ := List.mem_map.mp hx
  exact .int k
theorem PN.intsT {n : Nat} (ns : List Int) : PN (n + 1) (.tuple (ns.map PyData.int)) := .tup _ fun x hx => by
  obtain ⟨k, _, rfl⟩ := List.mem_map.mp hx
  exact .int k
end Kt

/-! Ktd: ranges with a step, ranges from their end: one rule for a comprehension, one for a loop. -/
namespace Kt
open PySem PySem.Spec PyProof.Rows L2
theorem lc_steps {lo c : Int} {n : Nat} {g : TG} {tt : TT} {te : TE} {vs : List Nat} {σ : L2.St} {H1 : Hp} {D : Addr} {Qd : Hp → Prop} (W : Nat → Hp → Prop) (start : W 0 (upd H1 D (.lst [])))
    (one : ∀ i H, i < n → W i H → g (.int (lo + (i : Nat) * c)) (wipe σ vs) H fun σ2 H2 => wipe σ2 vs = wipe σ vs ∧ tt σ2 H2 fun b H3 =>
      if b = true then te σ2 H3 fun y H4 => ∃ acc, H4 D = some (.lst acc) ∧ acc.length < sizeLine ∧ W (i + 1) (upd H4 D (.lst (acc ++ [y]))) else W (i + 1) H3) (fin : ∀ H, W n H → Qd H) :
    ∃ V : Nat → Nat → Hp → Prop, (∃ m, V 0 m (upd H1 D (.lst []))) ∧ ∀ i m H, V i m H →
      ((Itc lo c n).stop i H ∧ Qd H) ∨ ((Itc lo c n).go i H ∧ ∃ Nx : Hp → Prop, (∀ H', Nx H' → ∃ m', m' < m ∧ V (i + 1) m' H') ∧ ∀ x H', (Itc lo c n).yld i H x H' →
        g x (wipe σ vs) H' fun σ2 H2 => wipe σ2 vs = wipe σ vs ∧ tt σ2 H2 fun b H3 => if b = true then te σ2 H3 fun y H4 => ∃ acc, H4 D = some (.lst acc) ∧ acc.length < sizeLine ∧ Nx (upd H4 D (.lst (acc ++ [y]))) else Nx H3) := by
  refine ⟨fun i m H => m + i = n ∧ W i H, ⟨n, rfl, start⟩, fun i m H hw => ?_⟩
  obtain ⟨hm, p⟩ := hw
  cases m with
  | zero =>
    refine .inl ⟨show n ≤ i by omega, fin H ?_⟩
    rw [show n = i by omega]
    exact p
  | succ m =>
    refine .inr ⟨show i < n by omega, W (i + 1), fun H' p' => ⟨m, Nat.lt_succ_self m, by omega, p'⟩, fun x H' y => ?_⟩
    obtain ⟨y1, y2⟩ := y
    rw [y1, y2]
    exact one i H (by omega) p
section
variable {X : Cx} {N : Ent} {ρ ρ' : Rho} {M M1 M2 M3 M' : Mem} {a b c e elt iter : Expr} {pos p pos' : Pos} {i j k : It} {scope : Scope} {Z : Post} {rest body : List Stmt} {tg : Expr}
/-- iterating this walks lo, lo + st, .. n times -/
def IC (X : Cx) (N : Ent) (ρ : Rho) (M : Mem) (iter : Expr) (lo st : Int) (n : Nat) (M1 : Mem) : Prop :=
  ∃ ti : TI, (∀ tg, PI X tg iter ti) ∧ ∀ σ H P, Holds N P H M → Slots P σ ρ → ∀ R, (∀ H1 P1, Ex P P1 → Holds N P1 H1 M1 → R (Itc lo st n) H1) → ti σ H R
theorem ic_range3 {p rp : Pos} {z1 z2 z3 : Int} {n : Nat} (hmr : X.mg "range" = none) (ha : EJ X N ρ M a (dI z1) M1) (hb : EJ X N ρ M1 b (dI z2) M2) (hc : EJ X N ρ M2 c (dI z3) M3) (hn : RgC z1 z2 z3 n) (hg : Gl X "range" := by rfl)
    (hs : starEach [a, b, c] X.env = (false, eval a X.env) :: starEach [b, c] X.env := by rfl) (hs2 : starEach [b, c] X.env = (false, eval b X.env) :: starEach [c] X.env := by rfl) (hs3 : starEach [c] X.env = [(false, eval c X.env)] := by rfl) (hpl : (backTo rp (starEach [b, c] X.env)).any (·.1) = false := by rfl) :
    IC X N ρ M (.Call (.Name "range" p) [a, b, c] [] rp) z1 z3 n M3 := by
  refine ⟨iRng3 (wA X [a, b, c]), fun tg => pi_range3 hg hmr pa_w hs hpl, fun σ H P hh g R q => ?_⟩
  refine aj_cons ha (aj_cons hb (aj_cons hc aj_nil hs3) hs2) hs σ H P hh g _ fun vs H1 P1 e1 h1 r1 => ?_
  match vs, r1 with
  | [x, y, w], ⟨rx, ry, rw', _⟩ =>
    cases ri_int rx
    cases ri_int ry
    cases ri_int rw'
    exact ⟨z1, z2, z3, n, rfl, hn, q H1 P1 e1 h1⟩
/-- reversed(range(z)) -/
theorem ic_rev {p rp p2 rp2 : Pos} {z : Int} (hmr : X.mg "range" = none) (hmv : X.mg "reversed" = none) (ha : EJ X N ρ M a (dI z) M1) (hz : -(2 ^ 62) ≤ z ∧ z < 2 ^ 62) (hg : Gl X "range" := by rfl) (hgv : Gl X "reversed" := by rfl)
    (hs : starEach [a] X.env = (false, eval a X.env) :: starEach [] X.env := by rfl)
    (hs2 : starEach [.Call (.Name "range" p) [a] [] rp] X.env = (false, eval (.Call (.Name "range" p) [a] [] rp) X.env) :: starEach [] X.env := by rfl) :
    IC X N ρ M (.Call (.Name "reversed" p2) [.Call (.Name "range" p) [a] [] rp] [] rp2) (z.toNat - 1) (-1) z.toNat M1 := by
  refine ⟨iRevR (tRg1 (wE X a)), fun tg => pi_revR hgv hmv (prg_1 hg hmr pe_w hs) hs2, fun σ H P hh g R q => ?_⟩
  refine ha σ H P hh g _ fun v H1 P1 e1 h1 r1 => ?_
  cases ri_int r1
  refine ⟨z, rfl, by decide, by decide, hz.1, hz.2, ?_⟩
  rw [show ((0 : Int) + (((z - 0).toNat : Nat) : Int) - 1) = (z.toNat : Int) - 1 by rw [Int.sub_zero, Int.zero_add], Int.sub_zero]
  exact q H1 P1 e1 h1
theorem lj_ic {lo st : Int} {z : Nat} {ti : TI} (n : Nat) (A : Nat → List It) (Mi : Nat → Mem) (hN : X.N.Nodup) (hi : ∀ σ H P, Holds N P H M → Slots P σ ρ → ∀ R, (∀ H1 P1, Ex P P1 → Holds N P1 H1 M1 → R (Itc lo st z) H1) → ti σ H R)
    (hA0 : A 0 = []) (hM0 : Mi 0 = M1) (hz : z ≤ 100000)
    (step : ∀ (m : Nat), m < z → ∃ j, A (m + 1) = A m ++ [j] ∧ (A m).length ≤ m ∧ ∀ N' s H C cl fp, EJ (X.blk s H scope (compEnvC scope cl C X.env) fp) N' (ρ.set n (some (dI (lo + (m : Nat) * st)))) (Mi m) elt j (Mi (m + 1))) :
    LJ X N ρ M (tLc ti (gName n) tYes (wBE X scope elt) [n]) (A z) (Mi z) := fun σ H P hh g Q q => by
  refine hi σ H P hh g _ fun H1 P1 e1 h1 D hD => ?_
  refine lc_steps (fun m H' => ∃ P', Holds N P' H' (Mi m ++ [(D, A m)]) ∧ Ex P1 P') ⟨P1, by rw [hA0, hM0]; exact h1.own hD (its := []) trivial, Ex.refl _⟩ (fun m H' nl hw => ?_) (fun H' hw => ?_)
  · obtain ⟨P', h2, e2⟩ := hw
    obtain ⟨j, eA, lA, S⟩ := step m nl
    refine ⟨wipe_comp n, ?_⟩
    unfold tYes
    dsimp only
    rw [if_pos rfl]
    intro s H0 C cl fp
    refine S (inner P' H' (Mi m)) s H0 C cl fp _ H' P' h2.enter (slots_comp (g.ex (e1.trans e2)) n (.int _)) _ fun y H4 P4 e4 h4 r4 => ?_
    have h5 := h2.leave h4
    obtain ⟨acc, ea, ra⟩ := h5.cell (a := D) (its := A m) (List.mem_append_right _ (List.mem_singleton.mpr rfl))
    refine ⟨acc, ea, by rw [ra.len]; exact Nat.lt_of_lt_of_le (Nat.lt_of_le_of_lt lA (by omega : m < 100000)) (by decide), P4, ?_, e2.trans e4⟩
    have h6 := h5.write (a := D) (its := A m) (its' := A (m + 1)) (List.mem_append_right _ (List.mem_singleton.mpr rfl)) (xs' := acc ++ [y]) (by rw [eA]; exact ra.app ⟨r4, trivial⟩)
    rw [put_last h5.nd] at h6
    exact h6
  · obtain ⟨P', h2, e2⟩ := hw
    exact q D H' P' (e1.trans e2) (h1.newF hD) h2
/-- [elt for x in such a walk] -/
theorem el_compC {x : Str} {p : Pos} (n : Nat) {lo st : Int} {z : Nat} (A : Nat → List It) (Mi : Nat → Mem) (hc : X.calm = true) (hN : X.N.Nodup) (hi : IC X N ρ M iter lo st z M1)
    (hA0 : A 0 = []) (hM0 : Mi 0 = M1) (hz : z ≤ 100000)
    (step : ∀ (m : Nat), m < z → ∃ j, A (m + 1) = A m ++ [j] ∧ (A m).length ≤ m ∧ ∀ N' s H C cl fp, EJ (X.blk s H scope (compEnvC scope cl C X.env) fp) N' (ρ.set n (some (dI (lo + (m : Nat) * st)))) (Mi m) elt j (Mi (m + 1)))
    (ok : BlkOk X.N X.env.scope scope [(x, n)] := by exact blkOk_by (by kernel_rfl))
    (hgn : ∀ (s : Shared) (H : Hp) (C : Addr) (cl : List (Str × Addr)) (fp : List Addr), PG (X.blk s H scope (compEnvC scope cl C X.env) fp) (.Name x p) (gName n) := by exact fun _ _ _ _ _ => pg_name (by assumption) rfl (Or.inl rfl))
    (hf : ∀ x, foldedSetIterable iter X.env x = pure x := by intro _; rfl) : EL X N ρ M (.ListComp elt [⟨.Name x p, iter, [], 0⟩] scope pos) (A z) (Mi z) := by
  obtain ⟨ti, pi, hi⟩ := hi
  exact el_lc (lj_ic n A Mi hN hi hA0 hM0 hz step) (pe_lc hc hN (pi _) ok hgn (fun _ _ _ _ _ => pts_nil) (te := wBE X scope elt) (fun s H C cl fp => ⟨fun pins s1 σ1 H1 Q1 I1 h1 => h1 s H C cl fp pins s1 I1⟩) hf)
/-- for tg in such a walk -/
theorem sj_forC {lo st : Int} {z : Nat} (hc : X.calm = true) (hi : IC X N ρ M iter lo st z M1) (Inv : Nat → Rho → Mem → Prop) (h0 : Inv 0 ρ M1)
    (step : ∀ n ρ' M', n < z → Inv n ρ' M' → ∃ ρ2, GJ X N tg (dI (lo + (n : Nat) * st)) ρ' ρ2 ∧ SJ X N ρ2 M' body { nx := Inv (n + 1), ct := Inv (n + 1), bk := fun ρ' M' => SJ X N ρ' M' rest Z, rt := Z.rt, er := Z.er })
    (done : ∀ ρ' M', Inv z ρ' M' → SJ X N ρ' M' rest Z) (hp : PassesOwn (model X.prog X.w) X.A X.env X.xe := by exact PassesOwn.never)
    (hf : ∀ x, foldedSetIterable iter X.env x = pure x := by intro _; rfl) : SJ X N ρ M (.For tg iter body [] pos :: rest) Z := sj_cons fun σ H P hh g D E tk z' => by
  obtain ⟨ti, pi, hi⟩ := hi
  refine s_of (ps_for hp hc (pi _) pg_w pss_w hf) (hi σ H P hh g _ fun H1 P1 e1 h1 => ?_)
  refine for_rangeC (lo := lo) (n := z) (fun n σ' H' => ∃ ρ' M' P', Inv n ρ' M' ∧ Holds N P' H' M' ∧ Slots P' σ' ρ' ∧ Ex P1 P') ⟨ρ, M1, P1, h0, h1, g.ex e1, Ex.refl _⟩ (fun n σ' H' hn hw => ?_) (fun σ' H' hw => ?_)
  · obtain ⟨ρ', M', P', w, h2, g2, e2⟩ := hw
    obtain ⟨ρ2, G, S⟩ := step n ρ' M' hn w
    refine G _ σ' H' P' M' h2 g2 (.int _) _ fun σ2 g3 => ?_
    exact S σ2 H' P' h2 g3 _ E tk ⟨fun ρ4 M4 σ4 H4 P4 a e h g => ⟨ρ4, M4, P4, a, h, g, e2.trans e⟩, fun i M4 v H4 P4 a e h r => z'.rt i M4 v H4 P4 a ((e1.trans e2).trans e) h r, fun ρ4 M4 σ4 H4 P4 a e h g => z'.nx ρ4 M4 σ4 H4 P4 a ((e1.trans e2).trans e) h g, fun ρ4 M4 σ4 H4 P4 a e h g => ⟨ρ4, M4, P4, a, h, g, e2.trans e⟩, fun w M4 d H4 P4 C c a e h x => z'.er w M4 d H4 P4 C c a ((e1.trans e2).trans e) h x⟩
  · obtain ⟨ρ', M', P', w, h2, g2, e2⟩ := hw
    exact z'.nx ρ' M' σ' H' P' (done ρ' M' w) (e1.trans e2) h2 g2
/-- xs[lo:hi], the parts ints that are reckoned -/
theorem el_slV {ds : List PyData} {lo hi : Expr} {l h : Int} {p2 : Pos} (ha : EJ X N ρ M a (.d (.list ds)) M1) (hl : EJ X N ρ M1 lo (dI l) M2) (hh : EJ X N ρ M2 hi (dI h) M3) :
    EL X N ρ M (.Subscript a (.Slice (some lo) (some hi) none p2) pos) ((cutD ds (some l) (some h)).map It.d) M3 := fun σ H P hd g Q q => by
  refine e_of (pe_slice sl_list pe_w (po_some pe_w) (po_some pe_w)) (ha σ H P hd g _ fun x H1 P1 e1 h1 r1 => ?_)
  refine hl σ H1 P1 h1 (g.ex e1) _ fun v2 H2 P2 e2 h2 r2 => ⟨l, ri_int r2, ?_⟩
  refine hh σ H2 P2 h2 (g.ex (e1.trans e2)) _ fun v3 H3 P3 e3 h3 r3 => ⟨h, ri_int r3, ?_⟩
  obtain ⟨a, xs, rfl, h4, h5⟩ := ri_lst (r1.ex (e2.trans e3))
  exact ⟨a, xs, rfl, .inl (.inl (h3.ex _ _ h4)), fun p hp => q p _ P3 (e1.trans (e2.trans e3)) (h3.newF hp) (h3.own hp (RepIs.of_all (h5.cut (some l) (some h))))⟩
end
end Kt

/-! Kte: comprehensions with two clauses, the inner one over a list that is reckoned. -/
namespace Kt
open PySem PySem.Spec PyProof.Rows L2
def flatL (fl : PyData → List PyData) (f : PyData → PyData → PyData) : List PyData → List PyData
  | [] => []
  | d :: r => (fl d).map (f d) ++ flatL fl f r
theorem flatL_app (fl : PyData → List PyData) (f : PyData → PyData → PyData) : ∀ a b : List PyData, flatL fl f (a ++ b) = flatL fl f a ++ flatL fl f b
  | [], b => rfl
  | d :: r, b => by
    show (fl d).map (f d) ++ flatL fl f (r ++ b) = ((fl d).map (f d) ++ flatL fl f r) ++ flatL fl f b
    rw [flatL_app fl f r b, List.append_assoc]
theorem flatL_take (fl : PyData → List PyData) (f : PyData → PyData → PyData) {ds : List PyData} {i : Nat} {d : PyData} (h : ds[i]? = some d) : flatL fl f (ds.take (i + 1)) = flatL fl f (ds.take i) ++ (fl d).map (f d) := by
  rw [List.take_add_one, h, flatL_app]
  show _ ++ ((fl d).map (f d) ++ []) = _
  rw [List.append_nil]
theorem flatL_len (fl : PyData → List PyData) (f : PyData → PyData → PyData) (z : Nat) : ∀ ds : List PyData, (∀ d ∈ ds, (fl d).length ≤ z) → (flatL fl f ds).length ≤ ds.length * z
  | [], _ => by simp [flatL]
  | d :: r, h => by
    have hl := h d List.mem_cons_self
    show ((fl d).map (f d) ++ flatL fl f r).length ≤ _
    have := flatL_len fl f z r fun d hd => h d (List.mem_cons_of_mem _ hd)
    rw [List.length_append, List.length_map, List.length_cons, Nat.succ_mul]
    omega
section
variable {X : Cx} {N : Ent} {ρ ρ' : Rho} {M M1 M2 M3 M' Mc Mr Mc' : Mem} {a b c e elt iter iter1 : Expr} {pos p pos' : Pos} {i j k : It} {t u : Bool} {scope : Scope}
/-- [elt for x in xs for y in (a list reckoned from x)] -/
theorem el_comp2L {x y : Str} {px py : Pos} (n1 n2 : Nat) {ds : List PyData} (fl : PyData → List PyData) (f : PyData → PyData → PyData) (hc : X.calm = true) (hN : X.N.Nodup) (ne : n1 ≠ n2) (hi : EJ X N ρ M iter (.d (.list ds)) M1)
    (hz : ds.length ≤ 1000) (shape : ∀ d ∈ ds, (fl d).length ≤ 64)
    (src : ∀ d ∈ ds, ∀ N' s H C cl fp, EJ (X.blk s H scope (compEnvC scope cl C X.env) fp) N' ((ρ.set n2 none).set n1 (some (.d d))) M1 iter1 (.d (.list (fl d))) M1)
    (step : ∀ (d0 d : PyData), d0 ∈ ds → d ∈ fl d0 → ∀ N' s H C cl fp, EJ (X.blk s H scope (compEnvC scope cl C X.env) fp) N' (((ρ.set n2 none).set n1 (some (.d d0))).set n2 (some (.d d))) M1 elt (.d (f d0 d)) M1)
    (ok : BlkOk X.N X.env.scope scope [(x, n1), (y, n2)] := by exact blkOk_by (by kernel_rfl))
    (hg1 : ∀ (s : Shared) (H : Hp) (C : Addr) (cl : List (Str × Addr)) (fp : List Addr), PG (X.blk s H scope (compEnvC scope cl C X.env) fp) (.Name x px) (gName n1) := by exact fun _ _ _ _ _ => pg_name (by assumption) rfl (Or.inl rfl))
    (hg2 : ∀ (s : Shared) (H : Hp) (C : Addr) (cl : List (Str × Addr)) (fp : List Addr), PG (X.blk s H scope (compEnvC scope cl C X.env) fp) (.Name y py) (gName n2) := by exact fun _ _ _ _ _ => pg_name (by assumption) rfl (Or.inl rfl))
    (hf : ∀ x, foldedSetIterable iter X.env x = pure x := by intro _; rfl) (hf1 : ∀ env x, foldedSetIterable iter1 env x = pure x := by intro _ _; rfl) : EL X N ρ M (.ListComp elt [⟨.Name x px, iter, [], 0⟩, ⟨.Name y py, iter1, [], 0⟩] scope pos) ((flatL fl f ds).map It.d) M1 := fun σ H P hh g Q q => by
  have pi1 : ∀ (s : Shared) (H : Hp) (C : Addr) (cl : List (Str × Addr)) (fp : List Addr), PI (X.blk s H scope (compEnvC scope cl C X.env) fp) (.Name y py) iter1 (iList X.K (wBE X scope iter1)) := fun s H C cl fp =>
    pi_list (X := X.blk s H scope (compEnvC scope cl C X.env) fp) ⟨fun pins s1 σ1 H1 Q1 I1 h1 => h1 s H C cl fp pins s1 I1⟩
  refine e_of (pe_lc2 (vs1 := [n2]) (te := wBE X scope elt) hc hN (pi_list pe_w) ok (by simp) hg1 (fun _ _ _ _ _ => pts_nil) pi1 hg2 (fun _ _ _ _ _ => pts_nil) (fun s H C cl fp => ⟨fun pins s1 σ1 H1 Q1 I1 h1 => h1 s H C cl fp pins s1 I1⟩) hf hf1) (hi σ H P hh g _ fun v H1 P1 e1 h1 r1 => ?_)
  obtain ⟨a, xs, rfl, x1, x2⟩ := ri_lst r1
  have xl := dnAll_len x2
  refine ⟨a, rfl, ⟨xs, .inl (.inl (h1.ex _ _ x1))⟩, fun D hD => ?_⟩
  refine ⟨fun i m H => m = xs.length - i ∧ i ≤ xs.length ∧ ∃ P', Holds N P' H (M1 ++ [(D, (flatL fl f (ds.take i)).map It.d)]) ∧ Ex P1 P', ⟨xs.length, by simp, Nat.zero_le _, P1, h1.own hD (its := []) trivial, Ex.refl _⟩, ?_⟩
  rintro i m H2 ⟨rfl, hil, P2, h2, e2⟩
  have sq : SqL X.K H2 a xs := .inl (.inl (h2.ex _ _ (e2 _ _ x1)))
  by_cases hlt : i < xs.length
  · refine .inr ⟨⟨xs, xs[i], sq, by simp [hlt]⟩, fun H' => ∃ P', Holds N P' H' (M1 ++ [(D, (flatL fl f (ds.take (i + 1))).map It.d)]) ∧ Ex P1 P', fun H' p' => ⟨xs.length - (i + 1), by omega, rfl, hlt, p'⟩, fun x' H' yl => ?_⟩
    obtain ⟨rfl, yx⟩ := yl
    have hx := yx xs sq
    have nl : i < ds.length := xl ▸ hlt
    obtain ⟨v', ev, dv⟩ := dnAll_get x2 (List.getElem?_eq_getElem nl)
    rw [hx] at ev
    cases Option.some.inj ev
    have hmem : ds[i] ∈ ds := List.getElem_mem nl
    have ll := shape _ hmem
    generalize hl : fl ds[i] = l at ll
    refine ⟨wipe_first ne, ?_⟩
    unfold tYes
    dsimp only
    rw [if_pos rfl]
    intro s H0 C cl fp
    have g2 : Slots P2 ((wipe σ [n1, n2]).set n1 (some x')) ((ρ.set n2 none).set n1 (some (.d ds[i]))) := by
      have e : (wipe σ [n1, n2]).set n1 (some x') = (σ.set n2 none).set n1 (some x') := by
        show ((σ.set n2 none).set n1 none).set n1 (some x') = _
        rw [List.set_set]
      rw [e]
      exact ((g.ex (e1.trans e2)).unset n2 none).set (it := .d ds[i]) (dn_ex e2 _ _ dv) n1
    refine src _ hmem (inner P2 H' M1) s H0 C cl fp _ H' P2 h2.enter g2 _ fun w H4 P4 e4 h4 r4 => ?_
    have h5 := h2.leave h4
    rw [hl] at r4
    obtain ⟨ta, ts, rfl, t1, t2⟩ := ri_lst r4
    have tl := dnAll_len t2
    refine ⟨ta, rfl, ⟨ts, .inl (.inl (h5.ex _ _ t1))⟩, fun j k H => k = ts.length - j ∧ j ≤ ts.length ∧ ∃ P', Holds N P' H (M1 ++ [(D, (flatL fl f (ds.take i) ++ (l.take j).map (f ds[i])).map It.d)]) ∧ Ex P4 P', ⟨ts.length, by simp, Nat.zero_le _, P4, by simpa using h5, Ex.refl _⟩, ?_⟩
    rintro j k H6 ⟨rfl, hjl, P6, h6, e6⟩
    have sq6 : SqL X.K H6 ta ts := .inl (.inl (h6.ex _ _ (e6 _ _ t1)))
    by_cases hjt : j < ts.length
    · refine .inr ⟨⟨ts, ts[j], sq6, by simp [hjt]⟩, fun H' => ∃ P', Holds N P' H' (M1 ++ [(D, (flatL fl f (ds.take i) ++ (l.take (j + 1)).map (f ds[i])).map It.d)]) ∧ Ex P4 P', fun H' p' => ⟨ts.length - (j + 1), by omega, rfl, hjt, p'⟩, fun x7 H7 yl7 => ?_⟩
      obtain ⟨rfl, yx7⟩ := yl7
      have hx7 := yx7 ts sq6
      have nl7 : j < l.length := tl ▸ hjt
      obtain ⟨v7, ev7, dv7⟩ := dnAll_get t2 (List.getElem?_eq_getElem nl7)
      rw [hx7] at ev7
      cases Option.some.inj ev7
      refine ⟨wipe_comp n2, ?_⟩
      dsimp only
      rw [if_pos rfl]
      intro s H0 C cl fp
      have g7 := slots_comp (g2.ex (e4.trans e6)) n2 (i := .d l[j]) (dn_ex e6 _ _ dv7)
      refine step ds[i] l[j] hmem (by rw [hl]; exact List.getElem_mem nl7) (inner P6 H7 M1) s H0 C cl fp _ H7 P6 h6.enter g7 _ fun y8 H8 P8 e8 h8 r8 => ?_
      have h9 := h6.leave h8
      obtain ⟨acc, ea, ra⟩ := h9.cell (a := D) (its := (flatL fl f (ds.take i) ++ (l.take j).map (f ds[i])).map It.d) (List.mem_append_right _ (List.mem_singleton.mpr rfl))
      have hlen := flatL_len fl f 64 (ds.take i) fun d hd => shape d (List.mem_of_mem_take hd)
      refine ⟨acc, ea, ?_, P8, ?_, e6.trans e8⟩
      · rw [ra.len]
        refine Nat.lt_of_lt_of_le (m := 100000) ?_ (by decide)
        simp
        have : (List.take i ds).length ≤ 1000 := by rw [List.length_take]; omega
        have h64 : (flatL fl f (List.take i ds)).length ≤ 64000 := Nat.le_trans hlen (by omega)
        omega
      · have h10 := h9.write (a := D) (its := (flatL fl f (ds.take i) ++ (l.take j).map (f ds[i])).map It.d) (its' := (flatL fl f (ds.take i) ++ (l.take (j + 1)).map (f ds[i])).map It.d) (List.mem_append_right _ (List.mem_singleton.mpr rfl)) (xs' := acc ++ [y8]) (by
          have e11 : (flatL fl f (ds.take i) ++ (l.take (j + 1)).map (f ds[i])).map It.d = (flatL fl f (ds.take i) ++ (l.take j).map (f ds[i])).map It.d ++ [It.d (f ds[i] l[j])] := by
            rw [List.take_add_one, List.getElem?_eq_getElem nl7, List.map_append, List.map_append, List.map_append, List.map_append, List.append_assoc]
            rfl
          rw [e11]
          exact ra.app ⟨r8, trivial⟩)
        rw [put_last h9.nd] at h10
        exact h10
    · have ej : j = ts.length := by omega
      subst ej
      refine .inl ⟨⟨ts, sq6, Nat.le_refl _⟩, P6, ?_, (e2.trans e4).trans e6⟩
      rw [flatL_take fl f (List.getElem?_eq_getElem nl), hl]
      rw [tl, List.take_length] at h6
      exact h6
  · have ei : i = xs.length := by omega
    subst ei
    refine .inl ⟨⟨xs, sq, Nat.le_refl _⟩, ?_⟩
    rw [xl, List.take_length] at h2
    exact q D H2 P2 (e1.trans e2) (h1.newF hD) h2
end
end Kt

/-! Ktf: tuples of any length joined, cut and repeated; targets of several names. -/
namespace Kt
open PySem PySem.Spec PyProof.Rows L2
section
variable {X : Cx} {N : Ent} {ρ ρ' ρ1 ρ2 : Rho} {M M1 M2 M3 M' : Mem} {a b c e : Expr} {pos p pos' : Pos} {i j k : It}
theorem rj_catA {ds es : List PyData} (hz : ds.length + es.length ≤ 100000) : RJ N (rCatA X.K) M (.d (.tuple ds)) (.d (.tuple es)) (.d (.tuple (ds ++ es))) M := fun x y H P h rx ry Q q => by
  obtain ⟨a, xs, rfl, h1, h2⟩ := ri_tup rx
  obtain ⟨b, ys, rfl, h3, h4⟩ := ri_tup ry
  have l1 := dnAll_len h2
  have l2 := dnAll_len h4
  refine ⟨a, b, xs, ys, rfl, rfl, .inl (.inl (h.ex _ _ h1)), .inl (.inl (h.ex _ _ h3)), by rw [l1, l2]; exact Nat.le_trans hz (by decide), fun ex => ?_, fun _ ey => ?_, fun _ _ p hp => ?_⟩
  · rw [ex] at l1
    have : ds = [] := List.length_eq_zero_iff.mp l1.symm
    subst this
    exact q _ H P (Ex.refl P) h (.tup h3 h4)
  · rw [ey] at l2
    have : es = [] := List.length_eq_zero_iff.mp l2.symm
    subst this
    rw [List.append_nil] at q
    exact q _ H P (Ex.refl P) h (.tup h1 h2)
  · obtain ⟨h5, e5⟩ := h.pers (o := .tup (xs ++ ys)) hp
    exact q _ _ _ e5 h5 (.tup upd_same (dnAll_ex e5 _ _ (h2.app h4)))
/-- t + u -/
theorem ej_catA {ds es : List PyData} (ha : EJ X N ρ M a (.d (.tuple ds)) M1) (hb : EJ X N ρ M1 b (.d (.tuple es)) M2) (hz : ds.length + es.length ≤ 100000) : EJ X N ρ M (.BinOp a .Add b pos) (.d (.tuple (ds ++ es))) M2 := ej_op op_catA ha hb (rj_catA hz)
/-- t * n, two times at least -/
theorem ej_repT {ds : List PyData} {n : Int} (ha : EJ X N ρ M a (.d (.tuple ds)) M1) (hb : EJ X N ρ M1 b (dI n) M2) (h0 : ds ≠ []) (h1 : 2 ≤ n) (h2 : n ≤ 1000) (hz : ds.length ≤ 1000) : EJ X N ρ M (.BinOp a .Mult b pos) (.d (.tuple (List.replicate n.toNat ds).flatten)) M2 :=
  ej_op op_repT ha hb fun x y H P h rx ry Q q => by
    obtain ⟨l, xs, rfl, h3, h4⟩ := ri_tup rx
    have l1 := dnAll_len h4
    refine ⟨l, n, xs, rfl, ri_int ry, .inl (.inl (h.ex _ _ h3)), fun ex => h0 ?_, h1, h2, by rw [l1]; exact hz, fun p hp => ?_⟩
    · rw [ex] at l1
      exact List.length_eq_zero_iff.mp l1.symm
    · obtain ⟨h5, e5⟩ := h.pers (o := .tup (List.replicate n.toNat xs).flatten) hp
      exact q _ _ _ e5 h5 (.tup upd_same (dnAll_ex e5 _ _ (h4.rep _)))
/-- t[lo:hi], the parts written ints or none, the whole of it too -/
theorem ej_slA {ds : List PyData} {lo hi : Option Expr} {l h : Option Int} {tl th : TO} {p2 : Pos} (ha : EJ X N ρ M a (.d (.tuple ds)) M1) (pl : PO X lo tl) (ph : PO X hi th) (el : ∀ σ H Q, Q l H → tl σ H Q) (eh : ∀ σ H Q, Q h H → th σ H Q) :
    EJ X N ρ M (.Subscript a (.Slice lo hi none p2) pos) (.d (.tuple (cutD ds l h))) M1 := fun σ H P hh g Q q =>
  e_of (pe_slice sl_tupA pe_w pl ph) (ha σ H P hh g _ fun x H1 P1 e1 h1 r1 => el _ _ _ (eh _ _ _ (by
    obtain ⟨a, xs, rfl, h3, h4⟩ := ri_tup r1
    have l1 := dnAll_len h4
    refine ⟨a, xs, rfl, .inl (.inl (h1.ex _ _ h3)), fun hw => ?_, fun _ p hp => ?_⟩
    · rw [l1] at hw
      have e : cutD ds l h = ds := by
        unfold cutD
        rw [hw.1, hw.2, List.drop_zero, Nat.sub_zero, List.take_length]
      rw [e] at q
      exact q _ H1 P1 e1 h1 (.tup h3 h4)
    · obtain ⟨h5, e5⟩ := h1.pers (o := .tup (cutV xs l h)) hp
      exact q _ _ _ (e1.trans e5) h5 (.tup upd_same (dnAll_ex e5 _ _ (h4.cut l h))))))
/-- several targets, one datum each -/
def GsJ (X : Cx) (N : Ent) (es : List Expr) (ds : List PyData) (ρ ρ' : Rho) : Prop :=
  ∃ t : TGs, PGs X es t ∧ ∀ vs σ H P M, Holds N P H M → Slots P σ ρ → DnAll P vs ds → ∀ Q : L2.St → Hp → Prop, (∀ σ', Slots P σ' ρ' → Q σ' H) → t vs σ H Q
theorem gs_nil : GsJ X N [] [] ρ ρ := ⟨gNil, pgs_nil, fun vs σ H P M hh g r Q q => by
  cases r
  exact ⟨rfl, q σ g⟩⟩
theorem gs_cons {es : List Expr} {d : PyData} {ds : List PyData} {x : Str} (n : Nat) (hN : X.N.Nodup) (h : GsJ X N es ds (ρ.set n (some (.d d))) ρ') (hi : X.N[n]? = some x := by rfl) (hx : Loc X.env.scope x := by first | exact .inl rfl | exact .inr rfl) (hf : X.fn x = true ∨ X.env.scope.names.lookup x = some .local := by first | exact .inl rfl | exact .inr rfl)
    (hs : (assignEach (.Name x p :: es) X.env).map (·.2) = assign (.Name x p) X.env :: (assignEach es X.env).map (·.2) := by rfl) : GsJ X N (.Name x p :: es) (d :: ds) ρ ρ' := by
  obtain ⟨t, pt, ht⟩ := h
  refine ⟨gCons (gName n) t, pgs_cons (pg_name (i := n) hN hi hx hf) pt hs, fun vs σ H P M hh g r Q q => ?_⟩
  cases r with
  | cons r1 r2 => exact ⟨_, _, rfl, ht _ _ H P M hh (g.set (it := .d d) r1 n) r2 Q q⟩
theorem gj_tup {es : List Expr} {ds : List PyData} {kk : Nat} (hc : X.calm = true) (h : GsJ X N es ds ρ ρ') (hl : es.length = ds.length := by rfl)
    (hn : (assignEach es X.env).length = es.length := by rfl) (hst : (assignEach es X.env).findIdx? (·.1) = none := by rfl) : GJ X N (.Tuple es kk pos) (.d (.tuple ds)) ρ ρ' := fun v σ H P M hh g r Q q => by
  obtain ⟨t, pt, ht⟩ := h
  obtain ⟨a, xs, rfl, h1, h2⟩ := ri_tup r
  exact g_of (pg_tup hc pt hn hst) ⟨a, xs, rfl, .inl (.inl (hh.ex _ _ h1)), by rw [dnAll_len h2, hl], ht xs σ H P M hh g h2 Q q⟩
end
end Kt

/-! Ktg: isinstance(e, ..) of an own error that bears a name, in a suite that answers with it. -/
namespace Kt
open PySem PySem.Spec PyProof.Rows L2
/-- what K tells of the error's class, so that isinstance may be asked of its instances -/
structure IsTxt (K : PySem.W.Frag) (Cs C0 : Addr) : Prop where
  cl : (PySem.W.clsIn K Cs).isSome = true
  sb : PySem.W.subIn K (.ref Cs) (.type "BaseException") = some true
  ha : PySem.W.findIn K (.ref Cs) "__class__" = some (some (.builtin "object.__class__"))
  hn : PySem.W.specialIn K (.builtin "object.__class__") "__get__" = some (some (.builtin "getset_descriptor.__get__"))
  ht : PySem.W.takesIn K (.builtin "object.__class__") = some true
  hm : PySem.W.mroIn K Cs (.type "object") = some true
  k0 : PySem.W.kitOne K (.ref Cs) (.ref C0) = some true
  kV : PySem.W.kitOne K (.ref Cs) (.type "ValueError") = some true
section
variable {X : Cx} {N : Ent} {M' : Mem} {Cs C0 fI a dd : Addr} {fd : FuncData} {sI : Stmt} {oe : Obj} {pn : List (Addr × Obj)} {pos : Pos} {rest : List Stmt}
def rIsD (K : PySem.W.Frag) (D a dd : Addr) : List V → Hp → VK → Prop := fun xs H Q => ∃ (c : V) (cv : Value) (b : Bool) (z : Str), xs = [.ref a, c] ∧ (∀ u, RelV c u → u = cv) ∧ PySem.W.kitOne K (.ref D) cv = some b ∧ H dd = some (XD z) ∧ Q (.bl b) H
theorem call_isD (T : ErrTxt X.K X.mg sI Cs C0 fI fd) (I0 : IsTxt X.K Cs C0) (hz : Zc (.ref Cs) (some dd) oe) (hf : ∃ vs, oe.data = .fields vs) : CallR (X.suite a ((a, oe) :: pn)) (.builtin "isinstance") (rIsD X.K Cs a dd) := by
  intro pins s σ H xs us Q I r h
  obtain ⟨c, cv, b, z, rfl, hcv, e, hd, q⟩ := h
  obtain ⟨x, us1, rx, r1, rfl⟩ : ∃ x us1, RelV (.ref a) x ∧ Vals [c] us1 ∧ us = x :: us1 := by
    cases r with
    | cons h1 h2 => exact ⟨_, _, h1, h2, rfl⟩
  obtain ⟨u, rt, rfl⟩ : ∃ u, RelV c u ∧ us1 = [u] := by
    cases r1 with
    | cons h1 h2 =>
      cases h2
      exact ⟨_, h1, rfl⟩
  obtain rfl : x = Value.ref a := rx
  obtain rfl := hcv u rt
  obtain ⟨hget, _⟩ := I.pin (a, oe) (List.mem_append_left _ List.mem_cons_self)
  obtain ⟨vs, hv⟩ := hf
  have hx : ObjOk X.prog X.w H s.heap dd (XD z) := I.hok dd _ hd
  obtain ⟨mA, hns, _⟩ := hx
  obtain ⟨od, ho, _⟩ := lookIn_ns hns
  have J : PySem.W.InstAt s.heap a oe Cs (some od) := ⟨hget, hz.1, by unfold PySem.W.notCls; rw [hv] <;> rfl, by rw [hz.2]; exact ho⟩
  exact PySem.W.kia_one (PySem.W.kitx_exc I0.cl T.ga T.gg I0.sb I0.ha I0.hn I0.ht I0.hm) I.kIn J e (fun z => nomatch z) fun tk => ⟨.bl b, H, I.kept (t' := tk) fun _ _ z => z, rfl, q⟩
/-- return isinstance(e, base) and isinstance(e, ValueError) and e.name == '..' -/
theorem suite_isEq (n : Nat) {nm b0 z w : Str} {p1 p2 p3 p4 p5 p6 p7 p8 p9 pA pB pC pD : Pos} {j : Nat} {rt : It → Mem → Prop} (T : ErrTxt X.K X.mg sI Cs C0 fI fd) (I0 : IsTxt X.K Cs C0) (hmi : X.mg "isinstance" = none) (hmv : X.mg "ValueError" = none) (h : rt (dB (decide (z = w))) M') (hi : X.N[n]? = some nm := by rfl)
    (hb0 : X.mg b0 = some (.ref C0)) (hg0 : Gl X b0 := by rfl) (hgi : Gl X "isinstance" := by rfl) (hgv : Gl X "ValueError" := by rfl) (hd0 : (b0 == ("__debug__" : Str)) = false := by decide)
    (hv : Vis X.env.scope nm := by exact Or.inl rfl) (hd : (nm == ("__debug__" : Str)) = false := by decide) (hcd : (nm == ("__classdict__" : Str)) = false := by decide)
    (hb : attributeBase (.Name nm p1) "name" X.env (eval (.Name nm p1) X.env) = eval (.Name nm p1) X.env := by rfl)
    (hs1 : starEach [.Name nm p6, .Name b0 p7] X.env = (false, eval (.Name nm p6) X.env) :: starEach [.Name b0 p7] X.env := by rfl) (hs2 : starEach [.Name b0 p7] X.env = [(false, eval (.Name b0 p7) X.env)] := by rfl) (hpl1 : (backTo p8 (starEach [.Name b0 p7] X.env)).any (·.1) = false := by rfl)
    (hs3 : starEach [.Name nm pA, .Name "ValueError" pB] X.env = (false, eval (.Name nm pA) X.env) :: starEach [.Name "ValueError" pB] X.env := by rfl) (hs4 : starEach [.Name "ValueError" pB] X.env = [(false, eval (.Name "ValueError" pB) X.env)] := by rfl) (hpl2 : (backTo pC (starEach [.Name "ValueError" pB] X.env)).any (·.1) = false := by rfl) :
    SuiteOk X N n Cs (.Return (some (.BoolOp .And [.Call (.Name "isinstance" p5) [.Name nm p6, .Name b0 p7] [] p8, .Call (.Name "isinstance" p9) [.Name nm pA, .Name "ValueError" pB] [] pC, .Compare (.Attribute (.Name nm p1) "name" p2) [.Eq] [.Constant (.str w) j p3] p4] pD)) pos :: rest) z M' rt := fun a dd P' H' σ' oe pn D hh x ha hl hz hf k => by
  have l : n < X.N.length := (List.getElem?_eq_some_iff.mp hi).1
  have sv : (σ'.set n (some (.ref a)))[n]? = some (some (.ref a)) := List.getElem?_set_self (by omega)
  have CI := call_isD (X := X) (pn := pn) (a := a) T I0 hz hf
  have PV : ∀ q : Pos, PE (X.suite a ((a, oe) :: pn)) (.Name nm q) _ := fun q => pe_var (i := n) hi hv hd hcd
  refine ss_of (pss_cons (ps_ret (pe_and (pe_callB CI hgi hmi boot_isinstance (pa_cons (PV p6) (pa_cons (pe_glob hg0 hb0 (v := .ref C0) rfl hd0) pa_nil hs2) hs1) (by decide) (by decide) hs1 hpl1) (pe_and (pe_callB CI hgi hmi boot_isinstance (pa_cons (PV pA) (pa_cons (pe_bltn hgv hmv (by decide +kernel) (v := .ty "ValueError") rfl) pa_nil hs4) hs3) (by decide) (by decide) hs3 hpl2) (pe_one (pe_cmpR op_eq (pe_ename T hz hf (PV p1) hb) pe_str (nomark _)))))) pss_w) ?_
  refine ⟨.ref a, sv, .ref C0, .ref C0, true, z, rfl, fun u hu => hu, I0.k0, x, true, rfl, iteT ?_⟩
  refine ⟨.ref a, sv, .ty "ValueError", .type "ValueError", true, z, rfl, fun u hu => hu, I0.kV, x, true, rfl, iteT ?_⟩
  refine ⟨.ref a, sv, rfl, rfl, dd, .str z, rfl, x, rfl, ?_⟩
  refine k (dB (decide (z = w))) M' _ H' P' h (Ex.refl _) hh ?_
  have e : decide (V.str z = V.str w) = decide (z = w) := by
    by_cases q : z = w
    · rw [q, decide_eq_true rfl, decide_eq_true rfl]
    · rw [decide_eq_false q, decide_eq_false fun h => q (V.str.inj h)]
  show Dn P' (.bl (decide (V.str z = V.str w))) (.bool (decide (z = w)))
  rw [e]
  exact .bl _
end
end Kt

/-! Kth: a tuple once: t * 1. -/
namespace Kt
open PySem PySem.Spec PyProof PyProof.Rows L2
theorem tup_once (l : Addr) (its : Array Value) (n : Nat) (dd : Option Addr) (sl : Array (Option Value)) (u : Tok) :
    Meets (Builtin.«tuple.__mul__» ⟨[.ref l, .int 1 u], []⟩) (fun _ R s => s.heap.get? l = some { cls := .type "tuple", dict := dd, data := .seq its n, slots := sl } ∧ R (.ok (.ret (Value.ref l))) s) :=
  .of_wp fun prog w A R s hr => by
    obtain ⟨hp, g, d, tk, os⟩ := s
    obtain ⟨at_, fin⟩ := hr
    have idx := AutoSeq1.idx_int
    have one : (its.isEmpty || (1 : Int) == 1) = true := by simp
    wp_walk using wpAny_loadPart' at_
    exact ⟨_, rfl, fin⟩
section
variable {X : Cx} {N : Ent} {ρ : Rho} {M M1 M2 : Mem} {a b : Expr} {pos : Pos}
def rOnce (K : PySem.W.Frag) : R2 := fun x y H Q => ∃ l xs, x = .ref l ∧ y = .int 1 ∧ SqT K H l xs ∧ Q (.ref l) H
theorem op_once : OpR X (binaryOp .Mult) (rOnce X.K) := by
  intro pins s σ H x y v u Q I rx ry h
  obtain ⟨l, xs, rfl, rfl, hT, q⟩ := h
  obtain rfl : v = Value.ref l := rx
  obtain ⟨t, rfl⟩ := ry
  obtain ⟨its, r, ⟨⟨cls, dd, data, sl⟩, ho, hc, n, hd⟩, _⟩ := I.tuple hT
  obtain rfl : cls = Value.type "tuple" := hc
  obtain rfl : data = _ := hd
  have ti : s.TypeIs (.ref l) "tuple" := ⟨_, ho, rfl⟩
  have mul := call_meets (prog := X.prog) (w := X.w) (A := X.A) (E := X.xe) F.slot_tuple_mul ti F.entry_tuple_mul (F.args_tuple_mul_2 _ _) (tup_once l its.toArray n dd sl t) (Q := EP X pins σ Q) ⟨ho, ⟨.ref l, H, I, rfl, q⟩⟩
  exact wpAny_binaryOp_repeat_ref (T := "tuple") (U := "int") (by decide) ti (fun s' => typeIs_int s' 1 t) noFill_tuple_mul F.fills_int_mul F.slot_int_rmul repeat_tuple F.slot_int_index.lookup
    (call_meets F.slot_int_rmul (typeIs_int s 1 t) F.entry_int_rmul (F.args_int_rmul_2 _ _) (int_rmul_tuple 1 t l its.toArray n dd sl) ⟨ho, rfl, ti, mul⟩)
/-- t * n, once at least -/
theorem ej_times {ds : List PyData} {n : Int} (ha : EJ X N ρ M a (.d (.tuple ds)) M1) (hb : EJ X N ρ M1 b (dI n) M2) (h0 : ds ≠ []) (h1 : 1 ≤ n) (h2 : n ≤ 1000) (hz : ds.length ≤ 1000) : EJ X N ρ M (.BinOp a .Mult b pos) (.d (.tuple (List.replicate n.toNat ds).flatten)) M2 := by
  by_cases h : n = 1
  · subst h
    rw [show (List.replicate (1 : Int).toNat ds).flatten = ds by simp]
    exact ej_op op_once ha hb fun x y H P hh rx ry Q q => by
      obtain ⟨l, xs, rfl, h3, h4⟩ := ri_tup rx
      exact ⟨l, xs, rfl, ri_int ry, .inl (.inl (hh.ex _ _ h3)), q _ H P (Ex.refl P) hh (.tup h3 h4)⟩
  · exact ej_repT ha hb h0 (by omega) h2 hz
end
end Kt

/-! Kti: enumerate over a tuple -/
namespace Kt
open PySem PySem.Spec PyProof PyProof.Rows L2
theorem wp_ite2 {M : Model} {A : Around} {α : Type} {c : Prop} [Decidable c] {t e : Sem α} {Q : α → Shared → Prop} {E : Value → Shared → Prop} {s : Shared} (h1 : wpAny M A t Q E s) (h2 : wpAny M A e Q E s) : wpAny M A (if c then t else e) Q E s := by
  split <;> assumption
theorem enum_newB {v : Value} {o : Obj} {Hh : Heap → Prop} (B : Begins v o Hh) : Meets (Builtin.«enumerate.__new__» ⟨[.type "enumerate", v], []⟩) (fun _ R s => Hh s.heap ∧ R (.ok (.ret (Value.ref (s.heap.push o).objs.size))) { s with heap := (s.heap.push o).push { cls := .type "enumerate", data := .fields #[.none, .bool false, .ref s.heap.objs.size, rawInt 0, .none, .none] } }) :=
  .of_wp fun prog w A R s hr => by
    obtain ⟨hp, g, d, tk, os⟩ := s
    obtain ⟨at_, fin⟩ := hr
    have hsub := sub_enumerate
    have hit := fun (A : Around) (E : Value → Shared → Prop) (s : Shared) (Q : Value → Shared → Prop) (h1 : Hh s.heap) (h2 : Q (.ref s.heap.objs.size) { s with heap := s.heap.push o }) => B.iter prog w A E s Q h1 h2
    unfold Builtin.«enumerate.__new__»
    wp_walk using hit
    refine wpAny_stack_any fun st => wpAny_pure ?_
    refine wp_ite2 ?_ ?_
    · wp_walk using hit
      case h1 => exact at_
      show wpAny _ _ _ _ _ ⟨hp.push o, g, d, tk, os⟩
      wp_walk
      exact ⟨_, rfl, fin⟩
    · wp_walk using hit
      case h1 => exact at_
      show wpAny _ _ _ _ _ ⟨hp.push o, g, d, tk, os⟩
      wp_walk
      exact ⟨_, rfl, fin⟩
def IteT (K : PySem.W.Frag) (a : Addr) : L2.It :=
  { go := fun i H => ∃ xs x, SqT K H a xs ∧ xs[i]? = some x
    yld := fun i H v H' => ∃ T x, v = .ref T ∧ H T = none ∧ H' = upd H T (.tup [.int (i : Nat), x]) ∧ ∀ xs, SqT K H a xs → xs[i]? = some x
    stop := fun i H => ∃ xs, SqT K H a xs ∧ xs.length = i }
theorem turn_enumT {P : Program} {w : World} {K : PySem.W.Frag} {elts : List Expr} {kk : Nat} {tpos : Pos} (a e it : Addr) :
    Turn P w K (.Tuple elts kk tpos) (IteT K a) [e, it] e fun i h => (∃ old, IsEnum h e it (i : Nat) old) ∧ h.IsTupleIter it a i ∧ e ≠ it := by
  refine ⟨by simp, ?_, ?_, ?_, ?_, ?_⟩
  · rintro i h ⟨⟨old, h1⟩, ⟨o, h2, _, h4⟩, ne⟩ b hb
    simp only [List.mem_cons, List.not_mem_nil, or_false] at hb
    rcases hb with rfl | rfl
    · exact ⟨_, h1, fun v => by simp⟩
    · exact ⟨_, h2, fun v => by rw [h4]; simp⟩
  · rintro i h h' ⟨⟨old, h1⟩, h2, ne⟩ hk
    exact ⟨⟨old, hk e (by simp) _ h1⟩, h2.at (hk it (by simp)), ne⟩
  · rintro X rfl rfl rfl hc i pins s σ H E I hfp ⟨⟨old, h1⟩, h2, ne⟩ ⟨xs, x, hq, hx⟩
    obtain ⟨its, hv, ht, hl⟩ := I.tuple hq
    obtain ⟨u, hu, ru⟩ := hv.get hx
    have nea : a ≠ e := fun q => by
      obtain ⟨o, ho, hcl, _⟩ := ht
      rw [q, h1] at ho
      cases ho
      simp at hcl
    have nei : a ≠ it := fun q => by
      obtain ⟨o, ho, hcl, _⟩ := ht
      obtain ⟨o2, ho2, hcl2, _⟩ := h2
      rw [q, ho2] at ho
      cases ho
      rw [hcl2] at hcl
      simp at hcl
    have G := GoesN.enumFrom (prog := X.prog) (w := X.w) (A := X.A) (elts := elts) (x1 := kk) (pos := tpos) 0 (Draws.tuple (prog := X.prog) (w := X.w) (A := X.A.in1) (I.ok.hd hc) it a nei its.toArray) e ne (by simp [ne, Ne.symm nea]) (by simp)
    refine G.goes i s _ E (by simp; exact (List.getElem?_eq_some_iff.mp hu).1) ⟨⟨old, by simpa using h1⟩, h2, ht⟩ fun v h' tk hY hS hfr htk => ?_
    obtain ⟨T, t, x', rfl, hT, hx', hTu⟩ := hY
    have ex : x' = u := by
      simp at hx'
      rw [hu] at hx'
      exact (Option.some.inj hx').symm
    subst ex
    have hT0 : H T = none := I.hok.fresh hT
    refine ⟨.ref T, upd H T (.tup [.int (i : Nat), x]), I.turnedNew hfr (fun b hb => hfp b hb) hT ?_, rfl, ⟨T, x, rfl, hT0, rfl, fun ys hy => by rw [I.tuple_inj hy hq]; exact hx⟩, ?_, fun b hb => ?_⟩
    · unfold ObjOk
      refine ⟨by show 2 ≤ sizeLine; decide, [.int (i : Nat) t, x'], .cons ⟨t, rfl⟩ (.cons ru .nil), ?_⟩
      rw [Int.zero_add] at hTu
      exact hTu
    · obtain ⟨⟨o, g1⟩, g2, _⟩ := hS
      exact ⟨⟨o, by simpa using g1⟩, g2, ne⟩
    · have hb0 := (hfp b hb).1
      by_cases q : b = T
      · subst q
        obtain ⟨_, _, _, h5, _⟩ := hfp b hb
        exfalso
        have : ∃ o, s.heap.get? b = some o := by
          simp only [List.mem_cons, List.not_mem_nil, or_false] at hb
          rcases hb with rfl | rfl
          · exact ⟨_, h1⟩
          · obtain ⟨o, q1, _⟩ := h2
            exact ⟨o, q1⟩
        obtain ⟨o, q1⟩ := this
        exact absurd (Heap.lt_size q1) (Nat.not_lt.mpr hT)
      · rw [upd_ne q]
        exact hb0
  · rintro X rfl rfl rfl hc i pins s σ H E I hfp ⟨⟨old, h1⟩, h2, ne⟩ ⟨xs, hq, hx⟩
    obtain ⟨its, hv, ht, hl⟩ := I.tuple hq
    have hlen : its.toArray.size = i := by simp; rw [← hv.length]; exact hx
    have nei : a ≠ it := fun q => by
      obtain ⟨o, ho, hcl, _⟩ := ht
      obtain ⟨o2, ho2, hcl2, _⟩ := h2
      rw [q, ho2] at ho
      cases ho
      rw [hcl2] at hcl
      simp at hcl
    refine wpAny_pyNext_enum_endD (Draws.tuple (prog := X.prog) (w := X.w) (A := X.A.in1) (I.ok.hd hc) it a nei its.toArray) h1 ⟨hlen ▸ h2, ht⟩ fun h' hx' => ⟨rfl, ?_⟩
    obtain ⟨a1, a2, a3, a4, a5, a6⟩ := hfp it (by simp)
    exact I.turned (fun b o hb hg => hx' b o hb hg) a1 a2 a4 a5 a6
  · rintro A i s Q E ⟨⟨old, h1⟩, _, _⟩ q
    exact wpAny_pyIter_enum h1 q

theorem walk_enumT {K : PySem.W.Frag} {a : Addr} {xs : List V} (inj : ∀ H ys, SqT K H a xs → SqT K H a ys → ys = xs) : Walk (IteT K a) xs.length (fun H => SqT K H a xs) (fun i H v H' => ∃ T x, v = .ref T ∧ H T = none ∧ H' = upd H T (.tup [.int (i : Nat), x]) ∧ xs[i]? = some x) :=
  ⟨fun i H hi g => ⟨xs, _, g, List.getElem?_eq_getElem hi⟩, fun H g => ⟨xs, g, rfl⟩, fun i H v H' hi g y => by
    obtain ⟨T, x, a1, a2, a3, a4⟩ := y
    exact ⟨T, x, a1, a2, a3, a4 xs g⟩⟩
theorem call_enumT {prog : Program} {w : World} {A : Around} {E : Value → Shared → Prop} {s : Shared} {v : Value} {o : Obj} {Hh : Heap → Prop} {Q : Value → Shared → Prop} (B : Begins v o Hh) (hh : Hh s.heap)
    (h : ∀ h' : Heap, IsEnum h' (s.heap.objs.size + 1) s.heap.objs.size 0 .none → h'.get? s.heap.objs.size = some o → h'.objs.size = s.heap.objs.size + 2 → (∀ (b : Addr) (o : Obj), s.heap.get? b = some o → h'.get? b = some o) → Q (.ref (s.heap.objs.size + 1)) { s with heap := h' }) :
    wpAny (model prog w) A (call (.type "enumerate") [v]) Q E s := by
  refine callType_new F.called_enumerate (by decide) (F.typeCall_enumerate_1 v) (F.newCall_enumerate_1 v) (fun obj => F.args_object_init_2 obj v) F.entry_enumerate_new (enum_newB B) ⟨hh, ?_⟩
  have hz := Heap.size_push s.heap o
  rw [hz]
  refine ⟨⟨_, Heap.get?_push_at hz.symm rfl, rfl⟩, h _ (Heap.get?_push_at hz.symm rfl) ?_ ?_ ?_⟩
  · exact Heap.get?_push_of_some _ (Heap.get?_push_at rfl B.free)
  · rw [Heap.size_push, hz]
  · exact fun b o2 hb => Heap.get?_push_of_some _ (Heap.get?_push_of_some _ hb)
def iEnumT (K : PySem.W.Frag) (ta : TA) : TI := fun σ H R => ta σ H fun vs H1 => ∃ a xs, vs = [.ref a] ∧ SqT K H1 a xs ∧ R (IteT K a) H1
theorem pi_enumT {X : Cx} {e : Expr} {ta : TA} {p pos tpos : Pos} {elts : List Expr} {kk : Nat} (hg : Gl X "enumerate") (hm : X.mg "enumerate" = none) (ha : PA X [e] ta) (hs : starEach [e] X.env = [(false, eval e X.env)] := by rfl) :
    PI X (.Tuple elts kk tpos) (.Call (.Name "enumerate" p) [e] [] pos) (iEnumT X.K ta) := by
  refine ⟨fun pins s σ H R I h => ?_⟩
  refine Call_ (ld_blt I hg hm boot_enumerate (PyProof.Rows.callWith_type1 (thn (ha.run pos pins s σ H _ I h) fun us s1 x => ?_) hs rfl))
  obtain ⟨vs, H1, I1, r1, a, xs, rfl, hq, q⟩ := x
  cases r1 with
  | cons r rr =>
    cases rr
    cases r
    obtain ⟨its, rv, ht, hz⟩ := I1.tuple hq
    refine call_enumT (begins_tuple a its.toArray) ht fun h' he ho hsz hk => wpAny_pyIter_enum he ?_
    have I2 := I1.kept (t' := s1.toks) hk
    refine ⟨_, [s1.heap.objs.size + 1, s1.heap.objs.size], _, IteT X.K a, H1, rfl, I2, turn_enumT a (s1.heap.objs.size + 1) s1.heap.objs.size, ⟨⟨_, he⟩, ⟨_, ho, rfl, rfl⟩, Nat.succ_ne_self _⟩, fun b hb => ?_, q⟩
    simp only [List.mem_cons, List.not_mem_nil, or_false] at hb
    rcases hb with rfl | rfl
    · exact I1.fpOk (by omega) (I1.hok.fresh (by omega))
    · exact I1.fpOk (by omega) (I1.hok.fresh (by omega))
end Kt

/-! Ktk: loops and comprehensions over any walk of data: enumerate, zip, lists, tuples. -/
namespace Kt
open PySem PySem.Spec PyProof PyProof.Rows L2
structure WalkQ (φ : Mem → Prop) (N : Ent) (P1 : Hp) (J : L2.It) (ds : List PyData) : Prop where
  go : ∀ i H P' M', i < ds.length → Holds N P' H M' → Ex P1 P' → φ M' → J.go i H
  stop : ∀ H P' M', Holds N P' H M' → Ex P1 P' → φ M' → J.stop ds.length H
  yld : ∀ i H x H' P' M', i < ds.length → Holds N P' H M' → Ex P1 P' → φ M' → J.yld i H x H' → ∃ P'' d, ds[i]? = some d ∧ Ex P' P'' ∧ Holds N P'' H' M' ∧ RepI P'' x (.d d)
abbrev anyM : Mem → Prop := fun _ => True
section
variable {X : Cx} {N : Ent} {ρ ρ' : Rho} {M M1 M2 : Mem} {a b e tg iter : Expr} {pos : Pos} {Z : Post} {body rest : List Stmt}
/-- a walk that asks φ of what may still change -/
def IWQ (φ : Mem → Prop) (X : Cx) (N : Ent) (ρ : Rho) (M : Mem) (tg iter : Expr) (ds : List PyData) (M1 : Mem) : Prop :=
  ∃ ti : TI, PI X tg iter ti ∧ ∀ σ H P, Holds N P H M → Slots P σ ρ → ∀ R, (∀ J H1 P1, Ex P P1 → Holds N P1 H1 M1 → WalkQ φ N P1 J ds → R J H1) → ti σ H R
abbrev IW (X : Cx) (N : Ent) (ρ : Rho) (M : Mem) (tg iter : Expr) (ds : List PyData) (M1 : Mem) : Prop := IWQ anyM X N ρ M tg iter ds M1
def enumD (ds : List PyData) : List PyData := ds.mapIdx fun i d => .tuple [.int (i : Int), d]
theorem enumD_get {ds : List PyData} {i : Nat} {d : PyData} (h : ds[i]? = some d) : (enumD ds)[i]? = some (.tuple [.int (i : Int), d]) := by
  unfold enumD
  rw [List.getElem?_mapIdx, h]
  rfl
theorem enumD_len (ds : List PyData) : (enumD ds).length = ds.length := by unfold enumD; simp
theorem enumD_inv {ds : List PyData} {i : Nat} {d : PyData} (h : (enumD ds)[i]? = some d) : ∃ x, ds[i]? = some x ∧ d = .tuple [.int (i : Int), x] := by
  unfold enumD at h
  rw [List.getElem?_mapIdx] at h
  obtain ⟨x, h1, h2⟩ := Option.map_eq_some_iff.mp h
  exact ⟨x, h1, h2.symm⟩
theorem iw_enumT {p : Pos} {elts : List Expr} {kk : Nat} {tpos : Pos} {ds : List PyData} (hm : X.mg "enumerate" = none) (ha : EJ X N ρ M a (.d (.tuple ds)) M1) (hg : Gl X "enumerate" := by rfl) (hs : starEach [a] X.env = [(false, eval a X.env)] := by rfl) :
    IW X N ρ M (.Tuple elts kk tpos) (.Call (.Name "enumerate" p) [a] [] pos) (enumD ds) M1 := by
  refine ⟨_, pi_enumT hg hm pa_w hs, fun σ H P hh g R q => ?_⟩
  refine aj_cons ha aj_nil hs σ H P hh g _ fun vs H1 P1 e1 h1 r1 => ?_
  obtain ⟨x, rfl, r2⟩ := ri1 r1
  obtain ⟨t, xs, rfl, x1, x2⟩ := ri_tup r2
  have xl := dnAll_len x2
  refine ⟨t, xs, rfl, .inl (.inl (h1.ex _ _ x1)), q _ H1 P1 e1 h1 ⟨fun i H P' M' hi h2 e2 _ => ?_, fun H P' M' h2 e2 _ => ?_, fun i H v H' P' M' hi h2 e2 _ y => ?_⟩⟩
  · rw [enumD_len, ← xl] at hi
    exact ⟨xs, _, .inl (.inl (h2.ex _ _ (e2 _ _ x1))), List.getElem?_eq_getElem hi⟩
  · exact ⟨xs, .inl (.inl (h2.ex _ _ (e2 _ _ x1))), by rw [enumD_len, xl]⟩
  · obtain ⟨T, u, rfl, hT, rfl, hx⟩ := y
    have hx := hx xs (.inl (.inl (h2.ex _ _ (e2 _ _ x1))))
    rw [enumD_len] at hi
    obtain ⟨v', ev, dv⟩ := dnAll_get x2 (List.getElem?_eq_getElem hi)
    rw [hx] at ev
    cases Option.some.inj ev
    obtain ⟨h5, e5⟩ := h2.pers (o := .tup [.int (i : Nat), u]) hT
    exact ⟨_, _, enumD_get (List.getElem?_eq_getElem hi), e5, h5, .tup upd_same (.cons (.int _) (.cons (dn_ex e5 _ _ (dn_ex e2 _ _ dv)) .nil))⟩
theorem iw_enumL {p : Pos} {elts : List Expr} {kk : Nat} {tpos : Pos} {ds : List PyData} (hm : X.mg "enumerate" = none) (ha : EJ X N ρ M a (.d (.list ds)) M1) (hg : Gl X "enumerate" := by rfl) (hs : starEach [a] X.env = [(false, eval a X.env)] := by rfl) :
    IW X N ρ M (.Tuple elts kk tpos) (.Call (.Name "enumerate" p) [a] [] pos) (enumD ds) M1 := by
  refine ⟨_, pi_enum hg hm pa_w hs, fun σ H P hh g R q => ?_⟩
  refine aj_cons ha aj_nil hs σ H P hh g _ fun vs H1 P1 e1 h1 r1 => ?_
  obtain ⟨x, rfl, r2⟩ := ri1 r1
  obtain ⟨t, xs, rfl, x1, x2⟩ := ri_lst r2
  have xl := dnAll_len x2
  refine ⟨t, xs, rfl, .inl (.inl (h1.ex _ _ x1)), q _ H1 P1 e1 h1 ⟨fun i H P' M' hi h2 e2 _ => ?_, fun H P' M' h2 e2 _ => ?_, fun i H v H' P' M' hi h2 e2 _ y => ?_⟩⟩
  · rw [enumD_len, ← xl] at hi
    exact ⟨xs, _, .inl (.inl (h2.ex _ _ (e2 _ _ x1))), List.getElem?_eq_getElem hi⟩
  · exact ⟨xs, .inl (.inl (h2.ex _ _ (e2 _ _ x1))), by rw [enumD_len, xl]; exact Nat.le_refl _⟩
  · obtain ⟨T, u, rfl, hT, rfl, hx⟩ := y
    have hx := hx xs (.inl (.inl (h2.ex _ _ (e2 _ _ x1))))
    rw [enumD_len] at hi
    obtain ⟨v', ev, dv⟩ := dnAll_get x2 (List.getElem?_eq_getElem hi)
    rw [hx] at ev
    cases Option.some.inj ev
    obtain ⟨h5, e5⟩ := h2.pers (o := .tup [.int (i : Nat), u]) hT
    exact ⟨_, _, enumD_get (List.getElem?_eq_getElem hi), e5, h5, .tup upd_same (.cons (.int _) (.cons (dn_ex e5 _ _ (dn_ex e2 _ _ dv)) .nil))⟩
theorem iw_list {ds : List PyData} (ha : EJ X N ρ M iter (.d (.list ds)) M1) : IW X N ρ M tg iter ds M1 := by
  refine ⟨_, pi_list pe_w, fun σ H P hh g R q => ?_⟩
  refine ha σ H P hh g _ fun v H1 P1 e1 h1 r1 => ?_
  obtain ⟨t, xs, rfl, x1, x2⟩ := ri_lst r1
  have xl := dnAll_len x2
  refine ⟨t, rfl, ⟨xs, .inl (.inl (h1.ex _ _ x1))⟩, q _ H1 P1 e1 h1 ⟨fun i H P' M' hi h2 e2 _ => ?_, fun H P' M' h2 e2 _ => ?_, fun i H v H' P' M' hi h2 e2 _ y => ?_⟩⟩
  · rw [← xl] at hi
    exact ⟨xs, _, .inl (.inl (h2.ex _ _ (e2 _ _ x1))), List.getElem?_eq_getElem hi⟩
  · exact ⟨xs, .inl (.inl (h2.ex _ _ (e2 _ _ x1))), by rw [xl]; exact Nat.le_refl _⟩
  · obtain ⟨rfl, hx⟩ := y
    have hx := hx xs (.inl (.inl (h2.ex _ _ (e2 _ _ x1))))
    obtain ⟨v', ev, dv⟩ := dnAll_get x2 (List.getElem?_eq_getElem hi)
    rw [hx] at ev
    cases Option.some.inj ev
    exact ⟨P', _, List.getElem?_eq_getElem hi, Ex.refl _, h2, dn_ex e2 _ _ dv⟩
theorem iw_tup {ds : List PyData} (ha : EJ X N ρ M iter (.d (.tuple ds)) M1) : IW X N ρ M tg iter ds M1 := by
  refine ⟨_, pi_tup pe_w, fun σ H P hh g R q => ?_⟩
  refine ha σ H P hh g _ fun v H1 P1 e1 h1 r1 => ?_
  obtain ⟨t, xs, rfl, x1, x2⟩ := ri_tup r1
  have xl := dnAll_len x2
  refine ⟨t, rfl, ⟨xs, .inl (.inl (h1.ex _ _ x1))⟩, q _ H1 P1 e1 h1 ⟨fun i H P' M' hi h2 e2 _ => ?_, fun H P' M' h2 e2 _ => ?_, fun i H v H' P' M' hi h2 e2 _ y => ?_⟩⟩
  · rw [← xl] at hi
    exact ⟨xs, _, .inl (.inl (h2.ex _ _ (e2 _ _ x1))), List.getElem?_eq_getElem hi⟩
  · exact ⟨xs, .inl (.inl (h2.ex _ _ (e2 _ _ x1))), by rw [xl]; exact Nat.le_refl _⟩
  · obtain ⟨rfl, hx⟩ := y
    have hx := hx xs (.inl (.inl (h2.ex _ _ (e2 _ _ x1))))
    obtain ⟨v', ev, dv⟩ := dnAll_get x2 (List.getElem?_eq_getElem hi)
    rw [hx] at ev
    cases Option.some.inj ev
    exact ⟨P', _, List.getElem?_eq_getElem hi, Ex.refl _, h2, dn_ex e2 _ _ dv⟩
/-- a list of one's own, as long as it stays -/
theorem iw_own {p : Addr} {ds : List PyData} (ha : EJ X N ρ M iter (.v (.ref p)) M1) (hp : (p, ds.map It.d) ∈ M1) : IWQ (fun M' => (p, ds.map It.d) ∈ M') X N ρ M tg iter ds M1 := by
  refine ⟨_, pi_list pe_w, fun σ H P hh g R q => ?_⟩
  refine ha σ H P hh g _ fun v H1 P1 e1 h1 r1 => ?_
  cases (show v = .ref p from r1)
  obtain ⟨xs0, x0, _⟩ := h1.cell hp
  refine ⟨p, rfl, ⟨xs0, .inl (.inl x0)⟩, q _ H1 P1 e1 h1 ⟨fun i H P' M' hi h2 e2 hm => ?_, fun H P' M' h2 e2 hm => ?_, fun i H v H' P' M' hi h2 e2 hm y => ?_⟩⟩
  · obtain ⟨xs, x1, x2⟩ := h2.cell hm
    have xl := dnAll_len x2.to_all
    rw [← xl] at hi
    exact ⟨xs, _, .inl (.inl x1), List.getElem?_eq_getElem hi⟩
  · obtain ⟨xs, x1, x2⟩ := h2.cell hm
    have xl := dnAll_len x2.to_all
    exact ⟨xs, .inl (.inl x1), by rw [xl]; exact Nat.le_refl _⟩
  · obtain ⟨rfl, hx⟩ := y
    obtain ⟨xs, x1, x2⟩ := h2.cell hm
    have hx := hx xs (.inl (.inl x1))
    obtain ⟨v', ev, dv⟩ := dnAll_get x2.to_all (List.getElem?_eq_getElem hi)
    rw [hx] at ev
    cases Option.some.inj ev
    exact ⟨P', _, List.getElem?_eq_getElem hi, Ex.refl _, h2, dv⟩
theorem iw_zipL {p : Pos} {elts : List Expr} {kk : Nat} {tpos : Pos} {ds es : List PyData} (hm : X.mg "zip" = none) (ha : EJ X N ρ M a (.d (.list ds)) M1) (hb : EJ X N ρ M1 b (.d (.list es)) M2) (hl : ds.length = es.length) (hg : Gl X "zip" := by rfl) (hs : starEach [a, b] X.env = (false, eval a X.env) :: starEach [b] X.env := by rfl) (hs2 : starEach [b] X.env = (false, eval b X.env) :: starEach [] X.env := by rfl) (hpl : (backTo pos (starEach [b] X.env)).any (·.1) = false := by rfl) :
    IW X N ρ M (.Tuple elts kk tpos) (.Call (.Name "zip" p) [a, b] [] pos) (List.zipWith (fun x y => .tuple [x, y]) ds es) M2 := by
  refine ⟨_, pi_zip hg hm pa_w hs hpl, fun σ H P hh g R q => ?_⟩
  refine aj_cons ha (aj_cons hb aj_nil hs2) hs σ H P hh g _ fun vs H1 P1 e1 h1 r1 => ?_
  obtain ⟨x, y, rfl, r2, r3⟩ := ri2 r1
  obtain ⟨t, xs, rfl, x1, x2⟩ := ri_lst r2
  obtain ⟨u, ys, rfl, y1, y2⟩ := ri_lst r3
  have xl := dnAll_len x2
  have yl := dnAll_len y2
  have zl : (List.zipWith (fun x y => PyData.tuple [x, y]) ds es).length = ds.length := by simp; omega
  refine ⟨t, u, xs, ys, rfl, .inl (.inl (h1.ex _ _ x1)), .inl (.inl (h1.ex _ _ y1)), q _ H1 P1 e1 h1 ⟨fun i H P' M' hi h2 e2 _ => ?_, fun H P' M' h2 e2 _ => ?_, fun i H v H' P' M' hi h2 e2 _ y => ?_⟩⟩
  · rw [zl] at hi
    exact ⟨xs, ys, _, _, .inl (.inl (h2.ex _ _ (e2 _ _ x1))), .inl (.inl (h2.ex _ _ (e2 _ _ y1))), List.getElem?_eq_getElem (by omega), List.getElem?_eq_getElem (by omega)⟩
  · exact ⟨xs, ys, .inl (.inl (h2.ex _ _ (e2 _ _ x1))), .inl (.inl (h2.ex _ _ (e2 _ _ y1))), .inl (by rw [zl, xl]; exact Nat.le_refl _)⟩
  · obtain ⟨T, x, y, rfl, hT, rfl, hx, hy⟩ := y
    have hx := hx xs (.inl (.inl (h2.ex _ _ (e2 _ _ x1))))
    have hy := hy ys (.inl (.inl (h2.ex _ _ (e2 _ _ y1))))
    rw [zl] at hi
    obtain ⟨v', ev, dv⟩ := dnAll_get x2 (List.getElem?_eq_getElem hi)
    rw [hx] at ev
    cases Option.some.inj ev
    obtain ⟨w', ew, dw⟩ := dnAll_get y2 (List.getElem?_eq_getElem (show i < es.length by omega))
    rw [hy] at ew
    cases Option.some.inj ew
    obtain ⟨h5, e5⟩ := h2.pers (o := .tup [x, y]) hT
    exact ⟨_, .tuple [ds[i], es[i]], by rw [List.getElem?_zipWith, List.getElem?_eq_getElem hi, List.getElem?_eq_getElem (show i < es.length by omega)], e5, h5, .tup upd_same (.cons (dn_ex e5 _ _ (dn_ex e2 _ _ dv)) (.cons (dn_ex e5 _ _ (dn_ex e2 _ _ dw)) .nil))⟩
theorem sj_forQ {φ : Mem → Prop} {ds : List PyData} (hc : X.calm = true) (hi : IWQ φ X N ρ M tg iter ds M1) (Inv : Nat → Rho → Mem → Prop) (hφ : ∀ n ρ' M', Inv n ρ' M' → φ M') (h0 : Inv 0 ρ M1)
    (step : ∀ n d ρ' M', ds[n]? = some d → Inv n ρ' M' → ∃ ρ2, GJ X N tg (.d d) ρ' ρ2 ∧ SJ X N ρ2 M' body { nx := Inv (n + 1), ct := Inv (n + 1), bk := fun ρ' M' => SJ X N ρ' M' rest Z, rt := Z.rt, er := Z.er })
    (done : ∀ ρ' M', Inv ds.length ρ' M' → SJ X N ρ' M' rest Z) (hp : PassesOwn (model X.prog X.w) X.A X.env X.xe := by exact PassesOwn.never) (hf : ∀ x, foldedSetIterable iter X.env x = pure x := by intro _; rfl) : SJ X N ρ M (.For tg iter body [] pos :: rest) Z := sj_cons fun σ H P hh g D E tk z => by
  obtain ⟨ti, pi, hi⟩ := hi
  refine s_of (ps_for hp hc pi pg_w pss_w hf) (hi σ H P hh g _ fun J H1 P1 e1 h1 W => ?_)
  have WK : Walk J ds.length (fun H => ∃ P' M', Holds N P' H M' ∧ Ex P1 P' ∧ φ M') (fun i H x H' => ∀ P' M', Holds N P' H M' → Ex P1 P' → φ M' → ∃ P'' d, ds[i]? = some d ∧ Ex P' P'' ∧ Holds N P'' H' M' ∧ RepI P'' x (.d d)) :=
    ⟨fun i H hi ⟨P', M', a, b, c⟩ => W.go i H P' M' hi a b c, fun H ⟨P', M', a, b, c⟩ => W.stop H P' M' a b c, fun i H x H' hi _ y P' M' a b c => W.yld i H x H' P' M' hi a b c y⟩
  refine for_it WK (fun n σ' H' => ∃ ρ' M' P', Inv n ρ' M' ∧ Holds N P' H' M' ∧ Slots P' σ' ρ' ∧ Ex P1 P') ⟨ρ, M1, P1, h0, h1, g.ex e1, Ex.refl _⟩ (fun i σ' H' _ ⟨ρ', M', P', iv, a, _, b⟩ => ⟨P', M', a, b, hφ _ _ _ iv⟩) (fun n x σ' H' H2 hn hw hy => ?_) (fun σ' H' hw => ?_)
  · obtain ⟨ρ', M', P', w, h2, g2, e2⟩ := hw
    obtain ⟨P2, d, ed, e3, h3, r3⟩ := hy P' M' h2 e2 (hφ _ _ _ w)
    obtain ⟨ρ2, G, S⟩ := step n d ρ' M' ed w
    refine G x σ' H2 P2 M' h3 (g2.ex e3) r3 _ fun σ2 g3 => ?_
    refine S σ2 H2 P2 h3 g3 _ E tk ⟨fun ρ4 M4 σ4 H4 P4 a e h g => ⟨ρ4, M4, P4, a, h, g, (e2.trans e3).trans e⟩, fun i M4 v H4 P4 a e h r => z.rt i M4 v H4 P4 a ((e1.trans (e2.trans e3)).trans e) h r, fun ρ4 M4 σ4 H4 P4 a e h g => z.nx ρ4 M4 σ4 H4 P4 a ((e1.trans (e2.trans e3)).trans e) h g, fun ρ4 M4 σ4 H4 P4 a e h g => ⟨ρ4, M4, P4, a, h, g, (e2.trans e3).trans e⟩, fun w M4 d H4 P4 C c a e h x => z.er w M4 d H4 P4 C c a ((e1.trans (e2.trans e3)).trans e) h x⟩
  · obtain ⟨ρ', M', P', w, h2, g2, e2⟩ := hw
    exact z.nx ρ' M' σ' H' P' (done ρ' M' w) (e1.trans e2) h2 g2
theorem sj_forW {ds : List PyData} (hc : X.calm = true) (hi : IW X N ρ M tg iter ds M1) (Inv : Nat → Rho → Mem → Prop) (h0 : Inv 0 ρ M1)
    (step : ∀ n d ρ' M', ds[n]? = some d → Inv n ρ' M' → ∃ ρ2, GJ X N tg (.d d) ρ' ρ2 ∧ SJ X N ρ2 M' body { nx := Inv (n + 1), ct := Inv (n + 1), bk := fun ρ' M' => SJ X N ρ' M' rest Z, rt := Z.rt, er := Z.er })
    (done : ∀ ρ' M', Inv ds.length ρ' M' → SJ X N ρ' M' rest Z) (hp : PassesOwn (model X.prog X.w) X.A X.env X.xe := by exact PassesOwn.never) (hf : ∀ x, foldedSetIterable iter X.env x = pure x := by intro _; rfl) : SJ X N ρ M (.For tg iter body [] pos :: rest) Z :=
  sj_forQ hc hi Inv (fun _ _ _ _ => trivial) h0 step done hp hf
/-! ### comprehensions over any walk -/
variable {scope : Scope} {cnd elt : Expr}
/-- a target of a comprehension: from a datum to the slots -/
def TgC (N : Ent) (ρ : Rho) (vs : List Nat) (tgt : TG) (d : PyData) (ρ2 : Rho) : Prop :=
  ∀ v σ H P M, Holds N P H M → Slots P σ ρ → RepI P v (.d d) → ∀ Q : L2.St → Hp → Prop, (∀ σ2, Slots P σ2 ρ2 → wipe σ2 vs = wipe σ vs → Q σ2 H) → tgt v (wipe σ vs) H Q
theorem tgc1 (n : Nat) {d : PyData} : TgC N ρ [n] (gName n) d (ρ.set n (some (.d d))) := fun v σ H P M hh g r Q q => q _ (slots_comp g n r) (wipe_comp n)
theorem tgc2 {K : PySem.W.Frag} (n1 n2 : Nat) (ne : n1 ≠ n2) {x y : PyData} : TgC N ρ [n1, n2] (gTup K 2 (gCons (gName n1) (gCons (gName n2) gNil))) (.tuple [x, y]) ((ρ.set n1 (some (.d x))).set n2 (some (.d y))) := fun v σ H P M hh g r Q q => by
  obtain ⟨ta, ts, rfl, t1, t2⟩ := ri_tup r
  cases t2 with
  | cons k1 kr =>
    cases kr with
    | cons k2 kn =>
      cases kn
      exact ⟨ta, _, rfl, .inl (.inl (hh.ex _ _ t1)), rfl, _, _, rfl, _, _, rfl, rfl, q _ (by rw [two_set ne]; exact (g.set (it := .d x) k1 n1).set (it := .d y) k2 n2) (two_wipe ne)⟩
theorem lj_compQ {φ : Mem → Prop} {ti : TI} (vs : List Nat) (tgt : TG) {ds : List PyData} (A : Nat → List It) (Mi : Nat → Mem)
    (hi : ∀ σ H P, Holds N P H M → Slots P σ ρ → ∀ R, (∀ J H1 P1, Ex P P1 → Holds N P1 H1 M1 → WalkQ φ N P1 J ds → R J H1) → ti σ H R)
    (hφ : ∀ m c, φ (Mi m ++ [c])) (hA0 : A 0 = []) (hM0 : Mi 0 = M1) (hz : ds.length ≤ 100000)
    (step : ∀ (m : Nat) d, ds[m]? = some d → ∃ ρ2 t Mm, TgC N ρ vs tgt d ρ2 ∧ (∀ N' s H C cl fp, TJ (X.blk s H scope (compEnvC scope cl C X.env) fp) N' ρ2 (Mi m) cnd t Mm) ∧ (A m).length ≤ m ∧
      (t = true → ∃ j, A (m + 1) = A m ++ [j] ∧ ∀ N' s H C cl fp, EJ (X.blk s H scope (compEnvC scope cl C X.env) fp) N' ρ2 Mm elt j (Mi (m + 1))) ∧ (t = false → A (m + 1) = A m ∧ Mi (m + 1) = Mm))
    : LJ X N ρ M (tLc ti tgt (wBT X scope cnd) (wBE X scope elt) vs) (A ds.length) (Mi ds.length) := fun σ H P hh g Q q => by
  refine hi σ H P hh g _ fun J H1 P1 e1 h1 W D hD => ?_
  have WK : Walk J ds.length (fun H => ∃ P' M', Holds N P' H M' ∧ Ex P1 P' ∧ φ M') (fun i H x H' => i < ds.length ∧ ∀ P' M', Holds N P' H M' → Ex P1 P' → φ M' → ∃ P'' d, ds[i]? = some d ∧ Ex P' P'' ∧ Holds N P'' H' M' ∧ RepI P'' x (.d d)) :=
    ⟨fun i H hi ⟨P', M', a, b, c⟩ => W.go i H P' M' hi a b c, fun H ⟨P', M', a, b, c⟩ => W.stop H P' M' a b c, fun i H x H' hi _ y => ⟨hi, fun P' M' a b c => W.yld i H x H' P' M' hi a b c y⟩⟩
  refine lc_it WK (fun m H' => ∃ P', Holds N P' H' (Mi m ++ [(D, A m)]) ∧ Ex P1 P') ⟨P1, by rw [hA0, hM0]; exact h1.own hD (its := []) trivial, Ex.refl _⟩ (fun m H' _ ⟨P', a, b⟩ => ⟨P', _, a, b, hφ m _⟩) (fun m x' H' H2 hn hw hy => ?_) (fun H' hw => ?_)
  · obtain ⟨P', h2', e2'⟩ := hw
    obtain ⟨P2, d, ed, e3', h2, r3⟩ := hy.2 P' _ h2' e2' (hφ m _)
    have e2 := e2'.trans e3'
    obtain ⟨ρ2, t, Mm, G, T, lA, S1, S2⟩ := step m d ed
    refine G x' σ H2 P2 _ h2 (g.ex (e1.trans e2)) r3 _ fun σ2 gs hw2 => ⟨hw2, ?_⟩
    intro s H0 C cl fp
    refine T (inner P2 H2 (Mi m)) s H0 C cl fp _ H2 P2 h2.enter gs _ fun H3 P3 e3 h3 => ?_
    cases t with
    | true =>
      obtain ⟨j, eA, S⟩ := S1 rfl
      rw [if_pos rfl]
      intro s H0 C cl fp
      refine S (inner P2 H2 (Mi m)) s H0 C cl fp _ H3 P3 h3 (gs.ex e3) _ fun y H4 P4 e4 h4 r4 => ?_
      have h5 := h2.leave h4
      obtain ⟨acc, ea, ra⟩ := h5.cell (a := D) (its := A m) (List.mem_append_right _ (List.mem_singleton.mpr rfl))
      refine ⟨acc, ea, by rw [ra.len]; exact Nat.lt_of_lt_of_le (Nat.lt_of_le_of_lt lA (Nat.lt_of_lt_of_le hn hz)) (by decide), P4, ?_, (e2.trans e3).trans e4⟩
      have h6 := h5.write (a := D) (its := A m) (its' := A (m + 1)) (List.mem_append_right _ (List.mem_singleton.mpr rfl)) (xs' := acc ++ [y]) (by rw [eA]; exact ra.app ⟨r4, trivial⟩)
      rw [put_last h5.nd] at h6
      exact h6
    | false =>
      obtain ⟨eA, eM⟩ := S2 rfl
      rw [if_neg Bool.false_ne_true]
      refine ⟨P3, ?_, e2.trans e3⟩
      rw [eA, eM]
      exact h2.leave h3
  · obtain ⟨P', h2, e2⟩ := hw
    exact q D H' P' (e1.trans e2) (h1.newF hD) h2
theorem lj_compW {φ : Mem → Prop} {ti : TI} (vs : List Nat) (tgt : TG) {ds : List PyData} (A : Nat → List It) (Mi : Nat → Mem)
    (hi : ∀ σ H P, Holds N P H M → Slots P σ ρ → ∀ R, (∀ J H1 P1, Ex P P1 → Holds N P1 H1 M1 → WalkQ φ N P1 J ds → R J H1) → ti σ H R)
    (hφ : ∀ m c, φ (Mi m ++ [c])) (hA0 : A 0 = []) (hM0 : Mi 0 = M1) (hz : ds.length ≤ 100000)
    (step : ∀ (m : Nat) d, ds[m]? = some d → ∃ ρ2 j, TgC N ρ vs tgt d ρ2 ∧ A (m + 1) = A m ++ [j] ∧ (A m).length ≤ m ∧ ∀ N' s H C cl fp, EJ (X.blk s H scope (compEnvC scope cl C X.env) fp) N' ρ2 (Mi m) elt j (Mi (m + 1)))
    : LJ X N ρ M (tLc ti tgt tYes (wBE X scope elt) vs) (A ds.length) (Mi ds.length) := fun σ H P hh g Q q => by
  refine hi σ H P hh g _ fun J H1 P1 e1 h1 W D hD => ?_
  have WK : Walk J ds.length (fun H => ∃ P' M', Holds N P' H M' ∧ Ex P1 P' ∧ φ M') (fun i H x H' => i < ds.length ∧ ∀ P' M', Holds N P' H M' → Ex P1 P' → φ M' → ∃ P'' d, ds[i]? = some d ∧ Ex P' P'' ∧ Holds N P'' H' M' ∧ RepI P'' x (.d d)) :=
    ⟨fun i H hi ⟨P', M', a, b, c⟩ => W.go i H P' M' hi a b c, fun H ⟨P', M', a, b, c⟩ => W.stop H P' M' a b c, fun i H x H' hi _ y => ⟨hi, fun P' M' a b c => W.yld i H x H' P' M' hi a b c y⟩⟩
  refine lc_it WK (fun m H' => ∃ P', Holds N P' H' (Mi m ++ [(D, A m)]) ∧ Ex P1 P') ⟨P1, by rw [hA0, hM0]; exact h1.own hD (its := []) trivial, Ex.refl _⟩ (fun m H' _ ⟨P', a, b⟩ => ⟨P', _, a, b, hφ m _⟩) (fun m x' H' H2 hn hw hy => ?_) (fun H' hw => ?_)
  · obtain ⟨P', h2', e2'⟩ := hw
    obtain ⟨P2, d, ed, e3', h2, r3⟩ := hy.2 P' _ h2' e2' (hφ m _)
    have e2 := e2'.trans e3'
    obtain ⟨ρ2, j, G, eA, lA, S⟩ := step m d ed
    refine G x' σ H2 P2 _ h2 (g.ex (e1.trans e2)) r3 _ fun σ2 gs hw2 => ⟨hw2, ?_⟩
    unfold tYes
    dsimp only
    rw [if_pos rfl]
    intro s H0 C cl fp
    refine S (inner P2 H2 (Mi m)) s H0 C cl fp _ H2 P2 h2.enter gs _ fun y H4 P4 e4 h4 r4 => ?_
    have h5 := h2.leave h4
    obtain ⟨acc, ea, ra⟩ := h5.cell (a := D) (its := A m) (List.mem_append_right _ (List.mem_singleton.mpr rfl))
    refine ⟨acc, ea, by rw [ra.len]; exact Nat.lt_of_lt_of_le (Nat.lt_of_le_of_lt lA (Nat.lt_of_lt_of_le hn hz)) (by decide), P4, ?_, e2.trans e4⟩
    have h6 := h5.write (a := D) (its := A m) (its' := A (m + 1)) (List.mem_append_right _ (List.mem_singleton.mpr rfl)) (xs' := acc ++ [y]) (by rw [eA]; exact ra.app ⟨r4, trivial⟩)
    rw [put_last h5.nd] at h6
    exact h6
  · obtain ⟨P', h2, e2⟩ := hw
    exact q D H' P' (e1.trans e2) (h1.newF hD) h2
/-- [e for x in walk] -/
theorem el_compW1 {φ : Mem → Prop} {x : Str} {p : Pos} (n : Nat) {ds : List PyData} (A : Nat → List It) (Mi : Nat → Mem) (hc : X.calm = true) (hN : X.N.Nodup) (hi : IWQ φ X N ρ M (.Name x p) iter ds M1)
    (hφ : ∀ m c, φ (Mi m ++ [c])) (hA0 : A 0 = []) (hM0 : Mi 0 = M1) (hz : ds.length ≤ 100000)
    (step : ∀ (m : Nat) d, ds[m]? = some d → ∃ j, A (m + 1) = A m ++ [j] ∧ (A m).length ≤ m ∧ ∀ N' s H C cl fp, EJ (X.blk s H scope (compEnvC scope cl C X.env) fp) N' (ρ.set n (some (.d d))) (Mi m) elt j (Mi (m + 1)))
    (ok : BlkOk X.N X.env.scope scope [(x, n)] := by exact blkOk_by (by kernel_rfl))
    (hgn : ∀ (s : Shared) (H : Hp) (C : Addr) (cl : List (Str × Addr)) (fp : List Addr), PG (X.blk s H scope (compEnvC scope cl C X.env) fp) (.Name x p) (gName n) := by exact fun _ _ _ _ _ => pg_name (by assumption) rfl (Or.inl rfl))
    (hf : ∀ x, foldedSetIterable iter X.env x = pure x := by intro _; rfl) : EL X N ρ M (.ListComp elt [⟨.Name x p, iter, [], 0⟩] scope pos) (A ds.length) (Mi ds.length) := by
  obtain ⟨ti, pi, hi⟩ := hi
  exact el_lc (lj_compW [n] (gName n) A Mi hi hφ hA0 hM0 hz fun m d hd => by obtain ⟨j, a, b, c⟩ := step m d hd; exact ⟨_, j, tgc1 n, a, b, c⟩) (pe_lc hc hN pi ok hgn (fun _ _ _ _ _ => pts_nil) (te := wBE X scope elt) (fun s H C cl fp => ⟨fun pins s1 σ1 H1 Q1 I1 h1 => h1 s H C cl fp pins s1 I1⟩) hf)
/-- [e for x in walk if c] -/
theorem el_compW1F {φ : Mem → Prop} {x : Str} {p : Pos} (n : Nat) {ds : List PyData} (A : Nat → List It) (Mi : Nat → Mem) (hc : X.calm = true) (hN : X.N.Nodup) (hi : IWQ φ X N ρ M (.Name x p) iter ds M1)
    (hφ : ∀ m c, φ (Mi m ++ [c])) (hA0 : A 0 = []) (hM0 : Mi 0 = M1) (hz : ds.length ≤ 100000)
    (step : ∀ (m : Nat) d, ds[m]? = some d → ∃ t Mm, (∀ N' s H C cl fp, TJ (X.blk s H scope (compEnvC scope cl C X.env) fp) N' (ρ.set n (some (.d d))) (Mi m) cnd t Mm) ∧ (A m).length ≤ m ∧
      (t = true → ∃ j, A (m + 1) = A m ++ [j] ∧ ∀ N' s H C cl fp, EJ (X.blk s H scope (compEnvC scope cl C X.env) fp) N' (ρ.set n (some (.d d))) Mm elt j (Mi (m + 1))) ∧ (t = false → A (m + 1) = A m ∧ Mi (m + 1) = Mm))
    (ok : BlkOk X.N X.env.scope scope [(x, n)] := by exact blkOk_by (by kernel_rfl))
    (hgn : ∀ (s : Shared) (H : Hp) (C : Addr) (cl : List (Str × Addr)) (fp : List Addr), PG (X.blk s H scope (compEnvC scope cl C X.env) fp) (.Name x p) (gName n) := by exact fun _ _ _ _ _ => pg_name (by assumption) rfl (Or.inl rfl))
    (hf : ∀ x, foldedSetIterable iter X.env x = pure x := by intro _; rfl) : EL X N ρ M (.ListComp elt [⟨.Name x p, iter, [cnd], 0⟩] scope pos) (A ds.length) (Mi ds.length) := by
  obtain ⟨ti, pi, hi⟩ := hi
  exact el_lc (lj_compQ [n] (gName n) A Mi hi hφ hA0 hM0 hz fun m d hd => by obtain ⟨t, Mm, a, b, c⟩ := step m d hd; exact ⟨_, t, Mm, tgc1 n, a, b, c⟩) (pe_lc hc hN pi ok hgn (tt := wBT X scope cnd) (fun s H C cl fp => pts_one ⟨fun pins s1 σ1 H1 Q1 I1 h1 => h1 s H C cl fp pins s1 I1⟩) (te := wBE X scope elt) (fun s H C cl fp => ⟨fun pins s1 σ1 H1 Q1 I1 h1 => h1 s H C cl fp pins s1 I1⟩) hf)
/-- [e for x, y in walk] -/
theorem el_compW2 {φ : Mem → Prop} {x y : Str} {px py tp : Pos} {tk : Nat} (n1 n2 : Nat) {ds : List PyData} (A : Nat → List It) (Mi : Nat → Mem) (hc : X.calm = true) (hN : X.N.Nodup) (ne : n1 ≠ n2) (hi : IWQ φ X N ρ M (.Tuple [.Name x px, .Name y py] tk tp) iter ds M1)
    (hφ : ∀ m c, φ (Mi m ++ [c])) (hA0 : A 0 = []) (hM0 : Mi 0 = M1) (hz : ds.length ≤ 100000)
    (step : ∀ (m : Nat) d, ds[m]? = some d → ∃ u v j, d = .tuple [u, v] ∧ A (m + 1) = A m ++ [j] ∧ (A m).length ≤ m ∧ ∀ N' s H C cl fp, EJ (X.blk s H scope (compEnvC scope cl C X.env) fp) N' ((ρ.set n1 (some (.d u))).set n2 (some (.d v))) (Mi m) elt j (Mi (m + 1)))
    (ok : BlkOk X.N X.env.scope scope [(x, n1), (y, n2)] := by exact blkOk_by (by kernel_rfl))
    (hgn : ∀ (s : Shared) (H : Hp) (C : Addr) (cl : List (Str × Addr)) (fp : List Addr), PG (X.blk s H scope (compEnvC scope cl C X.env) fp) (.Tuple [.Name x px, .Name y py] tk tp) (gTup X.K 2 (gCons (gName n1) (gCons (gName n2) gNil))) := by exact fun _ _ _ _ _ => pg_tup (by rfl) (pgs_cons (pg_name (by assumption) rfl (Or.inl rfl)) (pgs_cons (pg_name (by assumption) rfl (Or.inl rfl)) pgs_nil)))
    (hf : ∀ x, foldedSetIterable iter X.env x = pure x := by intro _; rfl) : EL X N ρ M (.ListComp elt [⟨.Tuple [.Name x px, .Name y py] tk tp, iter, [], 0⟩] scope pos) (A ds.length) (Mi ds.length) := by
  obtain ⟨ti, pi, hi⟩ := hi
  exact el_lc (lj_compW [n1, n2] (gTup X.K 2 (gCons (gName n1) (gCons (gName n2) gNil))) A Mi hi hφ hA0 hM0 hz fun m d hd => by obtain ⟨u, v, j, rfl, a, b, c⟩ := step m d hd; exact ⟨_, j, tgc2 n1 n2 ne, a, b, c⟩) (pe_lc hc hN pi ok hgn (fun _ _ _ _ _ => pts_nil) (te := wBE X scope elt) (fun s H C cl fp => ⟨fun pins s1 σ1 H1 Q1 I1 h1 => h1 s H C cl fp pins s1 I1⟩) hf)
/-- [e for x, y in walk if c] -/
theorem el_compW2F {φ : Mem → Prop} {x y : Str} {px py tp : Pos} {tk : Nat} (n1 n2 : Nat) {ds : List PyData} (A : Nat → List It) (Mi : Nat → Mem) (hc : X.calm = true) (hN : X.N.Nodup) (ne : n1 ≠ n2) (hi : IWQ φ X N ρ M (.Tuple [.Name x px, .Name y py] tk tp) iter ds M1)
    (hφ : ∀ m c, φ (Mi m ++ [c])) (hA0 : A 0 = []) (hM0 : Mi 0 = M1) (hz : ds.length ≤ 100000)
    (step : ∀ (m : Nat) d, ds[m]? = some d → ∃ u v t Mm, d = .tuple [u, v] ∧ (∀ N' s H C cl fp, TJ (X.blk s H scope (compEnvC scope cl C X.env) fp) N' ((ρ.set n1 (some (.d u))).set n2 (some (.d v))) (Mi m) cnd t Mm) ∧ (A m).length ≤ m ∧
      (t = true → ∃ j, A (m + 1) = A m ++ [j] ∧ ∀ N' s H C cl fp, EJ (X.blk s H scope (compEnvC scope cl C X.env) fp) N' ((ρ.set n1 (some (.d u))).set n2 (some (.d v))) Mm elt j (Mi (m + 1))) ∧ (t = false → A (m + 1) = A m ∧ Mi (m + 1) = Mm))
    (ok : BlkOk X.N X.env.scope scope [(x, n1), (y, n2)] := by exact blkOk_by (by kernel_rfl))
    (hgn : ∀ (s : Shared) (H : Hp) (C : Addr) (cl : List (Str × Addr)) (fp : List Addr), PG (X.blk s H scope (compEnvC scope cl C X.env) fp) (.Tuple [.Name x px, .Name y py] tk tp) (gTup X.K 2 (gCons (gName n1) (gCons (gName n2) gNil))) := by exact fun _ _ _ _ _ => pg_tup (by rfl) (pgs_cons (pg_name (by assumption) rfl (Or.inl rfl)) (pgs_cons (pg_name (by assumption) rfl (Or.inl rfl)) pgs_nil)))
    (hf : ∀ x, foldedSetIterable iter X.env x = pure x := by intro _; rfl) : EL X N ρ M (.ListComp elt [⟨.Tuple [.Name x px, .Name y py] tk tp, iter, [cnd], 0⟩] scope pos) (A ds.length) (Mi ds.length) := by
  obtain ⟨ti, pi, hi⟩ := hi
  exact el_lc (lj_compQ [n1, n2] (gTup X.K 2 (gCons (gName n1) (gCons (gName n2) gNil))) A Mi hi hφ hA0 hM0 hz fun m d hd => by obtain ⟨u, v, t, Mm, rfl, a, b, c⟩ := step m d hd; exact ⟨_, t, Mm, tgc2 n1 n2 ne, a, b, c⟩) (pe_lc hc hN pi ok hgn (tt := wBT X scope cnd) (fun s H C cl fp => pts_one ⟨fun pins s1 σ1 H1 Q1 I1 h1 => h1 s H C cl fp pins s1 I1⟩) (te := wBE X scope elt) (fun s H C cl fp => ⟨fun pins s1 σ1 H1 Q1 I1 h1 => h1 s H C cl fp pins s1 I1⟩) hf)
end
end Kt

/-! Ktl: slices of what is only read, max of two. -/
namespace Kt
open PySem PySem.Spec PyProof PyProof.Rows L2
section
variable {X : Cx} {N : Ent} {ρ ρ' : Rho} {M M1 M2 M3 : Mem} {a b c e : Expr} {pos : Pos} {i j k : It} {Z : Post} {rest : List Stmt}
theorem el_slS {x0 : It} {ds : List PyData} {lo hi : Option Expr} {l h : Option Int} {tl th : TO} {p2 : Pos} (ha : EJ X N ρ M a x0 M1) (src : ∀ v P, RepI P v x0 → ∃ a xs, v = .ref a ∧ SqL X.K P a xs ∧ DnAll P xs ds) (pl : PO X lo tl) (ph : PO X hi th) (el : ∀ σ H Q, Q l H → tl σ H Q) (eh : ∀ σ H Q, Q h H → th σ H Q) :
    EL X N ρ M (.Subscript a (.Slice lo hi none p2) pos) ((cutD ds l h).map It.d) M1 := fun σ H P hh g Q q =>
  e_of (pe_slice sl_list pe_w pl ph) (ha σ H P hh g _ fun x H1 P1 e1 h1 r1 => el _ _ _ (eh _ _ _ (by
    obtain ⟨a, xs, rfl, h3, h4⟩ := src _ _ r1
    exact ⟨a, xs, rfl, exw_l h1.exw h3, fun p hp => q p _ P1 e1 (h1.newF hp) (h1.own hp (RepIs.of_all (h4.cut l h)))⟩)))
theorem ej_max2 {p q : Pos} {n m : Int} (hc : X.calm = true) (hm : X.mg "max" = none) (ha : EJ X N ρ M a (dI n) M1) (hb : EJ X N ρ M1 b (dI m) M2) (hg : Gl X "max" := by rfl) (he : starEach [a, b] X.env = (false, eval a X.env) :: starEach [b] X.env := by rfl) (he2 : starEach [b] X.env = (false, eval b X.env) :: starEach [] X.env := by rfl) (hpl : (backTo q (starEach [b] X.env)).any (·.1) = false := by rfl) :
    EJ X N ρ M (.Call (.Name "max" p) [a, b] [] q) (dI (if m > n then m else n)) M2 := ej_callB (call_max2 hc) hm (by decide +kernel) (aj_cons ha (aj_cons hb aj_nil he2) he) (fun vs H P h rr Q k => by
  obtain ⟨x, y, rfl, r1, r2⟩ := ri2 rr
  cases ri_int r1
  cases ri_int r2
  exact ⟨n, m, rfl, k _ H P (Ex.refl P) h (.int _)⟩) hg (by decide) (by decide) he hpl
theorem ri3 {P : Hp} {vs : List V} {i j k : It} (h : RepIs P vs [i, j, k]) : ∃ x y z, vs = [x, y, z] ∧ RepI P x i ∧ RepI P y j ∧ RepI P z k := by
  match vs, h with
  | [x, y, z], ⟨a, b, c, _⟩ => exact ⟨x, y, z, rfl, a, b, c⟩
/-- x, y, z = a, b, c: three different local names -/
theorem sj_par3 (n1 n2 n3 : Nat) {x y z : Str} {px py pz pt pt2 : Pos} {kt k2 : Nat} (hc : X.calm = true) (hN : X.N.Nodup) (ne : n1 ≠ n2) (ne2 : n1 ≠ n3) (ne3 : n2 ≠ n3) (ha : EJ X N ρ M a i M1) (hb : EJ X N ρ M1 b j M2) (hd : EJ X N ρ M2 c k M3) (hr : SJ X N (((ρ.set n1 (some i)).set n2 (some j)).set n3 (some k)) M3 rest Z)
    (hi : X.N[n1]? = some x := by rfl) (hj : X.N[n2]? = some y := by rfl) (hl : X.N[n3]? = some z := by rfl) (hx : X.env.scope.names.lookup x = some .local := by rfl) (hy : X.env.scope.names.lookup y = some .local := by rfl) (hz : X.env.scope.names.lookup z = some .local := by rfl)
    (hw : swappedStores [.Tuple [.Name x px, .Name y py, .Name z pz] kt pt] (.Tuple [a, b, c] k2 pt2) X.env = pure (some [x, y, z]) := by rfl) (hs : swapsWithSole [.Tuple [.Name x px, .Name y py, .Name z pz] kt pt] (.Tuple [a, b, c] k2 pt2) pos.line X.env = pure false := by rfl)
    (he : starEach [a, b, c] X.env = (false, eval a X.env) :: starEach [b, c] X.env := by rfl) (he2 : starEach [b, c] X.env = (false, eval b X.env) :: starEach [c] X.env := by rfl) (he3 : starEach [c] X.env = (false, eval c X.env) :: starEach [] X.env := by rfl) :
    SJ X N ρ M (.Assign [.Tuple [.Name x px, .Name y py, .Name z pz] kt pt] (.Tuple [a, b, c] k2 pt2) pos :: rest) Z := sj_cons fun σ H P hh g D E tk zz =>
  s_of (ps_par3 (i := n1) (j := n2) (l := n3) hc hN hi hj hl ne ne2 ne3 hx hy hz pa_w hw hs) (aj_cons ha (aj_cons hb (aj_cons hd aj_nil he3) he2) he σ H P hh g _ fun vs H1 P1 e1 h1 r1 => by
    obtain ⟨v, w, u, rfl, r2, r3, r4⟩ := ri3 r1
    exact ⟨v, w, u, rfl, zz.nx _ _ _ _ P1 hr e1 h1 ((((g.ex e1).set r2 n1).set r3 n2).set r4 n3)⟩)
/-! int of a bool, powers, in -/
theorem ej_intb {p q : Pos} {n : Bool} (hm : X.mg "int" = none) (ha : EJ X N ρ M a (dB n) M1) (hg : Gl X "int" := by rfl) (he : starEach [a] X.env = [(false, eval a X.env)] := by rfl) (hpl : (backTo q (starEach ([] : List Expr) X.env)).any (·.1) = false := by rfl) :
    EJ X N ρ M (.Call (.Name "int" p) [a] [] q) (dI (if n then 1 else 0)) M1 := ej_callTy call_int1 hm (by decide +kernel) (aj_cons ha aj_nil he) (fun vs H P h rr Q k => by
  obtain ⟨x, rfl, r⟩ := ri1 rr
  cases ri_bl r
  exact .inr ⟨n, rfl, k _ H P (Ex.refl P) h (.int _)⟩) hg (by decide) (by decide) he hpl
theorem ej_pow {n m : Int} (ha : EJ X N ρ M a (dI n) M1) (hb : EJ X N ρ M1 b (dI m) M2) (hc : CPow n m) : EJ X N ρ M (.BinOp a .Pow b pos) (dI (n ^ m.toNat)) M2 := ej_op op_pow ha hb (rj_I hc)
def inI (n : Int) (ns : List Int) : Bool := ns.any fun m => decide (n = m)
theorem inV_int (n : Int) : ∀ ns : List Int, inV (.int n) (ns.map V.int) = inI n ns := by
  intro ns
  induction ns with
  | nil => rfl
  | cons m ms ih =>
    unfold inV inI at ih ⊢
    rw [List.map_cons, List.any_cons, List.any_cons, ih]
    congr 1
    show eqV (.int m) (.int n) = decide (n = m)
    unfold eqV
    by_cases h : n = m
    · subst h
      simp
    · have h' : ¬ m = n := fun e => h e.symm
      simp [h, h']
theorem flat_ints : ∀ ns : List Int, (ns.map V.int).all flatV = true := by
  intro ns
  rw [List.all_eq_true]
  intro x hx
  obtain ⟨m, _, rfl⟩ := List.mem_map.mp hx
  rfl
theorem tj_inI {n : Int} {ns : List Int} (ha : EJ X N ρ M a (dI n) M1) (hb : EJ X N ρ M1 b (.d (.list (ns.map .int))) M2) (hm : behindInMarks .In b = false := by rfl) : TJ X N ρ M (.Compare a [.In] [b] pos) (inI n ns) M2 := tj_cmp op_in_seq hm ha hb fun x y H P h rx ry Q q => by
  cases ri_int rx
  obtain ⟨p, xs, rfl, h1, h2⟩ := ri_lst ry
  have e := DnAll.ints h2
  subst e
  refine ⟨p, _, rfl, .inl (.inl (.inl (h.ex _ _ h1))), rfl, flat_ints ns, ?_⟩
  rw [if_neg (by decide), inV_int]
  exact q _ H P (Ex.refl P) h (.bl _)
theorem ej_ninI {n : Int} {ns : List Int} (ha : EJ X N ρ M a (dI n) M1) (hb : EJ X N ρ M1 b (.d (.list (ns.map .int))) M2) (hm : behindInMarks .NotIn b = false := by rfl) : EJ X N ρ M (.Compare a [.NotIn] [b] pos) (dB (!inI n ns)) M2 := ej_cmp op_notIn_seq hm ha hb fun x y H P h rx ry Q q => by
  cases ri_int rx
  obtain ⟨p, xs, rfl, h1, h2⟩ := ri_lst ry
  have e := DnAll.ints h2
  subst e
  refine ⟨p, _, rfl, .inl (.inl (.inl (h.ex _ _ h1))), rfl, flat_ints ns, ?_⟩
  rw [if_pos rfl, inV_int]
  exact q _ H P (Ex.refl P) h (.bl _)
/-! is None -/
theorem tj_isN {d : PyData} (ha : EJ X N ρ M a (.d d) M1) (hb : EJ X N ρ M1 b (.d .none) M2) : TJ X N ρ M (.Compare a [.Is] [b] pos) (decide (tyD d = "NoneType")) M2 := tj_cmp op_isN (nomark _) ha hb fun x y H P h rx ry Q q => by
  cases ri_non ry
  refine ⟨rfl, ?_⟩
  have e : decide (x = V.non) = decide (tyD d = "NoneType") := by
    cases (show Dn P x d from rx) <;> rfl
  rw [e]
  exact q _ H P (Ex.refl P) h (.bl _)
theorem tj_notNo {d : PyData} (ha : EJ X N ρ M a (.d d) M1) (hb : EJ X N ρ M1 b (.d .none) M2) : TJ X N ρ M (.Compare a [.IsNot] [b] pos) (!decide (tyD d = "NoneType")) M2 := tj_cmp op_notN (nomark _) ha hb fun x y H P h rx ry Q q => by
  cases ri_non ry
  refine ⟨rfl, ?_⟩
  have e : decide (x = V.non) = decide (tyD d = "NoneType") := by
    cases (show Dn P x d from rx) <;> rfl
  rw [e]
  exact q _ H P (Ex.refl P) h (.bl _)
end
section
variable {X : Cx} {N : Ent} {M' : Mem} {Cs C0 fI a dd : Addr} {fd : FuncData} {sI : Stmt} {oe : Obj} {pn : List (Addr × Obj)} {pos : Pos} {rest : List Stmt}
/-- return e.name if isinstance(e, base) else '..' -/
theorem suite_ifName (n : Nat) {nm b0 z w : Str} {p1 p2 p3 p5 p6 p7 p8 pD : Pos} {j : Nat} {rt : It → Mem → Prop} (T : ErrTxt X.K X.mg sI Cs C0 fI fd) (I0 : IsTxt X.K Cs C0) (hmi : X.mg "isinstance" = none) (h : rt (.d (.str z)) M') (hi : X.N[n]? = some nm := by rfl)
    (hb0 : X.mg b0 = some (.ref C0)) (hg0 : Gl X b0 := by rfl) (hgi : Gl X "isinstance" := by rfl) (hd0 : (b0 == ("__debug__" : Str)) = false := by decide)
    (hv : Vis X.env.scope nm := by exact Or.inl rfl) (hd : (nm == ("__debug__" : Str)) = false := by decide) (hcd : (nm == ("__classdict__" : Str)) = false := by decide)
    (hb : attributeBase (.Name nm p1) "name" X.env (eval (.Name nm p1) X.env) = eval (.Name nm p1) X.env := by rfl)
    (hs1 : starEach [.Name nm p6, .Name b0 p7] X.env = (false, eval (.Name nm p6) X.env) :: starEach [.Name b0 p7] X.env := by rfl) (hs2 : starEach [.Name b0 p7] X.env = [(false, eval (.Name b0 p7) X.env)] := by rfl) (hpl1 : (backTo p8 (starEach [.Name b0 p7] X.env)).any (·.1) = false := by rfl) :
    SuiteOk X N n Cs (.Return (some (.IfExp (.Call (.Name "isinstance" p5) [.Name nm p6, .Name b0 p7] [] p8) (.Attribute (.Name nm p1) "name" p2) (.Constant (.str w) j p3) pD)) pos :: rest) z M' rt := fun a dd P' H' σ' oe pn D hh x ha hl hz hf k => by
  have l : n < X.N.length := (List.getElem?_eq_some_iff.mp hi).1
  have sv : (σ'.set n (some (.ref a)))[n]? = some (some (.ref a)) := List.getElem?_set_self (by omega)
  have CI := call_isD (X := X) (pn := pn) (a := a) T I0 hz hf
  have PV : ∀ q : Pos, PE (X.suite a ((a, oe) :: pn)) (.Name nm q) _ := fun q => pe_var (i := n) hi hv hd hcd
  refine ss_of (pss_cons (ps_ret (pe_ifExp (pt_val (pe_callB CI hgi hmi boot_isinstance (pa_cons (PV p6) (pa_cons (pe_glob hg0 hb0 (v := .ref C0) rfl hd0) pa_nil hs2) hs1) (by decide) (by decide) hs1 hpl1) (by intro _; rfl)) (pe_ename T hz hf (PV p1) hb) pe_str)) pss_w) ?_
  refine ⟨.ref a, sv, .ref C0, .ref C0, true, z, rfl, fun u hu => hu, I0.k0, x, true, rfl, iteT ?_⟩
  refine ⟨.ref a, sv, rfl, rfl, dd, .str z, rfl, x, ?_⟩
  exact k (.d (.str z)) M' _ H' P' h (Ex.refl _) hh (.str z)
end
end Kt

/-! Ktm: chains, tuple slices with reckoned bounds, names set to comprehensions over walks. -/
namespace Kt
open PySem PySem.Spec PyProof PyProof.Rows L2
section
variable {X : Cx} {N : Ent} {ρ ρ' : Rho} {M M1 M2 M3 : Mem} {a b c e iter : Expr} {pos : Pos} {i j k : It} {Z : Post} {rest : List Stmt} {scope : Scope} {cnd elt : Expr}
theorem ej_chainLt {n m l : Int} (ha : EJ X N ρ M a (dI n) M) (hb : EJ X N ρ M b (dI m) M) (hc : EJ X N ρ M c (dI l) M) (hm : lastMarks [.LtE, .Lt] [b, c] = false := by with_unfolding_all rfl) : EJ X N ρ M (.Compare a [.LtE, .Lt] [b, c] pos) (dB (decide (n ≤ m) && decide (m < l))) M := fun σ H P h g Q q =>
  e_of (pe_chain op_le op_lt pe_w pe_w pe_w hm) (ha σ H P h g _ fun x H1 P1 e1 h1 r1 => hb σ H1 P1 h1 (g.ex e1) _ fun y H2 P2 e2 h2 r2 => ⟨n, m, ri_int r1, ri_int r2, decide (n ≤ m), rfl, by
    cases z : decide (n ≤ m) with
    | false => exact iteF (q _ H2 P2 (e1.trans e2) h2 (by rw [z]; exact .bl _))
    | true => exact iteT (hc σ H2 P2 h2 (g.ex (e1.trans e2)) _ fun w H3 P3 e3 h3 r3 => ⟨m, l, ri_int r2, ri_int r3, q _ H3 P3 ((e1.trans e2).trans e3) h3 (by rw [z]; exact .bl _)⟩)⟩)
theorem tj_chainLt {n m l : Int} (ha : EJ X N ρ M a (dI n) M) (hb : EJ X N ρ M b (dI m) M) (hc : EJ X N ρ M c (dI l) M) (hm : lastMarks [.LtE, .Lt] [b, c] = false := by with_unfolding_all rfl) : TJ X N ρ M (.Compare a [.LtE, .Lt] [b, c] pos) (decide (n ≤ m) && decide (m < l)) M := fun σ H P h g Q q =>
  t_of (pt_chain op_le op_lt pe_w pe_w pe_w hm) (ha σ H P h g _ fun x H1 P1 e1 h1 r1 => hb σ H1 P1 h1 (g.ex e1) _ fun y H2 P2 e2 h2 r2 => ⟨n, m, ri_int r1, ri_int r2, decide (n ≤ m), rfl, by
    cases z : decide (n ≤ m) with
    | false => exact iteF ⟨false, rfl, by rw [z] at q; exact q H2 P2 (e1.trans e2) h2⟩
    | true => exact iteT (hc σ H2 P2 h2 (g.ex (e1.trans e2)) _ fun w H3 P3 e3 h3 r3 => ⟨m, l, ri_int r2, ri_int r3, _, rfl, by rw [z, Bool.true_and] at q; exact q H3 P3 ((e1.trans e2).trans e3) h3⟩)⟩)
theorem ej_slTto {ds : List PyData} {hi : Expr} {h : Int} {p2 : Pos} (ha : EJ X N ρ M a (.d (.tuple ds)) M1) (hh : EJ X N ρ M1 hi (dI h) M2) :
    EJ X N ρ M (.Subscript a (.Slice none (some hi) none p2) pos) (.d (.tuple (cutD ds none (some h)))) M2 := fun σ H P hd g Q q => by
  refine e_of (pe_slice sl_tupA pe_w po_none (po_some pe_w)) (ha σ H P hd g _ fun x H1 P1 e1 h1 r1 => ?_)
  refine hh σ H1 P1 h1 (g.ex e1) _ fun v2 H2 P2 e2 h2 r2 => ⟨h, ri_int r2, ?_⟩
  obtain ⟨a, xs, rfl, h3, h4⟩ := ri_tup (r1.ex e2)
  have l1 := dnAll_len h4
  refine ⟨a, xs, rfl, .inl (.inl (h2.ex _ _ h3)), fun hw => ?_, fun _ p hp => ?_⟩
  · rw [l1] at hw
    have e : cutD ds none (some h) = ds := by
      unfold cutD
      rw [hw.1, hw.2, List.drop_zero, Nat.sub_zero, List.take_length]
    rw [e] at q
    exact q _ H2 P2 (e1.trans e2) h2 (.tup h3 h4)
  · obtain ⟨h5, e5⟩ := h2.pers (o := .tup (cutV xs none (some h))) hp
    exact q _ _ _ ((e1.trans e2).trans e5) h5 (.tup upd_same (dnAll_ex e5 _ _ (h4.cut none (some h))))
theorem ej_slTfrom {ds : List PyData} {lo : Expr} {h : Int} {p2 : Pos} (ha : EJ X N ρ M a (.d (.tuple ds)) M1) (hh : EJ X N ρ M1 lo (dI h) M2) :
    EJ X N ρ M (.Subscript a (.Slice (some lo) none none p2) pos) (.d (.tuple (cutD ds (some h) none))) M2 := fun σ H P hd g Q q => by
  refine e_of (pe_slice sl_tupA pe_w (po_some pe_w) po_none) (ha σ H P hd g _ fun x H1 P1 e1 h1 r1 => ?_)
  refine hh σ H1 P1 h1 (g.ex e1) _ fun v2 H2 P2 e2 h2 r2 => ⟨h, ri_int r2, ?_⟩
  obtain ⟨a, xs, rfl, h3, h4⟩ := ri_tup (r1.ex e2)
  have l1 := dnAll_len h4
  refine ⟨a, xs, rfl, .inl (.inl (h2.ex _ _ h3)), fun hw => ?_, fun _ p hp => ?_⟩
  · rw [l1] at hw
    have e : cutD ds (some h) none = ds := by
      unfold cutD
      rw [hw.1, hw.2, List.drop_zero, Nat.sub_zero, List.take_length]
    rw [e] at q
    exact q _ H2 P2 (e1.trans e2) h2 (.tup h3 h4)
  · obtain ⟨h5, e5⟩ := h2.pers (o := .tup (cutV xs (some h) none)) hp
    exact q _ _ _ ((e1.trans e2).trans e5) h5 (.tup upd_same (dnAll_ex e5 _ _ (h4.cut (some h) none)))
/-- y = [e for x, y in walk] -/
theorem sj_setW2 {φ : Mem → Prop} (n' : Nat) {nm : Str} {py spos : Pos} {x y : Str} {px p2 tp : Pos} {tk : Nat} (n1 n2 : Nat) {ds : List PyData} (A : Nat → List It) (Mi : Nat → Mem) (hc : X.calm = true) (hN : X.N.Nodup) (ne : n1 ≠ n2) (hi : IWQ φ X N ρ M (.Tuple [.Name x px, .Name y p2] tk tp) iter ds M1)
    (hφ : ∀ m c, φ (Mi m ++ [c])) (hA0 : A 0 = []) (hM0 : Mi 0 = M1) (hz : ds.length ≤ 100000)
    (step : ∀ (m : Nat) d, ds[m]? = some d → ∃ u v j, d = .tuple [u, v] ∧ A (m + 1) = A m ++ [j] ∧ (A m).length ≤ m ∧ ∀ N' s H C cl fp, EJ (X.blk s H scope (compEnvC scope cl C X.env) fp) N' ((ρ.set n1 (some (.d u))).set n2 (some (.d v))) (Mi m) elt j (Mi (m + 1)))
    (hr : ∀ p, p ∉ N.F → SJ X N (ρ.set n' (some (.v (.ref p)))) (Mi ds.length ++ [(p, A ds.length)]) rest Z)
    (hy : X.N[n']? = some nm := by rfl) (hyl : X.env.scope.names.lookup nm = some .local := by rfl)
    (hsw : swapsWith (.ListComp elt [⟨.Tuple [.Name x px, .Name y p2] tk tp, iter, [], 0⟩] scope pos) (some (.Name nm py)) spos.line X.env = pure true := by exact sw_true rfl rfl rfl (by kernel_rfl))
    (ok : BlkOk X.N X.env.scope scope [(x, n1), (y, n2)] := by exact blkOk_by (by kernel_rfl))
    (hgn : ∀ (s : Shared) (H : Hp) (C : Addr) (cl : List (Str × Addr)) (fp : List Addr), PG (X.blk s H scope (compEnvC scope cl C X.env) fp) (.Tuple [.Name x px, .Name y p2] tk tp) (gTup X.K 2 (gCons (gName n1) (gCons (gName n2) gNil))) := by exact fun _ _ _ _ _ => pg_tup (by rfl) (pgs_cons (pg_name (by assumption) rfl (Or.inl rfl)) (pgs_cons (pg_name (by assumption) rfl (Or.inl rfl)) pgs_nil)))
    (hf : ∀ x, foldedSetIterable iter X.env x = pure x := by intro _; rfl) : SJ X N ρ M (.Assign [.Name nm py] (.ListComp elt [⟨.Tuple [.Name x px, .Name y p2] tk tp, iter, [], 0⟩] scope pos) spos :: rest) Z := by
  obtain ⟨ti, pi, hi⟩ := hi
  exact sj_lc n' (lj_compW [n1, n2] (gTup X.K 2 (gCons (gName n1) (gCons (gName n2) gNil))) A Mi hi hφ hA0 hM0 hz fun m d hd => by obtain ⟨u, v, j, rfl, a, b, c⟩ := step m d hd; exact ⟨_, j, tgc2 n1 n2 ne, a, b, c⟩) (ps_setLc (i := n') (y := nm) (py := py) (spos := spos) hc hN hy hyl hsw pi ok hgn (fun _ _ _ _ _ => pts_nil) (te := wBE X scope elt) (fun s H C cl fp => ⟨fun pins s1 σ1 H1 Q1 I1 h1 => h1 s H C cl fp pins s1 I1⟩) hf) hr
end
end Kt

/-! Ktn: zip of unlike lengths, of tuples; targets of four names; orders of tuples; great divisors. -/
namespace Kt
open PySem PySem.Spec PyProof PyProof.Rows L2
section
variable {X : Cx} {N : Ent} {ρ ρ' : Rho} {M M1 M2 M3 : Mem} {a b c e iter : Expr} {pos : Pos} {i j k : It} {Z : Post} {rest : List Stmt} {scope : Scope} {cnd elt : Expr}
theorem ej_fdivW {n m : Int} (ha : EJ X N ρ M a (dI n) M1) (hb : EJ X N ρ M1 b (dI m) M2) (hc : 0 < m ∧ m.natAbs.log2 < 9000) : EJ X N ρ M (.BinOp a .FloorDiv b pos) (dI (n / m)) M2 := ej_op op_fdivW ha hb (rj_I hc)
theorem ej_geV {n m : Int} (ha : EJ X N ρ M a (dI n) M1) (hb : EJ X N ρ M1 b (dI m) M2) : EJ X N ρ M (.Compare a [.GtE] [b] pos) (dB (decide (m ≤ n))) M2 := ej_cmp op_ge (nomark _) ha hb rj_B0
theorem ej_ltV {n m : Int} (ha : EJ X N ρ M a (dI n) M1) (hb : EJ X N ρ M1 b (dI m) M2) : EJ X N ρ M (.Compare a [.Lt] [b] pos) (dB (decide (n < m))) M2 := ej_cmp op_lt (nomark _) ha hb rj_B0
theorem ej_ltT {ns ms : List Int} (hu : X.A.units < cLine) (ha : EJ X N ρ M a (.d (.tuple (ns.map .int))) M1) (hb : EJ X N ρ M1 b (.d (.tuple (ms.map .int))) M2) : EJ X N ρ M (.Compare a [.Lt] [b] pos) (dB (HT.lexLt ns ms)) M2 := ej_cmp (op_ltT hu) (nomark _) ha hb fun x y H P h rx ry Q q => by
  obtain ⟨p, xs, rfl, h1, h2⟩ := ri_tup rx
  obtain ⟨p', ys, rfl, h3, h4⟩ := ri_tup ry
  have e := DnAll.ints h2
  subst e
  have e := DnAll.ints h4
  subst e
  exact ⟨p, p', ns, ms, rfl, rfl, .inl (.inl (h.ex _ _ h1)), .inl (.inl (h.ex _ _ h3)), q _ H P (Ex.refl P) h (.bl _)⟩
theorem iw_zipL' {p : Pos} {elts : List Expr} {kk : Nat} {tpos : Pos} {ds es : List PyData} (hm : X.mg "zip" = none) (ha : EJ X N ρ M a (.d (.list ds)) M1) (hb : EJ X N ρ M1 b (.d (.list es)) M2) (hg : Gl X "zip" := by rfl) (hs : starEach [a, b] X.env = (false, eval a X.env) :: starEach [b] X.env := by rfl) (hs2 : starEach [b] X.env = (false, eval b X.env) :: starEach [] X.env := by rfl) (hpl : (backTo pos (starEach [b] X.env)).any (·.1) = false := by rfl) :
    IW X N ρ M (.Tuple elts kk tpos) (.Call (.Name "zip" p) [a, b] [] pos) (List.zipWith (fun x y => .tuple [x, y]) ds es) M2 := by
  refine ⟨_, pi_zip hg hm pa_w hs hpl, fun σ H P hh g R q => ?_⟩
  refine aj_cons ha (aj_cons hb aj_nil hs2) hs σ H P hh g _ fun vs H1 P1 e1 h1 r1 => ?_
  obtain ⟨x, y, rfl, r2, r3⟩ := ri2 r1
  obtain ⟨t, xs, rfl, x1, x2⟩ := ri_lst r2
  obtain ⟨u, ys, rfl, y1, y2⟩ := ri_lst r3
  have xl := dnAll_len x2
  have yl := dnAll_len y2
  have zl : (List.zipWith (fun x y => PyData.tuple [x, y]) ds es).length = min ds.length es.length := by simp
  refine ⟨t, u, xs, ys, rfl, .inl (.inl (h1.ex _ _ x1)), .inl (.inl (h1.ex _ _ y1)), q _ H1 P1 e1 h1 ⟨fun i H P' M' hi h2 e2 _ => ?_, fun H P' M' h2 e2 _ => ?_, fun i H v H' P' M' hi h2 e2 _ y => ?_⟩⟩
  · rw [zl] at hi
    exact ⟨xs, ys, _, _, .inl (.inl (h2.ex _ _ (e2 _ _ x1))), .inl (.inl (h2.ex _ _ (e2 _ _ y1))), List.getElem?_eq_getElem (by omega), List.getElem?_eq_getElem (by omega)⟩
  · exact ⟨xs, ys, .inl (.inl (h2.ex _ _ (e2 _ _ x1))), .inl (.inl (h2.ex _ _ (e2 _ _ y1))), by omega⟩
  · obtain ⟨T, x, y, rfl, hT, rfl, hx, hy⟩ := y
    have hx := hx xs (.inl (.inl (h2.ex _ _ (e2 _ _ x1))))
    have hy := hy ys (.inl (.inl (h2.ex _ _ (e2 _ _ y1))))
    rw [zl] at hi
    have i1 : i < ds.length := by omega
    have i2 : i < es.length := by omega
    obtain ⟨v', ev, dv⟩ := dnAll_get x2 (List.getElem?_eq_getElem i1)
    rw [hx] at ev
    cases Option.some.inj ev
    obtain ⟨w', ew, dw⟩ := dnAll_get y2 (List.getElem?_eq_getElem i2)
    rw [hy] at ew
    cases Option.some.inj ew
    obtain ⟨h5, e5⟩ := h2.pers (o := .tup [x, y]) hT
    exact ⟨_, .tuple [ds[i], es[i]], by rw [List.getElem?_zipWith, List.getElem?_eq_getElem i1, List.getElem?_eq_getElem i2], e5, h5, .tup upd_same (.cons (dn_ex e5 _ _ (dn_ex e2 _ _ dv)) (.cons (dn_ex e5 _ _ (dn_ex e2 _ _ dw)) .nil))⟩
theorem iw_zipT' {p : Pos} {elts : List Expr} {kk : Nat} {tpos : Pos} {ds es : List PyData} (hm : X.mg "zip" = none) (ha : EJ X N ρ M a (.d (.tuple ds)) M1) (hb : EJ X N ρ M1 b (.d (.tuple es)) M2) (hg : Gl X "zip" := by rfl) (hs : starEach [a, b] X.env = (false, eval a X.env) :: starEach [b] X.env := by rfl) (hs2 : starEach [b] X.env = (false, eval b X.env) :: starEach [] X.env := by rfl) (hpl : (backTo pos (starEach [b] X.env)).any (·.1) = false := by rfl) :
    IW X N ρ M (.Tuple elts kk tpos) (.Call (.Name "zip" p) [a, b] [] pos) (List.zipWith (fun x y => .tuple [x, y]) ds es) M2 := by
  refine ⟨_, RZ.pi_zipA hg hm pa_w hs hpl, fun σ H P hh g R q => ?_⟩
  refine aj_cons ha (aj_cons hb aj_nil hs2) hs σ H P hh g _ fun vs H1 P1 e1 h1 r1 => ?_
  obtain ⟨x, y, rfl, r2, r3⟩ := ri2 r1
  obtain ⟨t, xs, rfl, x1, x2⟩ := ri_tup r2
  obtain ⟨u, ys, rfl, y1, y2⟩ := ri_tup r3
  have xl := dnAll_len x2
  have yl := dnAll_len y2
  have zl : (List.zipWith (fun x y => PyData.tuple [x, y]) ds es).length = min ds.length es.length := by simp
  refine ⟨t, u, xs, ys, rfl, .inr ⟨.inl (.inl (h1.ex _ _ x1)), .inl (.inl (h1.ex _ _ y1)), q _ H1 P1 e1 h1 ⟨fun i H P' M' hi h2 e2 _ => ?_, fun H P' M' h2 e2 _ => ?_, fun i H v H' P' M' hi h2 e2 _ y => ?_⟩⟩⟩
  · rw [zl] at hi
    exact ⟨xs, ys, _, _, .inl (.inl (h2.ex _ _ (e2 _ _ x1))), .inl (.inl (h2.ex _ _ (e2 _ _ y1))), List.getElem?_eq_getElem (by omega), List.getElem?_eq_getElem (by omega)⟩
  · exact ⟨xs, ys, .inl (.inl (h2.ex _ _ (e2 _ _ x1))), .inl (.inl (h2.ex _ _ (e2 _ _ y1))), by omega⟩
  · obtain ⟨T, x, y, rfl, hT, rfl, hx, hy⟩ := y
    have hx := hx xs (.inl (.inl (h2.ex _ _ (e2 _ _ x1))))
    have hy := hy ys (.inl (.inl (h2.ex _ _ (e2 _ _ y1))))
    rw [zl] at hi
    have i1 : i < ds.length := by omega
    have i2 : i < es.length := by omega
    obtain ⟨v', ev, dv⟩ := dnAll_get x2 (List.getElem?_eq_getElem i1)
    rw [hx] at ev
    cases Option.some.inj ev
    obtain ⟨w', ew, dw⟩ := dnAll_get y2 (List.getElem?_eq_getElem i2)
    rw [hy] at ew
    cases Option.some.inj ew
    obtain ⟨h5, e5⟩ := h2.pers (o := .tup [x, y]) hT
    exact ⟨_, .tuple [ds[i], es[i]], by rw [List.getElem?_zipWith, List.getElem?_eq_getElem i1, List.getElem?_eq_getElem i2], e5, h5, .tup upd_same (.cons (dn_ex e5 _ _ (dn_ex e2 _ _ dv)) (.cons (dn_ex e5 _ _ (dn_ex e2 _ _ dw)) .nil))⟩
theorem four_set {σ : L2.St} {n1 n2 n3 : Nat} {v1 v2 v3 v4 : V} (ne : n1 ≠ n2) (ne2 : n1 ≠ n3) (ne3 : n2 ≠ n3) : ((((wipe σ [n1, n2, n3]).set n1 (some v1)).set n2 (some v2)).set n3 (some v3)).set n2 (some v4) = ((σ.set n1 (some v1)).set n3 (some v3)).set n2 (some v4) := by
  show (((((((σ.set n3 none).set n2 none).set n1 none).set n1 (some v1)).set n2 (some v2)).set n3 (some v3)).set n2 (some v4)) = _
  refine List.ext_getElem? fun i => ?_
  simp only [List.getElem?_set, List.length_set]
  repeat' split
  all_goals first | rfl | omega | simp_all
theorem four_wipe {σ : L2.St} {n1 n2 n3 : Nat} {v1 v2 v3 v4 : V} (ne : n1 ≠ n2) (ne2 : n1 ≠ n3) (ne3 : n2 ≠ n3) : wipe (((((wipe σ [n1, n2, n3]).set n1 (some v1)).set n2 (some v2)).set n3 (some v3)).set n2 (some v4)) [n1, n2, n3] = wipe σ [n1, n2, n3] := by
  show (((((((((σ.set n3 none).set n2 none).set n1 none).set n1 (some v1)).set n2 (some v2)).set n3 (some v3)).set n2 (some v4)).set n3 none).set n2 none).set n1 none = ((σ.set n3 none).set n2 none).set n1 none
  refine List.ext_getElem? fun i => ?_
  simp only [List.getElem?_set, List.length_set]
  repeat' split
  all_goals first | rfl | omega | simp_all
/-- x, _, y, _ -/
theorem tgc4 {K : PySem.W.Frag} (n1 n2 n3 : Nat) (ne : n1 ≠ n2) (ne2 : n1 ≠ n3) (ne3 : n2 ≠ n3) {x y z w : PyData} : TgC N ρ [n1, n2, n3] (gTup K 4 (gCons (gName n1) (gCons (gName n2) (gCons (gName n3) (gCons (gName n2) gNil))))) (.tuple [x, y, z, w]) (((ρ.set n1 (some (.d x))).set n3 (some (.d z))).set n2 (some (.d w))) := fun v σ H P M hh g r Q q => by
  obtain ⟨ta, ts, rfl, t1, t2⟩ := ri_tup r
  cases t2 with
  | cons k1 t2 =>
    cases t2 with
    | cons k2 t2 =>
      cases t2 with
      | cons k3 t2 =>
        cases t2 with
        | cons k4 t2 =>
          cases t2
          exact ⟨ta, _, rfl, .inl (.inl (hh.ex _ _ t1)), rfl, _, _, rfl, _, _, rfl, _, _, rfl, _, _, rfl, rfl, q _ (by rw [four_set ne ne2 ne3]; exact ((g.set (it := .d x) k1 n1).set (it := .d z) k3 n3).set (it := .d w) k4 n2) (four_wipe ne ne2 ne3)⟩
/-- [e for x, _, y, _ in walk] -/
theorem el_compW4 {φ : Mem → Prop} {x y z : Str} {px py pz pw tp : Pos} {tk : Nat} (n1 n2 n3 : Nat) {ds : List PyData} (A : Nat → List It) (Mi : Nat → Mem) (hc : X.calm = true) (hN : X.N.Nodup) (ne : n1 ≠ n2) (ne2 : n1 ≠ n3) (ne3 : n2 ≠ n3) (hi : IWQ φ X N ρ M (.Tuple [.Name x px, .Name y py, .Name z pz, .Name y pw] tk tp) iter ds M1)
    (hφ : ∀ m c, φ (Mi m ++ [c])) (hA0 : A 0 = []) (hM0 : Mi 0 = M1) (hz : ds.length ≤ 100000)
    (step : ∀ (m : Nat) d, ds[m]? = some d → ∃ u v w t j, d = .tuple [u, v, w, t] ∧ A (m + 1) = A m ++ [j] ∧ (A m).length ≤ m ∧ ∀ N' s H C cl fp, EJ (X.blk s H scope (compEnvC scope cl C X.env) fp) N' (((ρ.set n1 (some (.d u))).set n3 (some (.d w))).set n2 (some (.d t))) (Mi m) elt j (Mi (m + 1)))
    (ok : BlkOk X.N X.env.scope scope [(x, n1), (y, n2), (z, n3)] := by exact blkOk_by (by kernel_rfl))
    (hgn : ∀ (s : Shared) (H : Hp) (C : Addr) (cl : List (Str × Addr)) (fp : List Addr), PG (X.blk s H scope (compEnvC scope cl C X.env) fp) (.Tuple [.Name x px, .Name y py, .Name z pz, .Name y pw] tk tp) (gTup X.K 4 (gCons (gName n1) (gCons (gName n2) (gCons (gName n3) (gCons (gName n2) gNil))))) := by exact fun _ _ _ _ _ => pg_tup (by rfl) (pgs_cons (pg_name (by assumption) rfl (Or.inl rfl)) (pgs_cons (pg_name (by assumption) rfl (Or.inl rfl)) (pgs_cons (pg_name (by assumption) rfl (Or.inl rfl)) (pgs_cons (pg_name (by assumption) rfl (Or.inl rfl)) pgs_nil)))))
    (hf : ∀ x, foldedSetIterable iter X.env x = pure x := by intro _; rfl) : EL X N ρ M (.ListComp elt [⟨.Tuple [.Name x px, .Name y py, .Name z pz, .Name y pw] tk tp, iter, [], 0⟩] scope pos) (A ds.length) (Mi ds.length) := by
  obtain ⟨ti, pi, hi⟩ := hi
  exact el_lc (lj_compW [n1, n2, n3] (gTup X.K 4 (gCons (gName n1) (gCons (gName n2) (gCons (gName n3) (gCons (gName n2) gNil))))) A Mi hi hφ hA0 hM0 hz fun m d hd => by obtain ⟨u, v, w, t, j, rfl, a, b, c⟩ := step m d hd; exact ⟨_, j, tgc4 n1 n2 n3 ne ne2 ne3, a, b, c⟩) (pe_lc hc hN pi ok hgn (fun _ _ _ _ _ => pts_nil) (te := wBE X scope elt) (fun s H C cl fp => ⟨fun pins s1 σ1 H1 Q1 I1 h1 => h1 s H C cl fp pins s1 I1⟩) hf)
end
end Kt

/-! Kto: displays of data, one rule each, so that nothing is left to be reckoned. -/
namespace Kt
open PySem PySem.Spec PyProof PyProof.Rows L2
section
variable {X : Cx} {N : Ent} {ρ ρ' : Rho} {M : Mem} {a b c d e : Expr} {pos : Pos} {A B C D : PyData} {kk : Nat}
theorem jt0 : EJ X N ρ M (.Tuple [] kk pos) (.d (.tuple [])) M := ej_tup (ds := []) aj_nil rfl (by decide)
theorem jt1 (h1 : EJ X N ρ M a (.d A) M) (hs : starEach [a] X.env = (false, eval a X.env) :: starEach [] X.env := by rfl) : EJ X N ρ M (.Tuple [a] kk pos) (.d (.tuple [A])) M := ej_tup (ds := [A]) (is := [.d A]) (aj_cons h1 aj_nil hs) rfl (by show 1 ≤ 100000; decide)
theorem jt2 (h1 : EJ X N ρ M a (.d A) M) (h2 : EJ X N ρ M b (.d B) M) (hs : starEach [a, b] X.env = (false, eval a X.env) :: starEach [b] X.env := by rfl) (hs2 : starEach [b] X.env = (false, eval b X.env) :: starEach [] X.env := by rfl) : EJ X N ρ M (.Tuple [a, b] kk pos) (.d (.tuple [A, B])) M := ej_tup (ds := [A, B]) (is := [.d A, .d B]) (aj_cons h1 (aj_cons h2 aj_nil hs2) hs) rfl (by show 2 ≤ 100000; decide)
theorem jt3 (h1 : EJ X N ρ M a (.d A) M) (h2 : EJ X N ρ M b (.d B) M) (h3 : EJ X N ρ M c (.d C) M) (hs : starEach [a, b, c] X.env = (false, eval a X.env) :: starEach [b, c] X.env := by rfl) (hs2 : starEach [b, c] X.env = (false, eval b X.env) :: starEach [c] X.env := by rfl) (hs3 : starEach [c] X.env = (false, eval c X.env) :: starEach [] X.env := by rfl) : EJ X N ρ M (.Tuple [a, b, c] kk pos) (.d (.tuple [A, B, C])) M := ej_tup (ds := [A, B, C]) (is := [.d A, .d B, .d C]) (aj_cons h1 (aj_cons h2 (aj_cons h3 aj_nil hs3) hs2) hs) rfl (by show 3 ≤ 100000; decide)
theorem jt4 (h1 : EJ X N ρ M a (.d A) M) (h2 : EJ X N ρ M b (.d B) M) (h3 : EJ X N ρ M c (.d C) M) (h4 : EJ X N ρ M d (.d D) M) (hs : starEach [a, b, c, d] X.env = (false, eval a X.env) :: starEach [b, c, d] X.env := by rfl) (hs2 : starEach [b, c, d] X.env = (false, eval b X.env) :: starEach [c, d] X.env := by rfl) (hs3 : starEach [c, d] X.env = (false, eval c X.env) :: starEach [d] X.env := by rfl) (hs4 : starEach [d] X.env = (false, eval d X.env) :: starEach [] X.env := by rfl) : EJ X N ρ M (.Tuple [a, b, c, d] kk pos) (.d (.tuple [A, B, C, D])) M := ej_tup (ds := [A, B, C, D]) (is := [.d A, .d B, .d C, .d D]) (aj_cons h1 (aj_cons h2 (aj_cons h3 (aj_cons h4 aj_nil hs4) hs3) hs2) hs) rfl (by show 4 ≤ 100000; decide)
theorem jl0 : EJ X N ρ M (.List [] pos) (.d (.list [])) M := ej_el (ds := []) (is := []) (el_disp aj_nil (by decide)) rfl
theorem jl1 (h1 : EJ X N ρ M a (.d A) M) (hs : starEach [a] X.env = (false, eval a X.env) :: starEach [] X.env := by rfl) : EJ X N ρ M (.List [a] pos) (.d (.list [A])) M := ej_el (ds := [A]) (is := [.d A]) (el_disp (aj_cons h1 aj_nil hs) (by show 1 ≤ 100000; decide)) rfl
theorem jl2 (h1 : EJ X N ρ M a (.d A) M) (h2 : EJ X N ρ M b (.d B) M) (hs : starEach [a, b] X.env = (false, eval a X.env) :: starEach [b] X.env := by rfl) (hs2 : starEach [b] X.env = (false, eval b X.env) :: starEach [] X.env := by rfl) : EJ X N ρ M (.List [a, b] pos) (.d (.list [A, B])) M := ej_el (ds := [A, B]) (is := [.d A, .d B]) (el_disp (aj_cons h1 (aj_cons h2 aj_nil hs2) hs) (by show 2 ≤ 100000; decide)) rfl
theorem jl4 (h1 : EJ X N ρ M a (.d A) M) (h2 : EJ X N ρ M b (.d B) M) (h3 : EJ X N ρ M c (.d C) M) (h4 : EJ X N ρ M d (.d D) M) (hs : starEach [a, b, c, d] X.env = (false, eval a X.env) :: starEach [b, c, d] X.env := by rfl) (hs2 : starEach [b, c, d] X.env = (false, eval b X.env) :: starEach [c, d] X.env := by rfl) (hs3 : starEach [c, d] X.env = (false, eval c X.env) :: starEach [d] X.env := by rfl) (hs4 : starEach [d] X.env = (false, eval d X.env) :: starEach [] X.env := by rfl) : EJ X N ρ M (.List [a, b, c, d] pos) (.d (.list [A, B, C, D])) M := ej_el (ds := [A, B, C, D]) (is := [.d A, .d B, .d C, .d D]) (el_disp (aj_cons h1 (aj_cons h2 (aj_cons h3 (aj_cons h4 aj_nil hs4) hs3) hs2) hs) (by show 4 ≤ 100000; decide)) rfl
/-- [x] + l, (x,) + t, t + (x,), l + [x] -/
theorem jc_l {L : List PyData} (h1 : EJ X N ρ M a (.d (.list [A])) M) (h2 : EJ X N ρ M b (.d (.list L)) M) (hz : L.length ≤ 1000) : EJ X N ρ M (.BinOp a .Add b pos) (.d (.list (A :: L))) M := ej_el (ds := A :: L) (el_cat (ds := [A]) (es := L) h1 h2 (by show 1 + L.length ≤ 100000; omega)) rfl
theorem jc_lr {L : List PyData} (h1 : EJ X N ρ M a (.d (.list L)) M) (h2 : EJ X N ρ M b (.d (.list [A])) M) (hz : L.length ≤ 1000) : EJ X N ρ M (.BinOp a .Add b pos) (.d (.list (L ++ [A]))) M := ej_el (ds := L ++ [A]) (el_cat (ds := L) (es := [A]) h1 h2 (by show L.length + 1 ≤ 100000; omega)) rfl
theorem jc_t {L : List PyData} (h1 : EJ X N ρ M a (.d (.tuple [A])) M) (h2 : EJ X N ρ M b (.d (.tuple L)) M) (hz : L.length ≤ 1000) : EJ X N ρ M (.BinOp a .Add b pos) (.d (.tuple (A :: L))) M := ej_catA (ds := [A]) (es := L) h1 h2 (by show 1 + L.length ≤ 100000; omega)
theorem jc_tr {L : List PyData} (h1 : EJ X N ρ M a (.d (.tuple L)) M) (h2 : EJ X N ρ M b (.d (.tuple [A])) M) (hz : L.length ≤ 1000) : EJ X N ρ M (.BinOp a .Add b pos) (.d (.tuple (L ++ [A]))) M := ej_catA (ds := L) (es := [A]) h1 h2 (by show L.length + 1 ≤ 100000; omega)
/-- rows: a display put behind a list -/
theorem jd_nil : AJ X N ρ M [] (([] : List PyData).map It.d) M := aj_nil
theorem jd_cons {es : List Expr} {S : List PyData} (h1 : EJ X N ρ M a (.d A) M) (h2 : AJ X N ρ M es (S.map It.d) M) (hs : starEach (a :: es) X.env = (false, eval a X.env) :: starEach es X.env := by rfl) : AJ X N ρ M (a :: es) ((A :: S).map It.d) M := aj_cons h1 h2 hs
theorem jr_list {es : List Expr} {S : List PyData} (h2 : AJ X N ρ M es (S.map It.d) M) (hz : S.length ≤ 1000) : EJ X N ρ M (.List es pos) (.d (.list S)) M := ej_el (ds := S) (el_disp h2 (by rw [List.length_map]; omega)) rfl
theorem jr_cat {es : List Expr} {R S : List PyData} {p2 : Pos} (h1 : EJ X N ρ M a (.d (.list R)) M) (h2 : AJ X N ρ M es (S.map It.d) M) (hz : S.length ≤ 1000) (hr : R.length ≤ 1000) : EJ X N ρ M (.BinOp a .Add (.List es p2) pos) (.d (.list (R ++ S))) M := ej_el (ds := R ++ S) (el_cat (ds := R) (es := S) h1 (jr_list h2 hz) (by omega)) rfl
theorem jlistT {p q : Pos} {ds : List PyData} (hm : X.mg "list" = none) (ha : EJ X N ρ M a (.d (.tuple ds)) M) (hg : Gl X "list" := by rfl) (he : starEach [a] X.env = [(false, eval a X.env)] := by rfl) (hpl : (backTo q (starEach ([] : List Expr) X.env)).any (·.1) = false := by rfl) : EJ X N ρ M (.Call (.Name "list" p) [a] [] q) (.d (.list ds)) M := ej_el (ds := ds) (el_listT hm ha hg he hpl) rfl
end
end Kt

/-! Ktp: len(set(xs)) of a longer list of different ints. -/
namespace Kt
open PySem PySem.Spec PyProof PyProof.Rows L2
def tLenB (K : PySem.W.Frag) (ta : TE) : TE := fun σ H Q => ta σ H fun x H1 => ∃ (l : Addr) (ns : List Int), x = .ref l ∧ SqL K H1 l (ns.map V.int) ∧ ns.length < 4000 ∧ ns.Nodup ∧ Q (.int (ns.length : Int)) H1
theorem pe_lenB {X : Cx} {a : Expr} {ta : TE} {p p2 q pos : Pos} (hc : X.calm = true) (hg : Gl X "len") (hm : X.mg "len" = none) (hg2 : Gl X "set") (hm2 : X.mg "set" = none) (ha : PE X a ta) (na : starEach [a] X.env = (false, eval a X.env) :: starEach [] X.env := by rfl) :
    PE X (.Call (.Name "len" p) [.Call (.Name "set" p2) [a] [] q] [] pos) (tLenB X.K ta) := by
  refine ⟨fun pins s σ H Q I h => ?_⟩
  refine Call_ (ld_blt I hg hm boot_len (PyProof.Rows.callWith_builtin1 (args_cons (Call_ (ld_blt I hg2 hm2 boot_set (PyProof.Rows.callWith_type1 (args_cons (thn (ha.run pins s σ H _ I h) fun v s1 x => args_nil ?_) na) na rfl))) rfl) rfl rfl))
  obtain ⟨x, H1, I1, r1, l, ns, rfl, hq, h1, hnd, q1⟩ := x
  cases r1
  obtain ⟨its, r, pl, hz⟩ := I1.list hq
  have hl : its.toArray.size = ns.length := by
    rw [List.size_toArray, ← r.length, List.length_map]
  refine call_set_list (I1.ok.hd hc) pl.isList r.ints (by rw [hl]; show ns.length + 1 < 4096; omega) fun h' tk hS hk => args_nil ?_
  rw [hl, firstMet_nodup ns hnd ns.length (Nat.le_refl _), List.take_length] at hS
  obtain ⟨o, es, ep, t, ho, hx, hd, _, _, _, hf, hn⟩ := hS
  refine call_len_set ho hx hd hf (by rw [hn]; omega) ?_
  refine ⟨.int (ns.length : Int), H1, ?_, ?_, q1⟩
  · exact I1.kept fun b u hb => hk b u (Heap.lt_size hb) hb
  · rw [hn]
    exact ⟨_, rfl⟩
section
variable {X : Cx} {N : Ent} {ρ : Rho} {M M1 : Mem} {a : Expr} {pos p p2 q : Pos}
theorem ej_lenSet {ns : List Int} (hc : X.calm = true) (hm : X.mg "len" = none) (hm2 : X.mg "set" = none) (ha : EJ X N ρ M a (.d (.list (ns.map .int))) M1) (h1 : ns.length < 4000) (hnd : ns.Nodup) (hg : Gl X "len" := by rfl) (hg2 : Gl X "set" := by rfl) (na : starEach [a] X.env = (false, eval a X.env) :: starEach [] X.env := by rfl) :
    EJ X N ρ M (.Call (.Name "len" p) [.Call (.Name "set" p2) [a] [] q] [] pos) (dI (ns.length : Int)) M1 := fun σ H P hh g Q k =>
  e_of (pe_lenB hc hg hm hg2 hm2 pe_w na) (ha σ H P hh g _ fun v H1 P1 e1 hh1 r => by
    obtain ⟨l, xs, rfl, h2, h3⟩ := ri_lst r
    have e := DnAll.ints h3
    subst e
    exact ⟨l, ns, rfl, .inl (.inl (hh1.ex _ _ h2)), h1, hnd, k _ H1 P1 e1 hh1 (.int _)⟩)
end
end Kt

/-! Ktq: except without a name, min of two, the length of what is only read. -/
namespace Kt
open PySem PySem.Spec PyProof PyProof.Rows L2
section
variable {X : Cx} {N : Ent} {ρ ρ' : Rho} {M M1 M2 : Mem} {a b e : Expr} {pos : Pos} {Z : Post} {rest : List Stmt} {Cs C0 fI : Addr} {fd : FuncData} {sI : Stmt}
def SuiteOk0 (X : Cx) (N : Ent) (suite : List Stmt) (M' : Mem) (rt : It → Mem → Prop) : Prop :=
  ∀ (P' H' : Hp) (σ' : L2.St) (pn : List (Addr × Obj)) (a : Addr) (D : Ends), Holds N P' H' M' → (∀ i M'' v H'' P'', rt i M'' → Ex P' P'' → Holds N P'' H'' M'' → RepI P'' v i → D.rt v H'') → wSs (X.suite a pn) suite D σ' H'
theorem sj_try0 {np pos' : Pos} {body suite : List Stmt} {b₀ : Stmt} (ER : Str → Mem → Prop) (T : ErrTxt X.K X.mg sI Cs C0 fI fd)
    (hb : ∀ (pn : List (Addr × Obj)) (xe : Value → Shared → Prop), PassesOwn (model X.prog X.w) X.A X.env xe → SJ (X.tr pn xe) N ρ M body { nx := fun ρ' M' => SJ X N ρ' M' rest Z, rt := Z.rt, bk := Z.bk, ct := Z.ct, er := ER })
    (hsu : ∀ z M', ER z M' → SuiteOk0 X N (b₀ :: suite) M' Z.rt)
    (hg : Gl X "ShapeError" := by rfl) (hs : X.stack = X.env :: X.outer := by rfl) (hf : X.env.frame = some X.env.locals := by rfl) :
    SJ X N ρ M (.Try body [.ExceptHandler (some (.Name "ShapeError" np)) none (b₀ :: suite) pos'] [] [] pos :: rest) Z := sj_cons fun σ H P hh g D E tk zd => by
  refine s_of (ps_try_only (c := .ref Cs) (tb := fun W => fun D σ H => ∀ pn xe, Takes (X.tr pn xe) W → PassesOwn (model X.prog X.w) X.A X.env xe → wSs (X.tr pn xe) body D σ H)
    (ts := fun a cls d => fun D σ H => ∀ oe pn, Zc cls d oe → (∃ vs, oe.data = .fields vs) → wSs (X.suite a ((a, oe) :: pn)) (b₀ :: suite) D σ H) (Wout := fun _ _ _ _ => False) hs hf ⟨hg, by decide, .inl T.gS⟩ takes0
    (fun W pn xe tk1 po => ⟨fun pins s σ H D I h => h pn xe tk1 po pins s I⟩) (fun a oe cls d pn hz hv => ⟨fun pins s σ H D I h => h oe pn hz hv pins s I⟩)) ?_
  intro pn xe tk1 po
  refine hb pn xe po σ H P hh g D (fun c d H' => ∀ σ' : L2.St, wOnly X.K (.ref Cs) (fun a cls d => fun D σ H => ∀ oe pn, Zc cls d oe → (∃ vs, oe.data = .fields vs) → wSs (X.suite a ((a, oe) :: pn)) (b₀ :: suite) D σ H) (fun _ _ _ _ => False) D c d σ' H') (takes_len tk1 fun c d σ' H' hl w => w σ') ⟨zd.nx, zd.rt, zd.bk, zd.ct, fun z M' d H' P' C gC hz e1 h1 x1 => ?_⟩
  intro σ'
  have eC : C = Cs := by
    have := gC.symm.trans T.gS
    cases this
    rfl
  subst eC
  refine ⟨true, T.te, fun _ a ha oe pn2 hz2 hv2 => ?_, fun q => Bool.noConfusion q⟩
  exact hsu z M' hz P' H' σ' _ a _ h1 fun i M'' v H'' P'' r e2 h2 r2 => zd.rt i M'' v H'' P'' r (e1.trans e2) h2 r2
theorem suite0_bl {M' : Mem} {n : Bool} {j : Nat} {p1 : Pos} {rest : List Stmt} {rt : It → Mem → Prop} (h : rt (dB n) M') : SuiteOk0 X N (.Return (some (.Constant (.bool n) j p1)) pos :: rest) M' rt := fun P' H' σ' pn a D hh k => by
  refine ss_of (pss_cons (ps_ret pe_bl) pss_w) ?_
  exact k (dB n) M' _ H' P' h (Ex.refl _) hh (.bl n)
theorem ej_min2 {p q : Pos} {n m : Int} (hc : X.calm = true) (hm : X.mg "min" = none) (ha : EJ X N ρ M a (dI n) M1) (hb : EJ X N ρ M1 b (dI m) M2) (hg : Gl X "min" := by rfl) (he : starEach [a, b] X.env = (false, eval a X.env) :: starEach [b] X.env := by rfl) (he2 : starEach [b] X.env = (false, eval b X.env) :: starEach [] X.env := by rfl) (hpl : (backTo q (starEach [b] X.env)).any (·.1) = false := by rfl) :
    EJ X N ρ M (.Call (.Name "min" p) [a, b] [] q) (dI (if m < n then m else n)) M2 := ej_callB (call_min2 hc) hm (by decide +kernel) (aj_cons ha (aj_cons hb aj_nil he2) he) (fun vs H P h rr Q k => by
  obtain ⟨x, y, rfl, r1, r2⟩ := ri2 rr
  cases ri_int r1
  cases ri_int r2
  exact ⟨n, m, rfl, k _ H P (Ex.refl P) h (.int _)⟩) hg (by decide) (by decide) he hpl
theorem ej_lenS {p q : Pos} {x0 : It} {ds : List PyData} (hm : X.mg "len" = none) (ha : EJ X N ρ M a x0 M1) (src : ∀ v P, RepI P v x0 → ∃ a xs, v = .ref a ∧ SqL X.K P a xs ∧ DnAll P xs ds) (hg : Gl X "len" := by rfl) (he : starEach [a] X.env = [(false, eval a X.env)] := by rfl) (hpl : (backTo q (starEach ([] : List Expr) X.env)).any (·.1) = false := by rfl) :
    EJ X N ρ M (.Call (.Name "len" p) [a] [] q) (dI (ds.length : Int)) M1 :=
  ej_len hm ha (fun v H P h r => by
    obtain ⟨a, xs, rfl, h1, h2⟩ := src v P r
    exact ⟨a, xs, rfl, .inl (exw_l h.exw h1), dnAll_len h2⟩) hg he hpl
theorem iw_range2 {tg : Expr} {p rp : Pos} {i j : Int} (hmr : X.mg "range" = none) (ha : EJ X N ρ M a (dI i) M1) (hb : EJ X N ρ M1 b (dI j) M2) (h1 : -(2 ^ 62) ≤ i ∧ i < 2 ^ 62) (h2 : -(2 ^ 62) ≤ j ∧ j < 2 ^ 62) (hg : Gl X "range" := by rfl) (hs : starEach [a, b] X.env = (false, eval a X.env) :: starEach [b] X.env := by rfl) (hs2 : starEach [b] X.env = (false, eval b X.env) :: starEach [] X.env := by rfl) (hpl : (backTo rp (starEach [b] X.env)).any (·.1) = false := by rfl) :
    IW X N ρ M tg (.Call (.Name "range" p) [a, b] [] rp) ((List.range (j - i).toNat).map fun k : Nat => .int (i + (k : Int))) M2 := by
  refine ⟨_, pi_range2 hg hmr pa_w (by rw [hs, hs2]; rfl) (by rw [hs2]; rfl), fun σ H P hh g R q => ?_⟩
  refine aj_cons ha (aj_cons hb aj_nil hs2) hs σ H P hh g _ fun vs H1 P1 e1 h3 r1 => ?_
  obtain ⟨x, y, rfl, r2, r3⟩ := ri2 r1
  cases ri_int r2
  cases ri_int r3
  have zl : ((List.range (j - i).toNat).map fun k : Nat => PyData.int (i + (k : Int))).length = (j - i).toNat := by simp
  refine ⟨i, j, rfl, ⟨h1.1, h1.2, h2.1, h2.2⟩, q _ H1 P1 e1 h3 ⟨fun n H P' M' hi h2 e2 _ => ?_, fun H P' M' h2 e2 _ => ?_, fun n H v H' P' M' hi h2 e2 _ y => ?_⟩⟩
  · rw [zl] at hi
    exact hi
  · rw [zl]
    exact Nat.le_refl _
  · obtain ⟨rfl, rfl⟩ := y
    rw [zl] at hi
    exact ⟨P', _, by rw [List.getElem?_map, List.getElem?_range hi]; rfl, Ex.refl _, h2, .int _⟩
theorem wj_orF {b2 : Expr} {u : Bool} {es : List Expr} (h : TJ X N ρ M a false M1) (h2 : WJ X N ρ M1 (.BoolOp .Or (b2 :: es) pos) u M2) : WJ X N ρ M (.BoolOp .Or (a :: b2 :: es) pos) u M2 := fun σ H P hh g Q q =>
  w_of (pw_or pt_w pw_w) (h σ H P hh g _ fun H1 P1 e1 h1 => iteF (h2 σ H1 P1 h1 (g.ex e1) Q fun H2 P2 e2 h3 => q H2 P2 (e1.trans e2) h3))
end
end Kt

/-! Kty: defs handed as parameters; slices of lists of one's own; bit_length, divmod, more comparisons as values. -/
namespace Kt
open PySem PySem.Spec PyProof PyProof.Rows L2
section
variable {X : Cx} {N : Ent} {ρ ρ' : Rho} {M M1 M2 M3 Mc Mc' Mr : Mem} {a b c e iter : Expr} {es : List Expr} {pos p : Pos} {i j k : It} {is : List It} {Z : Post} {rest : List Stmt} {scope : Scope} {cnd elt : Expr}
theorem ej_gtV {n m : Int} (ha : EJ X N ρ M a (dI n) M1) (hb : EJ X N ρ M1 b (dI m) M2) : EJ X N ρ M (.Compare a [.Gt] [b] pos) (dB (decide (m < n))) M2 := ej_cmp op_gt (nomark _) ha hb rj_B0
theorem ej_leV {n m : Int} (ha : EJ X N ρ M a (dI n) M1) (hb : EJ X N ρ M1 b (dI m) M2) : EJ X N ρ M (.Compare a [.LtE] [b] pos) (dB (decide (n ≤ m))) M2 := ej_cmp op_le (nomark _) ha hb rj_B0
theorem ej_neV {n m : Int} (ha : EJ X N ρ M a (dI n) M1) (hb : EJ X N ρ M1 b (dI m) M2) : EJ X N ρ M (.Compare a [.NotEq] [b] pos) (dB (!decide (n = m))) M2 := ej_cmp op_ne (nomark _) ha hb rj_neI
theorem ej_bits {apos : Pos} {n : Int} (ha : EJ X N ρ M a (dI n) M1) (hbase : attributeBase a "bit_length" X.env (eval a X.env) = eval a X.env := by rfl) (hline : (apos.endLine == pos.line) = true := by rfl) :
    EJ X N ρ M (.Call (.Attribute a "bit_length" apos) [] [] pos) (dI (Builtin.Int.intBits n : Nat)) M1 := fun σ H P hh g Q q =>
  e_of (pe_bits pe_w hbase hline) (ha σ H P hh g _ fun v H1 P1 e1 h1 r1 => ⟨n, ri_int r1, q _ H1 P1 e1 h1 (.int _)⟩)
theorem ej_divmod {q : Pos} {n m : Int} (hm : X.mg "divmod" = none) (ha : EJ X N ρ M a (dI n) M1) (hb : EJ X N ρ M1 b (dI m) M2) (hc : CDivP n m) (hg : Gl X "divmod" := by rfl) (he : starEach [a, b] X.env = (false, eval a X.env) :: starEach [b] X.env := by rfl) (he2 : starEach [b] X.env = (false, eval b X.env) :: starEach [] X.env := by rfl) (hpl : (backTo q (starEach [b] X.env)).any (·.1) = false := by rfl) :
    EJ X N ρ M (.Call (.Name "divmod" p) [a, b] [] q) (.d (.tuple [.int (n / m), .int (n % m)])) M2 := ej_callB call_divmodW hm (by decide +kernel) (aj_cons ha (aj_cons hb aj_nil he2) he) (fun vs H P h rr Q k => by
  obtain ⟨x, y, rfl, r1, r2⟩ := ri2 rr
  cases ri_int r1
  cases ri_int r2
  refine ⟨n, m, rfl, hc, fun p hp => ?_⟩
  obtain ⟨h', e'⟩ := h.pers (o := .tup [.int (n / m), .int (n % m)]) hp
  exact k _ _ _ e' h' (.tup (by simp [upd]) (.cons (.int _) (.cons (.int _) .nil)))) hg (by decide) (by decide) he hpl
/-! slices of a list of one's own -/
theorem RepIs.to_d {P : Hp} {vs : List V} {ds : List PyData} (h : RepIs P vs (ds.map It.d)) : DnAll P vs ds := RepIs.to_all h
theorem el_slO {o : Addr} {ds : List PyData} {lo hi : Option Expr} {l h : Option Int} {tl th : TO} {p2 : Pos} (ha : EJ X N ρ M a (.v (.ref o)) M1) (hm : (o, ds.map It.d) ∈ M1) (pl : PO X lo tl) (ph : PO X hi th) (el : ∀ σ H Q, Q l H → tl σ H Q) (eh : ∀ σ H Q, Q h H → th σ H Q) :
    EL X N ρ M (.Subscript a (.Slice lo hi none p2) pos) ((cutD ds l h).map It.d) M1 := fun σ H P hh g Q q =>
  e_of (pe_slice sl_list pe_w pl ph) (ha σ H P hh g _ fun x H1 P1 e1 h1 r1 => el _ _ _ (eh _ _ _ (by
    cases r1
    obtain ⟨xs, h3, h4⟩ := h1.cell hm
    exact ⟨o, xs, rfl, .inl (.inl h3), fun p hp => q p _ P1 e1 (h1.newF hp) (h1.own hp (RepIs.of_all ((RepIs.to_all h4).cut l h)))⟩)))
theorem el_slOfrom {o : Addr} {ds : List PyData} {lo : Expr} {l : Int} {p2 : Pos} (ha : EJ X N ρ M a (.v (.ref o)) M1) (hl : EJ X N ρ M1 lo (dI l) M2) (hm : (o, ds.map It.d) ∈ M2) :
    EL X N ρ M (.Subscript a (.Slice (some lo) none none p2) pos) ((cutD ds (some l) none).map It.d) M2 := fun σ H P hd g Q q => by
  refine e_of (pe_slice sl_list pe_w (po_some pe_w) po_none) (ha σ H P hd g _ fun x H1 P1 e1 h1 r1 => ?_)
  refine hl σ H1 P1 h1 (g.ex e1) _ fun v2 H2 P2 e2 h2 r2 => ⟨l, ri_int r2, ?_⟩
  cases r1
  obtain ⟨xs, h4, h5⟩ := h2.cell hm
  exact ⟨o, xs, rfl, .inl (.inl h4), fun p hp => q p _ P2 (e1.trans e2) (h2.newF hp) (h2.own hp (RepIs.of_all ((RepIs.to_all h5).cut (some l) none)))⟩
theorem el_slOto {o : Addr} {ds : List PyData} {hi : Expr} {l : Int} {p2 : Pos} (ha : EJ X N ρ M a (.v (.ref o)) M1) (hl : EJ X N ρ M1 hi (dI l) M2) (hm : (o, ds.map It.d) ∈ M2) :
    EL X N ρ M (.Subscript a (.Slice none (some hi) none p2) pos) ((cutD ds none (some l)).map It.d) M2 := fun σ H P hd g Q q => by
  refine e_of (pe_slice sl_list pe_w po_none (po_some pe_w)) (ha σ H P hd g _ fun x H1 P1 e1 h1 r1 => ?_)
  refine hl σ H1 P1 h1 (g.ex e1) _ fun v2 H2 P2 e2 h2 r2 => ⟨l, ri_int r2, ?_⟩
  cases r1
  obtain ⟨xs, h4, h5⟩ := h2.cell hm
  exact ⟨o, xs, rfl, .inl (.inl h4), fun p hp => q p _ P2 (e1.trans e2) (h2.newF hp) (h2.own hp (RepIs.of_all ((RepIs.to_all h5).cut none (some l))))⟩
theorem el_slLfrom {ds : List PyData} {lo : Expr} {l : Int} {p2 : Pos} (ha : EJ X N ρ M a (.d (.list ds)) M1) (hl : EJ X N ρ M1 lo (dI l) M2) :
    EL X N ρ M (.Subscript a (.Slice (some lo) none none p2) pos) ((cutD ds (some l) none).map It.d) M2 := fun σ H P hd g Q q => by
  refine e_of (pe_slice sl_list pe_w (po_some pe_w) po_none) (ha σ H P hd g _ fun x H1 P1 e1 h1 r1 => ?_)
  refine hl σ H1 P1 h1 (g.ex e1) _ fun v2 H2 P2 e2 h2 r2 => ⟨l, ri_int r2, ?_⟩
  obtain ⟨a, xs, rfl, h4, h5⟩ := ri_lst (r1.ex e2)
  exact ⟨a, xs, rfl, .inl (.inl (h2.ex _ _ h4)), fun p hp => q p _ P2 (e1.trans e2) (h2.newF hp) (h2.own hp (RepIs.of_all (h5.cut (some l) none)))⟩
theorem el_slLto {ds : List PyData} {hi : Expr} {l : Int} {p2 : Pos} (ha : EJ X N ρ M a (.d (.list ds)) M1) (hl : EJ X N ρ M1 hi (dI l) M2) :
    EL X N ρ M (.Subscript a (.Slice none (some hi) none p2) pos) ((cutD ds none (some l)).map It.d) M2 := fun σ H P hd g Q q => by
  refine e_of (pe_slice sl_list pe_w po_none (po_some pe_w)) (ha σ H P hd g _ fun x H1 P1 e1 h1 r1 => ?_)
  refine hl σ H1 P1 h1 (g.ex e1) _ fun v2 H2 P2 e2 h2 r2 => ⟨l, ri_int r2, ?_⟩
  obtain ⟨a, xs, rfl, h4, h5⟩ := ri_lst (r1.ex e2)
  exact ⟨a, xs, rfl, .inl (.inl (h2.ex _ _ h4)), fun p hp => q p _ P2 (e1.trans e2) (h2.newF hp) (h2.own hp (RepIs.of_all (h5.cut none (some l))))⟩
theorem cut_to {ds : List PyData} {n : Nat} (h : n ≤ ds.length) : cutD ds none (some (n : Int)) = ds.take n := by
  unfold cutD
  rw [HT.sIx_none, HT.sIx_nat, List.drop_zero, Nat.sub_zero, Nat.min_eq_left h]
theorem cut_from {ds : List PyData} {n : Nat} (h : n ≤ ds.length) : cutD ds (some (n : Int)) none = ds.drop n := by
  unfold cutD
  rw [HT.sIx_none, HT.sIx_nat, Nat.min_eq_left h, List.take_of_length_le (by simp)]
/-! a list of one's own, copied -/
theorem el_listO {p q : Pos} {o : Addr} {ds : List PyData} (hm : X.mg "list" = none) (ha : EJ X N ρ M a (.v (.ref o)) M1) (hM : (o, ds.map It.d) ∈ M1) (hg : Gl X "list" := by rfl) (he : starEach [a] X.env = [(false, eval a X.env)] := by rfl) (hpl : (backTo q (starEach ([] : List Expr) X.env)).any (·.1) = false := by rfl) :
    EL X N ρ M (.Call (.Name "list" p) [a] [] q) (ds.map It.d) M1 := fun σ H P hh g Q k =>
  e_of (pe_callTy call_list_of hg hm (by decide +kernel) pa_w (by decide) (by decide) he hpl) (aj_cons ha aj_nil he σ H P hh g _ fun vs H1 P1 e1 h1 r1 => by
    obtain ⟨x, rfl, r2⟩ := ri1 r1
    cases r2
    obtain ⟨xs, h3, h4⟩ := h1.cell hM
    exact ⟨o, xs, rfl, .inl (.inl (.inl h3)), fun l hl => k l _ P1 e1 (h1.newF hl) (h1.own hl h4)⟩)
/-! a def as a value, and a call of a name that holds one -/
theorem ej_fn {x : Str} {f : Addr} (hm : X.mg x = some (.ref f)) (hg : Gl X x := by rfl) (hd : (x == ("__debug__" : Str)) = false := by decide) : EJ X N ρ M (.Name x pos) (.v (.ref f)) M := fun σ H P hh g Q q =>
  e_of (pe_glob (v := .ref f) hg hm rfl hd) (q _ H P (Ex.refl P) hh rfl)
structure HoldX (P : Program) (w : World) (K : PySem.W.Frag) (mg : Str → Option Value) (base : Heap) (f : Addr) (k : Nat) (C : Co) (R : Ro) : Prop where
  ex : ∃ fd ps, FnOk P w K mg base (L2.CX P w) k f fd ps (spX mg C R) ∧ PySem.W.keepIn K (.ref f) = true ∧ Binds K fd ps []
theorem DefX.hold {P : Program} {w : World} {K : PySem.W.Frag} {mg : Str → Option Value} {base : Heap} {x : Str} {k : Nat} {C : Co} {R : Ro} (F : DefX P w K mg base x k C R) : ∃ f, mg x = some (.ref f) ∧ HoldX P w K mg base f k C R := by
  obtain ⟨f, fd, ps, h1, h2, h3, h4⟩ := F.ex
  exact ⟨f, h2, fd, ps, h1, h3, h4⟩
theorem ej_callXL (n : Nat) {x : Str} {f : Addr} {l : Nat} {C : Co} {R : Ro} (F : HoldX X.prog X.w X.K X.mg X.base f l C R) (hr : Room l X.A) (hρ : ρ[n]? = some (some (.v (.ref f)))) (ha : AJ X N ρ M (e :: es) is M1) (hM : M1 = Mc ++ Mr) (hC : C is Mc i Mc') (hM2 : M2 = Mc' ++ Mr)
    (hN : X.N[n]? = some x := by rfl) (hv : Vis X.env.scope x := by first | exact Or.inl rfl | exact Or.inr (Or.inl rfl) | exact Or.inr (Or.inr rfl)) (hdb : (x == ("__debug__" : Str)) = false := by decide) (hcd : (x == ("__classdict__" : Str)) = false := by decide)
    (he : starEach (e :: es) X.env = (false, eval e X.env) :: starEach es X.env := by rfl) (hpl : (backTo pos (starEach es X.env)).any (·.1) = false := by rfl) :
    EJ X N ρ M (.Call (.Name x p) (e :: es) [] pos) i M2 := fun σ H P hh g Q q => by
  obtain ⟨fd, ps, F1, hk, hb⟩ := F.ex
  obtain ⟨v, h0, h00⟩ := g.2 n _ hρ
  cases h00
  refine e_of (pe_callL (i := n) (f := f) F1 hr hN hv hk hb .nil passL pa_w hdb hcd he hpl) ⟨h0, ha σ H P hh g _ fun vs H1 P1 e1 h1 r1 => ?_⟩
  subst hM hM2
  refine ⟨P1, is, Mc, h1.enter, ?_, .inl ⟨i, Mc', hC, fun v H' P' h' r' => ?_⟩⟩
  · rw [List.append_nil]; exact r1
  · exact q v H' P' (e1.trans h'.ex0) (h1.leave h') r'
end
section
variable {X : Cx} {CX : CXT} {k i : Nat} {f : Addr} {fd : FuncData} {ps : List Str} {sp : Sp} {E : L2.St → XK} {x : Str} {p pos : Pos} {e : Expr} {es : List Expr} {t : TA}
def tCallLS (i : Nat) (f : Addr) (sp : Sp) (E : L2.St → XK) (t : TA) : TE := fun σ H Q => σ[i]? = some (some (.ref f)) ∧ t σ H fun vs H1 => sp vs H1 Q (E σ)
theorem pe_callLS (F : FnOk X.prog X.w X.K X.mg X.base CX k f fd ps sp) (hr : Room k X.A) (hN : X.N[i]? = some x) (hv : Vis X.env.scope x) (hk : PySem.W.keepIn X.K (.ref f) = true) (hb : Binds X.K fd ps []) (hx : ∀ σ, PassesAt CX X σ (E σ)) (ha : PA X (e :: es) t)
    (hdb : (x == ("__debug__" : Str)) = false := by decide) (hcd : (x == ("__classdict__" : Str)) = false := by decide)
    (he : starEach (e :: es) X.env = (false, eval e X.env) :: starEach es X.env := by rfl) (hpl : (backTo pos (starEach es X.env)).any (·.1) = false := by rfl) : PE X (.Call (.Name x p) (e :: es) [] pos) (tCallLS i f sp E t) := by
  refine ⟨fun pins s σ H Q I h => ?_⟩
  obtain ⟨hs, ht⟩ := h
  refine wpAny_Call_Name_kw (thn ((pe_var (pos := p) hN hv hdb hcd).run pins s σ H (fun v H1 => v = .ref f ∧ H1 = H) I ⟨.ref f, hs, rfl, rfl⟩) fun u s1 ⟨v, H1, I1, r1, q1⟩ => ?_)
  obtain ⟨rfl, rfl⟩ := q1
  cases r1
  refine PySem.W.callWith_K (h₀ := X.base) I.ok.mod.kin hk (thn (ha.run pos pins s1 σ _ _ I1 ht) fun us s2 ⟨vs, H2, I2, r, q⟩ => ⟨I2.kIn, ?_⟩) he hpl
  exact run_fnS F hr hb (hx σ) I2 r q
end
section
variable {X : Cx} {N : Ent} {ρ ρ' : Rho} {M M1 M2 M3 Mc Mc' Mr : Mem} {a b c e iter : Expr} {es : List Expr} {pos p : Pos} {i j k : It} {is : List It}
theorem xj_callXL (n : Nat) {x z : Str} {f : Addr} {l : Nat} {C : Co} {R : Ro} (F : HoldX X.prog X.w X.K X.mg X.base f l C R) (hr : Room l X.A) (hρ : ρ[n]? = some (some (.v (.ref f)))) (ha : AJ X N ρ M (e :: es) is M) (hR : R is [] z)
    (hN : X.N[n]? = some x := by rfl) (hv : Vis X.env.scope x := by first | exact Or.inl rfl | exact Or.inr (Or.inl rfl) | exact Or.inr (Or.inr rfl)) (hdb : (x == ("__debug__" : Str)) = false := by decide) (hcd : (x == ("__classdict__" : Str)) = false := by decide)
    (he : starEach (e :: es) X.env = (false, eval e X.env) :: starEach es X.env := by rfl) (hpl : (backTo pos (starEach es X.env)).any (·.1) = false := by rfl) :
    XJ X N ρ M (.Call (.Name x p) (e :: es) [] pos) z := fun σ H P hh g E tk er Q => by
  obtain ⟨fd, ps, F1, hk, hb⟩ := F.ex
  obtain ⟨v, h0, h00⟩ := g.2 n _ hρ
  cases h00
  refine e_of (pe_callLS (i := n) (f := f) F1 hr hN hv hk hb (fun σ => passAt tk σ) pa_w hdb hcd he hpl) ⟨h0, ha σ H P hh g _ fun vs H1 P1 e1 h1 r1 => ?_⟩
  have h2 : Holds N P1 H1 ([] ++ M) := h1
  refine ⟨P1, is, [], h2.enter, r1, .inr ⟨z, hR, fun d H' P' Cs gs h' x' => ?_⟩⟩
  exact er d H' P' Cs gs (e1.trans h'.ex0) (h2.leave h') x'
end
end Kt

/-! Ktz: tests whose second part changes cells; y = [comp with a test]; == of lists of ints. -/
namespace Kt
open PySem PySem.Spec PyProof PyProof.Rows L2
section
variable {X : Cx} {N : Ent} {ρ ρ' : Rho} {M M1 M2 M3 Mc Mc' Mr : Mem} {a b c e iter : Expr} {es : List Expr} {pos p : Pos} {i j k : It} {is : List It} {Z : Post} {rest : List Stmt} {scope : Scope} {cnd elt : Expr} {t u : Bool}
theorem ej_andT {es : List Expr} (h : EJ X N ρ M a (dB true) M1) (h2 : EJ X N ρ M1 (.BoolOp .And (b :: es) pos) i M2) : EJ X N ρ M (.BoolOp .And (a :: b :: es) pos) i M2 := fun σ H P hh g Q q =>
  e_of (pe_and pe_w pe_w) (h σ H P hh g _ fun v H1 P1 e1 h1 r1 => ⟨true, ri_bl r1, iteT (h2 σ H1 P1 h1 (g.ex e1) Q fun v2 H2 P2 e2 h3 r => q v2 H2 P2 (e1.trans e2) h3 r)⟩)
theorem wj_andT {es : List Expr} (h : TJ X N ρ M a true M1) (h2 : WJ X N ρ M1 (.BoolOp .And (b :: es) pos) u M2) : WJ X N ρ M (.BoolOp .And (a :: b :: es) pos) u M2 := fun σ H P hh g Q q =>
  w_of (pw_and pt_w pw_w) (h σ H P hh g _ fun H1 P1 e1 h1 => iteT (h2 σ H1 P1 h1 (g.ex e1) Q fun H2 P2 e2 h3 => q H2 P2 (e1.trans e2) h3))
theorem sj_setW1F {φ : Mem → Prop} (n' : Nat) {nm : Str} {py spos : Pos} {x : Str} {p : Pos} (n : Nat) {ds : List PyData} (A : Nat → List It) (Mi : Nat → Mem) (hc : X.calm = true) (hN : X.N.Nodup) (hi : IWQ φ X N ρ M (.Name x p) iter ds M1)
    (hφ : ∀ m c, φ (Mi m ++ [c])) (hA0 : A 0 = []) (hM0 : Mi 0 = M1) (hz : ds.length ≤ 100000)
    (step : ∀ (m : Nat) d, ds[m]? = some d → ∃ t Mm, (∀ N' s H C cl fp, TJ (X.blk s H scope (compEnvC scope cl C X.env) fp) N' (ρ.set n (some (.d d))) (Mi m) cnd t Mm) ∧ (A m).length ≤ m ∧
      (t = true → ∃ j, A (m + 1) = A m ++ [j] ∧ ∀ N' s H C cl fp, EJ (X.blk s H scope (compEnvC scope cl C X.env) fp) N' (ρ.set n (some (.d d))) Mm elt j (Mi (m + 1))) ∧ (t = false → A (m + 1) = A m ∧ Mi (m + 1) = Mm))
    (hr : ∀ p, p ∉ N.F → SJ X N (ρ.set n' (some (.v (.ref p)))) (Mi ds.length ++ [(p, A ds.length)]) rest Z)
    (hy : X.N[n']? = some nm := by rfl) (hyl : X.env.scope.names.lookup nm = some .local := by rfl)
    (hsw : swapsWith (.ListComp elt [⟨.Name x p, iter, [cnd], 0⟩] scope pos) (some (.Name nm py)) spos.line X.env = pure true := by exact sw_true rfl rfl rfl (by kernel_rfl))
    (ok : BlkOk X.N X.env.scope scope [(x, n)] := by exact blkOk_by (by kernel_rfl))
    (hgn : ∀ (s : Shared) (H : Hp) (C : Addr) (cl : List (Str × Addr)) (fp : List Addr), PG (X.blk s H scope (compEnvC scope cl C X.env) fp) (.Name x p) (gName n) := by exact fun _ _ _ _ _ => pg_name (by assumption) rfl (Or.inl rfl))
    (hf : ∀ x, foldedSetIterable iter X.env x = pure x := by intro _; rfl) : SJ X N ρ M (.Assign [.Name nm py] (.ListComp elt [⟨.Name x p, iter, [cnd], 0⟩] scope pos) spos :: rest) Z := by
  obtain ⟨ti, pi, hi⟩ := hi
  exact sj_lc n' (lj_compQ [n] (gName n) A Mi hi hφ hA0 hM0 hz fun m d hd => by obtain ⟨t, Mm, a, b, c⟩ := step m d hd; exact ⟨_, t, Mm, tgc1 n, a, b, c⟩) (ps_setLc (i := n') (y := nm) (py := py) (spos := spos) hc hN hy hyl hsw pi ok hgn (tt := wBT X scope cnd) (fun s H C cl fp => pts_one ⟨fun pins s1 σ1 H1 Q1 I1 h1 => h1 s H C cl fp pins s1 I1⟩) (te := wBE X scope elt) (fun s H C cl fp => ⟨fun pins s1 σ1 H1 Q1 I1 h1 => h1 s H C cl fp pins s1 I1⟩) hf) hr
theorem sj_setW1 {φ : Mem → Prop} (n' : Nat) {nm : Str} {py spos : Pos} {x : Str} {p : Pos} (n : Nat) {ds : List PyData} (A : Nat → List It) (Mi : Nat → Mem) (hc : X.calm = true) (hN : X.N.Nodup) (hi : IWQ φ X N ρ M (.Name x p) iter ds M1)
    (hφ : ∀ m c, φ (Mi m ++ [c])) (hA0 : A 0 = []) (hM0 : Mi 0 = M1) (hz : ds.length ≤ 100000)
    (step : ∀ (m : Nat) d, ds[m]? = some d → ∃ j, A (m + 1) = A m ++ [j] ∧ (A m).length ≤ m ∧ ∀ N' s H C cl fp, EJ (X.blk s H scope (compEnvC scope cl C X.env) fp) N' (ρ.set n (some (.d d))) (Mi m) elt j (Mi (m + 1)))
    (hr : ∀ p, p ∉ N.F → SJ X N (ρ.set n' (some (.v (.ref p)))) (Mi ds.length ++ [(p, A ds.length)]) rest Z)
    (hy : X.N[n']? = some nm := by rfl) (hyl : X.env.scope.names.lookup nm = some .local := by rfl)
    (hsw : swapsWith (.ListComp elt [⟨.Name x p, iter, [], 0⟩] scope pos) (some (.Name nm py)) spos.line X.env = pure true := by exact sw_true rfl rfl rfl (by kernel_rfl))
    (ok : BlkOk X.N X.env.scope scope [(x, n)] := by exact blkOk_by (by kernel_rfl))
    (hgn : ∀ (s : Shared) (H : Hp) (C : Addr) (cl : List (Str × Addr)) (fp : List Addr), PG (X.blk s H scope (compEnvC scope cl C X.env) fp) (.Name x p) (gName n) := by exact fun _ _ _ _ _ => pg_name (by assumption) rfl (Or.inl rfl))
    (hf : ∀ x, foldedSetIterable iter X.env x = pure x := by intro _; rfl) : SJ X N ρ M (.Assign [.Name nm py] (.ListComp elt [⟨.Name x p, iter, [], 0⟩] scope pos) spos :: rest) Z := by
  obtain ⟨ti, pi, hi⟩ := hi
  exact sj_lc n' (lj_compW [n] (gName n) A Mi hi hφ hA0 hM0 hz fun m d hd => by obtain ⟨j, a, b, c⟩ := step m d hd; exact ⟨_, j, tgc1 n, a, b, c⟩) (ps_setLc (i := n') (y := nm) (py := py) (spos := spos) hc hN hy hyl hsw pi ok hgn (fun _ _ _ _ _ => pts_nil) (te := wBE X scope elt) (fun s H C cl fp => ⟨fun pins s1 σ1 H1 Q1 I1 h1 => h1 s H C cl fp pins s1 I1⟩) hf) hr
theorem eqvAll_ints : ∀ (a b : List Int), PyData.eqvAll (a.map .int) (b.map .int) = decide (a = b)
  | [], [] => by simp [PyData.eqvAll]
  | [], _ :: _ => by simp [PyData.eqvAll]
  | _ :: _, [] => by simp [PyData.eqvAll]
  | x :: xs, y :: ys => by
    have ih := eqvAll_ints xs ys
    show (PyData.eqv (.int x) (.int y) && PyData.eqvAll (xs.map .int) (ys.map .int)) = _
    rw [ih]
    show ((x == y) && _) = _
    by_cases e : x = y <;> by_cases e2 : xs = ys <;> simp [e, e2]
theorem eqv_ints (a b : List Int) : PyData.eqv (.list (a.map .int)) (.list (b.map .int)) = decide (a = b) := eqvAll_ints a b
end
section
variable {X : Cx} {N : Ent} {ρ ρ' : Rho} {M M1 M2 Mc Mc' Mr : Mem} {e : Expr} {es : List Expr} {pos p p2 p3 : Pos} {is : List It} {Z : Post} {rest Ab : List Stmt}
/-- if not f(..): A, where f gives True and changes cells of its own -/
theorem sj_ifNotN {y : Str} {l : Nat} {A : Pre} {B : Co} (F : DefN X.prog X.w X.K X.mg X.base y l A B) (hr : Room l X.A) (ha : AJ X N ρ M (e :: es) is M1) (hM : M1 = Mc ++ Mr) (hA : A is Mc)
    (hk : ∀ i Mc', B is Mc i Mc' → i = dB true ∧ SJ X N ρ (Mc' ++ Mr) rest Z)
    (hg : Gl X y := by rfl) (hdb : (y == ("__debug__" : Str)) = false := by decide) (he : starEach (e :: es) X.env = (false, eval e X.env) :: starEach es X.env := by rfl) (hpl : (backTo pos (starEach es X.env)).any (·.1) = false := by rfl)
    (hv : ∀ whole, isTrue (.Call (.Name y p) (e :: es) [] pos) X.env whole = (do let v ← whole; standAt (Expr.Call (.Name y p) (e :: es) [] pos).pos; holding [v] (truthy v)) := by intro _; rfl) :
    SJ X N ρ M (.If (.UnaryOp .Not (.Call (.Name y p) (e :: es) [] pos) p2) Ab [] p3 :: rest) Z := sj_cons fun σ H P hh g D E tk z => by
  obtain ⟨f, fd, ps, F1, hm, hkp, hb⟩ := F.ex
  refine s_of (ps_if (pt_not (pt_val (pe_call F1 hr hg hm hkp hb .nil pass0 pa_w hdb he hpl) hv)) pss_w pss_w) (ha σ H P hh g _ fun vs H1 P1 e1 h1 r1 => ?_)
  subst hM
  refine ⟨P1, is, Mc, h1.enter, ?_, hA, fun i M' v H' P' hB h' r' => ?_⟩
  · rw [List.append_nil]; exact r1
  · obtain ⟨rfl, hs⟩ := hk i M' hB
    refine ⟨true, ri_bl r', ?_⟩
    have h2 := h1.leave h'
    exact iteF (sj_nil (Z := { Z with nx := fun ρ' M' => SJ X N ρ' M' rest Z }) hs σ H' P' h2 (g.ex (e1.trans h'.ex0)) D E tk (z.ex (e1.trans h'.ex0)))
end
end Kt

/-! Kua: comprehensions over two ranges; xs[i] op= e; max of a list of one's own; str of an int; x, y = e with other shapes. -/
namespace Kt
open PySem PySem.Spec PyProof PyProof.Rows L2
def wBA (X : Cx) (scope : Scope) (es : List Expr) : TA := fun σ H Q => ∀ s H0 C cl fp, wA (X.blk s H0 scope (compEnvC scope cl C X.env) fp) es σ H Q
def rrD (f : Nat → Nat → PyData) (m n : Nat) : List PyData := (List.range m).flatMap fun i => (List.range n).map (f i)
theorem rrD_succ (f : Nat → Nat → PyData) (m n : Nat) : rrD f (m + 1) n = rrD f m n ++ (List.range n).map (f m) := by
  unfold rrD
  rw [List.range_succ, List.flatMap_append]
  simp
theorem rrD_len (f : Nat → Nat → PyData) (n : Nat) : ∀ m, (rrD f m n).length = m * n
  | 0 => by simp [rrD]
  | m + 1 => by
    rw [rrD_succ, List.length_append, rrD_len f n m, List.length_map, List.length_range, Nat.succ_mul]
section
variable {X : Cx} {N : Ent} {ρ ρ' : Rho} {M M1 M2 M3 M' Mc Mr Mc' : Mem} {a b c e elt iter iter1 : Expr} {pos p pos' : Pos} {i j k : It} {t u : Bool} {scope : Scope} {Z : Post} {rest : List Stmt}
/-- [elt for x in range(a) for y in range(b)] -/
theorem el_comp2R {x y : Str} {px py p1 p2 p3 p4 : Pos} (n1 n2 : Nat) {z1 z2 : Int} (f : Nat → Nat → PyData) (hc : X.calm = true) (hmr : X.mg "range" = none) (hN : X.N.Nodup) (ne : n1 ≠ n2) (hi : EJ X N ρ M a (dI z1) M1)
    (h1 : -(2 ^ 62) ≤ z1 ∧ z1 < 2 ^ 62) (h2 : -(2 ^ 62) ≤ z2 ∧ z2 < 2 ^ 62) (hz : z1.toNat * z2.toNat ≤ 100000)
    (src : ∀ i < z1.toNat, ∀ N' s H C cl fp, EJ (X.blk s H scope (compEnvC scope cl C X.env) fp) N' ((ρ.set n2 none).set n1 (some (dI (i : Int)))) M1 b (dI z2) M1)
    (step : ∀ i < z1.toNat, ∀ j < z2.toNat, ∀ N' s H C cl fp, EJ (X.blk s H scope (compEnvC scope cl C X.env) fp) N' (((ρ.set n2 none).set n1 (some (dI (i : Int)))).set n2 (some (dI (j : Int)))) M1 elt (.d (f i j)) M1)
    (ok : BlkOk X.N X.env.scope scope [(x, n1), (y, n2)] := by exact blkOk_by (by kernel_rfl))
    (hg1 : ∀ (s : Shared) (H : Hp) (C : Addr) (cl : List (Str × Addr)) (fp : List Addr), PG (X.blk s H scope (compEnvC scope cl C X.env) fp) (.Name x px) (gName n1) := by exact fun _ _ _ _ _ => pg_name (by assumption) rfl (Or.inl rfl))
    (hg2 : ∀ (s : Shared) (H : Hp) (C : Addr) (cl : List (Str × Addr)) (fp : List Addr), PG (X.blk s H scope (compEnvC scope cl C X.env) fp) (.Name y py) (gName n2) := by exact fun _ _ _ _ _ => pg_name (by assumption) rfl (Or.inl rfl))
    (hgr : Gl X "range" := by rfl) (hgr1 : ∀ (s : Shared) (H : Hp) (C : Addr) (cl : List (Str × Addr)) (fp : List Addr), Gl (X.blk s H scope (compEnvC scope cl C X.env) fp) "range" := by exact fun _ _ _ _ _ => rfl)
    (hs : starEach [a] X.env = [(false, eval a X.env)] := by rfl) (hs1 : ∀ (cl : List (Str × Addr)) (C : Addr), starEach [b] (compEnvC scope cl C X.env) = [(false, eval b (compEnvC scope cl C X.env))] := by exact fun _ _ => rfl)
    (hf : ∀ x, foldedSetIterable (.Call (.Name "range" p1) [a] [] p2) X.env x = pure x := by intro _; rfl) (hf1 : ∀ env x, foldedSetIterable (.Call (.Name "range" p3) [b] [] p4) env x = pure x := by intro _ _; rfl) :
    EL X N ρ M (.ListComp elt [⟨.Name x px, .Call (.Name "range" p1) [a] [] p2, [], 0⟩, ⟨.Name y py, .Call (.Name "range" p3) [b] [] p4, [], 0⟩] scope pos) ((rrD f z1.toNat z2.toNat).map It.d) M1 := fun σ H P hh g Q q => by
  have pi1 : ∀ (s : Shared) (H : Hp) (C : Addr) (cl : List (Str × Addr)) (fp : List Addr), PI (X.blk s H scope (compEnvC scope cl C X.env) fp) (.Name y py) (.Call (.Name "range" p3) [b] [] p4) (iRng1 (wBA X scope [b])) := fun s H C cl fp =>
    pi_range1 (X := X.blk s H scope (compEnvC scope cl C X.env) fp) (hgr1 s H C cl fp) hmr ⟨fun pos pins s1 σ1 H1 Q1 I1 h1 => h1 s H C cl fp pos pins s1 I1⟩ (hs1 cl C)
  refine e_of (pe_lc2 (vs1 := [n2]) (te := wBE X scope elt) hc hN (pi_range1 hgr hmr pa_w hs) ok (by simp) hg1 (fun _ _ _ _ _ => pts_nil) pi1 hg2 (fun _ _ _ _ _ => pts_nil) (fun s H C cl fp => ⟨fun pins s1 σ1 H1 Q1 I1 h1 => h1 s H C cl fp pins s1 I1⟩) hf hf1) (aj_cons hi aj_nil hs σ H P hh g _ fun vs H1 P1 e1 h1' r1 => ?_)
  obtain ⟨v, rfl, r2⟩ := ri1 r1
  cases ri_int r2
  refine ⟨z1, rfl, h1.1, h1.2, fun D hD => ?_⟩
  refine ⟨fun i m H => m = z1.toNat - i ∧ i ≤ z1.toNat ∧ ∃ P', Holds N P' H (M1 ++ [(D, (rrD f i z2.toNat).map It.d)]) ∧ Ex P1 P', ⟨z1.toNat, by simp, Nat.zero_le _, P1, h1'.own hD (its := []) trivial, Ex.refl _⟩, ?_⟩
  rintro i m H2 ⟨rfl, hil, P2, h2', e2⟩
  by_cases hlt : i < z1.toNat
  · refine .inr ⟨hlt, fun H' => ∃ P', Holds N P' H' (M1 ++ [(D, (rrD f (i + 1) z2.toNat).map It.d)]) ∧ Ex P1 P', fun H' p' => ⟨z1.toNat - (i + 1), by omega, rfl, hlt, p'⟩, fun x' H' yl => ?_⟩
    obtain ⟨rfl, rfl⟩ := yl
    refine ⟨wipe_first ne, ?_⟩
    unfold tYes
    dsimp only
    rw [if_pos rfl]
    have g2 : Slots P2 ((wipe σ [n1, n2]).set n1 (some (.int ((0 : Int) + (i : Nat))))) ((ρ.set n2 none).set n1 (some (dI (i : Int)))) := by
      have e : (wipe σ [n1, n2]).set n1 (some (V.int ((0 : Int) + (i : Nat)))) = (σ.set n2 none).set n1 (some (V.int ((0 : Int) + (i : Nat)))) := by
        show ((σ.set n2 none).set n1 none).set n1 (some _) = _
        rw [List.set_set]
      rw [e, Int.zero_add]
      exact ((g.ex (e1.trans e2)).unset n2 none).set (it := dI (i : Int)) (.int _) n1
    have ajb : ∀ s H0 C cl fp, AJ (X.blk s H0 scope (compEnvC scope cl C X.env) fp) (inner P2 H' M1) ((ρ.set n2 none).set n1 (some (dI (i : Int)))) M1 [b] [dI z2] M1 := fun s H0 C cl fp => aj_cons (src i hlt (inner P2 H' M1) s H0 C cl fp) aj_nil (hs1 cl C)
    intro s H0 C cl fp
    refine ajb s H0 C cl fp _ H' P2 h2'.enter g2 _ fun ws H4 P4 e4 h4 r4 => ?_
    have h5 := h2'.leave h4
    obtain ⟨w, rfl, r5⟩ := ri1 r4
    cases ri_int r5
    refine ⟨z2, rfl, h2.1, h2.2, ?_⟩
    refine ⟨fun j k H => k = z2.toNat - j ∧ j ≤ z2.toNat ∧ ∃ P', Holds N P' H (M1 ++ [(D, (rrD f i z2.toNat ++ (List.range j).map (f i)).map It.d)]) ∧ Ex P4 P', ⟨z2.toNat, by simp, Nat.zero_le _, P4, by simpa using h5, Ex.refl _⟩, ?_⟩
    rintro j k H6 ⟨rfl, hjl, P6, h6, e6⟩
    by_cases hjt : j < z2.toNat
    · refine .inr ⟨hjt, fun H' => ∃ P', Holds N P' H' (M1 ++ [(D, (rrD f i z2.toNat ++ (List.range (j + 1)).map (f i)).map It.d)]) ∧ Ex P4 P', fun H' p' => ⟨z2.toNat - (j + 1), by omega, rfl, hjt, p'⟩, fun x7 H7 yl7 => ?_⟩
      obtain ⟨rfl, rfl⟩ := yl7
      refine ⟨wipe_comp n2, ?_⟩
      dsimp only
      rw [if_pos rfl]
      intro s H0 C cl fp
      have g7 : Slots P6 _ (((ρ.set n2 none).set n1 (some (dI (i : Int)))).set n2 (some (dI (j : Int)))) := slots_comp (v := .int ((0 : Int) + (j : Nat))) (g2.ex (e4.trans e6)) n2 (i := dI (j : Int)) (by rw [Int.zero_add]; exact .int _)
      refine step i hlt j hjt (inner P6 H7 M1) s H0 C cl fp _ H7 P6 h6.enter g7 _ fun y8 H8 P8 e8 h8 r8 => ?_
      have h9 := h6.leave h8
      obtain ⟨acc, ea, ra⟩ := h9.cell (a := D) (its := (rrD f i z2.toNat ++ (List.range j).map (f i)).map It.d) (List.mem_append_right _ (List.mem_singleton.mpr rfl))
      refine ⟨acc, ea, ?_, P8, ?_, e6.trans e8⟩
      · rw [ra.len]
        refine Nat.lt_of_lt_of_le (m := 100000) ?_ (by decide)
        rw [List.length_map, List.length_append, rrD_len, List.length_map, List.length_range]
        have : (i + 1) * z2.toNat ≤ z1.toNat * z2.toNat := Nat.mul_le_mul_right _ hlt
        rw [Nat.succ_mul] at this
        omega
      · have h10 := h9.write (a := D) (its := (rrD f i z2.toNat ++ (List.range j).map (f i)).map It.d) (its' := (rrD f i z2.toNat ++ (List.range (j + 1)).map (f i)).map It.d) (List.mem_append_right _ (List.mem_singleton.mpr rfl)) (xs' := acc ++ [y8]) (by
          have e11 : (rrD f i z2.toNat ++ (List.range (j + 1)).map (f i)).map It.d = (rrD f i z2.toNat ++ (List.range j).map (f i)).map It.d ++ [It.d (f i j)] := by
            rw [List.range_succ, List.map_append, List.map_append, List.map_append, List.map_append, List.append_assoc]
            rfl
          rw [e11]
          exact ra.app ⟨r8, trivial⟩)
        rw [put_last h9.nd] at h10
        exact h10
    · have ej : j = z2.toNat := by omega
      subst ej
      refine .inl ⟨Nat.le_refl _, P6, ?_, (e2.trans e4).trans e6⟩
      rw [rrD_succ]
      exact h6
  · have ei : i = z1.toNat := by omega
    subst ei
    exact .inl ⟨Nat.le_refl _, q D H2 P2 (e1.trans e2) (h1'.newF hD) h2'⟩
/-! xs[i] op= e -/
def rGetN : V → V → Hp → VK → Prop := fun o i H Q => ∃ p xs k v, o = .ref p ∧ i = .int k ∧ H p = some (.lst xs) ∧ 0 ≤ k ∧ xs[k.toNat]? = some v ∧ Q v H
theorem get_listN : PGet X rGetN := by
  intro pins s σ H o i ov iv Q I ro ri h
  obtain ⟨p, xs, k, v, rfl, rfl, hp, h0, hv, q⟩ := h
  cases ro
  obtain ⟨t, rfl⟩ := ri
  obtain ⟨its, r, pl, hz⟩ := I.list (show SqL X.K H p xs from .inl (.inl hp))
  obtain ⟨w, ew, rw'⟩ := r.get hv
  have hl := r.length
  have hn := line63
  have kl : k.toNat < xs.length := (List.getElem?_eq_some_iff.mp hv).1
  exact wpAny_getItem_list pl.isList h0 (by omega) (by simpa using ew) ⟨v, H, I, rw', q⟩
theorem sj_augO {o x : Expr} {tpos : Pos} {op : Operator} {g : Int → Int → Int} {p : Addr} {is : List It} {n : Nat} {z1 z2 : Int} (hp : PIp X op (ipI g)) (ho : EJ X N ρ M o (.v (.ref p)) M) (hx : EJ X N ρ M x (dI (n : Int)) M) (he : EJ X N ρ M e (dI z2) M) (hm : (p, is) ∈ M) (hn : is[n]? = some (dI z1)) (hr : SJ X N ρ (M.put p (is.set n (dI (g z1 z2)))) rest Z)
    (ha : ∀ ov iv new, augStore x ov iv new = (do holding [new, ov, iv] (setItem ov iv new); release [new, ov, iv] []; pure .next) := by intros; rfl) : SJ X N ρ M (.AugAssign (.Subscript o x tpos) op e pos :: rest) Z := sj_cons fun σ H P hh g0 D E tk z => by
  refine s_of (ps_augS pe_w pe_w get_listN pe_w hp set_list ha) (ho σ H P hh g0 _ fun ov H1 P1 e1 h1 r1 => hx σ H1 P1 h1 (g0.ex e1) _ fun iv H2 P2 e2 h2 r2 => ?_)
  cases r1
  cases ri_int r2
  obtain ⟨xs, e4, r4⟩ := h2.cell hm
  obtain ⟨v, ev, rv⟩ := r4.get hn
  cases ri_int rv
  refine ⟨p, xs, (n : Int), .int z1, rfl, rfl, e4, by omega, ev, he σ H2 P2 h2 (g0.ex (e1.trans e2)) _ fun w H3 P3 e3 h3 r3 => ?_⟩
  cases ri_int r3
  obtain ⟨xs3, e5, r5⟩ := h3.cell hm
  have z4 := r5.len
  have nl : n < is.length := (List.getElem?_eq_some_iff.mp hn).1
  refine ⟨z1, z2, rfl, rfl, p, xs3, (n : Int), n, rfl, rfl, e5, ?_, ?_⟩
  · unfold ixN
    rw [if_pos (by omega), if_pos (by omega)]
    simp
  · exact z.nx ρ _ σ _ P3 hr ((e1.trans e2).trans e3) (h3.write hm (r5.set (show RepI P3 (.int (g z1 z2)) (dI (g z1 z2)) from Dn.int _) n)) (g0.ex ((e1.trans e2).trans e3))
/-- max of a list of one's own -/
theorem ej_maxO {p q : Pos} {o : Addr} {ns : List Int} {m : Int} (hc : X.calm = true) (hm : X.mg "max" = none) (ha : EJ X N ρ M a (.v (.ref o)) M1) (hM : (o, ns.map dI) ∈ M1) (h1 : m ∈ ns) (h2 : ∀ y ∈ ns, y ≤ m) (hg : Gl X "max" := by rfl) (he : starEach [a] X.env = [(false, eval a X.env)] := by rfl) (hpl : (backTo q (starEach ([] : List Expr) X.env)).any (·.1) = false := by rfl) :
    EJ X N ρ M (.Call (.Name "max" p) [a] [] q) (dI m) M1 := ej_callB (cr_max hc) hm (by decide +kernel) (aj_cons ha aj_nil he) (fun vs H P h rr Q q => by
  obtain ⟨x, rfl, r⟩ := ri1 rr
  cases r
  obtain ⟨ys, h3, h4⟩ := h.cell hM
  have h5 : DnAll P ys (ns.map PyData.int) := RepIs.to_all (by rw [List.map_map]; exact h4)
  cases h5.ints
  refine ⟨o, ns, rfl, .inl (.inl h3), List.length_pos_of_mem h1, fun m' hm' hy => ?_⟩
  have e : m' = m := by have := hy m h1; have := h2 m' hm'; omega
  exact q _ H P (Ex.refl P) h (e ▸ .int _)) hg (by decide) (by decide) he hpl
/-- str of an int -/
theorem ej_strI {p q : Pos} {n : Int} (hm : X.mg "str" = none) (ha : EJ X N ρ M a (dI n) M1) (hz : n.natAbs.log2 < 1920) (hg : Gl X "str" := by rfl) (he : starEach [a] X.env = [(false, eval a X.env)] := by rfl) (hpl : (backTo q (starEach ([] : List Expr) X.env)).any (·.1) = false := by rfl) :
    EJ X N ρ M (.Call (.Name "str" p) [a] [] q) (.d (.str (toString n))) M1 := ej_callTy call_str_int hm (by decide +kernel) (aj_cons ha aj_nil he) (fun vs H P h rr Q k => by
  obtain ⟨x, rfl, r⟩ := ri1 rr
  cases ri_int r
  exact ⟨n, rfl, hz, k _ H P (Ex.refl P) h (.str _)⟩) hg (by decide) (by decide) he hpl
end
end Kt

/-! Kub: min with default=None, list.index, xs[::-1], sum of a list of one's own, x = [a new list]. -/
namespace Kt
open PySem PySem.Spec PyProof PyProof.Rows L2
def oD : Option Nat → PyData
  | none => .none
  | some v => .int (v : Int)
def oV : Option Nat → V
  | none => .non
  | some v => .int (v : Int)
theorem dn_opt {H : Hp} : ∀ {vs : List V} {l : List (Option Nat)}, DnAll H vs (l.map oD) → vs = l.map oV
  | [], [], _ => rfl
  | [], _ :: _, h => by cases h
  | _ :: _, [], h => by cases h
  | v :: vs, o :: l, h => by
    cases h with
    | cons a b =>
      have e := dn_opt b
      subst e
      cases o with
      | none => cases a; rfl
      | some x => cases a; rfl
theorem foldmin_ok : ∀ (r : List Int) (n : Int), r.foldl min n ∈ n :: r ∧ ∀ y ∈ n :: r, r.foldl min n ≤ y
  | [], n => ⟨List.mem_cons_self, fun y hy => by rw [List.mem_singleton.mp hy]; exact Int.le_refl _⟩
  | k :: r, n => by
    obtain ⟨a, b⟩ := foldmin_ok r (min n k)
    show r.foldl min (min n k) ∈ _ ∧ ∀ y ∈ _, r.foldl min (min n k) ≤ y
    refine ⟨?_, fun y hy => ?_⟩
    · rcases List.mem_cons.mp a with e | e
      · rw [e]
        rcases Int.le_total n k with c | c
        · rw [Int.min_eq_left c]
          exact List.mem_cons_self
        · rw [Int.min_eq_right c]
          exact List.mem_cons_of_mem _ List.mem_cons_self
      · exact List.mem_cons_of_mem _ (List.mem_cons_of_mem _ e)
    · have m0 := b (min n k) List.mem_cons_self
      rcases List.mem_cons.mp hy with rfl | hy
      · omega
      · rcases List.mem_cons.mp hy with rfl | hy
        · omega
        · exact b y (List.mem_cons_of_mem _ hy)
theorem depth_ints : ∀ ns : List Int, PyData.depthAll (ns.map PyData.int) ≤ 0
  | [] => Nat.le_refl _
  | n :: ns => by
    show max (PyData.depth (.int n)) (PyData.depthAll (ns.map PyData.int)) ≤ 0
    have := depth_ints ns
    have e : PyData.depth (.int n) = 0 := rfl
    omega
theorem alike_ints (ns : List Int) : PySem.W.AlikeAll (ns.map PyData.int) := by
  refine ⟨fun x hx y hy => ?_, fun x hx => ?_⟩
  · obtain ⟨a, _, rfl⟩ := List.mem_map.mp hx
    obtain ⟨b, _, rfl⟩ := List.mem_map.mp hy
    simp only [PySem.W.alike]
  · obtain ⟨a, _, rfl⟩ := List.mem_map.mp hx
    exact fun h => by cases h
def rMinDf (K : PySem.W.Frag) : List V → List V → Hp → VK → Prop := fun xs zs H Q => ∃ (a : Addr) (ns : List Int), xs = [.ref a] ∧ zs = [.non] ∧ SqL K H a (ns.map V.int) ∧ (ns = [] → Q .non H) ∧ ∀ m, m ∈ ns → (∀ y, y ∈ ns → m ≤ y) → Q (.int m) H
theorem cr_minDf {X : Cx} (hc : X.calm = true) (hu : X.A.units + 64 < cLine) : CallRK X (.builtin "min") ["default"] (rMinDf X.K) := by
  intro pins s σ H xs zs us ws Q I rx rz h
  obtain ⟨a, ns, rfl, rfl, hs, q0, q⟩ := h
  obtain ⟨its, rv, hl, _⟩ := I.list hs
  rw [Vals.ref1 rx]
  have ew : ws = [.none] := by
    cases rz with
    | cons r t => cases t; cases r; rfl
  subst ew
  have hI : IntsAre its ns := rv.ints
  have hr : ReadsAll s.heap its.toArray.toList (ns.map .int) [] := by simpa using hI.reads s.heap
  have hd := depth_ints ns
  refine PySem.W.min_list_default (d := .none) (I.ok.hd hc) hl.isList hr (alike_ints ns) (by omega) (fun e h' tk hk => ?_) (fun y ys i v h' tk bs e hv rd hk => ?_)
  · have : ns = [] := by simpa using e
    exact ⟨.non, H, I.kept hk, rfl, q0 this⟩
  · cases ns with
    | nil => cases e
    | cons n r =>
      injection e with e1 e2
      subst e1 e2
      rw [PySem.W.minD_ints] at rd
      obtain ⟨m1, m2⟩ := foldmin_ok r n
      cases rd
      exact ⟨.int _, H, I.kept hk, ⟨_, rfl⟩, q _ m1 m2⟩
section
variable {X : Cx} {N : Ent} {ρ ρ' : Rho} {M M1 M2 M3 : Mem} {a b c e : Expr} {pos p : Pos} {i j k : It} {Z : Post} {rest : List Stmt}
theorem ej_minDf {q kp kp2 : Pos} {kk : Nat} {ns : List Int} {d : PyData} (hc : X.calm = true) (hu : X.A.units + 64 < cLine) (hm : X.mg "min" = none) (ha : EJ X N ρ M a (.d (.list (ns.map .int))) M1) (h0 : ns = [] → d = .none) (h1 : ∀ m, m ∈ ns → (∀ y ∈ ns, m ≤ y) → d = .int m)
    (hg : Gl X "min" := by rfl) (hst : starEach [a] X.env = [(false, eval a X.env)] := by rfl) (he : backTo q (starEach [a] X.env) = (false, eval a X.env) :: backTo q (starEach [] X.env) := by rfl) (hpl : (backTo q (starEach [a] X.env)).any (·.1) = false := by rfl)
    (hall : (backToKw q (keywordEach [⟨some "default", .Constant .none kk kp, kp2⟩] X.env)).all (·.1.isSome) = true := by rfl) (hnone : (backToKw q (keywordEach [⟨some "default", .Constant .none kk kp, kp2⟩] X.env)).any (·.1.isNone) = false := by rfl) (hks : (backToKw q (keywordEach [⟨some "default", .Constant .none kk kp, kp2⟩] X.env)).filterMap (·.1) = ([("default" : Str)] : List Str) := by rfl) :
    EJ X N ρ M (.Call (.Name "min" p) [a] [⟨some "default", .Constant .none kk kp, kp2⟩] q) (.d d) M1 := fun σ H P hh g Q k =>
  e_of (pe_callBK (cr_minDf hc hu) hg hm (by decide +kernel) pa_w (pk_cons pe_w pk_nil) (by decide) (by decide) he hpl hall hnone hks) (aj_cons ha aj_nil hst σ H P hh g _ fun vs H1 P1 e1 h1' r1 => by
    obtain ⟨x, rfl, r⟩ := ri1 r1
    obtain ⟨y, ys, rfl, x1, x2⟩ := ri_lst r
    cases x2.ints
    refine ej_non (X := X) (N := N) (ρ := ρ) (M := M1) σ H1 P1 h1' (g.ex e1) _ fun v H2 P2 e2 h2 r2 => ?_
    cases ri_non r2
    refine ⟨y, ns, rfl, rfl, .inl (.inl (h2.ex _ _ (e2 _ _ x1))), fun e0 => ?_, fun m hm hy => ?_⟩
    · refine k _ H2 P2 (e1.trans e2) h2 ?_
      rw [h0 e0]
      exact .non
    · refine k _ H2 P2 (e1.trans e2) h2 ?_
      rw [h1 m hm hy]
      exact .int _)
theorem ej_minL {p q : Pos} {ns : List Int} {m : Int} (hc : X.calm = true) (hm : X.mg "min" = none) (ha : EJ X N ρ M a (.d (.list (ns.map PyData.int))) M1) (h1 : m ∈ ns) (h2 : ∀ y ∈ ns, m ≤ y) (hg : Gl X "min" := by rfl) (he : starEach [a] X.env = [(false, eval a X.env)] := by rfl) (hpl : (backTo q (starEach ([] : List Expr) X.env)).any (·.1) = false := by rfl) :
    EJ X N ρ M (.Call (.Name "min" p) [a] [] q) (dI m) M1 := ej_callB (cr_min hc) hm (by decide +kernel) (aj_cons ha aj_nil he) (fun vs H P h rr Q q => by
  obtain ⟨x, rfl, r⟩ := ri1 rr
  obtain ⟨y, ys, rfl, h3, h4⟩ := ri_lst r
  cases h4.ints
  refine ⟨y, ns, rfl, .inl (.inl (h.ex _ _ h3)), List.length_pos_of_mem h1, fun m' hm' hy => ?_⟩
  have e : m' = m := by have := hy m h1; have := h2 m' hm'; omega
  exact q _ H P (Ex.refl P) h (e ▸ .int _)) hg (by decide) (by decide) he hpl
/-- sum of a list of one's own -/
theorem ej_sumO {p q : Pos} {o : Addr} {ns : List Int} (hc : X.calm = true) (hm : X.mg "sum" = none) (ha : EJ X N ρ M a (.v (.ref o)) M1) (hM : (o, ns.map dI) ∈ M1) (hg : Gl X "sum" := by rfl) (he : starEach [a] X.env = [(false, eval a X.env)] := by rfl) (hpl : (backTo q (starEach ([] : List Expr) X.env)).any (·.1) = false := by rfl) :
    EJ X N ρ M (.Call (.Name "sum" p) [a] [] q) (dI ns.sum) M1 := ej_callB (cr_sum hc) hm (by decide +kernel) (aj_cons ha aj_nil he) (fun vs H P h rr Q q => by
  obtain ⟨x, rfl, r⟩ := ri1 rr
  cases r
  obtain ⟨ys, h3, h4⟩ := h.cell hM
  have h5 : DnAll P ys (ns.map PyData.int) := RepIs.to_all (by rw [List.map_map]; exact h4)
  cases h5.ints
  exact ⟨o, ns, rfl, .inl (.inl h3), q _ H P (Ex.refl P) h (.int _)⟩) hg (by decide) (by decide) he hpl
theorem DnAll.rev {P : Hp} : ∀ {xs : List V} {ds : List PyData}, DnAll P xs ds → DnAll P xs.reverse ds.reverse
  | _, _, .nil => .nil
  | _, _, .cons a b => by
    rw [List.reverse_cons, List.reverse_cons]
    exact (DnAll.rev b).app (.cons a .nil)
/-- xs[::-1] -/
theorem el_rev {ds : List PyData} {kk : Nat} {p1 p2 p3 : Pos} (ha : EJ X N ρ M a (.d (.list ds)) M1) : EL X N ρ M (.Subscript a (.Slice none none (some (.UnaryOp .USub (.Constant (.int 1) kk p1) p2)) p3) pos) (ds.reverse.map It.d) M1 := fun σ H P hh g Q q =>
  e_of (pe_revL pe_w) (ha σ H P hh g _ fun x H1 P1 e1 h1 r1 => by
    obtain ⟨a, xs, rfl, h3, h4⟩ := ri_lst r1
    exact ⟨a, xs, rfl, .inl (.inl (h1.ex _ _ h3)), fun p hp => q p _ P1 e1 (h1.newF hp) (h1.own hp (RepIs.of_all h4.rev))⟩)
/-- xs.index(v), of whole numbers and None -/
theorem ej_index {ap epos : Pos} {l : List (Option Nat)} {v j : Nat} (ho : EJ X N ρ M a (.d (.list (l.map oD))) M1) (he : EJ X N ρ M1 e (dI (v : Int)) M2) (hj : l[j]? = some (some v)) (hf : ∀ m < j, l[m]? ≠ some (some v))
    (hst : starEach [e] X.env = [(false, eval e X.env)] := by rfl) (ps : PE X (.Call (.Attribute a "index" ap) [e] [] epos) (tBM X.K "list" (rIndex X.K) (wE X a) (wA X [e])) := by exact pe_bm PySem.F.plainAttrs_list PySem.F.slot_list_index PySem.F.type_list_index mt_index pe_w pa_w) :
    EJ X N ρ M (.Call (.Attribute a "index" ap) [e] [] epos) (dI (j : Int)) M2 := fun σ H P hh g Q q =>
  e_of ps (ho σ H P hh g _ fun x H1 P1 e1 h1 r1 => by
    obtain ⟨y, ys, rfl, h3, h4⟩ := ri_lst r1
    have e0 := dn_opt h4
    subst e0
    refine ⟨.inl ⟨rfl, _, .inl (.inl (h1.ex _ _ h3))⟩, ?_⟩
    refine aj_cons he aj_nil hst σ H1 P1 h1 (g.ex e1) _ fun vs H2 P2 e2 h2 r2 => ?_
    obtain ⟨z, rfl, r3⟩ := ri1 r2
    cases ri_int r3
    refine ⟨y, l.map oV, .int (v : Int), j, .int (v : Int), rfl, rfl, .inl (.inl (h2.ex _ _ (e2 _ _ h3))), rfl, ?_, ?_, ?_, fun m z' hm hz => ?_, q _ H2 P2 (e1.trans e2) h2 (.int _)⟩
    · rw [List.all_eq_true]
      intro w hw
      obtain ⟨o, _, rfl⟩ := List.mem_map.mp hw
      cases o <;> rfl
    · rw [List.getElem?_map, hj]
      rfl
    · show ((v : Int) == (v : Int)) = true
      simp
    · rw [List.getElem?_map] at hz
      cases hl : l[m]? with
      | none => rw [hl] at hz; cases hz
      | some o =>
        rw [hl] at hz
        have hz := Option.some.inj hz
        subst hz
        cases o with
        | none => rfl
        | some u =>
          show ((u : Int) == (v : Int)) = false
          have : u ≠ v := fun e => hf m hm (by rw [hl, e])
          simp
          omega)
/-- x = [a new list] -/
theorem sj_ownLL (n : Nat) {x : Str} {pos' lp : Pos} {is : List It} (hN : X.N.Nodup) (he : EL X N ρ M e is M1) (hr : ∀ q o, q ∉ N.F → o ∉ N.F → SJ X N (ρ.set n (some (.v (.ref o)))) (M1 ++ [(q, is)] ++ [(o, [.v (.ref q)])]) rest Z) (hi : X.N[n]? = some x := by rfl) (hx : Loc X.env.scope x := by first | exact .inl rfl | exact .inr rfl) (hs : swapsWith (.List [e] lp) (some (.Name x pos')) pos.line X.env = pure false := by rfl) (hf : X.fn x = true ∨ X.env.scope.names.lookup x = some .local := by first | exact .inl rfl | exact .inr rfl)
    (hst : starEach [e] X.env = (false, eval e X.env) :: starEach [] X.env := by rfl) :
    SJ X N ρ M (.Assign [.Name x pos'] (.List [e] lp) pos :: rest) Z := sj_cons fun σ H P hh g D E tk z =>
  s_of (ps_set (i := n) hN hi hx (pe_lst (pa_cons pe_w pa_nil hst)) hs hf) (he σ H P hh g _ fun p H1 P1 e1 hp h1 => ⟨(by show 1 ≤ sizeLine; decide), fun q hq => z.nx _ _ _ _ P1 (hr p q hp (h1.newF hq)) e1 (h1.own hq ⟨rfl, trivial⟩) ((g.ex e1).set (it := .v (.ref q)) rfl n)⟩)
theorem Holds.retype {P H : Hp} {its its' : List It} {o : Addr} (h : Holds N P H (M ++ [(o, its)])) (r : ∀ xs, RepIs P xs its → RepIs P xs its') : Holds N P H (M ++ [(o, its')]) := by
  have e : (M ++ [(o, its')]).map Prod.fst = (M ++ [(o, its)]).map Prod.fst := by simp
  refine { exw := h.exw, ex0 := h.ex0, fr := h.fr, nw := h.nw, mem := fun c hc => ?_, nd := by rw [e]; exact h.nd, mf := fun a ha => by rw [e]; exact h.mf a ha, fs := fun c hc => ?_, uf := h.uf, pf := h.pf }
  · rcases List.mem_append.mp hc with hc | hc
    · exact h.mem c (List.mem_append_left _ hc)
    · rw [List.mem_singleton.mp hc]
      obtain ⟨a, xs, b, d⟩ := h.mem (o, its) (List.mem_append_right _ (List.mem_singleton.mpr rfl))
      exact ⟨a, xs, b, r xs d⟩
  · rcases List.mem_append.mp hc with hc | hc
    · exact h.fs c (List.mem_append_left _ hc)
    · rw [List.mem_singleton.mp hc]
      exact h.fs (o, its) (List.mem_append_right _ (List.mem_singleton.mpr rfl))
/-- the only item of a list of one's own becomes data -/
theorem sj_freezeIn {q o : Addr} {ds : List PyData} {sts : List Stmt} (hq : q ∉ N.F) (hr : SJ X N ρ (M ++ [(o, [.d (.list ds)])]) sts Z) : SJ X N ρ (M ++ [(q, ds.map It.d)] ++ [(o, [.v (.ref q)])]) sts Z := fun σ H P hh g D E tk z => by
  obtain ⟨P', e, dn, h'⟩ := hh.freeze (a := q) (ds := ds) (by simp) hq
  have nd := hh.nd
  have ef : ((M ++ [(q, ds.map It.d)] ++ [(o, [It.v (.ref q)])]).filter fun c => decide (c.1 ≠ q)) = M ++ [(o, [.v (.ref q)])] := by
    simp only [List.map_append, List.map_cons, List.map_nil, List.append_assoc, List.nodup_append] at nd
    have n1 : ∀ c ∈ M, c.1 ≠ q := fun c hc => nd.2.2 c.1 (List.mem_map_of_mem hc) q (by simp)
    have n2 : q ≠ o := nd.2.1.2.2 q (by simp) o (by simp)
    rw [List.filter_append, List.filter_append]
    have f1 : M.filter (fun c => decide (c.1 ≠ q)) = M := by
      rw [List.filter_eq_self]
      intro c hc
      simpa using n1 c hc
    rw [f1]
    simp [n2.symm]
  rw [ef] at h'
  have h2 := h'.retype (its' := [.d (.list ds)]) fun xs hx => by
    match xs, hx with
    | [x], ⟨hx, _⟩ =>
      cases hx
      exact ⟨dn, trivial⟩
  exact hr σ H P' h2 (g.ex e) D E tk (z.ex e)
end
end Kt

namespace K41
open PySem PySem.Spec PyProof.Rows L2 Kt
def topS (i : Nat) : Stmt := PySem.Challenge.pw_heardtrue_k41_fewest_unseen.main.body.getD i (.Pass ⟨0, 0, 0, 0⟩)
abbrev s_pushed : Stmt := topS 1
abbrev n_pushed : List Str := ["check", "rest", "bit", "_", "width", "poly", "more"]
theorem sc_pushed : FnScope n_pushed ["check", "rest", "bit"] (defScope s_pushed) := ⟨rfl, rfl, rfl, by decide +kernel, rfl, by decide +kernel, by decide +kernel⟩
abbrev s_rest_of : Stmt := topS 2
abbrev n_rest_of : List Str := ["check", "row", "rest", "bit"]
theorem sc_rest_of : FnScope n_rest_of ["check", "row"] (defScope s_rest_of) := ⟨rfl, rfl, rfl, by decide +kernel, rfl, by decide +kernel, by decide +kernel⟩
abbrev s_fewest_unseen : Stmt := topS 3
abbrev n_fewest_unseen : List Str := ["check", "length", "rests", "fewest", "counts", "least", "top", "ones", "rest", "count", "exponent"]
theorem sc_fewest_unseen : FnScope n_fewest_unseen ["check", "length"] (defScope s_fewest_unseen) := ⟨rfl, rfl, rfl, by decide +kernel, rfl, by decide +kernel, by decide +kernel⟩
abbrev s_power_rests : Stmt := topS 4
abbrev n_power_rests : List Str := ["check", "length", "rests", "rest", "_"]
theorem sc_power_rests : FnScope n_power_rests ["check", "length"] (defScope s_power_rests) := ⟨rfl, rfl, rfl, by decide +kernel, rfl, by decide +kernel, by decide +kernel⟩
abbrev s_fewest_ones : Stmt := topS 5
abbrev n_fewest_ones : List Str := ["check", "rests", "many", "fewest", "power", "last", "rest"]
theorem sc_fewest_ones : FnScope n_fewest_ones ["check", "rests"] (defScope s_fewest_ones) := ⟨rfl, rfl, rfl, by decide +kernel, rfl, by decide +kernel, by decide +kernel⟩
abbrev s_lesser : Stmt := topS 6
abbrev n_lesser : List Str := ["without", "beside"]
theorem sc_lesser : FnScope n_lesser ["without", "beside"] (defScope s_lesser) := ⟨rfl, rfl, rfl, by decide +kernel, rfl, by decide +kernel, by decide +kernel⟩
abbrev s_least_ones : Stmt := topS 7
abbrev n_least_ones : List Str := ["fewest", "rests", "top", "ones", "rest", "left", "exponent"]
theorem sc_least_ones : FnScope n_least_ones ["fewest", "rests", "top"] (defScope s_least_ones) := ⟨rfl, rfl, rfl, by decide +kernel, rfl, by decide +kernel, by decide +kernel⟩
abbrev s_law_state : Stmt := topS 9
abbrev n_law_state : List Str := ["script", "seed", "cell"]
theorem sc_law_state : FnScope n_law_state ["script"] (defScope s_law_state) := ⟨rfl, rfl, rfl, by decide +kernel, rfl, by decide +kernel, by decide +kernel⟩
abbrev s_law_draw : Stmt := topS 10
abbrev n_law_draw : List Str := ["state", "many", "cells", "value", "mixed"]
theorem sc_law_draw : FnScope n_law_draw ["state", "many"] (defScope s_law_draw) := ⟨rfl, rfl, rfl, by decide +kernel, rfl, by decide +kernel, by decide +kernel⟩
abbrev s_law_check : Stmt := topS 11
abbrev n_law_check : List Str := ["state", "most", "width"]
theorem sc_law_check : FnScope n_law_check ["state", "most"] (defScope s_law_check) := ⟨rfl, rfl, rfl, by decide +kernel, rfl, by decide +kernel, by decide +kernel⟩
abbrev s_law_rest : Stmt := topS 12
abbrev n_law_rest : List Str := ["check", "row", "left", "name", "width", "poly", "k", "i"]
theorem sc_law_rest : FnScope n_law_rest ["check", "row"] (defScope s_law_rest) := ⟨rfl, rfl, rfl, by decide +kernel, rfl, by decide +kernel, by decide +kernel⟩
abbrev s_law_all : Stmt := topS 13
abbrev n_law_all : List Str := ["check", "length", "best", "number", "bits", "k"]
theorem sc_law_all : FnScope n_law_all ["check", "length"] (defScope s_law_all) := ⟨rfl, rfl, rfl, by decide +kernel, rfl, by decide +kernel, by decide +kernel⟩
abbrev s_law_rests : Stmt := topS 14
abbrev n_law_rests : List Str := ["check", "length", "name", "width", "poly", "rests", "rest", "k"]
theorem sc_law_rests : FnScope n_law_rests ["check", "length"] (defScope s_law_rests) := ⟨rfl, rfl, rfl, by decide +kernel, rfl, by decide +kernel, by decide +kernel⟩
abbrev s_law_fewest : Stmt := topS 15
abbrev n_law_fewest : List Str := ["check", "length", "rests", "size", "least", "rest", "row", "many", "first", "bits", "k", "bit", "s"]
theorem sc_law_fewest : FnScope n_law_fewest ["check", "length"] (defScope s_law_fewest) := ⟨rfl, rfl, rfl, by decide +kernel, rfl, by decide +kernel, by decide +kernel⟩
abbrev s_law : Stmt := topS 16
abbrev n_law : List Str := ["script", "state", "check", "length", "due", "wide", "longer"]
theorem sc_law : FnScope n_law ["script"] (defScope s_law) := ⟨rfl, rfl, rfl, by decide +kernel, rfl, by decide +kernel, by decide +kernel⟩
structure Txt (K : PySem.W.Frag) (mg : Str → Option Value) : Prop where
  f_pushed : ∃ f fd, Fun K "pushed" "pushed" s_pushed f fd ∧ mg "pushed" = some (.ref f) ∧ Binds K fd ["check", "rest", "bit"] []
  f_rest_of : ∃ f fd, Fun K "rest_of" "rest_of" s_rest_of f fd ∧ mg "rest_of" = some (.ref f) ∧ Binds K fd ["check", "row"] []
  f_fewest_unseen : ∃ f fd, Fun K "fewest_unseen" "fewest_unseen" s_fewest_unseen f fd ∧ mg "fewest_unseen" = some (.ref f) ∧ Binds K fd ["check", "length"] []
  f_power_rests : ∃ f fd, Fun K "power_rests" "power_rests" s_power_rests f fd ∧ mg "power_rests" = some (.ref f) ∧ Binds K fd ["check", "length"] []
  f_fewest_ones : ∃ f fd, Fun K "fewest_ones" "fewest_ones" s_fewest_ones f fd ∧ mg "fewest_ones" = some (.ref f) ∧ Binds K fd ["check", "rests"] []
  f_lesser : ∃ f fd, Fun K "lesser" "lesser" s_lesser f fd ∧ mg "lesser" = some (.ref f) ∧ Binds K fd ["without", "beside"] []
  f_least_ones : ∃ f fd, Fun K "least_ones" "least_ones" s_least_ones f fd ∧ mg "least_ones" = some (.ref f) ∧ Binds K fd ["fewest", "rests", "top"] []
  f_law_state : ∃ f fd, Fun K "_law_state" "_law_state" s_law_state f fd ∧ mg "_law_state" = some (.ref f) ∧ Binds K fd ["script"] []
  f_law_draw : ∃ f fd, Fun K "_law_draw" "_law_draw" s_law_draw f fd ∧ mg "_law_draw" = some (.ref f) ∧ Binds K fd ["state", "many"] []
  f_law_check : ∃ f fd, Fun K "_law_check" "_law_check" s_law_check f fd ∧ mg "_law_check" = some (.ref f) ∧ Binds K fd ["state", "most"] []
  f_law_rest : ∃ f fd, Fun K "_law_rest" "_law_rest" s_law_rest f fd ∧ mg "_law_rest" = some (.ref f) ∧ Binds K fd ["check", "row"] []
  f_law_all : ∃ f fd, Fun K "_law_all" "_law_all" s_law_all f fd ∧ mg "_law_all" = some (.ref f) ∧ Binds K fd ["check", "length"] []
  f_law_rests : ∃ f fd, Fun K "_law_rests" "_law_rests" s_law_rests f fd ∧ mg "_law_rests" = some (.ref f) ∧ Binds K fd ["check", "length"] []
  f_law_fewest : ∃ f fd, Fun K "_law_fewest" "_law_fewest" s_law_fewest f fd ∧ mg "_law_fewest" = some (.ref f) ∧ Binds K fd ["check", "length"] []
  f_law : ∃ f fd, Fun K "law" "law" s_law f fd ∧ mg "law" = some (.ref f) ∧ Binds K fd ["script"] []
  b_abs : mg "abs" = none
  b_enumerate : mg "enumerate" = none
  b_int : mg "int" = none
  b_len : mg "len" = none
  b_list : mg "list" = none
  b_max : mg "max" = none
  b_min : mg "min" = none
  b_range : mg "range" = none
  b_reversed : mg "reversed" = none
  b_sum : mg "sum" = none

/-! ### the law's draws -/
def dropZ : List Int → List Int
  | [] => []
  | v :: r => if v = 0 then dropZ r else v :: r
def drw (cs : List Int) (s many : Int) : Int × List Int × Int :=
  match dropZ cs with
  | [] => ((s * 48271 + 12345) % 2147483647 / 64 % many, [], (s * 48271 + 12345) % 2147483647)
  | v :: r => (v % many, (v / many) :: r, s)
theorem dropZ_len : ∀ l : List Int, (dropZ l).length ≤ l.length
  | [] => Nat.le_refl _
  | v :: r => by
    unfold dropZ
    split
    · exact Nat.le_succ_of_le (dropZ_len r)
    · exact Nat.le_refl _
theorem drw_len (cs : List Int) (s many : Int) : (drw cs s many).2.1.length ≤ cs.length := by
  have := dropZ_len cs
  unfold drw
  cases e : dropZ cs with
  | nil => exact Nat.zero_le _
  | cons v r => rw [e] at this; exact this
theorem drw_lo {many : Int} (cs : List Int) (s : Int) (h : 0 < many) : 0 ≤ (drw cs s many).1 := by
  unfold drw
  cases e : dropZ cs with
  | nil => exact Int.emod_nonneg _ (by omega)
  | cons v r => exact Int.emod_nonneg _ (by omega)
theorem drw_hi {many : Int} (cs : List Int) (s : Int) (h : 0 < many) : (drw cs s many).1 < many := by
  unfold drw
  cases e : dropZ cs with
  | nil => exact Int.emod_lt_of_pos _ h
  | cons v r => exact Int.emod_lt_of_pos _ h
def Stt (a c : Addr) (cs : List Int) (s : Int) : Mem := [(a, [.v (.ref c), dI s]), (c, cs.map dI)]
theorem put_c {a c : Addr} {cs ds : List Int} {s : Int} {its : List Kt.It} (ne : a ≠ c) (e : its = ds.map dI) : (Stt a c cs s).put c its = Stt a c ds s := by
  unfold Stt Mem.put
  simp [ne, e]
theorem put_a {a c : Addr} {cs : List Int} {s s' : Int} {its : List Kt.It} (ne : a ≠ c) (e : its = [.v (.ref c), dI s']) : (Stt a c cs s).put a its = Stt a c cs s' := by
  unfold Stt Mem.put
  simp [ne.symm, e]
theorem stt_a {a c : Addr} {cs : List Int} {s : Int} : (a, [Kt.It.v (.ref c), dI s]) ∈ Stt a c cs s := List.mem_cons_self
theorem stt_c {a c : Addr} {cs : List Int} {s : Int} : (c, cs.map dI) ∈ Stt a c cs s := List.mem_cons_of_mem _ List.mem_cons_self
theorem stt_ne {a c : Addr} {cs : List Int} {s : Int} (h : ((Stt a c cs s).map Prod.fst).Nodup) : a ≠ c := by
  have : a ≠ c ∧ True := by simpa [Stt] using h
  exact this.1
theorem at0 {α : Type} {x : α} {xs : List α} : atI (x :: xs) 0 = some x := atI_nat (j := 0) rfl
theorem wide_ok {m : Int} (h1 : 0 < m) (h2 : m < 18446744073709551616) : 0 < m ∧ m.natAbs.log2 < 9000 := by
  refine ⟨h1, ?_⟩
  have h : m.natAbs < 2 ^ 64 := by omega
  have h0 : m.natAbs ≠ 0 := by omega
  exact Nat.lt_trans ((Nat.log2_lt h0).mpr h) (by decide)
def CoDraw : Co := fun is M i M' => ∃ (a c : Addr) (cs : List Int) (s many : Int), is = [.v (.ref a), dI many] ∧ M = Stt a c cs s ∧ 0 < many ∧ many < 18446744073709551616 ∧ cs.length ≤ 63 ∧ i = dI (drw cs s many).1 ∧ M' = Stt a c (drw cs s many).2.1 (drw cs s many).2.2
section
variable {P : Program} {w : World} {K : PySem.W.Frag} {mg : Str → Option Value} {base : Heap}
theorem d_law_draw (T : Txt K mg) : Def P w K mg base "_law_draw" 1 CoDraw := by
  obtain ⟨f, fd, F, hm, hb⟩ := T.f_law_draw
  refine def_ok F sc_law_draw hm hb (fun is M i M' h => ?_) fun X hX N is M i M' hF hC => ?_
  · obtain ⟨a, c, cs, s, many, rfl, rfl, _, _, _, _, rfl⟩ := h
    exact ⟨rfl, rfl⟩
  · obtain ⟨cdv, A, outer, s, H, E, rfl, hr⟩ := hX
    obtain ⟨a, c, cs, s, many, rfl, rfl, h1, h2, h3, rfl, rfl⟩ := hC
    have nd := sc_law_draw.nd
    refine sj_nd fun hne => ?_
    have ne := stt_ne hne
    refine sj_set 2 nd (ej_ixO (ej_name 0) ej_int stt_a rfl) ?_
    refine sj_while cs.length (fun m ρ M => ∃ l : List Int, m = l.length ∧ l.length ≤ 63 ∧ dropZ l = dropZ cs ∧ ρ = [some (.v (.ref a)), some (dI many), some (.v (.ref c)), none, none] ∧ M = Stt a c l s) ⟨cs, rfl, h3, rfl, rfl, rfl⟩ fun m ρ M hI => ?_
    obtain ⟨l, rfl, hl, hz, rfl, rfl⟩ := hI
    cases l with
    | nil =>
      refine ⟨_, _, tj_w (wj_and (u := true) (tj_gt (ej_lenO T.b_len (ej_name 2) stt_c) ej_int) fun h => ?_), fun h => ?_, fun _ => ?_⟩
      · simp at h
      · simp at h
      · have hd2 : dropZ cs = [] := hz.symm
        have e : drw cs s many = ((s * 48271 + 12345) % 2147483647 / 64 % many, [], (s * 48271 + 12345) % 2147483647) := by unfold drw; rw [hd2]
        rw [e]
        refine sj_if (tj_gt (ej_lenO T.b_len (ej_name 2) stt_c) ej_int) (fun h => by simp at h) fun _ => sj_nil ?_
        refine sj_set 4 nd (ej_mod (ej_intc T.b_int (ej_add (ej_mul (n := s) (ej_ixO (ej_name 0) ej_int stt_a rfl) ej_int (.inr (by decide))) ej_int)) ej_int (by decide)) ?_
        refine sj_setO (n := 1) (ej_name 4) (ej_name 0) ej_int stt_a (by simp) ?_
        refine sj_is (sj_ret (ej_mod (ej_intc T.b_int (ej_fdiv (ej_name 4) ej_int (by decide))) (ej_name 1) h1) ⟨rfl, [], ?_⟩) rfl (put_a ne rfl)
        rw [List.append_nil]
    | cons v r =>
      refine ⟨_, _, tj_w (wj_and (tj_gt (ej_lenO T.b_len (ej_name 2) stt_c) ej_int) fun _ => wj_and1 (tj_eqI (n := v) (ej_ixO (ej_name 2) ej_int stt_c at0) ej_int)), fun h => ?_, fun h => ?_⟩
      · have hv : v = 0 := by simpa using h
        refine sj_popAt (n := 0) (ej_name 2) ej_int stt_c (by simp) (by simp; simp at hl; omega) (sj_nil ⟨r.length, by simp, r, rfl, by simp at hl; omega, ?_, rfl, put_c ne (by simp)⟩)
        rw [← hz]
        show dropZ r = if v = 0 then dropZ r else v :: r
        rw [if_pos hv]
      · have hv : v ≠ 0 := by simpa using h
        have hd2 : dropZ cs = v :: r := by
          rw [← hz]
          show (if v = 0 then dropZ r else v :: r) = _
          rw [if_neg hv]
        have e : drw cs s many = (v % many, (v / many) :: r, s) := by unfold drw; rw [hd2]
        rw [e]
        refine sj_if (tj_gt (ej_lenO T.b_len (ej_name 2) stt_c) ej_int) (fun _ => ?_) fun h => by simp at h
        refine sj_set 3 nd (ej_ixO (k := dI v) (ej_name 2) ej_int stt_c at0) ?_
        refine sj_setO (n := 0) (ej_fdivW (n := v) (ej_name 3) (ej_name 1) (wide_ok h1 h2)) (ej_name 2) ej_int stt_c (by simp) ?_
        refine sj_is (sj_ret (ej_mod (n := v) (ej_intc T.b_int (ej_name 3)) (ej_name 1) h1) ⟨rfl, [], ?_⟩) rfl (put_c (ds := (v / many) :: r) ne (by simp))
        rw [List.append_nil]
end

/-! ### the law's first state -/
def seedOf (ns : List Int) : Int := ns.foldl (fun s n => (s * 31 + n) % 1000003) 7
def absI (n : Int) : Int := if n < 0 then -n else n
def PreState (K : PySem.W.Frag) : Pre := fun is M => M = [] ∧ ∃ a ns, is = [scr K a ns] ∧ ns.length ≤ 63
def CoState (K : PySem.W.Frag) : Co := fun is _ i M' => ∃ a ns p c, is = [scr K a ns] ∧ i = .v (.ref p) ∧ M' = Stt p c (ns.map absI) (seedOf ns + 1) ∧ ns.length ≤ 63
section
variable {P : Program} {w : World} {K : PySem.W.Frag} {mg : Str → Option Value} {base : Heap}
theorem d_law_state (T : Txt K mg) : DefN P w K mg base "_law_state" 1 (PreState K) (CoState K) := by
  obtain ⟨f, fd, F, hm, hb⟩ := T.f_law_state
  refine defN_ok F sc_law_state hm hb (fun is M h => ?_) (fun is M i M' h _ a ha => ?_) fun X hX N is M hF hA => ?_
  · obtain ⟨rfl, a, ns, rfl, _⟩ := h
    rfl
  · obtain ⟨rfl, _⟩ := h
    exact absurd ha List.not_mem_nil
  · obtain ⟨cdv, A, outer, s, H, E, rfl, hr⟩ := hX
    obtain ⟨rfl, a, ns, rfl, hl⟩ := hA
    have nd := sc_law_state.nd
    refine sj_set 1 nd ej_int ?_
    refine sj_forS (ds := ns.map PyData.int) rfl (ej_name 0) scr_src (fun k ρ M => ∃ y, ρ = [some (scr K a ns), some (dI (seedOf (ns.take k))), y] ∧ M = []) ⟨none, rfl, rfl⟩ (fun k d ρ M hk hI => ?_) fun ρ M hI => ?_
    · obtain ⟨y, rfl, rfl⟩ := hI
      rw [List.getElem?_map] at hk
      obtain ⟨n, e1, rfl⟩ := Option.map_eq_some_iff.mp hk
      refine ⟨_, gj_name 2 nd, ?_⟩
      refine sj_set 1 nd (ej_mod (ej_intc T.b_int (ej_add (ej_mul (ej_name 1) ej_int (.inr (by decide))) (ej_name 2))) ej_int (by decide)) (sj_nil ⟨some (dI n), ?_, rfl⟩)
      have e2 : ns.take (k + 1) = ns.take k ++ [n] := by
        rw [List.take_add_one, e1]
        rfl
      have e3 : seedOf (ns.take (k + 1)) = (seedOf (ns.take k) * 31 + n) % 1000003 := by
        unfold seedOf
        rw [e2, List.foldl_append]
        rfl
      rw [e3]
      rfl
    · obtain ⟨y, rfl, rfl⟩ := hI
      rw [List.length_map, List.take_length]
      refine sj_retLL (el_compS 2 (ds := ns.map PyData.int) (fun m => (ns.take m).map fun n => dI (absI n)) (fun _ => []) rfl nd (ej_name 0) scr_src rfl rfl (by simp; omega) (fun m d hm => ?_)) (fun p => ej_add (ej_name 1) ej_int) fun p q => ?_
      · rw [List.getElem?_map] at hm
        obtain ⟨n, e1, rfl⟩ := Option.map_eq_some_iff.mp hm
        refine ⟨dI (absI n), ?_, ?_, fun N' s H C cl fp => ej_abs T.b_abs (ej_name 2)⟩
        · rw [List.take_add_one, e1, List.map_append]
          rfl
        · simp
          omega
      · refine ⟨Stt q p (ns.map absI) (seedOf ns + 1), ⟨a, ns, q, p, rfl, rfl, rfl, hl⟩, ?_, ?_⟩
        · intro c hc
          simp [Stt] at hc
          rcases hc with rfl | rfl
          · simp
          · simp [List.map_map, Function.comp_def]
        · intro h
          have : p ≠ q := by simpa using h
          simpa [Stt] using this.symm
end

/-! several draws -/
def drN (many : Int) : Nat → List Int → Int → List Int × List Int × Int
  | 0, cs, s => ([], cs, s)
  | m + 1, cs, s => ((drN many m cs s).1 ++ [(drw (drN many m cs s).2.1 (drN many m cs s).2.2 many).1], (drw (drN many m cs s).2.1 (drN many m cs s).2.2 many).2.1, (drw (drN many m cs s).2.1 (drN many m cs s).2.2 many).2.2)
theorem drN_ok {many : Int} (h : 0 < many) (cs : List Int) (s : Int) : ∀ m, (drN many m cs s).1.length = m ∧ (drN many m cs s).2.1.length ≤ cs.length ∧ ∀ v ∈ (drN many m cs s).1, 0 ≤ v ∧ v < many
  | 0 => ⟨rfl, Nat.le_refl _, fun v hv => absurd hv List.not_mem_nil⟩
  | m + 1 => by
    obtain ⟨a, b, c⟩ := drN_ok h cs s m
    refine ⟨?_, Nat.le_trans (drw_len _ _ _) b, fun v hv => ?_⟩
    · show (_ ++ [_]).length = _
      rw [List.length_append, a]
      rfl
    · rcases List.mem_append.mp hv with hv | hv
      · exact c v hv
      · rw [List.mem_singleton.mp hv]
        exact ⟨drw_lo _ _ h, drw_hi _ _ h⟩
section
variable {X : Cx} {N : Ent} {ρ : Rho} {M : Mem} {e1 e2 : Expr}
theorem ej_draw {p q : Pos} (F : Def X.prog X.w X.K X.mg X.base "_law_draw" 1 CoDraw) (hr : Room 1 X.A) {a c : Addr} {cs cs' : List Int} {s s' many : Int} {Mr : Mem} (h1 : EJ X N ρ (Stt a c cs s ++ Mr) e1 (.v (.ref a)) (Stt a c cs s ++ Mr)) (h2 : EJ X N ρ (Stt a c cs s ++ Mr) e2 (dI many) (Stt a c cs' s' ++ Mr)) (m0 : 0 < many) (m1 : many < 18446744073709551616) (hl : cs'.length ≤ 63)
    (hg : Gl X "_law_draw" := by rfl) (he : starEach [e1, e2] X.env = (false, eval e1 X.env) :: starEach [e2] X.env := by rfl) (he2 : starEach [e2] X.env = [(false, eval e2 X.env)] := by rfl) (hpl : (backTo q (starEach [e2] X.env)).any (·.1) = false := by rfl) :
    EJ X N ρ (Stt a c cs s ++ Mr) (.Call (.Name "_law_draw" p) [e1, e2] [] q) (dI (drw cs' s' many).1) (Stt a c (drw cs' s' many).2.1 (drw cs' s' many).2.2 ++ Mr) :=
  ej_call F hr (aj_cons h1 (aj_cons h2 aj_nil he2) he) (Mc := Stt a c cs' s') rfl ⟨a, c, cs', s', many, rfl, rfl, m0, m1, hl, rfl, rfl⟩ rfl hg (by decide) he hpl
end

/-! ### lists of bits as data -/
def nD (l : List Nat) : List PyData := l.map fun n : Nat => .int (n : Int)
def nI (l : List Nat) : List Kt.It := l.map fun n : Nat => dI (n : Int)
theorem nI_d (l : List Nat) : nI l = (nD l).map It.d := by
  unfold nI nD
  rw [List.map_map]
  rfl
theorem nD_len (l : List Nat) : (nD l).length = l.length := by simp [nD]
theorem nI_len (l : List Nat) : (nI l).length = l.length := by simp [nI]
theorem nI_snoc (r : List Nat) (b : Nat) : nI r.reverse ++ [dI (b : Int)] = nI (b :: r).reverse := by simp [nI]
theorem nD_snoc (r : List Nat) (b : Nat) : nD (r ++ [b]) = nD r ++ [.int (b : Int)] := by simp [nD]
theorem nD_get {l : List Nat} {k : Nat} {d : PyData} (h : (nD l)[k]? = some d) : ∃ b, l[k]? = some b ∧ d = .int (b : Int) := by
  unfold nD at h
  rw [List.getElem?_map] at h
  obtain ⟨b, e, rfl⟩ := Option.map_eq_some_iff.mp h
  exact ⟨b, e, rfl⟩
theorem at_rev {r : List Nat} {i : Nat} (h : i < r.length) : atI (nI r.reverse) ((r.length : Int) - ((i : Int) + 1)) = some (dI (r.getD i 0 : Nat)) := at_of0 (by omega) (by
  rw [show ((r.length : Int) - ((i : Int) + 1)).toNat = r.length - 1 - i by omega]
  unfold nI
  rw [List.getElem?_map, List.getElem?_reverse (by omega), List.getD_eq_getElem?_getD, show r.length - 1 - (r.length - 1 - i) = i by omega, List.getElem?_eq_getElem h]
  rfl)
theorem and_oneN (n : Nat) : Builtin.bitAnd (n : Int) 1 = ((n % 2 : Nat) : Int) := by
  have := PySem.W.os_band n 1
  rw [show ((1 : Nat) : Int) = 1 from rfl] at this
  rw [this, Nat.and_one_is_mod]
theorem pow_int (w : Nat) : (1 : Int) * 2 ^ ((w : Int)).toNat = ((2 ^ w : Nat) : Int) := by
  rw [Int.one_mul, Int.toNat_natCast]
  simp
theorem cpow_ok {w : Nat} (h : w ≤ 1000) : CPow 1 (w : Int) := ⟨by omega, by omega, by decide⟩
section
variable {P : Program} {w : World} {K : PySem.W.Frag} {mg : Str → Option Value} {base : Heap}
end
theorem mem1_put {o : Addr} {A B : List Kt.It} : Mem.put [(o, A)] o B = [(o, B)] := by simp [Mem.put]
theorem ej_ifP {X : Cx} {N : Ent} {ρ : Rho} {M M1 : Mem} {c a b : Expr} {pos : Pos} {t : Bool} {i j : Kt.It} (hc : TJ X N ρ M c t M1) (h1 : EJ X N ρ M1 a i M1) (h2 : EJ X N ρ M1 b j M1) : EJ X N ρ M (.IfExp c a b pos) (if t then i else j) M1 :=
  ej_if hc (fun h => by rw [if_pos h]; exact h1) fun h => by rw [if_neg (by rw [h]; decide)]; exact h2
theorem nd_ints (l : List Nat) : nD l = (l.map fun n : Nat => (n : Int)).map .int := by
  unfold nD
  rw [List.map_map]
  rfl
theorem natmap_inj {a b : List Nat} : ((a.map fun n : Nat => (n : Int)) = (b.map fun n : Nat => (n : Int))) ↔ a = b := by
  constructor
  · intro h
    have := congrArg (List.map Int.toNat) h
    simpa [List.map_map, Function.comp_def] using this
  · rintro rfl
    rfl
theorem nd_eqv (a b : List Nat) : PyData.eqv (.list (nD a)) (.list (nD b)) = decide (a = b) := by
  rw [nd_ints, nd_ints, eqv_ints]
  exact decide_eq_decide.mpr natmap_inj
theorem nd_plain (l : List Nat) : plainD (.list (nD l)) = true := by
  rw [nd_ints]
  exact PN.plain (PN.ints (n := 0) _)


/-! ### rests: the mathematics -/
def psh (w p r b : Nat) : Nat := if (2 * r + b).testBit w then (2 * r + b) ^^^ p else 2 * r + b
def rst (w p : Nat) (row : List Nat) : Nat := row.foldl (psh w p) 0
theorem tb_lt {n w : Nat} (h : n < 2 ^ w) : n.testBit w = false := Nat.testBit_lt_two_pow h
theorem xor_lt' {a b w : Nat} (h : a < 2 ^ w) (h2 : b < 2 ^ w) : a ^^^ b < 2 ^ w := Nat.xor_lt_two_pow h h2
structure PW (w p : Nat) : Prop where
  w1 : 1 ≤ w
  p1 : 2 ^ w ≤ p
  p2 : p < 2 ^ (w + 1)
  od : p % 2 = 1
theorem tb_top {n w : Nat} (h1 : 2 ^ w ≤ n) (h2 : n < 2 ^ (w + 1)) : n.testBit w = true := by
  rw [Nat.testBit_eq_decide_div_mod_eq, Nat.pow_succ] at *
  have e : n / 2 ^ w = 1 := Nat.div_eq_of_lt_le (by omega) (by omega)
  rw [e]
  decide
theorem lt_of_top {n w : Nat} (h2 : n < 2 ^ (w + 1)) (h : n.testBit w = false) : n < 2 ^ w := by
  rcases Nat.lt_or_ge n (2 ^ w) with c | c
  · exact c
  · rw [tb_top c h2] at h
    cases h
theorem psh_lt {w p r b : Nat} (h : PW w p) (hr : r < 2 ^ w) (hb : b < 2) : psh w p r b < 2 ^ w := by
  have hm : 2 * r + b < 2 ^ (w + 1) := by rw [Nat.pow_succ]; omega
  unfold psh
  split
  · rename_i c
    refine lt_of_top (xor_lt' hm h.p2) ?_
    rw [Nat.testBit_xor, c, tb_top h.p1 h.p2]
    rfl
  · rename_i c
    exact lt_of_top hm (by simpa using c)
theorem dbl_xor {a b c d : Nat} (hc : c < 2) (hd : d < 2) : 2 * (a ^^^ b) + (c ^^^ d) = (2 * a + c) ^^^ (2 * b + d) := by
  refine Nat.eq_of_testBit_eq fun i => ?_
  have hcd : c ^^^ d < 2 := by
    have : c = 0 ∨ c = 1 := by omega
    have : d = 0 ∨ d = 1 := by omega
    rcases ‹c = 0 ∨ c = 1› with rfl | rfl <;> rcases ‹d = 0 ∨ d = 1› with rfl | rfl <;> decide
  cases i with
  | zero =>
    rw [Nat.testBit_xor, Nat.testBit_zero, Nat.testBit_zero, Nat.testBit_zero]
    have : c = 0 ∨ c = 1 := by omega
    have : d = 0 ∨ d = 1 := by omega
    have e : ∀ x y : Nat, (2 * x + y) % 2 = y % 2 := fun x y => by omega
    rw [e, e, e]
    rcases ‹c = 0 ∨ c = 1› with rfl | rfl <;> rcases ‹d = 0 ∨ d = 1› with rfl | rfl <;> decide
  | succ i =>
    rw [Nat.testBit_xor, Nat.testBit_succ, Nat.testBit_succ, Nat.testBit_succ]
    have e : ∀ x y : Nat, y < 2 → (2 * x + y) / 2 = x := fun x y h => by omega
    rw [e _ _ hcd, e _ _ hc, e _ _ hd, Nat.testBit_xor]
theorem psh_xor {w p r s b c : Nat} (hb : b < 2) (hc : c < 2) : psh w p (r ^^^ s) (b ^^^ c) = psh w p r b ^^^ psh w p s c := by
  unfold psh
  rw [dbl_xor hb hc, Nat.testBit_xor]
  cases h1 : (2 * r + b).testBit w <;> cases h2 : (2 * s + c).testBit w
  · simp
  · simp [Nat.xor_assoc]
  · simp
    rw [Nat.xor_assoc, Nat.xor_comm (2 * s + c) p, ← Nat.xor_assoc]
  · simp
    rw [Nat.xor_assoc, ← Nat.xor_assoc p, Nat.xor_comm p (2 * s + c), Nat.xor_assoc, Nat.xor_self, Nat.xor_zero]
def Bits (r : List Nat) : Prop := ∀ b ∈ r, b < 2
theorem rst_snoc (w p : Nat) (row : List Nat) (b : Nat) : rst w p (row ++ [b]) = psh w p (rst w p row) b := by
  unfold rst
  rw [List.foldl_append]
  rfl
theorem rst_lt {w p : Nat} (h : PW w p) {row : List Nat} (hb : Bits row) : rst w p row < 2 ^ w := by
  have key : ∀ (l : List Nat) (r : Nat), Bits l → r < 2 ^ w → l.foldl (psh w p) r < 2 ^ w := fun l => by
    induction l with
    | nil => exact fun r _ hr => hr
    | cons b l ih => exact fun r hl hr => ih _ (fun x hx => hl x (List.mem_cons_of_mem _ hx)) (psh_lt h hr (hl b List.mem_cons_self))
  exact key row 0 hb (Nat.two_pow_pos w)
def addX (a b : List Nat) : List Nat := List.zipWith (fun x y => x ^^^ y) a b
theorem rst_xor {w p : Nat} : ∀ {a b : List Nat}, Bits a → Bits b → a.length = b.length → rst w p (addX a b) = rst w p a ^^^ rst w p b := by
  have key : ∀ (a b : List Nat) (r s : Nat), Bits a → Bits b → a.length = b.length → (addX a b).foldl (psh w p) (r ^^^ s) = a.foldl (psh w p) r ^^^ b.foldl (psh w p) s := fun a => by
    induction a with
    | nil =>
      intro b r s _ _ h
      cases b with
      | nil => rfl
      | cons _ _ => simp at h
    | cons x a ih =>
      intro b r s ha hb h
      cases b with
      | nil => simp at h
      | cons y b =>
        show (addX a b).foldl (psh w p) (psh w p (r ^^^ s) (x ^^^ y)) = _
        rw [psh_xor (ha x List.mem_cons_self) (hb y List.mem_cons_self)]
        exact ih b _ _ (fun z hz => ha z (List.mem_cons_of_mem _ hz)) (fun z hz => hb z (List.mem_cons_of_mem _ hz)) (by simpa using h)
  intro a b ha hb h
  have := key a b 0 0 ha hb h
  rwa [Nat.xor_zero] at this
/-- the rest of the power that comes next -/
def nxt (w p r : Nat) : Nat := psh w p r 0
theorem nxt_zero (w p : Nat) : nxt w p 0 = 0 := by
  unfold nxt psh
  simp
theorem nxt_inj {w p : Nat} (h : PW w p) : ∀ x < 2 ^ w, ∀ y < 2 ^ w, nxt w p x = nxt w p y → x = y := by
  intro x hx y hy e
  have od := h.od
  have par : ∀ z, (nxt w p z) % 2 = if (2 * z).testBit w then 1 else 0 := fun z => by
    unfold nxt psh
    rw [Nat.add_zero]
    split
    · have := Nat.xor_mod_two_pow (a := 2 * z) (b := p) (n := 1)
      rw [Nat.pow_one] at this
      rw [this, od, show 2 * z % 2 = 0 by omega]
      rfl
    · omega
  have p1 := par x
  have p2 := par y
  rw [e] at p1
  rw [p1] at p2
  unfold nxt psh at e
  rw [Nat.add_zero, Nat.add_zero] at e
  cases h1 : (2 * x).testBit w <;> cases h2 : (2 * y).testBit w <;> rw [h1, h2] at p2 e
  · simp at e
    omega
  · simp at p2
  · simp at p2
  · have e : 2 * x ^^^ p = 2 * y ^^^ p := by simpa using e
    have e2 : (2 * x ^^^ p) ^^^ p = (2 * y ^^^ p) ^^^ p := by rw [e]
    rw [Nat.xor_assoc, Nat.xor_assoc, Nat.xor_self, Nat.xor_zero, Nat.xor_zero] at e2
    omega
theorem nxt_lt {w p : Nat} (h : PW w p) {x : Nat} (hx : x < 2 ^ w) : nxt w p x < 2 ^ w := psh_lt h hx (by decide)
theorem psh_bit {w p r b : Nat} (hb : b < 2) (w1 : 1 ≤ w) : psh w p r b = nxt w p r ^^^ b := by
  have e : psh w p r b = psh w p (r ^^^ 0) (0 ^^^ b) := by rw [Nat.xor_zero, Nat.zero_xor]
  rw [e, psh_xor (by decide) hb]
  unfold nxt
  congr 1
  unfold psh
  rw [Nat.mul_zero, Nat.zero_add, tb_lt (Nat.lt_of_lt_of_le hb (show 2 ^ 1 ≤ 2 ^ w from Nat.pow_le_pow_right (by decide) w1))]
  rfl
/-- zeros ahead and behind -/
theorem rst_zeros (w p : Nat) : ∀ n, rst w p (List.replicate n 0) = 0
  | 0 => rfl
  | n + 1 => by
    rw [List.replicate_succ', rst_snoc, rst_zeros w p n]
    exact nxt_zero w p
theorem rst_app (w p : Nat) (a b : List Nat) : rst w p (a ++ b) = b.foldl (psh w p) (rst w p a) := by
  unfold rst
  rw [List.foldl_append]
theorem rst_ahead (w p n : Nat) (b : List Nat) : rst w p (List.replicate n 0 ++ b) = rst w p b := by
  rw [rst_app, rst_zeros]
  rfl
def itN (f : Nat → Nat) : Nat → Nat → Nat
  | 0, x => x
  | n + 1, x => f (itN f n x)
theorem rst_behind (w p : Nat) (a : List Nat) : ∀ n, rst w p (a ++ List.replicate n 0) = itN (nxt w p) n (rst w p a)
  | 0 => by rw [List.replicate_zero, List.append_nil]; rfl
  | n + 1 => by
    rw [List.replicate_succ', ← List.append_assoc, rst_snoc, rst_behind w p a n]
    rfl
theorem itN_lt {w p : Nat} (h : PW w p) {x : Nat} (hx : x < 2 ^ w) : ∀ n, itN (nxt w p) n x < 2 ^ w
  | 0 => hx
  | n + 1 => nxt_lt h (itN_lt h hx n)
theorem itN_zero {w p : Nat} (h : PW w p) {x : Nat} (hx : x < 2 ^ w) : ∀ n, itN (nxt w p) n x = 0 ↔ x = 0
  | 0 => Iff.rfl
  | n + 1 => by
    rw [← itN_zero h hx n]
    show nxt w p (itN (nxt w p) n x) = 0 ↔ _
    constructor
    · intro e
      exact nxt_inj h _ (itN_lt h hx n) 0 (Nat.two_pow_pos w) (by rw [e, nxt_zero])
    · intro e
      rw [e, nxt_zero]
/-- numbers of rows, the highest bit first -/
def numM (l : List Nat) : Nat := l.foldl (fun a b => 2 * a + b) 0
theorem numM_snoc (l : List Nat) (b : Nat) : numM (l ++ [b]) = 2 * numM l + b := by
  unfold numM
  rw [List.foldl_append]
  rfl
theorem numM_cons (b : Nat) (l : List Nat) : numM (b :: l) = b * 2 ^ l.length + numM l := by
  have key : ∀ (l : List Nat) (a : Nat), l.foldl (fun a b => 2 * a + b) a = a * 2 ^ l.length + numM l := fun l => by
    induction l with
    | nil => intro a; simp [numM]
    | cons c l ih =>
      intro a
      have e : numM (c :: l) = l.foldl (fun a b => 2 * a + b) (2 * 0 + c) := rfl
      show l.foldl (fun a b => 2 * a + b) (2 * a + c) = a * 2 ^ (l.length + 1) + numM (c :: l)
      rw [e, ih, ih, Nat.pow_succ]
      rw [Nat.mul_zero, Nat.zero_add, Nat.add_mul, ← Nat.add_assoc]
      congr 2
      rw [Nat.mul_comm 2 a, Nat.mul_assoc, Nat.mul_comm 2]
  show l.foldl (fun a b => 2 * a + b) (2 * 0 + b) = _
  rw [key, Nat.mul_zero, Nat.zero_add]
theorem numM_lt {l : List Nat} (h : Bits l) : numM l < 2 ^ l.length := by
  induction l with
  | nil => decide
  | cons b l ih =>
    rw [numM_cons, List.length_cons, Nat.pow_succ]
    have hb := h b List.mem_cons_self
    have := ih fun x hx => h x (List.mem_cons_of_mem _ hx)
    have : b = 0 ∨ b = 1 := by omega
    rcases this with rfl | rfl <;> omega
theorem numM_inj : ∀ {a b : List Nat}, Bits a → Bits b → a.length = b.length → (numM a = numM b ↔ a = b)
  | [], [], _, _, _ => by simp
  | [], _ :: _, _, _, h => by simp at h
  | _ :: _, [], _, _, h => by simp at h
  | x :: a, y :: b, ha, hb, h => by
    have h' : a.length = b.length := by simpa using h
    have ha' : Bits a := fun z hz => ha z (List.mem_cons_of_mem _ hz)
    have hb' : Bits b := fun z hz => hb z (List.mem_cons_of_mem _ hz)
    have ih := numM_inj ha' hb' h'
    have la := numM_lt ha'
    have lb := numM_lt hb'
    have hx := ha x List.mem_cons_self
    have hy := hb y List.mem_cons_self
    rw [numM_cons, numM_cons, List.cons.injEq, ← ih]
    rw [h'] at la ⊢
    have : x = 0 ∨ x = 1 := by omega
    have : y = 0 ∨ y = 1 := by omega
    rcases ‹x = 0 ∨ x = 1› with rfl | rfl <;> rcases ‹y = 0 ∨ y = 1› with rfl | rfl <;> constructor <;> intro q <;> omega
theorem numM_xor : ∀ {a b : List Nat}, Bits a → Bits b → a.length = b.length → numM (addX a b) = numM a ^^^ numM b := by
  intro a
  have key : ∀ (a b : List Nat) (r s : Nat), Bits a → Bits b → a.length = b.length → (addX a b).foldl (fun a b => 2 * a + b) (r ^^^ s) = a.foldl (fun a b => 2 * a + b) r ^^^ b.foldl (fun a b => 2 * a + b) s := fun a => by
    induction a with
    | nil =>
      intro b r s _ _ h
      cases b with
      | nil => rfl
      | cons _ _ => simp at h
    | cons x a ih =>
      intro b r s ha hb h
      cases b with
      | nil => simp at h
      | cons y b =>
        show (addX a b).foldl _ (2 * (r ^^^ s) + (x ^^^ y)) = _
        rw [dbl_xor (ha x List.mem_cons_self) (hb y List.mem_cons_self)]
        exact ih b _ _ (fun z hz => ha z (List.mem_cons_of_mem _ hz)) (fun z hz => hb z (List.mem_cons_of_mem _ hz)) (by simpa using h)
  intro b ha hb h
  have := key a b 0 0 ha hb h
  rwa [Nat.xor_zero] at this
/-- up to w bits nothing is taken away -/
theorem rst_short {w p : Nat} : ∀ (n : Nat) {l : List Nat}, l.length = n → Bits l → n ≤ w → rst w p l = numM l := by
  intro n
  induction n with
  | zero =>
    intro l h _ _
    rw [List.length_eq_zero_iff.mp h]
    rfl
  | succ n ih =>
    intro l h hb hw
    obtain ⟨r, b, rfl⟩ : ∃ r b, l = r ++ [b] := by
      rcases List.eq_nil_or_concat l with e | ⟨r, b, e⟩
      · rw [e] at h
        simp at h
      · exact ⟨r, b, by rw [e, List.concat_eq_append]⟩
    have hr : Bits r := fun x hx => hb x (List.mem_append_left _ hx)
    have hl : r.length = n := by simpa using h
    rw [rst_snoc, numM_snoc, ih hl hr (by omega)]
    unfold psh
    have : 2 * numM r + b < 2 ^ w := by
      rw [← numM_snoc]
      exact Nat.lt_of_lt_of_le (numM_lt hb) (Nat.pow_le_pow_right (by decide) (by omega))
    rw [tb_lt this]
    rfl

/-! ### long division -/
def pbL (w p : Nat) : List Nat := (List.range (w + 1)).map fun i => p / 2 ^ (w - i) % 2
def bM (w r : Nat) : List Nat := (List.range w).map fun k => r / 2 ^ (w - 1 - k) % 2
theorem bM_len (w r : Nat) : (bM w r).length = w := by simp [bM]
theorem bM_bits (w r : Nat) : Bits (bM w r) := fun b hb => by
  unfold bM at hb
  obtain ⟨k, _, rfl⟩ := List.mem_map.mp hb
  exact Nat.mod_lt _ (by decide)
theorem numM_bM : ∀ w r, numM (bM w r) = r % 2 ^ w
  | 0, r => by simp [bM, numM, Nat.mod_one]
  | w + 1, r => by
    have e : bM (w + 1) r = bM w (r / 2) ++ [r % 2] := by
      unfold bM
      rw [List.range_succ, List.map_append]
      congr 1
      · refine List.map_congr_left fun k hk => ?_
        have hk := List.mem_range.mp hk
        rw [Nat.div_div_eq_div_mul, ← Nat.pow_succ', show (w - 1 - k).succ = w + 1 - 1 - k by omega]
      · simp
    rw [e, numM_snoc, numM_bM w, Nat.pow_succ', Nat.mod_mul]
    omega
theorem pbL_eq (w p : Nat) : pbL w p = bM (w + 1) p := by
  unfold pbL bM
  refine List.map_congr_left fun i hi => ?_
  rw [Nat.add_sub_cancel]
theorem numM_pbL {w p : Nat} (h : PW w p) : numM (pbL w p) = p := by
  rw [pbL_eq, numM_bM, Nat.mod_eq_of_lt h.p2]
theorem pbL_len (w p : Nat) : (pbL w p).length = w + 1 := by simp [pbL]
theorem pbL_bits (w p : Nat) : Bits (pbL w p) := by
  rw [pbL_eq]
  exact bM_bits _ _
/-- the list while it is changed: i places from k on -/
def inn (w p k : Nat) (l : List Nat) (i : Nat) : List Nat := l.mapIdx fun j x => if k ≤ j ∧ j < k + i then x ^^^ (p / 2 ^ (w - (j - k)) % 2) else x
theorem inn_len (w p k : Nat) (l : List Nat) (i : Nat) : (inn w p k l i).length = l.length := by simp [inn]
theorem inn_zero (w p k : Nat) (l : List Nat) : inn w p k l 0 = l := by
  unfold inn
  refine List.ext_getElem? fun j => ?_
  rw [List.getElem?_mapIdx]
  cases l[j]? with
  | none => rfl
  | some x =>
    show some (if k ≤ j ∧ j < k + 0 then _ else x) = some x
    rw [if_neg (by omega)]
theorem inn_at {w p k i : Nat} {l : List Nat} {x : Nat} (h : l[k + i]? = some x) : (inn w p k l i)[k + i]? = some x := by
  unfold inn
  rw [List.getElem?_mapIdx, h]
  show some (if k ≤ k + i ∧ k + i < k + i then _ else x) = some x
  rw [if_neg (by omega)]
theorem inn_succ {w p k i : Nat} {l : List Nat} {x : Nat} (h : l[k + i]? = some x) : inn w p k l (i + 1) = (inn w p k l i).set (k + i) (x ^^^ (p / 2 ^ (w - i) % 2)) := by
  have hl : k + i < l.length := (List.getElem?_eq_some_iff.mp h).1
  refine List.ext_getElem? fun j => ?_
  rw [List.getElem?_set]
  by_cases e : k + i = j
  · subst e
    rw [if_pos rfl, if_pos (by rw [inn_len]; exact hl)]
    unfold inn
    rw [List.getElem?_mapIdx, h]
    show some (if k ≤ k + i ∧ k + i < k + (i + 1) then x ^^^ (p / 2 ^ (w - (k + i - k)) % 2) else x) = _
    rw [if_pos (by omega), Nat.add_sub_cancel_left]
  · rw [if_neg e]
    unfold inn
    rw [List.getElem?_mapIdx, List.getElem?_mapIdx]
    cases l[j]? with
    | none => rfl
    | some y =>
      show some (if k ≤ j ∧ j < k + (i + 1) then _ else y) = some (if k ≤ j ∧ j < k + i then _ else y)
      by_cases c : k ≤ j ∧ j < k + i
      · rw [if_pos c, if_pos (by omega)]
      · rw [if_neg c, if_neg (by omega)]
theorem inn_all {w p k : Nat} {l : List Nat} (h : k + w < l.length) : ((inn w p k l (w + 1)).drop k).take (w + 1) = addX ((l.drop k).take (w + 1)) (pbL w p) := by
  refine List.ext_getElem? fun j => ?_
  unfold addX inn pbL
  rw [List.getElem?_zipWith]
  by_cases hj : j < w + 1
  · rw [List.getElem?_take_of_lt hj, List.getElem?_drop, List.getElem?_mapIdx, List.getElem?_take_of_lt hj, List.getElem?_drop, List.getElem?_map, List.getElem?_range hj, List.getElem?_eq_getElem (by omega)]
    show some (if k ≤ k + j ∧ k + j < k + (w + 1) then _ ^^^ (p / 2 ^ (w - (k + j - k)) % 2) else _) = _
    rw [if_pos (by omega), Nat.add_sub_cancel_left]
    rfl
  · rw [List.getElem?_eq_none (by rw [List.length_take]; omega), List.getElem?_eq_none (l := (l.drop k).take (w + 1)) (by rw [List.length_take]; omega)]
theorem inn_rest {w p k : Nat} {l : List Nat} : (inn w p k l (w + 1)).drop (k + w + 1) = l.drop (k + w + 1) := by
  refine List.ext_getElem? fun j => ?_
  unfold inn
  rw [List.getElem?_drop, List.getElem?_mapIdx, List.getElem?_drop]
  cases l[k + w + 1 + j]? with
  | none => rfl
  | some x =>
    show some (if k ≤ k + w + 1 + j ∧ k + w + 1 + j < k + (w + 1) then _ else x) = some x
    rw [if_neg (by omega)]
theorem addX_bits {a b : List Nat} (ha : Bits a) (hb : Bits b) : Bits (addX a b) := fun x hx => by
  unfold addX at hx
  obtain ⟨i, hi, rfl⟩ := List.mem_iff_getElem.mp hx
  rw [List.getElem_zipWith]
  exact xor_lt' (w := 1) (ha _ (List.getElem_mem _)) (hb _ (List.getElem_mem _))
theorem inn_bits {w p k : Nat} {l : List Nat} (h : Bits l) (i : Nat) : Bits (inn w p k l i) := fun x hx => by
  unfold inn at hx
  obtain ⟨j, hj, rfl⟩ := List.mem_iff_getElem.mp hx
  rw [List.getElem_mapIdx]
  split
  · exact xor_lt' (w := 1) (h _ (List.getElem_mem _)) (Nat.mod_lt _ (by decide))
  · exact h _ (List.getElem_mem _)
/-- the state of the division -/
structure LD (w p : Nat) (row : List Nat) (k : Nat) (l : List Nat) : Prop where
  len : l.length = row.length
  bits : Bits l
  num : numM ((l.drop k).take w) = rst w p (row.take (k + w))
  rest : l.drop (k + w) = row.drop (k + w)
theorem ld_start {w p : Nat} {row : List Nat} (hb : Bits row) (hw : w ≤ row.length) : LD w p row 0 row := by
  refine ⟨rfl, hb, ?_, rfl⟩
  rw [Nat.zero_add, List.drop_zero, rst_short w (by rw [List.length_take]; omega) (fun x hx => hb x (List.mem_of_mem_take hx)) (Nat.le_refl _)]
theorem ld_step {w p : Nat} {row l : List Nat} {k : Nat} (h : PW w p) (hr : Bits row) (d : LD w p row k l) (hk : k + w < row.length) :
    LD w p row (k + 1) (if l.getD k 0 = 1 then inn w p k l (w + 1) else l) := by
  have ll := d.len
  obtain ⟨x, ex⟩ : ∃ x, l[k]? = some x := ⟨_, List.getElem?_eq_getElem (by omega)⟩
  obtain ⟨y, ey⟩ : ∃ y, l[k + w]? = some y := ⟨_, List.getElem?_eq_getElem (by omega)⟩
  have x2 : x < 2 := d.bits x (List.mem_of_getElem? ex)
  have y2 : y < 2 := d.bits y (List.mem_of_getElem? ey)
  have yr : row[k + w]? = some y := by
    have := congrArg (fun l : List Nat => l[0]?) d.rest
    simp only [List.getElem?_drop, Nat.add_zero] at this
    rw [← this]
    exact ey
  have gx : l.getD k 0 = x := by rw [List.getD_eq_getElem?_getD, ex]; rfl
  have seg : (l.drop k).take (w + 1) = (l.drop k).take w ++ [y] := by
    rw [List.take_add_one, List.getElem?_drop, ey]
    rfl
  have segc : (l.drop k).take (w + 1) = x :: (l.drop (k + 1)).take w := by
    have e : l.drop k = x :: l.drop (k + 1) := by
      have hk2 : k < l.length := by omega
      rw [List.drop_eq_getElem_cons hk2]
      have := (List.getElem?_eq_some_iff.mp ex).2
      rw [this]
    rw [e, List.take_succ_cons]
  have sl : ((l.drop (k + 1)).take w).length = w := by rw [List.length_take, List.length_drop]; omega
  have sb : ∀ n : Nat, Bits ((l.drop n).take w) := fun n z hz => d.bits z (List.mem_of_mem_drop (List.mem_of_mem_take hz))
  have sb1 : Bits ((l.drop k).take (w + 1)) := fun z hz => d.bits z (List.mem_of_mem_drop (List.mem_of_mem_take hz))
  have n1 : numM ((l.drop k).take (w + 1)) = 2 * rst w p (row.take (k + w)) + y := by rw [seg, numM_snoc, d.num]
  have n2 : numM ((l.drop k).take (w + 1)) = x * 2 ^ w + numM ((l.drop (k + 1)).take w) := by rw [segc, numM_cons, sl]
  have nl := numM_lt (sb (k + 1))
  rw [sl] at nl
  have er : row.take (k + 1 + w) = row.take (k + w) ++ [y] := by
    rw [show k + 1 + w = k + w + 1 by omega, List.take_add_one, yr]
    rfl
  have es : rst w p (row.take (k + 1 + w)) = psh w p (rst w p (row.take (k + w))) y := by rw [er, rst_snoc]
  rw [gx]
  by_cases hx : x = 1
  · rw [if_pos hx]
    subst hx
    refine ⟨by rw [inn_len, ll], inn_bits d.bits _, ?_, ?_⟩
    · have top : (2 * rst w p (row.take (k + w)) + y).testBit w = true := by
        rw [← n1, n2]
        exact tb_top (by omega) (by rw [Nat.pow_succ]; omega)
      have ia := inn_all (w := w) (p := p) (k := k) (l := l) (by omega)
      have il : k < (inn w p k l (w + 1)).length := by rw [inn_len]; omega
      obtain ⟨z, hz⟩ : ∃ z, (inn w p k l (w + 1)).drop k = z :: (inn w p k l (w + 1)).drop (k + 1) := ⟨_, List.drop_eq_getElem_cons il⟩
      have hz2 : ((inn w p k l (w + 1)).drop k).take (w + 1) = z :: ((inn w p k l (w + 1)).drop (k + 1)).take w := by rw [hz, List.take_succ_cons]
      have lz : (((inn w p k l (w + 1)).drop (k + 1)).take w).length = w := by rw [List.length_take, List.length_drop, inn_len]; omega
      have zb : Bits (((inn w p k l (w + 1)).drop (k + 1)).take w) := fun q hq => inn_bits d.bits _ q (List.mem_of_mem_drop (List.mem_of_mem_take hq))
      have e1 : numM (z :: ((inn w p k l (w + 1)).drop (k + 1)).take w) = (2 * rst w p (row.take (k + w)) + y) ^^^ p := by
        rw [← hz2, ia, numM_xor sb1 (pbL_bits w p) (by rw [List.length_take, List.length_drop, pbL_len]; omega), n1, numM_pbL h]
      have ep : psh w p (rst w p (row.take (k + w))) y = (2 * rst w p (row.take (k + w)) + y) ^^^ p := by
        unfold psh
        rw [top]
        rfl
      have hrt : rst w p (row.take (k + w)) < 2 ^ w := rst_lt h fun q hq => hr q (List.mem_of_mem_take hq)
      have plt := psh_lt h hrt y2
      rw [es, ep, ← e1, numM_cons, lz]
      rw [ep, ← e1, numM_cons, lz] at plt
      have z2 : z = 0 := by
        have pp := Nat.two_pow_pos w
        rcases Nat.eq_zero_or_pos z with c | c
        · exact c
        · have : 1 * 2 ^ w ≤ z * 2 ^ w := Nat.mul_le_mul_right _ c
          omega
      rw [z2]
      omega
    · have dr := congrArg (List.drop 1) d.rest
      rw [List.drop_drop, List.drop_drop] at dr
      rw [show k + 1 + w = k + w + 1 by omega, inn_rest, dr]
  · rw [if_neg hx]
    have hx0 : x = 0 := by omega
    subst hx0
    refine ⟨ll, d.bits, ?_, ?_⟩
    · have e : 2 * rst w p (row.take (k + w)) + y = numM ((l.drop (k + 1)).take w) := by rw [← n1, n2]; omega
      rw [es]
      unfold psh
      rw [e, tb_lt nl]
      rfl
    · have dr := congrArg (List.drop 1) d.rest
      rw [List.drop_drop, List.drop_drop] at dr
      rw [show k + 1 + w = k + w + 1 by omega, dr]
theorem ld_end {w p : Nat} {row l : List Nat} (h : PW w p) (hr : Bits row) (hw : w ≤ row.length) (d : LD w p row (row.length - w) l) : l.drop (row.length - w) = bM w (rst w p row) := by
  have ll := d.len
  have e : row.length - w + w = row.length := by omega
  have dn := d.num
  rw [e, List.take_length, List.take_of_length_le (by rw [List.length_drop]; omega)] at dn
  have := (numM_inj (a := l.drop (row.length - w)) (b := bM w (rst w p row)) (fun x hx => d.bits x (List.mem_of_mem_drop hx)) (bM_bits _ _) (by rw [List.length_drop, bM_len]; omega)).mp (by rw [dn, numM_bM, Nat.mod_eq_of_lt (rst_lt h hr)])
  exact this
theorem bM_inj {w r s : Nat} (hr : r < 2 ^ w) (hs : s < 2 ^ w) : bM w r = bM w s ↔ r = s := by
  rw [← numM_inj (bM_bits w r) (bM_bits w s) (by rw [bM_len, bM_len]), numM_bM, numM_bM, Nat.mod_eq_of_lt hr, Nat.mod_eq_of_lt hs]

/-! ### checks: the program -/
def ckD (w p : Nat) : PyData := .tuple [.str "check", .int (w : Int), .int (p : Int)]
structure KS (w p : Nat) : Prop where
  w1 : 1 ≤ w
  w2 : w ≤ 16
  p1 : 2 ^ w ≤ p
  p2 : p < 2 ^ (w + 1)
  od : p % 2 = 1
theorem KS.pw {w p : Nat} (h : KS w p) : PW w p := ⟨h.w1, h.p1, h.p2, h.od⟩
def CoPushed : Co := fun is M i M' => M = [] ∧ M' = [] ∧ ∃ w p r b : Nat, is = [.d (ckD w p), dI r, dI b] ∧ KS w p ∧ r < 2 ^ w ∧ b < 2 ∧ i = dI (psh w p r b : Nat)
def CoRest : Co := fun is M i M' => M = [] ∧ M' = [] ∧ ∃ (w p : Nat) (row : List Nat), is = [.d (ckD w p), .d (.list (nD row))] ∧ KS w p ∧ Bits row ∧ i = dI (rst w p row : Nat)
theorem xorN (a b : Nat) : Builtin.bitXor (a : Int) (b : Int) = ((a ^^^ b : Nat) : Int) := by
  rw [_root_.Bits.bitXor_pp (Int.natCast_nonneg a) (Int.natCast_nonneg b), Int.toNat_natCast, Int.toNat_natCast]
theorem shr_bit (p i : Nat) : (p : Int) / 2 ^ ((i : Int)).toNat = ((p / 2 ^ i : Nat) : Int) := by
  rw [Int.toNat_natCast, Int.natCast_ediv]
  simp
theorem top_eq {w m : Nat} (h : m < 2 ^ (w + 1)) : m.testBit w = decide (m / 2 ^ w = 1) := by
  rw [Nat.testBit_eq_decide_div_mod_eq]
  have : m / 2 ^ w < 2 := Nat.div_lt_of_lt_mul (by rw [Nat.pow_succ] at h; omega)
  rw [Nat.mod_eq_of_lt this]
theorem rst_snoc' (w p : Nat) {row : List Nat} {k b : Nat} (h : row[k]? = some b) : rst w p (row.take (k + 1)) = psh w p (rst w p (row.take k)) b := by
  rw [List.take_add_one, h, ← rst_snoc]
  rfl
theorem bits_take {row : List Nat} (h : Bits row) (k : Nat) : Bits (row.take k) := fun x hx => h x (List.mem_of_mem_take hx)
theorem bits_rep (n : Nat) : Bits (List.replicate n 0) := fun x hx => by
  rw [List.eq_of_mem_replicate hx]
  decide
theorem bits_app {a b : List Nat} (ha : Bits a) (hb : Bits b) : Bits (a ++ b) := fun x hx => by
  rcases List.mem_append.mp hx with h | h
  · exact ha x h
  · exact hb x h
theorem bits_one : Bits [1] := fun x hx => by
  rw [List.mem_singleton.mp hx]
  decide
theorem flatD (n : Nat) : ((List.replicate n [PyData.int 0]).flatten) = nD (List.replicate n 0) := by
  induction n with
  | zero => rfl
  | succ n ih =>
    rw [List.replicate_succ, List.replicate_succ, List.flatten_cons, ih]
    rfl
section
variable {X : Cx} {N : Ent} {ρ : Rho} {M M1 M2 : Mem} {a b : Expr} {pos : Pos}
/-- [0] * n -/
theorem ej_zeros {n : Nat} (ha : EJ X N ρ M a (.d (.list [.int 0])) M1) (hb : EJ X N ρ M1 b (dI (n : Int)) M2) (hz : n ≤ 100000) : EJ X N ρ M (.BinOp a .Mult b pos) (.d (.list (nD (List.replicate n 0)))) M2 :=
  ej_el (el_rep (ds := [.int 0]) (n := (n : Int)) ha hb (by omega) (by omega) (by show 1 * _ ≤ 100000; omega)) (by rw [Int.toNat_natCast, flatD])
/-- a + b of rows -/
theorem ej_catN {x y : List Nat} (ha : EJ X N ρ M a (.d (.list (nD x))) M1) (hb : EJ X N ρ M1 b (.d (.list (nD y))) M2) (hz : x.length + y.length ≤ 100000) : EJ X N ρ M (.BinOp a .Add b pos) (.d (.list (nD (x ++ y)))) M2 :=
  ej_el (el_cat (ds := nD x) (es := nD y) ha hb (by rw [nD_len, nD_len]; exact hz)) (by simp [nD])
end
section
variable {P : Program} {w : World} {K : PySem.W.Frag} {mg : Str → Option Value} {base : Heap}
theorem d_pushed (T : Txt K mg) : Def P w K mg base "pushed" 1 CoPushed := by
  obtain ⟨f, fd, F, hm, hb⟩ := T.f_pushed
  refine def_ok F sc_pushed hm hb (fun is M i M' h => ?_) fun X hX N is M i M' hF hC => ?_
  · obtain ⟨rfl, rfl, v, p, r, b, rfl, _⟩ := h
    exact ⟨rfl, rfl⟩
  · obtain ⟨cdv, A, outer, sh, H, E, rfl, hr⟩ := hX
    obtain ⟨rfl, rfl, v, p, r, b, rfl, ks, hlt, hb2, rfl⟩ := hC
    have nd := sc_pushed.nd
    have hm2 : 2 * r + b < 2 ^ (v + 1) := by rw [Nat.pow_succ]; omega
    refine sj_asgG (ej_name 0) (gj_tup (ds := [.str "check", .int (v : Int), .int (p : Int)]) rfl (gs_cons 3 nd (gs_cons 4 nd (gs_cons 5 nd gs_nil)))) ?_
    refine sj_set (i := dI ((2 * r + b : Nat) : Int)) 6 nd (ej_is (ej_add (ej_mul (n := 2) (m := (r : Int)) ej_int (ej_name 1) (.inl (by decide))) (ej_name (i := dI (b : Int)) 2)) (by refine congrArg dI ?_; omega)) ?_
    refine sj_ret (ej_is (ej_ifP (t := (2 * r + b).testBit v) (i := dI (((2 * r + b) ^^^ p : Nat) : Int)) (j := dI ((2 * r + b : Nat) : Int)) (tj_is (tj_eqI (n := (((2 * r + b) / 2 ^ v : Nat) : Int)) (m := 1) (ej_is (ej_shr (n := ((2 * r + b : Nat) : Int)) (m := (v : Int)) (ej_name 6) (ej_name 4) (by omega)) (by rw [shr_bit])) ej_int) (by rw [top_eq hm2]; exact decide_eq_decide.mpr (by omega))) (ej_is (ej_xor (n := ((2 * r + b : Nat) : Int)) (m := (p : Int)) (ej_name 6) (ej_name 5)) (by rw [xorN])) (ej_name 6)) ?_) ⟨rfl, [], rfl⟩
    unfold psh
    split <;> rfl
theorem d_rest_of (T : Txt K mg) : Def P w K mg base "rest_of" 2 CoRest := by
  obtain ⟨f, fd, F, hm, hb⟩ := T.f_rest_of
  have G := d_pushed (P := P) (w := w) (base := base) T
  refine def_ok F sc_rest_of hm hb (fun is M i M' h => ?_) fun X hX N is M i M' hF hC => ?_
  · obtain ⟨rfl, rfl, v, p, row, rfl, _⟩ := h
    exact ⟨rfl, rfl⟩
  · obtain ⟨cdv, A, outer, sh, H, E, rfl, hr⟩ := hX
    obtain ⟨rfl, rfl, v, p, row, rfl, ks, hb, rfl⟩ := hC
    have nd := sc_rest_of.nd
    refine sj_set 2 nd ej_int ?_
    refine sj_forL (ds := nD row) rfl (ej_name 1) (fun k ρ M => ∃ y3, ρ = [some (.d (ckD v p)), some (.d (.list (nD row))), some (dI (rst v p (row.take k) : Nat)), y3] ∧ M = []) ⟨none, rfl, rfl⟩ (fun k d ρ M hk hI => ?_) fun ρ M hI => ?_
    · obtain ⟨y3, rfl, rfl⟩ := hI
      obtain ⟨b, eb, rfl⟩ := nD_get hk
      refine ⟨_, gj_name 3 nd, ?_⟩
      exact sj_set 2 nd (ej_callP G hr (aj_cons (ej_name 0) (aj_cons (ej_name 2) (aj_cons (ej_name (i := dI (b : Int)) 3) aj_nil))) ⟨rfl, rfl, v, p, _, b, rfl, ks, rst_lt ks.pw (bits_take hb k), hb b (List.mem_of_getElem? eb), rfl⟩) (sj_nil ⟨some (dI (b : Int)), by rw [rst_snoc' v p eb]; rfl, rfl⟩)
    · obtain ⟨y3, rfl, rfl⟩ := hI
      rw [nD_len, List.take_length]
      exact sj_ret (ej_name 2) ⟨rfl, [], rfl⟩
end


theorem xor_zero_iff {a b : Nat} : a ^^^ b = 0 ↔ a = b := by
  constructor
  · intro h
    have : (a ^^^ b) ^^^ b = 0 ^^^ b := by rw [h]
    rwa [Nat.xor_assoc, Nat.xor_self, Nat.xor_zero, Nat.zero_xor] at this
  · rintro rfl
    exact Nat.xor_self _
theorem itN_add (f : Nat → Nat) (x : Nat) (m : Nat) : ∀ n, itN f (n + m) x = itN f n (itN f m x)
  | 0 => by rw [Nat.zero_add]; rfl
  | n + 1 => by
    rw [show n + 1 + m = n + m + 1 by omega]
    show f (itN f (n + m) x) = f _
    rw [itN_add f x m n]
theorem itN_mul {f : Nat → Nat} {x n : Nat} (h : itN f n x = x) : ∀ q, itN f (n * q) x = x
  | 0 => rfl
  | q + 1 => by rw [Nat.mul_succ, itN_add, h, itN_mul h q]
theorem per_dvd {f : Nat → Nat} {x n : Nat} (n1 : 1 ≤ n) (h : itN f n x = x) (hm : ∀ k < n, ¬ (1 ≤ k ∧ itN f k x = x)) (a : Nat) : itN f a x = x ↔ a % n = 0 := by
  have e : itN f a x = itN f (a % n) x := by
    have := Nat.mod_add_div a n
    conv => lhs; rw [← this, itN_add, itN_mul h]
  rw [e]
  have r := Nat.mod_lt a n1
  constructor
  · intro h2
    rcases Nat.eq_zero_or_pos (a % n) with c | c
    · exact c
    · exact absurd ⟨c, h2⟩ (hm _ r)
  · intro h2
    rw [h2]
    rfl
theorem rst_one_behind {w p : Nat} (w1 : 1 ≤ w) (at' n : Nat) : rst w p (List.replicate at' 0 ++ [1] ++ List.replicate n 0) = itN (nxt w p) n 1 := by
  rw [rst_behind, rst_ahead, rst_short (w := w) 1 rfl (fun x hx => by rw [List.mem_singleton.mp hx]; decide) w1]
  rfl
theorem one_lt_pow {w : Nat} (w1 : 1 ≤ w) : 1 < 2 ^ w := Nat.lt_of_lt_of_le (by decide) (show 2 ^ 1 ≤ 2 ^ w from Nat.pow_le_pow_right (by decide) w1)
theorem bits1 : Bits [1] := fun x hx => by rw [List.mem_singleton.mp hx]; decide
theorem bits0 (n : Nat) : Bits (List.replicate n 0) := fun x hx => by rw [List.eq_of_mem_replicate hx]; decide
theorem bitsA {a b : List Nat} (ha : Bits a) (hb : Bits b) : Bits (a ++ b) := fun x hx => by
  rcases List.mem_append.mp hx with h | h
  · exact ha x h
  · exact hb x h
/-- ones within w neighbours are seen -/
theorem near_seen {w p : Nat} (h : PW w p) {at' n : Nat} {bs : List Nat} (hb : Bits bs) (hl : bs.length + 1 ≤ w) : rst w p (List.replicate at' 0 ++ [1] ++ bs ++ List.replicate n 0) ≠ 0 := by
  have b1 : Bits (1 :: bs) := fun x hx => by
    rcases List.mem_cons.mp hx with rfl | hx
    · decide
    · exact hb x hx
  have e : List.replicate at' 0 ++ [1] ++ bs = List.replicate at' 0 ++ (1 :: bs) := by rw [List.append_assoc]; rfl
  rw [rst_behind, e, rst_ahead, rst_short (w := w) (bs.length + 1) rfl b1 hl]
  have lt : numM (1 :: bs) < 2 ^ w := Nat.lt_of_lt_of_le (numM_lt b1) (Nat.pow_le_pow_right (by decide) hl)
  rw [Ne, itN_zero h lt, numM_cons]
  have := Nat.two_pow_pos bs.length
  omega
/-- w + 1 bits, the first of them 1 -/
theorem rst_long {w p : Nat} (h : PW w p) {l : List Nat} (hb : Bits l) (hl : l.length = w) : rst w p (1 :: l) = numM (1 :: l) ^^^ p := by
  obtain ⟨r, b, e⟩ : ∃ r b, 1 :: l = r ++ [b] := by
    rcases List.eq_nil_or_concat (1 :: l) with e | ⟨r, b, e⟩
    · cases e
    · exact ⟨r, b, by rw [e, List.concat_eq_append]⟩
  have b1 : Bits (1 :: l) := fun x hx => by
    rcases List.mem_cons.mp hx with rfl | hx
    · decide
    · exact hb x hx
  have n1 : numM (1 :: l) = 1 * 2 ^ w + numM l := by rw [numM_cons, hl]
  have lt := numM_lt hb
  rw [hl] at lt
  have top : (numM (1 :: l)).testBit w = true := tb_top (by omega) (by rw [Nat.pow_succ]; omega)
  have rl : r.length = w := by
    have := congrArg List.length e
    simp at this
    omega
  rw [e] at top b1 ⊢
  rw [rst_snoc, rst_short w rl (fun x hx => b1 x (List.mem_append_left _ hx)) (Nat.le_refl _)]
  rw [numM_snoc] at top ⊢
  unfold psh
  rw [top]
  rfl
theorem pb_cons {w p : Nat} (h : PW w p) : ∃ l, pbL w p = 1 :: l ∧ Bits l ∧ l.length = w := by
  have hl := pbL_len w p
  have hb := pbL_bits w p
  have hn := numM_pbL h
  cases e : pbL w p with
  | nil => rw [e] at hl; simp at hl
  | cons x l =>
    rw [e] at hl hb hn
    have ll : l.length = w := by simpa using hl
    have lb : Bits l := fun y hy => hb y (List.mem_cons_of_mem _ hy)
    have lt := numM_lt lb
    rw [numM_cons, ll] at hn
    rw [ll] at lt
    have hx := hb x List.mem_cons_self
    have : x = 0 ∨ x = 1 := by omega
    have p1 := h.p1
    rcases this with rfl | rfl
    · omega
    · exact ⟨l, rfl, lb, ll⟩
theorem ends_seen {w p : Nat} (h : PW w p) {at' n : Nat} {l : List Nat} (hb : Bits l) (hl : l.length = w) :
    (rst w p (List.replicate at' 0 ++ (1 :: l) ++ List.replicate n 0) = 0) ↔ 1 :: l = pbL w p := by
  have b1 : Bits (1 :: l) := fun x hx => by
    rcases List.mem_cons.mp hx with rfl | hx
    · decide
    · exact hb x hx
  have rl := rst_lt h b1
  rw [rst_behind, rst_ahead, itN_zero h rl, rst_long h hb hl, xor_zero_iff]
  have := numM_inj b1 (pbL_bits w p) (by rw [pbL_len, List.length_cons, hl])
  rw [numM_pbL h] at this
  exact this
theorem due_right {w p : Nat} (h : PW w p) {row o : List Nat} (hr : Bits row) (ho : Bits o) (hl : o.length = w) : rst w p (row ++ o) = rst w p (row ++ List.replicate w 0) ^^^ numM o := by
  have e : row ++ o = addX (row ++ List.replicate w 0) (List.replicate row.length 0 ++ o) := by
    unfold addX
    rw [List.zipWith_append (by simp)]
    congr 1
    · refine List.ext_getElem (by simp) fun i h1 h2 => ?_
      simp
    · refine List.ext_getElem (by simp [hl]) fun i h1 h2 => ?_
      simp
  rw [e, rst_xor (bitsA hr (bits0 w)) (bitsA (bits0 _) ho) (by simp [hl]), rst_ahead, rst_short w hl ho (Nat.le_refl _)]
theorem pair_rst {w p : Nat} (h : PW w p) (z a : Nat) (ha : 1 ≤ a) : (rst w p (List.replicate z 0 ++ ([1] ++ List.replicate (a - 1) 0 ++ [1])) = 0) ↔ itN (nxt w p) a 1 = 1 := by
  rw [rst_ahead, rst_snoc]
  have e := rst_one_behind (p := p) h.w1 0 (a - 1)
  rw [List.replicate_zero, List.nil_append] at e
  rw [e, psh_bit (by decide) h.w1, xor_zero_iff]
  obtain ⟨b, rfl⟩ : ∃ b, a = b + 1 := ⟨a - 1, by omega⟩
  rw [Nat.add_sub_cancel]
  exact Iff.rfl
theorem zeros_set (A : List Nat) (j b : Nat) : (A ++ List.replicate (j + 1) 0).set A.length b = A ++ [b] ++ List.replicate j 0 := by
  rw [List.set_append_right _ _ (Nat.le_refl _), Nat.sub_self, List.replicate_succ, List.set_cons_zero, List.append_assoc]
  rfl
theorem bM_zero (w : Nat) : bM w 0 = List.replicate w 0 := by
  unfold bM
  refine List.ext_getElem (by simp) fun i h1 h2 => ?_
  simp

/-! ### the fewest ones: the mathematics -/
def les : Option Nat → Option Nat → Option Nat
  | a, none => a
  | none, some y => some (y + 1)
  | some x, some y => some (min x (y + 1))
def FF (rk : Nat → Nat) : Nat → Nat → Option Nat
  | 0, s => if s = 0 then some 0 else none
  | k + 1, s => les (FF rk k s) (FF rk k (s ^^^ rk k))
def GG (rk : Nat → Nat) (n : Nat) : Nat → Nat → Nat
  | 0, s => if s = 0 then 0 else n + 1
  | k + 1, s => min (GG rk n k s) (GG rk n k (s ^^^ rk k) + 1)
theorem GG_FF (rk : Nat → Nat) (n : Nat) : ∀ k s, k ≤ n → (∀ v, FF rk k s = some v → GG rk n k s = v ∧ v ≤ k) ∧ (FF rk k s = none → n + 1 ≤ GG rk n k s)
  | 0, s, _ => by
    unfold FF GG
    by_cases h : s = 0
    · rw [if_pos h, if_pos h]
      exact ⟨fun v e => by cases e; exact ⟨rfl, Nat.le_refl _⟩, fun e => by cases e⟩
    · rw [if_neg h, if_neg h]
      exact ⟨fun v e => absurd e (by simp), fun _ => Nat.le_refl _⟩
  | k + 1, s, hk => by
    have h1 := GG_FF rk n k s (by omega)
    have h2 := GG_FF rk n k (s ^^^ rk k) (by omega)
    show (∀ v, les (FF rk k s) (FF rk k (s ^^^ rk k)) = some v → min (GG rk n k s) (GG rk n k (s ^^^ rk k) + 1) = v ∧ v ≤ k + 1) ∧ (les (FF rk k s) (FF rk k (s ^^^ rk k)) = none → n + 1 ≤ min (GG rk n k s) (GG rk n k (s ^^^ rk k) + 1))
    cases e1 : FF rk k s with
    | none =>
      have g1 := h1.2 e1
      cases e2 : FF rk k (s ^^^ rk k) with
      | none =>
        have g2 := h2.2 e2
        refine ⟨fun v e => absurd (show (none : Option Nat) = some v from e) (by simp), fun _ => ?_⟩
        omega
      | some y =>
        have g2 := h2.1 y e2
        refine ⟨fun v e => ?_, fun e => absurd (show (some (y + 1) : Option Nat) = none from e) (by simp)⟩
        have e : y + 1 = v := Option.some.inj e
        omega
    | some x =>
      have g1 := h1.1 x e1
      cases e2 : FF rk k (s ^^^ rk k) with
      | none =>
        have g2 := h2.2 e2
        refine ⟨fun v e => ?_, fun e => absurd (show (some x : Option Nat) = none from e) (by simp)⟩
        have e : x = v := Option.some.inj e
        omega
      | some y =>
        have g2 := h2.1 y e2
        refine ⟨fun v e => ?_, fun e => absurd (show (some (min x (y + 1)) : Option Nat) = none from e) (by simp)⟩
        have e : min x (y + 1) = v := Option.some.inj e
        omega
def xr (rk : Nat → Nat) : List Nat → Nat
  | [] => 0
  | b :: l => (if b = 1 then rk l.length else 0) ^^^ xr rk l
theorem bits_tl {b : Nat} {l : List Nat} (h : Bits (b :: l)) : b < 2 ∧ Bits l := ⟨h b List.mem_cons_self, fun x hx => h x (List.mem_cons_of_mem _ hx)⟩
theorem bits_cons {b : Nat} {l : List Nat} (h1 : b < 2) (h2 : Bits l) : Bits (b :: l) := fun x hx => by
  rcases List.mem_cons.mp hx with rfl | hx
  · exact h1
  · exact h2 x hx
theorem xor_self3 (a b : Nat) : (a ^^^ b) ^^^ a = b := by rw [Nat.xor_comm a b, Nat.xor_assoc, Nat.xor_self, Nat.xor_zero]
theorem FF_le (rk : Nat → Nat) : ∀ {l : List Nat}, Bits l → ∃ v, FF rk l.length (xr rk l) = some v ∧ v ≤ l.sum
  | [], _ => ⟨0, rfl, Nat.le_refl _⟩
  | b :: l, h => by
    obtain ⟨hb, hl⟩ := bits_tl h
    obtain ⟨v, e, hv⟩ := FF_le rk hl
    have : b = 0 ∨ b = 1 := by omega
    rcases this with rfl | rfl
    · show ∃ v, les (FF rk l.length (0 ^^^ xr rk l)) (FF rk l.length ((0 ^^^ xr rk l) ^^^ rk l.length)) = some v ∧ v ≤ (0 :: l).sum
      rw [Nat.zero_xor, e, List.sum_cons]
      cases FF rk l.length (xr rk l ^^^ rk l.length) with
      | none => exact ⟨v, rfl, by omega⟩
      | some y => exact ⟨min v (y + 1), rfl, by omega⟩
    · show ∃ v, les (FF rk l.length (rk l.length ^^^ xr rk l)) (FF rk l.length ((rk l.length ^^^ xr rk l) ^^^ rk l.length)) = some v ∧ v ≤ (1 :: l).sum
      rw [xor_self3, e, List.sum_cons]
      cases FF rk l.length (rk l.length ^^^ xr rk l) with
      | none => exact ⟨v + 1, rfl, by omega⟩
      | some y => exact ⟨min y (v + 1), rfl, by omega⟩
def Gd (rk : Nat → Nat) : Nat → Nat → Nat → List Nat
  | 0, _, _ => []
  | k + 1, s, v => if FF rk k s = some v then 0 :: Gd rk k s v else 1 :: Gd rk k (s ^^^ rk k) (v - 1)
theorem FF_step {rk : Nat → Nat} {k s v : Nat} (h : FF rk (k + 1) s = some v) (hn : FF rk k s ≠ some v) : 1 ≤ v ∧ FF rk k (s ^^^ rk k) = some (v - 1) := by
  have h : les (FF rk k s) (FF rk k (s ^^^ rk k)) = some v := h
  cases e1 : FF rk k s with
  | none =>
    rw [e1] at h
    cases e2 : FF rk k (s ^^^ rk k) with
    | none => rw [e2] at h; cases h
    | some y =>
      rw [e2] at h
      have h : y + 1 = v := Option.some.inj h
      exact ⟨by omega, congrArg some (by omega)⟩
  | some x =>
    rw [e1] at h hn
    cases e2 : FF rk k (s ^^^ rk k) with
    | none => rw [e2] at h; exact absurd h hn
    | some y =>
      rw [e2] at h
      have h : min x (y + 1) = v := Option.some.inj h
      have hx : x ≠ v := fun e => hn (congrArg some e)
      exact ⟨by omega, congrArg some (by omega)⟩
theorem FF_low {rk : Nat → Nat} {k s v x : Nat} (h : FF rk (k + 1) s = some v) (hx : FF rk k s = some x) : v ≤ x := by
  have h : les (FF rk k s) (FF rk k (s ^^^ rk k)) = some v := h
  rw [hx] at h
  cases e2 : FF rk k (s ^^^ rk k) with
  | none => rw [e2] at h; cases h; exact Nat.le_refl _
  | some y =>
    rw [e2] at h
    have h : min x (y + 1) = v := Option.some.inj h
    omega
theorem Gd_ok {rk : Nat → Nat} : ∀ {k s v : Nat}, FF rk k s = some v → (Gd rk k s v).length = k ∧ Bits (Gd rk k s v) ∧ xr rk (Gd rk k s v) = s ∧ (Gd rk k s v).sum = v
  | 0, s, v, h => by
    unfold FF at h
    by_cases e : s = 0
    · rw [if_pos e] at h
      cases h
      exact ⟨rfl, fun x hx => absurd hx List.not_mem_nil, e.symm, rfl⟩
    · rw [if_neg e] at h
      cases h
  | k + 1, s, v, h => by
    unfold Gd
    by_cases e : FF rk k s = some v
    · rw [if_pos e]
      obtain ⟨a, b, c, d⟩ := Gd_ok e
      refine ⟨by rw [List.length_cons, a], bits_cons (by decide) b, ?_, by rw [List.sum_cons, d, Nat.zero_add]⟩
      show 0 ^^^ xr rk _ = s
      rw [Nat.zero_xor, c]
    · rw [if_neg e]
      obtain ⟨v1, e2⟩ := FF_step h e
      obtain ⟨a, b, c, d⟩ := Gd_ok e2
      refine ⟨by rw [List.length_cons, a], bits_cons (by decide) b, ?_, by rw [List.sum_cons, d]; omega⟩
      show rk (Gd rk k (s ^^^ rk k) (v - 1)).length ^^^ xr rk _ = s
      rw [a, c, Nat.xor_comm s, ← Nat.xor_assoc, Nat.xor_self, Nat.zero_xor]
theorem Gd_least {rk : Nat → Nat} : ∀ {l : List Nat} {s v : Nat}, Bits l → xr rk l = s → l.sum = v → FF rk l.length s = some v → numM (Gd rk l.length s v) ≤ numM l
  | [], s, v, _, _, _, _ => Nat.le_refl _
  | b :: l, s, v, h, hs, hv, hf => by
    obtain ⟨hb, hl⟩ := bits_tl h
    have hG := Gd_ok hf
    show numM (if FF rk l.length s = some v then 0 :: Gd rk l.length s v else 1 :: Gd rk l.length (s ^^^ rk l.length) (v - 1)) ≤ _
    have : b = 0 ∨ b = 1 := by omega
    by_cases e : FF rk l.length s = some v
    · rw [if_pos e]
      obtain ⟨ga, gb, gc, gd⟩ := Gd_ok e
      rw [numM_cons, numM_cons, ga]
      rcases this with rfl | rfl
      · have hs : 0 ^^^ xr rk l = s := hs
        rw [Nat.zero_xor] at hs
        rw [List.sum_cons, Nat.zero_add] at hv
        have := Gd_least hl hs hv e
        omega
      · have := numM_lt gb
        rw [ga] at this
        omega
    · rw [if_neg e]
      obtain ⟨v1, e2⟩ := FF_step hf e
      obtain ⟨ga, gb, gc, gd⟩ := Gd_ok e2
      rcases this with rfl | rfl
      · exfalso
        have hs : 0 ^^^ xr rk l = s := hs
        rw [Nat.zero_xor] at hs
        rw [List.sum_cons, Nat.zero_add] at hv
        obtain ⟨u, eu, hu⟩ := FF_le rk hl
        rw [hs] at eu
        have := FF_low hf eu
        apply e
        rw [eu]
        congr 1
        omega
      · have hs : rk l.length ^^^ xr rk l = s := hs
        rw [List.sum_cons] at hv
        have hx : xr rk l = s ^^^ rk l.length := by rw [← hs, xor_self3]
        have := Gd_least hl hx (show l.sum = v - 1 by omega) e2
        rw [numM_cons, numM_cons, ga]
        omega
/-- what is asked for -/
def dL (rk : Nat → Nat) (n t v : Nat) : List Nat := List.replicate (n - 1 - t) 0 ++ (1 :: Gd rk t (rk t) v)
def IsFew (rk : Nat → Nat) (n : Nat) : Option (Nat × List Nat) → Prop
  | none => ∀ t < n, FF rk t (rk t) = none
  | some (c, bits) => ∃ t v, t < n ∧ c = v + 1 ∧ FF rk t (rk t) = some v ∧ (∀ t' < n, ∀ v', FF rk t' (rk t') = some v' → v ≤ v') ∧ (∀ t' < t, FF rk t' (rk t') ≠ some v) ∧ bits = dL rk n t v
theorem few_unique {rk : Nat → Nat} {n : Nat} : ∀ {a b : Option (Nat × List Nat)}, IsFew rk n a → IsFew rk n b → a = b
  | none, none, _, _ => rfl
  | none, some (c, bits), h1, h2 => by
    obtain ⟨t, v, ht, _, e, _⟩ := h2
    rw [h1 t ht] at e
    cases e
  | some (c, bits), none, h1, h2 => by
    obtain ⟨t, v, ht, _, e, _⟩ := h1
    rw [h2 t ht] at e
    cases e
  | some (c, bits), some (c', bits'), h1, h2 => by
    obtain ⟨t, v, ht, hc, e, hm, hf, hb⟩ := h1
    obtain ⟨t', v', ht', hc', e', hm', hf', hb'⟩ := h2
    have e1 := hm t' ht' v' e'
    have e2 := hm' t ht v e
    have ev : v = v' := by omega
    subst ev
    have et : t = t' := by
      rcases Nat.lt_trichotomy t t' with x | x | x
      · exact absurd e (hf' t x)
      · exact x
      · exact absurd e' (hf t' x)
    subst et
    rw [hc, hc', hb, hb']
theorem few_ex (rk : Nat → Nat) (n : Nat) : ∃ r, IsFew rk n r := by
  by_cases h : ∃ t v, t < n ∧ FF rk t (rk t) = some v
  · obtain ⟨t0, v0, ht0, e0⟩ := h
    have hv : ∃ v, (∃ t < n, FF rk t (rk t) = some v) ∧ ∀ u < v, ¬ ∃ t < n, FF rk t (rk t) = some u := by
      have : ∀ m, (∃ t < n, FF rk t (rk t) = some m) → ∃ v, (∃ t < n, FF rk t (rk t) = some v) ∧ ∀ u < v, ¬ ∃ t < n, FF rk t (rk t) = some u := fun m => by
        induction m using Nat.strongRecOn with
        | ind m ih =>
          intro hm
          by_cases c : ∃ u, u < m ∧ ∃ t < n, FF rk t (rk t) = some u
          · obtain ⟨u, hu, hx⟩ := c
            exact ih u hu hx
          · exact ⟨m, hm, fun u hu hx => c ⟨u, hu, hx⟩⟩
      exact this v0 ⟨t0, ht0, e0⟩
    obtain ⟨v, ⟨t1, ht1, e1⟩, hmin⟩ := hv
    have ht : ∃ t, (t < n ∧ FF rk t (rk t) = some v) ∧ ∀ u < t, ¬ (u < n ∧ FF rk u (rk u) = some v) := by
      have : ∀ m, (m < n ∧ FF rk m (rk m) = some v) → ∃ t, (t < n ∧ FF rk t (rk t) = some v) ∧ ∀ u < t, ¬ (u < n ∧ FF rk u (rk u) = some v) := fun m => by
        induction m using Nat.strongRecOn with
        | ind m ih =>
          intro hm
          by_cases c : ∃ u, u < m ∧ (u < n ∧ FF rk u (rk u) = some v)
          · obtain ⟨u, hu, hx⟩ := c
            exact ih u hu hx
          · exact ⟨m, hm, fun u hu hx => c ⟨u, hu, hx⟩⟩
      exact this t1 ⟨ht1, e1⟩
    obtain ⟨t, ⟨ht, et⟩, hfirst⟩ := ht
    refine ⟨some (v + 1, dL rk n t v), t, v, ht, rfl, et, fun t' ht' v' e' => ?_, fun t' ht' e' => hfirst t' ht' ⟨by omega, e'⟩, rfl⟩
    rcases Nat.lt_or_ge v' v with c | c
    · exact absurd ⟨t', ht', e'⟩ (hmin v' c)
    · exact c
  · refine ⟨none, fun t ht => ?_⟩
    cases e : FF rk t (rk t) with
    | none => rfl
    | some v => exact absurd ⟨t, v, ht, e⟩ h
theorem xr_zeros (rk : Nat → Nat) (l : List Nat) : ∀ z, xr rk (List.replicate z 0 ++ l) = xr rk l
  | 0 => rfl
  | z + 1 => by
    rw [List.replicate_succ]
    show 0 ^^^ xr rk (List.replicate z 0 ++ l) = _
    rw [Nat.zero_xor, xr_zeros rk l z]
theorem numM_zeros (l : List Nat) : ∀ z, numM (List.replicate z 0 ++ l) = numM l
  | 0 => rfl
  | z + 1 => by
    rw [List.replicate_succ, List.cons_append, numM_cons, Nat.zero_mul, Nat.zero_add, numM_zeros l z]
theorem sum_zeros (l : List Nat) : ∀ z, (List.replicate z 0 ++ l).sum = l.sum
  | 0 => rfl
  | z + 1 => by rw [List.replicate_succ, List.cons_append, List.sum_cons, Nat.zero_add, sum_zeros l z]
theorem dL_ok {rk : Nat → Nat} {n t v : Nat} (ht : t < n) (h : FF rk t (rk t) = some v) : (dL rk n t v).length = n ∧ Bits (dL rk n t v) ∧ xr rk (dL rk n t v) = 0 ∧ (dL rk n t v).sum = v + 1 ∧ numM (dL rk n t v) = 2 ^ t + numM (Gd rk t (rk t) v) := by
  obtain ⟨a, b, c, d⟩ := Gd_ok h
  unfold dL
  refine ⟨?_, ?_, ?_, ?_, ?_⟩
  · rw [List.length_append, List.length_replicate, List.length_cons, a]
    omega
  · exact bitsA (bits0 _) (bits_cons (by decide) b)
  · rw [xr_zeros]
    show rk (Gd rk t (rk t) v).length ^^^ xr rk _ = 0
    rw [a, c, Nat.xor_self]
  · rw [sum_zeros, List.sum_cons, d]
    omega
  · rw [numM_zeros, numM_cons, a, Nat.one_mul]
/-- the first 1 of a list -/
theorem first_one : ∀ {l : List Nat}, Bits l → numM l ≠ 0 → ∃ z r, l = List.replicate z 0 ++ (1 :: r)
  | [], _, h => absurd rfl h
  | b :: l, hb, h => by
    obtain ⟨b2, hl⟩ := bits_tl hb
    have : b = 0 ∨ b = 1 := by omega
    rcases this with rfl | rfl
    · rw [numM_cons, Nat.zero_mul, Nat.zero_add] at h
      obtain ⟨z, r, e⟩ := first_one hl h
      exact ⟨z + 1, r, by rw [e, List.replicate_succ]; rfl⟩
    · exact ⟨0, l, rfl⟩
def Valid (rk : Nat → Nat) (n x : Nat) : Prop := 1 ≤ x ∧ x < 2 ^ n ∧ xr rk (bM n x) = 0
def Best (rk : Nat → Nat) (n m : Nat) : Option (Nat × List Nat) → Prop
  | none => ∀ x, x < m → ¬ Valid rk n x
  | some (c, bits) => ∃ x, x < m ∧ Valid rk n x ∧ bits = bM n x ∧ c = (bM n x).sum ∧ ∀ y, y < m → Valid rk n y → c < (bM n y).sum ∨ (c = (bM n y).sum ∧ x ≤ y)
theorem bM_of {l : List Nat} {n : Nat} (hl : l.length = n) (hb : Bits l) : bM n (numM l) = l := by
  have lt := numM_lt hb
  rw [hl] at lt
  exact (numM_inj (bM_bits _ _) hb (by rw [bM_len, hl])).mp (by rw [numM_bM, Nat.mod_eq_of_lt lt])
theorem dL_valid {rk : Nat → Nat} {n t v : Nat} (ht : t < n) (h : FF rk t (rk t) = some v) : Valid rk n (numM (dL rk n t v)) ∧ (bM n (numM (dL rk n t v))).sum = v + 1 := by
  obtain ⟨a, b, c, d, e⟩ := dL_ok ht h
  have lt := numM_lt b
  rw [a] at lt
  have p := Nat.two_pow_pos t
  rw [bM_of a b]
  refine ⟨⟨by omega, lt, ?_⟩, d⟩
  rw [bM_of a b]
  exact c
theorem best_few {rk : Nat → Nat} {n : Nat} : ∀ {r : Option (Nat × List Nat)}, Best rk n (2 ^ n) r → IsFew rk n r
  | none, h => fun t ht => by
    cases e : FF rk t (rk t) with
    | none => rfl
    | some v =>
      obtain ⟨hv, _⟩ := dL_valid ht e
      exact absurd hv (h _ hv.2.1)
  | some (c, bits), h => by
    obtain ⟨x, hx, hv, hbits, hc, hmin⟩ := h
    have xb := bM_bits n x
    have xl := bM_len n x
    have xn : numM (bM n x) = x := by rw [numM_bM, Nat.mod_eq_of_lt hx]
    obtain ⟨z, l, el⟩ := first_one xb (by rw [xn]; have := hv.1; omega)
    have lb : Bits l := fun y hy => xb y (by rw [el]; exact List.mem_append_right _ (List.mem_cons_of_mem _ hy))
    have len : z + (l.length + 1) = n := by
      rw [← xl, el, List.length_append, List.length_replicate, List.length_cons]
    have hxr : xr rk l = rk l.length := by
      have := hv.2.2
      rw [el, xr_zeros] at this
      have this : rk l.length ^^^ xr rk l = 0 := this
      exact (xor_zero_iff.mp this).symm
    have hsum : c = l.sum + 1 := by
      rw [hc, el, sum_zeros, List.sum_cons]
      omega
    obtain ⟨v, ev, hvl⟩ := FF_le rk lb
    rw [hxr] at ev
    have ht : l.length < n := by omega
    obtain ⟨dv, ds⟩ := dL_valid ht ev
    have dn := (dL_ok ht ev).2.2.2.2
    have hv2 : v = l.sum := by
      rcases hmin _ dv.2.1 dv with q | q <;> rw [ds] at q <;> omega
    subst hv2
    have hle : x ≤ numM (dL rk n l.length l.sum) := by
      rcases hmin _ dv.2.1 dv with q | q
      · rw [ds] at q
        omega
      · exact q.2
    have hxn : x = 2 ^ l.length + numM l := by
      rw [← xn, el, numM_zeros, numM_cons, Nat.one_mul]
    have hg := Gd_least lb hxr rfl ev
    have hgo := Gd_ok ev
    have el2 : l = Gd rk l.length (rk l.length) l.sum := (numM_inj lb hgo.2.1 hgo.1.symm).mp (by omega)
    refine ⟨l.length, l.sum, ht, hsum, ev, fun t' ht' v' e' => ?_, fun t' ht' e' => ?_, ?_⟩
    · obtain ⟨dv', ds'⟩ := dL_valid ht' e'
      rcases hmin _ dv'.2.1 dv' with q | q <;> rw [ds'] at q <;> omega
    · obtain ⟨dv', ds'⟩ := dL_valid (show t' < n by omega) e'
      have dn' := (dL_ok (show t' < n by omega) e').2.2.2.2
      have gl := numM_lt (Gd_ok e').2.1
      rw [(Gd_ok e').1] at gl
      have pw : 2 ^ (t' + 1) ≤ 2 ^ l.length := Nat.pow_le_pow_right (by decide) ht'
      rw [Nat.pow_succ] at pw
      rcases hmin _ dv'.2.1 dv' with q | q
      · rw [ds'] at q
        omega
      · have := q.2
        omega
    · rw [hbits, el]
      unfold dL
      rw [← el2, show n - 1 - l.length = z by omega]
/-- rests of rows by those of the powers -/
theorem xr_rst {w p : Nat} (h : PW w p) : ∀ {l : List Nat}, Bits l → xr (fun k => itN (nxt w p) k 1) l = rst w p l
  | [], _ => rfl
  | b :: l, hb => by
    obtain ⟨b2, hl⟩ := bits_tl hb
    have e : b :: l = addX (b :: List.replicate l.length 0) (0 :: l) := by
      show b :: l = (b ^^^ 0) :: addX (List.replicate l.length 0) l
      rw [Nat.xor_zero]
      congr 1
      refine List.ext_getElem (by simp [addX]) fun i h1 h2 => ?_
      simp [addX]
    show (if b = 1 then itN (nxt w p) l.length 1 else 0) ^^^ xr _ l = _
    rw [xr_rst h hl]
    conv => rhs; rw [e]
    rw [rst_xor (bits_cons b2 (bits0 _)) (bits_cons (by decide) hl) (by simp)]
    have e0 : rst w p (0 :: l) = rst w p l := rst_ahead w p 1 l
    rw [e0]
    congr 1
    have : b = 0 ∨ b = 1 := by omega
    rcases this with rfl | rfl
    · rw [if_neg (by decide), show (0 : Nat) :: List.replicate l.length 0 = List.replicate (l.length + 1) 0 from rfl, rst_zeros]
    · rw [if_pos rfl]
      have := rst_one_behind (p := p) h.w1 0 l.length
      rw [List.replicate_zero, List.nil_append] at this
      exact this.symm

/-! ### draws of checks -/
def lpF (v : Nat) (cs : List Int) (s : Int) : Nat := 2 ^ v + 2 * (drw cs s (1 * 2 ^ ((v : Int)).toNat / 2)).1.toNat + 1
theorem half_pos {v : Nat} (h1 : 1 ≤ v) (h2 : v ≤ 16) : 0 < (1 * 2 ^ ((v : Int)).toNat / 2 : Int) ∧ (1 * 2 ^ ((v : Int)).toNat / 2 : Int) < 1073741824 ∧ (1 * 2 ^ ((v : Int)).toNat / 2 : Int) * 2 = ((2 ^ v : Nat) : Int) := by
  obtain ⟨u, rfl⟩ : ∃ u, v = u + 1 := ⟨v - 1, by omega⟩
  have p : 0 < 2 ^ u := Nat.two_pow_pos u
  have q : 2 ^ u ≤ 2 ^ 15 := Nat.pow_le_pow_right (by decide) (by omega)
  have e : (1 * 2 ^ (((u + 1 : Nat) : Int)).toNat : Int) = ((2 ^ (u + 1) : Nat) : Int) := pow_int (u + 1)
  rw [e, Nat.pow_succ]
  have q : 2 ^ u ≤ 32768 := q
  omega
theorem lp_ks {v : Nat} (h1 : 1 ≤ v) (h2 : v ≤ 16) (cs : List Int) (s : Int) : KS v (lpF v cs s) := by
  obtain ⟨a, b, c⟩ := half_pos h1 h2
  have d1 := drw_lo cs s a
  have d2 := drw_hi cs s a
  unfold lpF
  generalize (drw cs s (1 * 2 ^ ((v : Int)).toNat / 2)).1 = d at *
  generalize (1 * 2 ^ ((v : Int)).toNat / 2 : Int) = hf at *
  have hp : 2 ^ (v + 1) = 2 ^ v * 2 := Nat.pow_succ ..
  exact ⟨h1, h2, by omega, by omega, by omega⟩
theorem nd_at {l : List Nat} {k : Nat} (h : k < l.length) : atI (nD l) (k : Int) = some (.int (l.getD k 0 : Nat)) := atI_nat (j := k) (by
  unfold nD
  rw [List.getElem?_map, List.getD_eq_getElem?_getD, List.getElem?_eq_getElem h]
  rfl)
theorem nD_app (a b : List Nat) : nD (a ++ b) = nD a ++ nD b := by simp [nD]
theorem nD_take (l : List Nat) (n : Nat) : nD (l.take n) = (nD l).take n := by simp [nD, List.map_take]
theorem nD_drop (l : List Nat) (n : Nat) : nD (l.drop n) = (nD l).drop n := by simp [nD, List.map_drop]
theorem sj_frzT {X : Cx} {N : Ent} {ρ : Rho} {sts : List Stmt} {Z : Post} {Mb : Mem} {q : Addr} {ds : List PyData} (n : Nat) (hρ : ρ[n]? = some (some (.v (.ref q)))) (hF : q ∉ N.F) (hr : SJ X N (ρ.set n (some (.d (.list ds)))) Mb sts Z) : SJ X N ρ (Mb ++ [(q, ds.map It.d)]) sts Z :=
  sj_nd fun hne => sj_freeze n (p := q) (ds := ds) hρ (List.mem_append_right _ (List.mem_singleton.mpr rfl)) hF (by
    rw [filter_last hne]
    exact hr)
theorem put_none {p : Addr} {X : List Kt.It} : ∀ {M : Mem}, p ∉ M.map Prod.fst → M.put p X = M
  | [], _ => rfl
  | c :: r, h => by
    have h1 : c.1 ≠ p := fun e => h (e ▸ List.mem_cons_self)
    have h2 := put_none (X := X) (M := r) fun e => h (List.mem_cons_of_mem _ e)
    unfold Mem.put at h2 ⊢
    rw [List.map_cons, h2, if_neg h1]
theorem put_end {M : Mem} {p : Addr} {A B : List Kt.It} (nd : ((M ++ [(p, A)]).map Prod.fst).Nodup) : (M ++ [(p, A)]).put p B = M ++ [(p, B)] := put_last nd

def lcW (cs : List Int) (s most : Int) : Nat := (1 + (drw cs s most).1).toNat
def lcP (cs : List Int) (s most : Int) : Nat := lpF (lcW cs s most) (drw cs s most).2.1 (drw cs s most).2.2
def lcS (cs : List Int) (s most : Int) : List Int × Int := (drw (drw cs s most).2.1 (drw cs s most).2.2 (1 * 2 ^ ((lcW cs s most : Nat) : Int).toNat / 2)).2
theorem lcW_ok {cs : List Int} {s most : Int} (h1 : 1 ≤ most) (h2 : most ≤ 16) : 1 ≤ lcW cs s most ∧ lcW cs s most ≤ 16 ∧ 1 + (drw cs s most).1 = ((lcW cs s most : Nat) : Int) ∧ ((lcW cs s most : Nat) : Int) ≤ most := by
  have a := drw_lo (many := most) cs s (by omega)
  have b := drw_hi (many := most) cs s (by omega)
  unfold lcW
  omega
theorem lc_ks {cs : List Int} {s most : Int} (h1 : 1 ≤ most) (h2 : most ≤ 16) : KS (lcW cs s most) (lcP cs s most) := by
  obtain ⟨a, b, _, _⟩ := lcW_ok (cs := cs) (s := s) h1 h2
  exact lp_ks a b _ _
theorem lcS_len {cs : List Int} {s most : Int} (h : cs.length ≤ 63) : (lcS cs s most).1.length ≤ 63 := Nat.le_trans (drw_len _ _ _) (Nat.le_trans (drw_len _ _ _) h)
def CoLC : Co := fun is M i M' => ∃ (a c : Addr) (cs : List Int) (s most : Int), is = [.v (.ref a), dI most] ∧ M = Stt a c cs s ∧ 1 ≤ most ∧ most ≤ 16 ∧ cs.length ≤ 63 ∧ i = .d (ckD (lcW cs s most) (lcP cs s most)) ∧ M' = Stt a c (lcS cs s most).1 (lcS cs s most).2
theorem cut_neg {ds : List PyData} {n : Nat} (h1 : 1 ≤ n) (h : n ≤ ds.length) : Kt.cutD ds (some (-(n : Int))) none = ds.drop (ds.length - n) := by
  unfold Kt.cutD
  have e : HT.sIx ds.length 0 (some (-(n : Int))) = ds.length - n := by
    have := HT.clip_eq (-(n : Int)) ds.length 0
    rw [if_pos (by omega)] at this
    omega
  rw [HT.sIx_none, e, List.take_of_length_le (by simp)]
theorem nI_at {l : List Nat} {k x : Nat} (h : l[k]? = some x) : atI (nI l) (k : Int) = some (dI (x : Int)) := atI_nat (j := k) (by
  unfold nI
  rw [List.getElem?_map, h]
  rfl)
theorem nI_set (l : List Nat) (k x : Nat) : (nI l).set k (dI (x : Int)) = nI (l.set k x) := by
  unfold nI
  rw [List.map_set]
section
variable {P : Program} {w : World} {K : PySem.W.Frag} {mg : Str → Option Value} {base : Heap}
theorem d_law_check (T : Txt K mg) : Def P w K mg base "_law_check" 2 CoLC := by
  obtain ⟨f, fd, F, hm, hb⟩ := T.f_law_check
  have GD := d_law_draw (P := P) (w := w) (base := base) T
  refine def_ok F sc_law_check hm hb (fun is M i M' h => ?_) fun X hX N is M i M' hF hC => ?_
  · obtain ⟨a, c, cs, s, most, rfl, rfl, _, _, _, _, rfl⟩ := h
    exact ⟨rfl, rfl⟩
  · obtain ⟨cdv, A, outer, sh, H, E, rfl, hr⟩ := hX
    obtain ⟨a, c, cs, s, most, rfl, rfl, m1, m2, hl, rfl, rfl⟩ := hC
    have nd := sc_law_check.nd
    obtain ⟨a1, a2, a3, a4⟩ := lcW_ok (cs := cs) (s := s) m1 m2
    obtain ⟨q1, q2, q3⟩ := half_pos a1 a2
    have la := Nat.le_trans (drw_len cs s most) hl
    unfold lcP lcS
    refine sj_set (i := dI ((lcW cs s most : Nat) : Int)) (M1 := Stt a c (drw cs s most).2.1 (drw cs s most).2.2 ++ []) 2 nd (ej_is (ej_add ej_int (ej_draw GD hr (Mr := []) (ej_m (ej_name 0) rfl) (ej_name 1) (by omega) (by omega) hl)) (by rw [a3])) ?_
    generalize (drw cs s most).2.1 = cs1 at la ⊢
    generalize (drw cs s most).2.2 = s1
    generalize lcW cs s most = v at a1 a2 q1 q2 q3 ⊢
    rw [List.append_nil]
    have d1 := drw_lo cs1 s1 q1
    refine sj_ret (i := .d (ckD v (lpF v cs1 s1))) (M1 := Stt a c (drw cs1 s1 (1 * 2 ^ ((v : Nat) : Int).toNat / 2)).2.1 (drw cs1 s1 (1 * 2 ^ ((v : Nat) : Int).toNat / 2)).2.2 ++ []) (ej_tup (ds := [.str "check", .int v, .int (lpF v cs1 s1 : Nat)]) (aj_cons ej_str (aj_cons (ej_name 2) (aj_cons (ej_is (ej_add (ej_add (ej_shl (n := 1) (m := (v : Int)) ej_int (ej_name (i := dI (v : Int)) 2) (cpow_ok (by omega))) (ej_mul (n := 2) ej_int (ej_draw GD hr (Mr := []) (ej_m (ej_name 0) rfl) (ej_fdiv (ej_shl (n := 1) (m := (v : Int)) ej_int (ej_name (i := dI (v : Int)) 2) (cpow_ok (by omega))) ej_int (by decide)) q1 (by omega) la) (.inl (by decide)))) ej_int) (j := dI ((lpF v cs1 s1 : Nat) : Int)) ?_) aj_nil)))) ⟨rfl, [], rfl⟩
    have e := pow_int v
    unfold lpF
    generalize (drw cs1 s1 (1 * 2 ^ ((v : Int)).toNat / 2)).1 = d at *
    rw [e]
    refine congrArg dI ?_
    generalize 2 ^ v = z
    omega
end

/-! ### the fewest ones: the program -/
def rkF (w p k : Nat) : Nat := itN (nxt w p) k 1
def rsL (w p n : Nat) : List Nat := (List.range n).map (rkF w p)
def ffL (w p k : Nat) : List (Option Nat) := (List.range (2 ^ w)).map (FF (rkF w p) k)
def rowD (w p k : Nat) : PyData := .list ((ffL w p k).map oD)
def fewD (w p n : Nat) : List PyData := (List.range n).map (rowD w p)
def onesF (rk : Nat → Nat) : Nat → Nat → Nat → List Nat
  | 0, _, _ => []
  | k + 1, s, v => if FF rk k s = some v then onesF rk k s v else k :: onesF rk k (s ^^^ rk k) (v - 1)
def resD : Option (Nat × List Nat) → PyData
  | none => .none
  | some (c, bits) => .tuple [.int (c : Int), .list (nD bits)]
theorem rsL_len (w p n : Nat) : (rsL w p n).length = n := by simp [rsL]
theorem fewD_len (w p n : Nat) : (fewD w p n).length = n := by simp [fewD]
theorem rsL_succ (w p k : Nat) : nI (rsL w p k) ++ [dI (rkF w p k : Nat)] = nI (rsL w p (k + 1)) := by
  unfold nI rsL
  rw [List.range_succ, List.map_append, List.map_append]
  rfl
theorem rsL_at {w p n k : Nat} (h : k < n) : atI (nD (rsL w p n)) (k : Int) = some (.int (rkF w p k : Nat)) := atI_nat (j := k) (by
  unfold nD rsL
  rw [List.getElem?_map, List.getElem?_map, List.getElem?_range h]
  rfl)
theorem fewD_at {w p n k : Nat} (h : k < n) : atI (fewD w p n) (k : Int) = some (rowD w p k) := atI_nat (j := k) (by
  unfold fewD
  rw [List.getElem?_map, List.getElem?_range h]
  rfl)
theorem ffL_at {w p k s : Nat} (h : s < 2 ^ w) : atI ((ffL w p k).map oD) (s : Int) = some (oD (FF (rkF w p) k s)) := atI_nat (j := s) (by
  unfold ffL
  rw [List.getElem?_map, List.getElem?_map, List.getElem?_range h]
  rfl)
theorem rk_lt {w p : Nat} (ks : KS w p) (k : Nat) : rkF w p k < 2 ^ w := itN_lt ks.pw (one_lt_pow ks.w1) k
theorem at_last {α : Type} {l : List α} {x : α} : atI (l ++ [x]) (-1) = some x := by
  unfold atI
  have e : ixN (l ++ [x]).length (-1) = some l.length := by
    rw [List.length_append]
    unfold ixN
    simp
    omega
  rw [e]
  show (l ++ [x])[l.length]? = some x
  simp
theorem ones_lt {rk : Nat → Nat} : ∀ {k s v : Nat}, ∀ x ∈ onesF rk k s v, x < k
  | 0, _, _, x, h => absurd h List.not_mem_nil
  | k + 1, s, v, x, h => by
    unfold onesF at h
    split at h
    · have := ones_lt x h
      omega
    · rcases List.mem_cons.mp h with rfl | h
      · omega
      · have := ones_lt x h
        omega
theorem ones_bits {rk : Nat → Nat} : ∀ (k s v : Nat), (List.range k).map (fun j => if k - 1 - j ∈ onesF rk k s v then 1 else 0) = Gd rk k s v
  | 0, _, _ => rfl
  | k + 1, s, v => by
    rw [List.range_succ_eq_map, List.map_cons, List.map_map]
    have sh : ∀ S : List Nat, (∀ x ∈ S, x ≤ k) → (List.range k).map ((fun j => if k + 1 - 1 - j ∈ S then 1 else 0) ∘ Nat.succ) = (List.range k).map (fun j => if k - 1 - j ∈ S then 1 else 0) := fun S _ => by
      refine List.map_congr_left fun j hj => ?_
      show (if k + 1 - 1 - (j + 1) ∈ S then 1 else 0) = _
      rw [show k + 1 - 1 - (j + 1) = k - 1 - j by omega]
    rw [sh _ (fun x hx => by have := ones_lt x hx; omega)]
    unfold onesF Gd
    by_cases e : FF rk k s = some v
    · rw [if_pos e, if_pos e, ones_bits k s v, if_neg (fun h => absurd (ones_lt _ h) (by omega))]
    · rw [if_neg e, if_neg e, if_pos (by simp)]
      congr 1
      rw [← ones_bits k (s ^^^ rk k) (v - 1)]
      refine List.map_congr_left fun j hj => ?_
      have hj := List.mem_range.mp hj
      by_cases m : k - 1 - j ∈ onesF rk k (s ^^^ rk k) (v - 1)
      · rw [if_pos (List.mem_cons_of_mem _ m), if_pos m]
      · rw [if_neg m, if_neg (fun h => by
          rcases List.mem_cons.mp h with h | h
          · omega
          · exact m h)]
theorem dL_bits {rk : Nat → Nat} {n t v : Nat} (h : t < n) : (List.range n).map (fun j => if n - 1 - j ∈ t :: onesF rk t (rk t) v then 1 else 0) = dL rk n t v := by
  obtain ⟨z, rfl⟩ : ∃ z, n = z + (t + 1) := ⟨n - (t + 1), by omega⟩
  unfold dL
  rw [List.range_add, List.map_append, List.map_map]
  congr 1
  · rw [show z + (t + 1) - 1 - t = z by omega]
    refine List.eq_replicate_iff.mpr ⟨by simp, fun x hx => ?_⟩
    obtain ⟨j, hj, rfl⟩ := List.mem_map.mp hx
    have hj := List.mem_range.mp hj
    rw [if_neg fun h => ?_]
    rcases List.mem_cons.mp h with h | h
    · omega
    · have := ones_lt _ h
      omega
  · rw [List.range_succ_eq_map, List.map_cons, List.map_map]
    congr 1
    · show (if z + (t + 1) - 1 - (z + 0) ∈ _ then 1 else 0) = 1
      rw [if_pos (by rw [show z + (t + 1) - 1 - (z + 0) = t by omega]; exact List.mem_cons_self)]
    · rw [← ones_bits t (rk t) v]
      refine List.map_congr_left fun j hj => ?_
      have hj := List.mem_range.mp hj
      show (if z + (t + 1) - 1 - (z + (j + 1)) ∈ _ then 1 else 0) = _
      rw [show z + (t + 1) - 1 - (z + (j + 1)) = t - 1 - j by omega]
      by_cases m : t - 1 - j ∈ onesF rk t (rk t) v
      · rw [if_pos (List.mem_cons_of_mem _ m), if_pos m]
      · rw [if_neg m, if_neg (fun h => by
          rcases List.mem_cons.mp h with h | h
          · omega
          · exact m h)]
theorem eqv_oD (a : Option Nat) (u : Nat) : PyData.eqv (oD a) (.int (u : Int)) = decide (a = some u) := by
  cases a with
  | none => rfl
  | some x =>
    show PyData.eqv (.int (x : Int)) (.int (u : Int)) = _
    have e : PyData.eqv (.int (x : Int)) (.int (u : Int)) = decide ((x : Int) = (u : Int)) := rfl
    rw [e]
    exact decide_eq_decide.mpr (by simp; omega)
theorem oD_plain (a : Option Nat) : plainD (oD a) = true := by
  cases a with
  | none => rfl
  | some x => rfl
theorem noneFlat (m : Nat) : [PyData.int 0] ++ (List.replicate m [PyData.none]).flatten = PyData.int 0 :: List.replicate m .none := by
  induction m with
  | zero => rfl
  | succ m ih =>
    rw [List.replicate_succ, List.replicate_succ, List.flatten_cons]
    have this : (List.replicate m [PyData.none]).flatten = List.replicate m .none := (List.cons.inj ih).2
    show _ :: (.none :: (List.replicate m [PyData.none]).flatten) = _
    rw [this]
theorem row0 (w p : Nat) : [PyData.int 0] ++ (List.replicate (((2 ^ w : Nat) : Int) - 1).toNat [PyData.none]).flatten = (ffL w p 0).map oD := by
  have := Nat.two_pow_pos w
  obtain ⟨m, e⟩ : ∃ m, 2 ^ w = m + 1 := ⟨2 ^ w - 1, by omega⟩
  rw [noneFlat]
  unfold ffL
  rw [e, show (((m + 1 : Nat) : Int) - 1).toNat = m by omega, List.range_succ_eq_map, List.map_cons, List.map_cons, List.map_map, List.map_map]
  congr 1
  symm
  refine List.eq_replicate_iff.mpr ⟨by simp, fun x hx => ?_⟩
  obtain ⟨j, hj, rfl⟩ := List.mem_map.mp hx
  rfl
def CoPR : Co := fun is M i M' => M = [] ∧ M' = [] ∧ ∃ w p n : Nat, is = [.d (ckD w p), dI n] ∧ KS w p ∧ n ≤ 10000 ∧ i = .d (.list (nD (rsL w p n)))
def CoLes : Co := fun is M i M' => M = [] ∧ M' = [] ∧ ∃ a b : Option Nat, is = [.d (oD a), .d (oD b)] ∧ i = .d (oD (les a b))
def CoFO : Co := fun is M i M' => M = [] ∧ M' = [] ∧ ∃ w p n : Nat, is = [.d (ckD w p), .d (.list (nD (rsL w p n)))] ∧ KS w p ∧ n ≤ 10000 ∧ i = .d (.list (fewD w p (n + 1)))
def CoLO : Co := fun is M i M' => M = [] ∧ M' = [] ∧ ∃ w p n t v : Nat, is = [.d (.list (fewD w p (n + 1))), .d (.list (nD (rsL w p n))), dI t] ∧ KS w p ∧ t < n ∧ n ≤ 10000 ∧ FF (rkF w p) t (rkF w p t) = some v ∧ i = .d (.list (nD (onesF (rkF w p) t (rkF w p t) v)))
def CoFU : Co := fun is M i M' => M = [] ∧ M' = [] ∧ ∃ (w p n : Nat) (r : Option (Nat × List Nat)), is = [.d (ckD w p), dI n] ∧ KS w p ∧ n ≤ 10000 ∧ IsFew (rkF w p) n r ∧ i = .d (resD r)
section
variable {P : Program} {w : World} {K : PySem.W.Frag} {mg : Str → Option Value} {base : Heap}
theorem d_power_rests (T : Txt K mg) : Def P w K mg base "power_rests" 3 CoPR := by
  obtain ⟨f, fd, F, hm, hb⟩ := T.f_power_rests
  have G1 := d_pushed (P := P) (w := w) (base := base) T
  have G2 := d_rest_of (P := P) (w := w) (base := base) T
  refine def_ok F sc_power_rests hm hb (fun is M i M' h => ?_) fun X hX N is M i M' hF hC => ?_
  · obtain ⟨rfl, rfl, v, p, n, rfl, _⟩ := h
    exact ⟨rfl, rfl⟩
  · obtain ⟨cdv, A, outer, sh, H, E, rfl, hr⟩ := hX
    obtain ⟨rfl, rfl, v, p, n, rfl, ks, hn, rfl⟩ := hC
    have nd := sc_power_rests.nd
    have e1 : rst v p [1] = 1 := rst_short (w := v) (p := p) 1 rfl bits_one ks.w1
    refine sj_own 2 (is := []) (M1 := []) nd (el_disp aj_nil) fun o ho => ?_
    refine sj_set (i := dI ((1 : Nat) : Int)) 3 nd (ej_is (ej_callP G2 (hr.mono (by decide)) (aj_cons (ej_name 0) (aj_cons (ej_is (jl1 ej_int) (j := .d (.list (nD [1]))) rfl) aj_nil)) ⟨rfl, rfl, v, p, [1], rfl, ks, bits_one, rfl⟩) (by rw [e1])) ?_
    refine sj_forR (m := (n : Int)) rfl T.b_range (ej_name 1) (by omega) (fun k ρ M => ∃ y4, ρ = [some (.d (ckD v p)), some (dI (n : Int)), some (.v (.ref o)), some (dI ((rkF v p k : Nat) : Int)), y4] ∧ M = [(o, nI (rsL v p k))]) ⟨none, rfl, rfl⟩ (fun k ρ M hk hI => ?_) fun ρ M hI => ?_
    · obtain ⟨y4, rfl, rfl⟩ := hI
      refine ⟨_, gj_name 4 nd, ?_⟩
      refine sj_append (p := o) (is := nI (rsL v p k)) (is0 := nI (rsL v p k)) (ej_name 2) (List.mem_singleton.mpr rfl) (ej_name 3) (List.mem_singleton.mpr rfl) (by rw [nI_len, rsL_len]; omega) ?_
      rw [mem1_put, rsL_succ]
      exact sj_set (i := dI ((rkF v p (k + 1) : Nat) : Int)) 3 nd (ej_callP G1 (hr.mono (by decide)) (aj_cons (ej_name 0) (aj_cons (ej_name 3) (aj_cons (ej_is ej_int (j := dI ((0 : Nat) : Int)) rfl) aj_nil))) ⟨rfl, rfl, v, p, _, 0, rfl, ks, rk_lt ks k, by decide, rfl⟩) (sj_nil ⟨some (dI (k : Int)), rfl, rfl⟩)
    · obtain ⟨y4, rfl, rfl⟩ := hI
      rw [Int.toNat_natCast]
      refine sj_freeze 2 (p := o) (ds := nD (rsL v p n)) rfl (by rw [← nI_d]; exact List.mem_singleton.mpr rfl) ho ?_
      exact sj_ret (ej_name 2) ⟨rfl, [], by simp⟩
theorem d_lesser (T : Txt K mg) : Def P w K mg base "lesser" 1 CoLes := by
  obtain ⟨f, fd, F, hm, hb⟩ := T.f_lesser
  refine def_ok F sc_lesser hm hb (fun is M i M' h => ?_) fun X hX N is M i M' hF hC => ?_
  · obtain ⟨rfl, rfl, a, b, rfl, _⟩ := h
    exact ⟨rfl, rfl⟩
  · obtain ⟨cdv, A, outer, sh, H, E, rfl, hr⟩ := hX
    obtain ⟨rfl, rfl, a, b, rfl, rfl⟩ := hC
    have nd := sc_lesser.nd
    cases b with
    | none =>
      refine sj_if (t := true) (tj_is (tj_isN (ej_name 1) ej_non) rfl) (fun _ => sj_ret (ej_name 0) ⟨?_, [], rfl⟩) (fun h => nomatch h)
      cases a <;> rfl
    | some y =>
      refine sj_if (t := false) (tj_is (tj_isN (ej_name 1) ej_non) rfl) (fun h => nomatch h) fun _ => sj_nil ?_
      cases a with
      | none => exact sj_ret (ej_if (t := true) (i := dI ((y + 1 : Nat) : Int)) (tj_is (tj_isN (ej_name 0) ej_non) rfl) (fun _ => ej_is (ej_add (n := (y : Int)) (ej_name 1) ej_int) (by rw [Int.natCast_add]; rfl)) (fun h => nomatch h)) ⟨rfl, [], rfl⟩
      | some x =>
        refine sj_ret (ej_if (t := false) (i := dI ((min x (y + 1) : Nat) : Int)) (tj_is (tj_isN (ej_name 0) ej_non) rfl) (fun h => nomatch h) (fun _ => ej_is (ej_min2 (n := (x : Int)) rfl T.b_min (ej_name 0) (ej_add (n := (y : Int)) (ej_name 1) ej_int)) ?_)) ⟨rfl, [], rfl⟩
        refine congrArg dI ?_
        split <;> omega
theorem d_fewest_ones (T : Txt K mg) : Def P w K mg base "fewest_ones" 2 CoFO := by
  obtain ⟨f, fd, F, hm, hb⟩ := T.f_fewest_ones
  have G := d_lesser (P := P) (w := w) (base := base) T
  refine def_ok F sc_fewest_ones hm hb (fun is M i M' h => ?_) fun X hX N is M i M' hF hC => ?_
  · obtain ⟨rfl, rfl, v, p, n, rfl, _⟩ := h
    exact ⟨rfl, rfl⟩
  · obtain ⟨cdv, A, outer, sh, H, E, rfl, hr⟩ := hX
    obtain ⟨rfl, rfl, v, p, n, rfl, ks, hn, rfl⟩ := hC
    have nd := sc_fewest_ones.nd
    have v2 := ks.w2
    have hr1 : Room 1 (A.deeper (envOfC "fewest_ones" (defScope s_fewest_ones) sh.heap.objs.size f cdv)) := hr.mono (by decide)
    have pz : 2 ^ v ≤ 65536 := show 2 ^ v ≤ 2 ^ 16 from Nat.pow_le_pow_right (by decide) v2
    have p0 := Nat.two_pow_pos v
    refine sj_set (i := dI ((2 ^ v : Nat) : Int)) 2 nd (ej_is (ej_shl (n := 1) (m := (v : Int)) ej_int (ej_ixT (ds := [.str "check", .int (v : Int), .int (p : Int)]) (ej_name 0) ej_int (atI_nat (j := 1) rfl)) (cpow_ok (by omega))) (by rw [pow_int])) ?_
    refine sj_ownLL 3 nd (el_cat (ds := [.int 0]) (es := (List.replicate (((2 ^ v : Nat) : Int) - 1).toNat [PyData.none]).flatten) (jl1 ej_int) (ej_el (el_rep (ds := [.none]) (n := ((2 ^ v : Nat) : Int) - 1) (jl1 ej_non) (ej_sub (ej_name (i := dI ((2 ^ v : Nat) : Int)) 2) ej_int) (by omega) (by omega) (by show 1 * _ ≤ 100000; omega)) rfl) (by have := congrArg List.length (row0 v p); rw [List.length_append] at this; rw [this]; simp [ffL]; omega)) fun q o hq ho => ?_
    refine sj_freezeIn hq ?_
    rw [row0 v p]
    refine sj_forL (ds := nD (rsL v p n)) rfl (ej_name 1) (fun k ρ M => ∃ y4 y5 y6, ρ = [some (.d (ckD v p)), some (.d (.list (nD (rsL v p n)))), some (dI ((2 ^ v : Nat) : Int)), some (.v (.ref o)), y4, y5, y6] ∧ M = [(o, (fewD v p (k + 1)).map It.d)]) ⟨none, none, none, rfl, rfl⟩ (fun k d ρ M hk hI => ?_) fun ρ M hI => ?_
    · obtain ⟨y4, y5, y6, rfl, rfl⟩ := hI
      obtain ⟨b, eb, rfl⟩ := nD_get hk
      have kn : k < n := by
        have := (List.getElem?_eq_some_iff.mp eb).1
        rwa [rsL_len] at this
      have eb : b = rkF v p k := by
        unfold rsL at eb
        rw [List.getElem?_map, List.getElem?_range kn] at eb
        exact (Option.some.inj eb).symm
      subst eb
      have fs : fewD v p (k + 1) = fewD v p k ++ [rowD v p k] := by
        unfold fewD
        rw [List.range_succ, List.map_append]
        rfl
      refine ⟨_, gj_name 4 nd, ?_⟩
      refine sj_set (i := .d (rowD v p k)) 5 nd (ej_ixO (ej_name 3) (ej_neg ej_int) (List.mem_singleton.mpr rfl) (by rw [fs, List.map_append]; exact at_last)) ?_
      refine sj_append (p := o) (is := (fewD v p (k + 1)).map It.d) (is0 := (fewD v p (k + 1)).map It.d) (i := .d (rowD v p (k + 1))) (ej_name 3) (List.mem_singleton.mpr rfl) (ej_el (ds := (ffL v p (k + 1)).map oD) (el_compR 6 (z := ((2 ^ v : Nat) : Int)) (fun m => ((List.range m).map fun s => oD (FF (rkF v p) (k + 1) s)).map It.d) (fun _ => [(o, (fewD v p (k + 1)).map It.d)]) rfl T.b_range nd (ej_name 2) rfl rfl ⟨by omega, by omega⟩ fun m hm => ?_) ?_) (List.mem_singleton.mpr rfl) (by rw [List.length_map, fewD_len]; omega) ?_
      · have hm : m < 2 ^ v := by omega
        refine ⟨.d (oD (FF (rkF v p) (k + 1) m)), by rw [List.range_succ, List.map_append, List.map_append]; rfl, by simp, fun N' s H C cl fp => ?_⟩
        exact ej_callP G hr1 (aj_cons (ej_ixL (ds := (ffL v p k).map oD) (ej_name 5) (ej_name (i := dI (m : Int)) 6) (ffL_at hm)) (aj_cons (ej_ixL (ds := (ffL v p k).map oD) (ej_name 5) (ej_is (ej_xor (n := (m : Int)) (m := ((rkF v p k : Nat) : Int)) (ej_name 6) (ej_name 4)) (by rw [xorN])) (ffL_at (xor_lt' hm (rk_lt ks k)))) aj_nil)) ⟨rfl, rfl, _, _, rfl, rfl⟩
      · rw [Int.toNat_natCast]
        unfold ffL
        simp only [List.map_map]
        rfl
      · rw [mem1_put]
        refine sj_nil ⟨_, _, _, rfl, ?_⟩
        show [(o, _)] = [(o, ((List.range (k + 1 + 1)).map (rowD v p)).map It.d)]
        rw [List.range_succ, List.map_append, List.map_append]
        rfl
    · obtain ⟨y4, y5, y6, rfl, rfl⟩ := hI
      rw [nD_len, rsL_len]
      refine sj_freeze 3 (p := o) (ds := fewD v p (n + 1)) rfl (List.mem_singleton.mpr rfl) ho ?_
      exact sj_ret (ej_name 3) ⟨rfl, [], by simp⟩
end

/-! ### the fewest ones: least_ones, fewest_unseen -/
def cntN (w p n : Nat) : List (Option Nat) := (List.range n).map fun t => (FF (rkF w p) t (rkF w p t)).map (· + 1)
def cntF (w p n : Nat) : List Int := ((cntN w p n).filterMap id).map fun x : Nat => (x : Int)
theorem cntN_len (w p n : Nat) : (cntN w p n).length = n := by simp [cntN]
theorem cntN_get {w p n t : Nat} (h : t < n) : (cntN w p n)[t]? = some ((FF (rkF w p) t (rkF w p t)).map (· + 1)) := by
  unfold cntN
  rw [List.getElem?_map, List.getElem?_range h]
  rfl
theorem cntF_mem {w p n : Nat} {m : Int} : m ∈ cntF w p n ↔ ∃ t v, t < n ∧ FF (rkF w p) t (rkF w p t) = some v ∧ m = (v : Int) + 1 := by
  unfold cntF cntN
  constructor
  · intro h
    obtain ⟨x, hx, rfl⟩ := List.mem_map.mp h
    obtain ⟨o, ho, e⟩ := List.mem_filterMap.mp hx
    obtain ⟨t, ht, rfl⟩ := List.mem_map.mp ho
    cases e2 : FF (rkF w p) t (rkF w p t) with
    | none => rw [e2] at e; cases e
    | some v =>
      rw [e2] at e
      have e : v + 1 = x := Option.some.inj e
      exact ⟨t, v, List.mem_range.mp ht, e2, by omega⟩
  · rintro ⟨t, v, ht, e, rfl⟩
    refine List.mem_map.mpr ⟨v + 1, List.mem_filterMap.mpr ⟨some (v + 1), List.mem_map.mpr ⟨t, List.mem_range.mpr ht, by rw [e]; rfl⟩, rfl⟩, by omega⟩
section
variable {P : Program} {w : World} {K : PySem.W.Frag} {mg : Str → Option Value} {base : Heap}
theorem d_least_ones (T : Txt K mg) : Def P w K mg base "least_ones" 1 CoLO := by
  obtain ⟨f, fd, F, hm, hb⟩ := T.f_least_ones
  refine def_ok F sc_least_ones hm hb (fun is M i M' h => ?_) fun X hX N is M i M' hF hC => ?_
  · obtain ⟨rfl, rfl, v, p, n, t, u, rfl, _⟩ := h
    exact ⟨rfl, rfl⟩
  · obtain ⟨cdv, A, outer, sh, H, E, rfl, hr⟩ := hX
    obtain ⟨rfl, rfl, v, p, n, t, u0, rfl, ks, ht, hn, h0, rfl⟩ := hC
    have nd := sc_least_ones.nd
    have rl := rk_lt ks t
    refine sj_own 3 (is := []) (M1 := []) nd (el_disp aj_nil) fun o ho => ?_
    refine sj_set (i := dI ((rkF v p t : Nat) : Int)) 4 nd (ej_ixL (ds := nD (rsL v p n)) (ej_name 1) (ej_name (i := dI (t : Int)) 2) (rsL_at ht)) ?_
    refine sj_set (i := dI (u0 : Int)) 5 nd (ej_is (ej_ixL (ds := (ffL v p t).map oD) (ej_ixL (ds := fewD v p (n + 1)) (ej_name 0) (ej_name (i := dI (t : Int)) 2) (fewD_at (by omega))) (ej_name (i := dI ((rkF v p t : Nat) : Int)) 4) (ffL_at rl)) (by rw [h0]; rfl)) ?_
    refine sj_forC (z := ((t : Int)).toNat) (lo := ((t : Int).toNat : Int) - 1) (st := -1) rfl (ic_rev (z := (t : Int)) T.b_range T.b_reversed (ej_name 2) (by omega)) (fun k ρ M => ∃ acc s u y6, k ≤ t ∧ acc ++ onesF (rkF v p) (t - k) s u = onesF (rkF v p) t (rkF v p t) u0 ∧ FF (rkF v p) (t - k) s = some u ∧ s < 2 ^ v ∧ acc.length ≤ k ∧ ρ = [some (.d (.list (fewD v p (n + 1)))), some (.d (.list (nD (rsL v p n)))), some (dI (t : Int)), some (.v (.ref o)), some (dI (s : Int)), some (dI (u : Int)), y6] ∧ M = [(o, nI acc)]) ⟨[], _, u0, none, Nat.zero_le _, rfl, h0, rl, Nat.le_refl _, rfl, rfl⟩ (fun k ρ M hk hI => ?_) fun ρ M hI => ?_
    · obtain ⟨acc, s, u, y6, _, e1, e2, sl, al, rfl, rfl⟩ := hI
      have kt : k < t := by omega
      obtain ⟨j, hj⟩ : ∃ j, t - k = j + 1 := ⟨t - k - 1, by omega⟩
      have jn : j < n := by omega
      rw [hj] at e1 e2
      have ex : ((t : Int).toNat : Int) - 1 + (k : Int) * -1 = (j : Int) := by omega
      rw [ex]
      refine ⟨_, gj_name 6 nd, ?_⟩
      refine sj_if (t := !decide (FF (rkF v p) j s = some u)) (tj_is (tj_neD (d := oD (FF (rkF v p) j s)) (d' := .int (u : Int)) hr.units (ej_ixL (ds := (ffL v p j).map oD) (ej_ixL (ds := fewD v p (n + 1)) (ej_name 0) (ej_name (i := dI (j : Int)) 6) (fewD_at (by omega))) (ej_name (i := dI (s : Int)) 4) (ffL_at sl)) (ej_name (i := dI (u : Int)) 5) (.d _) (.d _) (oD_plain _) rfl) (by rw [eqv_oD])) (fun h => ?_) fun h => sj_nil ?_
      · have h : FF (rkF v p) j s ≠ some u := by simpa using h
        obtain ⟨u1, e3⟩ := FF_step e2 h
        refine sj_append (p := o) (is := nI acc) (is0 := nI acc) (ej_name 3) (List.mem_singleton.mpr rfl) (ej_name (i := dI (j : Int)) 6) (List.mem_singleton.mpr rfl) (by rw [nI_len]; omega) ?_
        rw [mem1_put]
        refine sj_set (i := dI ((s ^^^ rkF v p j : Nat) : Int)) 4 nd (ej_is (ej_xor (n := (s : Int)) (m := ((rkF v p j : Nat) : Int)) (ej_name 4) (ej_ixL (ds := nD (rsL v p n)) (ej_name 1) (ej_name (i := dI (j : Int)) 6) (rsL_at jn))) (by rw [xorN])) ?_
        refine sj_aug 5 ip_sub nd rfl ej_int (sj_nil (sj_nil ⟨acc ++ [j], s ^^^ rkF v p j, u - 1, some (dI (j : Int)), by omega, ?_, ?_, xor_lt' sl (rk_lt ks j), by simp; omega, ?_, ?_⟩))
        · rw [show t - (k + 1) = j by omega, ← e1]
          conv => rhs; unfold onesF
          rw [if_neg h, List.append_assoc]
          rfl
        · rw [show t - (k + 1) = j by omega]
          exact e3
        · rw [show ((u - 1 : Nat) : Int) = (u : Int) - 1 by omega]
          rfl
        · simp [nI]
      · have h : FF (rkF v p) j s = some u := by simpa using h
        refine sj_nil ⟨acc, s, u, some (dI (j : Int)), by omega, ?_, ?_, sl, by omega, rfl, rfl⟩
        · rw [show t - (k + 1) = j by omega, ← e1]
          conv => rhs; unfold onesF
          rw [if_pos h]
        · rw [show t - (k + 1) = j by omega]
          exact h
    · obtain ⟨acc, s, u, y6, _, e1, e2, sl, al, rfl, rfl⟩ := hI
      rw [Int.toNat_natCast, Nat.sub_self] at e1
      have e1 : acc = onesF (rkF v p) t (rkF v p t) u0 := by rw [← e1]; exact (List.append_nil _).symm
      subst e1
      refine sj_freeze 3 (p := o) (ds := nD (onesF (rkF v p) t (rkF v p t) u0)) rfl (by rw [← nI_d]; exact List.mem_singleton.mpr rfl) ho ?_
      exact sj_ret (ej_name 3) ⟨rfl, [], by simp⟩
end
theorem inI_nat (k : Nat) (S : List Nat) : Kt.inI (k : Int) (S.map fun x : Nat => (x : Int)) = decide (k ∈ S) := by
  unfold Kt.inI
  rw [List.any_map]
  by_cases h : k ∈ S
  · rw [decide_eq_true h, List.any_eq_true]
    exact ⟨k, h, by simp⟩
  · rw [decide_eq_false h, List.any_eq_false]
    intro x hx he
    have he : ((k : Int)) = (x : Int) := of_decide_eq_true he
    exact h (by rw [show k = x by omega]; exact hx)
theorem ones_len {rk : Nat → Nat} : ∀ (k s v : Nat), (onesF rk k s v).length ≤ k
  | 0, _, _ => Nat.le_refl _
  | k + 1, s, v => by
    unfold onesF
    split
    · have := ones_len (rk := rk) k s v
      omega
    · have := ones_len (rk := rk) k (s ^^^ rk k) (v - 1)
      rw [List.length_cons]
      omega
def leastD : Option (Nat × List Nat) → PyData
  | none => .none
  | some (c, _) => .int (c : Int)
theorem least_nil {w p n : Nat} {r : Option (Nat × List Nat)} (h : IsFew (rkF w p) n r) (hn : cntF w p n = []) : leastD r = .none := by
  cases r with
  | none => rfl
  | some q =>
    obtain ⟨c, bits⟩ := q
    obtain ⟨t, v, ht, _, e, _⟩ := h
    have := cntF_mem.mpr ⟨t, v, ht, e, rfl⟩
    rw [hn] at this
    exact absurd this List.not_mem_nil
theorem least_min {w p n : Nat} {r : Option (Nat × List Nat)} (h : IsFew (rkF w p) n r) (m : Int) (h1 : m ∈ cntF w p n) (h2 : ∀ y ∈ cntF w p n, m ≤ y) : leastD r = .int m := by
  obtain ⟨t', v', ht', e', rfl⟩ := cntF_mem.mp h1
  cases r with
  | none =>
    rw [h t' ht'] at e'
    cases e'
  | some q =>
    obtain ⟨c, bits⟩ := q
    obtain ⟨t, v, ht, hc, e, hm, _⟩ := h
    have a := h2 _ (cntF_mem.mpr ⟨t, v, ht, e, rfl⟩)
    have b := hm t' ht' v' e'
    show PyData.int (c : Int) = _
    congr 1
    omega
theorem cntF_step {w p n m : Nat} (hm : m < n) : (((cntN w p n).take (m + 1)).filterMap id) = ((cntN w p n).take m).filterMap id ++ (((FF (rkF w p) m (rkF w p m)).map (· + 1)).toList) := by
  rw [List.take_add_one, cntN_get hm, List.filterMap_append]
  congr 1
section
variable {P : Program} {w : World} {K : PySem.W.Frag} {mg : Str → Option Value} {base : Heap}
theorem d_fewest_unseen (T : Txt K mg) : Def P w K mg base "fewest_unseen" 4 CoFU := by
  obtain ⟨f, fd, F, hm, hb⟩ := T.f_fewest_unseen
  have G1 := d_power_rests (P := P) (w := w) (base := base) T
  have G2 := d_fewest_ones (P := P) (w := w) (base := base) T
  have G3 := d_least_ones (P := P) (w := w) (base := base) T
  refine def_ok F sc_fewest_unseen hm hb (fun is M i M' h => ?_) fun X hX N is M i M' hF hC => ?_
  · obtain ⟨rfl, rfl, v, p, n, r, rfl, _⟩ := h
    exact ⟨rfl, rfl⟩
  · obtain ⟨cdv, A, outer, sh, H, E, rfl, hr⟩ := hX
    obtain ⟨rfl, rfl, v, p, n, r, rfl, ks, hn, hf, rfl⟩ := hC
    have nd := sc_fewest_unseen.nd
    refine sj_set (i := .d (.list (nD (rsL v p n)))) 2 nd (ej_callP G1 (hr.mono (by decide)) (aj_cons (ej_name 0) (aj_cons (ej_name (i := dI (n : Int)) 1) aj_nil)) ⟨rfl, rfl, v, p, n, rfl, ks, hn, rfl⟩) ?_
    refine sj_set (i := .d (.list (fewD v p (n + 1)))) 3 nd (ej_callP G2 (hr.mono (by decide)) (aj_cons (ej_name 0) (aj_cons (ej_name 2) aj_nil)) ⟨rfl, rfl, v, p, n, rfl, ks, hn, rfl⟩) ?_
    have el : (enumD (nD (rsL v p n))).length = n := by
      unfold enumD
      rw [List.length_mapIdx, nD_len, rsL_len]
    refine sj_setW2 4 6 8 (ds := enumD (nD (rsL v p n))) (fun m => (((cntN v p n).take m).map oD).map It.d) (fun _ => []) rfl nd (by decide) (iw_enumL T.b_enumerate (ej_name 2)) (fun _ _ => trivial) rfl rfl (by rw [el]; omega) (fun m d hd => ?_) fun o ho => ?_
    · have hm : m < n := by
        have := (List.getElem?_eq_some_iff.mp hd).1
        rwa [el] at this
      have hd2 := enumD_get (ds := nD (rsL v p n)) (i := m) (d := .int (rkF v p m : Nat)) (by
        unfold nD rsL
        rw [List.getElem?_map, List.getElem?_map, List.getElem?_range hm]
        rfl)
      rw [hd2] at hd
      obtain rfl := (Option.some.inj hd)
      refine ⟨_, _, .d (oD ((FF (rkF v p) m (rkF v p m)).map (· + 1))), rfl, ?_, by rw [List.length_map, List.length_map, List.length_take]; omega, fun N' s H C cl fp => ?_⟩
      · show (((cntN v p n).take (m + 1)).map oD).map It.d = _
        rw [List.take_add_one, cntN_get hm, List.map_append, List.map_append]
        rfl
      · cases e : FF (rkF v p) m (rkF v p m) with
        | none => exact ej_if (t := true) (tj_is (tj_isN (d := oD (FF (rkF v p) m (rkF v p m))) (ej_ixL (ds := (ffL v p m).map oD) (ej_ixL (ds := fewD v p (n + 1)) (ej_name 3) (ej_name (i := dI (m : Int)) 6) (fewD_at (by omega))) (ej_name (i := dI ((rkF v p m : Nat) : Int)) 8) (ffL_at (rk_lt ks m))) ej_non) (by rw [e]; rfl)) (fun _ => ej_non) (fun h => nomatch h)
        | some u => exact ej_if (t := false) (tj_is (tj_isN (d := oD (FF (rkF v p) m (rkF v p m))) (ej_ixL (ds := (ffL v p m).map oD) (ej_ixL (ds := fewD v p (n + 1)) (ej_name 3) (ej_name (i := dI (m : Int)) 6) (fewD_at (by omega))) (ej_name (i := dI ((rkF v p m : Nat) : Int)) 8) (ffL_at (rk_lt ks m))) ej_non) (by rw [e]; rfl)) (fun h => nomatch h) (fun _ => ej_is (ej_add (n := (u : Int)) (ej_is (ej_ixL (ds := (ffL v p m).map oD) (ej_ixL (ds := fewD v p (n + 1)) (ej_name 3) (ej_name (i := dI (m : Int)) 6) (fewD_at (by omega))) (ej_name (i := dI ((rkF v p m : Nat) : Int)) 8) (ffL_at (rk_lt ks m))) (by rw [e]; rfl)) ej_int) rfl)
    rw [el, List.take_of_length_le (by rw [cntN_len]; exact Nat.le_refl _)]
    refine sj_frzT 4 rfl ho ?_
    refine sj_set (i := .d (leastD r)) 5 nd (ej_minDf (ns := cntF v p n) rfl hr.units T.b_min (ej_el (ds := (cntF v p n).map .int) (el_compW1F 9 (ds := (cntN v p n).map oD) (fun m => (((cntN v p n).take m).filterMap id).map fun x : Nat => dI (x : Int)) (fun _ => []) rfl nd (iw_list (ej_name 4)) (fun _ _ => trivial) rfl rfl (by rw [List.length_map, cntN_len]; omega) fun m d hd => ?_) ?_) (least_nil hf) (least_min hf)) ?_
    · have hm : m < n := by
        have := (List.getElem?_eq_some_iff.mp hd).1
        rwa [List.length_map, cntN_len] at this
      rw [List.getElem?_map, cntN_get hm] at hd
      obtain rfl := Option.some.inj hd
      have ll : (((cntN v p n).take m).filterMap id).length ≤ m := Nat.le_trans (List.length_filterMap_le _ _) (by rw [List.length_take]; omega)
      refine ⟨!decide (tyD (oD ((FF (rkF v p) m (rkF v p m)).map (· + 1))) = "NoneType"), [], fun N' s H C cl fp => tj_notNo (ej_name 9) ej_non, by rw [List.length_map]; exact ll, fun ht => ?_, fun ht => ⟨?_, rfl⟩⟩
      · cases e : FF (rkF v p) m (rkF v p m) with
        | none => rw [e] at ht; cases ht
        | some u =>
          refine ⟨dI ((u + 1 : Nat) : Int), ?_, fun N' s H C cl fp => ej_name (i := dI ((u + 1 : Nat) : Int)) 9⟩
          show (((cntN v p n).take (m + 1)).filterMap id).map _ = _
          rw [cntF_step hm, e, List.map_append]
          rfl
      · cases e : FF (rkF v p) m (rkF v p m) with
        | none =>
          show (((cntN v p n).take (m + 1)).filterMap id).map _ = _
          rw [cntF_step hm, e, List.map_append]
          exact List.append_nil _
        | some u => rw [e] at ht; cases ht
    · rw [List.length_map, cntN_len, List.take_of_length_le (by rw [cntN_len]; exact Nat.le_refl _)]
      unfold cntF
      rw [List.map_map, List.map_map]
      rfl
    cases r with
    | none => exact sj_if (t := true) (tj_is (tj_isN (ej_name 5) ej_non) rfl) (fun _ => sj_ret ej_non ⟨rfl, [], rfl⟩) (fun h => nomatch h)
    | some q =>
      obtain ⟨c, bits⟩ := q
      obtain ⟨t, u, ht, rfl, e, h1, h2, rfl⟩ := hf
      refine sj_if (t := false) (tj_is (tj_isN (ej_name 5) ej_non) rfl) (fun h => nomatch h) fun _ => sj_nil ?_
      refine sj_set (i := dI (t : Int)) 6 nd (ej_index (l := cntN v p n) (v := u + 1) (j := t) (ej_name 4) (ej_name 5) (by rw [cntN_get ht, e]; rfl) (fun m hm h => ?_)) ?_
      · rw [cntN_get (by omega)] at h
        cases e2 : FF (rkF v p) m (rkF v p m) with
        | none => rw [e2] at h; cases h
        | some x =>
          rw [e2] at h
          have h : x + 1 = u + 1 := Option.some.inj (Option.some.inj h)
          exact h2 m hm (by rw [e2, show x = u by omega])
      have ol := ones_len (rk := rkF v p) t (rkF v p t) u
      refine sj_set (i := .d (.list (nD (t :: onesF (rkF v p) t (rkF v p t) u)))) 7 nd (ej_is (ej_catN (x := [t]) (y := onesF (rkF v p) t (rkF v p t) u) (ej_is (jl1 (ej_name (i := dI (t : Int)) 6)) (j := .d (.list (nD [t]))) rfl) (ej_callP G3 (hr.mono (by decide)) (aj_cons (ej_name 3) (aj_cons (ej_name 2) (aj_cons (ej_name (i := dI (t : Int)) 6) aj_nil))) ⟨rfl, rfl, v, p, n, t, u, rfl, ks, ht, hn, e, rfl⟩) (by show 1 + _ ≤ _; omega)) rfl) ?_
      refine sj_ret (ej_tup (ds := [.int ((u + 1 : Nat) : Int), .list (nD (dL (rkF v p) n t u))]) (aj_cons (ej_name 5) (aj_cons (ej_el (ds := nD (dL (rkF v p) n t u)) (el_compC 10 (z := n) (lo := ((n : Int).toNat : Int) - 1) (st := -1) (fun k => (List.range k).map fun j => dI ((if n - 1 - j ∈ t :: onesF (rkF v p) t (rkF v p t) u then 1 else 0 : Nat) : Int)) (fun _ => []) rfl nd (ic_rev (z := (n : Int)) T.b_range T.b_reversed (ej_name 1) (by omega)) rfl rfl (by omega) fun k hk => ?_) ?_) aj_nil))) ⟨rfl, [], rfl⟩
      · refine ⟨dI ((if n - 1 - k ∈ t :: onesF (rkF v p) t (rkF v p t) u then 1 else 0 : Nat) : Int), by rw [List.range_succ, List.map_append]; rfl, by simp, fun N' s0 H C cl fp => ?_⟩
        have ex : ((n : Int).toNat : Int) - 1 + (k : Int) * -1 = ((n - 1 - k : Nat) : Int) := by omega
        rw [ex]
        refine ej_is (ej_ifP (tj_is (tj_inI (n := ((n - 1 - k : Nat) : Int)) (ns := (t :: onesF (rkF v p) t (rkF v p t) u).map fun x : Nat => (x : Int)) (ej_name 10) (ej_is (ej_name (i := .d (.list (nD (t :: onesF (rkF v p) t (rkF v p t) u)))) 7) (by rw [nd_ints]))) (inI_nat _ _)) ej_int ej_int) ?_
        by_cases hs : n - 1 - k ∈ t :: onesF (rkF v p) t (rkF v p t) u
        · rw [if_pos hs, decide_eq_true hs]
          rfl
        · rw [if_neg hs, decide_eq_false hs]
          rfl
      · rw [← dL_bits ht]
        unfold nD
        rw [List.map_map, List.map_map]
        rfl
end

/-! ### the law's own functions: rests and all rows -/
theorem short_rest {v p : Nat} {row : List Nat} (hb : Bits row) (h : row.length ≤ v) : List.replicate (v - row.length) 0 ++ row = bM v (rst v p row) := by
  rw [rst_short row.length rfl hb h]
  have e := bM_of (n := v) (l := List.replicate (v - row.length) 0 ++ row) (by rw [List.length_append, List.length_replicate]; omega) (bitsA (bits0 _) hb)
  rw [numM_zeros] at e
  exact e.symm
theorem rest_zero {v p : Nat} (ks : KS v p) {row : List Nat} (hb : Bits row) : (bM v (rst v p row) = List.replicate v 0) ↔ rst v p row = 0 := by
  rw [← bM_zero v]
  exact bM_inj (rst_lt ks.pw hb) (Nat.two_pow_pos v)
def tk (r : Option (Nat × List Nat)) (s : Nat) : Bool := match r with
  | none => true
  | some (c, _) => decide (s < c)
theorem best_step {rk : Nat → Nat} {n m : Nat} {r : Option (Nat × List Nat)} (h : Best rk n m r) (h1 : 1 ≤ m) (h2 : m < 2 ^ n) : Best rk n (m + 1) (if tk r (bM n m).sum = true ∧ xr rk (bM n m) = 0 then some ((bM n m).sum, bM n m) else r) := by
  by_cases c : tk r (bM n m).sum = true ∧ xr rk (bM n m) = 0
  · rw [if_pos c]
    refine ⟨m, by omega, ⟨h1, h2, c.2⟩, rfl, rfl, fun y hy hv => ?_⟩
    by_cases e : y = m
    · subst e
      exact .inr ⟨rfl, Nat.le_refl _⟩
    · have ym : y < m := by omega
      cases r with
      | none => exact absurd hv (h y ym)
      | some q =>
        obtain ⟨c0, b0⟩ := q
        obtain ⟨x, _, _, _, _, hmin⟩ := h
        have c1 : (bM n m).sum < c0 := of_decide_eq_true c.1
        rcases hmin y ym hv with g | g <;> exact .inl (by omega)
  · rw [if_neg c]
    cases r with
    | none =>
      intro x hx hv
      by_cases e : x = m
      · subst e
        exact c ⟨rfl, hv.2.2⟩
      · exact h x (by omega) hv
    | some q =>
      obtain ⟨c0, b0⟩ := q
      obtain ⟨x, hx, hv, e1, e2, hmin⟩ := h
      refine ⟨x, by omega, hv, e1, e2, fun y hy hvy => ?_⟩
      by_cases e : y = m
      · subst e
        have c1 : ¬ (bM n y).sum < c0 := fun g => c ⟨decide_eq_true g, hvy.2.2⟩
        by_cases g : c0 = (bM n y).sum
        · exact .inr ⟨g, by omega⟩
        · exact .inl (by omega)
      · exact hmin y (by omega) hvy
theorem natsum (l : List Nat) : (l.map fun x : Nat => (x : Int)).sum = ((l.sum : Nat) : Int) := by
  induction l with
  | nil => rfl
  | cons x l ih =>
    rw [List.map_cons, List.sum_cons, List.sum_cons, ih]
    omega
theorem bM_sum (n x : Nat) : (bM n x).sum ≤ n := by
  have : ∀ l : List Nat, Bits l → l.sum ≤ l.length := fun l => by
    induction l with
    | nil => intro _; exact Nat.le_refl _
    | cons b l ih =>
      intro h
      have ⟨h1, h2⟩ := bits_tl h
      have := ih h2
      rw [List.sum_cons, List.length_cons]
      omega
  have h := this _ (bM_bits n x)
  rwa [bM_len] at h
def CoLR : Co := fun is M i M' => M = [] ∧ M' = [] ∧ ∃ (w p : Nat) (row : List Nat), is = [.d (ckD w p), .d (.list (nD row))] ∧ KS w p ∧ Bits row ∧ row.length ≤ 10000 ∧ i = .d (.list (nD (bM w (rst w p row))))
def CoLAll : Co := fun is M i M' => M = [] ∧ M' = [] ∧ ∃ (w p n : Nat) (r : Option (Nat × List Nat)), is = [.d (ckD w p), dI n] ∧ KS w p ∧ 1 ≤ n ∧ n ≤ 12 ∧ IsFew (rkF w p) n r ∧ i = .d (resD r)
def CoLRs : Co := fun is M i M' => M = [] ∧ M' = [] ∧ ∃ w p n : Nat, is = [.d (ckD w p), dI n] ∧ KS w p ∧ n ≤ 10000 ∧ i = .d (.list (nD (rsL w p n).reverse))
section
variable {P : Program} {w : World} {K : PySem.W.Frag} {mg : Str → Option Value} {base : Heap}
theorem d_law_rest (T : Txt K mg) : Def P w K mg base "_law_rest" 1 CoLR := by
  obtain ⟨f, fd, F, hm, hb⟩ := T.f_law_rest
  refine def_ok F sc_law_rest hm hb (fun is M i M' h => ?_) fun X hX N is M i M' hF hC => ?_
  · obtain ⟨rfl, rfl, v, p, row, rfl, _⟩ := h
    exact ⟨rfl, rfl⟩
  · obtain ⟨cdv, A, outer, sh, H, E, rfl, hr⟩ := hX
    obtain ⟨rfl, rfl, v, p, row, rfl, ks, hb, hl, rfl⟩ := hC
    have nd := sc_law_rest.nd
    have pw := ks.pw
    have v2 := ks.w2
    by_cases hw : v ≤ row.length
    · refine sj_own 2 (M1 := []) nd (el_listL (ds := nD row) T.b_list (ej_name 1)) fun o ho => ?_
      refine sj_asgG (ej_name 0) (gj_tup (ds := [.str "check", .int (v : Int), .int (p : Int)]) rfl (gs_cons 3 nd (gs_cons 4 nd (gs_cons 5 nd gs_nil)))) ?_
      refine sj_forR (m := (row.length : Int) - (v : Int)) rfl T.b_range (ej_sub (ej_is (ej_lenO (is := (nD row).map It.d) T.b_len (ej_name 2) (List.mem_singleton.mpr rfl)) (j := dI (row.length : Int)) (by rw [List.length_map, nD_len])) (ej_name (i := dI (v : Int)) 4)) (by omega) (fun k ρ M => ∃ l y6 y7, LD v p row k l ∧ ρ = [some (.d (ckD v p)), some (.d (.list (nD row))), some (.v (.ref o)), some (.d (.str "check")), some (dI (v : Int)), some (dI (p : Int)), y6, y7] ∧ M = [(o, nI l)]) ⟨row, none, none, ld_start hb hw, rfl, by rw [nI_d]; rfl⟩ (fun k ρ M hk hI => ?_) fun ρ M hI => ?_
      · obtain ⟨l, y6, y7, d, rfl, rfl⟩ := hI
        have kl : k + v < row.length := by omega
        have ll := d.len
        obtain ⟨x, ex⟩ : ∃ x, l[k]? = some x := ⟨_, List.getElem?_eq_getElem (by omega)⟩
        have gx : l.getD k 0 = x := by rw [List.getD_eq_getElem?_getD, ex]; rfl
        have st := ld_step pw hb d kl
        rw [gx] at st
        refine ⟨_, gj_name 6 nd, ?_⟩
        refine sj_if (t := decide (x = 1)) (tj_is (tj_eqI (n := (x : Int)) (m := 1) (ej_ixO (ej_name 2) (ej_name (i := dI (k : Int)) 6) (List.mem_singleton.mpr rfl) (nI_at ex)) ej_int) (decide_eq_decide.mpr (by omega))) (fun h => ?_) fun h => sj_nil ?_
        · rw [if_pos (of_decide_eq_true h)] at st
          refine sj_forR (m := (v : Int) + 1) rfl T.b_range (ej_add (ej_name (i := dI (v : Int)) 4) ej_int) (by omega) (fun i ρ M => ∃ y7, ρ = [some (.d (ckD v p)), some (.d (.list (nD row))), some (.v (.ref o)), some (.d (.str "check")), some (dI (v : Int)), some (dI (p : Int)), some (dI (k : Int)), y7] ∧ M = [(o, nI (inn v p k l i))]) ⟨y7, rfl, by rw [inn_zero]⟩ (fun i ρ M hi hI => ?_) fun ρ M hI => ?_
          · obtain ⟨y7, rfl, rfl⟩ := hI
            have iv : i ≤ v := by omega
            obtain ⟨z, ez⟩ : ∃ z, l[k + i]? = some z := ⟨_, List.getElem?_eq_getElem (by omega)⟩
            refine ⟨_, gj_name 7 nd, ?_⟩
            refine sj_setO (p := o) (is := nI (inn v p k l i)) (n := k + i) (i := dI ((z ^^^ (p / 2 ^ (v - i) % 2) : Nat) : Int)) (ej_is (ej_xor (n := (z : Int)) (m := ((p / 2 ^ (v - i) % 2 : Nat) : Int)) (ej_ixO (ej_name 2) (ej_is (ej_add (n := (k : Int)) (m := (i : Int)) (ej_name 6) (ej_name 7)) (j := dI ((k + i : Nat) : Int)) (by rw [Int.natCast_add])) (List.mem_singleton.mpr rfl) (nI_at (inn_at ez))) (ej_is (ej_and (n := ((p / 2 ^ (v - i) : Nat) : Int)) (m := 1) (ej_intc T.b_int (ej_is (ej_shr (n := (p : Int)) (ej_name 5) (ej_sub (n := (v : Int)) (m := (i : Int)) (ej_name 4) (ej_name 7)) (by omega)) (by rw [show ((v : Int) - (i : Int)) = ((v - i : Nat) : Int) by omega, shr_bit]))) ej_int) (by rw [and_oneN]))) (by rw [xorN])) (ej_name 2) (ej_is (ej_add (n := (k : Int)) (m := (i : Int)) (ej_name 6) (ej_name 7)) (by rw [Int.natCast_add])) (List.mem_singleton.mpr rfl) (by rw [nI_len, inn_len]; omega) (sj_nil ⟨some (dI (i : Int)), rfl, ?_⟩)
            rw [mem1_put, nI_set, inn_succ ez]
          · obtain ⟨y7, rfl, rfl⟩ := hI
            rw [show ((v : Int) + 1).toNat = v + 1 by omega]
            exact sj_nil (sj_nil ⟨_, _, _, st, rfl, rfl⟩)
        · rw [if_neg (of_decide_eq_false h)] at st
          exact sj_nil ⟨_, _, _, st, rfl, rfl⟩
      · obtain ⟨l, y6, y7, d, rfl, rfl⟩ := hI
        rw [show ((row.length : Int) - (v : Int)).toNat = row.length - v by omega] at d
        have ll := d.len
        have le := ld_end pw hb hw d
        refine sj_freeze 2 (p := o) (ds := nD l) rfl (by rw [← nI_d]; exact List.mem_singleton.mpr rfl) ho ?_
        refine sj_ret (ej_if (t := true) (i := .d (.list (nD (bM v (rst v p row))))) (M2 := [].filter fun c : Addr × List Kt.It => decide (c.1 ≠ o)) (tj_is (tj_ge (ej_is (ej_lenL (ds := nD l) T.b_len (ej_name 2)) (j := dI (row.length : Int)) (by rw [nD_len, ll])) (ej_name (i := dI (v : Int)) 4)) (decide_eq_true (by omega))) (fun _ => ej_m (ej_el (el_slLfrom (ds := nD l) (l := -(v : Int)) (ej_name 2) (ej_neg (ej_name (i := dI (v : Int)) 4))) (by rw [cut_neg ks.w1 (by rw [nD_len]; omega), nD_len, ← nD_drop, ll, le])) (by simp)) (fun h => nomatch h)) ⟨rfl, [], by simp⟩
    · refine sj_own 2 (M1 := []) nd (el_listL (ds := nD row) T.b_list (ej_name 1)) fun o ho => ?_
      refine sj_asgG (ej_name 0) (gj_tup (ds := [.str "check", .int (v : Int), .int (p : Int)]) rfl (gs_cons 3 nd (gs_cons 4 nd (gs_cons 5 nd gs_nil)))) ?_
      refine sj_forR (m := (row.length : Int) - (v : Int)) rfl T.b_range (ej_sub (ej_is (ej_lenO (is := (nD row).map It.d) T.b_len (ej_name 2) (List.mem_singleton.mpr rfl)) (j := dI (row.length : Int)) (by rw [List.length_map, nD_len])) (ej_name (i := dI (v : Int)) 4)) (by omega) (fun k ρ M => ρ = [some (.d (ckD v p)), some (.d (.list (nD row))), some (.v (.ref o)), some (.d (.str "check")), some (dI (v : Int)), some (dI (p : Int)), none, none] ∧ M = [(o, (nD row).map It.d)]) ⟨rfl, rfl⟩ (fun k ρ M hk hI => absurd hk (by omega)) fun ρ M hI => ?_
      obtain ⟨rfl, rfl⟩ := hI
      refine sj_freeze 2 (p := o) (ds := nD row) rfl (List.mem_singleton.mpr rfl) ho ?_
      refine sj_ret (ej_if (t := false) (i := .d (.list (nD (bM v (rst v p row))))) (tj_is (tj_ge (ej_is (ej_lenL (ds := nD row) T.b_len (ej_name 2)) (j := dI (row.length : Int)) (by rw [nD_len])) (ej_name (i := dI (v : Int)) 4)) (decide_eq_false (by omega))) (fun h => nomatch h) (fun _ => ej_is (ej_catN (ej_zeros (n := v - row.length) (jl1 ej_int) (ej_is (ej_sub (n := (v : Int)) (m := (row.length : Int)) (ej_name 4) (ej_is (ej_lenL (ds := nD row) T.b_len (ej_name 2)) (by rw [nD_len]))) (by refine congrArg dI ?_; omega)) (by omega)) (ej_name 2) (by rw [List.length_replicate]; omega)) (by rw [short_rest hb (by omega)]))) ⟨rfl, [], by simp⟩
theorem d_law_rests (T : Txt K mg) : Def P w K mg base "_law_rests" 1 CoLRs := by
  obtain ⟨f, fd, F, hm, hb⟩ := T.f_law_rests
  refine def_ok F sc_law_rests hm hb (fun is M i M' h => ?_) fun X hX N is M i M' hF hC => ?_
  · obtain ⟨rfl, rfl, v, p, n, rfl, _⟩ := h
    exact ⟨rfl, rfl⟩
  · obtain ⟨cdv, A, outer, sh, H, E, rfl, hr⟩ := hX
    obtain ⟨rfl, rfl, v, p, n, rfl, ks, hn, rfl⟩ := hC
    have nd := sc_law_rests.nd
    have pw := ks.pw
    refine sj_asgG (ej_name 0) (gj_tup (ds := [.str "check", .int (v : Int), .int (p : Int)]) rfl (gs_cons 2 nd (gs_cons 3 nd (gs_cons 4 nd gs_nil)))) ?_
    refine sj_own 5 (is := []) (M1 := []) nd (el_disp aj_nil) fun o ho => ?_
    refine sj_set (i := dI ((1 : Nat) : Int)) 6 nd ej_int ?_
    refine sj_forR (m := (n : Int)) rfl T.b_range (ej_name 1) (by omega) (fun k ρ M => ∃ y7, ρ = [some (.d (ckD v p)), some (dI (n : Int)), some (.d (.str "check")), some (dI (v : Int)), some (dI (p : Int)), some (.v (.ref o)), some (dI ((rkF v p k : Nat) : Int)), y7] ∧ M = [(o, nI (rsL v p k))]) ⟨none, rfl, rfl⟩ (fun k ρ M hk hI => ?_) fun ρ M hI => ?_
    · obtain ⟨y7, rfl, rfl⟩ := hI
      refine ⟨_, gj_name 7 nd, ?_⟩
      refine sj_append (p := o) (is := nI (rsL v p k)) (is0 := nI (rsL v p k)) (ej_name 5) (List.mem_singleton.mpr rfl) (ej_name 6) (List.mem_singleton.mpr rfl) (by rw [nI_len, rsL_len]; omega) ?_
      rw [mem1_put, rsL_succ]
      have rl := rk_lt ks k
      have es : rkF v p (k + 1) = if (2 * rkF v p k).testBit v then (2 * rkF v p k) ^^^ p else 2 * rkF v p k := rfl
      refine sj_set (i := dI ((2 * rkF v p k : Nat) : Int)) 6 nd (ej_is (ej_shl (n := ((rkF v p k : Nat) : Int)) (m := 1) (ej_name 6) ej_int ⟨by decide, by decide, ?_⟩) ?_) ?_
      · have : rkF v p k ≤ 65536 := Nat.le_trans (Nat.le_of_lt rl) (show 2 ^ v ≤ 2 ^ 16 from Nat.pow_le_pow_right (by decide) ks.w2)
        have q : (65536 : Nat) < 2 ^ 64 := by decide
        omega
      · refine congrArg dI ?_
        rw [show (1 : Int).toNat = 1 by decide]
        omega
      refine sj_if (t := (2 * rkF v p k).testBit v) (tj_is (tj_eqI (n := (((2 * rkF v p k) / 2 ^ v : Nat) : Int) % 2) (m := 1) (ej_mod (n := (((2 * rkF v p k) / 2 ^ v : Nat) : Int)) (m := 2) (ej_intc T.b_int (ej_is (ej_shr (n := ((2 * rkF v p k : Nat) : Int)) (m := (v : Int)) (ej_name 6) (ej_name 3) (by omega)) (by rw [shr_bit]))) ej_int (by decide)) ej_int) ?_) (fun h => ?_) fun h => ?_
      · rw [Nat.testBit_eq_decide_div_mod_eq]
        exact decide_eq_decide.mpr (by omega)
      · rw [if_pos h] at es
        exact sj_set (i := dI ((rkF v p (k + 1) : Nat) : Int)) 6 nd (ej_is (ej_xor (n := ((2 * rkF v p k : Nat) : Int)) (m := (p : Int)) (ej_name 6) (ej_name 4)) (by rw [xorN, es])) (sj_nil (sj_nil ⟨some (dI (k : Int)), rfl, rfl⟩))
      · rw [if_neg (by rw [h]; decide)] at es
        rw [← es]
        exact sj_nil (sj_nil ⟨some (dI (k : Int)), rfl, rfl⟩)
    · obtain ⟨y7, rfl, rfl⟩ := hI
      rw [Int.toNat_natCast]
      refine sj_freeze 5 (p := o) (ds := nD (rsL v p n)) rfl (by rw [← nI_d]; exact List.mem_singleton.mpr rfl) ho ?_
      exact sj_ret (ej_el (ds := nD (rsL v p n).reverse) (el_rev (ds := nD (rsL v p n)) (ej_name 5)) (by unfold nD; rw [List.map_reverse, List.map_reverse, List.map_reverse])) ⟨rfl, [], by simp⟩
theorem d_law_all (T : Txt K mg) : Def P w K mg base "_law_all" 2 CoLAll := by
  obtain ⟨f, fd, F, hm, hb⟩ := T.f_law_all
  have G := d_law_rest (P := P) (w := w) (base := base) T
  refine def_ok F sc_law_all hm hb (fun is M i M' h => ?_) fun X hX N is M i M' hF hC => ?_
  · obtain ⟨rfl, rfl, v, p, n, r, rfl, _⟩ := h
    exact ⟨rfl, rfl⟩
  · obtain ⟨cdv, A, outer, sh, H, E, rfl, hr⟩ := hX
    obtain ⟨rfl, rfl, v, p, n, r, rfl, ks, n1, n2, hf, rfl⟩ := hC
    have nd := sc_law_all.nd
    have pw := ks.pw
    have v2 := ks.w2
    have pz : 2 ^ n ≤ 4096 := show 2 ^ n ≤ 2 ^ 12 from Nat.pow_le_pow_right (by decide) n2
    have p0 := Nat.two_pow_pos n
    have hr1 : Room 1 (A.deeper (envOfC "_law_all" (defScope s_law_all) sh.heap.objs.size f cdv)) := hr.mono (by decide)
    refine sj_set 2 nd ej_non ?_
    refine sj_forW (ds := (List.range (((2 ^ n : Nat) : Int) - 1).toNat).map fun k : Nat => .int (1 + (k : Int))) rfl (iw_range2 (i := 1) (j := ((2 ^ n : Nat) : Int)) T.b_range ej_int (ej_is (ej_shl (n := 1) (m := (n : Int)) ej_int (ej_name (i := dI (n : Int)) 1) (cpow_ok (by omega))) (by rw [pow_int])) (by decide) (by omega)) (fun k ρ M => ∃ r' y3 y4, Best (rkF v p) n (k + 1) r' ∧ ρ = [some (.d (ckD v p)), some (dI (n : Int)), some (.d (resD r')), y3, y4, none] ∧ M = []) ⟨none, none, none, fun x hx hv => by have := hv.1; omega, rfl, rfl⟩ (fun k d ρ M hk hI => ?_) fun ρ M hI => ?_
    · obtain ⟨r', y3, y4, hB, rfl, rfl⟩ := hI
      have kl : k < (((2 ^ n : Nat) : Int) - 1).toNat := by
        have := (List.getElem?_eq_some_iff.mp hk).1
        rwa [List.length_map, List.length_range] at this
      rw [List.getElem?_map, List.getElem?_range kl] at hk
      have hk : d = .int ((k + 1 : Nat) : Int) := by
        rw [← Option.some.inj hk]
        show PyData.int (1 + (k : Int)) = _
        congr 1
        omega
      subst hk
      have x1 : k + 1 < 2 ^ n := by omega
      have hS := best_step hB (by omega) x1
      generalize k + 1 = x at *
      refine ⟨_, gj_name 3 nd, ?_⟩
      refine sj_setcompR 4 5 (z := (n : Int)) (fun m => nI ((List.range m).map fun j => x / 2 ^ (n - 1 - j) % 2)) (fun _ => []) rfl T.b_range nd (ej_name 1) rfl rfl ⟨by omega, by omega⟩ (fun m hm => ⟨dI ((x / 2 ^ (n - 1 - m) % 2 : Nat) : Int), by rw [List.range_succ, List.map_append]; simp [nI], by rw [nI_len]; simp, fun N' s H C cl fp => ej_is (ej_and (n := ((x / 2 ^ (n - 1 - m) : Nat) : Int)) (m := 1) (ej_intc T.b_int (ej_is (ej_shr (n := (x : Int)) (m := (n : Int) - 1 - (m : Int)) (ej_name 3) (ej_sub (ej_sub (n := (n : Int)) (ej_name 1) ej_int) (ej_name (i := dI (m : Int)) 5)) (by omega)) (by rw [show (n : Int) - 1 - (m : Int) = ((n - 1 - m : Nat) : Int) by omega, shr_bit]))) ej_int) (by rw [and_oneN])⟩) fun o ho => ?_
      rw [Int.toNat_natCast, show (List.range n).map (fun j => x / 2 ^ (n - 1 - j) % 2) = bM n x from rfl, nI_d]
      refine sj_frzT 4 rfl ho ?_
      have xb := bM_bits n x
      have xl := bM_len n x
      have exr : xr (rkF v p) (bM n x) = rst v p (bM n x) := xr_rst pw xb
      rw [exr] at hS
      generalize bM n x = bx at *
      refine sj_if (t := tk r' bx.sum) (M1 := []) ?_ (fun h => ?_) fun h => sj_nil ?_
      · cases r' with
        | none => exact tj_w (wj_or (t := true) (u := true) (tj_is (tj_isN (ej_name 2) ej_non) rfl) (fun h => nomatch h))
        | some q =>
          obtain ⟨c0, b0⟩ := q
          exact tj_w (wj_or (t := false) (u := decide (bx.sum < c0)) (tj_is (tj_isN (ej_name 2) ej_non) rfl) fun _ => wj_or1 (tj_is (tj_lt (n := ((bx.sum : Nat) : Int)) (m := (c0 : Int)) (ej_is (ej_sum (ns := bx.map fun z : Nat => (z : Int)) rfl T.b_sum (ej_is (ej_name (i := .d (.list (nD bx))) 4) (by rw [nd_ints]))) (by rw [natsum])) (ej_ixT (ds := [.int (c0 : Int), .list (nD b0)]) (ej_name 2) ej_int at0)) (decide_eq_decide.mpr (by omega))))
      · refine sj_if (t := decide (rst v p bx = 0)) (tj_is (tj_eqD hr.units (ej_callP G hr1 (aj_cons (ej_name 0) (aj_cons (ej_name 4) aj_nil)) ⟨rfl, rfl, v, p, bx, rfl, ks, xb, by omega, rfl⟩) (ej_zeros (n := v) (jl1 ej_int) (ej_ixT (ds := [.str "check", .int (v : Int), .int (p : Int)]) (ej_name 0) ej_int (atI_nat (j := 1) rfl)) (by omega)) (.d _) (.d _) (nd_plain _) (nd_plain _)) (by rw [nd_eqv]; exact decide_eq_decide.mpr (rest_zero ks xb))) (fun h2 => ?_) fun h2 => sj_nil ?_
        · rw [if_pos ⟨h, of_decide_eq_true h2⟩] at hS
          exact sj_set (i := .d (resD (some (bx.sum, bx)))) 2 nd (ej_tup (ds := [.int ((bx.sum : Nat) : Int), .list (nD bx)]) (aj_cons (ej_is (ej_sum (ns := bx.map fun z : Nat => (z : Int)) rfl T.b_sum (ej_is (ej_name (i := .d (.list (nD bx))) 4) (by rw [nd_ints]))) (by rw [natsum])) (aj_cons (ej_name 4) aj_nil))) (sj_nil (sj_nil (sj_nil ⟨_, _, _, hS, rfl, rfl⟩)))
        · rw [if_neg (fun c => absurd c.2 (of_decide_eq_false h2))] at hS
          exact sj_nil (sj_nil ⟨_, _, _, hS, rfl, rfl⟩)
      · rw [if_neg (fun c => by rw [h] at c; exact absurd c.1 (by decide))] at hS
        exact sj_nil ⟨_, _, _, hS, rfl, rfl⟩
    · obtain ⟨r', y3, y4, hB, rfl, rfl⟩ := hI
      rw [List.length_map, List.length_range, show (((2 ^ n : Nat) : Int) - 1).toNat + 1 = 2 ^ n by omega] at hB
      have := few_unique (best_few hB) hf
      subst this
      exact sj_ret (ej_name 2) ⟨rfl, [], rfl⟩
end

/-! ### the law's own function: the fewest -/
def ggL (w p n k : Nat) : List Nat := (List.range (2 ^ w)).map (GG (rkF w p) n k)
def gDs (w p n m : Nat) : List PyData := (List.range m).map fun k => .list (nD (ggL w p n k))
theorem gDs_len (w p n m : Nat) : (gDs w p n m).length = m := by simp [gDs]
theorem gDs_succ (w p n m : Nat) : gDs w p n (m + 1) = gDs w p n m ++ [.list (nD (ggL w p n m))] := by
  unfold gDs
  rw [List.range_succ, List.map_append]
  rfl
theorem ggL_at {w p n k s : Nat} (h : s < 2 ^ w) : atI (nD (ggL w p n k)) (s : Int) = some (.int (GG (rkF w p) n k s : Nat)) := atI_nat (j := s) (by
  unfold nD ggL
  rw [List.getElem?_map, List.getElem?_map, List.getElem?_range h]
  rfl)
theorem gRev_at {w p n i : Nat} (h : i ≤ n) : atI (gDs w p n (n + 1)).reverse ((n - i : Nat) : Int) = some (.list (nD (ggL w p n i))) := atI_nat (j := n - i) (by
  rw [List.getElem?_reverse (by rw [gDs_len]; omega), gDs_len, show n + 1 - 1 - (n - i) = i by omega]
  unfold gDs
  rw [List.getElem?_map, List.getElem?_range (by omega)]
  rfl)
theorem rRev_at {w p n t : Nat} (h : t < n) : atI (nD (rsL w p n).reverse) ((n - 1 - t : Nat) : Int) = some (.int (rkF w p t : Nat)) := atI_nat (j := n - 1 - t) (by
  unfold nD
  rw [List.getElem?_map, List.getElem?_reverse (by rw [rsL_len]; omega), rsL_len, show n - 1 - (n - 1 - t) = t by omega]
  unfold rsL
  rw [List.getElem?_map, List.getElem?_range h]
  rfl)
theorem gg0 (w p n : Nat) : ((List.replicate (2 ^ w) (PyData.int ((n : Int) + 1))).set 0 (.int 0)) = nD (ggL w p n 0) := by
  have := Nat.two_pow_pos w
  obtain ⟨m, e⟩ : ∃ m, 2 ^ w = m + 1 := ⟨2 ^ w - 1, by omega⟩
  unfold nD ggL
  rw [e, List.range_succ_eq_map, List.replicate_succ, List.set_cons_zero, List.map_cons, List.map_cons, List.map_map, List.map_map]
  congr 1
  symm
  refine List.eq_replicate_iff.mpr ⟨by simp, fun x hx => ?_⟩
  obtain ⟨j, hj, rfl⟩ := List.mem_map.mp hx
  show PyData.int ((GG (rkF w p) n 0 (j + 1) : Nat) : Int) = _
  unfold GG
  rw [if_neg (by omega)]
  congr 1
theorem gg_some {rk : Nat → Nat} {n k s v : Nat} (hk : k ≤ n) (h : FF rk k s = some v) : GG rk n k s = v ∧ v ≤ k := (GG_FF rk n k s hk).1 v h
theorem gg_none {rk : Nat → Nat} {n k s : Nat} (hk : k ≤ n) (h : FF rk k s = none) : n + 1 ≤ GG rk n k s := (GG_FF rk n k s hk).2 h
theorem gg_bit {rk : Nat → Nat} {n i s u : Nat} (hi : i + 1 ≤ n) (h : FF rk (i + 1) s = some u) : u < GG rk n i s ↔ FF rk i s ≠ some u := by
  have hu := (gg_some hi h).2
  cases e : FF rk i s with
  | none =>
    have := gg_none (show i ≤ n by omega) e
    constructor
    · intro _ hc
      cases hc
    · intro _
      omega
  | some x =>
    have hx := (gg_some (show i ≤ n by omega) e).1
    have lo := FF_low h e
    constructor
    · intro g hc
      have hc : x = u := Option.some.inj hc
      omega
    · intro hc
      have : x ≠ u := fun q => hc (congrArg some q)
      omega
/-- the places of the first ones, from the left -/
def manL (w p n : Nat) : List Nat := (List.range n).map fun k => 1 + GG (rkF w p) n (n - 1 - k) (rkF w p (n - 1 - k))
theorem man_mem {w p n x : Nat} : x ∈ manL w p n ↔ ∃ t, t < n ∧ x = 1 + GG (rkF w p) n t (rkF w p t) := by
  unfold manL
  constructor
  · intro h
    obtain ⟨k, hk, rfl⟩ := List.mem_map.mp h
    have hk := List.mem_range.mp hk
    exact ⟨n - 1 - k, by omega, rfl⟩
  · rintro ⟨t, ht, rfl⟩
    exact List.mem_map.mpr ⟨n - 1 - t, List.mem_range.mpr (by omega), by rw [show n - 1 - (n - 1 - t) = t by omega]⟩
theorem man_none {w p n x : Nat} (h : IsFew (rkF w p) n none) (hx : x ∈ manL w p n) : n < x := by
  obtain ⟨t, ht, rfl⟩ := man_mem.mp hx
  have := gg_none (n := n) (by omega) (h t ht)
  omega
theorem man_some {w p n t u : Nat} (ht : t < n) (e : FF (rkF w p) t (rkF w p t) = some u) (h1 : ∀ t' < n, ∀ v', FF (rkF w p) t' (rkF w p t') = some v' → u ≤ v') : u + 1 ∈ manL w p n ∧ ∀ y ∈ manL w p n, u + 1 ≤ y := by
  have g := gg_some (n := n) (by omega) e
  refine ⟨man_mem.mpr ⟨t, ht, by omega⟩, fun y hy => ?_⟩
  obtain ⟨t', ht', rfl⟩ := man_mem.mp hy
  cases e2 : FF (rkF w p) t' (rkF w p t') with
  | none =>
    have := gg_none (n := n) (by omega) e2
    omega
  | some v' =>
    have := gg_some (n := n) (by omega) e2
    have := h1 t' ht' v' e2
    omega
theorem min_ex : ∀ {l : List Nat}, l ≠ [] → ∃ m, m ∈ l ∧ ∀ y ∈ l, m ≤ y
  | [], h => absurd rfl h
  | [a], _ => ⟨a, List.mem_cons_self, fun y hy => by rw [List.mem_singleton.mp hy]; exact Nat.le_refl _⟩
  | a :: b :: l, _ => by
    obtain ⟨m, hm, h⟩ := min_ex (l := b :: l) (by simp)
    by_cases c : a ≤ m
    · refine ⟨a, List.mem_cons_self, fun y hy => ?_⟩
      rcases List.mem_cons.mp hy with rfl | hy
      · exact Nat.le_refl _
      · have := h y hy
        omega
    · refine ⟨m, List.mem_cons_of_mem _ hm, fun y hy => ?_⟩
      rcases List.mem_cons.mp hy with rfl | hy
      · omega
      · exact h y hy
def fstP (w p n u : Nat) (k : Nat) : Bool := decide (1 + GG (rkF w p) n (n - 1 - k) (rkF w p (n - 1 - k)) = u + 1)
theorem fst_max {w p n t u : Nat} (ht : t < n) (e : FF (rkF w p) t (rkF w p t) = some u) (h2 : ∀ t' < t, FF (rkF w p) t' (rkF w p t') ≠ some u) : n - 1 - t ∈ (List.range n).filter (fstP w p n u) ∧ ∀ y ∈ (List.range n).filter (fstP w p n u), y ≤ n - 1 - t := by
  have g := gg_some (n := n) (by omega) e
  refine ⟨List.mem_filter.mpr ⟨List.mem_range.mpr (by omega), decide_eq_true (by rw [show n - 1 - (n - 1 - t) = t by omega]; omega)⟩, fun y hy => ?_⟩
  obtain ⟨h3, h4⟩ := List.mem_filter.mp hy
  have h3 := List.mem_range.mp h3
  have h4 : 1 + GG (rkF w p) n (n - 1 - y) (rkF w p (n - 1 - y)) = u + 1 := of_decide_eq_true h4
  by_cases c : n - 1 - y < t
  · exfalso
    cases e2 : FF (rkF w p) (n - 1 - y) (rkF w p (n - 1 - y)) with
    | none =>
      have := gg_none (n := n) (by omega) e2
      omega
    | some v' =>
      have := gg_some (n := n) (by omega) e2
      exact h2 _ c (by rw [e2, show v' = u by omega])
  · omega
theorem filt_pos {p : Nat → Bool} {m : Nat} (h : p m = true) : (List.range (m + 1)).filter p = (List.range m).filter p ++ [m] := by
  rw [List.range_succ, List.filter_append, List.filter_cons_of_pos h]
  rfl
theorem filt_neg {p : Nat → Bool} {m : Nat} (h : p m = false) : (List.range (m + 1)).filter p = (List.range m).filter p := by
  rw [List.range_succ, List.filter_append, List.filter_cons_of_neg (by rw [h]; decide)]
  simp
def CoLF : Co := fun is M i M' => M = [] ∧ M' = [] ∧ ∃ (w p n : Nat) (r : Option (Nat × List Nat)), is = [.d (ckD w p), dI n] ∧ KS w p ∧ 1 ≤ n ∧ n ≤ 1000 ∧ IsFew (rkF w p) n r ∧ i = .d (resD r)

theorem gRev_at' {w p n k : Nat} (h : k < n) : atI (gDs w p n (n + 1)).reverse ((k : Int) + 1) = some (.list (nD (ggL w p n (n - 1 - k)))) := by
  rw [show (k : Int) + 1 = ((n - (n - 1 - k) : Nat) : Int) by omega]
  exact gRev_at (by omega)
theorem rRev_at' {w p n k : Nat} (h : k < n) : atI (nD (rsL w p n).reverse) (k : Int) = some (.int (rkF w p (n - 1 - k) : Nat)) := by
  have := rRev_at (w := w) (p := p) (n := n) (t := n - 1 - k) (by omega)
  rwa [show n - 1 - (n - 1 - k) = k by omega] at this
theorem nI_ns (l : List Nat) : nI l = (l.map fun x : Nat => (x : Int)).map dI := by
  unfold nI
  rw [List.map_map]
  rfl
section
variable {P : Program} {w : World} {K : PySem.W.Frag} {mg : Str → Option Value} {base : Heap}
theorem d_law_fewest (T : Txt K mg) : Def P w K mg base "_law_fewest" 2 CoLF := by
  obtain ⟨f, fd, F, hm, hb⟩ := T.f_law_fewest
  have G := d_law_rests (P := P) (w := w) (base := base) T
  refine def_ok F sc_law_fewest hm hb (fun is M i M' h => ?_) fun X hX N is M i M' hF hC => ?_
  · obtain ⟨rfl, rfl, v, p, n, r, rfl, _⟩ := h
    exact ⟨rfl, rfl⟩
  · obtain ⟨cdv, A, outer, sh, H, E, rfl, hr⟩ := hX
    obtain ⟨rfl, rfl, v, p, n, r, rfl, ks, n1, n2, hf, rfl⟩ := hC
    have nd := sc_law_fewest.nd
    have pw := ks.pw
    have v2 := ks.w2
    have pz : 2 ^ v ≤ 65536 := show 2 ^ v ≤ 2 ^ 16 from Nat.pow_le_pow_right (by decide) v2
    have p0 := Nat.two_pow_pos v
    refine sj_set (i := .d (.list (nD (rsL v p n).reverse))) 2 nd (ej_callP G (hr.mono (by decide)) (aj_cons (ej_name 0) (aj_cons (ej_name (i := dI (n : Int)) 1) aj_nil)) ⟨rfl, rfl, v, p, n, rfl, ks, by omega, rfl⟩) ?_
    refine sj_set (i := dI ((2 ^ v : Nat) : Int)) 3 nd (ej_is (ej_shl (n := 1) (m := (v : Int)) ej_int (ej_ixT (ds := [.str "check", .int (v : Int), .int (p : Int)]) (ej_name 0) ej_int (atI_nat (j := 1) rfl)) (cpow_ok (by omega))) (by rw [pow_int])) ?_
    refine sj_ownLL 4 nd (el_rep (ds := [.int ((n : Int) + 1)]) (n := ((2 ^ v : Nat) : Int)) (jl1 (ej_add (n := (n : Int)) (ej_name 1) ej_int)) (ej_name (i := dI ((2 ^ v : Nat) : Int)) 3) (by omega) (by omega) (by show 1 * _ ≤ 100000; omega)) fun q o hq ho => ?_
    have fl : (List.replicate (((2 ^ v : Nat) : Int)).toNat [PyData.int ((n : Int) + 1)]).flatten = List.replicate (2 ^ v) (.int ((n : Int) + 1)) := by
      rw [Int.toNat_natCast]
      generalize 2 ^ v = z
      induction z with
      | zero => rfl
      | succ z ih => rw [List.replicate_succ, List.replicate_succ, List.flatten_cons, ih]; rfl
    rw [fl]
    refine sj_nd fun hnd => ?_
    have qo : q ≠ o := by
      simp at hnd
      exact hnd
    refine sj_setO (p := q) (is := (List.replicate (2 ^ v) (PyData.int ((n : Int) + 1))).map It.d) (n := 0) (i := dI ((0 : Nat) : Int)) (ej_is ej_int rfl) (ej_ixO (ej_name 4) (ej_is ej_int (j := dI 0) rfl) (List.mem_append_right _ (List.mem_singleton.mpr rfl)) at0) (ej_is ej_int rfl) (by simp) (by rw [List.length_map, List.length_replicate]; omega) ?_
    have put1 : Mem.put ([] ++ [(q, (List.replicate (2 ^ v) (PyData.int ((n : Int) + 1))).map It.d)] ++ [(o, [.v (.ref q)])]) q (((List.replicate (2 ^ v) (PyData.int ((n : Int) + 1))).map It.d).set 0 (dI ((0 : Nat) : Int))) = [] ++ [(q, (nD (ggL v p n 0)).map It.d)] ++ [(o, [.v (.ref q)])] := by
      rw [← gg0 v p n, List.map_set]
      have oq : o ≠ q := fun e => qo e.symm
      simp [Mem.put, oq]
    rw [put1]
    refine sj_freezeIn hq ?_
    refine sj_forL (ds := nD (rsL v p n)) rfl (ej_el (ds := nD (rsL v p n)) (el_rev (ds := nD (rsL v p n).reverse) (ej_name 2)) (by unfold nD; rw [List.map_reverse, List.map_reverse, List.map_reverse, List.reverse_reverse])) (fun k ρ M => ∃ y5 y6, ρ = [some (.d (ckD v p)), some (dI (n : Int)), some (.d (.list (nD (rsL v p n).reverse))), some (dI ((2 ^ v : Nat) : Int)), some (.v (.ref o)), y5, y6, none, none, none, none, none, none] ∧ M = [(o, (gDs v p n (k + 1)).map It.d)]) ⟨none, none, rfl, rfl⟩ (fun k d ρ M hk hI => ?_) fun ρ M hI => ?_
    · obtain ⟨y5, y6, rfl, rfl⟩ := hI
      obtain ⟨b, eb, rfl⟩ := nD_get hk
      have kn : k < n := by
        have := (List.getElem?_eq_some_iff.mp eb).1
        rwa [rsL_len] at this
      have eb : b = rkF v p k := by
        unfold rsL at eb
        rw [List.getElem?_map, List.getElem?_range kn] at eb
        exact (Option.some.inj eb).symm
      subst eb
      refine ⟨_, gj_name 5 nd, ?_⟩
      refine sj_set (i := .d (.list (nD (ggL v p n k)))) 6 nd (ej_ixO (ej_name 4) (ej_neg ej_int) (List.mem_singleton.mpr rfl) (by rw [gDs_succ, List.map_append]; exact at_last)) ?_
      refine sj_append (p := o) (is := (gDs v p n (k + 1)).map It.d) (is0 := (gDs v p n (k + 1)).map It.d) (i := .d (.list (nD (ggL v p n (k + 1))))) (ej_name 4) (List.mem_singleton.mpr rfl) (ej_el (ds := nD (ggL v p n (k + 1))) (el_compR 12 (z := ((2 ^ v : Nat) : Int)) (fun m => nI ((List.range m).map (GG (rkF v p) n (k + 1)))) (fun _ => [(o, (gDs v p n (k + 1)).map It.d)]) rfl T.b_range nd (ej_name 3) rfl rfl ⟨by omega, by omega⟩ fun m hm => ?_) ?_) (List.mem_singleton.mpr rfl) (by rw [List.length_map, gDs_len]; omega) ?_
      · have hm : m < 2 ^ v := by omega
        refine ⟨dI ((GG (rkF v p) n (k + 1) m : Nat) : Int), by rw [List.range_succ, List.map_append]; simp [nI], by rw [nI_len]; simp, fun N' s H C cl fp => ?_⟩
        refine ej_is (ej_min2 (n := ((GG (rkF v p) n k m : Nat) : Int)) (m := ((GG (rkF v p) n k (m ^^^ rkF v p k) : Nat) : Int) + 1) rfl T.b_min (ej_ixL (ds := nD (ggL v p n k)) (ej_name 6) (ej_name (i := dI (m : Int)) 12) (ggL_at hm)) (ej_add (n := ((GG (rkF v p) n k (m ^^^ rkF v p k) : Nat) : Int)) (ej_ixL (ds := nD (ggL v p n k)) (ej_name 6) (ej_is (ej_xor (n := (m : Int)) (m := ((rkF v p k : Nat) : Int)) (ej_name 12) (ej_name 5)) (by rw [xorN])) (ggL_at (xor_lt' hm (rk_lt ks k)))) ej_int)) ?_
        refine congrArg dI ?_
        show _ = ((min (GG (rkF v p) n k m) (GG (rkF v p) n k (m ^^^ rkF v p k) + 1) : Nat) : Int)
        split <;> omega
      · rw [Int.toNat_natCast, ← nI_d]
        rfl
      · rw [mem1_put]
        refine sj_nil ⟨_, _, rfl, ?_⟩
        rw [gDs_succ v p n (k + 1), List.map_append]
        rfl
    · obtain ⟨y5, y6, rfl, rfl⟩ := hI
      rw [nD_len, rsL_len]
      refine sj_freeze 4 (p := o) (ds := gDs v p n (n + 1)) rfl (List.mem_singleton.mpr rfl) ho ?_
      rw [show List.filter (fun c : Addr × List Kt.It => decide (c.1 ≠ o)) [(o, (gDs v p n (n + 1)).map It.d)] = [] by simp]
      refine sj_set (i := .d (.list (gDs v p n (n + 1)).reverse)) 4 nd (ej_el (ds := (gDs v p n (n + 1)).reverse) (el_rev (ds := gDs v p n (n + 1)) (ej_name 4)) rfl) ?_
      obtain ⟨m, m1, m2⟩ := min_ex (l := manL v p n) (by
        intro h
        have := congrArg List.length h
        simp [manL] at this
        omega)
      refine sj_set (i := dI (m : Int)) 7 nd (ej_minL (ns := (manL v p n).map fun x : Nat => (x : Int)) rfl T.b_min (ej_el (ds := ((manL v p n).map fun x : Nat => (x : Int)).map .int) (el_compR 10 (z := (n : Int)) (fun k => nI ((List.range k).map fun k => 1 + GG (rkF v p) n (n - 1 - k) (rkF v p (n - 1 - k)))) (fun _ => []) rfl T.b_range nd (ej_name 1) rfl rfl ⟨by omega, by omega⟩ fun k hk => ?_) ?_) (List.mem_map.mpr ⟨m, m1, rfl⟩) (fun y hy => ?_)) ?_
      · have hk : k < n := by omega
        refine ⟨dI ((1 + GG (rkF v p) n (n - 1 - k) (rkF v p (n - 1 - k)) : Nat) : Int), by rw [List.range_succ, List.map_append]; simp [nI], by rw [nI_len]; simp, fun N' s H C cl fp => ?_⟩
        exact ej_is (ej_add (n := 1) (m := ((GG (rkF v p) n (n - 1 - k) (rkF v p (n - 1 - k)) : Nat) : Int)) ej_int (ej_ixL (ds := nD (ggL v p n (n - 1 - k))) (ej_ixL (ds := (gDs v p n (n + 1)).reverse) (ej_name 4) (ej_add (n := (k : Int)) (ej_name 10) ej_int) (gRev_at' hk)) (ej_ixL (ds := nD (rsL v p n).reverse) (ej_name 2) (ej_name (i := dI (k : Int)) 10) (rRev_at' hk)) (ggL_at (rk_lt ks _)))) (by rw [Int.natCast_add]; rfl)
      · rw [Int.toNat_natCast, ← nd_ints, ← nI_d]
        rfl
      · obtain ⟨x, hx, rfl⟩ := List.mem_map.mp hy
        have := m2 x hx
        omega
      refine sj_if (t := decide (n < m)) (tj_is (tj_gt (n := (m : Int)) (m := (n : Int)) (ej_name 7) (ej_name 1)) (decide_eq_decide.mpr (by omega))) (fun h => ?_) fun h => sj_nil ?_
      · have h := of_decide_eq_true h
        cases r with
        | none => exact sj_ret ej_non ⟨rfl, [], rfl⟩
        | some q =>
          exfalso
          obtain ⟨c, bits⟩ := q
          obtain ⟨t, u, ht, _, e, h1, _⟩ := hf
          have hu := (gg_some (n := n) (by omega) e).2
          have := m2 _ (man_some ht e h1).1
          omega
      · have h := of_decide_eq_false h
        cases r with
        | none => exact absurd (man_none hf m1) h
        | some q =>
          obtain ⟨c, bits⟩ := q
          obtain ⟨t, u, ht, rfl, e, h1, h2, rfl⟩ := hf
          have hu := (gg_some (n := n) (by omega) e).2
          have mu : m = u + 1 := by
            have a := m2 _ (man_some ht e h1).1
            have b := (man_some ht e h1).2 m m1
            omega
          subst mu
          obtain ⟨f1, f2⟩ := fst_max ht e h2
          refine sj_set (i := dI ((n - 1 - t : Nat) : Int)) 8 nd (ej_maxL (ns := ((List.range n).filter (fstP v p n u)).map fun x : Nat => (x : Int)) rfl T.b_max (ej_el (ds := (((List.range n).filter (fstP v p n u)).map fun x : Nat => (x : Int)).map .int) (el_compRF 10 (z := (n : Int)) (fun k => nI ((List.range k).filter (fstP v p n u))) (fun _ => []) rfl T.b_range nd (ej_name 1) rfl rfl ⟨by omega, by omega⟩ fun k hk => ?_) ?_) (List.mem_map.mpr ⟨_, f1, rfl⟩) (fun y hy => ?_)) ?_
          · have hk : k < n := by omega
            refine ⟨fstP v p n u k, [], fun N' s H C cl fp => ?_, by rw [nI_len]; exact Nat.le_trans (List.length_filter_le _ _) (by simp), fun hp => ⟨dI (k : Int), by rw [filt_pos hp]; simp [nI], fun N' s H C cl fp => ej_name (i := dI (k : Int)) 10⟩, fun hp => ⟨by rw [filt_neg hp], rfl⟩⟩
            exact tj_is (tj_eqI (n := 1 + ((GG (rkF v p) n (n - 1 - k) (rkF v p (n - 1 - k)) : Nat) : Int)) (m := ((u + 1 : Nat) : Int)) (ej_add (n := 1) (m := ((GG (rkF v p) n (n - 1 - k) (rkF v p (n - 1 - k)) : Nat) : Int)) ej_int (ej_ixL (ds := nD (ggL v p n (n - 1 - k))) (ej_ixL (ds := (gDs v p n (n + 1)).reverse) (ej_name 4) (ej_add (n := (k : Int)) (ej_name 10) ej_int) (gRev_at' hk)) (ej_ixL (ds := nD (rsL v p n).reverse) (ej_name 2) (ej_name (i := dI (k : Int)) 10) (rRev_at' hk)) (ggL_at (rk_lt ks _)))) (ej_name 7)) (by unfold fstP; exact decide_eq_decide.mpr (by omega))
          · rw [Int.toNat_natCast, ← nd_ints, ← nI_d]
          · obtain ⟨x, hx, rfl⟩ := List.mem_map.mp hy
            have := f2 x hx
            omega
          have hfz : n - 1 - t + 1 + t = n := by omega
          generalize hz : n - 1 - t = z at hfz ⊢
          refine sj_own 9 nd (el_cat (ds := nD (List.replicate z 0)) (es := nD [1]) (ej_zeros (n := z) (jl1 ej_int) (ej_name (i := dI (z : Int)) 8) (by omega)) (ej_is (jl1 ej_int) (j := .d (.list (nD [1]))) rfl) (by rw [nD_len, nD_len, List.length_replicate]; show z + 1 ≤ _; omega)) fun o2 ho2 => ?_
          refine sj_set (i := dI ((rkF v p t : Nat) : Int)) 5 nd (ej_ixL (ds := nD (rsL v p n).reverse) (ej_name 2) (ej_name (i := dI (z : Int)) 8) (by rw [← hz]; exact rRev_at ht)) ?_
          refine sj_forW (ds := (List.range ((n : Int) - ((z : Int) + 1)).toNat).map fun k : Nat => .int ((z : Int) + 1 + (k : Int))) rfl (iw_range2 (i := (z : Int) + 1) (j := (n : Int)) T.b_range (ej_add (n := (z : Int)) (ej_name 8) ej_int) (ej_name 1) (by omega) (by omega)) (fun j ρ M => ∃ g s u' y10 y11, j ≤ t ∧ g ++ Gd (rkF v p) (t - j) s u' = Gd (rkF v p) t (rkF v p t) u ∧ FF (rkF v p) (t - j) s = some u' ∧ s < 2 ^ v ∧ g.sum + u' = u ∧ g.length = j ∧ ρ = [some (.d (ckD v p)), some (dI (n : Int)), some (.d (.list (nD (rsL v p n).reverse))), some (dI ((2 ^ v : Nat) : Int)), some (.d (.list (gDs v p n (n + 1)).reverse)), some (dI (s : Int)), y6, some (dI ((u + 1 : Nat) : Int)), some (dI (z : Int)), some (.v (.ref o2)), y10, y11, none] ∧ M = [(o2, nI (List.replicate z 0 ++ 1 :: g))]) ⟨[], _, u, none, none, Nat.zero_le _, rfl, e, rk_lt ks t, by simp, rfl, rfl, by rw [nI_d, nD_app]; rfl⟩ (fun j d ρ M hk hI => ?_) fun ρ M hI => ?_
          · obtain ⟨g, s, u', y10, y11, _, e1, e2, sl, e3, gl, rfl, rfl⟩ := hI
            have jl : j < ((n : Int) - ((z : Int) + 1)).toNat := by
              have := (List.getElem?_eq_some_iff.mp hk).1
              rwa [List.length_map, List.length_range] at this
            have jt : j < t := by omega
            obtain ⟨i, hi⟩ : ∃ i, t - j = i + 1 := ⟨t - j - 1, by omega⟩
            rw [hi] at e1 e2
            rw [List.getElem?_map, List.getElem?_range jl] at hk
            have hk : d = .int ((n - 1 - i : Nat) : Int) := by
              rw [← Option.some.inj hk]
              show PyData.int ((z : Int) + 1 + (j : Int)) = _
              congr 1
              omega
            subst hk
            have hkn : n - 1 - i < n := by omega
            have hii : n - 1 - (n - 1 - i) = i := by omega
            have gr := gRev_at' (w := v) (p := p) hkn
            rw [hii] at gr
            have gb := gg_bit (n := n) (by omega) e2
            have sm : (List.replicate z 0 ++ 1 :: g).sum = 1 + g.sum := by rw [sum_zeros, List.sum_cons]
            refine ⟨_, gj_name 10 nd, ?_⟩
            refine sj_set (i := dI ((if FF (rkF v p) i s = some u' then 0 else 1 : Nat) : Int)) 11 nd (ej_is (ej_intb T.b_int (ej_gtV (n := ((GG (rkF v p) n i s : Nat) : Int)) (m := ((u + 1 : Nat) : Int) - (((1 + g.sum : Nat)) : Int)) (ej_ixL (ds := nD (ggL v p n i)) (ej_ixL (ds := (gDs v p n (n + 1)).reverse) (ej_name 4) (ej_add (n := ((n - 1 - i : Nat) : Int)) (ej_name 10) ej_int) gr) (ej_name (i := dI (s : Int)) 5) (ggL_at sl)) (ej_sub (ej_name (i := dI ((u + 1 : Nat) : Int)) 7) (ej_is (ej_sumO (ns := (List.replicate z 0 ++ 1 :: g).map fun x : Nat => (x : Int)) rfl T.b_sum (ej_name 9) (by rw [nI_ns]; exact List.mem_singleton.mpr rfl)) (by rw [natsum, sm]))))) ?_) ?_
            · by_cases c : FF (rkF v p) i s = some u'
              · have : ¬ u' < GG (rkF v p) n i s := fun q => gb.mp q c
                rw [if_pos c, decide_eq_false (by omega)]
                rfl
              · have := gb.mpr c
                rw [if_neg c, decide_eq_true (by omega)]
                rfl
            refine sj_append (p := o2) (is := nI (List.replicate z 0 ++ 1 :: g)) (is0 := nI (List.replicate z 0 ++ 1 :: g)) (ej_name 9) (List.mem_singleton.mpr rfl) (ej_name (i := dI ((if FF (rkF v p) i s = some u' then 0 else 1 : Nat) : Int)) 11) (List.mem_singleton.mpr rfl) (by rw [nI_len, List.length_append, List.length_replicate, List.length_cons]; omega) ?_
            rw [mem1_put, show ∀ b : Nat, nI (List.replicate z 0 ++ 1 :: g) ++ [dI (b : Int)] = nI (List.replicate z 0 ++ 1 :: (g ++ [b])) from fun b => by simp [nI]]
            by_cases c : FF (rkF v p) i s = some u'
            · rw [if_pos c]
              refine sj_if (t := false) (tj_is (tj_eqI (n := ((0 : Nat) : Int)) (m := 1) (ej_name 11) ej_int) (by decide)) (fun h => nomatch h) fun _ => sj_nil (sj_nil ⟨g ++ [0], s, u', _, _, by omega, ?_, ?_, sl, by rw [List.sum_append]; simp; omega, by simp; omega, rfl, rfl⟩)
              · rw [show t - (j + 1) = i by omega, ← e1]
                conv => rhs; unfold Gd
                rw [if_pos c, List.append_assoc]
                rfl
              · rw [show t - (j + 1) = i by omega]
                exact c
            · rw [if_neg c]
              obtain ⟨u1, e4⟩ := FF_step e2 c
              refine sj_if (t := true) (tj_is (tj_eqI (n := ((1 : Nat) : Int)) (m := 1) (ej_name 11) ej_int) (by decide)) (fun _ => ?_) (fun h => nomatch h)
              have rr := rRev_at' (w := v) (p := p) hkn
              rw [hii] at rr
              refine sj_set (i := dI ((s ^^^ rkF v p i : Nat) : Int)) 5 nd (ej_is (ej_xor (n := (s : Int)) (m := ((rkF v p i : Nat) : Int)) (ej_name 5) (ej_ixL (ds := nD (rsL v p n).reverse) (ej_name 2) (ej_name (i := dI ((n - 1 - i : Nat) : Int)) 10) rr)) (by rw [xorN])) (sj_nil (sj_nil ⟨g ++ [1], s ^^^ rkF v p i, u' - 1, _, _, by omega, ?_, ?_, xor_lt' sl (rk_lt ks i), by rw [List.sum_append]; simp; omega, by simp; omega, rfl, rfl⟩))
              · rw [show t - (j + 1) = i by omega, ← e1]
                conv => rhs; unfold Gd
                rw [if_neg c, List.append_assoc]
                rfl
              · rw [show t - (j + 1) = i by omega]
                exact e4
          · obtain ⟨g, s, u', y10, y11, _, e1, e2, sl, e3, gl, rfl, rfl⟩ := hI
            rw [List.length_map, List.length_range, show ((n : Int) - ((z : Int) + 1)).toNat = t by omega, Nat.sub_self] at e1
            have e1 : g = Gd (rkF v p) t (rkF v p t) u := by rw [← e1]; exact (List.append_nil _).symm
            subst e1
            refine sj_freeze 9 (p := o2) (ds := nD (List.replicate z 0 ++ 1 :: Gd (rkF v p) t (rkF v p t) u)) rfl (by rw [← nI_d]; exact List.mem_singleton.mpr rfl) ho2 ?_
            refine sj_ret (ej_tup (ds := [.int ((u + 1 : Nat) : Int), .list (nD (List.replicate z 0 ++ 1 :: Gd (rkF v p) t (rkF v p t) u))]) (aj_cons (ej_name 7) (aj_cons (ej_name 9) aj_nil))) ⟨?_, [], by simp⟩
            rw [← hz]
            rfl
end

def pcI (l : List Int) (d : Int) : Int := l.getD d.toNat 0
theorem pc_at {l : List Int} {d : Int} (h0 : 0 ≤ d) (h1 : d < (l.length : Int)) : atI (l.map PyData.int) d = some (.int (pcI l d)) := at_of0 h0 (by
  unfold pcI
  rw [List.getElem?_map, List.getD_eq_getElem?_getD, List.getElem?_eq_getElem (by omega)]
  rfl)
theorem pc_mem {l : List Int} {d : Int} (h0 : 0 ≤ d) (h1 : d < (l.length : Int)) : pcI l d ∈ l := by
  unfold pcI
  rw [List.getD_eq_getElem?_getD, List.getElem?_eq_getElem (by omega)]
  exact List.getElem_mem _
theorem res_pn (r : Option (Nat × List Nat)) : PN 2 (resD r) := by
  cases r with
  | none => exact .non
  | some q =>
    obtain ⟨c, bits⟩ := q
    refine .tup _ fun x hx => ?_
    simp only [List.mem_cons, List.not_mem_nil, or_false] at hx
    rcases hx with rfl | rfl
    · exact .int _
    · rw [nd_ints]
      exact PN.ints _
section
variable {P : Program} {w : World} {K : PySem.W.Frag} {mg : Str → Option Value} {base : Heap}
theorem ok_law {f : Addr} {fd : FuncData} (F : Fun K "law" "law" s_law f fd) (T : Txt K mg) : FnOk P w K mg base CX0 8 f fd ["script"] (spLaw K) := by
  have GS := d_law_state (P := P) (w := w) (base := base) T
  have GD := d_law_draw (P := P) (w := w) (base := base) T
  have GC := d_law_check (P := P) (w := w) (base := base) T
  have GA := d_law_all (P := P) (w := w) (base := base) T
  have GF := d_law_fewest (P := P) (w := w) (base := base) T
  have GU := d_fewest_unseen (P := P) (w := w) (base := base) T
  refine law_ok F sc_law fun X hX N a ns hF hl => ?_
  obtain ⟨cdv, A, outer, sh, H, E, rfl, hr⟩ := hX
  have nd := sc_law.nd
  have hrm : ∀ k ≤ 7, Room k (A.deeper (envOfC "law" (defScope s_law) sh.heap.objs.size f cdv)) := fun k hk => hr.mono hk
  have hr1 := hrm 1 (by decide)
  have hr2 := hrm 2 (by decide)
  have hr4 := hrm 4 (by decide)
  refine sj_setN (Mc := []) (Mr := []) 1 nd GS hr1 (aj_cons (ej_name 0) aj_nil) rfl ⟨rfl, a, ns, rfl, hl⟩ fun i M' hB => ?_
  obtain ⟨a', ns', p, c, hsc, rfl, rfl, hl2⟩ := hB
  have hl0 : (ns'.map absI).length ≤ 63 := by rw [List.length_map]; exact hl2
  generalize ns'.map absI = cs0 at hl0 ⊢
  generalize seedOf ns' + 1 = s0
  rw [List.append_nil]
  refine sj_set (M1 := Stt p c (lcS cs0 s0 6).1 (lcS cs0 s0 6).2 ++ []) 2 nd (ej_call GC hr2 (aj_cons (ej_name 1) (aj_cons ej_int aj_nil)) (Mc := Stt p c cs0 s0) (Mr := []) (List.append_nil _).symm ⟨p, c, _, _, 6, rfl, rfl, by decide, by decide, hl0, rfl, rfl⟩ rfl) ?_
  have ks := lc_ks (cs := cs0) (s := s0) (most := 6) (by decide) (by decide)
  have l1 := lcS_len (s := s0) (most := 6) hl0
  generalize lcW cs0 s0 6 = v at ks ⊢
  generalize lcP cs0 s0 6 = po at ks ⊢
  generalize lcS cs0 s0 6 = q1 at l1 ⊢
  generalize q1.1 = cs1 at l1 ⊢
  generalize q1.2 = s1
  rw [List.append_nil]
  have w1 := drw_lo (many := 9) cs1 s1 (by decide)
  have w2 := drw_hi (many := 9) cs1 s1 (by decide)
  have l2 := Nat.le_trans (drw_len cs1 s1 (9 : Int)) l1
  refine sj_set (M1 := Stt p c (drw cs1 s1 9).2.1 (drw cs1 s1 9).2.2 ++ []) 3 nd (ej_add ej_int (ej_draw GD hr1 (Mr := []) (cs := cs1) (s := s1) (ej_m (ej_name 1) (List.append_nil _).symm) ej_int (by decide) (by decide) l1)) ?_
  obtain ⟨n, hn⟩ : ∃ n : Nat, 1 + (drw cs1 s1 9).1 = (n : Int) := ⟨(1 + (drw cs1 s1 9).1).toNat, by omega⟩
  rw [hn, List.append_nil]
  have n1 : 1 ≤ n := by omega
  have n2 : n ≤ 12 := by omega
  generalize (drw cs1 s1 9).2.1 = cs2 at l2 ⊢
  generalize (drw cs1 s1 9).2.2 = s2
  obtain ⟨r, hf⟩ := few_ex (rkF v po) n
  refine sj_set (i := .d (resD r)) 4 nd (ej_callP GA hr2 (aj_cons (ej_name 2) (aj_cons (ej_name (i := dI (n : Int)) 3) aj_nil)) ⟨rfl, rfl, v, po, n, r, rfl, ks, n1, n2, hf, rfl⟩) ?_
  refine sj_if (t := false) (tj_w (wj_or (t := false) (u := false) (tj_is (tj_neD hr.units (ej_callP GF hr2 (aj_cons (ej_name 2) (aj_cons (ej_name (i := dI (n : Int)) 3) aj_nil)) ⟨rfl, rfl, v, po, n, r, rfl, ks, n1, by omega, hf, rfl⟩) (ej_name 4) (.d _) (.d _) (res_pn r).plain (res_pn r).plain) (by rw [(res_pn r).refl]; rfl)) fun _ => wj_or1 (tj_is (tj_neD hr.units (ej_callP GU hr4 (aj_cons (ej_name 2) (aj_cons (ej_name (i := dI (n : Int)) 3) aj_nil)) ⟨rfl, rfl, v, po, n, r, rfl, ks, by omega, hf, rfl⟩) (ej_name 4) (.d _) (.d _) (res_pn r).plain (res_pn r).plain) (by rw [(res_pn r).refl]; rfl)))) (fun h => nomatch h) fun _ => sj_nil ?_
  -- wide
  have w3 := drw_lo (many := 3) cs2 s2 (by decide)
  have w4 := drw_hi (many := 3) cs2 s2 (by decide)
  have l3 := Nat.le_trans (drw_len cs2 s2 (3 : Int)) l2
  have hq : pcI [6, 8, 10] (drw cs2 s2 3).1 = 6 ∨ pcI [6, 8, 10] (drw cs2 s2 3).1 = 8 ∨ pcI [6, 8, 10] (drw cs2 s2 3).1 = 10 := by
    have := pc_mem (l := [6, 8, 10]) w3 (by show _ < (3 : Int); omega)
    simpa using this
  refine sj_set (M1 := Stt p c (lcS (drw cs2 s2 3).2.1 (drw cs2 s2 3).2.2 (pcI [6, 8, 10] (drw cs2 s2 3).1)).1 (lcS (drw cs2 s2 3).2.1 (drw cs2 s2 3).2.2 (pcI [6, 8, 10] (drw cs2 s2 3).1)).2 ++ []) 5 nd (ej_call GC hr2 (aj_cons (ej_name 1) (aj_cons (ej_ixL (ds := [6, 8, 10].map PyData.int) (jr_list (S := [6, 8, 10].map .int) (jd_cons ej_int (jd_cons ej_int (jd_cons ej_int jd_nil))) (by decide)) (ej_draw GD hr1 (Mr := []) (cs := cs2) (s := s2) (ej_m (ej_name 1) (List.append_nil _).symm) ej_int (by decide) (by decide) l2) (pc_at w3 (by show _ < (3 : Int); omega))) aj_nil)) (Mc := Stt p c (drw cs2 s2 3).2.1 (drw cs2 s2 3).2.2) (Mr := []) rfl ⟨p, c, _, _, pcI [6, 8, 10] (drw cs2 s2 3).1, rfl, rfl, by omega, by omega, l3, rfl, rfl⟩ rfl) ?_
  have ks2 := lc_ks (cs := (drw cs2 s2 3).2.1) (s := (drw cs2 s2 3).2.2) (most := pcI [6, 8, 10] (drw cs2 s2 3).1) (by omega) (by omega)
  have l4 := lcS_len (s := (drw cs2 s2 3).2.2) (most := pcI [6, 8, 10] (drw cs2 s2 3).1) l3
  generalize lcW (drw cs2 s2 3).2.1 (drw cs2 s2 3).2.2 (pcI [6, 8, 10] (drw cs2 s2 3).1) = v2 at ks2 ⊢
  generalize lcP (drw cs2 s2 3).2.1 (drw cs2 s2 3).2.2 (pcI [6, 8, 10] (drw cs2 s2 3).1) = po2 at ks2 ⊢
  generalize lcS (drw cs2 s2 3).2.1 (drw cs2 s2 3).2.2 (pcI [6, 8, 10] (drw cs2 s2 3).1) = q2 at l4 ⊢
  clear hq w3 w4
  generalize q2.1 = cs3 at l4 ⊢
  generalize q2.2 = s3
  rw [List.append_nil]
  -- longer
  have w5 := drw_lo (many := 2) cs3 s3 (by decide)
  have w6 := drw_hi (many := 2) cs3 s3 (by decide)
  have l5 := Nat.le_trans (drw_len cs3 s3 (2 : Int)) l4
  have hq : pcI [60, 200] (drw cs3 s3 2).1 = 60 ∨ pcI [60, 200] (drw cs3 s3 2).1 = 200 := by
    have := pc_mem (l := [60, 200]) w5 (by show _ < (2 : Int); omega)
    simpa using this
  have hq0 : 0 < pcI [60, 200] (drw cs3 s3 2).1 := by omega
  have w7 := drw_lo (drw cs3 s3 2).2.1 (drw cs3 s3 2).2.2 hq0
  have w8 := drw_hi (drw cs3 s3 2).2.1 (drw cs3 s3 2).2.2 hq0
  refine sj_set (M1 := Stt p c (drw (drw cs3 s3 2).2.1 (drw cs3 s3 2).2.2 (pcI [60, 200] (drw cs3 s3 2).1)).2.1 (drw (drw cs3 s3 2).2.1 (drw cs3 s3 2).2.2 (pcI [60, 200] (drw cs3 s3 2).1)).2.2 ++ []) 6 nd (ej_add ej_int (ej_draw GD hr1 (Mr := []) (cs := cs3) (s := s3) (ej_m (ej_name 1) (List.append_nil _).symm) (ej_ixL (ds := [60, 200].map PyData.int) (jr_list (S := [60, 200].map .int) (jd_cons ej_int (jd_cons ej_int jd_nil)) (by decide)) (ej_draw GD hr1 (Mr := []) (cs := cs3) (s := s3) (ej_name 1) ej_int (by decide) (by decide) l4) (pc_at w5 (by show _ < (2 : Int); omega))) hq0 (by omega) l5)) ?_
  generalize (drw (drw cs3 s3 2).2.1 (drw cs3 s3 2).2.2 (pcI [60, 200] (drw cs3 s3 2).1)) = q3 at w7 w8 ⊢
  obtain ⟨n', hn'⟩ : ∃ n : Nat, 1 + q3.1 = (n : Int) := ⟨(1 + q3.1).toNat, by omega⟩
  rw [hn', List.append_nil]
  have m1 : 1 ≤ n' := by omega
  have m2 : n' ≤ 1000 := by omega
  obtain ⟨r2, hf2⟩ := few_ex (rkF v2 po2) n'
  exact sj_ret (ej_is (ej_eqD hr.units (ej_callP GU hr4 (aj_cons (ej_name 5) (aj_cons (ej_name (i := dI (n' : Int)) 6) aj_nil)) ⟨rfl, rfl, v2, po2, n', r2, rfl, ks2, by omega, hf2, rfl⟩) (ej_callP GF hr2 (aj_cons (ej_name 5) (aj_cons (ej_name (i := dI (n' : Int)) 6) aj_nil)) ⟨rfl, rfl, v2, po2, n', r2, rfl, ks2, m1, m2, hf2, rfl⟩) (.d _) (.d _) (res_pn r2).plain (res_pn r2).plain) (by rw [(res_pn r2).refl])) rfl
end

theorem all_mk {l : PySem.W.OpenLaw} {w : World} {K : PySem.W.Frag} {h : Heap} {mg : Str → Option Value} {fa : Addr} (X : K.In h) (G : h.Ns mainGlobals mg) (hfa : mg "law" = some (.ref fa))
    {f0 : Addr} {od0 an0 : Option Addr} {sl0 : Array (Option Value)} {oc0 kV0 dc0 pm0 cd0 ct0 : Value}
    (a0 : PySem.W.nsIn K mainGlobals "pushed" = some (some (.ref f0))) (l0 : K.lookup f0 = some ⟨oc0, od0, .func (PySem.W.fnOf "pushed" "pushed" (defArgs s_pushed) (defBody s_pushed) (defScope s_pushed) .none kV0 dc0 pm0 an0 cd0 ct0), sl0⟩) (c0 : PySem.W.codeIn K cd0 "pushed" = true) (k0 : PySem.W.keepIn K (.ref f0) = true)
    {f1 : Addr} {od1 an1 : Option Addr} {sl1 : Array (Option Value)} {oc1 kV1 dc1 pm1 cd1 ct1 : Value}
    (a1 : PySem.W.nsIn K mainGlobals "rest_of" = some (some (.ref f1))) (l1 : K.lookup f1 = some ⟨oc1, od1, .func (PySem.W.fnOf "rest_of" "rest_of" (defArgs s_rest_of) (defBody s_rest_of) (defScope s_rest_of) .none kV1 dc1 pm1 an1 cd1 ct1), sl1⟩) (c1 : PySem.W.codeIn K cd1 "rest_of" = true) (k1 : PySem.W.keepIn K (.ref f1) = true)
    {f2 : Addr} {od2 an2 : Option Addr} {sl2 : Array (Option Value)} {oc2 kV2 dc2 pm2 cd2 ct2 : Value}
    (a2 : PySem.W.nsIn K mainGlobals "fewest_unseen" = some (some (.ref f2))) (l2 : K.lookup f2 = some ⟨oc2, od2, .func (PySem.W.fnOf "fewest_unseen" "fewest_unseen" (defArgs s_fewest_unseen) (defBody s_fewest_unseen) (defScope s_fewest_unseen) .none kV2 dc2 pm2 an2 cd2 ct2), sl2⟩) (c2 : PySem.W.codeIn K cd2 "fewest_unseen" = true) (k2 : PySem.W.keepIn K (.ref f2) = true)
    {f3 : Addr} {od3 an3 : Option Addr} {sl3 : Array (Option Value)} {oc3 kV3 dc3 pm3 cd3 ct3 : Value}
    (a3 : PySem.W.nsIn K mainGlobals "power_rests" = some (some (.ref f3))) (l3 : K.lookup f3 = some ⟨oc3, od3, .func (PySem.W.fnOf "power_rests" "power_rests" (defArgs s_power_rests) (defBody s_power_rests) (defScope s_power_rests) .none kV3 dc3 pm3 an3 cd3 ct3), sl3⟩) (c3 : PySem.W.codeIn K cd3 "power_rests" = true) (k3 : PySem.W.keepIn K (.ref f3) = true)
    {f4 : Addr} {od4 an4 : Option Addr} {sl4 : Array (Option Value)} {oc4 kV4 dc4 pm4 cd4 ct4 : Value}
    (a4 : PySem.W.nsIn K mainGlobals "fewest_ones" = some (some (.ref f4))) (l4 : K.lookup f4 = some ⟨oc4, od4, .func (PySem.W.fnOf "fewest_ones" "fewest_ones" (defArgs s_fewest_ones) (defBody s_fewest_ones) (defScope s_fewest_ones) .none kV4 dc4 pm4 an4 cd4 ct4), sl4⟩) (c4 : PySem.W.codeIn K cd4 "fewest_ones" = true) (k4 : PySem.W.keepIn K (.ref f4) = true)
    {f5 : Addr} {od5 an5 : Option Addr} {sl5 : Array (Option Value)} {oc5 kV5 dc5 pm5 cd5 ct5 : Value}
    (a5 : PySem.W.nsIn K mainGlobals "lesser" = some (some (.ref f5))) (l5 : K.lookup f5 = some ⟨oc5, od5, .func (PySem.W.fnOf "lesser" "lesser" (defArgs s_lesser) (defBody s_lesser) (defScope s_lesser) .none kV5 dc5 pm5 an5 cd5 ct5), sl5⟩) (c5 : PySem.W.codeIn K cd5 "lesser" = true) (k5 : PySem.W.keepIn K (.ref f5) = true)
    {f6 : Addr} {od6 an6 : Option Addr} {sl6 : Array (Option Value)} {oc6 kV6 dc6 pm6 cd6 ct6 : Value}
    (a6 : PySem.W.nsIn K mainGlobals "least_ones" = some (some (.ref f6))) (l6 : K.lookup f6 = some ⟨oc6, od6, .func (PySem.W.fnOf "least_ones" "least_ones" (defArgs s_least_ones) (defBody s_least_ones) (defScope s_least_ones) .none kV6 dc6 pm6 an6 cd6 ct6), sl6⟩) (c6 : PySem.W.codeIn K cd6 "least_ones" = true) (k6 : PySem.W.keepIn K (.ref f6) = true)
    {f7 : Addr} {od7 an7 : Option Addr} {sl7 : Array (Option Value)} {oc7 kV7 dc7 pm7 cd7 ct7 : Value}
    (a7 : PySem.W.nsIn K mainGlobals "_law_state" = some (some (.ref f7))) (l7 : K.lookup f7 = some ⟨oc7, od7, .func (PySem.W.fnOf "_law_state" "_law_state" (defArgs s_law_state) (defBody s_law_state) (defScope s_law_state) .none kV7 dc7 pm7 an7 cd7 ct7), sl7⟩) (c7 : PySem.W.codeIn K cd7 "_law_state" = true) (k7 : PySem.W.keepIn K (.ref f7) = true)
    {f8 : Addr} {od8 an8 : Option Addr} {sl8 : Array (Option Value)} {oc8 kV8 dc8 pm8 cd8 ct8 : Value}
    (a8 : PySem.W.nsIn K mainGlobals "_law_draw" = some (some (.ref f8))) (l8 : K.lookup f8 = some ⟨oc8, od8, .func (PySem.W.fnOf "_law_draw" "_law_draw" (defArgs s_law_draw) (defBody s_law_draw) (defScope s_law_draw) .none kV8 dc8 pm8 an8 cd8 ct8), sl8⟩) (c8 : PySem.W.codeIn K cd8 "_law_draw" = true) (k8 : PySem.W.keepIn K (.ref f8) = true)
    {f9 : Addr} {od9 an9 : Option Addr} {sl9 : Array (Option Value)} {oc9 kV9 dc9 pm9 cd9 ct9 : Value}
    (a9 : PySem.W.nsIn K mainGlobals "_law_check" = some (some (.ref f9))) (l9 : K.lookup f9 = some ⟨oc9, od9, .func (PySem.W.fnOf "_law_check" "_law_check" (defArgs s_law_check) (defBody s_law_check) (defScope s_law_check) .none kV9 dc9 pm9 an9 cd9 ct9), sl9⟩) (c9 : PySem.W.codeIn K cd9 "_law_check" = true) (k9 : PySem.W.keepIn K (.ref f9) = true)
    {f10 : Addr} {od10 an10 : Option Addr} {sl10 : Array (Option Value)} {oc10 kV10 dc10 pm10 cd10 ct10 : Value}
    (a10 : PySem.W.nsIn K mainGlobals "_law_rest" = some (some (.ref f10))) (l10 : K.lookup f10 = some ⟨oc10, od10, .func (PySem.W.fnOf "_law_rest" "_law_rest" (defArgs s_law_rest) (defBody s_law_rest) (defScope s_law_rest) .none kV10 dc10 pm10 an10 cd10 ct10), sl10⟩) (c10 : PySem.W.codeIn K cd10 "_law_rest" = true) (k10 : PySem.W.keepIn K (.ref f10) = true)
    {f11 : Addr} {od11 an11 : Option Addr} {sl11 : Array (Option Value)} {oc11 kV11 dc11 pm11 cd11 ct11 : Value}
    (a11 : PySem.W.nsIn K mainGlobals "_law_all" = some (some (.ref f11))) (l11 : K.lookup f11 = some ⟨oc11, od11, .func (PySem.W.fnOf "_law_all" "_law_all" (defArgs s_law_all) (defBody s_law_all) (defScope s_law_all) .none kV11 dc11 pm11 an11 cd11 ct11), sl11⟩) (c11 : PySem.W.codeIn K cd11 "_law_all" = true) (k11 : PySem.W.keepIn K (.ref f11) = true)
    {f12 : Addr} {od12 an12 : Option Addr} {sl12 : Array (Option Value)} {oc12 kV12 dc12 pm12 cd12 ct12 : Value}
    (a12 : PySem.W.nsIn K mainGlobals "_law_rests" = some (some (.ref f12))) (l12 : K.lookup f12 = some ⟨oc12, od12, .func (PySem.W.fnOf "_law_rests" "_law_rests" (defArgs s_law_rests) (defBody s_law_rests) (defScope s_law_rests) .none kV12 dc12 pm12 an12 cd12 ct12), sl12⟩) (c12 : PySem.W.codeIn K cd12 "_law_rests" = true) (k12 : PySem.W.keepIn K (.ref f12) = true)
    {f13 : Addr} {od13 an13 : Option Addr} {sl13 : Array (Option Value)} {oc13 kV13 dc13 pm13 cd13 ct13 : Value}
    (a13 : PySem.W.nsIn K mainGlobals "_law_fewest" = some (some (.ref f13))) (l13 : K.lookup f13 = some ⟨oc13, od13, .func (PySem.W.fnOf "_law_fewest" "_law_fewest" (defArgs s_law_fewest) (defBody s_law_fewest) (defScope s_law_fewest) .none kV13 dc13 pm13 an13 cd13 ct13), sl13⟩) (c13 : PySem.W.codeIn K cd13 "_law_fewest" = true) (k13 : PySem.W.keepIn K (.ref f13) = true)
    {f14 : Addr} {od14 an14 : Option Addr} {sl14 : Array (Option Value)} {oc14 kV14 dc14 pm14 cd14 ct14 : Value}
    (a14 : PySem.W.nsIn K mainGlobals "law" = some (some (.ref f14))) (l14 : K.lookup f14 = some ⟨oc14, od14, .func (PySem.W.fnOf "law" "law" (defArgs s_law) (defBody s_law) (defScope s_law) .none kV14 dc14 pm14 an14 cd14 ct14), sl14⟩) (c14 : PySem.W.codeIn K cd14 "law" = true) (k14 : PySem.W.keepIn K (.ref f14) = true)
    (z_abs : PySem.W.nsIn K mainGlobals "abs" = some none)
    (z_enumerate : PySem.W.nsIn K mainGlobals "enumerate" = some none)
    (z_int : PySem.W.nsIn K mainGlobals "int" = some none)
    (z_len : PySem.W.nsIn K mainGlobals "len" = some none)
    (z_list : PySem.W.nsIn K mainGlobals "list" = some none)
    (z_max : PySem.W.nsIn K mainGlobals "max" = some none)
    (z_min : PySem.W.nsIn K mainGlobals "min" = some none)
    (z_range : PySem.W.nsIn K mainGlobals "range" = some none)
    (z_reversed : PySem.W.nsIn K mainGlobals "reversed" = some none)
    (z_sum : PySem.W.nsIn K mainGlobals "sum" = some none)
    : ∃ fd : FuncData, (∀ (s : Shared) (v : Value), BindsTo s fd ⟨[v], []⟩ [("script", v)]) ∧ ∀ base : Heap, K.In base → base.Ns mainGlobals mg → FnOk l.prog w K mg base CX0 8 fa fd ["script"] (spLaw K) := by
  have e := hfa.symm.trans (PySem.W.mg_of X G a14)
  cases e
  have T : Txt K mg := {
    f_pushed := ⟨_, _, fun_mk (st := s_pushed) l0 c0 k0, PySem.W.mg_of X G a0, (fun_mk (st := s_pushed) l0 c0 k0).binds (ps := ["check", "rest", "bit"]) fun _ _ _ _ _ _ us hl => match us, hl with | [_, _, _], _ => rfl⟩
    f_rest_of := ⟨_, _, fun_mk (st := s_rest_of) l1 c1 k1, PySem.W.mg_of X G a1, (fun_mk (st := s_rest_of) l1 c1 k1).binds (ps := ["check", "row"]) fun _ _ _ _ _ _ us hl => match us, hl with | [_, _], _ => rfl⟩
    f_fewest_unseen := ⟨_, _, fun_mk (st := s_fewest_unseen) l2 c2 k2, PySem.W.mg_of X G a2, (fun_mk (st := s_fewest_unseen) l2 c2 k2).binds (ps := ["check", "length"]) fun _ _ _ _ _ _ us hl => match us, hl with | [_, _], _ => rfl⟩
    f_power_rests := ⟨_, _, fun_mk (st := s_power_rests) l3 c3 k3, PySem.W.mg_of X G a3, (fun_mk (st := s_power_rests) l3 c3 k3).binds (ps := ["check", "length"]) fun _ _ _ _ _ _ us hl => match us, hl with | [_, _], _ => rfl⟩
    f_fewest_ones := ⟨_, _, fun_mk (st := s_fewest_ones) l4 c4 k4, PySem.W.mg_of X G a4, (fun_mk (st := s_fewest_ones) l4 c4 k4).binds (ps := ["check", "rests"]) fun _ _ _ _ _ _ us hl => match us, hl with | [_, _], _ => rfl⟩
    f_lesser := ⟨_, _, fun_mk (st := s_lesser) l5 c5 k5, PySem.W.mg_of X G a5, (fun_mk (st := s_lesser) l5 c5 k5).binds (ps := ["without", "beside"]) fun _ _ _ _ _ _ us hl => match us, hl with | [_, _], _ => rfl⟩
    f_least_ones := ⟨_, _, fun_mk (st := s_least_ones) l6 c6 k6, PySem.W.mg_of X G a6, (fun_mk (st := s_least_ones) l6 c6 k6).binds (ps := ["fewest", "rests", "top"]) fun _ _ _ _ _ _ us hl => match us, hl with | [_, _, _], _ => rfl⟩
    f_law_state := ⟨_, _, fun_mk (st := s_law_state) l7 c7 k7, PySem.W.mg_of X G a7, (fun_mk (st := s_law_state) l7 c7 k7).binds (ps := ["script"]) fun _ _ _ _ _ _ us hl => match us, hl with | [_], _ => rfl⟩
    f_law_draw := ⟨_, _, fun_mk (st := s_law_draw) l8 c8 k8, PySem.W.mg_of X G a8, (fun_mk (st := s_law_draw) l8 c8 k8).binds (ps := ["state", "many"]) fun _ _ _ _ _ _ us hl => match us, hl with | [_, _], _ => rfl⟩
    f_law_check := ⟨_, _, fun_mk (st := s_law_check) l9 c9 k9, PySem.W.mg_of X G a9, (fun_mk (st := s_law_check) l9 c9 k9).binds (ps := ["state", "most"]) fun _ _ _ _ _ _ us hl => match us, hl with | [_, _], _ => rfl⟩
    f_law_rest := ⟨_, _, fun_mk (st := s_law_rest) l10 c10 k10, PySem.W.mg_of X G a10, (fun_mk (st := s_law_rest) l10 c10 k10).binds (ps := ["check", "row"]) fun _ _ _ _ _ _ us hl => match us, hl with | [_, _], _ => rfl⟩
    f_law_all := ⟨_, _, fun_mk (st := s_law_all) l11 c11 k11, PySem.W.mg_of X G a11, (fun_mk (st := s_law_all) l11 c11 k11).binds (ps := ["check", "length"]) fun _ _ _ _ _ _ us hl => match us, hl with | [_, _], _ => rfl⟩
    f_law_rests := ⟨_, _, fun_mk (st := s_law_rests) l12 c12 k12, PySem.W.mg_of X G a12, (fun_mk (st := s_law_rests) l12 c12 k12).binds (ps := ["check", "length"]) fun _ _ _ _ _ _ us hl => match us, hl with | [_, _], _ => rfl⟩
    f_law_fewest := ⟨_, _, fun_mk (st := s_law_fewest) l13 c13 k13, PySem.W.mg_of X G a13, (fun_mk (st := s_law_fewest) l13 c13 k13).binds (ps := ["check", "length"]) fun _ _ _ _ _ _ us hl => match us, hl with | [_, _], _ => rfl⟩
    f_law := ⟨_, _, fun_mk (st := s_law) l14 c14 k14, PySem.W.mg_of X G a14, (fun_mk (st := s_law) l14 c14 k14).binds (ps := ["script"]) fun _ _ _ _ _ _ us hl => match us, hl with | [_], _ => rfl⟩
    b_abs := PySem.W.mg_none_of X G z_abs
    b_enumerate := PySem.W.mg_none_of X G z_enumerate
    b_int := PySem.W.mg_none_of X G z_int
    b_len := PySem.W.mg_none_of X G z_len
    b_list := PySem.W.mg_none_of X G z_list
    b_max := PySem.W.mg_none_of X G z_max
    b_min := PySem.W.mg_none_of X G z_min
    b_range := PySem.W.mg_none_of X G z_range
    b_reversed := PySem.W.mg_none_of X G z_reversed
    b_sum := PySem.W.mg_none_of X G z_sum
  }
  have FL := fun_mk (st := s_law) l14 c14 k14
  exact ⟨_, fun s v => .of_eq rfl, fun base _ _ => ok_law FL T⟩
end K41
open PySem PySem.W PyProof.Rows
set_option maxHeartbeats 0 in
theorem PySem.Challenge.cw_heardtrue_k41_fewest_unseen_holds : PySem.Challenge.rw_heardtrue_k41_fewest_unseen.Holds := by
  w_on; o_law; k_head; (case hw => w_witness2)
  k_fill
  refine L2.walk_of (l := PySem.Challenge.rw_heardtrue_k41_fewest_unseen) (n := 63) (k := 8) (x := "script") (CX := fun _ => L2.CX0) (sp := fun w => Kt.spLaw _) rfl (by decide) rfl ⟨rfl, by decide, by decide⟩ (fun w h Y => PySem.W.kIn_of Y) ?F (fun _ _ a ns hl ho hS => ⟨a, ns, rfl, hS, hl, Kt.nz_only ho, fun _ => rfl⟩) (fun _ _ _ _ _ h => h)
  case F =>
    intro w mg fa h KX G hmg
    refine' K41.all_mk KX G hmg ?a0 ?l0 ?c0 ?k0 ?a1 ?l1 ?c1 ?k1 ?a2 ?l2 ?c2 ?k2 ?a3 ?l3 ?c3 ?k3 ?a4 ?l4 ?c4 ?k4 ?a5 ?l5 ?c5 ?k5 ?a6 ?l6 ?c6 ?k6 ?a7 ?l7 ?c7 ?k7 ?a8 ?l8 ?c8 ?k8 ?a9 ?l9 ?c9 ?k9 ?a10 ?l10 ?c10 ?k10 ?a11 ?l11 ?c11 ?k11 ?a12 ?l12 ?c12 ?k12 ?a13 ?l13 ?c13 ?k13 ?a14 ?l14 ?c14 ?k14 ?z_abs ?z_enumerate ?z_int ?z_len ?z_list ?z_max ?z_min ?z_range ?z_reversed ?z_sum
    (case a0 => k_is); (case l0 => k_is); (case c0 => k_is); (case k0 => k_is); (case a1 => k_is); (case l1 => k_is); (case c1 => k_is); (case k1 => k_is); (case a2 => k_is); (case l2 => k_is); (case c2 => k_is); (case k2 => k_is); (case a3 => k_is); (case l3 => k_is); (case c3 => k_is); (case k3 => k_is); (case a4 => k_is); (case l4 => k_is); (case c4 => k_is); (case k4 => k_is); (case a5 => k_is); (case l5 => k_is); (case c5 => k_is); (case k5 => k_is); (case a6 => k_is); (case l6 => k_is); (case c6 => k_is); (case k6 => k_is); (case a7 => k_is); (case l7 => k_is); (case c7 => k_is); (case k7 => k_is); (case a8 => k_is); (case l8 => k_is); (case c8 => k_is); (case k8 => k_is); (case a9 => k_is); (case l9 => k_is); (case c9 => k_is); (case k9 => k_is); (case a10 => k_is); (case l10 => k_is); (case c10 => k_is); (case k10 => k_is); (case a11 => k_is); (case l11 => k_is); (case c11 => k_is); (case k11 => k_is); (case a12 => k_is); (case l12 => k_is); (case c12 => k_is); (case k12 => k_is); (case a13 => k_is); (case l13 => k_is); (case c13 => k_is); (case k13 => k_is); (case a14 => k_is); (case l14 => k_is); (case c14 => k_is); (case k14 => k_is); (case z_abs => k_is); (case z_enumerate => k_is); (case z_int => k_is); (case z_len => k_is); (case z_list => k_is); (case z_max => k_is); (case z_min => k_is); (case z_range => k_is); (case z_reversed => k_is); (case z_sum => k_is)

