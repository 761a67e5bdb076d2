import PyProof.Rows.All
import PySem.Challenge.RW_heardtrue_k98_openings_of_all_sizes
import HandS.ForMost
import HandS.CallLocal
import HandS.Comp
import HandS.Conv
import HandS.Deep
import HandS.Dict
import HandS.DictComp
import HandS.ExcInit
import HandS.ExcIs
import HandS.FStr
import HandS.ForExc
import HandS.IsInst
import HandS.Iter
import HandS.More
import HandS.NoneIn
import HandS.RevRange
import HandS.SortKw
import HandS.Style
import HandS.Text
import HandS.TryOnly
import HandS.TupAny
import HandS.TupMul
import HandS.TupSets
import HandS.Walk
import HandS.Wide
import HandS.WideBits
import HandS.Zip
import KE.BitLaws
import KE.DataAny
import KE.DataFind
import KE.DataMinMax
import KE.DatumOrd
import KE.GoesEnum
import KE.GoesNew
import KE.KExcIs
import KE.OsArith
import KE.SortData
import PyProof.AutoSeq1
import PyProof.FitsInt
import PyProof.ReprBulk
import PyProof.ReprReads
set_option Elab.async false
set_option linter.all false
set_option maxRecDepth 100000
set_option maxHeartbeats 40000000
/-! Kt: symbolic states over the hand layer. Slots and cells hold items: plain data (persistent), or a raw value. -/
namespace Kt
open PySem PySem.Spec PyProof.Rows L2

def Ex (H H' : Hp) : Prop := ∀ a o, H a = some o → H' a = some o
/-- an item: plain data; a raw value; a raw value of which something is true that stays true -/
inductive It where
  | d (x : PyData)
  | v (u : V)
  | m (u : V) (φ : Hp → Prop) (h : ∀ P P', Ex P P' → φ P → φ P')
  | w (φ : V → Hp → Prop) (h : ∀ v P P', Ex P P' → φ v P → φ v P')
abbrev Mem := List (Addr × List It)
abbrev Rho := List (Option It)

theorem Ex.refl (H : Hp) : Ex H H := fun _ _ h => h
theorem Ex.trans {H H1 H2 : Hp} (a : Ex H H1) (b : Ex H1 H2) : Ex H H2 := fun x o h => b x o (a x o h)
theorem Ex.new {H : Hp} {p : Addr} {o : HO} (h : H p = none) : Ex H (upd H p o) := fun a u e => by
  rw [upd_ne (ne_of_none e h)]
  exact e
theorem ex_rd {H H' : Hp} {a : Addr} {u : HO} (e : Ex H H') (h : Rd H a u) : Rd H' a u := by
  rcases h with h | ⟨o, h⟩
  · exact Or.inl (e a _ h)
  · exact Or.inr ⟨o, e a _ h⟩
theorem ex_l {K : PySem.W.Frag} {H H' : Hp} {a : Addr} {xs : List V} (e : Ex H H') (h : SqL K H a xs) : SqL K H' a xs := by
  rcases h with h | h
  · exact Or.inl (ex_rd e h)
  · exact Or.inr h
/-- all that is persistent stands; a dict perhaps under a lock -/
def ExW (P H : Hp) : Prop := ∀ a o, P a = some o → H a = some o ∨ ((∃ kvs, o = .dK kvs) ∧ ∃ od, H a = some (.frz od o))
theorem Ex.w {H H' : Hp} (e : Ex H H') : ExW H H' := fun a o h => .inl (e a o h)
theorem ExW.of {H H' : Hp} (e : ExW H H') {a : Addr} {o : HO} (h : H a = some o) (nd : ∀ kvs, o ≠ .dK kvs := by intro _ h; cases h) : H' a = some o := by
  rcases e a o h with k | ⟨⟨kvs, k⟩, _⟩
  · exact k
  · exact absurd k (nd kvs)
theorem ExW.rd {H H' : Hp} (e : ExW H H') {a : Addr} {kvs : List (Key × V)} (h : Rd H a (.dK kvs)) : Rd H' a (.dK kvs) := by
  rcases h with h | ⟨o, h⟩
  · rcases e a _ h with k | ⟨_, od, k⟩
    · exact .inl k
    · exact .inr ⟨od, k⟩
  · exact .inr ⟨o, e.of h⟩
theorem exw_l {K : PySem.W.Frag} {H H' : Hp} {a : Addr} {xs : List V} (e : ExW H H') (h : SqL K H a xs) : SqL K H' a xs := by
  rcases h with (h | ⟨o, h⟩) | h
  · exact .inl (.inl (e.of h))
  · exact .inl (.inr ⟨o, e.of h⟩)
  · exact .inr h
mutual
/-- plain data at any depth, tracked -/
inductive Dn (H : Hp) : V → PyData → Prop
  | non : Dn H .non .none
  | bl (b : Bool) : Dn H (.bl b) (.bool b)
  | int (i : Int) : Dn H (.int i) (.int i)
  | str (x : Str) : Dn H (.str x) (.str x)
  | lst {a : Addr} {xs : List V} {ds : List PyData} : H a = some (.lst xs) → DnAll H xs ds → Dn H (.ref a) (.list ds)
  | tup {a : Addr} {xs : List V} {ds : List PyData} : H a = some (.tup xs) → DnAll H xs ds → Dn H (.ref a) (.tuple ds)
  | dic {a : Addr} {kvs : List (Key × V)} {es : List (PyData × PyData)} : Rd H a (.dK kvs) → DnKV H kvs es → Dn H (.ref a) (.dict es)
inductive DnAll (H : Hp) : List V → List PyData → Prop
  | nil : DnAll H [] []
  | cons {v : V} {vs : List V} {d : PyData} {ds : List PyData} : Dn H v d → DnAll H vs ds → DnAll H (v :: vs) (d :: ds)
inductive DnKV (H : Hp) : List (Key × V) → List (PyData × PyData) → Prop
  | nil : DnKV H [] []
  | inl {i : Int} {v : V} {r : List (Key × V)} {d : PyData} {es : List (PyData × PyData)} : Dn H v d → DnKV H r es → DnKV H ((.inl i, v) :: r) ((.int i, d) :: es)
  | inr {x : Str} {v : V} {r : List (Key × V)} {d : PyData} {es : List (PyData × PyData)} : Dn H v d → DnKV H r es → DnKV H ((.inr x, v) :: r) ((.str x, d) :: es)
end
mutual
theorem dnw_ex {H H' : Hp} (e : ExW H H') : ∀ (d : PyData) (v : V), Dn H v d → Dn H' v d
  | .none, _, h => by cases h; exact .non
  | .bool b, _, h => by cases h; exact .bl b
  | .int i, _, h => by cases h; exact .int i
  | .str x, _, h => by cases h; exact .str x
  | .list ds, _, h => by
    cases h with
    | lst hs ha => exact .lst (e.of hs) (dnwAll_ex e ds _ ha)
  | .tuple ds, _, h => by
    cases h with
    | tup hs ha => exact .tup (e.of hs) (dnwAll_ex e ds _ ha)
  | .dict es, _, h => by
    cases h with
    | dic hs ha => exact .dic (e.rd hs) (dnwKV_ex e es _ ha)
theorem dnwAll_ex {H H' : Hp} (e : ExW H H') : ∀ (ds : List PyData) (vs : List V), DnAll H vs ds → DnAll H' vs ds
  | [], _, h => by cases h; exact .nil
  | d :: ds, _, h => by
    cases h with
    | cons h1 h2 => exact .cons (dnw_ex e d _ h1) (dnwAll_ex e ds _ h2)
theorem dnwKV_ex {H H' : Hp} (e : ExW H H') : ∀ (es : List (PyData × PyData)) (kvs : List (Key × V)), DnKV H kvs es → DnKV H' kvs es
  | [], _, h => by cases h; exact .nil
  | (k, d) :: es, _, h => by
    cases h with
    | inl h1 h2 => exact .inl (dnw_ex e d _ h1) (dnwKV_ex e es _ h2)
    | inr h1 h2 => exact .inr (dnw_ex e d _ h1) (dnwKV_ex e es _ h2)
end
theorem dn_ex {H H' : Hp} (e : Ex H H') (d : PyData) (v : V) (h : Dn H v d) : Dn H' v d := dnw_ex e.w d v h
theorem dnAll_ex {H H' : Hp} (e : Ex H H') (ds : List PyData) (vs : List V) (h : DnAll H vs ds) : DnAll H' vs ds := dnwAll_ex e.w ds vs h
theorem dnKV_ex {H H' : Hp} (e : Ex H H') (es : List (PyData × PyData)) (kvs : List (Key × V)) (h : DnKV H kvs es) : DnKV H' kvs es := dnwKV_ex e.w es kvs h
theorem dnAll_len {H : Hp} : ∀ {vs : List V} {ds : List PyData}, DnAll H vs ds → vs.length = ds.length
  | _, [], h => by cases h; rfl
  | _, d :: ds, h => by
    cases h with
    | cons h1 h2 => rw [List.length_cons, List.length_cons, dnAll_len h2]
theorem dnAll_get {H : Hp} : ∀ {vs : List V} {ds : List PyData} {i : Nat} {d : PyData}, DnAll H vs ds → ds[i]? = some d → ∃ v, vs[i]? = some v ∧ Dn H v d
  | _, [], i, d, h, e => by simp at e
  | _, x :: ds, 0, d, h, e => by
    cases h with
    | cons h1 h2 =>
      have e' : x = d := Option.some.inj e
      exact ⟨_, rfl, e' ▸ h1⟩
  | _, x :: ds, i + 1, d, h, e => by
    cases h with
    | cons h1 h2 =>
      obtain ⟨v, a, b⟩ := dnAll_get (i := i) h2 e
      exact ⟨v, a, b⟩
theorem DnAll.app {H : Hp} : ∀ {vs ws : List V} {ds es : List PyData}, DnAll H vs ds → DnAll H ws es → DnAll H (vs ++ ws) (ds ++ es)
  | _, _, _, _, .nil, h => h
  | _, _, _, _, .cons a b, h => .cons a (DnAll.app b h)
theorem DnAll.drop {H : Hp} : ∀ {vs : List V} {ds : List PyData} (n : Nat), DnAll H vs ds → DnAll H (vs.drop n) (ds.drop n)
  | _, _, 0, h => h
  | _, _, _ + 1, .nil => .nil
  | _, _, n + 1, .cons _ b => DnAll.drop n b
theorem DnAll.take {H : Hp} : ∀ {vs : List V} {ds : List PyData} (n : Nat), DnAll H vs ds → DnAll H (vs.take n) (ds.take n)
  | _, _, 0, _ => .nil
  | _, _, _ + 1, .nil => .nil
  | _, _, n + 1, .cons a b => .cons a (DnAll.take n b)
theorem DnAll.rep {H : Hp} {vs : List V} {ds : List PyData} (h : DnAll H vs ds) : ∀ n : Nat, DnAll H (List.replicate n vs).flatten (List.replicate n ds).flatten
  | 0 => .nil
  | n + 1 => h.app (DnAll.rep h n)
theorem DnAll.ints {H : Hp} : ∀ {vs : List V} {ns : List Int}, DnAll H vs (ns.map PyData.int) → vs = ns.map V.int
  | _, [], h => by cases h; rfl
  | _, n :: ns, h => by
    cases h with
    | cons a b =>
      cases a
      rw [DnAll.ints b]
      rfl
theorem DnAll.bools {H : Hp} : ∀ {vs : List V} {ns : List Bool}, DnAll H vs (ns.map PyData.bool) → vs = ns.map V.bl
  | _, [], h => by cases h; rfl
  | _, n :: ns, h => by
    cases h with
    | cons a b =>
      cases a
      rw [DnAll.bools b]
      rfl
/-! to the layer (no dicts) -/
mutual
def noDict : PyData → Bool
  | .dict _ => false
  | .list ds => noDicts ds
  | .tuple ds => noDicts ds
  | _ => true
def noDicts : List PyData → Bool
  | [] => true
  | d :: ds => noDict d && noDicts ds
end
mutual
theorem dp_of {K : PySem.W.Frag} {H : Hp} : ∀ (d : PyData) (v : V), noDict d = true → Dn H v d → Dp K H v d
  | .none, _, _, h => by cases h; exact .non
  | .bool b, _, _, h => by cases h; exact .bl b
  | .int i, _, _, h => by cases h; exact .int i
  | .str x, _, _, h => by cases h; exact .str x
  | .list ds, _, n, h => by
    cases h with
    | lst hs ha => exact .lst (.inl (.inl hs)) (dpAll_of ds _ n ha)
  | .tuple ds, _, n, h => by
    cases h with
    | tup hs ha => exact .tup (.inl (.inl hs)) (dpAll_of ds _ n ha)
  | .dict es, _, n, h => by cases n
theorem dpAll_of {K : PySem.W.Frag} {H : Hp} : ∀ (ds : List PyData) (vs : List V), noDicts ds = true → DnAll H vs ds → DpAll K H vs ds
  | [], _, _, h => by cases h; exact .nil
  | d :: ds, _, n, h => by
    cases h with
    | cons h1 h2 =>
      have n' := Bool.and_eq_true_iff.mp (show (noDict d && noDicts ds) = true from n)
      exact .cons (dp_of d _ n'.1 h1) (dpAll_of ds _ n'.2 h2)
end

/-! ### items -/
section
variable {P P' H H' : Hp}
def RepI (P : Hp) (v : V) : It → Prop
  | .d x => Dn P v x
  | .v u => v = u
  | .m u φ _ => v = u ∧ φ P
  | .w φ _ => φ v P
def RepIs (P : Hp) : List V → List It → Prop
  | [], [] => True
  | v :: vs, i :: is => RepI P v i ∧ RepIs P vs is
  | _, _ => False
theorem RepI.ex {v : V} {i : It} (e : Ex P P') (h : RepI P v i) : RepI P' v i := by
  cases i with
  | d x => exact dn_ex e x v h
  | v u => exact h
  | m u φ k => exact ⟨h.1, k _ _ e h.2⟩
  | w φ k => exact k _ _ _ e h
theorem RepIs.ex (e : Ex P P') : ∀ {vs : List V} {is : List It}, RepIs P vs is → RepIs P' vs is
  | [], [], _ => trivial
  | v :: vs, i :: is, h => ⟨h.1.ex e, RepIs.ex e h.2⟩
  | [], _ :: _, h => h.elim
  | _ :: _, [], h => h.elim
theorem RepIs.len : ∀ {vs : List V} {is : List It}, RepIs P vs is → vs.length = is.length
  | [], [], _ => rfl
  | v :: vs, i :: is, h => by rw [List.length_cons, List.length_cons, RepIs.len h.2]
  | [], _ :: _, h => h.elim
  | _ :: _, [], h => h.elim
theorem RepIs.app : ∀ {vs ws : List V} {is js : List It}, RepIs P vs is → RepIs P ws js → RepIs P (vs ++ ws) (is ++ js)
  | [], _, [], _, _, h => h
  | v :: vs, _, i :: is, _, h, g => ⟨h.1, RepIs.app h.2 g⟩
  | [], _, _ :: _, _, h, _ => h.elim
  | _ :: _, _, [], _, h, _ => h.elim
theorem RepIs.get : ∀ {vs : List V} {is : List It} {n : Nat} {i : It}, RepIs P vs is → is[n]? = some i → ∃ v, vs[n]? = some v ∧ RepI P v i
  | [], [], _, _, _, e => by simp at e
  | v :: vs, j :: is, 0, i, h, e => by
    have e' : j = i := Option.some.inj e
    exact ⟨v, rfl, e' ▸ h.1⟩
  | v :: vs, j :: is, n + 1, i, h, e => RepIs.get (vs := vs) (is := is) (n := n) h.2 e
  | [], _ :: _, _, _, h, _ => h.elim
  | _ :: _, [], _, _, h, _ => h.elim
theorem RepIs.set {v : V} {i : It} (r : RepI P v i) : ∀ {vs : List V} {is : List It} (n : Nat), RepIs P vs is → RepIs P (vs.set n v) (is.set n i)
  | [], [], _, _ => trivial
  | _ :: _, _ :: _, 0, h => ⟨r, h.2⟩
  | _ :: _, _ :: _, n + 1, h => ⟨h.1, RepIs.set r n h.2⟩
  | [], _ :: _, _, h => h.elim
  | _ :: _, [], _, h => h.elim
theorem RepIs.of_all : ∀ {vs : List V} {ds : List PyData}, DnAll P vs ds → RepIs P vs (ds.map It.d)
  | _, [], h => by cases h; trivial
  | _, d :: ds, h => by
    cases h with
    | cons h1 h2 => exact ⟨h1, RepIs.of_all h2⟩
theorem RepIs.to_all : ∀ {vs : List V} {ds : List PyData}, RepIs P vs (ds.map It.d) → DnAll P vs ds
  | [], [], _ => .nil
  | v :: vs, d :: ds, h => .cons h.1 (RepIs.to_all h.2)
  | [], _ :: _, h => h.elim
  | _ :: _, [], h => h.elim
end

/-! ### what stands at a point: entry facts, slots, cells -/
structure Ent where
  P0 : Hp
  H0 : Hp
  F : List Addr
/-- no dict is under a lock -/
def NzD (H : Hp) : Prop := ∀ a od kvs, H a ≠ some (.frz od (.dK kvs))
theorem NzD.new {H : Hp} (h : NzD H) {p : Addr} {o : HO} (nf : ∀ od kvs, o ≠ .frz od (.dK kvs)) : NzD (upd H p o) := fun a od kvs e => by
  by_cases ea : a = p
  · subst ea
    rw [upd_same] at e
    exact nf od kvs (Option.some.inj e)
  · rw [upd_ne ea] at e
    exact h a od kvs e
structure Holds (N : Ent) (P H : Hp) (M : Mem) : Prop where
  exw : ExW P H
  ex0 : Ex N.P0 P
  fr : ∀ b o, N.H0 b = some o → b ∉ N.F → H b = some o
  nw : ∀ b, N.P0 b = none → P b ≠ none → N.H0 b = none
  mem : ∀ c ∈ M, P c.1 = none ∧ ∃ xs, H c.1 = some (.lst xs) ∧ RepIs P xs c.2
  nd : (M.map Prod.fst).Nodup
  mf : ∀ a ∈ N.F, a ∈ M.map Prod.fst
  fs : ∀ c ∈ M, c.1 ∈ N.F ∨ N.H0 c.1 = none
  uf : ∀ a od kvs, H a = some (.frz od (.dK kvs)) → N.H0 a = some (.frz od (.dK kvs))
  pf : NzD P
theorem Holds.ex {N : Ent} {P H : Hp} {M : Mem} (h : Holds N P H M) (a : Addr) (o : HO) (e : P a = some o) (nd : ∀ kvs, o ≠ .dK kvs := by intro _ h; cases h) : H a = some o := by
  rcases h.exw a o e with k | ⟨⟨kvs, k⟩, _⟩
  · exact k
  · exact absurd k (nd kvs)
theorem Holds.no {N : Ent} {P H : Hp} {M : Mem} (h : Holds N P H M) {p : Addr} (hp : H p = none) : P p = none := by
  cases e : P p with
  | none => rfl
  | some u =>
    rcases h.exw p u e with k | ⟨_, od, k⟩
    · rw [hp] at k; cases k
    · rw [hp] at k; cases k
theorem Holds.ufu {N : Ent} {P H : Hp} {M : Mem} (h : Holds N P H M) {p : Addr} {o : HO} (nf : ∀ od kvs, o ≠ .frz od (.dK kvs)) (a : Addr) (od : Obj) (u : List (Key × V)) (e : upd H p o a = some (.frz od (.dK u))) : N.H0 a = some (.frz od (.dK u)) := by
  by_cases ea : a = p
  · subst ea
    rw [upd_same] at e
    exact absurd (Option.some.inj e) (nf od u)
  · rw [upd_ne ea] at e
    exact h.uf a od u e
def Slots (P : Hp) (σ : L2.St) (ρ : Rho) : Prop :=
  σ.length = ρ.length ∧ ∀ (i : Nat) it, ρ[i]? = some (some it) → ∃ v, σ[i]? = some (some v) ∧ RepI P v it

section
variable {N : Ent} {P P' H H' : Hp} {M : Mem} {σ : L2.St} {ρ : Rho}
theorem Slots.ex (e : Ex P P') (h : Slots P σ ρ) : Slots P' σ ρ := ⟨h.1, fun i it q => by
  obtain ⟨v, a, b⟩ := h.2 i it q
  exact ⟨v, a, b.ex e⟩⟩
theorem Slots.set {v : V} {it : It} (r : RepI P v it) (i : Nat) (h : Slots P σ ρ) : Slots P (σ.set i (some v)) (ρ.set i (some it)) := by
  refine ⟨by rw [List.length_set, List.length_set]; exact h.1, fun j jt q => ?_⟩
  by_cases e : i = j
  · subst e
    by_cases l : i < ρ.length
    · rw [List.getElem?_set_self l] at q
      cases Option.some.inj q
      exact ⟨v, List.getElem?_set_self (h.1 ▸ l), r⟩
    · rw [List.getElem?_eq_none (by rw [List.length_set]; omega)] at q
      cases q
  · rw [List.getElem?_set_ne e] at q ⊢
    exact h.2 j jt q
theorem Slots.unset (i : Nat) (h : Slots P σ ρ) (x : Option V) : Slots P (σ.set i x) (ρ.set i none) := by
  refine ⟨by rw [List.length_set, List.length_set]; exact h.1, fun j jt q => ?_⟩
  by_cases e : i = j
  · subst e
    by_cases l : i < ρ.length
    · rw [List.getElem?_set_self l] at q
      cases Option.some.inj q
    · rw [List.getElem?_eq_none (by rw [List.length_set]; omega)] at q
      cases q
  · rw [List.getElem?_set_ne e] at q ⊢
    exact h.2 j jt q
/-- fewer slots known -/
theorem Slots.weak {ρ' : Rho} (h : Slots P σ ρ) (hl : ρ'.length = ρ.length) (w : ∀ (i : Nat) (it : It), ρ'[i]? = some (some it) → ρ[i]? = some (some it)) : Slots P σ ρ' :=
  ⟨h.1.trans hl.symm, fun i it q => h.2 i it (w i it q)⟩
theorem Holds.cell (h : Holds N P H M) {a : Addr} {its : List It} (hm : (a, its) ∈ M) : ∃ xs, H a = some (.lst xs) ∧ RepIs P xs its := (h.mem _ hm).2
/-- a new persistent object -/
theorem Holds.pers (h : Holds N P H M) {p : Addr} {o : HO} (hp : H p = none) (nf : ∀ od kvs, o ≠ .frz od (.dK kvs) := by intro _ _ h; cases h) : Holds N (upd P p o) (upd H p o) M ∧ Ex P (upd P p o) := by
  have pn : P p = none := h.no hp
  have h0 : N.H0 p = none ∨ p ∈ N.F := by
    by_cases f : p ∈ N.F
    · exact .inr f
    · refine .inl ?_
      cases e : N.H0 p with
      | none => rfl
      | some u => rw [h.fr p u e f] at hp; cases hp
  have np : p ∉ N.F := fun f => by
    obtain ⟨c, hc, e⟩ := List.mem_map.mp (h.mf p f)
    obtain ⟨xs, e1, _⟩ := (h.mem c hc).2
    rw [e, hp] at e1
    cases e1
  have q : Ex P (upd P p o) := Ex.new pn
  refine ⟨⟨fun a u e => ?_, h.ex0.trans q, fun b u e f => ?_, fun b e f => ?_, fun c hc => ?_, h.nd, h.mf, h.fs, fun a od u e => ?_, h.pf.new nf⟩, q⟩
  · by_cases ea : a = p
    · subst ea
      rw [upd_same] at e ⊢
      exact .inl e
    · rw [upd_ne ea] at e ⊢
      exact h.exw a u e
  · have := h.fr b u e f
    rw [upd_ne (ne_of_none this hp)]
    exact this
  · by_cases eb : b = p
    · subst eb
      rcases h0 with h0 | h0
      · exact h0
      · exact absurd h0 np
    · rw [upd_ne eb] at f
      exact h.nw b e f
  · obtain ⟨a1, xs, a2, a3⟩ := h.mem c hc
    have ne : c.1 ≠ p := ne_of_none a2 hp
    exact ⟨by rw [upd_ne ne]; exact a1, xs, by rw [upd_ne ne]; exact a2, a3.ex q⟩
  · exact h.ufu nf a od u e
/-- a new own list -/
theorem Holds.own (h : Holds N P H M) {p : Addr} {xs : List V} {its : List It} (hp : H p = none) (r : RepIs P xs its) : Holds N P (upd H p (.lst xs)) (M ++ [(p, its)]) := by
  have pn : P p = none := h.no hp
  have np : p ∉ M.map Prod.fst := fun f => by
    obtain ⟨c, hc, e⟩ := List.mem_map.mp f
    obtain ⟨xs, e1, _⟩ := (h.mem c hc).2
    rw [e, hp] at e1
    cases e1
  have h0 : N.H0 p = none := by
    cases e : N.H0 p with
    | none => rfl
    | some u => rw [h.fr p u e (fun f => np (h.mf p f))] at hp; cases hp
  refine ⟨fun a u e => ?_, h.ex0, fun b u e f => ?_, h.nw, fun c hc => ?_, ?_, fun a ha => ?_, fun c hc => ?_, h.ufu (o := .lst xs) (fun _ _ h => by cases h), h.pf⟩
  · rw [upd_ne (ne_of_none e pn)]
    exact h.exw a u e
  · have := h.fr b u e f
    rw [upd_ne (ne_of_none this hp)]
    exact this
  · rcases List.mem_append.mp hc with hc | hc
    · obtain ⟨a1, xs, a2, a3⟩ := h.mem c hc
      have ne : c.1 ≠ p := ne_of_none a2 hp
      exact ⟨a1, xs, by rw [upd_ne ne]; exact a2, a3⟩
    · cases List.mem_singleton.mp hc
      exact ⟨pn, xs, upd_same, r⟩
  · rw [List.map_append]
    refine List.nodup_append.mpr ⟨h.nd, by simp, fun a ha b hb => ?_⟩
    simp at hb
    subst hb
    exact fun e => np (e ▸ ha)
  · rw [List.map_append]
    exact List.mem_append_left _ (h.mf a ha)
  · rcases List.mem_append.mp hc with hc | hc
    · exact h.fs c hc
    · cases List.mem_singleton.mp hc
      exact .inr h0
def Mem.put (M : Mem) (a : Addr) (its : List It) : Mem := M.map fun c => if c.1 = a then (a, its) else c
theorem put_fst (M : Mem) (a : Addr) (its : List It) : (M.put a its).map Prod.fst = M.map Prod.fst := by
  unfold Mem.put
  rw [List.map_map]
  refine List.map_congr_left fun c _ => ?_
  show (if c.1 = a then (a, its) else c).1 = c.1
  by_cases e : c.1 = a
  · rw [if_pos e]; exact e.symm
  · rw [if_neg e]
/-- an own list changes -/
theorem Holds.write (h : Holds N P H M) {a : Addr} {its its' : List It} {xs' : List V} (hm : (a, its) ∈ M) (r : RepIs P xs' its') : Holds N P (upd H a (.lst xs')) (M.put a its') := by
  have an : P a = none := (h.mem _ hm).1
  refine ⟨fun b u e => ?_, h.ex0, fun b u e f => ?_, h.nw, fun c hc => ?_, by rw [put_fst]; exact h.nd, fun b hb => by rw [put_fst]; exact h.mf b hb, fun c hc => ?_, h.ufu (o := .lst xs') (fun _ _ h => by cases h), h.pf⟩
  · rw [upd_ne (ne_of_none e an)]
    exact h.exw b u e
  · have ne : b ≠ a := fun z => by
      subst z
      rcases h.fs _ hm with k | k
      · exact f k
      · rw [show N.H0 b = none from k] at e; cases e
    rw [upd_ne ne]
    exact h.fr b u e f
  · obtain ⟨c0, hc0, e⟩ := List.mem_map.mp hc
    by_cases q : c0.1 = a
    · rw [if_pos q] at e
      subst e
      exact ⟨an, xs', upd_same, r⟩
    · rw [if_neg q] at e
      subst e
      obtain ⟨a1, xs, a2, a3⟩ := h.mem c0 hc0
      exact ⟨a1, xs, by rw [upd_ne q]; exact a2, a3⟩
  · obtain ⟨c0, hc0, e⟩ := List.mem_map.mp hc
    by_cases q : c0.1 = a
    · rw [if_pos q] at e
      subst e
      exact h.fs (a, its) hm
    · rw [if_neg q] at e
      subst e
      exact h.fs c0 hc0
/-- cells forgotten, others in another order -/
theorem Holds.sub (h : Holds N P H M) {M' : Mem} (s : ∀ c ∈ M', c ∈ M) (nd : (M'.map Prod.fst).Nodup) (mf : ∀ a ∈ N.F, a ∈ M'.map Prod.fst) : Holds N P H M' :=
  ⟨h.exw, h.ex0, h.fr, h.nw, fun c hc => h.mem c (s c hc), nd, mf, fun c hc => h.fs c (s c hc), h.uf, h.pf⟩
/-- an own list of data becomes persistent -/
theorem Holds.freeze (h : Holds N P H M) {a : Addr} {ds : List PyData} (hm : (a, ds.map It.d) ∈ M) (hf : a ∉ N.F) :
    ∃ P', Ex P P' ∧ Dn P' (.ref a) (.list ds) ∧ Holds N P' H (M.filter fun c => decide (c.1 ≠ a)) := by
  obtain ⟨an, xs, e, r⟩ := h.mem _ hm
  have q : Ex P (upd P a (.lst xs)) := Ex.new an
  refine ⟨upd P a (.lst xs), q, .lst upd_same (dnAll_ex q _ _ r.to_all), fun b u z => ?_, h.ex0.trans q, h.fr, fun b z f => ?_, fun c hc => ?_, ?_, fun b hb => ?_, fun c hc => h.fs c (List.mem_filter.mp hc).1, h.uf, h.pf.new (o := .lst xs) (fun _ _ h => by cases h)⟩
  · by_cases eb : b = a
    · subst eb
      rw [upd_same] at z
      rw [← z]
      exact .inl e
    · rw [upd_ne eb] at z
      exact h.exw b u z
  · by_cases eb : b = a
    · subst eb
      rcases h.fs _ hm with k | k
      · exact absurd k hf
      · exact k
    · rw [upd_ne eb] at f
      exact h.nw b z f
  · obtain ⟨hc, ne⟩ := List.mem_filter.mp hc
    have ne : c.1 ≠ a := of_decide_eq_true ne
    obtain ⟨a1, ys, a2, a3⟩ := h.mem c hc
    exact ⟨by rw [upd_ne ne]; exact a1, ys, a2, a3.ex q⟩
  · exact (h.nd.sublist ((List.filter_sublist (l := M)).map _))
  · obtain ⟨c, hc, e⟩ := List.mem_map.mp (h.mf b hb)
    refine List.mem_map.mpr ⟨c, List.mem_filter.mpr ⟨hc, decide_eq_true fun z => hf ?_⟩, e⟩
    rw [← z, e]
    exact hb
end
end Kt

namespace Kt
open PySem PySem.Spec PyProof.Rows L2

/-! ### what an expression, a test, arguments, a statement need, canonically -/
def wE (X : Cx) (e : Expr) : TE := fun σ H Q => ∀ pins s, Inv X pins σ H s → wpAny (model X.prog X.w) X.A (eval e X.env) (EP X pins σ Q) X.xe s
def wT (X : Cx) (e : Expr) : TT := fun σ H Q => ∀ pins s, Inv X pins σ H s → wpAny (model X.prog X.w) X.A (isTrue e X.env (eval e X.env)) (TP X pins σ Q) X.xe s
def wW (X : Cx) (e : Expr) : TT := fun σ H Q => ∀ (whole : Sem Value) pins s, Inv X pins σ H s → wpAny (model X.prog X.w) X.A (isTrue e X.env whole) (TP X pins σ Q) X.xe s
def wA (X : Cx) (es : List Expr) : TA := fun σ H Q => ∀ (pos : Pos) pins s, Inv X pins σ H s → wpAny (model X.prog X.w) X.A (spliced (backTo pos (starEach es X.env))) (AP X pins σ Q) X.xe s
def wS (X : Cx) (st : Stmt) : TS := fun D σ H => ∀ pins s, Inv X pins σ H s → wpAny (model X.prog X.w) X.A (exec st X.env) (SP X pins D) X.xe s
def wSs (X : Cx) (st : List Stmt) : TS := fun D σ H => ∀ pins s, Inv X pins σ H s → wpAny (model X.prog X.w) X.A (execs st X.env) (SP X pins D) X.xe s
def wG (X : Cx) (tg : Expr) : TG := fun v σ H Q => ∀ pins s (u : Value), Inv X pins σ H s → RelV v u → wpAny (model X.prog X.w) X.A (assign tg X.env u) (fun _ s' => ∃ σ' H', Inv X pins σ' H' s' ∧ Q σ' H') X.xe s
section
variable {X : Cx}
theorem pe_w {e : Expr} : PE X e (wE X e) := ⟨fun pins s σ H Q I h => h pins s I⟩
theorem pt_w {e : Expr} : PT X e (wT X e) := ⟨fun pins s σ H Q I h => h pins s I⟩
theorem pw_w {e : Expr} : PW X e (wW X e) := ⟨fun wh pins s σ H Q I h => h wh pins s I⟩
theorem pa_w {es : List Expr} : PA X es (wA X es) := ⟨fun pos pins s σ H Q I h => h pos pins s I⟩
theorem ps_w {st : Stmt} : PS X st (wS X st) := ⟨fun pins s σ H D I h => h pins s I⟩
theorem pss_w {st : List Stmt} : PSs X st (wSs X st) := ⟨fun pins s σ H D I h => h pins s I⟩
theorem pg_w {tg : Expr} : PG X tg (wG X tg) := ⟨fun pins s σ H v u Q I r h => h pins s u I r⟩
theorem e_of {e : Expr} {t : TE} (h : PE X e t) {σ : L2.St} {H : Hp} {Q : VK} (q : t σ H Q) : wE X e σ H Q := fun pins s I => h.run pins s σ H Q I q
theorem t_of {e : Expr} {t : TT} (h : PT X e t) {σ : L2.St} {H : Hp} {Q : Bool → Hp → Prop} (q : t σ H Q) : wT X e σ H Q := fun pins s I => h.run pins s σ H Q I q
theorem w_of {e : Expr} {t : TT} (h : PW X e t) {σ : L2.St} {H : Hp} {Q : Bool → Hp → Prop} (q : t σ H Q) : wW X e σ H Q := fun wh pins s I => h.run wh pins s σ H Q I q
theorem a_of {es : List Expr} {t : TA} (h : PA X es t) {σ : L2.St} {H : Hp} {Q : List V → Hp → Prop} (q : t σ H Q) : wA X es σ H Q := fun pos pins s I => h.run pos pins s σ H Q I q
theorem s_of {st : Stmt} {t : TS} (h : PS X st t) {σ : L2.St} {H : Hp} {D : Ends} (q : t D σ H) : wS X st D σ H := fun pins s I => h.run pins s σ H D I q
theorem ss_of {st : List Stmt} {t : TS} (h : PSs X st t) {σ : L2.St} {H : Hp} {D : Ends} (q : t D σ H) : wSs X st D σ H := fun pins s I => h.run pins s σ H D I q
theorem g_of {tg : Expr} {t : TG} (h : PG X tg t) {v : V} {σ : L2.St} {H : Hp} {Q : L2.St → Hp → Prop} (q : t v σ H Q) : wG X tg v σ H Q := fun pins s u I r => h.run pins s σ H v u Q I r q
end

/-! ### judgements over symbolic states -/
def EJ (X : Cx) (N : Ent) (ρ : Rho) (M : Mem) (e : Expr) (i : It) (M' : Mem) : Prop :=
  ∀ σ H P, Holds N P H M → Slots P σ ρ → ∀ Q : VK, (∀ v H' P', Ex P P' → Holds N P' H' M' → RepI P' v i → Q v H') → wE X e σ H Q
/-- e gives a new list of these items -/
def EL (X : Cx) (N : Ent) (ρ : Rho) (M : Mem) (e : Expr) (is : List It) (M' : Mem) : Prop :=
  ∀ σ H P, Holds N P H M → Slots P σ ρ → ∀ Q : VK, (∀ p H' P', Ex P P' → p ∉ N.F → Holds N P' H' (M' ++ [(p, is)]) → Q (.ref p) H') → wE X e σ H Q
def TJ (X : Cx) (N : Ent) (ρ : Rho) (M : Mem) (e : Expr) (b : Bool) (M' : Mem) : Prop :=
  ∀ σ H P, Holds N P H M → Slots P σ ρ → ∀ Q : Bool → Hp → Prop, (∀ H' P', Ex P P' → Holds N P' H' M' → Q b H') → wT X e σ H Q
def WJ (X : Cx) (N : Ent) (ρ : Rho) (M : Mem) (e : Expr) (b : Bool) (M' : Mem) : Prop :=
  ∀ σ H P, Holds N P H M → Slots P σ ρ → ∀ Q : Bool → Hp → Prop, (∀ H' P', Ex P P' → Holds N P' H' M' → Q b H') → wW X e σ H Q
def AJ (X : Cx) (N : Ent) (ρ : Rho) (M : Mem) (es : List Expr) (is : List It) (M' : Mem) : Prop :=
  ∀ σ H P, Holds N P H M → Slots P σ ρ → ∀ Q : List V → Hp → Prop, (∀ vs H' P', Ex P P' → Holds N P' H' M' → RepIs P' vs is → Q vs H') → wA X es σ H Q
/-- a rule by values -/
def RJ (N : Ent) (r : R2) (M : Mem) (i j k : It) (M' : Mem) : Prop :=
  ∀ x y H P, Holds N P H M → RepI P x i → RepI P y j → ∀ Q : VK, (∀ v H' P', Ex P P' → Holds N P' H' M' → RepI P' v k → Q v H') → r x y H Q
/-- a built-in's call by values -/
def CJ (N : Ent) (r : List V → Hp → VK → Prop) (M : Mem) (is : List It) (k : It) (M' : Mem) : Prop :=
  ∀ vs H P, Holds N P H M → RepIs P vs is → ∀ Q : VK, (∀ v H' P', Ex P P' → Holds N P' H' M' → RepI P' v k → Q v H') → r vs H Q
def CL (N : Ent) (r : List V → Hp → VK → Prop) (M : Mem) (is js : List It) (M' : Mem) : Prop :=
  ∀ vs H P, Holds N P H M → RepIs P vs is → ∀ Q : VK, (∀ p H' P', Ex P P' → p ∉ N.F → Holds N P' H' (M' ++ [(p, js)]) → Q (.ref p) H') → r vs H Q
theorem Holds.newF {N : Ent} {P H : Hp} {M : Mem} (h : Holds N P H M) {p : Addr} (hp : H p = none) : p ∉ N.F := fun f => by
  obtain ⟨c, hc, e⟩ := List.mem_map.mp (h.mf p f)
  obtain ⟨xs, e1, _⟩ := (h.mem c hc).2
  rw [e, hp] at e1
  cases e1
theorem filter_last {M : Mem} {p : Addr} {is : List It} (nd : ((M ++ [(p, is)]).map Prod.fst).Nodup) : ((M ++ [(p, is)]).filter fun c => decide (c.1 ≠ p)) = M := by
  rw [List.filter_append]
  have h2 : ([(p, is)].filter fun c : Addr × List It => decide (c.1 ≠ p)) = [] := by simp
  rw [h2, List.append_nil]
  refine List.filter_eq_self.mpr fun c hc => decide_eq_true fun e => ?_
  rw [List.map_append] at nd
  have := (List.nodup_append.mp nd).2.2 c.1 (List.mem_map.mpr ⟨c, hc, rfl⟩) p (by simp)
  exact this e

section
variable {X : Cx} {N : Ent} {ρ : Rho} {M M1 M2 M3 M' : Mem} {a b c e : Expr} {pos : Pos} {i j k : It}
abbrev dI (n : Int) : It := .d (.int n)
abbrev dB (b : Bool) : It := .d (.bool b)
theorem ri_int {P : Hp} {v : V} {n : Int} (h : RepI P v (dI n)) : v = .int n := by cases (show Dn P v (.int n) from h); rfl
theorem ri_bl {P : Hp} {v : V} {n : Bool} (h : RepI P v (dB n)) : v = .bl n := by cases (show Dn P v (.bool n) from h); rfl
theorem ri_str {P : Hp} {v : V} {n : Str} (h : RepI P v (.d (.str n))) : v = .str n := by cases (show Dn P v (.str n) from h); rfl
theorem ri_non {P : Hp} {v : V} (h : RepI P v (.d .none)) : v = .non := by cases (show Dn P v .none from h); rfl
theorem ri_tup {P : Hp} {v : V} {ds : List PyData} (h : RepI P v (.d (.tuple ds))) : ∃ a xs, v = .ref a ∧ P a = some (.tup xs) ∧ DnAll P xs ds := by
  cases (show Dn P v (.tuple ds) from h) with
  | tup h1 h2 => exact ⟨_, _, rfl, h1, h2⟩
theorem ri_lst {P : Hp} {v : V} {ds : List PyData} (h : RepI P v (.d (.list ds))) : ∃ a xs, v = .ref a ∧ P a = some (.lst xs) ∧ DnAll P xs ds := by
  cases (show Dn P v (.list ds) from h) with
  | lst h1 h2 => exact ⟨_, _, rfl, h1, h2⟩

/-! names and constants -/
theorem ej_name (n : Nat) {x : Str} (hρ : ρ[n]? = some (some i) := by rfl) (hN : X.N[n]? = some x := by rfl) (hv : Vis X.env.scope x := by first | exact Or.inl rfl | exact Or.inr (Or.inl rfl) | exact Or.inr (Or.inr rfl)) (hd : (x == ("__debug__" : Str)) = false := by decide)
    (hcd : (x == ("__classdict__" : Str)) = false := by decide) : EJ X N ρ M (.Name x pos) i M := fun σ H P h g Q q => by
  obtain ⟨v, e, r⟩ := g.2 n i hρ
  exact e_of (pe_var (i := n) hN hv hd hcd) ⟨v, e, q v H P (Ex.refl P) h r⟩
theorem ej_int {n : Int} {j : Nat} : EJ X N ρ M (.Constant (.int n) j pos) (dI n) M := fun σ H P h g Q q => e_of pe_int (q _ H P (Ex.refl P) h (.int n))
theorem ej_bl {n : Bool} {j : Nat} : EJ X N ρ M (.Constant (.bool n) j pos) (dB n) M := fun σ H P h g Q q => e_of pe_bl (q _ H P (Ex.refl P) h (.bl n))
theorem ej_non {j : Nat} : EJ X N ρ M (.Constant .none j pos) (.d .none) M := fun σ H P h g Q q => e_of pe_non (q _ H P (Ex.refl P) h .non)
theorem ej_str {n : Str} {j : Nat} : EJ X N ρ M (.Constant (.str n) j pos) (.d (.str n)) M := fun σ H P h g Q q => e_of pe_str (q _ H P (Ex.refl P) h (.str n))
/-- a module's int -/
theorem ej_gint {x : Str} {n : Int} {t : Tok} (hm : X.mg x = some (.int n t)) (hg : Gl X x := by rfl) (hd : (x == ("__debug__" : Str)) = false := by decide) : EJ X N ρ M (.Name x pos) (dI n) M := fun σ H P h g Q q =>
  e_of (pe_glob (v := .int n) hg hm ⟨t, rfl⟩ hd) (q _ H P (Ex.refl P) h (.int n))

/-! operators -/
theorem ej_op {op : Operator} {r : R2} (ho : OpR X (binaryOp op) r) (ha : EJ X N ρ M a i M1) (hb : EJ X N ρ M1 b j M2) (hr : RJ N r M2 i j k M3) : EJ X N ρ M (.BinOp a op b pos) k M3 := fun σ H P h g Q q =>
  e_of (pe_op ho pe_w pe_w) (ha σ H P h g _ fun x H1 P1 e1 h1 r1 => hb σ H1 P1 h1 (g.ex e1) _ fun y H2 P2 e2 h2 r2 =>
    hr x y H2 P2 h2 (r1.ex e2) r2 Q fun v H3 P3 e3 h3 r3 => q v H3 P3 ((e1.trans e2).trans e3) h3 r3)
theorem ej_cmp {op : CmpOp} {r : R2} (ho : OpR X (compareOp op) r) (hm : behindInMarks op b = false) (ha : EJ X N ρ M a i M1) (hb : EJ X N ρ M1 b j M2) (hr : RJ N r M2 i j k M3) : EJ X N ρ M (.Compare a [op] [b] pos) k M3 := fun σ H P h g Q q =>
  e_of (pe_cmpR ho pe_w pe_w hm) (ha σ H P h g _ fun x H1 P1 e1 h1 r1 => hb σ H1 P1 h1 (g.ex e1) _ fun y H2 P2 e2 h2 r2 =>
    hr x y H2 P2 h2 (r1.ex e2) r2 Q fun v H3 P3 e3 h3 r3 => q v H3 P3 ((e1.trans e2).trans e3) h3 r3)
theorem tj_cmp {op : CmpOp} {r : R2} {t : Bool} (ho : OpR X (compareOp op) r) (hm : behindInMarks op b = false) (ha : EJ X N ρ M a i M1) (hb : EJ X N ρ M1 b j M2) (hr : RJ N r M2 i j (dB t) M3) : TJ X N ρ M (.Compare a [op] [b] pos) t M3 := fun σ H P h g Q q =>
  t_of (pt_cmpR ho pe_w pe_w hm) (ha σ H P h g _ fun x H1 P1 e1 h1 r1 => hb σ H1 P1 h1 (g.ex e1) _ fun y H2 P2 e2 h2 r2 =>
    hr x y H2 P2 h2 (r1.ex e2) r2 _ fun v H3 P3 e3 h3 r3 => ⟨t, ri_bl r3, q H3 P3 ((e1.trans e2).trans e3) h3⟩)
theorem ej_un {op : UnaryOp} {r : V → Hp → VK → Prop} (ho : UnR X (unaryOp op) r) (ha : EJ X N ρ M a i M1) (hr : ∀ x H P, Holds N P H M1 → RepI P x i → ∀ Q : VK, (∀ v, RepI P v k → Q v H) → r x H Q) : EJ X N ρ M (.UnaryOp op a pos) k M1 := fun σ H P h g Q q =>
  e_of (pe_un ho pe_w) (ha σ H P h g _ fun x H1 P1 e1 h1 r1 => hr x H1 P1 h1 r1 Q fun v r => q v H1 P1 e1 h1 r)
theorem ej_neg {n : Int} (ha : EJ X N ρ M a (dI n) M1) : EJ X N ρ M (.UnaryOp .USub a pos) (dI (-n)) M1 := ej_un un_neg ha fun x H P h r Q q => ⟨n, ri_int r, q _ (.int _)⟩
theorem rj_I0 {g : Int → Int → Int} {n m : Int} : RJ N (rI0 fun i j => .int (g i j)) M (dI n) (dI m) (dI (g n m)) M := fun x y H P h rx ry Q q =>
  ⟨n, m, ri_int rx, ri_int ry, q _ H P (Ex.refl P) h (.int _)⟩
theorem rj_B0 {g : Int → Int → Bool} {n m : Int} : RJ N (rI0 fun i j => .bl (g i j)) M (dI n) (dI m) (dB (g n m)) M := fun x y H P h rx ry Q q =>
  ⟨n, m, ri_int rx, ri_int ry, q _ H P (Ex.refl P) h (.bl _)⟩
theorem rj_I {C : Int → Int → Prop} {g : Int → Int → Int} {n m : Int} (hc : C n m) : RJ N (rI C fun i j => .int (g i j)) M (dI n) (dI m) (dI (g n m)) M := fun x y H P h rx ry Q q =>
  ⟨n, m, ri_int rx, ri_int ry, hc, q _ H P (Ex.refl P) h (.int _)⟩
theorem ej_add {n m : Int} (ha : EJ X N ρ M a (dI n) M1) (hb : EJ X N ρ M1 b (dI m) M2) : EJ X N ρ M (.BinOp a .Add b pos) (dI (n + m)) M2 := ej_op op_add ha hb rj_I0
theorem ej_sub {n m : Int} (ha : EJ X N ρ M a (dI n) M1) (hb : EJ X N ρ M1 b (dI m) M2) : EJ X N ρ M (.BinOp a .Sub b pos) (dI (n - m)) M2 := ej_op op_sub ha hb rj_I0
theorem ej_mul {n m : Int} (ha : EJ X N ρ M a (dI n) M1) (hb : EJ X N ρ M1 b (dI m) M2) (hc : CMul n m) : EJ X N ρ M (.BinOp a .Mult b pos) (dI (n * m)) M2 := ej_op op_mul ha hb (rj_I hc)
theorem ej_fdiv {n m : Int} (ha : EJ X N ρ M a (dI n) M1) (hb : EJ X N ρ M1 b (dI m) M2) (hc : 0 < m ∧ m < 1073741824) : EJ X N ρ M (.BinOp a .FloorDiv b pos) (dI (n / m)) M2 := ej_op op_fdiv ha hb (rj_I hc)
theorem ej_mod {n m : Int} (ha : EJ X N ρ M a (dI n) M1) (hb : EJ X N ρ M1 b (dI m) M2) (hc : 0 < m) : EJ X N ρ M (.BinOp a .Mod b pos) (dI (n % m)) M2 := ej_op op_mod ha hb (rj_I hc)
theorem ej_shl {n m : Int} (ha : EJ X N ρ M a (dI n) M1) (hb : EJ X N ρ M1 b (dI m) M2) (hc : CPow n m) : EJ X N ρ M (.BinOp a .LShift b pos) (dI (n * 2 ^ m.toNat)) M2 := ej_op op_shl ha hb (rj_I hc)
theorem ej_shr {n m : Int} (ha : EJ X N ρ M a (dI n) M1) (hb : EJ X N ρ M1 b (dI m) M2) (hc : 0 ≤ m) : EJ X N ρ M (.BinOp a .RShift b pos) (dI (n / 2 ^ m.toNat)) M2 := ej_op op_shr ha hb (rj_I hc)
theorem ej_and {n m : Int} (ha : EJ X N ρ M a (dI n) M1) (hb : EJ X N ρ M1 b (dI m) M2) : EJ X N ρ M (.BinOp a .BitAnd b pos) (dI (Builtin.bitAnd n m)) M2 := ej_op op_and ha hb rj_I0
theorem ej_xor {n m : Int} (ha : EJ X N ρ M a (dI n) M1) (hb : EJ X N ρ M1 b (dI m) M2) : EJ X N ρ M (.BinOp a .BitXor b pos) (dI (Builtin.bitXor n m)) M2 := ej_op op_xor ha hb rj_I0
theorem tj_lt {n m : Int} (ha : EJ X N ρ M a (dI n) M1) (hb : EJ X N ρ M1 b (dI m) M2) : TJ X N ρ M (.Compare a [.Lt] [b] pos) (decide (n < m)) M2 := tj_cmp op_lt (nomark _) ha hb rj_B0
theorem tj_le {n m : Int} (ha : EJ X N ρ M a (dI n) M1) (hb : EJ X N ρ M1 b (dI m) M2) : TJ X N ρ M (.Compare a [.LtE] [b] pos) (decide (n ≤ m)) M2 := tj_cmp op_le (nomark _) ha hb rj_B0
theorem tj_gt {n m : Int} (ha : EJ X N ρ M a (dI n) M1) (hb : EJ X N ρ M1 b (dI m) M2) : TJ X N ρ M (.Compare a [.Gt] [b] pos) (decide (m < n)) M2 := tj_cmp op_gt (nomark _) ha hb rj_B0
theorem tj_ge {n m : Int} (ha : EJ X N ρ M a (dI n) M1) (hb : EJ X N ρ M1 b (dI m) M2) : TJ X N ρ M (.Compare a [.GtE] [b] pos) (decide (m ≤ n)) M2 := tj_cmp op_ge (nomark _) ha hb rj_B0
/-- == of scalars -/
def scalD : PyData → PyData → Option Bool
  | .int a, .int b => some (decide (a = b))
  | .bool a, .bool b => some (decide (a = b))
  | .str a, .str b => some (decide (a = b))
  | .none, .none => some true
  | _, _ => none
theorem rj_eqI {n m : Int} : RJ N rEq M (dI n) (dI m) (dB (decide (n = m))) M := fun x y H P h rx ry Q q => by
  cases ri_int rx
  cases ri_int ry
  refine ⟨rfl, q _ H P (Ex.refl P) h ?_⟩
  have e : decide (V.int n = V.int m) = decide (n = m) := by
    by_cases z : n = m
    · subst z; simp
    · simp [z]
  rw [e]
  exact .bl _
theorem tj_eqI {n m : Int} (ha : EJ X N ρ M a (dI n) M1) (hb : EJ X N ρ M1 b (dI m) M2) : TJ X N ρ M (.Compare a [.Eq] [b] pos) (decide (n = m)) M2 := tj_cmp op_eq (nomark _) ha hb rj_eqI
theorem ej_eqI {n m : Int} (ha : EJ X N ρ M a (dI n) M1) (hb : EJ X N ρ M1 b (dI m) M2) : EJ X N ρ M (.Compare a [.Eq] [b] pos) (dB (decide (n = m))) M2 := ej_cmp op_eq (nomark _) ha hb rj_eqI
theorem rj_neI {n m : Int} : RJ N rNe M (dI n) (dI m) (dB (!decide (n = m))) M := fun x y H P h rx ry Q q => by
  cases ri_int rx
  cases ri_int ry
  refine ⟨rfl, q _ H P (Ex.refl P) h ?_⟩
  have e : decide (V.int n = V.int m) = decide (n = m) := by
    by_cases z : n = m
    · subst z; simp
    · simp [z]
  rw [e]
  exact .bl _
theorem tj_neI {n m : Int} (ha : EJ X N ρ M a (dI n) M1) (hb : EJ X N ρ M1 b (dI m) M2) : TJ X N ρ M (.Compare a [.NotEq] [b] pos) (!decide (n = m)) M2 := tj_cmp op_ne (nomark _) ha hb rj_neI

/-! what an item reads as, in cells -/
inductive Rd1 (M : Mem) : It → PyData → Prop
  | d (x : PyData) : Rd1 M (.d x) x
  | own {a : Addr} {ds : List PyData} : (a, ds.map It.d) ∈ M → Rd1 M (.v (.ref a)) (.list ds)
theorem Rd1.dn {P H : Hp} (h : Holds N P H M) {v : V} {i : It} {d : PyData} (r : RepI P v i) (k : Rd1 M i d) : Dn H v d := by
  cases k with
  | d => exact dnw_ex h.exw d v r
  | own hm =>
    obtain ⟨xs, e, q⟩ := h.cell hm
    cases (show v = .ref _ from r)
    exact .lst e (dnwAll_ex h.exw _ _ q.to_all)
def plainD (d : PyData) : Bool := noDict d && SeqAt.shaped d
theorem rj_eqD {d d' : PyData} (hi : Rd1 M i d) (hj : Rd1 M j d') (s1 : plainD d = true) (s2 : plainD d' = true) : RJ N (rEqD X.K) M i j (dB (PyData.eqv d d')) M := fun x y H P h rx ry Q q => by
  have a1 := Bool.and_eq_true_iff.mp s1
  have a2 := Bool.and_eq_true_iff.mp s2
  exact ⟨d, d', dp_of d x a1.1 (hi.dn h rx), dp_of d' y a2.1 (hj.dn h ry), a1.2, a2.2, q _ H P (Ex.refl P) h (.bl _)⟩
theorem rj_neD {d d' : PyData} (hi : Rd1 M i d) (hj : Rd1 M j d') (s1 : plainD d = true) (s2 : plainD d' = true) : RJ N (rNeD X.K) M i j (dB (!PyData.eqv d d')) M := fun x y H P h rx ry Q q => by
  have a1 := Bool.and_eq_true_iff.mp s1
  have a2 := Bool.and_eq_true_iff.mp s2
  exact ⟨d, d', dp_of d x a1.1 (hi.dn h rx), dp_of d' y a2.1 (hj.dn h ry), a1.2, a2.2, q _ H P (Ex.refl P) h (.bl _)⟩

/-! subscripts -/
theorem rj_ixT {ds : List PyData} {n : Int} {d : PyData} (hd : atI ds n = some d) : RJ N (rIxT X.K) M (.d (.tuple ds)) (dI n) (.d d) M := fun x y H P h rx ry Q q => by
  obtain ⟨a, xs, rfl, h1, h2⟩ := ri_tup rx
  obtain ⟨j, e1, e2⟩ : ∃ j, ixN ds.length n = some j ∧ ds[j]? = some d := by
    unfold atI at hd
    cases e : ixN ds.length n with
    | none => rw [e] at hd; cases hd
    | some j => rw [e] at hd; exact ⟨j, rfl, hd⟩
  obtain ⟨v, e3, e4⟩ := dnAll_get h2 e2
  refine ⟨a, xs, n, v, rfl, ri_int ry, .inl (.inl (h.ex _ _ h1)), ?_, q v H P (Ex.refl P) h e4⟩
  unfold atI
  rw [dnAll_len h2, e1]
  exact e3
theorem rj_ixL {ds : List PyData} {n : Int} {d : PyData} (hd : atI ds n = some d) : RJ N (rIxL X.K) M (.d (.list ds)) (dI n) (.d d) M := fun x y H P h rx ry Q q => by
  obtain ⟨a, xs, rfl, h1, h2⟩ := ri_lst rx
  obtain ⟨j, e1, e2⟩ : ∃ j, ixN ds.length n = some j ∧ ds[j]? = some d := by
    unfold atI at hd
    cases e : ixN ds.length n with
    | none => rw [e] at hd; cases hd
    | some j => rw [e] at hd; exact ⟨j, rfl, hd⟩
  obtain ⟨v, e3, e4⟩ := dnAll_get h2 e2
  refine ⟨a, xs, n, v, rfl, ri_int ry, .inl (.inl (h.ex _ _ h1)), ?_, q v H P (Ex.refl P) h e4⟩
  unfold atI
  rw [dnAll_len h2, e1]
  exact e3
theorem rj_ixO {p : Addr} {is : List It} {n : Int} {k : It} (hm : (p, is) ∈ M) (hd : atI is n = some k) : RJ N (rIxL X.K) M (.v (.ref p)) (dI n) k M := fun x y H P h rx ry Q q => by
  obtain ⟨xs, h1, h2⟩ := h.cell hm
  cases (show x = .ref p from rx)
  obtain ⟨j, e1, e2⟩ : ∃ j, ixN is.length n = some j ∧ is[j]? = some k := by
    unfold atI at hd
    cases e : ixN is.length n with
    | none => rw [e] at hd; cases hd
    | some j => rw [e] at hd; exact ⟨j, rfl, hd⟩
  obtain ⟨v, e3, e4⟩ := h2.get e2
  refine ⟨p, xs, n, v, rfl, ri_int ry, .inl (.inl h1), ?_, q v H P (Ex.refl P) h e4⟩
  unfold atI
  rw [h2.len, e1]
  exact e3
theorem ej_ix {r : R2} (hr : IxR X r) (ha : EJ X N ρ M a i M1) (hb : EJ X N ρ M1 b j M2) (hj : RJ N r M2 i j k M3) (hs : PlainIx b := by exact fun _ _ => rfl) : EJ X N ρ M (.Subscript a b pos) k M3 := fun σ H P h g Q q =>
  e_of (pe_ix hr pe_w pe_w hs) (ha σ H P h g _ fun x H1 P1 e1 h1 r1 => hb σ H1 P1 h1 (g.ex e1) _ fun y H2 P2 e2 h2 r2 =>
    hj x y H2 P2 h2 (r1.ex e2) r2 Q fun v H3 P3 e3 h3 r3 => q v H3 P3 ((e1.trans e2).trans e3) h3 r3)
theorem ej_ixT {ds : List PyData} {n : Int} {d : PyData} (ha : EJ X N ρ M a (.d (.tuple ds)) M1) (hb : EJ X N ρ M1 b (dI n) M2) (hd : atI ds n = some d) (hs : PlainIx b := by exact fun _ _ => rfl) : EJ X N ρ M (.Subscript a b pos) (.d d) M2 := ej_ix ix_tup ha hb (rj_ixT hd) hs
theorem ej_ixL {ds : List PyData} {n : Int} {d : PyData} (ha : EJ X N ρ M a (.d (.list ds)) M1) (hb : EJ X N ρ M1 b (dI n) M2) (hd : atI ds n = some d) (hs : PlainIx b := by exact fun _ _ => rfl) : EJ X N ρ M (.Subscript a b pos) (.d d) M2 := ej_ix ix_list ha hb (rj_ixL hd) hs
theorem ej_ixO {p : Addr} {is : List It} {n : Int} {k : It} (ha : EJ X N ρ M a (.v (.ref p)) M1) (hb : EJ X N ρ M1 b (dI n) M2) (hm : (p, is) ∈ M2) (hd : atI is n = some k) (hs : PlainIx b := by exact fun _ _ => rfl) : EJ X N ρ M (.Subscript a b pos) k M2 := ej_ix ix_list ha hb (rj_ixO hm hd) hs

/-! arguments, displays -/
theorem aj_nil : AJ X N ρ M [] [] M := fun σ H P h g Q q => a_of pa_nil (q [] H P (Ex.refl P) h trivial)
theorem aj_cons {es : List Expr} {is : List It} (ha : EJ X N ρ M a i M1) (hb : AJ X N ρ M1 es is M2) (hs : starEach (a :: es) X.env = (false, eval a X.env) :: starEach es X.env := by rfl) : AJ X N ρ M (a :: es) (i :: is) M2 := fun σ H P h g Q q =>
  a_of (pa_cons pe_w pa_w hs) (ha σ H P h g _ fun x H1 P1 e1 h1 r1 => hb σ H1 P1 h1 (g.ex e1) _ fun vs H2 P2 e2 h2 r2 => q _ H2 P2 (e1.trans e2) h2 ⟨r1.ex e2, r2⟩)
def allD : List It → Option (List PyData)
  | [] => some []
  | .d x :: r => (allD r).map (x :: ·)
  | _ => none
theorem allD_eq : ∀ {is : List It} {ds : List PyData}, allD is = some ds → is = ds.map It.d
  | [], ds, h => by cases Option.some.inj h; rfl
  | .d x :: r, ds, h => by
    cases e : allD r with
    | none => rw [show allD (.d x :: r) = (allD r).map (x :: ·) from rfl, e] at h; cases h
    | some l =>
      rw [show allD (.d x :: r) = (allD r).map (x :: ·) from rfl, e] at h
      cases Option.some.inj h
      rw [allD_eq e]
      rfl
  | .v u :: r, ds, h => by cases h
  | .m u φ k :: r, ds, h => by cases h
  | .w φ k :: r, ds, h => by cases h
theorem ej_tup {es : List Expr} {is : List It} {ds : List PyData} {n : Nat} (ha : AJ X N ρ M es is M1) (hd : allD is = some ds := by rfl) (hz : ds.length ≤ 100000 := by first | decide | (simp; done)) : EJ X N ρ M (.Tuple es n pos) (.d (.tuple ds)) M1 := fun σ H P h g Q q =>
  e_of (pe_tup pa_w) (ha σ H P h g _ fun xs H1 P1 e1 h1 r1 => by
    rw [allD_eq hd] at r1
    have z := dnAll_len r1.to_all
    refine ⟨by rw [z]; exact Nat.le_trans hz (by decide), fun p hp => ?_⟩
    obtain ⟨h2, e2⟩ := h1.pers (o := .tup xs) hp
    exact q _ _ _ (e1.trans e2) h2 (.tup upd_same (dnAll_ex e2 _ _ r1.to_all)))
theorem el_disp {es : List Expr} {is : List It} (ha : AJ X N ρ M es is M1) (hz : is.length ≤ 100000 := by first | decide | (simp; done)) : EL X N ρ M (.List es pos) is M1 := fun σ H P h g Q q =>
  e_of (pe_lst pa_w) (ha σ H P h g _ fun xs H1 P1 e1 h1 r1 => by
    have z : xs.length ≤ sizeLine := by rw [r1.len]; exact Nat.le_trans hz (by decide)
    exact ⟨z, fun p hp => q p _ P1 e1 (h1.newF hp) (h1.own hp r1)⟩)
/-- a new list that stays as it is -/
theorem ej_el {is : List It} {ds : List PyData} (h : EL X N ρ M e is M1) (hd : is = ds.map It.d) : EJ X N ρ M e (.d (.list ds)) M1 := fun σ H P hh g Q q =>
  h σ H P hh g Q fun p H1 P1 e1 hp h1 => by
    subst hd
    obtain ⟨P2, e2, dn, h2⟩ := h1.freeze (a := p) (ds := ds) (List.mem_append_right _ (List.mem_singleton.mpr rfl)) hp
    rw [filter_last h1.nd] at h2
    exact q _ H1 P2 (e1.trans e2) h2 dn

/-! built-ins called by name -/
theorem ej_callB {x : Str} {id : String} {r : List V → Hp → VK → Prop} {p : Pos} {es : List Expr} {is : List It} (hc : CallR X (.builtin id) r) (hm : X.mg x = none) (hv : bootBuiltins x = some (.builtin id)) (ha : AJ X N ρ M (e :: es) is M1) (hr : CJ N r M1 is k M2)
    (hg : Gl X x := by rfl) (hn : x ≠ "__name__" := by decide) (hdb : (x == ("__debug__" : Str)) = false := by decide)
    (he : starEach (e :: es) X.env = (false, eval e X.env) :: starEach es X.env := by rfl) (hpl : (backTo pos (starEach es X.env)).any (·.1) = false := by rfl) : EJ X N ρ M (.Call (.Name x p) (e :: es) [] pos) k M2 := fun σ H P h g Q q =>
  e_of (pe_callB hc hg hm hv pa_w hn hdb he hpl) (ha σ H P h g _ fun vs H1 P1 e1 h1 r1 => hr vs H1 P1 h1 r1 Q fun v H2 P2 e2 h2 r2 => q v H2 P2 (e1.trans e2) h2 r2)
theorem ej_callTy {x : Str} {T : String} {r : List V → Hp → VK → Prop} {p : Pos} {es : List Expr} {is : List It} (hc : CallR X (.type T) r) (hm : X.mg x = none) (hv : bootBuiltins x = some (.type T)) (ha : AJ X N ρ M (e :: es) is M1) (hr : CJ N r M1 is k M2)
    (hg : Gl X x := by rfl) (hn : x ≠ "__name__" := by decide) (hdb : (x == ("__debug__" : Str)) = false := by decide)
    (he : starEach (e :: es) X.env = (false, eval e X.env) :: starEach es X.env := by rfl) (hpl : (backTo pos (starEach es X.env)).any (·.1) = false := by rfl) : EJ X N ρ M (.Call (.Name x p) (e :: es) [] pos) k M2 := fun σ H P h g Q q =>
  e_of (pe_callTy hc hg hm hv pa_w hn hdb he hpl) (ha σ H P h g _ fun vs H1 P1 e1 h1 r1 => hr vs H1 P1 h1 r1 Q fun v H2 P2 e2 h2 r2 => q v H2 P2 (e1.trans e2) h2 r2)
end
end Kt

namespace Kt
open PySem PySem.Spec PyProof.Rows L2
section
variable {X : Cx} {N : Ent} {ρ ρ' : Rho} {M M1 M2 M3 M' : Mem} {a b c e : Expr} {pos : Pos} {i j k : It} {t u : Bool}

/-! tests -/
theorem tj_val (h : EJ X N ρ M e (dB t) M1) (he : ∀ whole, isTrue e X.env whole = (do let v ← whole; standAt e.pos; holding [v] (truthy v)) := by intro _; rfl) : TJ X N ρ M e t M1 := fun σ H P hh g Q q =>
  t_of (pt_val pe_w he) (h σ H P hh g _ fun v H1 P1 e1 h1 r1 => ⟨t, ri_bl r1, q H1 P1 e1 h1⟩)
theorem tj_w (h : WJ X N ρ M e t M1) : TJ X N ρ M e t M1 := fun σ H P hh g Q q => t_of pw_w.pt (h σ H P hh g Q q)
theorem tj_not (h : TJ X N ρ M a t M1) : TJ X N ρ M (.UnaryOp .Not a pos) (!t) M1 := fun σ H P hh g Q q => t_of (pt_not pt_w) (h σ H P hh g _ q)
theorem wj_and1 (h : TJ X N ρ M a t M1) : WJ X N ρ M (.BoolOp .And [a] pos) t M1 := fun σ H P hh g Q q => w_of (pw_and1 pt_w) (h σ H P hh g Q q)
theorem wj_or1 (h : TJ X N ρ M a t M1) : WJ X N ρ M (.BoolOp .Or [a] pos) t M1 := fun σ H P hh g Q q => w_of (pw_or1 pt_w) (h σ H P hh g Q q)
theorem wj_and {es : List Expr} (h : TJ X N ρ M a t M1) (h2 : t = true → WJ X N ρ M1 (.BoolOp .And (b :: es) pos) u M1) : WJ X N ρ M (.BoolOp .And (a :: b :: es) pos) (t && u) M1 := fun σ H P hh g Q q =>
  w_of (pw_and pt_w pw_w) (h σ H P hh g _ fun H1 P1 e1 h1 => by
    cases t with
    | true => exact iteT (h2 rfl σ H1 P1 h1 (g.ex e1) Q fun H2 P2 e2 h3 => q H2 P2 (e1.trans e2) h3)
    | false => exact iteF (q H1 P1 e1 h1))
theorem wj_or {es : List Expr} (h : TJ X N ρ M a t M1) (h2 : t = false → WJ X N ρ M1 (.BoolOp .Or (b :: es) pos) u M1) : WJ X N ρ M (.BoolOp .Or (a :: b :: es) pos) (t || u) M1 := fun σ H P hh g Q q =>
  w_of (pw_or pt_w pw_w) (h σ H P hh g _ fun H1 P1 e1 h1 => by
    cases t with
    | true => exact iteT (q H1 P1 e1 h1)
    | false => exact iteF (h2 rfl σ H1 P1 h1 (g.ex e1) Q fun H2 P2 e2 h3 => q H2 P2 (e1.trans e2) h3))
theorem tj_is (h : TJ X N ρ M e t M1) (q : t = u) : TJ X N ρ M e u M1 := q ▸ h
theorem ej_is (h : EJ X N ρ M e i M1) (q : i = j) : EJ X N ρ M e j M1 := q ▸ h
/-! as values -/
theorem ej_one {op : BoolOp} (h : EJ X N ρ M a i M1) : EJ X N ρ M (.BoolOp op [a] pos) i M1 := fun σ H P hh g Q q => e_of (pe_one pe_w) (h σ H P hh g Q q)
theorem ej_andV {es : List Expr} (h : EJ X N ρ M a (dB t) M1) (h2 : t = true → EJ X N ρ M1 (.BoolOp .And (b :: es) pos) (dB u) M1) : EJ X N ρ M (.BoolOp .And (a :: b :: es) pos) (dB (t && u)) M1 := fun σ H P hh g Q q =>
  e_of (pe_and pe_w pe_w) (h σ H P hh g _ fun v H1 P1 e1 h1 r1 => ⟨t, ri_bl r1, by
    cases t with
    | true => exact iteT (h2 rfl σ H1 P1 h1 (g.ex e1) Q fun v2 H2 P2 e2 h3 r => q v2 H2 P2 (e1.trans e2) h3 r)
    | false => exact iteF (q _ H1 P1 e1 h1 (.bl _))⟩)
theorem ej_orV {es : List Expr} (h : EJ X N ρ M a (dB t) M1) (h2 : t = false → EJ X N ρ M1 (.BoolOp .Or (b :: es) pos) (dB u) M1) : EJ X N ρ M (.BoolOp .Or (a :: b :: es) pos) (dB (t || u)) M1 := fun σ H P hh g Q q =>
  e_of (pe_or pe_w pe_w) (h σ H P hh g _ fun v H1 P1 e1 h1 r1 => ⟨t, ri_bl r1, by
    cases t with
    | true => exact iteT (q _ H1 P1 e1 h1 (.bl _))
    | false => exact iteF (h2 rfl σ H1 P1 h1 (g.ex e1) Q fun v2 H2 P2 e2 h3 r => q v2 H2 P2 (e1.trans e2) h3 r)⟩)
theorem ej_notV (h : EJ X N ρ M a (dB t) M1) : EJ X N ρ M (.UnaryOp .Not a pos) (dB (!t)) M1 := fun σ H P hh g Q q =>
  e_of (pe_not pe_w) (h σ H P hh g _ fun v H1 P1 e1 h1 r1 => ⟨t, ri_bl r1, q _ H1 P1 e1 h1 (.bl _)⟩)
theorem ej_if (hc : TJ X N ρ M c t M1) (h1 : t = true → EJ X N ρ M1 a i M2) (h2 : t = false → EJ X N ρ M1 b i M2) : EJ X N ρ M (.IfExp c a b pos) i M2 := fun σ H P hh g Q q =>
  e_of (pe_ifExp pt_w pe_w pe_w) (hc σ H P hh g _ fun H1 P1 e1 hh1 => by
    cases t with
    | true => exact iteT (h1 rfl σ H1 P1 hh1 (g.ex e1) Q fun v H2 P2 e2 h3 r => q v H2 P2 (e1.trans e2) h3 r)
    | false => exact iteF (h2 rfl σ H1 P1 hh1 (g.ex e1) Q fun v H2 P2 e2 h3 r => q v H2 P2 (e1.trans e2) h3 r))
/-- low <= x <= high, as a value, as a test -/
theorem ej_chainLL {n m l : Int} (ha : EJ X N ρ M a (dI n) M) (hb : EJ X N ρ M b (dI m) M) (hc : EJ X N ρ M c (dI l) M) (hm : lastMarks [.LtE, .LtE] [b, c] = false := by with_unfolding_all rfl) : EJ X N ρ M (.Compare a [.LtE, .LtE] [b, c] pos) (dB (decide (n ≤ m) && decide (m ≤ l))) M := fun σ H P h g Q q =>
  e_of (pe_chain op_le op_le pe_w pe_w pe_w hm) (ha σ H P h g _ fun x H1 P1 e1 h1 r1 => hb σ H1 P1 h1 (g.ex e1) _ fun y H2 P2 e2 h2 r2 => ⟨n, m, ri_int r1, ri_int r2, decide (n ≤ m), rfl, by
    cases z : decide (n ≤ m) with
    | false => exact iteF (q _ H2 P2 (e1.trans e2) h2 (by rw [z]; exact .bl _))
    | true => exact iteT (hc σ H2 P2 h2 (g.ex (e1.trans e2)) _ fun w H3 P3 e3 h3 r3 => ⟨m, l, ri_int r2, ri_int r3, q _ H3 P3 ((e1.trans e2).trans e3) h3 (by rw [z]; exact .bl _)⟩)⟩)

/-! ### built-ins -/
theorem ri2 {P : Hp} {vs : List V} {i j : It} (h : RepIs P vs [i, j]) : ∃ x y, vs = [x, y] ∧ RepI P x i ∧ RepI P y j := by
  match vs, h with
  | [x, y], h => exact ⟨x, y, rfl, h.1, h.2.1⟩
theorem ri1 {P : Hp} {vs : List V} {i : It} (h : RepIs P vs [i]) : ∃ x, vs = [x] ∧ RepI P x i := by
  match vs, h with
  | [x], h => exact ⟨x, rfl, h.1⟩
theorem ej_len {p q : Pos} {x : It} {n : Nat} (hm : X.mg "len" = none) (ha : EJ X N ρ M a x M1) (hn : ∀ v H P, Holds N P H M1 → RepI P v x → ∃ y ys, v = .ref y ∧ (SqL X.K H y ys ∨ SqT X.K H y ys) ∧ ys.length = n)
    (hg : Gl X "len" := by rfl) (he : starEach [a] X.env = [(false, eval a X.env)] := by rfl) (hpl : (backTo q (starEach ([] : List Expr) X.env)).any (·.1) = false := by rfl) : EJ X N ρ M (.Call (.Name "len" p) [a] [] q) (dI (n : Int)) M1 :=
  ej_callB call_len_seq hm PySem.boot_len (aj_cons ha aj_nil he) (fun vs H P h rr Q q => by
    obtain ⟨x, rfl, r⟩ := ri1 rr
    obtain ⟨y, ys, rfl, s, z⟩ := hn x H P h r
    exact ⟨y, ys, rfl, s, q _ H P (Ex.refl P) h (by rw [z]; exact .int _)⟩) hg (by decide) (by decide) he hpl
theorem ej_lenL {p q : Pos} {ds : List PyData} (hm : X.mg "len" = none) (ha : EJ X N ρ M a (.d (.list ds)) M1) (hg : Gl X "len" := by rfl) (he : starEach [a] X.env = [(false, eval a X.env)] := by rfl) (hpl : (backTo q (starEach ([] : List Expr) X.env)).any (·.1) = false := by rfl) :
    EJ X N ρ M (.Call (.Name "len" p) [a] [] q) (dI (ds.length : Int)) M1 := ej_len hm ha (fun v H P h r => by
  obtain ⟨y, ys, rfl, h1, h2⟩ := ri_lst r
  exact ⟨y, ys, rfl, .inl (.inl (.inl (h.ex _ _ h1))), dnAll_len h2⟩) hg he hpl
theorem ej_lenT {p q : Pos} {ds : List PyData} (hm : X.mg "len" = none) (ha : EJ X N ρ M a (.d (.tuple ds)) M1) (hg : Gl X "len" := by rfl) (he : starEach [a] X.env = [(false, eval a X.env)] := by rfl) (hpl : (backTo q (starEach ([] : List Expr) X.env)).any (·.1) = false := by rfl) :
    EJ X N ρ M (.Call (.Name "len" p) [a] [] q) (dI (ds.length : Int)) M1 := ej_len hm ha (fun v H P h r => by
  obtain ⟨y, ys, rfl, h1, h2⟩ := ri_tup r
  exact ⟨y, ys, rfl, .inr (.inl (.inl (h.ex _ _ h1))), dnAll_len h2⟩) hg he hpl
theorem ej_lenO {p q : Pos} {o : Addr} {is : List It} (hm : X.mg "len" = none) (ha : EJ X N ρ M a (.v (.ref o)) M1) (hM : (o, is) ∈ M1) (hg : Gl X "len" := by rfl) (he : starEach [a] X.env = [(false, eval a X.env)] := by rfl) (hpl : (backTo q (starEach ([] : List Expr) X.env)).any (·.1) = false := by rfl) :
    EJ X N ρ M (.Call (.Name "len" p) [a] [] q) (dI (is.length : Int)) M1 := ej_len hm ha (fun v H P h r => by
  cases (show v = .ref o from r)
  obtain ⟨xs, h1, h2⟩ := h.cell hM
  exact ⟨o, xs, rfl, .inl (.inl (.inl h1)), h2.len⟩) hg he hpl
theorem ej_intc {p q : Pos} {n : Int} (hm : X.mg "int" = none) (ha : EJ X N ρ M a (dI n) M1) (hg : Gl X "int" := by rfl) (he : starEach [a] X.env = [(false, eval a X.env)] := by rfl) (hpl : (backTo q (starEach ([] : List Expr) X.env)).any (·.1) = false := by rfl) :
    EJ X N ρ M (.Call (.Name "int" p) [a] [] q) (dI n) M1 := ej_callTy call_int1 hm (by decide +kernel) (aj_cons ha aj_nil he) (fun vs H P h rr Q q => by
  obtain ⟨x, rfl, r⟩ := ri1 rr
  cases ri_int r
  exact .inl ⟨n, rfl, q _ H P (Ex.refl P) h (.int _)⟩) hg (by decide) (by decide) he hpl
theorem ej_abs {p q : Pos} {n : Int} (hm : X.mg "abs" = none) (ha : EJ X N ρ M a (dI n) M1) (hg : Gl X "abs" := by rfl) (he : starEach [a] X.env = [(false, eval a X.env)] := by rfl) (hpl : (backTo q (starEach ([] : List Expr) X.env)).any (·.1) = false := by rfl) :
    EJ X N ρ M (.Call (.Name "abs" p) [a] [] q) (dI (if n < 0 then -n else n)) M1 := ej_callB call_abs hm (by decide +kernel) (aj_cons ha aj_nil he) (fun vs H P h rr Q q => by
  obtain ⟨x, rfl, r⟩ := ri1 rr
  cases ri_int r
  exact ⟨n, rfl, q _ H P (Ex.refl P) h (.int _)⟩) hg (by decide) (by decide) he hpl
theorem ej_sum {p q : Pos} {ns : List Int} (hc : X.calm = true) (hm : X.mg "sum" = none) (ha : EJ X N ρ M a (.d (.list (ns.map PyData.int))) M1) (hg : Gl X "sum" := by rfl) (he : starEach [a] X.env = [(false, eval a X.env)] := by rfl) (hpl : (backTo q (starEach ([] : List Expr) X.env)).any (·.1) = false := by rfl) :
    EJ X N ρ M (.Call (.Name "sum" p) [a] [] q) (dI ns.sum) M1 := ej_callB (cr_sum hc) hm (by decide +kernel) (aj_cons ha aj_nil he) (fun vs H P h rr Q q => by
  obtain ⟨x, rfl, r⟩ := ri1 rr
  obtain ⟨y, ys, rfl, h1, h2⟩ := ri_lst r
  cases h2.ints
  exact ⟨y, ns, rfl, .inl (.inl (h.ex _ _ h1)), q _ H P (Ex.refl P) h (.int _)⟩) hg (by decide) (by decide) he hpl
theorem ej_all {p q : Pos} {bs : List Bool} (hc : X.calm = true) (hm : X.mg "all" = none) (ha : EJ X N ρ M a (.d (.list (bs.map PyData.bool))) M1) (hg : Gl X "all" := by rfl) (he : starEach [a] X.env = [(false, eval a X.env)] := by rfl) (hpl : (backTo q (starEach ([] : List Expr) X.env)).any (·.1) = false := by rfl) :
    EJ X N ρ M (.Call (.Name "all" p) [a] [] q) (dB (bs.all id)) M1 := ej_callB (cr_all hc) hm (by decide +kernel) (aj_cons ha aj_nil he) (fun vs H P h rr Q q => by
  obtain ⟨x, rfl, r⟩ := ri1 rr
  obtain ⟨y, ys, rfl, h1, h2⟩ := ri_lst r
  cases h2.bools
  exact ⟨y, bs, rfl, .inl (.inl (h.ex _ _ h1)), q _ H P (Ex.refl P) h (.bl _)⟩) hg (by decide) (by decide) he hpl
theorem ej_maxL {p q : Pos} {ns : List Int} {m : Int} (hc : X.calm = true) (hm : X.mg "max" = none) (ha : EJ X N ρ M a (.d (.list (ns.map PyData.int))) M1) (h1 : m ∈ ns) (h2 : ∀ y ∈ ns, y ≤ m) (hg : Gl X "max" := by rfl) (he : starEach [a] X.env = [(false, eval a X.env)] := by rfl) (hpl : (backTo q (starEach ([] : List Expr) X.env)).any (·.1) = false := by rfl) :
    EJ X N ρ M (.Call (.Name "max" p) [a] [] q) (dI m) M1 := ej_callB (cr_max hc) hm (by decide +kernel) (aj_cons ha aj_nil he) (fun vs H P h rr Q q => by
  obtain ⟨x, rfl, r⟩ := ri1 rr
  obtain ⟨y, ys, rfl, h3, h4⟩ := ri_lst r
  cases h4.ints
  refine ⟨y, ns, rfl, .inl (.inl (h.ex _ _ h3)), List.length_pos_of_mem h1, fun m' hm' hy => ?_⟩
  have e : m' = m := by have := hy m h1; have := h2 m' hm'; omega
  exact q _ H P (Ex.refl P) h (e ▸ .int _)) hg (by decide) (by decide) he hpl
/-- tuple(a list): a new tuple -/
theorem ej_tupleL {p q : Pos} {is : List It} {ds : List PyData} (hm : X.mg "tuple" = none) (ha : EL X N ρ M a is M1) (hd : is = ds.map It.d) (hg : Gl X "tuple" := by rfl) (he : starEach [a] X.env = [(false, eval a X.env)] := by rfl) (hpl : (backTo q (starEach ([] : List Expr) X.env)).any (·.1) = false := by rfl) :
    EJ X N ρ M (.Call (.Name "tuple" p) [a] [] q) (.d (.tuple ds)) M1 := ej_callTy call_tuple_of hm (by decide +kernel) (aj_cons (ej_el ha hd) aj_nil he) (fun vs H P h rr Q q => by
  obtain ⟨x, rfl, r⟩ := ri1 rr
  obtain ⟨y, ys, rfl, h1, h2⟩ := ri_lst r
  refine ⟨y, ys, rfl, .inl ⟨.inl (.inl (h.ex _ _ h1)), fun l hl => ?_⟩⟩
  obtain ⟨h3, e3⟩ := h.pers (o := .tup ys) hl
  exact q _ _ _ e3 h3 (.tup upd_same (dnAll_ex e3 _ _ h2))) hg (by decide) (by decide) he hpl
theorem ej_tupleD {p q : Pos} {ds : List PyData} (hm : X.mg "tuple" = none) (ha : EJ X N ρ M a (.d (.list ds)) M1) (hg : Gl X "tuple" := by rfl) (he : starEach [a] X.env = [(false, eval a X.env)] := by rfl) (hpl : (backTo q (starEach ([] : List Expr) X.env)).any (·.1) = false := by rfl) :
    EJ X N ρ M (.Call (.Name "tuple" p) [a] [] q) (.d (.tuple ds)) M1 := ej_callTy call_tuple_of hm (by decide +kernel) (aj_cons ha aj_nil he) (fun vs H P h rr Q q => by
  obtain ⟨x, rfl, r⟩ := ri1 rr
  obtain ⟨y, ys, rfl, h1, h2⟩ := ri_lst r
  refine ⟨y, ys, rfl, .inl ⟨.inl (.inl (h.ex _ _ h1)), fun l hl => ?_⟩⟩
  obtain ⟨h3, e3⟩ := h.pers (o := .tup ys) hl
  exact q _ _ _ e3 h3 (.tup upd_same (dnAll_ex e3 _ _ h2))) hg (by decide) (by decide) he hpl
theorem ej_tupleO {p q : Pos} {o : Addr} {ds : List PyData} (hm : X.mg "tuple" = none) (ha : EJ X N ρ M a (.v (.ref o)) M1) (hM : (o, ds.map It.d) ∈ M1) (hg : Gl X "tuple" := by rfl) (he : starEach [a] X.env = [(false, eval a X.env)] := by rfl) (hpl : (backTo q (starEach ([] : List Expr) X.env)).any (·.1) = false := by rfl) :
    EJ X N ρ M (.Call (.Name "tuple" p) [a] [] q) (.d (.tuple ds)) M1 := ej_callTy call_tuple_of hm (by decide +kernel) (aj_cons ha aj_nil he) (fun vs H P h rr Q q => by
  obtain ⟨x, rfl, r⟩ := ri1 rr
  cases (show x = .ref o from r)
  obtain ⟨ys, h1, h2⟩ := h.cell hM
  refine ⟨o, ys, rfl, .inl ⟨.inl (.inl h1), fun l hl => ?_⟩⟩
  obtain ⟨h3, e3⟩ := h.pers (o := .tup ys) hl
  exact q _ _ _ e3 h3 (.tup upd_same (dnAll_ex e3 _ _ h2.to_all))) hg (by decide) (by decide) he hpl

/-! ### statements -/
structure Post where
  nx : Rho → Mem → Prop
  rt : It → Mem → Prop
  bk : Rho → Mem → Prop := fun _ _ => False
  ct : Rho → Mem → Prop := fun _ _ => False
  er : Str → Mem → Prop := fun _ _ => False
/-- the dict of an exception with this name -/
abbrev XD (z : Str) : HO := .xd [("name", .str z)]
structure ZD (mg : Str → Option Value) (N : Ent) (P : Hp) (Z : Post) (D : Ends) (E : XK) : Prop where
  nx : ∀ ρ' M' σ' H' P', Z.nx ρ' M' → Ex P P' → Holds N P' H' M' → Slots P' σ' ρ' → D.nx σ' H'
  rt : ∀ i M' v H' P', Z.rt i M' → Ex P P' → Holds N P' H' M' → RepI P' v i → D.rt v H'
  bk : ∀ ρ' M' σ' H' P', Z.bk ρ' M' → Ex P P' → Holds N P' H' M' → Slots P' σ' ρ' → D.bk σ' H'
  ct : ∀ ρ' M' σ' H' P', Z.ct ρ' M' → Ex P P' → Holds N P' H' M' → Slots P' σ' ρ' → D.ct σ' H'
  er : ∀ z M' d H' P' C, mg "ShapeError" = some (.ref C) → Z.er z M' → Ex P P' → Holds N P' H' M' → H' d = some (XD z) → E (.ref C) (some d) H'
theorem ZD.ex {mg : Str → Option Value} {P P' : Hp} {Z : Post} {D : Ends} {E : XK} (e : Ex P P') (z : ZD mg N P Z D E) : ZD mg N P' Z D E :=
  ⟨fun ρ' M' σ' H' P'' a b => z.nx ρ' M' σ' H' P'' a (e.trans b), fun i M' v H' P'' a b => z.rt i M' v H' P'' a (e.trans b), fun ρ' M' σ' H' P'' a b => z.bk ρ' M' σ' H' P'' a (e.trans b), fun ρ' M' σ' H' P'' a b => z.ct ρ' M' σ' H' P'' a (e.trans b), fun w M' d H' P'' C c a b => z.er w M' d H' P'' C c a (e.trans b)⟩
def SJ (X : Cx) (N : Ent) (ρ : Rho) (M : Mem) (sts : List Stmt) (Z : Post) : Prop :=
  ∀ σ H P, Holds N P H M → Slots P σ ρ → ∀ (D : Ends) (E : XK), Takes X (fun c d _ H => E c d H) → ZD X.mg N P Z D E → wSs X sts D σ H
/-- a target takes an item -/
def GJ (X : Cx) (N : Ent) (tg : Expr) (i : It) (ρ : Rho) (ρ' : Rho) : Prop :=
  ∀ v σ H P M, Holds N P H M → Slots P σ ρ → RepI P v i → ∀ Q : L2.St → Hp → Prop, (∀ σ', Slots P σ' ρ' → Q σ' H) → wG X tg v σ H Q
variable {Z : Post} {rest : List Stmt}
theorem sj_nil (h : Z.nx ρ M) : SJ X N ρ M [] Z := fun σ H P hh g D E tk z => ss_of pss_nil (z.nx ρ M σ H P h (Ex.refl P) hh g)
theorem sj_cons {st : Stmt} (h : ∀ σ H P, Holds N P H M → Slots P σ ρ → ∀ (D : Ends) (E : XK), Takes X (fun c d _ H => E c d H) → ZD X.mg N P { Z with nx := fun ρ' M' => SJ X N ρ' M' rest Z } D E → wS X st D σ H) : SJ X N ρ M (st :: rest) Z := fun σ H P hh g D E tk z =>
  ss_of (pss_cons ps_w pss_w) (h σ H P hh g _ E tk ⟨fun ρ' M' σ' H' P' a e hh' g' => a σ' H' P' hh' g' D E tk (z.ex e), z.rt, z.bk, z.ct, z.er⟩)
theorem gj_name (n : Nat) {x : Str} (hN : X.N.Nodup) (hi : X.N[n]? = some x := by rfl) (hx : Loc X.env.scope x := by first | exact .inl rfl | exact .inr rfl) (hf : X.fn x = true ∨ X.env.scope.names.lookup x = some .local := by first | exact .inl rfl | exact .inr rfl) :
    GJ X N (.Name x pos) i ρ (ρ.set n (some i)) := fun v σ H P M hh g r Q q => g_of (pg_name (i := n) hN hi hx hf) (q _ (g.set r n))
theorem sj_asgG {tg : Expr} (he : EJ X N ρ M e i M1) (hg : GJ X N tg i ρ ρ') (hr : SJ X N ρ' M1 rest Z) (hs : swapsWithSole [tg] e pos.line X.env = pure false := by rfl) (hw : swappedStores [tg] e X.env = pure none := by rfl)
    (h1 : (assignEach [tg] X.env).map (·.2) = [assign tg X.env] := by rfl) : SJ X N ρ M (.Assign [tg] e pos :: rest) Z := sj_cons fun σ H P hh g D E tk z =>
  s_of (ps_asg pe_w pg_w hs hw h1) (he σ H P hh g _ fun v H1 P1 e1 h1 r1 => hg v σ H1 P1 M1 h1 (g.ex e1) r1 _ fun σ' g' => z.nx ρ' M1 σ' H1 P1 hr e1 h1 g')
/-- x = e -/
theorem sj_set (n : Nat) {x : Str} {pos' : Pos} (hN : X.N.Nodup) (he : EJ X N ρ M e i M1) (hr : SJ X N (ρ.set n (some i)) M1 rest Z) (hi : X.N[n]? = some x := by rfl) (hx : Loc X.env.scope x := by first | exact .inl rfl | exact .inr rfl) (hs : swapsWith e (some (.Name x pos')) pos.line X.env = pure false := by rfl) (hf : X.fn x = true ∨ X.env.scope.names.lookup x = some .local := by first | exact .inl rfl | exact .inr rfl) :
    SJ X N ρ M (.Assign [.Name x pos'] e pos :: rest) Z := sj_cons fun σ H P hh g D E tk z =>
  s_of (ps_set (i := n) hN hi hx pe_w hs hf) (he σ H P hh g _ fun v H1 P1 e1 h1 r1 => z.nx _ M1 _ H1 P1 hr e1 h1 ((g.ex e1).set r1 n))
/-- x = a new list of one's own -/
theorem sj_own (n : Nat) {x : Str} {pos' : Pos} {is : List It} (hN : X.N.Nodup) (he : EL X N ρ M e is M1) (hr : ∀ p, p ∉ N.F → SJ X N (ρ.set n (some (.v (.ref p)))) (M1 ++ [(p, is)]) rest Z) (hi : X.N[n]? = some x := by rfl) (hx : Loc X.env.scope x := by first | exact .inl rfl | exact .inr rfl) (hs : swapsWith e (some (.Name x pos')) pos.line X.env = pure false := by rfl) (hf : X.fn x = true ∨ X.env.scope.names.lookup x = some .local := by first | exact .inl rfl | exact .inr rfl) :
    SJ X N ρ M (.Assign [.Name x pos'] e pos :: rest) Z := sj_cons fun σ H P hh g D E tk z =>
  s_of (ps_set (i := n) hN hi hx pe_w hs hf) (he σ H P hh g _ fun p H1 P1 e1 hp h1 => z.nx _ _ _ _ P1 (hr p hp) e1 h1 ((g.ex e1).set (it := .v (.ref p)) rfl n))
theorem sj_ret (he : EJ X N ρ M e i M1) (h : Z.rt i M1) : SJ X N ρ M (.Return (some e) pos :: rest) Z := sj_cons fun σ H P hh g D E tk z =>
  s_of (ps_ret pe_w) (he σ H P hh g _ fun v H1 P1 e1 h1 r1 => z.rt i M1 v H1 P1 h e1 h1 r1)
theorem sj_retN (h : Z.rt (.d .none) M) : SJ X N ρ M (.Return none pos :: rest) Z := sj_cons fun σ H P hh g D E tk z => s_of ps_retN (z.rt _ M _ H P h (Ex.refl P) hh .non)
theorem sj_if {A B : List Stmt} (hc : TJ X N ρ M c t M1) (h1 : t = true → SJ X N ρ M1 A { Z with nx := fun ρ' M' => SJ X N ρ' M' rest Z }) (h2 : t = false → SJ X N ρ M1 B { Z with nx := fun ρ' M' => SJ X N ρ' M' rest Z }) : SJ X N ρ M (.If c A B pos :: rest) Z := sj_cons fun σ H P hh g D E tk z =>
  s_of (ps_if pt_w pss_w pss_w) (hc σ H P hh g _ fun H1 P1 e1 hh1 => by
    cases t with
    | true => exact iteT (h1 rfl σ H1 P1 hh1 (g.ex e1) D E tk (z.ex e1))
    | false => exact iteF (h2 rfl σ H1 P1 hh1 (g.ex e1) D E tk (z.ex e1)))
theorem sj_expr (he : EJ X N ρ M e i M1) (hr : SJ X N ρ M1 rest Z) (hs : swapsWith e none pos.line X.env = pure false := by rfl) : SJ X N ρ M (.Expr e pos :: rest) Z := sj_cons fun σ H P hh g D E tk z =>
  s_of (ps_expr pe_w hs) (he σ H P hh g _ fun v H1 P1 e1 h1 r1 => z.nx ρ M1 σ H1 P1 hr e1 h1 (g.ex e1))
theorem sj_break (h : Z.bk ρ M) : SJ X N ρ M (.Break pos :: rest) Z := sj_cons fun σ H P hh g D E tk z => s_of ps_break (z.bk ρ M σ H P h (Ex.refl P) hh g)
theorem sj_continue (h : Z.ct ρ M) : SJ X N ρ M (.Continue pos :: rest) Z := sj_cons fun σ H P hh g D E tk z => s_of ps_continue (z.ct ρ M σ H P h (Ex.refl P) hh g)
/-- fewer things known -/
theorem sj_weak {sts : List Stmt} (h : SJ X N ρ' M' sts Z) (hl : ρ'.length = ρ.length) (w : ∀ (n : Nat) (it : It), ρ'[n]? = some (some it) → ρ[n]? = some (some it)) (s : ∀ c ∈ M', c ∈ M) (nd : (M.map Prod.fst).Nodup → (M'.map Prod.fst).Nodup) (mf : ∀ a ∈ N.F, a ∈ M'.map Prod.fst) : SJ X N ρ M sts Z :=
  fun σ H P hh g D E tk z => h σ H P (hh.sub s (nd hh.nd) mf) (g.weak hl w) D E tk z
/-- x += e, ints -/
theorem sj_aug (n : Nat) {x : Str} {pos' : Pos} {op : Operator} {f : Int → Int → Int} {z1 z2 : Int} (ho : PIp X op (ipI f)) (hN : X.N.Nodup) (hρ : ρ[n]? = some (some (dI z1))) (he : EJ X N ρ M e (dI z2) M1) (hr : SJ X N (ρ.set n (some (dI (f z1 z2)))) M1 rest Z) (hi : X.N[n]? = some x := by rfl) (hx : Loc X.env.scope x := by first | exact .inl rfl | exact .inr rfl) (hf : X.fn x = true ∨ X.env.scope.names.lookup x = some .local := by first | exact .inl rfl | exact .inr rfl) :
    SJ X N ρ M (.AugAssign (.Name x pos') op e pos :: rest) Z := sj_cons fun σ H P hh g D E tk z => by
  obtain ⟨v, e0, r0⟩ := g.2 n _ hρ
  refine s_of (ps_aug (i := n) hN hi hx pe_w ho hf) ⟨v, e0, he σ H P hh g _ fun y H1 P1 e1 h1 r1 => ⟨z1, z2, ri_int r0, ri_int r1, ?_⟩⟩
  exact z.nx _ M1 _ H1 P1 hr e1 h1 ((g.ex e1).set (it := dI (f z1 z2)) (.int _) n)
/-- xs.append(e), xs one's own -/
theorem sj_append {ap epos : Pos} {p : Addr} {is is0 : List It} (ho : EJ X N ρ M a (.v (.ref p)) M) (hm0 : (p, is0) ∈ M) (he : EJ X N ρ M e i M1) (hm : (p, is) ∈ M1) (hz : is.length < 100000) (hr : SJ X N ρ (M1.put p (is ++ [i])) rest Z) (hs : swapsWith (.Call (.Attribute a "append" ap) [e] [] pos) none epos.line X.env = pure false := by rfl)
    (hst : starEach [e] X.env = [(false, eval e X.env)] := by rfl) (ps : PE X (.Call (.Attribute a "append" ap) [e] [] pos) (tBM X.K "list" rAppend (wE X a) (wA X [e])) := by exact pe_bm PySem.F.plainAttrs_list PySem.F.slot_list_append PySem.F.type_list_append mt_append pe_w pa_w) : SJ X N ρ M (.Expr (.Call (.Attribute a "append" ap) [e] [] pos) epos :: rest) Z := sj_cons fun σ H P hh g D E tk z => by
  refine s_of (ps_expr ps hs) (ho σ H P hh g _ fun v H1 P1 e1 h1 r1 => ?_)
  cases (show v = .ref p from r1)
  obtain ⟨ys, ey, _⟩ := h1.cell hm0
  refine ⟨.inl ⟨rfl, ys, .inl (.inl ey)⟩, ?_⟩
  refine aj_cons he aj_nil hst σ H1 P1 h1 (g.ex e1) _ fun vs H2 P2 e2 h2 r2 => ?_
  obtain ⟨y, rfl, r3⟩ := ri1 r2
  obtain ⟨xs, e3, r4⟩ := h2.cell hm
  refine ⟨p, xs, y, rfl, rfl, e3, by rw [r4.len]; exact Nat.lt_of_lt_of_le hz (by decide), ?_⟩
  exact z.nx ρ _ σ _ P2 hr (e1.trans e2) (h2.write hm (r4.app ⟨r3, trivial⟩)) (g.ex (e1.trans e2))
/-- xs[i] = e, xs one's own -/
theorem sj_setO {o x : Expr} {spos : Pos} {p : Addr} {is : List It} {n : Nat} (he : EJ X N ρ M e i M1) (ho : EJ X N ρ M1 o (.v (.ref p)) M1) (hx : EJ X N ρ M1 x (dI (n : Int)) M2) (hm : (p, is) ∈ M2) (hn : n < is.length) (hr : SJ X N ρ (M2.put p (is.set n i)) rest Z)
    (ha : ∀ v, assign (.Subscript o x spos) X.env v = (do
      let ov ← holding [v] (eval o X.env)
      let iv ← holding [v, ov] (eval x X.env)
      standAt spos
      holding [v, ov, iv] (setItem ov iv v)
      release [v, ov, iv] []) := by intro _; rfl)
    (hs : swapsWithSole [.Subscript o x spos] e pos.line X.env = pure false := by rfl) (hw : swappedStores [.Subscript o x spos] e X.env = pure none := by rfl)
    (h1 : (assignEach [.Subscript o x spos] X.env).map (·.2) = [assign (.Subscript o x spos) X.env] := by rfl) : SJ X N ρ M (.Assign [.Subscript o x spos] e pos :: rest) Z := sj_cons fun σ H P hh g D E tk z => by
  refine s_of (ps_asg pe_w (pg_sub pe_w pe_w set_list ha) hs hw h1) (he σ H P hh g _ fun v H1 P1 e1 h1 r1 => ho σ H1 P1 h1 (g.ex e1) _ fun ov H2 P2 e2 h2 r2 => hx σ H2 P2 h2 (g.ex (e1.trans e2)) _ fun iv H3 P3 e3 h3 r3 => ?_)
  obtain ⟨xs, e4, r4⟩ := h3.cell hm
  have z4 := r4.len
  refine ⟨p, xs, (n : Int), n, r2, ri_int r3, e4, ?_, ?_⟩
  · unfold ixN
    rw [if_pos (by omega), if_pos (by omega)]
    simp
  · exact z.nx ρ _ σ _ P3 hr ((e1.trans e2).trans e3) (h3.write hm (r4.set ((r1.ex e2).ex e3) n)) (g.ex ((e1.trans e2).trans e3))
/-- an own list of data becomes persistent, at a slot -/
theorem sj_freeze (n : Nat) {p : Addr} {ds : List PyData} {sts : List Stmt} (hρ : ρ[n]? = some (some (.v (.ref p)))) (hm : (p, ds.map It.d) ∈ M) (hF : p ∉ N.F) (hr : SJ X N (ρ.set n (some (.d (.list ds)))) (M.filter fun c => decide (c.1 ≠ p)) sts Z) : SJ X N ρ M sts Z := fun σ H P hh g D E tk z => by
  obtain ⟨P', e, dn, h'⟩ := hh.freeze hm hF
  obtain ⟨v, ev, rv⟩ := g.2 n _ hρ
  cases (show v = .ref p from rv)
  have es : σ.set n (some (.ref p)) = σ := by
    refine List.ext_getElem? fun m => ?_
    by_cases q : n = m
    · subst q
      have l : n < σ.length := (List.getElem?_eq_some_iff.mp ev).1
      rw [List.getElem?_set_self l, ev]
    · rw [List.getElem?_set_ne q]
  have g' := (g.ex e).set (it := .d (.list ds)) (v := .ref p) dn n
  rw [es] at g'
  exact hr σ H P' h' g' D E tk (z.ex e)
end
end Kt

namespace Kt
open PySem PySem.Spec PyProof.Rows L2

/-! ### the frame: a part of the cells alone -/
section
variable {N : Ent} {P P' H H' : Hp} {Mc Mr Mc' : Mem}
abbrev inner (P H : Hp) (Mc : Mem) : Ent := ⟨P, H, Mc.map Prod.fst⟩
theorem Holds.h0_none (h : Holds N P H Mc) {b : Addr} (hb : H b = none) : N.H0 b = none := by
  cases e : N.H0 b with
  | none => rfl
  | some o =>
    by_cases f : b ∈ N.F
    · exact absurd f (h.newF hb)
    · rw [h.fr b o e f] at hb; cases hb
theorem Holds.enter (h : Holds N P H (Mc ++ Mr)) : Holds (inner P H Mc) P H Mc :=
  ⟨h.exw, Ex.refl P, fun _ _ e _ => e, fun b e f => absurd e f, fun c hc => h.mem c (List.mem_append_left _ hc), by
    have := h.nd
    rw [List.map_append] at this
    exact (List.nodup_append.mp this).1, fun a ha => ha, fun c hc => .inl (List.mem_map.mpr ⟨c, hc, rfl⟩), fun _ _ _ e => e, h.pf⟩
theorem Holds.leave (h : Holds N P H (Mc ++ Mr)) (h' : Holds (inner P H Mc) P' H' Mc') : Holds N P' H' (Mc' ++ Mr) := by
  have nd := h.nd
  rw [List.map_append] at nd
  obtain ⟨n1, n2, n3⟩ := List.nodup_append.mp nd
  have old : ∀ c ∈ Mc', c.1 ∈ Mc.map Prod.fst ∨ H c.1 = none := h'.fs
  refine ⟨h'.exw, h.ex0.trans h'.ex0, fun b o e f => ?_, fun b e f => ?_, fun c hc => ?_, ?_, fun a ha => ?_, fun c hc => ?_, fun a od u e => h.uf a od u (h'.uf a od u e), h'.pf⟩
  · refine h'.fr b o (h.fr b o e f) fun hb => ?_
    obtain ⟨c, hc, ec⟩ := List.mem_map.mp hb
    rcases h.fs c (List.mem_append_left _ hc) with k | k
    · exact f (ec ▸ k)
    · rw [ec, e] at k; cases k
  · cases q : P b with
    | some u => exact h.nw b e (by rw [q]; exact Option.some_ne_none u)
    | none => exact h.h0_none (h'.nw b q f)
  · rcases List.mem_append.mp hc with hc | hc
    · exact h'.mem c hc
    · obtain ⟨a1, xs, a2, a3⟩ := h.mem c (List.mem_append_right _ hc)
      have nc : c.1 ∉ Mc.map Prod.fst := fun z => n3 c.1 z c.1 (List.mem_map.mpr ⟨c, hc, rfl⟩) rfl
      refine ⟨?_, xs, h'.fr c.1 _ a2 nc, a3.ex h'.ex0⟩
      cases q : P' c.1 with
      | none => rfl
      | some u =>
        have := h'.nw c.1 a1 (by rw [q]; exact Option.some_ne_none u)
        rw [show (inner P H Mc).H0 = H from rfl] at this
        rw [this] at a2
        cases a2
  · rw [List.map_append]
    refine List.nodup_append.mpr ⟨h'.nd, n2, fun a ha b hb e => ?_⟩
    subst e
    obtain ⟨c, hc, ec⟩ := List.mem_map.mp ha
    rcases old c hc with k | k
    · exact n3 a (ec ▸ k) a hb rfl
    · obtain ⟨c2, hc2, e2⟩ := List.mem_map.mp hb
      obtain ⟨xs, a2, _⟩ := (h.mem c2 (List.mem_append_right _ hc2)).2
      rw [e2, ← ec, k] at a2
      cases a2
  · have := h.mf a ha
    rw [List.map_append] at this ⊢
    rcases List.mem_append.mp this with k | k
    · exact List.mem_append_left _ (h'.mf a k)
    · exact List.mem_append_right _ k
  · rcases List.mem_append.mp hc with hc | hc
    · rcases old c hc with k | k
      · obtain ⟨c2, hc2, e2⟩ := List.mem_map.mp k
        have := h.fs c2 (List.mem_append_left _ hc2)
        rw [e2] at this
        exact this
      · exact .inr (h.h0_none k)
    · exact h.fs c (List.mem_append_right _ hc)
end

/-! ### contracts -/
abbrev Co := List It → Mem → It → Mem → Prop
def spC (C : Co) : Sp := fun vs H Q _ => ∃ (P : Hp) (is : List It) (M : Mem) (i : It) (M' : Mem), Holds (inner P H M) P H M ∧ RepIs P vs is ∧ C is M i M' ∧ ∀ v H' P', Holds (inner P H M) P' H' M' → RepI P' v i → Q v H'
structure Def (P : Program) (w : World) (K : PySem.W.Frag) (mg : Str → Option Value) (base : Heap) (x : Str) (k : Nat) (C : Co) : Prop where
  ex : ∃ f fd ps, FnOk P w K mg base CX0 k f fd ps (spC C) ∧ mg x = some (.ref f) ∧ PySem.W.keepIn K (.ref f) = true ∧ Binds K fd ps []
theorem Def.mono {P : Program} {w : World} {K : PySem.W.Frag} {mg : Str → Option Value} {base : Heap} {x : Str} {k k' : Nat} {C : Co} (F : Def P w K mg base x k C) (h : k ≤ k') : Def P w K mg base x k' C := by
  obtain ⟨f, fd, ps, a, b⟩ := F.ex
  exact ⟨f, fd, ps, a.mono h, b⟩
section
variable {X : Cx} {N : Ent} {ρ ρ' : Rho} {M M1 M2 M3 M' Mc Mr Mc' : Mem} {a b c e : Expr} {pos : Pos} {i j k : It} {t u : Bool}
theorem ej_call {x : Str} {l : Nat} {C : Co} {p : Pos} {es : List Expr} {is : List It} (F : Def X.prog X.w X.K X.mg X.base x l C) (hr : Room l X.A) (ha : AJ X N ρ M (e :: es) is M1) (hM : M1 = Mc ++ Mr) (hC : C is Mc i Mc') (hM2 : M2 = Mc' ++ Mr)
    (hg : Gl X x := by rfl) (hdb : (x == ("__debug__" : Str)) = false := by decide) (he : starEach (e :: es) X.env = (false, eval e X.env) :: starEach es X.env := by rfl) (hpl : (backTo pos (starEach es X.env)).any (·.1) = false := by rfl) :
    EJ X N ρ M (.Call (.Name x p) (e :: es) [] pos) i M2 := fun σ H P hh g Q q => by
  obtain ⟨f, fd, ps, F1, hm, hk, hb⟩ := F.ex
  refine e_of (pe_call F1 hr hg hm hk hb .nil pass0 pa_w hdb he hpl) (ha σ H P hh g _ fun vs H1 P1 e1 h1 r1 => ?_)
  subst hM hM2
  refine ⟨P1, is, Mc, i, Mc', h1.enter, ?_, hC, fun v H' P' h' r' => ?_⟩
  · rw [List.append_nil]; exact r1
  · exact q v H' P' (e1.trans h'.ex0) (h1.leave h') r'
/-- a call that asks for no cells -/
theorem ej_callP {x : Str} {l : Nat} {C : Co} {p : Pos} {es : List Expr} {is : List It} (F : Def X.prog X.w X.K X.mg X.base x l C) (hr : Room l X.A) (ha : AJ X N ρ M (e :: es) is M1) (hC : C is [] i [])
    (hg : Gl X x := by rfl) (hdb : (x == ("__debug__" : Str)) = false := by decide) (he : starEach (e :: es) X.env = (false, eval e X.env) :: starEach es X.env := by rfl) (hpl : (backTo pos (starEach es X.env)).any (·.1) = false := by rfl) :
    EJ X N ρ M (.Call (.Name x p) (e :: es) [] pos) i M1 := ej_call F hr ha (Mc := []) (Mr := M1) rfl hC rfl hg hdb he hpl

/-! ### loops -/
variable {Z : Post} {body rest : List Stmt} {tg iter : Expr}
theorem sj_forL {ds : List PyData} (hc : X.calm = true) (hi : EJ X N ρ M iter (.d (.list ds)) M1) (Inv : Nat → Rho → Mem → Prop) (h0 : Inv 0 ρ M1)
    (step : ∀ n d ρ' M', ds[n]? = some d → Inv n ρ' M' → ∃ ρ2, GJ X N tg (.d d) ρ' ρ2 ∧ SJ X N ρ2 M' body { nx := Inv (n + 1), ct := Inv (n + 1), bk := fun ρ' M' => SJ X N ρ' M' rest Z, rt := Z.rt, er := Z.er })
    (done : ∀ ρ' M', Inv ds.length ρ' M' → SJ X N ρ' M' rest Z) (hp : PassesOwn (model X.prog X.w) X.A X.env X.xe := by exact PassesOwn.never) (hf : ∀ x, foldedSetIterable iter X.env x = pure x := by intro _; rfl) : SJ X N ρ M (.For tg iter body [] pos :: rest) Z := sj_cons fun σ H P hh g D E tk z => by
  refine s_of (ps_for hp hc (pi_list pe_w) pg_w pss_w hf) (hi σ H P hh g _ fun v H1 P1 e1 h1 r1 => ?_)
  obtain ⟨a, xs, rfl, x1, x2⟩ := ri_lst r1
  have xl := dnAll_len x2
  refine ⟨a, rfl, ⟨xs, .inl (.inl (h1.ex _ _ x1))⟩, for_list (xs := xs) (fun n σ' H' => ∃ ρ' M' P', Inv n ρ' M' ∧ Holds N P' H' M' ∧ Slots P' σ' ρ' ∧ Ex P1 P') ⟨ρ, M1, P1, h0, h1, g.ex e1, Ex.refl _⟩ (fun n σ' H' _ hw => ?_) (fun n x σ' H' hx hw => ?_) (fun σ' H' hw => ?_)⟩
  · obtain ⟨ρ', M', P', _, h2, _, e2⟩ := hw
    exact .inl (.inl (h2.ex _ _ (e2 _ _ x1)))
  · obtain ⟨ρ', M', P', w, h2, g2, e2⟩ := hw
    have nl : n < ds.length := xl ▸ (List.getElem?_eq_some_iff.mp hx).1
    obtain ⟨v', ev, dv⟩ := dnAll_get x2 (List.getElem?_eq_getElem nl)
    rw [hx] at ev
    cases Option.some.inj ev
    obtain ⟨ρ2, G, S⟩ := step n _ ρ' M' (List.getElem?_eq_getElem nl) w
    refine G x σ' H' P' M' h2 g2 (dn_ex e2 _ _ dv) _ fun σ2 g3 => ?_
    refine S σ2 H' P' h2 g3 _ E tk ⟨fun ρ4 M4 σ4 H4 P4 a e h g => ⟨ρ4, M4, P4, a, h, g, e2.trans e⟩, fun i M4 v H4 P4 a e h r => z.rt i M4 v H4 P4 a ((e1.trans e2).trans e) h r, fun ρ4 M4 σ4 H4 P4 a e h g => z.nx ρ4 M4 σ4 H4 P4 a ((e1.trans e2).trans e) h g, fun ρ4 M4 σ4 H4 P4 a e h g => ⟨ρ4, M4, P4, a, h, g, e2.trans e⟩, fun w M4 d H4 P4 C c a e h x => z.er w M4 d H4 P4 C c a ((e1.trans e2).trans e) h x⟩
  · obtain ⟨ρ', M', P', w, h2, g2, e2⟩ := hw
    rw [xl] at w
    exact z.nx ρ' M' σ' H' P' (done ρ' M' w) (e1.trans e2) h2 g2
theorem sj_forT {ds : List PyData} (hc : X.calm = true) (hi : EJ X N ρ M iter (.d (.tuple ds)) M1) (Inv : Nat → Rho → Mem → Prop) (h0 : Inv 0 ρ M1)
    (step : ∀ n d ρ' M', ds[n]? = some d → Inv n ρ' M' → ∃ ρ2, GJ X N tg (.d d) ρ' ρ2 ∧ SJ X N ρ2 M' body { nx := Inv (n + 1), ct := Inv (n + 1), bk := fun ρ' M' => SJ X N ρ' M' rest Z, rt := Z.rt, er := Z.er })
    (done : ∀ ρ' M', Inv ds.length ρ' M' → SJ X N ρ' M' rest Z) (hp : PassesOwn (model X.prog X.w) X.A X.env X.xe := by exact PassesOwn.never) (hf : ∀ x, foldedSetIterable iter X.env x = pure x := by intro _; rfl) : SJ X N ρ M (.For tg iter body [] pos :: rest) Z := sj_cons fun σ H P hh g D E tk z => by
  refine s_of (ps_for hp hc (pi_tup pe_w) pg_w pss_w hf) (hi σ H P hh g _ fun v H1 P1 e1 h1 r1 => ?_)
  obtain ⟨a, xs, rfl, x1, x2⟩ := ri_tup r1
  have xl := dnAll_len x2
  refine ⟨a, rfl, ⟨xs, .inl (.inl (h1.ex _ _ x1))⟩, for_tup (xs := xs) (fun n σ' H' => ∃ ρ' M' P', Inv n ρ' M' ∧ Holds N P' H' M' ∧ Slots P' σ' ρ' ∧ Ex P1 P') ⟨ρ, M1, P1, h0, h1, g.ex e1, Ex.refl _⟩ (fun n σ' H' _ hw => ?_) (fun n x σ' H' hx hw => ?_) (fun σ' H' hw => ?_)⟩
  · obtain ⟨ρ', M', P', _, h2, _, e2⟩ := hw
    exact .inl (.inl (h2.ex _ _ (e2 _ _ x1)))
  · obtain ⟨ρ', M', P', w, h2, g2, e2⟩ := hw
    have nl : n < ds.length := xl ▸ (List.getElem?_eq_some_iff.mp hx).1
    obtain ⟨v', ev, dv⟩ := dnAll_get x2 (List.getElem?_eq_getElem nl)
    rw [hx] at ev
    cases Option.some.inj ev
    obtain ⟨ρ2, G, S⟩ := step n _ ρ' M' (List.getElem?_eq_getElem nl) w
    refine G x σ' H' P' M' h2 g2 (dn_ex e2 _ _ dv) _ fun σ2 g3 => ?_
    refine S σ2 H' P' h2 g3 _ E tk ⟨fun ρ4 M4 σ4 H4 P4 a e h g => ⟨ρ4, M4, P4, a, h, g, e2.trans e⟩, fun i M4 v H4 P4 a e h r => z.rt i M4 v H4 P4 a ((e1.trans e2).trans e) h r, fun ρ4 M4 σ4 H4 P4 a e h g => z.nx ρ4 M4 σ4 H4 P4 a ((e1.trans e2).trans e) h g, fun ρ4 M4 σ4 H4 P4 a e h g => ⟨ρ4, M4, P4, a, h, g, e2.trans e⟩, fun w M4 d H4 P4 C c a e h x => z.er w M4 d H4 P4 C c a ((e1.trans e2).trans e) h x⟩
  · obtain ⟨ρ', M', P', w, h2, g2, e2⟩ := hw
    rw [xl] at w
    exact z.nx ρ' M' σ' H' P' (done ρ' M' w) (e1.trans e2) h2 g2
/-- for x in range(n) -/
theorem sj_forR {p rp : Pos} {m : Int} (hc : X.calm = true) (hmr : X.mg "range" = none) (hi : EJ X N ρ M a (dI m) M1) (hb : -(2 ^ 62) ≤ m ∧ m < 2 ^ 62) (Inv : Nat → Rho → Mem → Prop) (h0 : Inv 0 ρ M1)
    (step : ∀ n ρ' M', n < m.toNat → Inv n ρ' M' → ∃ ρ2, GJ X N tg (dI (n : Int)) ρ' ρ2 ∧ SJ X N ρ2 M' body { nx := Inv (n + 1), ct := Inv (n + 1), bk := fun ρ' M' => SJ X N ρ' M' rest Z, rt := Z.rt, er := Z.er })
    (done : ∀ ρ' M', Inv m.toNat ρ' M' → SJ X N ρ' M' rest Z) (hp : PassesOwn (model X.prog X.w) X.A X.env X.xe := by exact PassesOwn.never) (hg : Gl X "range" := by rfl) (hs : starEach [a] X.env = [(false, eval a X.env)] := by rfl)
    (hf : ∀ x, foldedSetIterable (.Call (.Name "range" p) [a] [] rp) X.env x = pure x := by intro _; rfl) : SJ X N ρ M (.For tg (.Call (.Name "range" p) [a] [] rp) body [] pos :: rest) Z := sj_cons fun σ H P hh g D E tk z => by
  refine s_of (ps_for hp hc (pi_range1 hg hmr pa_w hs) pg_w pss_w hf) (aj_cons hi aj_nil hs σ H P hh g _ fun vs H1 P1 e1 h1 r1 => ?_)
  obtain ⟨x, rfl, r2⟩ := ri1 r1
  cases ri_int r2
  refine ⟨m, rfl, hb.1, hb.2, for_range (lo := 0) (n := m.toNat) (fun n σ' H' => ∃ ρ' M' P', Inv n ρ' M' ∧ Holds N P' H' M' ∧ Slots P' σ' ρ' ∧ Ex P1 P') ⟨ρ, M1, P1, h0, h1, g.ex e1, Ex.refl _⟩ (fun n σ' H' hn hw => ?_) (fun σ' H' hw => ?_)⟩
  · obtain ⟨ρ', M', P', w, h2, g2, e2⟩ := hw
    obtain ⟨ρ2, G, S⟩ := step n ρ' M' hn w
    refine G _ σ' H' P' M' h2 g2 (by rw [Int.zero_add]; exact .int _) _ fun σ2 g3 => ?_
    refine S σ2 H' P' h2 g3 _ E tk ⟨fun ρ4 M4 σ4 H4 P4 a e h g => ⟨ρ4, M4, P4, a, h, g, e2.trans e⟩, fun i M4 v H4 P4 a e h r => z.rt i M4 v H4 P4 a ((e1.trans e2).trans e) h r, fun ρ4 M4 σ4 H4 P4 a e h g => z.nx ρ4 M4 σ4 H4 P4 a ((e1.trans e2).trans e) h g, fun ρ4 M4 σ4 H4 P4 a e h g => ⟨ρ4, M4, P4, a, h, g, e2.trans e⟩, fun w M4 d H4 P4 C c a e h x => z.er w M4 d H4 P4 C c a ((e1.trans e2).trans e) h x⟩
  · obtain ⟨ρ', M', P', w, h2, g2, e2⟩ := hw
    exact z.nx ρ' M' σ' H' P' (done ρ' M' w) (e1.trans e2) h2 g2
theorem sj_while (n0 : Nat) (Inv : Nat → Rho → Mem → Prop) (h0 : Inv n0 ρ M)
    (step : ∀ m ρ' M', Inv m ρ' M' → ∃ t M2, TJ X N ρ' M' c t M2 ∧ (t = true → SJ X N ρ' M2 body { nx := fun ρ2 M3 => ∃ m', m' < m ∧ Inv m' ρ2 M3, ct := fun ρ2 M3 => ∃ m', m' < m ∧ Inv m' ρ2 M3, bk := fun ρ' M' => SJ X N ρ' M' rest Z, rt := Z.rt, er := Z.er }) ∧ (t = false → SJ X N ρ' M2 rest Z))
    (hp : PassesOwn (model X.prog X.w) X.A X.env X.xe := by exact PassesOwn.never) : SJ X N ρ M (.While c body [] pos :: rest) Z := sj_cons fun σ H P hh g D E tk z => by
  refine s_of (ps_while hp pt_w pss_w) ⟨fun m σ' H' => ∃ ρ' M' P', Inv m ρ' M' ∧ Holds N P' H' M' ∧ Slots P' σ' ρ' ∧ Ex P P', ⟨n0, ρ, M, P, h0, hh, g, Ex.refl P⟩, fun m σ' H' hw => ?_⟩
  obtain ⟨ρ', M', P', w, h2, g2, e2⟩ := hw
  obtain ⟨t, M2, T, S1, S2⟩ := step m ρ' M' w
  refine T σ' H' P' h2 g2 _ fun H3 P3 e3 h3 => ?_
  cases t with
  | true =>
    refine iteT ⟨fun σ4 H4 => ∃ m', m' < m ∧ ∃ ρ' M' P', Inv m' ρ' M' ∧ Holds N P' H4 M' ∧ Slots P' σ4 ρ' ∧ Ex P P', fun σ4 H4 ⟨m', l, w'⟩ => ⟨m', l, w'⟩, ?_⟩
    refine S1 rfl σ' H3 P3 h3 (g2.ex e3) _ E tk ⟨fun ρ4 M4 σ4 H4 P4 ⟨m', l, w'⟩ e h g => ⟨m', l, ρ4, M4, P4, w', h, g, (e2.trans e3).trans e⟩, fun i M4 v H4 P4 a e h r => z.rt i M4 v H4 P4 a ((e2.trans e3).trans e) h r, fun ρ4 M4 σ4 H4 P4 a e h g => z.nx ρ4 M4 σ4 H4 P4 a ((e2.trans e3).trans e) h g, fun ρ4 M4 σ4 H4 P4 ⟨m', l, w'⟩ e h g => ⟨m', l, ρ4, M4, P4, w', h, g, (e2.trans e3).trans e⟩, fun w M4 d H4 P4 C c a e h x => z.er w M4 d H4 P4 C c a ((e2.trans e3).trans e) h x⟩
  | false => exact iteF (z.nx ρ' M2 σ' H3 P3 (S2 rfl) (e2.trans e3) h3 (g2.ex e3))

/-! ### comprehensions -/
theorem put_last {M : Mem} {D : Addr} {is js : List It} (nd : ((M ++ [(D, is)]).map Prod.fst).Nodup) : (M ++ [(D, is)]).put D js = M ++ [(D, js)] := by
  unfold Mem.put
  rw [List.map_append]
  rw [List.map_append] at nd
  congr 1
  · have : (M.map fun c => if c.1 = D then (D, js) else c) = M.map id := List.map_congr_left fun c hc => if_neg fun e => (List.nodup_append.mp nd).2.2 c.1 (List.mem_map.mpr ⟨c, hc, rfl⟩) D (by simp) e
    rw [this, List.map_id]
  · simp
abbrev Blk (X : Cx) (Y : Cx) (scope : Scope) : Prop := ∃ s H C cl fp, Y = X.blk s H scope (compEnvC scope cl C X.env) fp
def wBE (X : Cx) (scope : Scope) (e : Expr) : TE := fun σ H Q => ∀ s H0 C cl fp, wE (X.blk s H0 scope (compEnvC scope cl C X.env) fp) e σ H Q
theorem slots_comp {P : Hp} {σ : L2.St} {v : V} (g : Slots P σ ρ) (n : Nat) (r : RepI P v i) : Slots P ((wipe σ [n]).set n (some v)) (ρ.set n (some i)) := by
  show Slots P ((σ.set n none).set n (some v)) (ρ.set n (some i))
  rw [List.set_set]
  exact g.set r n
theorem wipe_comp {σ : L2.St} {v : V} (n : Nat) : wipe ((wipe σ [n]).set n (some v)) [n] = wipe σ [n] := by
  show ((σ.set n none).set n (some v)).set n none = σ.set n none
  rw [List.set_set, List.set_set]
def LJ (X : Cx) (N : Ent) (ρ : Rho) (M : Mem) (te : TE) (is : List It) (M' : Mem) : Prop :=
  ∀ σ H P, Holds N P H M → Slots P σ ρ → ∀ Q : VK, (∀ p H' P', Ex P P' → p ∉ N.F → Holds N P' H' (M' ++ [(p, is)]) → Q (.ref p) H') → te σ H Q
theorem el_lc {te : TE} {is : List It} (h : LJ X N ρ M te is M1) (pe : PE X e te) : EL X N ρ M e is M1 := fun σ H P hh g Q q => e_of pe (h σ H P hh g Q q)
theorem sj_lc (n : Nat) {te : TE} {is : List It} {st : Stmt} {Z : Post} {rest : List Stmt} (h : LJ X N ρ M te is M1) (ps : PS X st (tAsg te (gName n))) (hr : ∀ p, p ∉ N.F → SJ X N (ρ.set n (some (.v (.ref p)))) (M1 ++ [(p, is)]) rest Z) : SJ X N ρ M (st :: rest) Z := sj_cons fun σ H P hh g D E tk z =>
  s_of ps (h σ H P hh g _ fun p H1 P1 e1 hp h1 => z.nx _ _ _ _ P1 (hr p hp) e1 h1 ((g.ex e1).set (it := .v (.ref p)) rfl n))
/-- (the reading) [e for x in a list of data] -/
theorem lj_comp {elt : Expr} {scope : Scope} (n : Nat) {ds : List PyData} (A : Nat → List It) (Mi : Nat → Mem) (hc : X.calm = true) (hN : X.N.Nodup) (hi : (EJ X N ρ M iter (.d (.list ds)) M1))
    (hA0 : A 0 = []) (hM0 : Mi 0 = M1) (hz : ds.length ≤ 100000)
    (step : ∀ (m : Nat) d, ds[m]? = some d → ∃ j, A (m + 1) = A m ++ [j] ∧ (A m).length ≤ m ∧ ∀ N' s H C cl fp, EJ (X.blk s H scope (compEnvC scope cl C X.env) fp) N' (ρ.set n (some (.d d))) (Mi m) elt j (Mi (m + 1)))
    : LJ X N ρ M (tLc (iList X.K (wE X iter)) (gName n) tYes (wBE X scope elt) [n]) (A ds.length) (Mi ds.length) := fun σ H P hh g Q q => by
  refine (hi σ H P hh g _ fun v H1 P1 e1 h1 r1 => ?_)
  obtain ⟨a, xs, rfl, x1, x2⟩ := ri_lst r1
  have xl := dnAll_len x2
  refine ⟨a, rfl, ⟨xs, .inl (.inl (h1.ex _ _ x1))⟩, fun D hD => lc_list (xs := xs) (fun m H' => ∃ P', Holds N P' H' (Mi m ++ [(D, A m)]) ∧ Ex P1 P') ⟨P1, by rw [hA0, hM0]; exact h1.own hD (its := []) trivial, Ex.refl _⟩ (fun m H' _ hw => ?_) (fun m x' H' hx hw => ?_) (fun H' hw => ?_)⟩
  · obtain ⟨P', h2, e2⟩ := hw
    exact .inl (.inl (h2.ex _ _ (e2 _ _ x1)))
  · obtain ⟨P', h2, e2⟩ := hw
    have nl : m < ds.length := xl ▸ (List.getElem?_eq_some_iff.mp hx).1
    obtain ⟨v', ev, dv⟩ := dnAll_get x2 (List.getElem?_eq_getElem nl)
    rw [hx] at ev
    cases Option.some.inj ev
    obtain ⟨j, eA, lA, S⟩ := step m _ (List.getElem?_eq_getElem nl)
    refine ⟨wipe_comp n, ?_⟩
    unfold tYes
    dsimp only
    rw [if_pos rfl]
    intro s H0 C cl fp
    refine S (inner P' H' (Mi m)) s H0 C cl fp _ H' P' h2.enter (slots_comp (g.ex (e1.trans e2)) n (dn_ex e2 _ _ dv)) _ fun y H4 P4 e4 h4 r4 => ?_
    have h5 := h2.leave h4
    obtain ⟨acc, ea, ra⟩ := h5.cell (a := D) (its := A m) (List.mem_append_right _ (List.mem_singleton.mpr rfl))
    refine ⟨acc, ea, by rw [ra.len]; exact Nat.lt_of_lt_of_le (Nat.lt_of_le_of_lt lA (Nat.lt_of_lt_of_le nl hz)) (by decide), P4, ?_, e2.trans e4⟩
    have h6 := h5.write (a := D) (its := A m) (its' := A (m + 1)) (List.mem_append_right _ (List.mem_singleton.mpr rfl)) (xs' := acc ++ [y]) (by rw [eA]; exact ra.app ⟨r4, trivial⟩)
    rw [put_last h5.nd] at h6
    exact h6
  · obtain ⟨P', h2, e2⟩ := hw
    rw [xl] at h2
    exact q D H' P' (e1.trans e2) (h1.newF hD) h2
/-- [e for x in a list of data] -/
theorem el_comp {elt : Expr} {x : Str} {p : Pos} {scope : Scope} (n : Nat) {ds : List PyData} (A : Nat → List It) (Mi : Nat → Mem) (hc : X.calm = true) (hN : X.N.Nodup) (hi : (EJ X N ρ M iter (.d (.list ds)) M1))
    (hA0 : A 0 = []) (hM0 : Mi 0 = M1) (hz : ds.length ≤ 100000)
    (step : ∀ (m : Nat) d, ds[m]? = some d → ∃ j, A (m + 1) = A m ++ [j] ∧ (A m).length ≤ m ∧ ∀ N' s H C cl fp, EJ (X.blk s H scope (compEnvC scope cl C X.env) fp) N' (ρ.set n (some (.d d))) (Mi m) elt j (Mi (m + 1)))
    (ok : BlkOk X.N X.env.scope scope [(x, n)] := by exact blkOk_by (by kernel_rfl))
    (hgn : ∀ (s : Shared) (H : Hp) (C : Addr) (cl : List (Str × Addr)) (fp : List Addr), PG (X.blk s H scope (compEnvC scope cl C X.env) fp) (.Name x p) (gName n) := by exact fun _ _ _ _ _ => pg_name (by assumption) rfl (Or.inl rfl))
    (hf : ∀ x, foldedSetIterable iter X.env x = pure x := by intro _; rfl) : EL X N ρ M (.ListComp elt [⟨.Name x p, iter, [], 0⟩] scope pos) (A ds.length) (Mi ds.length) :=
  el_lc (lj_comp n A Mi hc hN hi hA0 hM0 hz step) (pe_lc hc hN (pi_list pe_w) ok hgn (fun _ _ _ _ _ => pts_nil) (te := wBE X scope elt) (fun s H C cl fp => ⟨fun pins s1 σ1 H1 Q1 I1 h1 => h1 s H C cl fp pins s1 I1⟩) hf)
theorem sj_setcomp (n' : Nat) {y : Str} {py spos : Pos} {Z : Post} {rest : List Stmt} {elt : Expr} {x : Str} {p : Pos} {scope : Scope} (n : Nat) {ds : List PyData} (A : Nat → List It) (Mi : Nat → Mem) (hc : X.calm = true) (hN : X.N.Nodup) (hi : (EJ X N ρ M iter (.d (.list ds)) M1))
    (hA0 : A 0 = []) (hM0 : Mi 0 = M1) (hz : ds.length ≤ 100000)
    (step : ∀ (m : Nat) d, ds[m]? = some d → ∃ j, A (m + 1) = A m ++ [j] ∧ (A m).length ≤ m ∧ ∀ N' s H C cl fp, EJ (X.blk s H scope (compEnvC scope cl C X.env) fp) N' (ρ.set n (some (.d d))) (Mi m) elt j (Mi (m + 1)))
    (hr : ∀ p, p ∉ N.F → SJ X N (ρ.set n' (some (.v (.ref p)))) (Mi ds.length ++ [(p, A ds.length)]) rest Z)
    (hy : X.N[n']? = some y := by rfl) (hyl : X.env.scope.names.lookup y = some .local := by rfl)
    (hsw : swapsWith (.ListComp elt [⟨.Name x p, iter, [], 0⟩] scope pos) (some (.Name y py)) spos.line X.env = pure true := by exact sw_true rfl rfl rfl (by kernel_rfl))
    (ok : BlkOk X.N X.env.scope scope [(x, n)] := by exact blkOk_by (by kernel_rfl))
    (hgn : ∀ (s : Shared) (H : Hp) (C : Addr) (cl : List (Str × Addr)) (fp : List Addr), PG (X.blk s H scope (compEnvC scope cl C X.env) fp) (.Name x p) (gName n) := by exact fun _ _ _ _ _ => pg_name (by assumption) rfl (Or.inl rfl))
    (hf : ∀ x, foldedSetIterable iter X.env x = pure x := by intro _; rfl) : SJ X N ρ M (.Assign [.Name y py] (.ListComp elt [⟨.Name x p, iter, [], 0⟩] scope pos) spos :: rest) Z :=
  sj_lc n' (lj_comp n A Mi hc hN hi hA0 hM0 hz step) (ps_setLc (i := n') (y := y) (py := py) (spos := spos) hc hN hy hyl hsw (pi_list pe_w) ok hgn (fun _ _ _ _ _ => pts_nil) (te := wBE X scope elt) (fun s H C cl fp => ⟨fun pins s1 σ1 H1 Q1 I1 h1 => h1 s H C cl fp pins s1 I1⟩) hf) hr
/-- (the reading) [e for x in a tuple of data] -/
theorem lj_compT {elt : Expr} {scope : Scope} (n : Nat) {ds : List PyData} (A : Nat → List It) (Mi : Nat → Mem) (hc : X.calm = true) (hN : X.N.Nodup) (hi : (EJ X N ρ M iter (.d (.tuple ds)) M1))
    (hA0 : A 0 = []) (hM0 : Mi 0 = M1) (hz : ds.length ≤ 100000)
    (step : ∀ (m : Nat) d, ds[m]? = some d → ∃ j, A (m + 1) = A m ++ [j] ∧ (A m).length ≤ m ∧ ∀ N' s H C cl fp, EJ (X.blk s H scope (compEnvC scope cl C X.env) fp) N' (ρ.set n (some (.d d))) (Mi m) elt j (Mi (m + 1)))
    : LJ X N ρ M (tLc (iTup X.K (wE X iter)) (gName n) tYes (wBE X scope elt) [n]) (A ds.length) (Mi ds.length) := fun σ H P hh g Q q => by
  refine (hi σ H P hh g _ fun v H1 P1 e1 h1 r1 => ?_)
  obtain ⟨a, xs, rfl, x1, x2⟩ := ri_tup r1
  have xl := dnAll_len x2
  refine ⟨a, rfl, ⟨xs, .inl (.inl (h1.ex _ _ x1))⟩, fun D hD => lc_tup (xs := xs) (fun m H' => ∃ P', Holds N P' H' (Mi m ++ [(D, A m)]) ∧ Ex P1 P') ⟨P1, by rw [hA0, hM0]; exact h1.own hD (its := []) trivial, Ex.refl _⟩ (fun m H' _ hw => ?_) (fun m x' H' hx hw => ?_) (fun H' hw => ?_)⟩
  · obtain ⟨P', h2, e2⟩ := hw
    exact .inl (.inl (h2.ex _ _ (e2 _ _ x1)))
  · obtain ⟨P', h2, e2⟩ := hw
    have nl : m < ds.length := xl ▸ (List.getElem?_eq_some_iff.mp hx).1
    obtain ⟨v', ev, dv⟩ := dnAll_get x2 (List.getElem?_eq_getElem nl)
    rw [hx] at ev
    cases Option.some.inj ev
    obtain ⟨j, eA, lA, S⟩ := step m _ (List.getElem?_eq_getElem nl)
    refine ⟨wipe_comp n, ?_⟩
    unfold tYes
    dsimp only
    rw [if_pos rfl]
    intro s H0 C cl fp
    refine S (inner P' H' (Mi m)) s H0 C cl fp _ H' P' h2.enter (slots_comp (g.ex (e1.trans e2)) n (dn_ex e2 _ _ dv)) _ fun y H4 P4 e4 h4 r4 => ?_
    have h5 := h2.leave h4
    obtain ⟨acc, ea, ra⟩ := h5.cell (a := D) (its := A m) (List.mem_append_right _ (List.mem_singleton.mpr rfl))
    refine ⟨acc, ea, by rw [ra.len]; exact Nat.lt_of_lt_of_le (Nat.lt_of_le_of_lt lA (Nat.lt_of_lt_of_le nl hz)) (by decide), P4, ?_, e2.trans e4⟩
    have h6 := h5.write (a := D) (its := A m) (its' := A (m + 1)) (List.mem_append_right _ (List.mem_singleton.mpr rfl)) (xs' := acc ++ [y]) (by rw [eA]; exact ra.app ⟨r4, trivial⟩)
    rw [put_last h5.nd] at h6
    exact h6
  · obtain ⟨P', h2, e2⟩ := hw
    rw [xl] at h2
    exact q D H' P' (e1.trans e2) (h1.newF hD) h2
/-- [e for x in a tuple of data] -/
theorem el_compT {elt : Expr} {x : Str} {p : Pos} {scope : Scope} (n : Nat) {ds : List PyData} (A : Nat → List It) (Mi : Nat → Mem) (hc : X.calm = true) (hN : X.N.Nodup) (hi : (EJ X N ρ M iter (.d (.tuple ds)) M1))
    (hA0 : A 0 = []) (hM0 : Mi 0 = M1) (hz : ds.length ≤ 100000)
    (step : ∀ (m : Nat) d, ds[m]? = some d → ∃ j, A (m + 1) = A m ++ [j] ∧ (A m).length ≤ m ∧ ∀ N' s H C cl fp, EJ (X.blk s H scope (compEnvC scope cl C X.env) fp) N' (ρ.set n (some (.d d))) (Mi m) elt j (Mi (m + 1)))
    (ok : BlkOk X.N X.env.scope scope [(x, n)] := by exact blkOk_by (by kernel_rfl))
    (hgn : ∀ (s : Shared) (H : Hp) (C : Addr) (cl : List (Str × Addr)) (fp : List Addr), PG (X.blk s H scope (compEnvC scope cl C X.env) fp) (.Name x p) (gName n) := by exact fun _ _ _ _ _ => pg_name (by assumption) rfl (Or.inl rfl))
    (hf : ∀ x, foldedSetIterable iter X.env x = pure x := by intro _; rfl) : EL X N ρ M (.ListComp elt [⟨.Name x p, iter, [], 0⟩] scope pos) (A ds.length) (Mi ds.length) :=
  el_lc (lj_compT n A Mi hc hN hi hA0 hM0 hz step) (pe_lc hc hN (pi_tup pe_w) ok hgn (fun _ _ _ _ _ => pts_nil) (te := wBE X scope elt) (fun s H C cl fp => ⟨fun pins s1 σ1 H1 Q1 I1 h1 => h1 s H C cl fp pins s1 I1⟩) hf)
theorem sj_setcompT (n' : Nat) {y : Str} {py spos : Pos} {Z : Post} {rest : List Stmt} {elt : Expr} {x : Str} {p : Pos} {scope : Scope} (n : Nat) {ds : List PyData} (A : Nat → List It) (Mi : Nat → Mem) (hc : X.calm = true) (hN : X.N.Nodup) (hi : (EJ X N ρ M iter (.d (.tuple ds)) M1))
    (hA0 : A 0 = []) (hM0 : Mi 0 = M1) (hz : ds.length ≤ 100000)
    (step : ∀ (m : Nat) d, ds[m]? = some d → ∃ j, A (m + 1) = A m ++ [j] ∧ (A m).length ≤ m ∧ ∀ N' s H C cl fp, EJ (X.blk s H scope (compEnvC scope cl C X.env) fp) N' (ρ.set n (some (.d d))) (Mi m) elt j (Mi (m + 1)))
    (hr : ∀ p, p ∉ N.F → SJ X N (ρ.set n' (some (.v (.ref p)))) (Mi ds.length ++ [(p, A ds.length)]) rest Z)
    (hy : X.N[n']? = some y := by rfl) (hyl : X.env.scope.names.lookup y = some .local := by rfl)
    (hsw : swapsWith (.ListComp elt [⟨.Name x p, iter, [], 0⟩] scope pos) (some (.Name y py)) spos.line X.env = pure true := by exact sw_true rfl rfl rfl (by kernel_rfl))
    (ok : BlkOk X.N X.env.scope scope [(x, n)] := by exact blkOk_by (by kernel_rfl))
    (hgn : ∀ (s : Shared) (H : Hp) (C : Addr) (cl : List (Str × Addr)) (fp : List Addr), PG (X.blk s H scope (compEnvC scope cl C X.env) fp) (.Name x p) (gName n) := by exact fun _ _ _ _ _ => pg_name (by assumption) rfl (Or.inl rfl))
    (hf : ∀ x, foldedSetIterable iter X.env x = pure x := by intro _; rfl) : SJ X N ρ M (.Assign [.Name y py] (.ListComp elt [⟨.Name x p, iter, [], 0⟩] scope pos) spos :: rest) Z :=
  sj_lc n' (lj_compT n A Mi hc hN hi hA0 hM0 hz step) (ps_setLc (i := n') (y := y) (py := py) (spos := spos) hc hN hy hyl hsw (pi_tup pe_w) ok hgn (fun _ _ _ _ _ => pts_nil) (te := wBE X scope elt) (fun s H C cl fp => ⟨fun pins s1 σ1 H1 Q1 I1 h1 => h1 s H C cl fp pins s1 I1⟩) hf) hr
/-- (the reading) [e for x in range(n)] -/
theorem lj_compR {elt : Expr} {scope : Scope} (n : Nat) {z : Int} (A : Nat → List It) (Mi : Nat → Mem) (hc : X.calm = true) (hmr : X.mg "range" = none) (hN : X.N.Nodup) (hi : EJ X N ρ M a (dI z) M1)
    (hA0 : A 0 = []) (hM0 : Mi 0 = M1) (hz : z ≤ 100000 ∧ -(2 ^ 62) ≤ z)
    (step : ∀ (m : Nat), m < z.toNat → ∃ j, A (m + 1) = A m ++ [j] ∧ (A m).length ≤ m ∧ ∀ N' s H C cl fp, EJ (X.blk s H scope (compEnvC scope cl C X.env) fp) N' (ρ.set n (some (dI (m : Int)))) (Mi m) elt j (Mi (m + 1)))
    (hs : starEach [a] X.env = [(false, eval a X.env)] := by rfl)
    : LJ X N ρ M (tLc (iRng1 (wA X [a])) (gName n) tYes (wBE X scope elt) [n]) (A z.toNat) (Mi z.toNat) := fun σ H P hh g Q q => by
  refine (aj_cons hi aj_nil hs σ H P hh g _ fun vs H1 P1 e1 h1 r1 => ?_)
  obtain ⟨x', rfl, r2⟩ := ri1 r1
  cases ri_int r2
  refine ⟨z, rfl, hz.2, by omega, fun D hD => lc_range (lo := 0) (n := z.toNat) (fun m H' => ∃ P', Holds N P' H' (Mi m ++ [(D, A m)]) ∧ Ex P1 P') ⟨P1, by rw [hA0, hM0]; exact h1.own hD (its := []) trivial, Ex.refl _⟩ (fun m H' nl hw => ?_) (fun H' hw => ?_)⟩
  · obtain ⟨P', h2, e2⟩ := hw
    obtain ⟨j, eA, lA, S⟩ := step m nl
    refine ⟨wipe_comp n, ?_⟩
    unfold tYes
    dsimp only
    rw [if_pos rfl]
    intro s H0 C cl fp
    refine S (inner P' H' (Mi m)) s H0 C cl fp _ H' P' h2.enter (slots_comp (g.ex (e1.trans e2)) n (by rw [Int.zero_add]; exact .int _)) _ fun y H4 P4 e4 h4 r4 => ?_
    have h5 := h2.leave h4
    obtain ⟨acc, ea, ra⟩ := h5.cell (a := D) (its := A m) (List.mem_append_right _ (List.mem_singleton.mpr rfl))
    refine ⟨acc, ea, by rw [ra.len]; exact Nat.lt_of_lt_of_le (Nat.lt_of_le_of_lt lA (by omega : m < 100000)) (by decide), P4, ?_, e2.trans e4⟩
    have h6 := h5.write (a := D) (its := A m) (its' := A (m + 1)) (List.mem_append_right _ (List.mem_singleton.mpr rfl)) (xs' := acc ++ [y]) (by rw [eA]; exact ra.app ⟨r4, trivial⟩)
    rw [put_last h5.nd] at h6
    exact h6
  · obtain ⟨P', h2, e2⟩ := hw
    exact q D H' P' (e1.trans e2) (h1.newF hD) h2
/-- [e for x in range(n)] -/
theorem el_compR {elt : Expr} {x : Str} {p rpp rp : Pos} {scope : Scope} (n : Nat) {z : Int} (A : Nat → List It) (Mi : Nat → Mem) (hc : X.calm = true) (hmr : X.mg "range" = none) (hN : X.N.Nodup) (hi : EJ X N ρ M a (dI z) M1)
    (hA0 : A 0 = []) (hM0 : Mi 0 = M1) (hz : z ≤ 100000 ∧ -(2 ^ 62) ≤ z)
    (step : ∀ (m : Nat), m < z.toNat → ∃ j, A (m + 1) = A m ++ [j] ∧ (A m).length ≤ m ∧ ∀ N' s H C cl fp, EJ (X.blk s H scope (compEnvC scope cl C X.env) fp) N' (ρ.set n (some (dI (m : Int)))) (Mi m) elt j (Mi (m + 1)))
    (ok : BlkOk X.N X.env.scope scope [(x, n)] := by exact blkOk_by (by kernel_rfl))
    (hgn : ∀ (s : Shared) (H : Hp) (C : Addr) (cl : List (Str × Addr)) (fp : List Addr), PG (X.blk s H scope (compEnvC scope cl C X.env) fp) (.Name x p) (gName n) := by exact fun _ _ _ _ _ => pg_name (by assumption) rfl (Or.inl rfl))
    (hg : Gl X "range" := by rfl) (hs : starEach [a] X.env = [(false, eval a X.env)] := by rfl)
    (hf : ∀ x, foldedSetIterable (.Call (.Name "range" rpp) [a] [] rp) X.env x = pure x := by intro _; rfl) : EL X N ρ M (.ListComp elt [⟨.Name x p, .Call (.Name "range" rpp) [a] [] rp, [], 0⟩] scope pos) (A z.toNat) (Mi z.toNat) :=
  el_lc (lj_compR n A Mi hc hmr hN hi hA0 hM0 hz step hs) (pe_lc hc hN (pi_range1 hg hmr pa_w hs) ok hgn (fun _ _ _ _ _ => pts_nil) (te := wBE X scope elt) (fun s H C cl fp => ⟨fun pins s1 σ1 H1 Q1 I1 h1 => h1 s H C cl fp pins s1 I1⟩) hf)
theorem sj_setcompR (n' : Nat) {y : Str} {py spos : Pos} {Z : Post} {rest : List Stmt} {elt : Expr} {x : Str} {p rpp rp : Pos} {scope : Scope} (n : Nat) {z : Int} (A : Nat → List It) (Mi : Nat → Mem) (hc : X.calm = true) (hmr : X.mg "range" = none) (hN : X.N.Nodup) (hi : EJ X N ρ M a (dI z) M1)
    (hA0 : A 0 = []) (hM0 : Mi 0 = M1) (hz : z ≤ 100000 ∧ -(2 ^ 62) ≤ z)
    (step : ∀ (m : Nat), m < z.toNat → ∃ j, A (m + 1) = A m ++ [j] ∧ (A m).length ≤ m ∧ ∀ N' s H C cl fp, EJ (X.blk s H scope (compEnvC scope cl C X.env) fp) N' (ρ.set n (some (dI (m : Int)))) (Mi m) elt j (Mi (m + 1)))
    (hr : ∀ p, p ∉ N.F → SJ X N (ρ.set n' (some (.v (.ref p)))) (Mi z.toNat ++ [(p, A z.toNat)]) rest Z)
    (hy : X.N[n']? = some y := by rfl) (hyl : X.env.scope.names.lookup y = some .local := by rfl)
    (hsw : swapsWith (.ListComp elt [⟨.Name x p, .Call (.Name "range" rpp) [a] [] rp, [], 0⟩] scope pos) (some (.Name y py)) spos.line X.env = pure true := by exact sw_true rfl rfl rfl (by kernel_rfl))
    (ok : BlkOk X.N X.env.scope scope [(x, n)] := by exact blkOk_by (by kernel_rfl))
    (hgn : ∀ (s : Shared) (H : Hp) (C : Addr) (cl : List (Str × Addr)) (fp : List Addr), PG (X.blk s H scope (compEnvC scope cl C X.env) fp) (.Name x p) (gName n) := by exact fun _ _ _ _ _ => pg_name (by assumption) rfl (Or.inl rfl))
    (hg : Gl X "range" := by rfl) (hs : starEach [a] X.env = [(false, eval a X.env)] := by rfl)
    (hf : ∀ x, foldedSetIterable (.Call (.Name "range" rpp) [a] [] rp) X.env x = pure x := by intro _; rfl) : SJ X N ρ M (.Assign [.Name y py] (.ListComp elt [⟨.Name x p, .Call (.Name "range" rpp) [a] [] rp, [], 0⟩] scope pos) spos :: rest) Z :=
  sj_lc n' (lj_compR n A Mi hc hmr hN hi hA0 hM0 hz step hs) (ps_setLc (i := n') (y := y) (py := py) (spos := spos) hc hN hy hyl hsw (pi_range1 hg hmr pa_w hs) ok hgn (fun _ _ _ _ _ => pts_nil) (te := wBE X scope elt) (fun s H C cl fp => ⟨fun pins s1 σ1 H1 Q1 I1 h1 => h1 s H C cl fp pins s1 I1⟩) hf) hr

/-! ### a def keeps its contract -/
theorem slots_start {P : Hp} {vs : List V} {is : List It} (n : Nat) (r : RepIs P vs is) : Slots P (vs.map some ++ List.replicate n none) (is.map some ++ List.replicate n none) := by
  refine ⟨by simp [r.len], fun k it q => ?_⟩
  by_cases l : k < is.length
  · rw [List.getElem?_append_left (by simpa using l), List.getElem?_map] at q
    cases e : is[k]? with
    | none => rw [e] at q; cases q
    | some i =>
      rw [e] at q
      cases Option.some.inj (Option.some.inj q)
      obtain ⟨v, e1, e2⟩ := r.get e
      refine ⟨v, ?_, e2⟩
      rw [List.getElem?_append_left (by simpa [r.len] using l), List.getElem?_map, e1]
      rfl
  · rw [List.getElem?_append_right (by simpa using Nat.le_of_not_lt l), List.getElem?_replicate] at q
    split at q
    · cases q
    · cases q
def rho (N : List Str) (is : List It) : Rho := is.map some ++ List.replicate (N.length - is.length) none
def retZ (i : It) (M' : Mem) : Post := { nx := fun _ M'' => i = .d .none ∧ ∃ L, M'' = M' ++ L, rt := fun i' M'' => i' = i ∧ ∃ L, M'' = M' ++ L }
theorem def_ok {P : Program} {w : World} {K : PySem.W.Frag} {mg : Str → Option Value} {base : Heap} {x qual : Str} {st : Stmt} {f : Addr} {fd : FuncData} {NN ps : List Str} {l : Nat} {C : Co} (F : Fun K x qual st f fd) (S : FnScope NN ps (defScope st))
    (hm : mg x = some (.ref f)) (hb : Binds K fd ps []) (len : ∀ is M i M', C is M i M' → is.length = ps.length ∧ M'.map Prod.fst = M.map Prod.fst)
    (body : ∀ X : Cx, (∃ cdv A outer s H E, X = (cxOf CX0 P w K mg base NN qual (defScope st) f cdv A outer s H E).nox ∧ Room l X.A) → ∀ N is M i M', N.F = M.map Prod.fst → C is M i M' → SJ X N (rho NN is) M (defBody st) (retZ i M')) : Def P w K mg base x (l + 1) C := by
  refine ⟨f, fd, ps, F.ok S (fun vs H Q E h => ?_) (fun cdv A outer s H vs Q E hr h => ?_), hm, F.kp, hb⟩
  · obtain ⟨P0, is, M, i, M', _, r, hC, _⟩ := h
    rw [r.len]
    exact (len _ _ _ _ hC).1
  · obtain ⟨P0, is, M, i, M', h0, r, hC, q⟩ := h
    have back : ∀ {P' H' M'' L}, M'' = M' ++ L → Holds (inner P0 H M) P' H' M'' → Holds (inner P0 H M) P' H' M' := fun {P' H' M'' L} e hh => by
      subst e
      refine hh.sub (fun c hc => List.mem_append_left _ hc) ?_ fun a ha => ?_
      · have := hh.nd
        rw [List.map_append] at this
        exact (List.nodup_append.mp this).1
      · rw [(len _ _ _ _ hC).2]
        exact ha
    refine ⟨_, pss_w, ?_⟩
    have es : L2.start NN vs = vs.map some ++ List.replicate (NN.length - is.length) none := by
      unfold L2.start
      rw [r.len]
    rw [es]
    refine body _ ⟨cdv, A, outer, s, H, E, rfl, hr⟩ (inner P0 H M) is M i M' rfl hC _ H P0 h0 (slots_start _ r) _ E0 takes0 ⟨fun ρ' M'' σ' H' P' a e hh g => ?_, fun i' M'' v H' P' a e hh rr => ?_, fun _ _ _ _ _ a => a.elim, fun _ _ _ _ _ a => a.elim, fun _ _ _ _ _ _ _ a => a.elim⟩
    · obtain ⟨rfl, L, eL⟩ := a
      exact q _ H' P' (back eL hh) .non
    · obtain ⟨rfl, L, eL⟩ := a
      exact q _ H' P' (back eL hh) rr
end
end Kt

/-! Kt5: the program's own error with a name: made, raised, caught, read. -/
namespace Kt
open PySem PySem.Spec PyProof.Rows L2
section
variable {X : Cx} {e : Expr} {es : List Expr} {ta : TA} {p p1 p2 pos : Pos}
/-- Base.__init__(self, ..), Base an own class over ValueError without an __init__ of its own -/
theorem pe_hinit {x : Str} {C0 : Addr} {pl : Sem Bool} (hg : Gl X x) (hm : X.mg x = some (.ref C0)) (sp : PySem.W.specialIn X.K (.ref C0) "__getattribute__" = some (some (.builtin "type.__getattribute__"))) (hr : PySem.W.readsIn X.K C0 (.type "type") = true)
    (vV : PySem.W.findCls X.K (.ref C0) (.type "type") "__init__" = some (.val (.builtin "ValueError.__init__"))) (ha : PA X (e :: es) ta)
    (hd : (x == ("__debug__" : Str)) = false := by decide)
    (hc : eval (.Call (.Attribute (.Name x p1) "__init__" p2) (e :: es) [] pos) X.env = (do
      let ov ← eval (.Name x p1) X.env
      standAt p2.atName
      let (f, first) ← holding [ov] (getMethod ov "__init__" pl)
      callWith pos f first (backTo pos (starEach (e :: es) X.env)) (backToKw pos (keywordEach [] X.env))) := by rfl)
    (he : starEach (e :: es) X.env = (false, eval e X.env) :: starEach es X.env := by rfl) (hpl : (backTo pos (starEach es X.env)).any (·.1) = false := by rfl) :
    PE X (.Call (.Attribute (.Name x p1) "__init__" p2) (e :: es) [] pos) (tVeI X.K ta) := by
  refine ⟨fun pins s σ H Q I h => ?_⟩
  refine PySem.W.methodCall_KW (ld_glob I hg hm ?_ hd) hc
  refine PySem.W.method_cls I.kIn sp ?_
  refine PySem.W.cls_value I.kIn hr vV (by decide +kernel) ?_
  show wpAny _ _ (callWith pos (Value.builtin "ValueError.__init__") [] (backTo pos (starEach (e :: es) X.env)) []) _ _ _
  refine PyProof.Rows.callWith_method1 (thn (ha.run pos pins _ σ H _ (I.tok _) h) fun us s1 ⟨vs, H1, I1, r1, a, C, ws, ev, hl, T, ea, q⟩ => ?_) he hpl
  subst ev
  cases r1 with
  | @cons _ u0 _ ur ra rw' =>
    obtain rfl : u0 = Value.ref a := ra
    have hlen : ur.length ≤ sizeLine := by
      rw [← Paired.length rw', sizeLine_eq]
      omega
    exact oinit_ok T I1 ea hlen fun s' J => ⟨.non, H1, J, rfl, q⟩
end
structure ErrTxt (K : PySem.W.Frag) (mg : Str → Option Value) (sI : Stmt) (Cs C0 fI : Addr) (fd : FuncData) : Prop where
  gS : mg "ShapeError" = some (.ref Cs)
  g0 : mg "HeardError" = some (.ref C0)
  oex : OexC K Cs
  iC : PySem.W.findIn K (.ref Cs) "__init__" = some (some (.ref fI))
  tI : PySem.W.typeIn K (.ref fI) = some (.type "function")
  no : PySem.W.findIn K (.ref Cs) "name" = some none
  sp0 : PySem.W.specialIn K (.ref C0) "__getattribute__" = some (some (.builtin "type.__getattribute__"))
  rd0 : PySem.W.readsIn K C0 (.type "type") = true
  v0 : PySem.W.findCls K (.ref C0) (.type "type") "__init__" = some (.val (.builtin "ValueError.__init__"))
  te : PySem.W.exmOne K (.ref Cs) (.ref Cs) = some true
  ga : PySem.W.findIn K (.ref Cs) "__getattribute__" = some (some (.builtin "BaseException.__getattribute__"))
  gg : PySem.W.findIn K (.ref Cs) "__getattr__" = some none
  hd : PySem.W.hasDictIn K Cs = true
  fn : Fun K "__init__" "ShapeError.__init__" sI fI fd
  bi : Binds K fd ["self", "name"] []
def spInit (Cs : Addr) : Sp := fun vs H Q _ => ∃ (a : Addr) (z : Str), vs = [.ref a, .str z] ∧ H a = some (exo a Cs none) ∧ z.length ≤ 1000 ∧ ∀ dx, H dx = none → dx ≠ a → Q .non (upd (upd H dx (exd dx [("name", .str z)])) a (exo a Cs (some dx)))
def InitOk (P : Program) (w : World) (K : PySem.W.Frag) (mg : Str → Option Value) (base : Heap) (Cs fI : Addr) (fd : FuncData) : Prop := FnOk P w K mg base CX0 1 fI fd ["self", "name"] (spInit Cs)
theorem Holds.junk {N : Ent} {P H : Hp} {M : Mem} (h : Holds N P H M) {p : Addr} {o : HO} (hp : H p = none) (nf : ∀ od kvs, o ≠ .frz od (.dK kvs) := by intro _ _ h; cases h) : Holds N P (upd H p o) M := by
  refine ⟨fun a u e => ?_, h.ex0, fun b u e f => ?_, h.nw, fun c hc => ?_, h.nd, h.mf, h.fs, h.ufu nf, h.pf⟩
  · rw [upd_ne (ne_of_none e (h.no hp))]
    exact h.exw a u e
  · have := h.fr b u e f
    rw [upd_ne (ne_of_none this hp)]
    exact this
  · obtain ⟨a1, xs, a2, a3⟩ := h.mem c hc
    exact ⟨a1, xs, by rw [upd_ne (ne_of_none a2 hp)]; exact a2, a3⟩
section
variable {X : Cx} {N : Ent} {ρ ρ' : Rho} {M M1 M2 M' Mc Mr Mc' : Mem} {a b c e : Expr} {pos pos2 p : Pos} {i j k : It} {Z : Post} {rest : List Stmt} {Cs C0 fI : Addr} {fd : FuncData} {sI : Stmt}
/-- raise ShapeError(e) -/
theorem sj_raise {z : Str} (hc : X.calm = true) (T : ErrTxt X.K X.mg sI Cs C0 fI fd) (F1 : InitOk X.prog X.w X.K X.mg X.base Cs fI fd) (hr : Room 2 X.A) (he : EJ X N ρ M e (.d (.str z)) M1) (hz : z.length ≤ 1000) (h : Z.er z M1)
    (hg : Gl X "ShapeError" := by rfl) (hs : starEach [e] X.env = [(false, eval e X.env)] := by rfl) (hpl : (backTo pos (starEach ([] : List Expr) X.env)).any (·.1) = false := by rfl) :
    SJ X N ρ M (.Raise (some (.Call (.Name "ShapeError" p) [e] [] pos)) none pos2 :: rest) Z := sj_cons fun σ H P hh g D E tk zd => by
  refine s_of (ps_raise hc tk (pmk_oex T.oex T.iC T.tI F1 hr T.bi .nil pass0 hg T.gS (pa_cons pe_w pa_nil hs) (by decide) hs hpl)) ?_
  refine he σ H P hh g _ fun v H1 P1 e1 h1 r1 => ?_
  cases ri_str r1
  refine ⟨(by show 1 ≤ 1000; decide), fun a ha => ⟨a, z, rfl, upd_same, hz, fun dx hdx ne => ⟨rfl, dx, [("name", .str z)], upd_same, ?_, ?_, ?_⟩⟩⟩
  · rw [upd_ne ne, upd_same]
  · rw [upd_ne ne] at hdx
    exact hdx
  · have hdx' : H1 dx = none := by
      rw [upd_ne ne] at hdx
      exact hdx
    have eq : upd (del (upd (upd (upd H1 a (exo a Cs none)) dx (exd dx [("name", .str z)])) a (exo a Cs (some dx))) a) dx (XD z) = upd H1 dx (XD z) := by
      funext b
      by_cases hb : b = dx
      · subst hb
        rw [upd_same, upd_same]
      · rw [upd_ne hb, upd_ne hb]
        by_cases hba : b = a
        · subst hba
          rw [del_same, ha]
        · rw [del_ne hba, upd_ne hba, upd_ne hb, upd_ne hba]
    show E (.ref Cs) (some dx) (upd (del (upd (upd (upd H1 a (exo a Cs none)) dx (exd dx [("name", .str z)])) a (exo a Cs (some dx))) a) dx (XD z))
    rw [eq]
    exact zd.er z M1 dx _ P1 Cs T.gS h e1 (h1.junk hdx') upd_same

/-! ### contracts of defs that may raise -/
abbrev Ro := List It → Mem → Str → Prop
def spX (mg : Str → Option Value) (C : Co) (R : Ro) : Sp := fun vs H Q E => ∃ (P : Hp) (is : List It) (M : Mem), Holds (inner P H M) P H M ∧ RepIs P vs is ∧
  ((∃ i M', C is M i M' ∧ ∀ v H' P', Holds (inner P H M) P' H' M' → RepI P' v i → Q v H') ∨
    (∃ z, R is M z ∧ ∀ d H' P' Cs, mg "ShapeError" = some (.ref Cs) → Holds (inner P H M) P' H' M → H' d = some (XD z) → E (.ref Cs) (some d) H'))
structure DefX (P : Program) (w : World) (K : PySem.W.Frag) (mg : Str → Option Value) (base : Heap) (x : Str) (k : Nat) (C : Co) (R : Ro) : Prop where
  ex : ∃ f fd ps, FnOk P w K mg base (L2.CX P w) k f fd ps (spX mg C R) ∧ mg x = some (.ref f) ∧ PySem.W.keepIn K (.ref f) = true ∧ Binds K fd ps []
/-- e raises an error of this name -/
def XJ (X : Cx) (N : Ent) (ρ : Rho) (M : Mem) (e : Expr) (z : Str) : Prop :=
  ∀ σ H P, Holds N P H M → Slots P σ ρ → ∀ E : XK, Takes X (fun c d _ H => E c d H) → (∀ d H' P' Cs, X.mg "ShapeError" = some (.ref Cs) → Ex P P' → Holds N P' H' M → H' d = some (XD z) → E (.ref Cs) (some d) H') → ∀ Q : VK, wE X e σ H Q
variable {es : List Expr} {is : List It}
/-- a call that does not raise here -/
theorem ej_callX {x : Str} {l : Nat} {C : Co} {R : Ro} (F : DefX X.prog X.w X.K X.mg X.base x l C R) (hr : Room l X.A) (ha : AJ X N ρ M (e :: es) is M1) (hM : M1 = Mc ++ Mr) (hC : C is Mc i Mc') (hM2 : M2 = Mc' ++ Mr)
    (hg : Gl X x := by rfl) (hdb : (x == ("__debug__" : Str)) = false := by decide) (he : starEach (e :: es) X.env = (false, eval e X.env) :: starEach es X.env := by rfl) (hpl : (backTo pos (starEach es X.env)).any (·.1) = false := by rfl) :
    EJ X N ρ M (.Call (.Name x p) (e :: es) [] pos) i M2 := fun σ H P hh g Q q => by
  obtain ⟨f, fd, ps, F1, hm, hk, hb⟩ := F.ex
  refine e_of (pe_call F1 hr hg hm hk hb .nil passL pa_w hdb he hpl) (ha σ H P hh g _ fun vs H1 P1 e1 h1 r1 => ?_)
  subst hM hM2
  refine ⟨P1, is, Mc, h1.enter, ?_, .inl ⟨i, Mc', hC, fun v H' P' h' r' => ?_⟩⟩
  · rw [List.append_nil]; exact r1
  · exact q v H' P' (e1.trans h'.ex0) (h1.leave h') r'
/-- a call that raises -/
theorem xj_callX {x : Str} {z : Str} {l : Nat} {C : Co} {R : Ro} (F : DefX X.prog X.w X.K X.mg X.base x l C R) (hr : Room l X.A) (ha : AJ X N ρ M (e :: es) is M) (hR : R is [] z)
    (hg : Gl X x := by rfl) (hdb : (x == ("__debug__" : Str)) = false := by decide) (he : starEach (e :: es) X.env = (false, eval e X.env) :: starEach es X.env := by rfl) (hpl : (backTo pos (starEach es X.env)).any (·.1) = false := by rfl) :
    XJ X N ρ M (.Call (.Name x p) (e :: es) [] pos) z := fun σ H P hh g E tk er Q => by
  obtain ⟨f, fd, ps, F1, hm, hk, hb⟩ := F.ex
  refine e_of (pe_callS F1 hr hg hm hk hb (fun σ => passAt tk σ) pa_w hdb he hpl) (ha σ H P hh g _ fun vs H1 P1 e1 h1 r1 => ?_)
  have h2 : Holds N P1 H1 ([] ++ M) := h1
  refine ⟨P1, is, [], h2.enter, r1, .inr ⟨z, hR, fun d H' P' Cs gs h' x' => ?_⟩⟩
  exact er d H' P' Cs gs (e1.trans h'.ex0) (h2.leave h') x'
theorem sj_exprX {z : Str} (he : XJ X N ρ M e z) (h : Z.er z M) (hs : swapsWith e none pos.line X.env = pure false := by rfl) : SJ X N ρ M (.Expr e pos :: rest) Z := sj_cons fun σ H P hh g D E tk zd =>
  s_of (ps_expr pe_w hs) (he σ H P hh g E tk (fun d H' P' Cs gs e1 h1 x => zd.er z M d H' P' Cs gs h e1 h1 x) _)
theorem sj_retX {z : Str} (he : XJ X N ρ M e z) (h : Z.er z M) : SJ X N ρ M (.Return (some e) pos :: rest) Z := sj_cons fun σ H P hh g D E tk zd =>
  s_of (ps_ret pe_w) (he σ H P hh g E tk (fun d H' P' Cs gs e1 h1 x => zd.er z M d H' P' Cs gs h e1 h1 x) _)
/-- a def that may raise keeps its contract -/
theorem defX_ok {P : Program} {w : World} {K : PySem.W.Frag} {mg : Str → Option Value} {base : Heap} {x qual : Str} {st : Stmt} {f : Addr} {fd : FuncData} {NN ps : List Str} {l : Nat} {C : Co} {R : Ro} (F : Fun K x qual st f fd) (S : FnScope NN ps (defScope st))
    (hm : mg x = some (.ref f)) (hb : Binds K fd ps []) (len : ∀ is M i M', C is M i M' → is.length = ps.length ∧ M'.map Prod.fst = M.map Prod.fst) (len2 : ∀ is M z, R is M z → is.length = ps.length)
    (body : ∀ X : Cx, (∃ cdv A outer s H E, X = cxOf (L2.CX P w) P w K mg base NN qual (defScope st) f cdv A outer s H E ∧ Room l X.A) → ∀ N is M, N.F = M.map Prod.fst →
      (∀ i M', C is M i M' → SJ X N (rho NN is) M (defBody st) (retZ i M')) ∧ (∀ z, R is M z → SJ X N (rho NN is) M (defBody st) { nx := fun _ _ => False, rt := fun _ _ => False, er := fun z' M' => z' = z ∧ M' = M })) : DefX P w K mg base x (l + 1) C R := by
  refine ⟨f, fd, ps, F.okX S (fun vs H Q E h => ?_) (fun cdv A outer s H vs Q E hr h => ?_), hm, F.kp, hb⟩
  · obtain ⟨P0, is, M, _, r, ⟨i, M', hC, _⟩ | ⟨z, hR, _⟩⟩ := h
    · rw [r.len]
      exact (len _ _ _ _ hC).1
    · rw [r.len]
      exact len2 _ _ _ hR
  · obtain ⟨P0, is, M, h0, r, hq⟩ := h
    refine ⟨_, pss_w, ?_⟩
    have es : L2.start NN vs = vs.map some ++ List.replicate (NN.length - is.length) none := by
      unfold L2.start
      rw [r.len]
    rw [es]
    have B := body _ ⟨cdv, A, outer, s, H, E, rfl, hr⟩ (inner P0 H M) is M rfl
    rcases hq with ⟨i, M', hC, q⟩ | ⟨z, hR, q⟩
    · have back : ∀ {P' H' M'' L}, M'' = M' ++ L → Holds (inner P0 H M) P' H' M'' → Holds (inner P0 H M) P' H' M' := fun {P' H' M'' L} e hh => by
        subst e
        refine hh.sub (fun c hc => List.mem_append_left _ hc) ?_ fun a ha => ?_
        · have := hh.nd
          rw [List.map_append] at this
          exact (List.nodup_append.mp this).1
        · rw [(len _ _ _ _ hC).2]
          exact ha
      refine B.1 i M' hC _ H P0 h0 (slots_start _ r) _ E0 takes0 ⟨fun ρ' M'' σ' H' P' a e hh g => ?_, fun i' M'' v H' P' a e hh rr => ?_, fun _ _ _ _ _ a => a.elim, fun _ _ _ _ _ a => a.elim, fun _ _ _ _ _ _ _ a => a.elim⟩
      · obtain ⟨rfl, L, eL⟩ := a
        exact q _ H' P' (back eL hh) .non
      · obtain ⟨rfl, L, eL⟩ := a
        exact q _ H' P' (back eL hh) rr
    · refine B.2 z hR _ H P0 h0 (slots_start _ r) _ E (takes_of rfl rfl rfl rfl) ⟨fun _ _ _ _ _ a => a.elim, fun _ _ _ _ _ a => a.elim, fun _ _ _ _ _ a => a.elim, fun _ _ _ _ _ a => a.elim, fun z' M'' d H' P' Cs gs a e hh x => ?_⟩
      obtain ⟨rfl, rfl⟩ := a
      exact q d H' P' Cs gs hh x
end
end Kt

namespace Kt
open PySem PySem.Spec PyProof.Rows L2
section
variable {X : Cx} {N : Ent} {ρ ρ' : Rho} {M M1 M2 M' Mc Mr Mc' : Mem} {a b c e : Expr} {pos pos2 p : Pos} {i j k : It} {Z : Post} {rest : List Stmt} {Cs C0 fI : Addr} {fd : FuncData} {sI : Stmt}
/-- e.name in the suite that holds e (at a, its dict d) -/
def tEN (C : Addr) (a : Addr) (cls : Value) (d : Option Addr) (te : TE) : TE := fun σ H Q => te σ H fun x H1 => x = .ref a ∧ cls = .ref C ∧ ∃ (dd : Addr) (v : V), d = some dd ∧ H1 dd = some (.xd [(("name" : Str), v)]) ∧ Q v H1
theorem relO_name {v : V} {v' : Value} (r : RelV v v') (f : Str) : RelO (List.lookup f [(("name" : Str), v)]) (if f = "name" then some v' else none) := by
  by_cases hw : f = "name"
  · subst hw
    rw [if_pos rfl]
    have q : List.lookup ("name" : Str) [(("name" : Str), v)] = some v := by simp [List.lookup]
    rw [q]
    exact r
  · rw [if_neg hw]
    have qw : (f == ("name" : Str)) = false := by simpa using hw
    have q2 : List.lookup f [(("name" : Str), v)] = none := by simp [List.lookup, qw]
    rw [q2]
    trivial
theorem pe_ename {a : Addr} {oe : Obj} {cls : Value} {d : Option Addr} {pn : List (Addr × Obj)} {te : TE} (T : ErrTxt X.K X.mg sI Cs C0 fI fd) (hz : Zc cls d oe) (hf : ∃ vs, oe.data = .fields vs) (he : PE (X.suite a ((a, oe) :: pn)) e te)
    (hb : attributeBase e "name" X.env (eval e X.env) = eval e X.env := by rfl) :
    PE (X.suite a ((a, oe) :: pn)) (.Attribute e "name" pos) (tEN Cs a cls d te) := by
  refine ⟨fun pins s σ H Q I h => ?_⟩
  refine attr_of hb (thn (he.run pins s σ H _ I h) fun u s1 hh => ?_)
  obtain ⟨x, H1, I1, rx, ex, ec, dd, v, ed, ea, q⟩ := hh
  subst ex
  obtain rfl : u = Value.ref a := rx
  subst ec
  subst ed
  obtain ⟨ha, _⟩ := I1.pin (a, oe) (List.mem_append_left _ List.mem_cons_self)
  obtain ⟨vs, hd⟩ := hf
  have hx : ObjOk X.prog X.w H1 s1.heap dd (.xd [(("name" : Str), v)]) := I1.hok dd _ ea
  obtain ⟨mA, hns, hr⟩ := hx
  obtain ⟨od, ho, hl⟩ := lookIn_ns hns
  have l : List.lookup ("name" : Str) [(("name" : Str), v)] = some v := by simp [List.lookup]
  obtain ⟨u, hu, ru⟩ := RelO.some_of (v := v) (o := mA "name") (by rw [← l]; exact hr "name")
  have J : PySem.W.InstAt s1.heap a oe Cs (some od) := ⟨ha, hz.1, by unfold PySem.W.notCls; rw [hd] <;> rfl, by rw [hz.2]; exact ho⟩
  exact HandSPX.exc_get I1.kIn J T.ga T.gg T.oex.exC (PySem.W.findObj_own T.hd T.no rfl (by rw [hl, hu])) (handed_of ru) ⟨v, H1, I1.tok _, ru, q⟩
theorem takes_len {W W' : WX} (t : Takes X W) (h : ∀ c d σ H, σ.length = X.N.length → W' c d σ H → W c d σ H) : Takes X W' := fun u s' ⟨a, B, sI, pins, σ, H, cls, d, e, I, nb, up, sky, na, os, ag, w⟩ =>
  t u s' ⟨a, B, sI, pins, σ, H, cls, d, e, I, nb, up, sky, na, os, ag, h _ _ _ _ I.len w⟩
/-- what a suite of returns is to give -/
def SuiteOk (X : Cx) (N : Ent) (n : Nat) (Cs : Addr) (suite : List Stmt) (z : Str) (M' : Mem) (rt : It → Mem → Prop) : Prop :=
  ∀ (a dd : Addr) (P' H' : Hp) (σ' : L2.St) (oe : Obj) (pn : List (Addr × Obj)) (D : Ends), Holds N P' H' M' → H' dd = some (XD z) → H' a = none → σ'.length = X.N.length → Zc (.ref Cs) (some dd) oe → (∃ vs, oe.data = .fields vs) →
    (∀ i M'' v H'' P'', rt i M'' → Ex P' P'' → Holds N P'' H'' M'' → RepI P'' v i → D.rt v H'') → wSs (X.suite a ((a, oe) :: pn)) suite D (σ'.set n (some (.ref a))) H'
theorem sj_try (n : Nat) {nm : Str} {np pos' : Pos} {body suite : List Stmt} {b₀ : Stmt} (ER : Str → Mem → Prop) (hN : X.N.Nodup) (T : ErrTxt X.K X.mg sI Cs C0 fI fd)
    (hb : ∀ (pn : List (Addr × Obj)) (xe : Value → Shared → Prop), PassesOwn (model X.prog X.w) X.A X.env xe → SJ (X.tr pn xe) N ρ M body { nx := fun ρ' M' => SJ X N ρ' M' rest Z, rt := Z.rt, bk := Z.bk, ct := Z.ct, er := ER })
    (hsu : ∀ z M', ER z M' → SuiteOk X N n Cs (b₀ :: suite) z M' Z.rt)
    (hi : X.N[n]? = some nm := by rfl) (hln : X.env.kindOf nm = some .local := by rfl) (hg : Gl X "ShapeError" := by rfl) (hs : X.stack = X.env :: X.outer := by rfl) (hf : X.env.frame = some X.env.locals := by rfl) :
    SJ X N ρ M (.Try body [.ExceptHandler (some (.Name "ShapeError" np)) (some nm) (b₀ :: suite) pos'] [] [] pos :: rest) Z := sj_cons fun σ H P hh g D E tk zd => by
  refine s_of (ps_try_as (i := n) (c := .ref Cs) (tb := fun W => fun D σ H => ∀ pn xe, Takes (X.tr pn xe) W → PassesOwn (model X.prog X.w) X.A X.env xe → wSs (X.tr pn xe) body D σ H)
    (ts := fun a cls d => fun D σ H => ∀ oe pn, Zc cls d oe → (∃ vs, oe.data = .fields vs) → wSs (X.suite a ((a, oe) :: pn)) (b₀ :: suite) D σ H) (Wout := fun _ _ _ _ => False) hs hf hN hi hln ⟨hg, by decide, .inl T.gS⟩ takes0
    (fun W pn xe tk1 po => ⟨fun pins s σ H D I h => h pn xe tk1 po pins s I⟩) (fun a oe cls d pn hz hv => ⟨fun pins s σ H D I h => h oe pn hz hv pins s I⟩)) ?_
  intro pn xe tk1 po
  refine hb pn xe po σ H P hh g D (fun c d H' => ∀ σ' : L2.St, σ'.length = X.N.length → wAs X.K (.ref Cs) n (fun a cls d => fun D σ H => ∀ oe pn, Zc cls d oe → (∃ vs, oe.data = .fields vs) → wSs (X.suite a ((a, oe) :: pn)) (b₀ :: suite) D σ H) (fun _ _ _ _ => False) D c d σ' H') (takes_len tk1 fun c d σ' H' hl w => w σ' hl) ⟨zd.nx, zd.rt, zd.bk, zd.ct, fun z M' d H' P' C gC hz e1 h1 x1 => ?_⟩
  intro σ' hl
  have eC : C = Cs := by
    have := gC.symm.trans T.gS
    cases this
    rfl
  subst eC
  refine ⟨true, T.te, fun _ a ha oe pn2 hz2 hv2 => ?_, fun q => Bool.noConfusion q⟩
  exact hsu z M' hz a d P' H' σ' oe pn2 _ h1 x1 ha hl hz2 hv2 fun i M'' v H'' P'' r e2 h2 r2 => zd.rt i M'' v H'' P'' r (e1.trans e2) h2 r2
/-- return e.name == '..' -/
theorem suite_eq (n : Nat) {nm z w : Str} {p1 p2 p3 p4 : Pos} {j : Nat} {rest : List Stmt} {rt : It → Mem → Prop} (T : ErrTxt X.K X.mg sI Cs C0 fI fd) (h : rt (dB (decide (z = w))) M') (hi : X.N[n]? = some nm := by rfl) (hv : Vis X.env.scope nm := by exact Or.inl rfl) (hd : (nm == ("__debug__" : Str)) = false := by decide) (hcd : (nm == ("__classdict__" : Str)) = false := by decide)
    (hb : attributeBase (.Name nm p1) "name" X.env (eval (.Name nm p1) X.env) = eval (.Name nm p1) X.env := by rfl) :
    SuiteOk X N n Cs (.Return (some (.Compare (.Attribute (.Name nm p1) "name" p2) [.Eq] [.Constant (.str w) j p3] p4)) pos :: rest) z M' rt := fun a dd P' H' σ' oe pn D hh x ha hl hz hf k => by
  have l : n < X.N.length := (List.getElem?_eq_some_iff.mp hi).1
  refine ss_of (pss_cons (ps_ret (pe_cmpR op_eq (pe_ename T hz hf (pe_var (i := n) hi hv hd hcd) hb) pe_str (nomark _))) pss_w) ?_
  refine ⟨.ref a, List.getElem?_set_self (by omega), rfl, rfl, dd, .str z, rfl, x, rfl, ?_⟩
  refine k (dB (decide (z = w))) M' _ H' P' h (Ex.refl _) hh ?_
  have e : decide (V.str z = V.str w) = decide (z = w) := by
    by_cases q : z = w
    · subst q; simp
    · simp [q]
  show Dn P' (.bl (decide (V.str z = V.str w))) (.bool (decide (z = w)))
  rw [e]
  exact .bl _
/-- return e.name -/
theorem suite_name (n : Nat) {nm z : Str} {p1 p2 : Pos} {rest : List Stmt} {rt : It → Mem → Prop} (T : ErrTxt X.K X.mg sI Cs C0 fI fd) (h : rt (.d (.str z)) M') (hi : X.N[n]? = some nm := by rfl) (hv : Vis X.env.scope nm := by exact Or.inl rfl) (hd : (nm == ("__debug__" : Str)) = false := by decide) (hcd : (nm == ("__classdict__" : Str)) = false := by decide)
    (hb : attributeBase (.Name nm p1) "name" X.env (eval (.Name nm p1) X.env) = eval (.Name nm p1) X.env := by rfl) :
    SuiteOk X N n Cs (.Return (some (.Attribute (.Name nm p1) "name" p2)) pos :: rest) z M' rt := fun a dd P' H' σ' oe pn D hh x ha hl hz hf k => by
  have l : n < X.N.length := (List.getElem?_eq_some_iff.mp hi).1
  refine ss_of (pss_cons (ps_ret (pe_ename T hz hf (pe_var (i := n) hi hv hd hcd) hb)) pss_w) ?_
  refine ⟨.ref a, List.getElem?_set_self (by omega), rfl, rfl, dd, .str z, rfl, x, ?_⟩
  exact k (.d (.str z)) M' _ H' P' h (Ex.refl _) hh (.str z)
end
end Kt

/-! Kt7: kinds, concatenation, slices, filters, the script as a source. -/
namespace Kt
open PySem PySem.Spec PyProof.Rows L2

namespace HT
theorem seqIx (n m : Nat) (h : n < m) : seqIndex? (n : Int) m = some n := (L2.ixN_seq (by unfold L2.ixN; rw [if_pos (by omega), if_pos (by omega)]; simp)).1
end HT
theorem RepIs.erase {P : Hp} : ∀ {vs : List V} {is : List It} (n : Nat), RepIs P vs is → RepIs P (vs.eraseIdx n) (is.eraseIdx n)
  | [], [], _, _ => trivial
  | _ :: _, _ :: _, 0, h => h.2
  | _ :: _, _ :: _, n + 1, h => ⟨h.1, RepIs.erase n h.2⟩
  | [], _ :: _, _, h => h.elim
  | _ :: _, [], _, h => h.elim
section
variable {X : Cx} {N : Ent} {ρ ρ' : Rho} {M M1 M2 M3 M' Mc Mr Mc' : Mem} {a b c e : Expr} {pos : Pos} {i j k : It} {t u : Bool} {Z : Post} {body rest : List Stmt} {tg iter : Expr}
def wBT (X : Cx) (scope : Scope) (e : Expr) : TT := fun σ H Q => ∀ s H0 C cl fp, wT (X.blk s H0 scope (compEnvC scope cl C X.env) fp) e σ H Q
/-- (the reading) [e for x in a list-like source] -/
theorem lj_compS {x0 : It} {elt : Expr} {scope : Scope} (n : Nat) {ds : List PyData} (A : Nat → List It) (Mi : Nat → Mem) (hc : X.calm = true) (hN : X.N.Nodup) (hi : EJ X N ρ M iter x0 M1) (src : ∀ v P, RepI P v x0 → ∃ a xs, v = .ref a ∧ SqL X.K P a xs ∧ DnAll P xs ds)
    (hA0 : A 0 = []) (hM0 : Mi 0 = M1) (hz : ds.length ≤ 100000)
    (step : ∀ (m : Nat) d, ds[m]? = some d → ∃ j, A (m + 1) = A m ++ [j] ∧ (A m).length ≤ m ∧ ∀ N' s H C cl fp, EJ (X.blk s H scope (compEnvC scope cl C X.env) fp) N' (ρ.set n (some (.d d))) (Mi m) elt j (Mi (m + 1)))
    : LJ X N ρ M (tLc (iList X.K (wE X iter)) (gName n) tYes (wBE X scope elt) [n]) (A ds.length) (Mi ds.length) := fun σ H P hh g Q q => by
  refine (hi σ H P hh g _ fun v H1 P1 e1 h1 r1 => ?_)
  obtain ⟨a, xs, rfl, x1, x2⟩ := src _ _ r1
  have xl := dnAll_len x2
  refine ⟨a, rfl, ⟨xs, exw_l h1.exw x1⟩, fun D hD => lc_list (xs := xs) (fun m H' => ∃ P', Holds N P' H' (Mi m ++ [(D, A m)]) ∧ Ex P1 P') ⟨P1, by rw [hA0, hM0]; exact h1.own hD (its := []) trivial, Ex.refl _⟩ (fun m H' _ hw => ?_) (fun m x' H' hx hw => ?_) (fun H' hw => ?_)⟩
  · obtain ⟨P', h2, e2⟩ := hw
    exact exw_l h2.exw (ex_l e2 x1)
  · obtain ⟨P', h2, e2⟩ := hw
    have nl : m < ds.length := xl ▸ (List.getElem?_eq_some_iff.mp hx).1
    obtain ⟨v', ev, dv⟩ := dnAll_get x2 (List.getElem?_eq_getElem nl)
    rw [hx] at ev
    cases Option.some.inj ev
    obtain ⟨j, eA, lA, S⟩ := step m _ (List.getElem?_eq_getElem nl)
    refine ⟨wipe_comp n, ?_⟩
    unfold tYes
    dsimp only
    rw [if_pos rfl]
    intro s H0 C cl fp
    refine S (inner P' H' (Mi m)) s H0 C cl fp _ H' P' h2.enter (slots_comp (g.ex (e1.trans e2)) n (dn_ex e2 _ _ dv)) _ fun y H4 P4 e4 h4 r4 => ?_
    have h5 := h2.leave h4
    obtain ⟨acc, ea, ra⟩ := h5.cell (a := D) (its := A m) (List.mem_append_right _ (List.mem_singleton.mpr rfl))
    refine ⟨acc, ea, by rw [ra.len]; exact Nat.lt_of_lt_of_le (Nat.lt_of_le_of_lt lA (Nat.lt_of_lt_of_le nl hz)) (by decide), P4, ?_, e2.trans e4⟩
    have h6 := h5.write (a := D) (its := A m) (its' := A (m + 1)) (List.mem_append_right _ (List.mem_singleton.mpr rfl)) (xs' := acc ++ [y]) (by rw [eA]; exact ra.app ⟨r4, trivial⟩)
    rw [put_last h5.nd] at h6
    exact h6
  · obtain ⟨P', h2, e2⟩ := hw
    rw [xl] at h2
    exact q D H' P' (e1.trans e2) (h1.newF hD) h2
/-- [e for x in a list-like source] -/
theorem el_compS {x0 : It} {elt : Expr} {x : Str} {p : Pos} {scope : Scope} (n : Nat) {ds : List PyData} (A : Nat → List It) (Mi : Nat → Mem) (hc : X.calm = true) (hN : X.N.Nodup) (hi : EJ X N ρ M iter x0 M1) (src : ∀ v P, RepI P v x0 → ∃ a xs, v = .ref a ∧ SqL X.K P a xs ∧ DnAll P xs ds)
    (hA0 : A 0 = []) (hM0 : Mi 0 = M1) (hz : ds.length ≤ 100000)
    (step : ∀ (m : Nat) d, ds[m]? = some d → ∃ j, A (m + 1) = A m ++ [j] ∧ (A m).length ≤ m ∧ ∀ N' s H C cl fp, EJ (X.blk s H scope (compEnvC scope cl C X.env) fp) N' (ρ.set n (some (.d d))) (Mi m) elt j (Mi (m + 1)))
    (ok : BlkOk X.N X.env.scope scope [(x, n)] := by exact blkOk_by (by kernel_rfl))
    (hgn : ∀ (s : Shared) (H : Hp) (C : Addr) (cl : List (Str × Addr)) (fp : List Addr), PG (X.blk s H scope (compEnvC scope cl C X.env) fp) (.Name x p) (gName n) := by exact fun _ _ _ _ _ => pg_name (by assumption) rfl (Or.inl rfl))
    (hf : ∀ x, foldedSetIterable iter X.env x = pure x := by intro _; rfl) : EL X N ρ M (.ListComp elt [⟨.Name x p, iter, [], 0⟩] scope pos) (A ds.length) (Mi ds.length) :=
  el_lc (lj_compS n A Mi hc hN hi src hA0 hM0 hz step) (pe_lc hc hN (pi_list pe_w) ok hgn (fun _ _ _ _ _ => pts_nil) (te := wBE X scope elt) (fun s H C cl fp => ⟨fun pins s1 σ1 H1 Q1 I1 h1 => h1 s H C cl fp pins s1 I1⟩) hf)
theorem sj_setcompS (n' : Nat) {y : Str} {py spos : Pos} {Z : Post} {rest : List Stmt} {x0 : It} {elt : Expr} {x : Str} {p : Pos} {scope : Scope} (n : Nat) {ds : List PyData} (A : Nat → List It) (Mi : Nat → Mem) (hc : X.calm = true) (hN : X.N.Nodup) (hi : EJ X N ρ M iter x0 M1) (src : ∀ v P, RepI P v x0 → ∃ a xs, v = .ref a ∧ SqL X.K P a xs ∧ DnAll P xs ds)
    (hA0 : A 0 = []) (hM0 : Mi 0 = M1) (hz : ds.length ≤ 100000)
    (step : ∀ (m : Nat) d, ds[m]? = some d → ∃ j, A (m + 1) = A m ++ [j] ∧ (A m).length ≤ m ∧ ∀ N' s H C cl fp, EJ (X.blk s H scope (compEnvC scope cl C X.env) fp) N' (ρ.set n (some (.d d))) (Mi m) elt j (Mi (m + 1)))
    (hr : ∀ p, p ∉ N.F → SJ X N (ρ.set n' (some (.v (.ref p)))) (Mi ds.length ++ [(p, A ds.length)]) rest Z)
    (hy : X.N[n']? = some y := by rfl) (hyl : X.env.scope.names.lookup y = some .local := by rfl)
    (hsw : swapsWith (.ListComp elt [⟨.Name x p, iter, [], 0⟩] scope pos) (some (.Name y py)) spos.line X.env = pure true := by exact sw_true rfl rfl rfl (by kernel_rfl))
    (ok : BlkOk X.N X.env.scope scope [(x, n)] := by exact blkOk_by (by kernel_rfl))
    (hgn : ∀ (s : Shared) (H : Hp) (C : Addr) (cl : List (Str × Addr)) (fp : List Addr), PG (X.blk s H scope (compEnvC scope cl C X.env) fp) (.Name x p) (gName n) := by exact fun _ _ _ _ _ => pg_name (by assumption) rfl (Or.inl rfl))
    (hf : ∀ x, foldedSetIterable iter X.env x = pure x := by intro _; rfl) : SJ X N ρ M (.Assign [.Name y py] (.ListComp elt [⟨.Name x p, iter, [], 0⟩] scope pos) spos :: rest) Z :=
  sj_lc n' (lj_compS n A Mi hc hN hi src hA0 hM0 hz step) (ps_setLc (i := n') (y := y) (py := py) (spos := spos) hc hN hy hyl hsw (pi_list pe_w) ok hgn (fun _ _ _ _ _ => pts_nil) (te := wBE X scope elt) (fun s H C cl fp => ⟨fun pins s1 σ1 H1 Q1 I1 h1 => h1 s H C cl fp pins s1 I1⟩) hf) hr
/-- (the reading) [e for x in a list of data if c] -/
theorem lj_compF {cnd : Expr} {elt : Expr} {scope : Scope} (n : Nat) {ds : List PyData} (A : Nat → List It) (Mi : Nat → Mem) (hc : X.calm = true) (hN : X.N.Nodup) (hi : (EJ X N ρ M iter (.d (.list ds)) M1))
    (hA0 : A 0 = []) (hM0 : Mi 0 = M1) (hz : ds.length ≤ 100000)
    (step : ∀ (m : Nat) d, ds[m]? = some d → ∃ t Mm, (∀ N' s H C cl fp, TJ (X.blk s H scope (compEnvC scope cl C X.env) fp) N' (ρ.set n (some (.d d))) (Mi m) cnd t Mm) ∧ (A m).length ≤ m ∧
      (t = true → ∃ j, A (m + 1) = A m ++ [j] ∧ ∀ N' s H C cl fp, EJ (X.blk s H scope (compEnvC scope cl C X.env) fp) N' (ρ.set n (some (.d d))) Mm elt j (Mi (m + 1))) ∧ (t = false → A (m + 1) = A m ∧ Mi (m + 1) = Mm))
    : LJ X N ρ M (tLc (iList X.K (wE X iter)) (gName n) (wBT X scope cnd) (wBE X scope elt) [n]) (A ds.length) (Mi ds.length) := fun σ H P hh g Q q => by
  refine (hi σ H P hh g _ fun v H1 P1 e1 h1 r1 => ?_)
  obtain ⟨a, xs, rfl, x1, x2⟩ := ri_lst r1
  have xl := dnAll_len x2
  refine ⟨a, rfl, ⟨xs, .inl (.inl (h1.ex _ _ x1))⟩, fun D hD => lc_list (xs := xs) (fun m H' => ∃ P', Holds N P' H' (Mi m ++ [(D, A m)]) ∧ Ex P1 P') ⟨P1, by rw [hA0, hM0]; exact h1.own hD (its := []) trivial, Ex.refl _⟩ (fun m H' _ hw => ?_) (fun m x' H' hx hw => ?_) (fun H' hw => ?_)⟩
  · obtain ⟨P', h2, e2⟩ := hw
    exact .inl (.inl (h2.ex _ _ (e2 _ _ x1)))
  · obtain ⟨P', h2, e2⟩ := hw
    have nl : m < ds.length := xl ▸ (List.getElem?_eq_some_iff.mp hx).1
    obtain ⟨v', ev, dv⟩ := dnAll_get x2 (List.getElem?_eq_getElem nl)
    rw [hx] at ev
    cases Option.some.inj ev
    obtain ⟨t, Mm, T, lA, S1, S2⟩ := step m _ (List.getElem?_eq_getElem nl)
    refine ⟨wipe_comp n, ?_⟩
    intro s H0 C cl fp
    have gs := slots_comp (g.ex (e1.trans e2)) n (i := .d ds[m]) (dn_ex e2 _ _ dv)
    refine T (inner P' H' (Mi m)) s H0 C cl fp _ H' P' h2.enter gs _ fun H3 P3 e3 h3 => ?_
    cases t with
    | true =>
      obtain ⟨j, eA, S⟩ := S1 rfl
      rw [if_pos rfl]
      intro s H0 C cl fp
      refine S (inner P' H' (Mi m)) s H0 C cl fp _ H3 P3 h3 (gs.ex e3) _ fun y H4 P4 e4 h4 r4 => ?_
      have h5 := h2.leave h4
      obtain ⟨acc, ea, ra⟩ := h5.cell (a := D) (its := A m) (List.mem_append_right _ (List.mem_singleton.mpr rfl))
      refine ⟨acc, ea, by rw [ra.len]; exact Nat.lt_of_lt_of_le (Nat.lt_of_le_of_lt lA (Nat.lt_of_lt_of_le nl hz)) (by decide), P4, ?_, (e2.trans e3).trans e4⟩
      have h6 := h5.write (a := D) (its := A m) (its' := A (m + 1)) (List.mem_append_right _ (List.mem_singleton.mpr rfl)) (xs' := acc ++ [y]) (by rw [eA]; exact ra.app ⟨r4, trivial⟩)
      rw [put_last h5.nd] at h6
      exact h6
    | false =>
      obtain ⟨eA, eM⟩ := S2 rfl
      rw [if_neg Bool.false_ne_true]
      refine ⟨P3, ?_, e2.trans e3⟩
      rw [eA, eM]
      exact h2.leave h3
  · obtain ⟨P', h2, e2⟩ := hw
    rw [xl] at h2
    exact q D H' P' (e1.trans e2) (h1.newF hD) h2
/-- [e for x in a list of data if c] -/
theorem el_compF {cnd : Expr} {elt : Expr} {x : Str} {p : Pos} {scope : Scope} (n : Nat) {ds : List PyData} (A : Nat → List It) (Mi : Nat → Mem) (hc : X.calm = true) (hN : X.N.Nodup) (hi : (EJ X N ρ M iter (.d (.list ds)) M1))
    (hA0 : A 0 = []) (hM0 : Mi 0 = M1) (hz : ds.length ≤ 100000)
    (step : ∀ (m : Nat) d, ds[m]? = some d → ∃ t Mm, (∀ N' s H C cl fp, TJ (X.blk s H scope (compEnvC scope cl C X.env) fp) N' (ρ.set n (some (.d d))) (Mi m) cnd t Mm) ∧ (A m).length ≤ m ∧
      (t = true → ∃ j, A (m + 1) = A m ++ [j] ∧ ∀ N' s H C cl fp, EJ (X.blk s H scope (compEnvC scope cl C X.env) fp) N' (ρ.set n (some (.d d))) Mm elt j (Mi (m + 1))) ∧ (t = false → A (m + 1) = A m ∧ Mi (m + 1) = Mm))
    (ok : BlkOk X.N X.env.scope scope [(x, n)] := by exact blkOk_by (by kernel_rfl))
    (hgn : ∀ (s : Shared) (H : Hp) (C : Addr) (cl : List (Str × Addr)) (fp : List Addr), PG (X.blk s H scope (compEnvC scope cl C X.env) fp) (.Name x p) (gName n) := by exact fun _ _ _ _ _ => pg_name (by assumption) rfl (Or.inl rfl))
    (hf : ∀ x, foldedSetIterable iter X.env x = pure x := by intro _; rfl) : EL X N ρ M (.ListComp elt [⟨.Name x p, iter, [cnd], 0⟩] scope pos) (A ds.length) (Mi ds.length) :=
  el_lc (lj_compF n A Mi hc hN hi hA0 hM0 hz step) (pe_lc hc hN (pi_list pe_w) ok hgn (tt := wBT X scope cnd) (fun s H C cl fp => pts_one ⟨fun pins s1 σ1 H1 Q1 I1 h1 => h1 s H C cl fp pins s1 I1⟩) (te := wBE X scope elt) (fun s H C cl fp => ⟨fun pins s1 σ1 H1 Q1 I1 h1 => h1 s H C cl fp pins s1 I1⟩) hf)
theorem sj_setcompF (n' : Nat) {y : Str} {py spos : Pos} {Z : Post} {rest : List Stmt} {cnd : Expr} {elt : Expr} {x : Str} {p : Pos} {scope : Scope} (n : Nat) {ds : List PyData} (A : Nat → List It) (Mi : Nat → Mem) (hc : X.calm = true) (hN : X.N.Nodup) (hi : (EJ X N ρ M iter (.d (.list ds)) M1))
    (hA0 : A 0 = []) (hM0 : Mi 0 = M1) (hz : ds.length ≤ 100000)
    (step : ∀ (m : Nat) d, ds[m]? = some d → ∃ t Mm, (∀ N' s H C cl fp, TJ (X.blk s H scope (compEnvC scope cl C X.env) fp) N' (ρ.set n (some (.d d))) (Mi m) cnd t Mm) ∧ (A m).length ≤ m ∧
      (t = true → ∃ j, A (m + 1) = A m ++ [j] ∧ ∀ N' s H C cl fp, EJ (X.blk s H scope (compEnvC scope cl C X.env) fp) N' (ρ.set n (some (.d d))) Mm elt j (Mi (m + 1))) ∧ (t = false → A (m + 1) = A m ∧ Mi (m + 1) = Mm))
    (hr : ∀ p, p ∉ N.F → SJ X N (ρ.set n' (some (.v (.ref p)))) (Mi ds.length ++ [(p, A ds.length)]) rest Z)
    (hy : X.N[n']? = some y := by rfl) (hyl : X.env.scope.names.lookup y = some .local := by rfl)
    (hsw : swapsWith (.ListComp elt [⟨.Name x p, iter, [cnd], 0⟩] scope pos) (some (.Name y py)) spos.line X.env = pure true := by exact sw_true rfl rfl rfl (by kernel_rfl))
    (ok : BlkOk X.N X.env.scope scope [(x, n)] := by exact blkOk_by (by kernel_rfl))
    (hgn : ∀ (s : Shared) (H : Hp) (C : Addr) (cl : List (Str × Addr)) (fp : List Addr), PG (X.blk s H scope (compEnvC scope cl C X.env) fp) (.Name x p) (gName n) := by exact fun _ _ _ _ _ => pg_name (by assumption) rfl (Or.inl rfl))
    (hf : ∀ x, foldedSetIterable iter X.env x = pure x := by intro _; rfl) : SJ X N ρ M (.Assign [.Name y py] (.ListComp elt [⟨.Name x p, iter, [cnd], 0⟩] scope pos) spos :: rest) Z :=
  sj_lc n' (lj_compF n A Mi hc hN hi hA0 hM0 hz step) (ps_setLc (i := n') (y := y) (py := py) (spos := spos) hc hN hy hyl hsw (pi_list pe_w) ok hgn (tt := wBT X scope cnd) (fun s H C cl fp => pts_one ⟨fun pins s1 σ1 H1 Q1 I1 h1 => h1 s H C cl fp pins s1 I1⟩) (te := wBE X scope elt) (fun s H C cl fp => ⟨fun pins s1 σ1 H1 Q1 I1 h1 => h1 s H C cl fp pins s1 I1⟩) hf) hr
/-- (the reading) [e for x in range(n) if c] -/
theorem lj_compRF {cnd : Expr} {elt : Expr} {scope : Scope} (n : Nat) {z : Int} (A : Nat → List It) (Mi : Nat → Mem) (hc : X.calm = true) (hmr : X.mg "range" = none) (hN : X.N.Nodup) (hi : EJ X N ρ M a (dI z) M1)
    (hA0 : A 0 = []) (hM0 : Mi 0 = M1) (hz : z ≤ 100000 ∧ -(2 ^ 62) ≤ z)
    (step : ∀ (m : Nat), m < z.toNat → ∃ t Mm, (∀ N' s H C cl fp, TJ (X.blk s H scope (compEnvC scope cl C X.env) fp) N' (ρ.set n (some (dI (m : Int)))) (Mi m) cnd t Mm) ∧ (A m).length ≤ m ∧
      (t = true → ∃ j, A (m + 1) = A m ++ [j] ∧ ∀ N' s H C cl fp, EJ (X.blk s H scope (compEnvC scope cl C X.env) fp) N' (ρ.set n (some (dI (m : Int)))) Mm elt j (Mi (m + 1))) ∧ (t = false → A (m + 1) = A m ∧ Mi (m + 1) = Mm))
    (hs : starEach [a] X.env = [(false, eval a X.env)] := by rfl)
    : LJ X N ρ M (tLc (iRng1 (wA X [a])) (gName n) (wBT X scope cnd) (wBE X scope elt) [n]) (A z.toNat) (Mi z.toNat) := fun σ H P hh g Q q => by
  refine (aj_cons hi aj_nil hs σ H P hh g _ fun vs H1 P1 e1 h1 r1 => ?_)
  obtain ⟨x', rfl, r2⟩ := ri1 r1
  cases ri_int r2
  refine ⟨z, rfl, hz.2, by omega, fun D hD => lc_range (lo := 0) (n := z.toNat) (fun m H' => ∃ P', Holds N P' H' (Mi m ++ [(D, A m)]) ∧ Ex P1 P') ⟨P1, by rw [hA0, hM0]; exact h1.own hD (its := []) trivial, Ex.refl _⟩ (fun m H' nl hw => ?_) (fun H' hw => ?_)⟩
  · obtain ⟨P', h2, e2⟩ := hw
    obtain ⟨t, Mm, T, lA, S1, S2⟩ := step m nl
    refine ⟨wipe_comp n, ?_⟩
    intro s H0 C cl fp
    have gs := slots_comp (v := .int (0 + (m : Int))) (g.ex (e1.trans e2)) n (i := dI (m : Int)) (by rw [Int.zero_add]; exact .int _)
    refine T (inner P' H' (Mi m)) s H0 C cl fp _ H' P' h2.enter gs _ fun H3 P3 e3 h3 => ?_
    cases t with
    | true =>
      obtain ⟨j, eA, S⟩ := S1 rfl
      rw [if_pos rfl]
      intro s H0 C cl fp
      refine S (inner P' H' (Mi m)) s H0 C cl fp _ H3 P3 h3 (gs.ex e3) _ fun y H4 P4 e4 h4 r4 => ?_
      have h5 := h2.leave h4
      obtain ⟨acc, ea, ra⟩ := h5.cell (a := D) (its := A m) (List.mem_append_right _ (List.mem_singleton.mpr rfl))
      refine ⟨acc, ea, by rw [ra.len]; exact Nat.lt_of_lt_of_le (Nat.lt_of_le_of_lt lA (by omega : m < 100000)) (by decide), P4, ?_, (e2.trans e3).trans e4⟩
      have h6 := h5.write (a := D) (its := A m) (its' := A (m + 1)) (List.mem_append_right _ (List.mem_singleton.mpr rfl)) (xs' := acc ++ [y]) (by rw [eA]; exact ra.app ⟨r4, trivial⟩)
      rw [put_last h5.nd] at h6
      exact h6
    | false =>
      obtain ⟨eA, eM⟩ := S2 rfl
      rw [if_neg Bool.false_ne_true]
      refine ⟨P3, ?_, e2.trans e3⟩
      rw [eA, eM]
      exact h2.leave h3
  · obtain ⟨P', h2, e2⟩ := hw
    exact q D H' P' (e1.trans e2) (h1.newF hD) h2
/-- [e for x in range(n) if c] -/
theorem el_compRF {cnd : Expr} {elt : Expr} {x : Str} {p rpp rp : Pos} {scope : Scope} (n : Nat) {z : Int} (A : Nat → List It) (Mi : Nat → Mem) (hc : X.calm = true) (hmr : X.mg "range" = none) (hN : X.N.Nodup) (hi : EJ X N ρ M a (dI z) M1)
    (hA0 : A 0 = []) (hM0 : Mi 0 = M1) (hz : z ≤ 100000 ∧ -(2 ^ 62) ≤ z)
    (step : ∀ (m : Nat), m < z.toNat → ∃ t Mm, (∀ N' s H C cl fp, TJ (X.blk s H scope (compEnvC scope cl C X.env) fp) N' (ρ.set n (some (dI (m : Int)))) (Mi m) cnd t Mm) ∧ (A m).length ≤ m ∧
      (t = true → ∃ j, A (m + 1) = A m ++ [j] ∧ ∀ N' s H C cl fp, EJ (X.blk s H scope (compEnvC scope cl C X.env) fp) N' (ρ.set n (some (dI (m : Int)))) Mm elt j (Mi (m + 1))) ∧ (t = false → A (m + 1) = A m ∧ Mi (m + 1) = Mm))
    (ok : BlkOk X.N X.env.scope scope [(x, n)] := by exact blkOk_by (by kernel_rfl))
    (hgn : ∀ (s : Shared) (H : Hp) (C : Addr) (cl : List (Str × Addr)) (fp : List Addr), PG (X.blk s H scope (compEnvC scope cl C X.env) fp) (.Name x p) (gName n) := by exact fun _ _ _ _ _ => pg_name (by assumption) rfl (Or.inl rfl))
    (hg : Gl X "range" := by rfl) (hs : starEach [a] X.env = [(false, eval a X.env)] := by rfl)
    (hf : ∀ x, foldedSetIterable (.Call (.Name "range" rpp) [a] [] rp) X.env x = pure x := by intro _; rfl) : EL X N ρ M (.ListComp elt [⟨.Name x p, .Call (.Name "range" rpp) [a] [] rp, [cnd], 0⟩] scope pos) (A z.toNat) (Mi z.toNat) :=
  el_lc (lj_compRF n A Mi hc hmr hN hi hA0 hM0 hz step hs) (pe_lc hc hN (pi_range1 hg hmr pa_w hs) ok hgn (tt := wBT X scope cnd) (fun s H C cl fp => pts_one ⟨fun pins s1 σ1 H1 Q1 I1 h1 => h1 s H C cl fp pins s1 I1⟩) (te := wBE X scope elt) (fun s H C cl fp => ⟨fun pins s1 σ1 H1 Q1 I1 h1 => h1 s H C cl fp pins s1 I1⟩) hf)
theorem sj_setcompRF (n' : Nat) {y : Str} {py spos : Pos} {Z : Post} {rest : List Stmt} {cnd : Expr} {elt : Expr} {x : Str} {p rpp rp : Pos} {scope : Scope} (n : Nat) {z : Int} (A : Nat → List It) (Mi : Nat → Mem) (hc : X.calm = true) (hmr : X.mg "range" = none) (hN : X.N.Nodup) (hi : EJ X N ρ M a (dI z) M1)
    (hA0 : A 0 = []) (hM0 : Mi 0 = M1) (hz : z ≤ 100000 ∧ -(2 ^ 62) ≤ z)
    (step : ∀ (m : Nat), m < z.toNat → ∃ t Mm, (∀ N' s H C cl fp, TJ (X.blk s H scope (compEnvC scope cl C X.env) fp) N' (ρ.set n (some (dI (m : Int)))) (Mi m) cnd t Mm) ∧ (A m).length ≤ m ∧
      (t = true → ∃ j, A (m + 1) = A m ++ [j] ∧ ∀ N' s H C cl fp, EJ (X.blk s H scope (compEnvC scope cl C X.env) fp) N' (ρ.set n (some (dI (m : Int)))) Mm elt j (Mi (m + 1))) ∧ (t = false → A (m + 1) = A m ∧ Mi (m + 1) = Mm))
    (hr : ∀ p, p ∉ N.F → SJ X N (ρ.set n' (some (.v (.ref p)))) (Mi z.toNat ++ [(p, A z.toNat)]) rest Z)
    (hy : X.N[n']? = some y := by rfl) (hyl : X.env.scope.names.lookup y = some .local := by rfl)
    (hsw : swapsWith (.ListComp elt [⟨.Name x p, .Call (.Name "range" rpp) [a] [] rp, [cnd], 0⟩] scope pos) (some (.Name y py)) spos.line X.env = pure true := by exact sw_true rfl rfl rfl (by kernel_rfl))
    (ok : BlkOk X.N X.env.scope scope [(x, n)] := by exact blkOk_by (by kernel_rfl))
    (hgn : ∀ (s : Shared) (H : Hp) (C : Addr) (cl : List (Str × Addr)) (fp : List Addr), PG (X.blk s H scope (compEnvC scope cl C X.env) fp) (.Name x p) (gName n) := by exact fun _ _ _ _ _ => pg_name (by assumption) rfl (Or.inl rfl))
    (hg : Gl X "range" := by rfl) (hs : starEach [a] X.env = [(false, eval a X.env)] := by rfl)
    (hf : ∀ x, foldedSetIterable (.Call (.Name "range" rpp) [a] [] rp) X.env x = pure x := by intro _; rfl) : SJ X N ρ M (.Assign [.Name y py] (.ListComp elt [⟨.Name x p, .Call (.Name "range" rpp) [a] [] rp, [cnd], 0⟩] scope pos) spos :: rest) Z :=
  sj_lc n' (lj_compRF n A Mi hc hmr hN hi hA0 hM0 hz step hs) (ps_setLc (i := n') (y := y) (py := py) (spos := spos) hc hN hy hyl hsw (pi_range1 hg hmr pa_w hs) ok hgn (tt := wBT X scope cnd) (fun s H C cl fp => pts_one ⟨fun pins s1 σ1 H1 Q1 I1 h1 => h1 s H C cl fp pins s1 I1⟩) (te := wBE X scope elt) (fun s H C cl fp => ⟨fun pins s1 σ1 H1 Q1 I1 h1 => h1 s H C cl fp pins s1 I1⟩) hf) hr
theorem sj_forS {x0 : It} {ds : List PyData} (hc : X.calm = true) (hi : EJ X N ρ M iter x0 M1) (src : ∀ v P, RepI P v x0 → ∃ a xs, v = .ref a ∧ SqL X.K P a xs ∧ DnAll P xs ds) (Inv : Nat → Rho → Mem → Prop) (h0 : Inv 0 ρ M1)
    (step : ∀ n d ρ' M', ds[n]? = some d → Inv n ρ' M' → ∃ ρ2, GJ X N tg (.d d) ρ' ρ2 ∧ SJ X N ρ2 M' body { nx := Inv (n + 1), ct := Inv (n + 1), bk := fun ρ' M' => SJ X N ρ' M' rest Z, rt := Z.rt, er := Z.er })
    (done : ∀ ρ' M', Inv ds.length ρ' M' → SJ X N ρ' M' rest Z) (hp : PassesOwn (model X.prog X.w) X.A X.env X.xe := by exact PassesOwn.never) (hf : ∀ x, foldedSetIterable iter X.env x = pure x := by intro _; rfl) : SJ X N ρ M (.For tg iter body [] pos :: rest) Z := sj_cons fun σ H P hh g D E tk z => by
  refine s_of (ps_for hp hc (pi_list pe_w) pg_w pss_w hf) (hi σ H P hh g _ fun v H1 P1 e1 h1 r1 => ?_)
  obtain ⟨a, xs, rfl, x1, x2⟩ := src _ _ r1
  have xl := dnAll_len x2
  refine ⟨a, rfl, ⟨xs, exw_l h1.exw x1⟩, for_list (xs := xs) (fun n σ' H' => ∃ ρ' M' P', Inv n ρ' M' ∧ Holds N P' H' M' ∧ Slots P' σ' ρ' ∧ Ex P1 P') ⟨ρ, M1, P1, h0, h1, g.ex e1, Ex.refl _⟩ (fun n σ' H' _ hw => ?_) (fun n x σ' H' hx hw => ?_) (fun σ' H' hw => ?_)⟩
  · obtain ⟨ρ', M', P', _, h2, _, e2⟩ := hw
    exact exw_l h2.exw (ex_l e2 x1)
  · obtain ⟨ρ', M', P', w, h2, g2, e2⟩ := hw
    have nl : n < ds.length := xl ▸ (List.getElem?_eq_some_iff.mp hx).1
    obtain ⟨v', ev, dv⟩ := dnAll_get x2 (List.getElem?_eq_getElem nl)
    rw [hx] at ev
    cases Option.some.inj ev
    obtain ⟨ρ2, G, S⟩ := step n _ ρ' M' (List.getElem?_eq_getElem nl) w
    refine G x σ' H' P' M' h2 g2 (dn_ex e2 _ _ dv) _ fun σ2 g3 => ?_
    refine S σ2 H' P' h2 g3 _ E tk ⟨fun ρ4 M4 σ4 H4 P4 a e h g => ⟨ρ4, M4, P4, a, h, g, e2.trans e⟩, fun i M4 v H4 P4 a e h r => z.rt i M4 v H4 P4 a ((e1.trans e2).trans e) h r, fun ρ4 M4 σ4 H4 P4 a e h g => z.nx ρ4 M4 σ4 H4 P4 a ((e1.trans e2).trans e) h g, fun ρ4 M4 σ4 H4 P4 a e h g => ⟨ρ4, M4, P4, a, h, g, e2.trans e⟩, fun w M4 d H4 P4 C c a e h x => z.er w M4 d H4 P4 C c a ((e1.trans e2).trans e) h x⟩
  · obtain ⟨ρ', M', P', w, h2, g2, e2⟩ := hw
    rw [xl] at w
    exact z.nx ρ' M' σ' H' P' (done ρ' M' w) (e1.trans e2) h2 g2

/-- the script -/
def scr (K : PySem.W.Frag) (a : Addr) (ns : List Int) : It := .m (.ref a) (fun P => SqL K P a (ns.map V.int)) fun _ _ e h => ex_l e h
theorem dn_ints {P : Hp} : ∀ ns : List Int, DnAll P (ns.map V.int) (ns.map PyData.int)
  | [] => .nil
  | n :: r => .cons (.int n) (dn_ints r)
theorem scr_src {K : PySem.W.Frag} {a : Addr} {ns : List Int} : ∀ v P, RepI P v (scr K a ns) → ∃ a xs, v = .ref a ∧ SqL K P a xs ∧ DnAll P xs (ns.map PyData.int) := fun v P h => ⟨a, _, h.1, h.2, dn_ints ns⟩
theorem sj_nd {sts : List Stmt} (h : (M.map Prod.fst).Nodup → SJ X N ρ M sts Z) : SJ X N ρ M sts Z := fun σ H P hh => h hh.nd σ H P hh
theorem sj_is {sts : List Stmt} (h : SJ X N ρ' M' sts Z) (e1 : ρ = ρ') (e2 : M = M') : SJ X N ρ M sts Z := by
  subst e1 e2
  exact h
theorem ej_m (h : EJ X N ρ M e i M1) (q : M1 = M2) : EJ X N ρ M e i M2 := q ▸ h
/-! kinds -/
def tyD : PyData → String
  | .none => "NoneType"
  | .bool _ => "bool"
  | .int _ => "int"
  | .str _ => "str"
  | .list _ => "list"
  | .tuple _ => "tuple"
  | .dict _ => "dict"
theorem ty_of {K : PySem.W.Frag} {H : Hp} {v : V} {d : PyData} (h : Dn H v d) : TyX K H v (.type (tyD d)) := by
  cases h with
  | non => exact .base .non
  | bl b => exact .base (.bl b)
  | int i => exact .base (.int i)
  | str x => exact .base (.str x)
  | lst e _ => exact .base (.lst e)
  | tup e _ => exact .base (.tup e)
  | dic e _ =>
    rcases e with e | ⟨o, e⟩
    · exact .base (.dK e)
    · exact .fDict e
theorem ej_ty {x : Str} {T : String} (hm : X.mg x = none) (hv : bootBuiltins x = some (.type T)) (hg : Gl X x := by rfl) (hn : x ≠ "__name__" := by decide) (hd : (x == ("__debug__" : Str)) = false := by decide) : EJ X N ρ M (.Name x pos) (.v (.ty T)) M := fun σ H P h g Q q =>
  e_of (pe_bltn (v := .ty T) hg hm hv rfl hn hd) (q _ H P (Ex.refl P) h rfl)
theorem ej_isi {p q : Pos} {d : PyData} {T : String} {r : Bool} (hm : X.mg "isinstance" = none) (ha : EJ X N ρ M a (.d d) M1) (hb : EJ X N ρ M1 b (.v (.ty T)) M2) (hk : kitB (tyD d) T = some r) (hg : Gl X "isinstance" := by rfl) (he : starEach [a, b] X.env = (false, eval a X.env) :: starEach [b] X.env := by rfl)
    (he2 : starEach [b] X.env = [(false, eval b X.env)] := by rfl) (hpl : (backTo q (starEach [b] X.env)).any (·.1) = false := by rfl) : EJ X N ρ M (.Call (.Name "isinstance" p) [a, b] [] q) (dB r) M2 :=
  ej_callB call_isi hm (by decide +kernel) (aj_cons ha (aj_cons hb aj_nil he2) he) (fun vs H P h rr Q q => by
    obtain ⟨x, y, rfl, r1, r2⟩ := ri2 rr
    cases (show y = .ty T from r2)
    exact ⟨x, .ty T, _, _, r, rfl, .ty T, ty_of (dnw_ex h.exw d x r1), kit_ty hk, q _ H P (Ex.refl P) h (.bl _)⟩) hg (by decide) (by decide) he hpl
theorem ej_isB (ha : EJ X N ρ M a (dB t) M1) (hb : EJ X N ρ M1 b (dB u) M2) : EJ X N ρ M (.Compare a [.Is] [b] pos) (dB (decide (t = u))) M2 := ej_cmp op_isBl (nomark _) ha hb fun x y H P h rx ry Q q => ⟨t, u, ri_bl rx, ri_bl ry, q _ H P (Ex.refl P) h (.bl _)⟩
theorem tj_isB (ha : EJ X N ρ M a (dB t) M1) (hb : EJ X N ρ M1 b (dB u) M2) : TJ X N ρ M (.Compare a [.Is] [b] pos) (decide (t = u)) M2 := tj_cmp op_isBl (nomark _) ha hb fun x y H P h rx ry Q q => ⟨t, u, ri_bl rx, ri_bl ry, q _ H P (Ex.refl P) h (.bl _)⟩
theorem tj_notB (ha : EJ X N ρ M a (dB t) M1) (hb : EJ X N ρ M1 b (dB u) M2) : TJ X N ρ M (.Compare a [.IsNot] [b] pos) (!decide (t = u)) M2 := tj_cmp op_notBl (nomark _) ha hb fun x y H P h rx ry Q q => ⟨t, u, ri_bl rx, ri_bl ry, q _ H P (Ex.refl P) h (.bl _)⟩
/-! concatenation, repetition, slices -/
theorem rj_catT {ds es : List PyData} (h0 : ds ≠ []) (hz : ds.length + es.length ≤ 100000) : RJ N (rCatT X.K) M (.d (.tuple ds)) (.d (.tuple es)) (.d (.tuple (ds ++ es))) M := fun x y H P h rx ry Q q => by
  obtain ⟨a, xs, rfl, h1, h2⟩ := ri_tup rx
  obtain ⟨b, ys, rfl, h3, h4⟩ := ri_tup ry
  have l1 := dnAll_len h2
  have l2 := dnAll_len h4
  refine ⟨a, b, xs, ys, rfl, rfl, .inl (.inl (h.ex _ _ h1)), .inl (.inl (h.ex _ _ h3)), fun e => h0 ?_, by rw [l1, l2]; exact Nat.le_trans hz (by decide), fun e => ?_, fun _ p hp => ?_⟩
  · rw [e] at l1
    exact List.length_eq_zero_iff.mp l1.symm
  · rw [e] at l2
    have : es = [] := List.length_eq_zero_iff.mp l2.symm
    subst this
    rw [List.append_nil] at q
    exact q _ H P (Ex.refl P) h (.tup h1 h2)
  · obtain ⟨h5, e5⟩ := h.pers (o := .tup (xs ++ ys)) hp
    exact q _ _ _ e5 h5 (.tup upd_same (dnAll_ex e5 _ _ (h2.app h4)))
theorem ej_catT {ds es : List PyData} (ha : EJ X N ρ M a (.d (.tuple ds)) M1) (hb : EJ X N ρ M1 b (.d (.tuple es)) M2) (h0 : ds ≠ []) (hz : ds.length + es.length ≤ 100000) : EJ X N ρ M (.BinOp a .Add b pos) (.d (.tuple (ds ++ es))) M2 := ej_op op_catT ha hb (rj_catT h0 hz)
theorem el_op {op : Operator} {r : R2} {is : List It} (ho : OpR X (binaryOp op) r) (ha : EJ X N ρ M a i M1) (hb : EJ X N ρ M1 b j M2)
    (hr : ∀ x y H P, Holds N P H M2 → RepI P x i → RepI P y j → ∀ Q : VK, (∀ xs, RepIs P xs is → ∀ p, H p = none → Q (.ref p) (upd H p (.lst xs))) → r x y H Q) : EL X N ρ M (.BinOp a op b pos) is M2 := fun σ H P h g Q q =>
  e_of (pe_op ho pe_w pe_w) (ha σ H P h g _ fun x H1 P1 e1 h1 r1 => hb σ H1 P1 h1 (g.ex e1) _ fun y H2 P2 e2 h2 r2 =>
    hr x y H2 P2 h2 (r1.ex e2) r2 Q fun xs rs p hp => q p _ P2 (e1.trans e2) (h2.newF hp) (h2.own hp rs))
theorem el_cat {ds es : List PyData} (ha : EJ X N ρ M a (.d (.list ds)) M1) (hb : EJ X N ρ M1 b (.d (.list es)) M2) (hz : ds.length + es.length ≤ 100000) : EL X N ρ M (.BinOp a .Add b pos) ((ds ++ es).map It.d) M2 :=
  el_op op_cat ha hb fun x y H P h rx ry Q q => by
    obtain ⟨a, xs, rfl, h1, h2⟩ := ri_lst rx
    obtain ⟨b, ys, rfl, h3, h4⟩ := ri_lst ry
    exact ⟨a, b, xs, ys, rfl, rfl, h.ex _ _ h1, h.ex _ _ h3, by rw [dnAll_len h2, dnAll_len h4]; exact Nat.le_trans hz (by decide), fun p hp => q _ (RepIs.of_all (h2.app h4)) p hp⟩
theorem el_rep {ds : List PyData} {n : Int} (ha : EJ X N ρ M a (.d (.list ds)) M1) (hb : EJ X N ρ M1 b (dI n) M2) (h1 : -(2 ^ 63) ≤ n) (h2 : n < 2 ^ 63) (hz : ds.length * n.toNat ≤ 100000) : EL X N ρ M (.BinOp a .Mult b pos) (((List.replicate n.toNat ds).flatten).map It.d) M2 :=
  el_op op_rep ha hb fun x y H P h rx ry Q q => by
    obtain ⟨a, xs, rfl, h3, h4⟩ := ri_lst rx
    exact ⟨a, n, xs, rfl, ri_int ry, h.ex _ _ h3, h1, h2, by rw [dnAll_len h4]; exact Nat.le_trans hz (by decide), fun p hp => q _ (RepIs.of_all (h4.rep _)) p hp⟩
def OJ (X : Cx) (N : Ent) (ρ : Rho) (M : Mem) (e : Option Expr) (o : Option Int) (M' : Mem) : Prop :=
  ∀ σ H P, Holds N P H M → Slots P σ ρ → ∃ to : TO, PO X e to ∧ ∀ Q : Option Int → Hp → Prop, (∀ H' P', Ex P P' → Holds N P' H' M' → Q o H') → to σ H Q
def cutD (ds : List PyData) (lo hi : Option Int) : List PyData := (ds.drop (HT.sIx ds.length 0 lo)).take (HT.sIx ds.length ds.length hi - HT.sIx ds.length 0 lo)
theorem DnAll.cut {P : Hp} {xs : List V} {ds : List PyData} (h : DnAll P xs ds) (lo hi : Option Int) : DnAll P (cutV xs lo hi) (cutD ds lo hi) := by
  unfold cutV cutD
  rw [dnAll_len h]
  exact (h.drop _).take _
/-- t[lo:hi], the parts written ints or none -/
theorem ej_slT {ds : List PyData} {lo hi : Option Expr} {l h : Option Int} {tl th : TO} {p2 : Pos} (ha : EJ X N ρ M a (.d (.tuple ds)) M1) (pl : PO X lo tl) (ph : PO X hi th) (el : ∀ σ H Q, Q l H → tl σ H Q) (eh : ∀ σ H Q, Q h H → th σ H Q)
    (hw : ¬ (HT.sIx ds.length 0 l = 0 ∧ HT.sIx ds.length ds.length h = ds.length)) : EJ X N ρ M (.Subscript a (.Slice lo hi none p2) pos) (.d (.tuple (cutD ds l h))) M1 := fun σ H P hh g Q q =>
  e_of (pe_slice sl_tup pe_w pl ph) (ha σ H P hh g _ fun x H1 P1 e1 h1 r1 => el _ _ _ (eh _ _ _ (by
    obtain ⟨a, xs, rfl, h3, h4⟩ := ri_tup r1
    refine ⟨a, xs, rfl, .inl (.inl (h1.ex _ _ h3)), by rw [dnAll_len h4]; exact hw, fun p hp => ?_⟩
    obtain ⟨h5, e5⟩ := h1.pers (o := .tup (cutV xs l h)) hp
    exact q _ _ _ (e1.trans e5) h5 (.tup upd_same (dnAll_ex e5 _ _ (h4.cut l h))))))
theorem el_slL {ds : List PyData} {lo hi : Option Expr} {l h : Option Int} {tl th : TO} {p2 : Pos} (ha : EJ X N ρ M a (.d (.list ds)) M1) (pl : PO X lo tl) (ph : PO X hi th) (el : ∀ σ H Q, Q l H → tl σ H Q) (eh : ∀ σ H Q, Q h H → th σ H Q) :
    EL X N ρ M (.Subscript a (.Slice lo hi none p2) pos) ((cutD ds l h).map It.d) M1 := fun σ H P hh g Q q =>
  e_of (pe_slice sl_list pe_w pl ph) (ha σ H P hh g _ fun x H1 P1 e1 h1 r1 => el _ _ _ (eh _ _ _ (by
    obtain ⟨a, xs, rfl, h3, h4⟩ := ri_lst r1
    exact ⟨a, xs, rfl, .inl (.inl (h1.ex _ _ h3)), fun p hp => q p _ P1 e1 (h1.newF hp) (h1.own hp (RepIs.of_all (h4.cut l h)))⟩)))
/-- list(t), list(xs) -/
theorem el_listT {p q : Pos} {ds : List PyData} (hm : X.mg "list" = none) (ha : EJ X N ρ M a (.d (.tuple ds)) M1) (hg : Gl X "list" := by rfl) (he : starEach [a] X.env = [(false, eval a X.env)] := by rfl) (hpl : (backTo q (starEach ([] : List Expr) X.env)).any (·.1) = false := by rfl) :
    EL X N ρ M (.Call (.Name "list" p) [a] [] q) (ds.map It.d) M1 := fun σ H P hh g Q k =>
  e_of (pe_callTy call_list_of hg hm (by decide +kernel) pa_w (by decide) (by decide) he hpl) (aj_cons ha aj_nil he σ H P hh g _ fun vs H1 P1 e1 h1 r1 => by
    obtain ⟨x, rfl, r2⟩ := ri1 r1
    obtain ⟨y, ys, rfl, h3, h4⟩ := ri_tup r2
    exact ⟨y, ys, rfl, .inr (.inl (.inl (h1.ex _ _ h3))), fun l hl => k l _ P1 e1 (h1.newF hl) (h1.own hl (RepIs.of_all h4))⟩)
theorem el_listL {p q : Pos} {ds : List PyData} (hm : X.mg "list" = none) (ha : EJ X N ρ M a (.d (.list ds)) M1) (hg : Gl X "list" := by rfl) (he : starEach [a] X.env = [(false, eval a X.env)] := by rfl) (hpl : (backTo q (starEach ([] : List Expr) X.env)).any (·.1) = false := by rfl) :
    EL X N ρ M (.Call (.Name "list" p) [a] [] q) (ds.map It.d) M1 := fun σ H P hh g Q k =>
  e_of (pe_callTy call_list_of hg hm (by decide +kernel) pa_w (by decide) (by decide) he hpl) (aj_cons ha aj_nil he σ H P hh g _ fun vs H1 P1 e1 h1 r1 => by
    obtain ⟨x, rfl, r2⟩ := ri1 r1
    obtain ⟨y, ys, rfl, h3, h4⟩ := ri_lst r2
    exact ⟨y, ys, rfl, .inl (.inl (.inl (h1.ex _ _ h3))), fun l hl => k l _ P1 e1 (h1.newF hl) (h1.own hl (RepIs.of_all h4))⟩)
/-- == of data -/
theorem ej_eqD {d d' : PyData} (hr : X.A.units + 64 < cLine) (ha : EJ X N ρ M a i M1) (hb : EJ X N ρ M1 b j M2) (hi : Rd1 M2 i d) (hj : Rd1 M2 j d') (s1 : plainD d = true) (s2 : plainD d' = true) : EJ X N ρ M (.Compare a [.Eq] [b] pos) (dB (PyData.eqv d d')) M2 := ej_cmp (op_eqD hr) (nomark _) ha hb (rj_eqD hi hj s1 s2)
theorem tj_eqD {d d' : PyData} (hr : X.A.units + 64 < cLine) (ha : EJ X N ρ M a i M1) (hb : EJ X N ρ M1 b j M2) (hi : Rd1 M2 i d) (hj : Rd1 M2 j d') (s1 : plainD d = true) (s2 : plainD d' = true) : TJ X N ρ M (.Compare a [.Eq] [b] pos) (PyData.eqv d d') M2 := tj_cmp (op_eqD hr) (nomark _) ha hb (rj_eqD hi hj s1 s2)
theorem tj_neD {d d' : PyData} (hr : X.A.units + 64 < cLine) (ha : EJ X N ρ M a i M1) (hb : EJ X N ρ M1 b j M2) (hi : Rd1 M2 i d) (hj : Rd1 M2 j d') (s1 : plainD d = true) (s2 : plainD d' = true) : TJ X N ρ M (.Compare a [.NotEq] [b] pos) (!PyData.eqv d d') M2 := tj_cmp (op_neD hr) (nomark _) ha hb (rj_neD hi hj s1 s2)
/-- xs.pop(i), xs one's own -/
theorem sj_popAt {ap epos : Pos} {p : Addr} {is : List It} {n : Nat} (ho : EJ X N ρ M a (.v (.ref p)) M) (he : EJ X N ρ M e (dI (n : Int)) M) (hm : (p, is) ∈ M) (hn : n < is.length) (hz : is.length < 100000) (hr : SJ X N ρ (M.put p (is.eraseIdx n)) rest Z) (hs : swapsWith (.Call (.Attribute a "pop" ap) [e] [] pos) none epos.line X.env = pure false := by rfl)
    (hst : starEach [e] X.env = [(false, eval e X.env)] := by rfl) (ps : PE X (.Call (.Attribute a "pop" ap) [e] [] pos) (tBM X.K "list" rPopAt (wE X a) (wA X [e])) := by exact pe_bm PySem.F.plainAttrs_list PySem.F.slot_list_pop PySem.F.type_list_pop mt_popAt pe_w pa_w) : SJ X N ρ M (.Expr (.Call (.Attribute a "pop" ap) [e] [] pos) epos :: rest) Z := sj_cons fun σ H P hh g D E tk z => by
  refine s_of (ps_expr ps hs) (ho σ H P hh g _ fun v H1 P1 e1 h1 r1 => ?_)
  cases (show v = .ref p from r1)
  obtain ⟨ys, ey, _⟩ := h1.cell hm
  refine ⟨.inl ⟨rfl, ys, .inl (.inl ey)⟩, ?_⟩
  refine aj_cons he aj_nil hst σ H1 P1 h1 (g.ex e1) _ fun vs H2 P2 e2 h2 r2 => ?_
  obtain ⟨y, rfl, r3⟩ := ri1 r2
  cases ri_int r3
  obtain ⟨xs, e3, r4⟩ := h2.cell hm
  have z4 := r4.len
  have hx : n < xs.length := by omega
  refine ⟨p, xs, (n : Int), n, xs[n], rfl, rfl, e3, by omega, by omega, ?_, List.getElem?_eq_getElem hx, ?_⟩
  · have q := (HT.seqIx n xs.length hx)
    exact q
  · exact z.nx ρ _ σ _ P2 hr (e1.trans e2) (h2.write hm (r4.erase n)) (g.ex (e1.trans e2))
end
end Kt

/-! Kt8: defs that hand back cells of their own; the law itself. -/
namespace Kt
open PySem PySem.Spec PyProof.Rows L2
abbrev Pre := List It → Mem → Prop
def spN (A : Pre) (B : Co) : Sp := fun vs H Q _ => ∃ (P : Hp) (is : List It) (M : Mem), Holds (inner P H M) P H M ∧ RepIs P vs is ∧ A is M ∧ ∀ i M' v H' P', B is M i M' → Holds (inner P H M) P' H' M' → RepI P' v i → Q v H'
structure DefN (P : Program) (w : World) (K : PySem.W.Frag) (mg : Str → Option Value) (base : Heap) (x : Str) (k : Nat) (A : Pre) (B : Co) : Prop where
  ex : ∃ f fd ps, FnOk P w K mg base CX0 k f fd ps (spN A B) ∧ mg x = some (.ref f) ∧ PySem.W.keepIn K (.ref f) = true ∧ Binds K fd ps []
def MSub (M' M'' : Mem) : Prop := (∀ c ∈ M', c ∈ M'') ∧ ((M''.map Prod.fst).Nodup → (M'.map Prod.fst).Nodup)
theorem defN_ok {P : Program} {w : World} {K : PySem.W.Frag} {mg : Str → Option Value} {base : Heap} {x qual : Str} {st : Stmt} {f : Addr} {fd : FuncData} {NN ps : List Str} {l : Nat} {A : Pre} {B : Co} (F : Fun K x qual st f fd) (S : FnScope NN ps (defScope st))
    (hm : mg x = some (.ref f)) (hb : Binds K fd ps []) (len : ∀ is M, A is M → is.length = ps.length) (keep : ∀ is M i M', A is M → B is M i M' → ∀ a ∈ M.map Prod.fst, a ∈ M'.map Prod.fst)
    (body : ∀ X : Cx, (∃ cdv A outer s H E, X = (cxOf CX0 P w K mg base NN qual (defScope st) f cdv A outer s H E).nox ∧ Room l X.A) → ∀ N is M, N.F = M.map Prod.fst → A is M → SJ X N (rho NN is) M (defBody st) { nx := fun _ M'' => ∃ M', B is M (.d .none) M' ∧ MSub M' M'', rt := fun i M'' => ∃ M', B is M i M' ∧ MSub M' M'' }) : DefN P w K mg base x (l + 1) A B := by
  refine ⟨f, fd, ps, F.ok S (fun vs H Q E h => ?_) (fun cdv A outer s H vs Q E hr h => ?_), hm, F.kp, hb⟩
  · obtain ⟨P0, is, M, h0, r, hA, _⟩ := h
    rw [r.len]
    exact len _ _ hA
  · obtain ⟨P0, is, M, h0, r, hA, q⟩ := h
    refine ⟨_, pss_w, ?_⟩
    have es : L2.start NN vs = vs.map some ++ List.replicate (NN.length - is.length) none := by
      unfold L2.start
      rw [r.len]
    rw [es]
    refine body _ ⟨cdv, A, outer, s, H, E, rfl, hr⟩ (inner P0 H M) is M rfl hA _ H P0 h0 (slots_start _ r) _ E0 takes0 ⟨fun ρ' M'' σ' H' P' a e hh g => ?_, fun i' M'' v H' P' a e hh rr => ?_, fun _ _ _ _ _ a => a.elim, fun _ _ _ _ _ a => a.elim, fun _ _ _ _ _ _ _ a => a.elim⟩
    · obtain ⟨M', hB, s1, s2⟩ := a
      exact q _ _ _ H' P' hB (hh.sub s1 (s2 hh.nd) fun a ha => keep _ _ _ _ hA hB a ha) .non
    · obtain ⟨M', hB, s1, s2⟩ := a
      exact q _ _ _ H' P' hB (hh.sub s1 (s2 hh.nd) fun a ha => keep _ _ _ _ hA hB a ha) rr
section
variable {X : Cx} {N : Ent} {ρ ρ' : Rho} {M M1 M2 M3 M' Mc Mr Mc' : Mem} {a b c e : Expr} {pos p pos' : Pos} {i j k : It} {t u : Bool} {Z : Post} {body rest : List Stmt} {es : List Expr} {is : List It}
/-- x = f(..), f handing back cells -/
theorem sj_setN (n : Nat) {x y : Str} {l : Nat} {A : Pre} {B : Co} (hN : X.N.Nodup) (F : DefN X.prog X.w X.K X.mg X.base y l A B) (hr : Room l X.A) (ha : AJ X N ρ M (e :: es) is M1) (hM : M1 = Mc ++ Mr) (hA : A is Mc)
    (hk : ∀ i Mc', B is Mc i Mc' → SJ X N (ρ.set n (some i)) (Mc' ++ Mr) rest Z) (hi : X.N[n]? = some x := by rfl) (hx : Loc X.env.scope x := by first | exact .inl rfl | exact .inr rfl)
    (hs : swapsWith (.Call (.Name y p) (e :: es) [] pos) (some (.Name x pos')) pos.line X.env = pure false := by rfl) (hf : X.fn x = true ∨ X.env.scope.names.lookup x = some .local := by first | exact .inl rfl | exact .inr rfl)
    (hg : Gl X y := by rfl) (hdb : (y == ("__debug__" : Str)) = false := by decide) (he : starEach (e :: es) X.env = (false, eval e X.env) :: starEach es X.env := by rfl) (hpl : (backTo pos (starEach es X.env)).any (·.1) = false := by rfl) {spos : Pos}
    (hs2 : swapsWith (.Call (.Name y p) (e :: es) [] pos) (some (.Name x pos')) spos.line X.env = pure false := by rfl) :
    SJ X N ρ M (.Assign [.Name x pos'] (.Call (.Name y p) (e :: es) [] pos) spos :: rest) Z := sj_cons fun σ H P hh g D E tk z => by
  obtain ⟨f, fd, ps, F1, hm, hkp, hb⟩ := F.ex
  refine s_of (ps_set (i := n) hN hi hx (pe_call F1 hr hg hm hkp hb .nil pass0 pa_w hdb he hpl) hs2 hf) (ha σ H P hh g _ fun vs H1 P1 e1 h1 r1 => ?_)
  subst hM
  refine ⟨P1, is, Mc, h1.enter, ?_, hA, fun i M' v H' P' hB h' r' => ?_⟩
  · rw [List.append_nil]; exact r1
  · exact z.nx _ _ _ _ P' (hk i M' hB) (e1.trans h'.ex0) (h1.leave h') ((g.ex (e1.trans h'.ex0)).set r' n)
/-- return [a, b], a a new list -/
theorem sj_retLL {lp : Pos} (ha : EL X N ρ M a is M1) (hb : ∀ p, EJ X N ρ (M1 ++ [(p, is)]) b j (M1 ++ [(p, is)])) (h : ∀ p q, Z.rt (.v (.ref q)) (M1 ++ [(p, is)] ++ [(q, [.v (.ref p), j])]))
    (he : starEach [a, b] X.env = (false, eval a X.env) :: starEach [b] X.env := by rfl) (he2 : starEach [b] X.env = [(false, eval b X.env)] := by rfl) : SJ X N ρ M (.Return (some (.List [a, b] lp)) pos :: rest) Z := sj_cons fun σ H P hh g D E tk z =>
  s_of (ps_ret (pe_lst (pa_cons pe_w (pa_cons pe_w pa_nil he2) he))) (ha σ H P hh g _ fun p H1 P1 e1 hp h1 => hb p σ H1 P1 h1 (g.ex e1) _ fun v2 H2 P2 e2 h2 r2 => ⟨(by show 2 ≤ sizeLine; decide), fun q hq => z.rt _ _ _ _ P2 (h p q) (e1.trans e2) (h2.own hq ⟨rfl, r2, trivial⟩) rfl⟩)
end
/-- the law -/
theorem nz_only {H : Hp} (h : Only H) : NzD H := fun a od kvs e => by
  rcases h a with k | ⟨o, xs, k⟩
  · rw [k] at e; cases e
  · rw [k] at e; cases e
def spLaw (K : PySem.W.Frag) : Sp := fun vs H Q _ => ∃ (a : Addr) (ns : List Int), vs = [.ref a] ∧ SqL K H a (ns.map V.int) ∧ ns.length ≤ 63 ∧ NzD H ∧ ∀ H', Q (.bl true) H'
theorem law_ok {P : Program} {w : World} {K : PySem.W.Frag} {mg : Str → Option Value} {base : Heap} {st : Stmt} {f : Addr} {fd : FuncData} {NN : List Str} {l : Nat} (F : Fun K "law" "law" st f fd) (S : FnScope NN ["script"] (defScope st))
    (body : ∀ X : Cx, (∃ cdv A outer s H E, X = (cxOf CX0 P w K mg base NN "law" (defScope st) f cdv A outer s H E).nox ∧ Room l X.A) → ∀ N a ns, N.F = [] → ns.length ≤ 63 → SJ X N (rho NN [scr K a ns]) [] (defBody st) { nx := fun _ _ => False, rt := fun i _ => i = dB true }) : FnOk P w K mg base CX0 (l + 1) f fd ["script"] (spLaw K) := by
  refine F.ok S (fun vs H Q E h => ?_) (fun cdv A outer s H vs Q E hr h => ?_)
  · obtain ⟨a, ns, rfl, _⟩ := h
    rfl
  · obtain ⟨a, ns, rfl, hS, hl, nz, q⟩ := h
    refine ⟨_, pss_w, ?_⟩
    have h0 : Holds (inner H H []) H H [] := ⟨(Ex.refl H).w, Ex.refl H, fun _ _ e _ => e, fun _ e f => absurd e f, fun _ hc => absurd hc (List.not_mem_nil), List.nodup_nil, fun _ ha => ha, fun _ hc => absurd hc (List.not_mem_nil), fun _ _ _ e => e, nz⟩
    have es : L2.start NN [V.ref a] = ([V.ref a] : List V).map some ++ List.replicate (NN.length - ([scr K a ns] : List It).length) none := rfl
    rw [es]
    refine body _ ⟨cdv, A, outer, s, H, E, rfl, hr⟩ (inner H H []) a ns rfl hl _ H H h0 (slots_start (vs := [V.ref a]) (is := [scr K a ns]) _ ⟨⟨rfl, hS⟩, trivial⟩) _ E0 takes0 ⟨fun _ _ _ _ _ a => a.elim, fun i' M'' v H' P' e _ hh rr => ?_, fun _ _ _ _ _ a => a.elim, fun _ _ _ _ _ a => a.elim, fun _ _ _ _ _ _ _ a => a.elim⟩
    subst e
    rw [ri_bl rr]
    exact q H'
end Kt
namespace Kt
open PySem PySem.Spec PyProof.Rows L2
section
variable {X : Cx} {N : Ent} {ρ ρ' : Rho} {M M1 M2 M3 M' Mc Mr Mc' : Mem} {a b c e : Expr} {pos p pos' : Pos} {i j k : It} {t u : Bool}
theorem rj_eqS {n m : Str} : RJ N rEq M (.d (.str n)) (.d (.str m)) (dB (decide (n = m))) M := fun x y H P h rx ry Q q => by
  cases ri_str rx
  cases ri_str ry
  refine ⟨rfl, q _ H P (Ex.refl P) h ?_⟩
  have e : decide (V.str n = V.str m) = decide (n = m) := by
    by_cases z : n = m
    · subst z; simp
    · simp [z]
  rw [e]
  exact .bl _
theorem ej_eqS {n m : Str} (ha : EJ X N ρ M a (.d (.str n)) M1) (hb : EJ X N ρ M1 b (.d (.str m)) M2) : EJ X N ρ M (.Compare a [.Eq] [b] pos) (dB (decide (n = m))) M2 := ej_cmp op_eq (nomark _) ha hb rj_eqS
theorem tj_eqS {n m : Str} (ha : EJ X N ρ M a (.d (.str n)) M1) (hb : EJ X N ρ M1 b (.d (.str m)) M2) : TJ X N ρ M (.Compare a [.Eq] [b] pos) (decide (n = m)) M2 := tj_cmp op_eq (nomark _) ha hb rj_eqS
end
theorem kit_int (d : PyData) : kitB (tyD d) "int" = some (decide (tyD d = "int" ∨ tyD d = "bool")) := by cases d <;> kernel_rfl
theorem kit_bool (d : PyData) : kitB (tyD d) "bool" = some (decide (tyD d = "bool")) := by cases d <;> kernel_rfl
theorem kit_str (d : PyData) : kitB (tyD d) "str" = some (decide (tyD d = "str")) := by cases d <;> kernel_rfl
theorem kit_tuple (d : PyData) : kitB (tyD d) "tuple" = some (decide (tyD d = "tuple")) := by cases d <;> kernel_rfl
theorem kit_list (d : PyData) : kitB (tyD d) "list" = some (decide (tyD d = "list")) := by cases d <;> kernel_rfl
end Kt

/-! Kt9: comprehensions with a pair as a target; with two clauses. -/
namespace Kt
open PySem PySem.Spec PyProof.Rows L2
section
variable {X : Cx} {N : Ent} {ρ ρ' : Rho} {M M1 M2 M3 M' Mc Mr Mc' : Mem} {a b c e elt iter iter1 : Expr} {pos p pos' : Pos} {i j k : It} {t u : Bool} {scope : Scope}
theorem two_set {σ : L2.St} {n1 n2 : Nat} {v1 v2 : V} (ne : n1 ≠ n2) : ((wipe σ [n1, n2]).set n1 (some v1)).set n2 (some v2) = (σ.set n1 (some v1)).set n2 (some v2) := by
  show ((((σ.set n2 none).set n1 none).set n1 (some v1)).set n2 (some v2)) = _
  rw [List.set_set, List.set_comm _ _ ne.symm, List.set_set]
theorem two_wipe {σ : L2.St} {n1 n2 : Nat} {v1 v2 : V} (ne : n1 ≠ n2) : wipe (((wipe σ [n1, n2]).set n1 (some v1)).set n2 (some v2)) [n1, n2] = wipe σ [n1, n2] := by
  rw [two_set ne]
  show ((((σ.set n1 (some v1)).set n2 (some v2)).set n2 none).set n1 none) = (σ.set n2 none).set n1 none
  rw [List.set_set, List.set_comm _ _ ne, List.set_set, List.set_comm _ _ ne.symm]
/-- [e for x, y in a list of pairs] -/
theorem lj_compP (n1 n2 : Nat) {ds : List PyData} (A : Nat → List It) (Mi : Nat → Mem) (hc : X.calm = true) (hN : X.N.Nodup) (ne : n1 ≠ n2) (hi : EJ X N ρ M iter (.d (.list ds)) M1)
    (hA0 : A 0 = []) (hM0 : Mi 0 = M1) (hz : ds.length ≤ 100000)
    (step : ∀ (m : Nat) d, ds[m]? = some d → ∃ x y j, d = .tuple [x, y] ∧ A (m + 1) = A m ++ [j] ∧ (A m).length ≤ m ∧ ∀ N' s H C cl fp, EJ (X.blk s H scope (compEnvC scope cl C X.env) fp) N' ((ρ.set n1 (some (.d x))).set n2 (some (.d y))) (Mi m) elt j (Mi (m + 1)))
    : LJ X N ρ M (tLc (iList X.K (wE X iter)) (gTup X.K 2 (gCons (gName n1) (gCons (gName n2) gNil))) tYes (wBE X scope elt) [n1, n2]) (A ds.length) (Mi ds.length) := fun σ H P hh g Q q => by
  refine (hi σ H P hh g _ fun v H1 P1 e1 h1 r1 => ?_)
  obtain ⟨a, xs, rfl, x1, x2⟩ := ri_lst r1
  have xl := dnAll_len x2
  refine ⟨a, rfl, ⟨xs, .inl (.inl (h1.ex _ _ x1))⟩, fun D hD => lc_list (xs := xs) (fun m H' => ∃ P', Holds N P' H' (Mi m ++ [(D, A m)]) ∧ Ex P1 P') ⟨P1, by rw [hA0, hM0]; exact h1.own hD (its := []) trivial, Ex.refl _⟩ (fun m H' _ hw => ?_) (fun m x' H' hx hw => ?_) (fun H' hw => ?_)⟩
  · obtain ⟨P', h2, e2⟩ := hw
    exact .inl (.inl (h2.ex _ _ (e2 _ _ x1)))
  · obtain ⟨P', h2, e2⟩ := hw
    have nl : m < ds.length := xl ▸ (List.getElem?_eq_some_iff.mp hx).1
    obtain ⟨v', ev, dv⟩ := dnAll_get x2 (List.getElem?_eq_getElem nl)
    rw [hx] at ev
    cases Option.some.inj ev
    obtain ⟨dx, dy, j, ed, eA, lA, S⟩ := step m _ (List.getElem?_eq_getElem nl)
    rw [ed] at dv
    obtain ⟨ta, ts, rfl, t1, t2⟩ := ri_tup (show RepI P1 x' (.d (.tuple [dx, dy])) from dv)
    cases t2 with
    | cons k1 kr =>
      cases kr with
      | cons k2 kn =>
        cases kn
        refine ⟨ta, _, rfl, .inl (.inl (h2.ex _ _ (e2 _ _ t1))), rfl, _, _, rfl, _, _, rfl, rfl, two_wipe ne, ?_⟩
        unfold tYes
        dsimp only
        rw [if_pos rfl]
        intro s H0 C cl fp
        refine S (inner P' H' (Mi m)) s H0 C cl fp _ H' P' h2.enter (by rw [two_set ne]; exact ((g.ex (e1.trans e2)).set (it := .d dx) (dn_ex e2 _ _ k1) n1).set (it := .d dy) (dn_ex e2 _ _ k2) n2) _ fun y H4 P4 e4 h4 r4 => ?_
        have h5 := h2.leave h4
        obtain ⟨acc, ea, ra⟩ := h5.cell (a := D) (its := A m) (List.mem_append_right _ (List.mem_singleton.mpr rfl))
        refine ⟨acc, ea, by rw [ra.len]; exact Nat.lt_of_lt_of_le (Nat.lt_of_le_of_lt lA (Nat.lt_of_lt_of_le nl hz)) (by decide), P4, ?_, e2.trans e4⟩
        have h6 := h5.write (a := D) (its := A m) (its' := A (m + 1)) (List.mem_append_right _ (List.mem_singleton.mpr rfl)) (xs' := acc ++ [y]) (by rw [eA]; exact ra.app ⟨r4, trivial⟩)
        rw [put_last h5.nd] at h6
        exact h6
  · obtain ⟨P', h2, e2⟩ := hw
    rw [xl] at h2
    exact q D H' P' (e1.trans e2) (h1.newF hD) h2
theorem el_compP {x y : Str} {px py tp : Pos} {tk : Nat} (n1 n2 : Nat) {ds : List PyData} (A : Nat → List It) (Mi : Nat → Mem) (hc : X.calm = true) (hN : X.N.Nodup) (ne : n1 ≠ n2) (hi : EJ X N ρ M iter (.d (.list ds)) M1)
    (hA0 : A 0 = []) (hM0 : Mi 0 = M1) (hz : ds.length ≤ 100000)
    (step : ∀ (m : Nat) d, ds[m]? = some d → ∃ x y j, d = .tuple [x, y] ∧ A (m + 1) = A m ++ [j] ∧ (A m).length ≤ m ∧ ∀ N' s H C cl fp, EJ (X.blk s H scope (compEnvC scope cl C X.env) fp) N' ((ρ.set n1 (some (.d x))).set n2 (some (.d y))) (Mi m) elt j (Mi (m + 1)))
    (ok : BlkOk X.N X.env.scope scope [(x, n1), (y, n2)] := by exact blkOk_by (by kernel_rfl))
    (hgn : ∀ (s : Shared) (H : Hp) (C : Addr) (cl : List (Str × Addr)) (fp : List Addr), PG (X.blk s H scope (compEnvC scope cl C X.env) fp) (.Tuple [.Name x px, .Name y py] tk tp) (gTup X.K 2 (gCons (gName n1) (gCons (gName n2) gNil))) := by exact fun _ _ _ _ _ => pg_tup (by rfl) (pgs_cons (pg_name (by assumption) rfl (Or.inl rfl)) (pgs_cons (pg_name (by assumption) rfl (Or.inl rfl)) pgs_nil)))
    (hf : ∀ x, foldedSetIterable iter X.env x = pure x := by intro _; rfl) : EL X N ρ M (.ListComp elt [⟨.Tuple [.Name x px, .Name y py] tk tp, iter, [], 0⟩] scope pos) (A ds.length) (Mi ds.length) :=
  el_lc (lj_compP n1 n2 A Mi hc hN ne hi hA0 hM0 hz step) (pe_lc hc hN (pi_list pe_w) ok hgn (fun _ _ _ _ _ => pts_nil) (te := wBE X scope elt) (fun s H C cl fp => ⟨fun pins s1 σ1 H1 Q1 I1 h1 => h1 s H C cl fp pins s1 I1⟩) hf)
/-- [e for x in t for y in x], tuples of tuples, cells as they stand -/
def flat2 (f : PyData → PyData → PyData) : List PyData → List PyData
  | [] => []
  | .tuple l :: r => l.map (f (.tuple l)) ++ flat2 f r
  | _ :: r => flat2 f r
theorem flat2_app (f : PyData → PyData → PyData) : ∀ a b : List PyData, flat2 f (a ++ b) = flat2 f a ++ flat2 f b
  | [], b => rfl
  | d :: r, b => by
    cases d with
    | tuple l =>
      show l.map (f (.tuple l)) ++ flat2 f (r ++ b) = (l.map (f (.tuple l)) ++ flat2 f r) ++ flat2 f b
      rw [flat2_app f r b, List.append_assoc]
    | _ => exact flat2_app f r b
theorem wipe_first {σ : L2.St} {n1 n2 : Nat} {v : V} (ne : n1 ≠ n2) : wipe ((wipe σ [n1, n2]).set n1 (some v)) [n1, n2] = wipe σ [n1, n2] := by
  show ((((σ.set n2 none).set n1 none).set n1 (some v)).set n2 none).set n1 none = (σ.set n2 none).set n1 none
  rw [List.set_set, List.set_comm _ _ ne, List.set_set, List.set_set]
theorem flat2_take (f : PyData → PyData → PyData) {ds : List PyData} {i : Nat} {l : List PyData} (h : ds[i]? = some (.tuple l)) : flat2 f (ds.take (i + 1)) = flat2 f (ds.take i) ++ l.map (f (.tuple l)) := by
  rw [List.take_add_one, h, flat2_app]
  show _ ++ (l.map (f (.tuple l)) ++ []) = _
  rw [List.append_nil]
theorem flat2_len (f : PyData → PyData → PyData) (z : Nat) : ∀ ds : List PyData, (∀ d ∈ ds, ∃ l, d = .tuple l ∧ l.length ≤ z) → (flat2 f ds).length ≤ ds.length * z
  | [], _ => by simp [flat2]
  | d :: r, h => by
    obtain ⟨l, rfl, hl⟩ := h d List.mem_cons_self
    show (l.map (f (.tuple l)) ++ flat2 f r).length ≤ _
    have := flat2_len f z r fun d hd => h d (List.mem_cons_of_mem _ hd)
    rw [List.length_append, List.length_map, List.length_cons, Nat.succ_mul]
    omega
theorem el_comp22 {x y : Str} {px py : Pos} (n1 n2 : Nat) {ds : List PyData} (f : PyData → PyData → PyData) (hc : X.calm = true) (hN : X.N.Nodup) (ne : n1 ≠ n2) (hi : EJ X N ρ M iter (.d (.tuple ds)) M1)
    (hz : ds.length ≤ 1000) (shape : ∀ d ∈ ds, ∃ l, d = .tuple l ∧ l.length ≤ 64)
    (src : ∀ d ∈ ds, ∀ N' s H C cl fp, EJ (X.blk s H scope (compEnvC scope cl C X.env) fp) N' ((ρ.set n2 none).set n1 (some (.d d))) M1 iter1 (.d d) M1)
    (step : ∀ (l : List PyData) (d : PyData), .tuple l ∈ ds → d ∈ l → ∀ N' s H C cl fp, EJ (X.blk s H scope (compEnvC scope cl C X.env) fp) N' (((ρ.set n2 none).set n1 (some (.d (.tuple l)))).set n2 (some (.d d))) M1 elt (.d (f (.tuple l) d)) M1)
    (ok : BlkOk X.N X.env.scope scope [(x, n1), (y, n2)] := by exact blkOk_by (by kernel_rfl))
    (hg1 : ∀ (s : Shared) (H : Hp) (C : Addr) (cl : List (Str × Addr)) (fp : List Addr), PG (X.blk s H scope (compEnvC scope cl C X.env) fp) (.Name x px) (gName n1) := by exact fun _ _ _ _ _ => pg_name (by assumption) rfl (Or.inl rfl))
    (hg2 : ∀ (s : Shared) (H : Hp) (C : Addr) (cl : List (Str × Addr)) (fp : List Addr), PG (X.blk s H scope (compEnvC scope cl C X.env) fp) (.Name y py) (gName n2) := by exact fun _ _ _ _ _ => pg_name (by assumption) rfl (Or.inl rfl))
    (hf : ∀ x, foldedSetIterable iter X.env x = pure x := by intro _; rfl) (hf1 : ∀ env x, foldedSetIterable iter1 env x = pure x := by intro _ _; rfl) : EL X N ρ M (.ListComp elt [⟨.Name x px, iter, [], 0⟩, ⟨.Name y py, iter1, [], 0⟩] scope pos) ((flat2 f ds).map It.d) M1 := fun σ H P hh g Q q => by
  have pi1 : ∀ (s : Shared) (H : Hp) (C : Addr) (cl : List (Str × Addr)) (fp : List Addr), PI (X.blk s H scope (compEnvC scope cl C X.env) fp) (.Name y py) iter1 (iTup X.K (wBE X scope iter1)) := fun s H C cl fp =>
    pi_tup (X := X.blk s H scope (compEnvC scope cl C X.env) fp) ⟨fun pins s1 σ1 H1 Q1 I1 h1 => h1 s H C cl fp pins s1 I1⟩
  refine e_of (pe_lc2 (vs1 := [n2]) (te := wBE X scope elt) hc hN (pi_tup pe_w) ok (by simp) hg1 (fun _ _ _ _ _ => pts_nil) pi1 hg2 (fun _ _ _ _ _ => pts_nil) (fun s H C cl fp => ⟨fun pins s1 σ1 H1 Q1 I1 h1 => h1 s H C cl fp pins s1 I1⟩) hf hf1) (hi σ H P hh g _ fun v H1 P1 e1 h1 r1 => ?_)
  obtain ⟨a, xs, rfl, x1, x2⟩ := ri_tup r1
  have xl := dnAll_len x2
  refine ⟨a, rfl, ⟨xs, .inl (.inl (h1.ex _ _ x1))⟩, fun D hD => ?_⟩
  refine ⟨fun i m H => m = xs.length - i ∧ i ≤ xs.length ∧ ∃ P', Holds N P' H (M1 ++ [(D, (flat2 f (ds.take i)).map It.d)]) ∧ Ex P1 P', ⟨xs.length, by simp, Nat.zero_le _, P1, h1.own hD (its := []) trivial, Ex.refl _⟩, ?_⟩
  rintro i m H2 ⟨rfl, hil, P2, h2, e2⟩
  have sq : SqT X.K H2 a xs := .inl (.inl (h2.ex _ _ (e2 _ _ x1)))
  by_cases hlt : i < xs.length
  · refine .inr ⟨⟨xs, xs[i], sq, by simp [hlt]⟩, fun H' => ∃ P', Holds N P' H' (M1 ++ [(D, (flat2 f (ds.take (i + 1))).map It.d)]) ∧ Ex P1 P', fun H' p' => ⟨xs.length - (i + 1), by omega, rfl, hlt, p'⟩, fun x' H' yl => ?_⟩
    obtain ⟨rfl, yx⟩ := yl
    have hx := yx xs sq
    have nl : i < ds.length := xl ▸ hlt
    obtain ⟨v', ev, dv⟩ := dnAll_get x2 (List.getElem?_eq_getElem nl)
    rw [hx] at ev
    cases Option.some.inj ev
    have hmem : ds[i] ∈ ds := List.getElem_mem nl
    obtain ⟨l, el, ll⟩ := shape _ hmem
    refine ⟨wipe_first ne, ?_⟩
    unfold tYes
    dsimp only
    rw [if_pos rfl]
    intro s H0 C cl fp
    have g2 : Slots P2 ((wipe σ [n1, n2]).set n1 (some x')) ((ρ.set n2 none).set n1 (some (.d ds[i]))) := by
      have e : (wipe σ [n1, n2]).set n1 (some x') = (σ.set n2 none).set n1 (some x') := by
        show ((σ.set n2 none).set n1 none).set n1 (some x') = _
        rw [List.set_set]
      rw [e]
      exact ((g.ex (e1.trans e2)).unset n2 none).set (it := .d ds[i]) (dn_ex e2 _ _ dv) n1
    refine src _ hmem (inner P2 H' M1) s H0 C cl fp _ H' P2 h2.enter g2 _ fun w H4 P4 e4 h4 r4 => ?_
    have h5 := h2.leave h4
    rw [el] at r4
    obtain ⟨ta, ts, rfl, t1, t2⟩ := ri_tup r4
    have tl := dnAll_len t2
    refine ⟨ta, rfl, ⟨ts, .inl (.inl (h5.ex _ _ t1))⟩, fun j k H => k = ts.length - j ∧ j ≤ ts.length ∧ ∃ P', Holds N P' H (M1 ++ [(D, (flat2 f (ds.take i) ++ (l.take j).map (f (.tuple l))).map It.d)]) ∧ Ex P4 P', ⟨ts.length, by simp, Nat.zero_le _, P4, by simpa using h5, Ex.refl _⟩, ?_⟩
    rintro j k H6 ⟨rfl, hjl, P6, h6, e6⟩
    have sq6 : SqT X.K H6 ta ts := .inl (.inl (h6.ex _ _ (e6 _ _ t1)))
    by_cases hjt : j < ts.length
    · refine .inr ⟨⟨ts, ts[j], sq6, by simp [hjt]⟩, fun H' => ∃ P', Holds N P' H' (M1 ++ [(D, (flat2 f (ds.take i) ++ (l.take (j + 1)).map (f (.tuple l))).map It.d)]) ∧ Ex P4 P', fun H' p' => ⟨ts.length - (j + 1), by omega, rfl, hjt, p'⟩, fun x7 H7 yl7 => ?_⟩
      obtain ⟨rfl, yx7⟩ := yl7
      have hx7 := yx7 ts sq6
      have nl7 : j < l.length := tl ▸ hjt
      obtain ⟨v7, ev7, dv7⟩ := dnAll_get t2 (List.getElem?_eq_getElem nl7)
      rw [hx7] at ev7
      cases Option.some.inj ev7
      refine ⟨wipe_comp n2, ?_⟩
      dsimp only
      rw [if_pos rfl]
      intro s H0 C cl fp
      have g7 := slots_comp (g2.ex (e4.trans e6)) n2 (i := .d l[j]) (dn_ex e6 _ _ dv7)
      rw [el] at g7
      refine step l l[j] (el ▸ hmem) (List.getElem_mem nl7) (inner P6 H7 M1) s H0 C cl fp _ H7 P6 h6.enter g7 _ fun y8 H8 P8 e8 h8 r8 => ?_
      have h9 := h6.leave h8
      obtain ⟨acc, ea, ra⟩ := h9.cell (a := D) (its := (flat2 f (ds.take i) ++ (l.take j).map (f (.tuple l))).map It.d) (List.mem_append_right _ (List.mem_singleton.mpr rfl))
      have hlen := flat2_len f 64 (ds.take i) fun d hd => shape d (List.mem_of_mem_take hd)
      refine ⟨acc, ea, ?_, P8, ?_, e6.trans e8⟩
      · rw [ra.len]
        refine Nat.lt_of_lt_of_le (m := 100000) ?_ (by decide)
        simp
        have : (List.take i ds).length ≤ 1000 := by rw [List.length_take]; omega
        have h64 : (flat2 f (List.take i ds)).length ≤ 64000 := Nat.le_trans hlen (by omega)
        omega
      · have h10 := h9.write (a := D) (its := (flat2 f (ds.take i) ++ (l.take j).map (f (.tuple l))).map It.d) (its' := (flat2 f (ds.take i) ++ (l.take (j + 1)).map (f (.tuple l))).map It.d) (List.mem_append_right _ (List.mem_singleton.mpr rfl)) (xs' := acc ++ [y8]) (by
          have e11 : (flat2 f (ds.take i) ++ (l.take (j + 1)).map (f (.tuple l))).map It.d = (flat2 f (ds.take i) ++ (l.take j).map (f (.tuple l))).map It.d ++ [It.d (f (.tuple l) l[j])] := by
            rw [List.take_add_one, List.getElem?_eq_getElem nl7, List.map_append, List.map_append, List.map_append, List.map_append, List.append_assoc]
            rfl
          rw [e11]
          exact ra.app ⟨r8, trivial⟩)
        rw [put_last h9.nd] at h10
        exact h10
    · have ej : j = ts.length := by omega
      subst ej
      refine .inl ⟨⟨ts, sq6, Nat.le_refl _⟩, P6, ?_, (e2.trans e4).trans e6⟩
      rw [flat2_take f ((List.getElem?_eq_getElem nl).trans (congrArg some el))]
      rw [tl, List.take_length] at h6
      exact h6
  · have ei : i = xs.length := by omega
    subst ei
    refine .inl ⟨⟨xs, sq, Nat.le_refl _⟩, ?_⟩
    rw [xl, List.take_length] at h2
    exact q D H2 P2 (e1.trans e2) (h1.newF hD) h2
end
end Kt

/-! Kta: extend by a tuple; two names at once. -/
namespace PySem
namespace AutoSeq1
open Builtin
theorem extend_tup (l : Addr) (items : Array Value) (n : Nat) (b : Addr) (items2 : Array Value) (n2 : Nat) (dd : Option Addr) (sl : Array (Option Value)) (hs0 : ¬(!items.isEmpty && Builtin.List.listTooLong (items.size + items2.size)) = true) (hs1 : items.size ≤ sizeLine) (hs2 : items.size + items2.size ≤ sizeLine + 1) :
    Meets (Builtin.«list.extend» ⟨[.ref l, .ref b], []⟩) (fun _ R s => s.heap.get? l = some { cls := .type "list", dict := none, data := .seq items n, slots := #[] } ∧ s.heap.get? b = some { cls := .type "tuple", dict := dd, data := .seq items2 n2, slots := sl } ∧ R (.ok (.ret Value.none)) { s with heap := s.heap.update l (Obj.mapSeq fun x => x ++ items2), toks := s.toks }) :=
  .of_wp fun prog w A R s h => by
    obtain ⟨hp, g, d, tk, os⟩ := s; obtain ⟨hl, hb, h⟩ := h; have f1 := idx_int; have f2 := sub_tuple_tuple; have f3 := sub_list_list; have f4 := sub_tuple_list; have f5 := sub_list_tuple;
    have hz' : (items ++ items2).size ≤ sizeLine + 1 := by rw [Array.size_append]; exact hs2
    wp_walk using (wpAny_updateSeq hl rfl (hz := hs1) (_hz' := hz')), wpAny_loadPart' hl, wpAny_loadPart' hb; exact ⟨_, rfl, h⟩
end AutoSeq1
end PySem
namespace Kt
open PySem PySem.Spec PyProof.Rows L2
section
variable {X : Cx}
def rExtT (K : PySem.W.Frag) : V → List V → Hp → VK → Prop := fun x vs H Q => ∃ l b xs zs, x = .ref l ∧ vs = [.ref b] ∧ H l = some (.lst xs) ∧ SqT K H b zs ∧ xs.length + zs.length ≤ sizeLine ∧ Q .non (upd H l (.lst (xs ++ zs)))
theorem mt_extT : MtM X "list.extend" (rExtT X.K) := by
  intro pins s σ H x vs v us Q I rx rv h
  obtain ⟨l, b, xs, zs, rfl, rfl, hH, hB, hz, q⟩ := h
  cases rx
  obtain ⟨u, rfl, ru⟩ := rv.one
  cases ru
  obtain ⟨z, its, n, r, hl, e⟩ := I.lstM hH
  obtain ⟨its2, r2, ⟨o2, ho, hc, n2, hd⟩, hz2⟩ := I.tuple hB
  have hl2 := r2.length
  have hsz : its.toArray.size + its2.toArray.size ≤ sizeLine := by rw [List.size_toArray, List.size_toArray]; omega
  have hlong : ¬ (!its.toArray.isEmpty && Builtin.List.listTooLong (its.toArray.size + its2.toArray.size)) = true := by
    rw [notLongL hsz, Bool.and_false]
    exact Bool.false_ne_true
  obtain ⟨oc, od, odt, osl⟩ := o2
  dsimp only at hc hd
  subst hc hd
  refine call_meets F.slot_list_extend ⟨_, e, rfl⟩ F.entry_list_extend (F.args_list_extend_2 _ _)
    (AutoSeq1.extend_tup l its.toArray n b its2.toArray n2 od osl hlong (by rw [List.size_toArray]; omega) (by omega)) ⟨e, ho, ?_⟩
  refine ⟨.non, _, I.lset (its' := its ++ its2) hH e (by simp) (r.append r2) ?_, rfl, q⟩
  rw [List.length_append]
  omega
variable {N : Ent} {ρ ρ' : Rho} {M M1 M2 M' : Mem} {a b c e : Expr} {pos : Pos} {i j k : It} {Z : Post} {rest : List Stmt}
/-- xs.extend(t), xs one's own, t a tuple -/
theorem sj_extT {ap epos : Pos} {p : Addr} {is is0 : List It} {ds : List PyData} (ho : EJ X N ρ M a (.v (.ref p)) M) (hm0 : (p, is0) ∈ M) (he : EJ X N ρ M e (.d (.tuple ds)) M1) (hm : (p, is) ∈ M1) (hz : is.length + ds.length ≤ 100000) (hr : SJ X N ρ (M1.put p (is ++ ds.map It.d)) rest Z) (hs : swapsWith (.Call (.Attribute a "extend" ap) [e] [] pos) none epos.line X.env = pure false := by rfl)
    (hst : starEach [e] X.env = [(false, eval e X.env)] := by rfl) (ps : PE X (.Call (.Attribute a "extend" ap) [e] [] pos) (tBM X.K "list" (rExtT X.K) (wE X a) (wA X [e])) := by exact pe_bm PySem.F.plainAttrs_list PySem.F.slot_list_extend PySem.F.type_list_extend mt_extT pe_w pa_w) : SJ X N ρ M (.Expr (.Call (.Attribute a "extend" ap) [e] [] pos) epos :: rest) Z := sj_cons fun σ H P hh g D E tk z => by
  refine s_of (ps_expr ps hs) (ho σ H P hh g _ fun v H1 P1 e1 h1 r1 => ?_)
  cases (show v = .ref p from r1)
  obtain ⟨ys, ey, _⟩ := h1.cell hm0
  refine ⟨.inl ⟨rfl, ys, .inl (.inl ey)⟩, ?_⟩
  refine aj_cons he aj_nil hst σ H1 P1 h1 (g.ex e1) _ fun vs H2 P2 e2 h2 r2 => ?_
  obtain ⟨y, rfl, r3⟩ := ri1 r2
  obtain ⟨xs, e3, r4⟩ := h2.cell hm
  obtain ⟨b, zs, rfl, h5, h6⟩ := ri_tup r3
  refine ⟨p, b, xs, zs, rfl, rfl, e3, .inl (.inl (h2.ex _ _ h5)), by rw [r4.len, dnAll_len h6]; exact Nat.le_trans hz (by decide), ?_⟩
  exact z.nx ρ _ σ _ P2 hr (e1.trans e2) (h2.write hm (r4.app (RepIs.of_all h6))) (g.ex (e1.trans e2))
/-- x, y = a, b: two different local names -/
theorem sj_par (n1 n2 : Nat) {x y : Str} {px py pt pt2 : Pos} {kt k2 : Nat} (hc : X.calm = true) (hN : X.N.Nodup) (ne : n1 ≠ n2) (ha : EJ X N ρ M a i M1) (hb : EJ X N ρ M1 b j M2) (hr : SJ X N ((ρ.set n1 (some i)).set n2 (some j)) M2 rest Z)
    (hi : X.N[n1]? = some x := by rfl) (hj : X.N[n2]? = some y := by rfl) (hx : X.env.scope.names.lookup x = some .local := by rfl) (hy : X.env.scope.names.lookup y = some .local := by rfl)
    (hw : swappedStores [.Tuple [.Name x px, .Name y py] kt pt] (.Tuple [a, b] k2 pt2) X.env = pure (some [x, y]) := by rfl) (hs : swapsWithSole [.Tuple [.Name x px, .Name y py] kt pt] (.Tuple [a, b] k2 pt2) pos.line X.env = pure false := by rfl)
    (he : starEach [a, b] X.env = (false, eval a X.env) :: starEach [b] X.env := by rfl) (he2 : starEach [b] X.env = [(false, eval b X.env)] := by rfl) :
    SJ X N ρ M (.Assign [.Tuple [.Name x px, .Name y py] kt pt] (.Tuple [a, b] k2 pt2) pos :: rest) Z := sj_cons fun σ H P hh g D E tk z =>
  s_of (ps_par (i := n1) (j := n2) hc hN hi hj ne hx hy pa_w hw hs) (aj_cons ha (aj_cons hb aj_nil he2) he σ H P hh g _ fun vs H1 P1 e1 h1 r1 => by
    obtain ⟨v, w, rfl, r2, r3⟩ := ri2 r1
    exact ⟨v, w, rfl, z.nx _ _ _ _ P1 hr e1 h1 (((g.ex e1).set r2 n1).set r3 n2)⟩)
end
end Kt

/-! Ktb: max of a tuple of ints; small helps. -/
namespace Kt
open PySem PySem.Spec PyProof.Rows L2
def mxI (x : Int) (xs : List Int) : Int := xs.foldl (fun a y => if a < y then y else a) x
theorem maxOf_int (x : Int) (xs : List Int) : PySem.W.maxOf x xs = mxI x xs := by
  unfold PySem.W.maxOf mxI
  congr 1
  funext a y
  have : (PySem.W.DatumOrd.lt a y = true) = (a < y) := by
    show (decide (a < y) = true) = (a < y)
    simp
  simp only [this]
theorem mxI_ge : ∀ (xs : List Int) (x : Int), x ≤ mxI x xs ∧ ∀ y ∈ xs, y ≤ mxI x xs
  | [], x => ⟨Int.le_refl _, fun _ h => absurd h List.not_mem_nil⟩
  | z :: r, x => by
    have ih := mxI_ge r (if x < z then z else x)
    have e : mxI x (z :: r) = mxI (if x < z then z else x) r := rfl
    rw [e]
    refine ⟨?_, fun y hy => ?_⟩
    · have := ih.1
      split at this <;> omega
    · rcases List.mem_cons.mp hy with rfl | hy
      · have := ih.1
        split at this <;> omega
      · exact ih.2 y hy
theorem mxI_mem : ∀ (xs : List Int) (x : Int), mxI x xs = x ∨ mxI x xs ∈ xs
  | [], x => .inl rfl
  | z :: r, x => by
    have ih := mxI_mem r (if x < z then z else x)
    have e : mxI x (z :: r) = mxI (if x < z then z else x) r := rfl
    rw [e]
    rcases ih with h | h
    · rw [h]
      split
      · exact .inr List.mem_cons_self
      · exact .inl rfl
    · exact .inr (List.mem_cons_of_mem _ h)
section
variable {X : Cx}
def rMaxT (K : PySem.W.Frag) : List V → Hp → VK → Prop := fun vs H Q => ∃ (a : Addr) (n : Int) (ns : List Int), vs = [V.ref a] ∧ SqT K H a ((n :: ns).map V.int) ∧ Q (.int (mxI n ns)) H
theorem cr_maxT (hc : X.calm = true) (hu : X.A.units + 64 < cLine) : CallR X (.builtin "max") (rMaxT X.K) := by
  intro pins s σ H vs us Q I r h
  obtain ⟨a, n, ns, rfl, hs, q⟩ := h
  obtain ⟨its, rv, ⟨o, ho, hcl, n2, hd⟩, _⟩ := I.tuple hs
  rw [Vals.ref1 r]
  have hI : IntsAre its (n :: ns) := rv.ints
  have hu2 : X.A.units + 1 + PySem.W.Datum.depth Int < cLine := by
    have : PySem.W.Datum.depth Int ≤ 1 := by decide
    omega
  refine PySem.W.max_tuple_datum (x := n) (xs := ns) (vs := its.toArray) (I.ok.hd hc) ⟨o, ho, hcl, n2, hd⟩ (PySem.W.HoldAll.of_ints (by simpa using hI)) hu2 fun i v h' tk hv hh hk => ?_
  obtain ⟨as, rd⟩ := hh
  rw [maxOf_int] at rd
  have : ∃ t, v = .int (mxI n ns) t := by
    cases rd with
    | int i t => exact ⟨t, rfl⟩
  obtain ⟨t, rfl⟩ := this
  exact ⟨.int _, H, I.kept hk, ⟨_, rfl⟩, q⟩
variable {N : Ent} {ρ ρ' : Rho} {M M1 M2 M' : Mem} {a b c e : Expr} {pos : Pos} {i j k : It}
theorem ej_maxT {p q : Pos} {n : Int} {ns : List Int} (hc : X.calm = true) (hu : X.A.units + 64 < cLine) (hm : X.mg "max" = none) (ha : EJ X N ρ M a (.d (.tuple ((n :: ns).map PyData.int))) M1) (hg : Gl X "max" := by rfl) (he : starEach [a] X.env = [(false, eval a X.env)] := by rfl) (hpl : (backTo q (starEach ([] : List Expr) X.env)).any (·.1) = false := by rfl) :
    EJ X N ρ M (.Call (.Name "max" p) [a] [] q) (dI (mxI n ns)) M1 := ej_callB (cr_maxT hc hu) hm (by decide +kernel) (aj_cons ha aj_nil he) (fun vs H P h rr Q q => by
  obtain ⟨x, rfl, r⟩ := ri1 rr
  obtain ⟨y, ys, rfl, h1, h2⟩ := ri_tup r
  cases DnAll.ints (ns := n :: ns) h2
  exact ⟨y, n, ns, rfl, .inl (.inl (h.ex _ _ h1)), q _ H P (Ex.refl P) h (.int _)⟩) hg (by decide) (by decide) he hpl
theorem at_of0 {α : Type} {l : List α} {n : Int} (h0 : 0 ≤ n) {x : α} (h : l[n.toNat]? = some x) : atI l n = some x := by
  have e : n = ((n.toNat : Nat) : Int) := by omega
  rw [e]
  exact atI_nat (by simpa using h)
theorem at_map {α β : Type} {f : α → β} {l : List α} {n : Int} {x : α} (h0 : 0 ≤ n) (h : l[n.toNat]? = some x) : atI (l.map f) n = some (f x) := at_of0 h0 (by rw [List.getElem?_map, h]; rfl)
theorem tame_mono : ∀ {n : Nat} {d : PyData} {tame : Nat → PyData → Prop}, (∀ n d, tame (n + 1) d → tame n d) → tame (n + 1) d → tame n d := fun h => h _ _
end
end Kt

/-! Ktc: data that == may be asked of. -/
namespace Kt
open PySem PySem.Spec PyProof.Rows L2
/-- plain data of at most this depth -/
inductive PN : Nat → PyData → Prop
  | non {n : Nat} : PN n .none
  | bl {n : Nat} (b : Bool) : PN n (.bool b)
  | int {n : Nat} (i : Int) : PN n (.int i)
  | str {n : Nat} (x : Str) (h : PyData.strOk x = true) : PN n (.str x)
  | lst {n : Nat} (l : List PyData) (h : ∀ x ∈ l, PN n x) : PN (n + 1) (.list l)
  | tup {n : Nat} (l : List PyData) (h : ∀ x ∈ l, PN n x) : PN (n + 1) (.tuple l)
theorem pn_all {n : Nat} (f : ∀ x, PN n x → noDict x = true ∧ PyData.canLay0 x = true ∧ PyData.depth x ≤ n ∧ PyData.eqv x x = true) : ∀ l : List PyData, (∀ x ∈ l, PN n x) → noDicts l = true ∧ PyData.canLayAll0 l = true ∧ PyData.depthAll l ≤ n ∧ PyData.eqvAll l l = true
  | [], _ => ⟨rfl, rfl, by simp [PyData.depthAll], by simp [PyData.eqvAll]⟩
  | x :: r, h => by
    obtain ⟨a1, a2, a3, a4⟩ := f x (h x List.mem_cons_self)
    obtain ⟨b1, b2, b3, b4⟩ := pn_all f r fun y hy => h y (List.mem_cons_of_mem _ hy)
    refine ⟨?_, ?_, ?_, ?_⟩
    · show (noDict x && noDicts r) = true
      rw [a1, b1]
      rfl
    · simp only [PyData.canLayAll0, a2, b2, Bool.and_self]
    · simp only [PyData.depthAll]
      omega
    · simp only [PyData.eqvAll, a4, b4, Bool.and_self]
theorem pn_ok : ∀ (n : Nat) (d : PyData), PN n d → noDict d = true ∧ PyData.canLay0 d = true ∧ PyData.depth d ≤ n ∧ PyData.eqv d d = true := by
  intro n
  induction n with
  | zero =>
    intro d h
    cases h with
    | non => exact ⟨rfl, rfl, by simp [PyData.depth], by simp [PyData.eqv]⟩
    | bl b => exact ⟨rfl, rfl, by simp [PyData.depth], by simp [PyData.eqv]⟩
    | int i => exact ⟨rfl, rfl, by simp [PyData.depth], by simp [PyData.eqv]⟩
    | str x hx => exact ⟨rfl, by simpa [PyData.canLay0] using hx, by simp [PyData.depth], by simp [PyData.eqv]⟩
  | succ n ih =>
    intro d h
    cases h with
    | non => exact ⟨rfl, rfl, by simp [PyData.depth], by simp [PyData.eqv]⟩
    | bl b => exact ⟨rfl, rfl, by simp [PyData.depth], by simp [PyData.eqv]⟩
    | int i => exact ⟨rfl, rfl, by simp [PyData.depth], by simp [PyData.eqv]⟩
    | str x hx => exact ⟨rfl, by simpa [PyData.canLay0] using hx, by simp [PyData.depth], by simp [PyData.eqv]⟩
    | lst l hl =>
      obtain ⟨a, b, c, e⟩ := pn_all ih l hl
      exact ⟨a, by simpa [PyData.canLay0] using b, by simp only [PyData.depth]; omega, by simpa [PyData.eqv] using e⟩
    | tup l hl =>
      obtain ⟨a, b, c, e⟩ := pn_all ih l hl
      exact ⟨a, by simpa [PyData.canLay0] using b, by simp only [PyData.depth]; omega, by simpa [PyData.eqv] using e⟩
theorem PN.plain {n : Nat} {d : PyData} (h : PN n d) (hn : n ≤ 64 := by decide) : plainD d = true := by
  obtain ⟨a, b, c, _⟩ := pn_ok n d h
  unfold plainD SeqAt.shaped
  rw [a, b, decide_eq_true (Nat.le_trans c hn)]
  rfl
theorem PN.refl {n : Nat} {d : PyData} (h : PN n d) : PyData.eqv d d = true := (pn_ok n d h).2.2.2
theorem PN.ints {n : Nat} (ns : List Int) : PN (n + 1) (.list (ns.map PyData.int)) := .lst _ fun x hx => by
  obtain ⟨k, _, rfl⟩ := List.mem_map.mp hx
  exact .int k
theorem PN.intsT {n : Nat} (ns : List Int) : PN (n + 1) (.tuple (ns.map PyData.int)) := .tup _ fun x hx => by
  obtain ⟨k, _, rfl⟩ := List.mem_map.mp hx
  exact .int k
end Kt

/-! Ktd: ranges with a step, ranges from their end: one rule for a comprehension, one for a loop. -/
namespace Kt
open PySem PySem.Spec PyProof.Rows L2
theorem lc_steps {lo c : Int} {n : Nat} {g : TG} {tt : TT} {te : TE} {vs : List Nat} {σ : L2.St} {H1 : Hp} {D : Addr} {Qd : Hp → Prop} (W : Nat → Hp → Prop) (start : W 0 (upd H1 D (.lst [])))
    (one : ∀ i H, i < n → W i H → g (.int (lo + (i : Nat) * c)) (wipe σ vs) H fun σ2 H2 => wipe σ2 vs = wipe σ vs ∧ tt σ2 H2 fun b H3 =>
      if b = true then te σ2 H3 fun y H4 => ∃ acc, H4 D = some (.lst acc) ∧ acc.length < sizeLine ∧ W (i + 1) (upd H4 D (.lst (acc ++ [y]))) else W (i + 1) H3) (fin : ∀ H, W n H → Qd H) :
    ∃ V : Nat → Nat → Hp → Prop, (∃ m, V 0 m (upd H1 D (.lst []))) ∧ ∀ i m H, V i m H →
      ((Itc lo c n).stop i H ∧ Qd H) ∨ ((Itc lo c n).go i H ∧ ∃ Nx : Hp → Prop, (∀ H', Nx H' → ∃ m', m' < m ∧ V (i + 1) m' H') ∧ ∀ x H', (Itc lo c n).yld i H x H' →
        g x (wipe σ vs) H' fun σ2 H2 => wipe σ2 vs = wipe σ vs ∧ tt σ2 H2 fun b H3 => if b = true then te σ2 H3 fun y H4 => ∃ acc, H4 D = some (.lst acc) ∧ acc.length < sizeLine ∧ Nx (upd H4 D (.lst (acc ++ [y]))) else Nx H3) := by
  refine ⟨fun i m H => m + i = n ∧ W i H, ⟨n, rfl, start⟩, fun i m H hw => ?_⟩
  obtain ⟨hm, p⟩ := hw
  cases m with
  | zero =>
    refine .inl ⟨show n ≤ i by omega, fin H ?_⟩
    rw [show n = i by omega]
    exact p
  | succ m =>
    refine .inr ⟨show i < n by omega, W (i + 1), fun H' p' => ⟨m, Nat.lt_succ_self m, by omega, p'⟩, fun x H' y => ?_⟩
    obtain ⟨y1, y2⟩ := y
    rw [y1, y2]
    exact one i H (by omega) p
section
variable {X : Cx} {N : Ent} {ρ ρ' : Rho} {M M1 M2 M3 M' : Mem} {a b c e elt iter : Expr} {pos p pos' : Pos} {i j k : It} {scope : Scope} {Z : Post} {rest body : List Stmt} {tg : Expr}
/-- iterating this walks lo, lo + st, .. n times -/
def IC (X : Cx) (N : Ent) (ρ : Rho) (M : Mem) (iter : Expr) (lo st : Int) (n : Nat) (M1 : Mem) : Prop :=
  ∃ ti : TI, (∀ tg, PI X tg iter ti) ∧ ∀ σ H P, Holds N P H M → Slots P σ ρ → ∀ R, (∀ H1 P1, Ex P P1 → Holds N P1 H1 M1 → R (Itc lo st n) H1) → ti σ H R
theorem ic_range3 {p rp : Pos} {z1 z2 z3 : Int} {n : Nat} (hmr : X.mg "range" = none) (ha : EJ X N ρ M a (dI z1) M1) (hb : EJ X N ρ M1 b (dI z2) M2) (hc : EJ X N ρ M2 c (dI z3) M3) (hn : RgC z1 z2 z3 n) (hg : Gl X "range" := by rfl)
    (hs : starEach [a, b, c] X.env = (false, eval a X.env) :: starEach [b, c] X.env := by rfl) (hs2 : starEach [b, c] X.env = (false, eval b X.env) :: starEach [c] X.env := by rfl) (hs3 : starEach [c] X.env = [(false, eval c X.env)] := by rfl) (hpl : (backTo rp (starEach [b, c] X.env)).any (·.1) = false := by rfl) :
    IC X N ρ M (.Call (.Name "range" p) [a, b, c] [] rp) z1 z3 n M3 := by
  refine ⟨iRng3 (wA X [a, b, c]), fun tg => pi_range3 hg hmr pa_w hs hpl, fun σ H P hh g R q => ?_⟩
  refine aj_cons ha (aj_cons hb (aj_cons hc aj_nil hs3) hs2) hs σ H P hh g _ fun vs H1 P1 e1 h1 r1 => ?_
  match vs, r1 with
  | [x, y, w], ⟨rx, ry, rw', _⟩ =>
    cases ri_int rx
    cases ri_int ry
    cases ri_int rw'
    exact ⟨z1, z2, z3, n, rfl, hn, q H1 P1 e1 h1⟩
/-- reversed(range(z)) -/
theorem ic_rev {p rp p2 rp2 : Pos} {z : Int} (hmr : X.mg "range" = none) (hmv : X.mg "reversed" = none) (ha : EJ X N ρ M a (dI z) M1) (hz : -(2 ^ 62) ≤ z ∧ z < 2 ^ 62) (hg : Gl X "range" := by rfl) (hgv : Gl X "reversed" := by rfl)
    (hs : starEach [a] X.env = (false, eval a X.env) :: starEach [] X.env := by rfl)
    (hs2 : starEach [.Call (.Name "range" p) [a] [] rp] X.env = (false, eval (.Call (.Name "range" p) [a] [] rp) X.env) :: starEach [] X.env := by rfl) :
    IC X N ρ M (.Call (.Name "reversed" p2) [.Call (.Name "range" p) [a] [] rp] [] rp2) (z.toNat - 1) (-1) z.toNat M1 := by
  refine ⟨iRevR (tRg1 (wE X a)), fun tg => pi_revR hgv hmv (prg_1 hg hmr pe_w hs) hs2, fun σ H P hh g R q => ?_⟩
  refine ha σ H P hh g _ fun v H1 P1 e1 h1 r1 => ?_
  cases ri_int r1
  refine ⟨z, rfl, by decide, by decide, hz.1, hz.2, ?_⟩
  rw [show ((0 : Int) + (((z - 0).toNat : Nat) : Int) - 1) = (z.toNat : Int) - 1 by rw [Int.sub_zero, Int.zero_add], Int.sub_zero]
  exact q H1 P1 e1 h1
theorem lj_ic {lo st : Int} {z : Nat} {ti : TI} (n : Nat) (A : Nat → List It) (Mi : Nat → Mem) (hN : X.N.Nodup) (hi : ∀ σ H P, Holds N P H M → Slots P σ ρ → ∀ R, (∀ H1 P1, Ex P P1 → Holds N P1 H1 M1 → R (Itc lo st z) H1) → ti σ H R)
    (hA0 : A 0 = []) (hM0 : Mi 0 = M1) (hz : z ≤ 100000)
    (step : ∀ (m : Nat), m < z → ∃ j, A (m + 1) = A m ++ [j] ∧ (A m).length ≤ m ∧ ∀ N' s H C cl fp, EJ (X.blk s H scope (compEnvC scope cl C X.env) fp) N' (ρ.set n (some (dI (lo + (m : Nat) * st)))) (Mi m) elt j (Mi (m + 1))) :
    LJ X N ρ M (tLc ti (gName n) tYes (wBE X scope elt) [n]) (A z) (Mi z) := fun σ H P hh g Q q => by
  refine hi σ H P hh g _ fun H1 P1 e1 h1 D hD => ?_
  refine lc_steps (fun m H' => ∃ P', Holds N P' H' (Mi m ++ [(D, A m)]) ∧ Ex P1 P') ⟨P1, by rw [hA0, hM0]; exact h1.own hD (its := []) trivial, Ex.refl _⟩ (fun m H' nl hw => ?_) (fun H' hw => ?_)
  · obtain ⟨P', h2, e2⟩ := hw
    obtain ⟨j, eA, lA, S⟩ := step m nl
    refine ⟨wipe_comp n, ?_⟩
    unfold tYes
    dsimp only
    rw [if_pos rfl]
    intro s H0 C cl fp
    refine S (inner P' H' (Mi m)) s H0 C cl fp _ H' P' h2.enter (slots_comp (g.ex (e1.trans e2)) n (.int _)) _ fun y H4 P4 e4 h4 r4 => ?_
    have h5 := h2.leave h4
    obtain ⟨acc, ea, ra⟩ := h5.cell (a := D) (its := A m) (List.mem_append_right _ (List.mem_singleton.mpr rfl))
    refine ⟨acc, ea, by rw [ra.len]; exact Nat.lt_of_lt_of_le (Nat.lt_of_le_of_lt lA (by omega : m < 100000)) (by decide), P4, ?_, e2.trans e4⟩
    have h6 := h5.write (a := D) (its := A m) (its' := A (m + 1)) (List.mem_append_right _ (List.mem_singleton.mpr rfl)) (xs' := acc ++ [y]) (by rw [eA]; exact ra.app ⟨r4, trivial⟩)
    rw [put_last h5.nd] at h6
    exact h6
  · obtain ⟨P', h2, e2⟩ := hw
    exact q D H' P' (e1.trans e2) (h1.newF hD) h2
/-- [elt for x in such a walk] -/
theorem el_compC {x : Str} {p : Pos} (n : Nat) {lo st : Int} {z : Nat} (A : Nat → List It) (Mi : Nat → Mem) (hc : X.calm = true) (hN : X.N.Nodup) (hi : IC X N ρ M iter lo st z M1)
    (hA0 : A 0 = []) (hM0 : Mi 0 = M1) (hz : z ≤ 100000)
    (step : ∀ (m : Nat), m < z → ∃ j, A (m + 1) = A m ++ [j] ∧ (A m).length ≤ m ∧ ∀ N' s H C cl fp, EJ (X.blk s H scope (compEnvC scope cl C X.env) fp) N' (ρ.set n (some (dI (lo + (m : Nat) * st)))) (Mi m) elt j (Mi (m + 1)))
    (ok : BlkOk X.N X.env.scope scope [(x, n)] := by exact blkOk_by (by kernel_rfl))
    (hgn : ∀ (s : Shared) (H : Hp) (C : Addr) (cl : List (Str × Addr)) (fp : List Addr), PG (X.blk s H scope (compEnvC scope cl C X.env) fp) (.Name x p) (gName n) := by exact fun _ _ _ _ _ => pg_name (by assumption) rfl (Or.inl rfl))
    (hf : ∀ x, foldedSetIterable iter X.env x = pure x := by intro _; rfl) : EL X N ρ M (.ListComp elt [⟨.Name x p, iter, [], 0⟩] scope pos) (A z) (Mi z) := by
  obtain ⟨ti, pi, hi⟩ := hi
  exact el_lc (lj_ic n A Mi hN hi hA0 hM0 hz step) (pe_lc hc hN (pi _) ok hgn (fun _ _ _ _ _ => pts_nil) (te := wBE X scope elt) (fun s H C cl fp => ⟨fun pins s1 σ1 H1 Q1 I1 h1 => h1 s H C cl fp pins s1 I1⟩) hf)
/-- for tg in such a walk -/
theorem sj_forC {lo st : Int} {z : Nat} (hc : X.calm = true) (hi : IC X N ρ M iter lo st z M1) (Inv : Nat → Rho → Mem → Prop) (h0 : Inv 0 ρ M1)
    (step : ∀ n ρ' M', n < z → Inv n ρ' M' → ∃ ρ2, GJ X N tg (dI (lo + (n : Nat) * st)) ρ' ρ2 ∧ SJ X N ρ2 M' body { nx := Inv (n + 1), ct := Inv (n + 1), bk := fun ρ' M' => SJ X N ρ' M' rest Z, rt := Z.rt, er := Z.er })
    (done : ∀ ρ' M', Inv z ρ' M' → SJ X N ρ' M' rest Z) (hp : PassesOwn (model X.prog X.w) X.A X.env X.xe := by exact PassesOwn.never)
    (hf : ∀ x, foldedSetIterable iter X.env x = pure x := by intro _; rfl) : SJ X N ρ M (.For tg iter body [] pos :: rest) Z := sj_cons fun σ H P hh g D E tk z' => by
  obtain ⟨ti, pi, hi⟩ := hi
  refine s_of (ps_for hp hc (pi _) pg_w pss_w hf) (hi σ H P hh g _ fun H1 P1 e1 h1 => ?_)
  refine for_rangeC (lo := lo) (n := z) (fun n σ' H' => ∃ ρ' M' P', Inv n ρ' M' ∧ Holds N P' H' M' ∧ Slots P' σ' ρ' ∧ Ex P1 P') ⟨ρ, M1, P1, h0, h1, g.ex e1, Ex.refl _⟩ (fun n σ' H' hn hw => ?_) (fun σ' H' hw => ?_)
  · obtain ⟨ρ', M', P', w, h2, g2, e2⟩ := hw
    obtain ⟨ρ2, G, S⟩ := step n ρ' M' hn w
    refine G _ σ' H' P' M' h2 g2 (.int _) _ fun σ2 g3 => ?_
    exact S σ2 H' P' h2 g3 _ E tk ⟨fun ρ4 M4 σ4 H4 P4 a e h g => ⟨ρ4, M4, P4, a, h, g, e2.trans e⟩, fun i M4 v H4 P4 a e h r => z'.rt i M4 v H4 P4 a ((e1.trans e2).trans e) h r, fun ρ4 M4 σ4 H4 P4 a e h g => z'.nx ρ4 M4 σ4 H4 P4 a ((e1.trans e2).trans e) h g, fun ρ4 M4 σ4 H4 P4 a e h g => ⟨ρ4, M4, P4, a, h, g, e2.trans e⟩, fun w M4 d H4 P4 C c a e h x => z'.er w M4 d H4 P4 C c a ((e1.trans e2).trans e) h x⟩
  · obtain ⟨ρ', M', P', w, h2, g2, e2⟩ := hw
    exact z'.nx ρ' M' σ' H' P' (done ρ' M' w) (e1.trans e2) h2 g2
/-- xs[lo:hi], the parts ints that are reckoned -/
theorem el_slV {ds : List PyData} {lo hi : Expr} {l h : Int} {p2 : Pos} (ha : EJ X N ρ M a (.d (.list ds)) M1) (hl : EJ X N ρ M1 lo (dI l) M2) (hh : EJ X N ρ M2 hi (dI h) M3) :
    EL X N ρ M (.Subscript a (.Slice (some lo) (some hi) none p2) pos) ((cutD ds (some l) (some h)).map It.d) M3 := fun σ H P hd g Q q => by
  refine e_of (pe_slice sl_list pe_w (po_some pe_w) (po_some pe_w)) (ha σ H P hd g _ fun x H1 P1 e1 h1 r1 => ?_)
  refine hl σ H1 P1 h1 (g.ex e1) _ fun v2 H2 P2 e2 h2 r2 => ⟨l, ri_int r2, ?_⟩
  refine hh σ H2 P2 h2 (g.ex (e1.trans e2)) _ fun v3 H3 P3 e3 h3 r3 => ⟨h, ri_int r3, ?_⟩
  obtain ⟨a, xs, rfl, h4, h5⟩ := ri_lst (r1.ex (e2.trans e3))
  exact ⟨a, xs, rfl, .inl (.inl (h3.ex _ _ h4)), fun p hp => q p _ P3 (e1.trans (e2.trans e3)) (h3.newF hp) (h3.own hp (RepIs.of_all (h5.cut (some l) (some h))))⟩
end
end Kt

/-! Kte: comprehensions with two clauses, the inner one over a list that is reckoned. -/
namespace Kt
open PySem PySem.Spec PyProof.Rows L2
def flatL (fl : PyData → List PyData) (f : PyData → PyData → PyData) : List PyData → List PyData
  | [] => []
  | d :: r => (fl d).map (f d) ++ flatL fl f r
theorem flatL_app (fl : PyData → List PyData) (f : PyData → PyData → PyData) : ∀ a b : List PyData, flatL fl f (a ++ b) = flatL fl f a ++ flatL fl f b
  | [], b => rfl
  | d :: r, b => by
    show (fl d).map (f d) ++ flatL fl f (r ++ b) = ((fl d).map (f d) ++ flatL fl f r) ++ flatL fl f b
    rw [flatL_app fl f r b, List.append_assoc]
theorem flatL_take (fl : PyData → List PyData) (f : PyData → PyData → PyData) {ds : List PyData} {i : Nat} {d : PyData} (h : ds[i]? = some d) : flatL fl f (ds.take (i + 1)) = flatL fl f (ds.take i) ++ (fl d).map (f d) := by
  rw [List.take_add_one, h, flatL_app]
  show _ ++ ((fl d).map (f d) ++ []) = _
  rw [List.append_nil]
theorem flatL_len (fl : PyData → List PyData) (f : PyData → PyData → PyData) (z : Nat) : ∀ ds : List PyData, (∀ d ∈ ds, (fl d).length ≤ z) → (flatL fl f ds).length ≤ ds.length * z
  | [], _ => by simp [flatL]
  | d :: r, h => by
    have hl := h d List.mem_cons_self
    show ((fl d).map (f d) ++ flatL fl f r).length ≤ _
    have := flatL_len fl f z r fun d hd => h d (List.mem_cons_of_mem _ hd)
    rw [List.length_append, List.length_map, List.length_cons, Nat.succ_mul]
    omega
section
variable {X : Cx} {N : Ent} {ρ ρ' : Rho} {M M1 M2 M3 M' Mc Mr Mc' : Mem} {a b c e elt iter iter1 : Expr} {pos p pos' : Pos} {i j k : It} {t u : Bool} {scope : Scope}
/-- [elt for x in xs for y in (a list reckoned from x)] -/
theorem el_comp2L {x y : Str} {px py : Pos} (n1 n2 : Nat) {ds : List PyData} (fl : PyData → List PyData) (f : PyData → PyData → PyData) (hc : X.calm = true) (hN : X.N.Nodup) (ne : n1 ≠ n2) (hi : EJ X N ρ M iter (.d (.list ds)) M1)
    (hz : ds.length ≤ 1000) (shape : ∀ d ∈ ds, (fl d).length ≤ 64)
    (src : ∀ d ∈ ds, ∀ N' s H C cl fp, EJ (X.blk s H scope (compEnvC scope cl C X.env) fp) N' ((ρ.set n2 none).set n1 (some (.d d))) M1 iter1 (.d (.list (fl d))) M1)
    (step : ∀ (d0 d : PyData), d0 ∈ ds → d ∈ fl d0 → ∀ N' s H C cl fp, EJ (X.blk s H scope (compEnvC scope cl C X.env) fp) N' (((ρ.set n2 none).set n1 (some (.d d0))).set n2 (some (.d d))) M1 elt (.d (f d0 d)) M1)
    (ok : BlkOk X.N X.env.scope scope [(x, n1), (y, n2)] := by exact blkOk_by (by kernel_rfl))
    (hg1 : ∀ (s : Shared) (H : Hp) (C : Addr) (cl : List (Str × Addr)) (fp : List Addr), PG (X.blk s H scope (compEnvC scope cl C X.env) fp) (.Name x px) (gName n1) := by exact fun _ _ _ _ _ => pg_name (by assumption) rfl (Or.inl rfl))
    (hg2 : ∀ (s : Shared) (H : Hp) (C : Addr) (cl : List (Str × Addr)) (fp : List Addr), PG (X.blk s H scope (compEnvC scope cl C X.env) fp) (.Name y py) (gName n2) := by exact fun _ _ _ _ _ => pg_name (by assumption) rfl (Or.inl rfl))
    (hf : ∀ x, foldedSetIterable iter X.env x = pure x := by intro _; rfl) (hf1 : ∀ env x, foldedSetIterable iter1 env x = pure x := by intro _ _; rfl) : EL X N ρ M (.ListComp elt [⟨.Name x px, iter, [], 0⟩, ⟨.Name y py, iter1, [], 0⟩] scope pos) ((flatL fl f ds).map It.d) M1 := fun σ H P hh g Q q => by
  have pi1 : ∀ (s : Shared) (H : Hp) (C : Addr) (cl : List (Str × Addr)) (fp : List Addr), PI (X.blk s H scope (compEnvC scope cl C X.env) fp) (.Name y py) iter1 (iList X.K (wBE X scope iter1)) := fun s H C cl fp =>
    pi_list (X := X.blk s H scope (compEnvC scope cl C X.env) fp) ⟨fun pins s1 σ1 H1 Q1 I1 h1 => h1 s H C cl fp pins s1 I1⟩
  refine e_of (pe_lc2 (vs1 := [n2]) (te := wBE X scope elt) hc hN (pi_list pe_w) ok (by simp) hg1 (fun _ _ _ _ _ => pts_nil) pi1 hg2 (fun _ _ _ _ _ => pts_nil) (fun s H C cl fp => ⟨fun pins s1 σ1 H1 Q1 I1 h1 => h1 s H C cl fp pins s1 I1⟩) hf hf1) (hi σ H P hh g _ fun v H1 P1 e1 h1 r1 => ?_)
  obtain ⟨a, xs, rfl, x1, x2⟩ := ri_lst r1
  have xl := dnAll_len x2
  refine ⟨a, rfl, ⟨xs, .inl (.inl (h1.ex _ _ x1))⟩, fun D hD => ?_⟩
  refine ⟨fun i m H => m = xs.length - i ∧ i ≤ xs.length ∧ ∃ P', Holds N P' H (M1 ++ [(D, (flatL fl f (ds.take i)).map It.d)]) ∧ Ex P1 P', ⟨xs.length, by simp, Nat.zero_le _, P1, h1.own hD (its := []) trivial, Ex.refl _⟩, ?_⟩
  rintro i m H2 ⟨rfl, hil, P2, h2, e2⟩
  have sq : SqL X.K H2 a xs := .inl (.inl (h2.ex _ _ (e2 _ _ x1)))
  by_cases hlt : i < xs.length
  · refine .inr ⟨⟨xs, xs[i], sq, by simp [hlt]⟩, fun H' => ∃ P', Holds N P' H' (M1 ++ [(D, (flatL fl f (ds.take (i + 1))).map It.d)]) ∧ Ex P1 P', fun H' p' => ⟨xs.length - (i + 1), by omega, rfl, hlt, p'⟩, fun x' H' yl => ?_⟩
    obtain ⟨rfl, yx⟩ := yl
    have hx := yx xs sq
    have nl : i < ds.length := xl ▸ hlt
    obtain ⟨v', ev, dv⟩ := dnAll_get x2 (List.getElem?_eq_getElem nl)
    rw [hx] at ev
    cases Option.some.inj ev
    have hmem : ds[i] ∈ ds := List.getElem_mem nl
    have ll := shape _ hmem
    generalize hl : fl ds[i] = l at ll
    refine ⟨wipe_first ne, ?_⟩
    unfold tYes
    dsimp only
    rw [if_pos rfl]
    intro s H0 C cl fp
    have g2 : Slots P2 ((wipe σ [n1, n2]).set n1 (some x')) ((ρ.set n2 none).set n1 (some (.d ds[i]))) := by
      have e : (wipe σ [n1, n2]).set n1 (some x') = (σ.set n2 none).set n1 (some x') := by
        show ((σ.set n2 none).set n1 none).set n1 (some x') = _
        rw [List.set_set]
      rw [e]
      exact ((g.ex (e1.trans e2)).unset n2 none).set (it := .d ds[i]) (dn_ex e2 _ _ dv) n1
    refine src _ hmem (inner P2 H' M1) s H0 C cl fp _ H' P2 h2.enter g2 _ fun w H4 P4 e4 h4 r4 => ?_
    have h5 := h2.leave h4
    rw [hl] at r4
    obtain ⟨ta, ts, rfl, t1, t2⟩ := ri_lst r4
    have tl := dnAll_len t2
    refine ⟨ta, rfl, ⟨ts, .inl (.inl (h5.ex _ _ t1))⟩, fun j k H => k = ts.length - j ∧ j ≤ ts.length ∧ ∃ P', Holds N P' H (M1 ++ [(D, (flatL fl f (ds.take i) ++ (l.take j).map (f ds[i])).map It.d)]) ∧ Ex P4 P', ⟨ts.length, by simp, Nat.zero_le _, P4, by simpa using h5, Ex.refl _⟩, ?_⟩
    rintro j k H6 ⟨rfl, hjl, P6, h6, e6⟩
    have sq6 : SqL X.K H6 ta ts := .inl (.inl (h6.ex _ _ (e6 _ _ t1)))
    by_cases hjt : j < ts.length
    · refine .inr ⟨⟨ts, ts[j], sq6, by simp [hjt]⟩, fun H' => ∃ P', Holds N P' H' (M1 ++ [(D, (flatL fl f (ds.take i) ++ (l.take (j + 1)).map (f ds[i])).map It.d)]) ∧ Ex P4 P', fun H' p' => ⟨ts.length - (j + 1), by omega, rfl, hjt, p'⟩, fun x7 H7 yl7 => ?_⟩
      obtain ⟨rfl, yx7⟩ := yl7
      have hx7 := yx7 ts sq6
      have nl7 : j < l.length := tl ▸ hjt
      obtain ⟨v7, ev7, dv7⟩ := dnAll_get t2 (List.getElem?_eq_getElem nl7)
      rw [hx7] at ev7
      cases Option.some.inj ev7
      refine ⟨wipe_comp n2, ?_⟩
      dsimp only
      rw [if_pos rfl]
      intro s H0 C cl fp
      have g7 := slots_comp (g2.ex (e4.trans e6)) n2 (i := .d l[j]) (dn_ex e6 _ _ dv7)
      refine step ds[i] l[j] hmem (by rw [hl]; exact List.getElem_mem nl7) (inner P6 H7 M1) s H0 C cl fp _ H7 P6 h6.enter g7 _ fun y8 H8 P8 e8 h8 r8 => ?_
      have h9 := h6.leave h8
      obtain ⟨acc, ea, ra⟩ := h9.cell (a := D) (its := (flatL fl f (ds.take i) ++ (l.take j).map (f ds[i])).map It.d) (List.mem_append_right _ (List.mem_singleton.mpr rfl))
      have hlen := flatL_len fl f 64 (ds.take i) fun d hd => shape d (List.mem_of_mem_take hd)
      refine ⟨acc, ea, ?_, P8, ?_, e6.trans e8⟩
      · rw [ra.len]
        refine Nat.lt_of_lt_of_le (m := 100000) ?_ (by decide)
        simp
        have : (List.take i ds).length ≤ 1000 := by rw [List.length_take]; omega
        have h64 : (flatL fl f (List.take i ds)).length ≤ 64000 := Nat.le_trans hlen (by omega)
        omega
      · have h10 := h9.write (a := D) (its := (flatL fl f (ds.take i) ++ (l.take j).map (f ds[i])).map It.d) (its' := (flatL fl f (ds.take i) ++ (l.take (j + 1)).map (f ds[i])).map It.d) (List.mem_append_right _ (List.mem_singleton.mpr rfl)) (xs' := acc ++ [y8]) (by
          have e11 : (flatL fl f (ds.take i) ++ (l.take (j + 1)).map (f ds[i])).map It.d = (flatL fl f (ds.take i) ++ (l.take j).map (f ds[i])).map It.d ++ [It.d (f ds[i] l[j])] := by
            rw [List.take_add_one, List.getElem?_eq_getElem nl7, List.map_append, List.map_append, List.map_append, List.map_append, List.append_assoc]
            rfl
          rw [e11]
          exact ra.app ⟨r8, trivial⟩)
        rw [put_last h9.nd] at h10
        exact h10
    · have ej : j = ts.length := by omega
      subst ej
      refine .inl ⟨⟨ts, sq6, Nat.le_refl _⟩, P6, ?_, (e2.trans e4).trans e6⟩
      rw [flatL_take fl f (List.getElem?_eq_getElem nl), hl]
      rw [tl, List.take_length] at h6
      exact h6
  · have ei : i = xs.length := by omega
    subst ei
    refine .inl ⟨⟨xs, sq, Nat.le_refl _⟩, ?_⟩
    rw [xl, List.take_length] at h2
    exact q D H2 P2 (e1.trans e2) (h1.newF hD) h2
end
end Kt

/-! Ktf: tuples of any length joined, cut and repeated; targets of several names. -/
namespace Kt
open PySem PySem.Spec PyProof.Rows L2
section
variable {X : Cx} {N : Ent} {ρ ρ' ρ1 ρ2 : Rho} {M M1 M2 M3 M' : Mem} {a b c e : Expr} {pos p pos' : Pos} {i j k : It}
theorem rj_catA {ds es : List PyData} (hz : ds.length + es.length ≤ 100000) : RJ N (rCatA X.K) M (.d (.tuple ds)) (.d (.tuple es)) (.d (.tuple (ds ++ es))) M := fun x y H P h rx ry Q q => by
  obtain ⟨a, xs, rfl, h1, h2⟩ := ri_tup rx
  obtain ⟨b, ys, rfl, h3, h4⟩ := ri_tup ry
  have l1 := dnAll_len h2
  have l2 := dnAll_len h4
  refine ⟨a, b, xs, ys, rfl, rfl, .inl (.inl (h.ex _ _ h1)), .inl (.inl (h.ex _ _ h3)), by rw [l1, l2]; exact Nat.le_trans hz (by decide), fun ex => ?_, fun _ ey => ?_, fun _ _ p hp => ?_⟩
  · rw [ex] at l1
    have : ds = [] := List.length_eq_zero_iff.mp l1.symm
    subst this
    exact q _ H P (Ex.refl P) h (.tup h3 h4)
  · rw [ey] at l2
    have : es = [] := List.length_eq_zero_iff.mp l2.symm
    subst this
    rw [List.append_nil] at q
    exact q _ H P (Ex.refl P) h (.tup h1 h2)
  · obtain ⟨h5, e5⟩ := h.pers (o := .tup (xs ++ ys)) hp
    exact q _ _ _ e5 h5 (.tup upd_same (dnAll_ex e5 _ _ (h2.app h4)))
/-- t + u -/
theorem ej_catA {ds es : List PyData} (ha : EJ X N ρ M a (.d (.tuple ds)) M1) (hb : EJ X N ρ M1 b (.d (.tuple es)) M2) (hz : ds.length + es.length ≤ 100000) : EJ X N ρ M (.BinOp a .Add b pos) (.d (.tuple (ds ++ es))) M2 := ej_op op_catA ha hb (rj_catA hz)
/-- t * n, two times at least -/
theorem ej_repT {ds : List PyData} {n : Int} (ha : EJ X N ρ M a (.d (.tuple ds)) M1) (hb : EJ X N ρ M1 b (dI n) M2) (h0 : ds ≠ []) (h1 : 2 ≤ n) (h2 : n ≤ 1000) (hz : ds.length ≤ 1000) : EJ X N ρ M (.BinOp a .Mult b pos) (.d (.tuple (List.replicate n.toNat ds).flatten)) M2 :=
  ej_op op_repT ha hb fun x y H P h rx ry Q q => by
    obtain ⟨l, xs, rfl, h3, h4⟩ := ri_tup rx
    have l1 := dnAll_len h4
    refine ⟨l, n, xs, rfl, ri_int ry, .inl (.inl (h.ex _ _ h3)), fun ex => h0 ?_, h1, h2, by rw [l1]; exact hz, fun p hp => ?_⟩
    · rw [ex] at l1
      exact List.length_eq_zero_iff.mp l1.symm
    · obtain ⟨h5, e5⟩ := h.pers (o := .tup (List.replicate n.toNat xs).flatten) hp
      exact q _ _ _ e5 h5 (.tup upd_same (dnAll_ex e5 _ _ (h4.rep _)))
/-- t[lo:hi], the parts written ints or none, the whole of it too -/
theorem ej_slA {ds : List PyData} {lo hi : Option Expr} {l h : Option Int} {tl th : TO} {p2 : Pos} (ha : EJ X N ρ M a (.d (.tuple ds)) M1) (pl : PO X lo tl) (ph : PO X hi th) (el : ∀ σ H Q, Q l H → tl σ H Q) (eh : ∀ σ H Q, Q h H → th σ H Q) :
    EJ X N ρ M (.Subscript a (.Slice lo hi none p2) pos) (.d (.tuple (cutD ds l h))) M1 := fun σ H P hh g Q q =>
  e_of (pe_slice sl_tupA pe_w pl ph) (ha σ H P hh g _ fun x H1 P1 e1 h1 r1 => el _ _ _ (eh _ _ _ (by
    obtain ⟨a, xs, rfl, h3, h4⟩ := ri_tup r1
    have l1 := dnAll_len h4
    refine ⟨a, xs, rfl, .inl (.inl (h1.ex _ _ h3)), fun hw => ?_, fun _ p hp => ?_⟩
    · rw [l1] at hw
      have e : cutD ds l h = ds := by
        unfold cutD
        rw [hw.1, hw.2, List.drop_zero, Nat.sub_zero, List.take_length]
      rw [e] at q
      exact q _ H1 P1 e1 h1 (.tup h3 h4)
    · obtain ⟨h5, e5⟩ := h1.pers (o := .tup (cutV xs l h)) hp
      exact q _ _ _ (e1.trans e5) h5 (.tup upd_same (dnAll_ex e5 _ _ (h4.cut l h))))))
/-- several targets, one datum each -/
def GsJ (X : Cx) (N : Ent) (es : List Expr) (ds : List PyData) (ρ ρ' : Rho) : Prop :=
  ∃ t : TGs, PGs X es t ∧ ∀ vs σ H P M, Holds N P H M → Slots P σ ρ → DnAll P vs ds → ∀ Q : L2.St → Hp → Prop, (∀ σ', Slots P σ' ρ' → Q σ' H) → t vs σ H Q
theorem gs_nil : GsJ X N [] [] ρ ρ := ⟨gNil, pgs_nil, fun vs σ H P M hh g r Q q => by
  cases r
  exact ⟨rfl, q σ g⟩⟩
theorem gs_cons {es : List Expr} {d : PyData} {ds : List PyData} {x : Str} (n : Nat) (hN : X.N.Nodup) (h : GsJ X N es ds (ρ.set n (some (.d d))) ρ') (hi : X.N[n]? = some x := by rfl) (hx : Loc X.env.scope x := by first | exact .inl rfl | exact .inr rfl) (hf : X.fn x = true ∨ X.env.scope.names.lookup x = some .local := by first | exact .inl rfl | exact .inr rfl)
    (hs : (assignEach (.Name x p :: es) X.env).map (·.2) = assign (.Name x p) X.env :: (assignEach es X.env).map (·.2) := by rfl) : GsJ X N (.Name x p :: es) (d :: ds) ρ ρ' := by
  obtain ⟨t, pt, ht⟩ := h
  refine ⟨gCons (gName n) t, pgs_cons (pg_name (i := n) hN hi hx hf) pt hs, fun vs σ H P M hh g r Q q => ?_⟩
  cases r with
  | cons r1 r2 => exact ⟨_, _, rfl, ht _ _ H P M hh (g.set (it := .d d) r1 n) r2 Q q⟩
theorem gj_tup {es : List Expr} {ds : List PyData} {kk : Nat} (hc : X.calm = true) (h : GsJ X N es ds ρ ρ') (hl : es.length = ds.length := by rfl)
    (hn : (assignEach es X.env).length = es.length := by rfl) (hst : (assignEach es X.env).findIdx? (·.1) = none := by rfl) : GJ X N (.Tuple es kk pos) (.d (.tuple ds)) ρ ρ' := fun v σ H P M hh g r Q q => by
  obtain ⟨t, pt, ht⟩ := h
  obtain ⟨a, xs, rfl, h1, h2⟩ := ri_tup r
  exact g_of (pg_tup hc pt hn hst) ⟨a, xs, rfl, .inl (.inl (hh.ex _ _ h1)), by rw [dnAll_len h2, hl], ht xs σ H P M hh g h2 Q q⟩
end
end Kt

/-! Ktg: isinstance(e, ..) of an own error that bears a name, in a suite that answers with it. -/
namespace Kt
open PySem PySem.Spec PyProof.Rows L2
/-- what K tells of the error's class, so that isinstance may be asked of its instances -/
structure IsTxt (K : PySem.W.Frag) (Cs C0 : Addr) : Prop where
  cl : (PySem.W.clsIn K Cs).isSome = true
  sb : PySem.W.subIn K (.ref Cs) (.type "BaseException") = some true
  ha : PySem.W.findIn K (.ref Cs) "__class__" = some (some (.builtin "object.__class__"))
  hn : PySem.W.specialIn K (.builtin "object.__class__") "__get__" = some (some (.builtin "getset_descriptor.__get__"))
  ht : PySem.W.takesIn K (.builtin "object.__class__") = some true
  hm : PySem.W.mroIn K Cs (.type "object") = some true
  k0 : PySem.W.kitOne K (.ref Cs) (.ref C0) = some true
  kV : PySem.W.kitOne K (.ref Cs) (.type "ValueError") = some true
section
variable {X : Cx} {N : Ent} {M' : Mem} {Cs C0 fI a dd : Addr} {fd : FuncData} {sI : Stmt} {oe : Obj} {pn : List (Addr × Obj)} {pos : Pos} {rest : List Stmt}
def rIsD (K : PySem.W.Frag) (D a dd : Addr) : List V → Hp → VK → Prop := fun xs H Q => ∃ (c : V) (cv : Value) (b : Bool) (z : Str), xs = [.ref a, c] ∧ (∀ u, RelV c u → u = cv) ∧ PySem.W.kitOne K (.ref D) cv = some b ∧ H dd = some (XD z) ∧ Q (.bl b) H
theorem call_isD (T : ErrTxt X.K X.mg sI Cs C0 fI fd) (I0 : IsTxt X.K Cs C0) (hz : Zc (.ref Cs) (some dd) oe) (hf : ∃ vs, oe.data = .fields vs) : CallR (X.suite a ((a, oe) :: pn)) (.builtin "isinstance") (rIsD X.K Cs a dd) := by
  intro pins s σ H xs us Q I r h
  obtain ⟨c, cv, b, z, rfl, hcv, e, hd, q⟩ := h
  obtain ⟨x, us1, rx, r1, rfl⟩ : ∃ x us1, RelV (.ref a) x ∧ Vals [c] us1 ∧ us = x :: us1 := by
    cases r with
    | cons h1 h2 => exact ⟨_, _, h1, h2, rfl⟩
  obtain ⟨u, rt, rfl⟩ : ∃ u, RelV c u ∧ us1 = [u] := by
    cases r1 with
    | cons h1 h2 =>
      cases h2
      exact ⟨_, h1, rfl⟩
  obtain rfl : x = Value.ref a := rx
  obtain rfl := hcv u rt
  obtain ⟨hget, _⟩ := I.pin (a, oe) (List.mem_append_left _ List.mem_cons_self)
  obtain ⟨vs, hv⟩ := hf
  have hx : ObjOk X.prog X.w H s.heap dd (XD z) := I.hok dd _ hd
  obtain ⟨mA, hns, _⟩ := hx
  obtain ⟨od, ho, _⟩ := lookIn_ns hns
  have J : PySem.W.InstAt s.heap a oe Cs (some od) := ⟨hget, hz.1, by unfold PySem.W.notCls; rw [hv] <;> rfl, by rw [hz.2]; exact ho⟩
  exact PySem.W.kia_one (PySem.W.kitx_exc I0.cl T.ga T.gg I0.sb I0.ha I0.hn I0.ht I0.hm) I.kIn J e (fun z => nomatch z) fun tk => ⟨.bl b, H, I.kept (t' := tk) fun _ _ z => z, rfl, q⟩
/-- return isinstance(e, base) and isinstance(e, ValueError) and e.name == '..' -/
theorem suite_isEq (n : Nat) {nm b0 z w : Str} {p1 p2 p3 p4 p5 p6 p7 p8 p9 pA pB pC pD : Pos} {j : Nat} {rt : It → Mem → Prop} (T : ErrTxt X.K X.mg sI Cs C0 fI fd) (I0 : IsTxt X.K Cs C0) (hmi : X.mg "isinstance" = none) (hmv : X.mg "ValueError" = none) (h : rt (dB (decide (z = w))) M') (hi : X.N[n]? = some nm := by rfl)
    (hb0 : X.mg b0 = some (.ref C0)) (hg0 : Gl X b0 := by rfl) (hgi : Gl X "isinstance" := by rfl) (hgv : Gl X "ValueError" := by rfl) (hd0 : (b0 == ("__debug__" : Str)) = false := by decide)
    (hv : Vis X.env.scope nm := by exact Or.inl rfl) (hd : (nm == ("__debug__" : Str)) = false := by decide) (hcd : (nm == ("__classdict__" : Str)) = false := by decide)
    (hb : attributeBase (.Name nm p1) "name" X.env (eval (.Name nm p1) X.env) = eval (.Name nm p1) X.env := by rfl)
    (hs1 : starEach [.Name nm p6, .Name b0 p7] X.env = (false, eval (.Name nm p6) X.env) :: starEach [.Name b0 p7] X.env := by rfl) (hs2 : starEach [.Name b0 p7] X.env = [(false, eval (.Name b0 p7) X.env)] := by rfl) (hpl1 : (backTo p8 (starEach [.Name b0 p7] X.env)).any (·.1) = false := by rfl)
    (hs3 : starEach [.Name nm pA, .Name "ValueError" pB] X.env = (false, eval (.Name nm pA) X.env) :: starEach [.Name "ValueError" pB] X.env := by rfl) (hs4 : starEach [.Name "ValueError" pB] X.env = [(false, eval (.Name "ValueError" pB) X.env)] := by rfl) (hpl2 : (backTo pC (starEach [.Name "ValueError" pB] X.env)).any (·.1) = false := by rfl) :
    SuiteOk X N n Cs (.Return (some (.BoolOp .And [.Call (.Name "isinstance" p5) [.Name nm p6, .Name b0 p7] [] p8, .Call (.Name "isinstance" p9) [.Name nm pA, .Name "ValueError" pB] [] pC, .Compare (.Attribute (.Name nm p1) "name" p2) [.Eq] [.Constant (.str w) j p3] p4] pD)) pos :: rest) z M' rt := fun a dd P' H' σ' oe pn D hh x ha hl hz hf k => by
  have l : n < X.N.length := (List.getElem?_eq_some_iff.mp hi).1
  have sv : (σ'.set n (some (.ref a)))[n]? = some (some (.ref a)) := List.getElem?_set_self (by omega)
  have CI := call_isD (X := X) (pn := pn) (a := a) T I0 hz hf
  have PV : ∀ q : Pos, PE (X.suite a ((a, oe) :: pn)) (.Name nm q) _ := fun q => pe_var (i := n) hi hv hd hcd
  refine ss_of (pss_cons (ps_ret (pe_and (pe_callB CI hgi hmi boot_isinstance (pa_cons (PV p6) (pa_cons (pe_glob hg0 hb0 (v := .ref C0) rfl hd0) pa_nil hs2) hs1) (by decide) (by decide) hs1 hpl1) (pe_and (pe_callB CI hgi hmi boot_isinstance (pa_cons (PV pA) (pa_cons (pe_bltn hgv hmv (by decide +kernel) (v := .ty "ValueError") rfl) pa_nil hs4) hs3) (by decide) (by decide) hs3 hpl2) (pe_one (pe_cmpR op_eq (pe_ename T hz hf (PV p1) hb) pe_str (nomark _)))))) pss_w) ?_
  refine ⟨.ref a, sv, .ref C0, .ref C0, true, z, rfl, fun u hu => hu, I0.k0, x, true, rfl, iteT ?_⟩
  refine ⟨.ref a, sv, .ty "ValueError", .type "ValueError", true, z, rfl, fun u hu => hu, I0.kV, x, true, rfl, iteT ?_⟩
  refine ⟨.ref a, sv, rfl, rfl, dd, .str z, rfl, x, rfl, ?_⟩
  refine k (dB (decide (z = w))) M' _ H' P' h (Ex.refl _) hh ?_
  have e : decide (V.str z = V.str w) = decide (z = w) := by
    by_cases q : z = w
    · rw [q, decide_eq_true rfl, decide_eq_true rfl]
    · rw [decide_eq_false q, decide_eq_false fun h => q (V.str.inj h)]
  show Dn P' (.bl (decide (V.str z = V.str w))) (.bool (decide (z = w)))
  rw [e]
  exact .bl _
end
end Kt

/-! Kth: a tuple once: t * 1. -/
namespace Kt
open PySem PySem.Spec PyProof PyProof.Rows L2
theorem tup_once (l : Addr) (its : Array Value) (n : Nat) (dd : Option Addr) (sl : Array (Option Value)) (u : Tok) :
    Meets (Builtin.«tuple.__mul__» ⟨[.ref l, .int 1 u], []⟩) (fun _ R s => s.heap.get? l = some { cls := .type "tuple", dict := dd, data := .seq its n, slots := sl } ∧ R (.ok (.ret (Value.ref l))) s) :=
  .of_wp fun prog w A R s hr => by
    obtain ⟨hp, g, d, tk, os⟩ := s
    obtain ⟨at_, fin⟩ := hr
    have idx := AutoSeq1.idx_int
    have one : (its.isEmpty || (1 : Int) == 1) = true := by simp
    wp_walk using wpAny_loadPart' at_
    exact ⟨_, rfl, fin⟩
section
variable {X : Cx} {N : Ent} {ρ : Rho} {M M1 M2 : Mem} {a b : Expr} {pos : Pos}
def rOnce (K : PySem.W.Frag) : R2 := fun x y H Q => ∃ l xs, x = .ref l ∧ y = .int 1 ∧ SqT K H l xs ∧ Q (.ref l) H
theorem op_once : OpR X (binaryOp .Mult) (rOnce X.K) := by
  intro pins s σ H x y v u Q I rx ry h
  obtain ⟨l, xs, rfl, rfl, hT, q⟩ := h
  obtain rfl : v = Value.ref l := rx
  obtain ⟨t, rfl⟩ := ry
  obtain ⟨its, r, ⟨⟨cls, dd, data, sl⟩, ho, hc, n, hd⟩, _⟩ := I.tuple hT
  obtain rfl : cls = Value.type "tuple" := hc
  obtain rfl : data = _ := hd
  have ti : s.TypeIs (.ref l) "tuple" := ⟨_, ho, rfl⟩
  have mul := call_meets (prog := X.prog) (w := X.w) (A := X.A) (E := X.xe) F.slot_tuple_mul ti F.entry_tuple_mul (F.args_tuple_mul_2 _ _) (tup_once l its.toArray n dd sl t) (Q := EP X pins σ Q) ⟨ho, ⟨.ref l, H, I, rfl, q⟩⟩
  exact wpAny_binaryOp_repeat_ref (T := "tuple") (U := "int") (by decide) ti (fun s' => typeIs_int s' 1 t) noFill_tuple_mul F.fills_int_mul F.slot_int_rmul repeat_tuple F.slot_int_index.lookup
    (call_meets F.slot_int_rmul (typeIs_int s 1 t) F.entry_int_rmul (F.args_int_rmul_2 _ _) (int_rmul_tuple 1 t l its.toArray n dd sl) ⟨ho, rfl, ti, mul⟩)
/-- t * n, once at least -/
theorem ej_times {ds : List PyData} {n : Int} (ha : EJ X N ρ M a (.d (.tuple ds)) M1) (hb : EJ X N ρ M1 b (dI n) M2) (h0 : ds ≠ []) (h1 : 1 ≤ n) (h2 : n ≤ 1000) (hz : ds.length ≤ 1000) : EJ X N ρ M (.BinOp a .Mult b pos) (.d (.tuple (List.replicate n.toNat ds).flatten)) M2 := by
  by_cases h : n = 1
  · subst h
    rw [show (List.replicate (1 : Int).toNat ds).flatten = ds by simp]
    exact ej_op op_once ha hb fun x y H P hh rx ry Q q => by
      obtain ⟨l, xs, rfl, h3, h4⟩ := ri_tup rx
      exact ⟨l, xs, rfl, ri_int ry, .inl (.inl (hh.ex _ _ h3)), q _ H P (Ex.refl P) hh (.tup h3 h4)⟩
  · exact ej_repT ha hb h0 (by omega) h2 hz
end
end Kt

/-! Kti: enumerate over a tuple -/
namespace Kt
open PySem PySem.Spec PyProof PyProof.Rows L2
theorem wp_ite2 {M : Model} {A : Around} {α : Type} {c : Prop} [Decidable c] {t e : Sem α} {Q : α → Shared → Prop} {E : Value → Shared → Prop} {s : Shared} (h1 : wpAny M A t Q E s) (h2 : wpAny M A e Q E s) : wpAny M A (if c then t else e) Q E s := by
  split <;> assumption
theorem enum_newB {v : Value} {o : Obj} {Hh : Heap → Prop} (B : Begins v o Hh) : Meets (Builtin.«enumerate.__new__» ⟨[.type "enumerate", v], []⟩) (fun _ R s => Hh s.heap ∧ R (.ok (.ret (Value.ref (s.heap.push o).objs.size))) { s with heap := (s.heap.push o).push { cls := .type "enumerate", data := .fields #[.none, .bool false, .ref s.heap.objs.size, rawInt 0, .none, .none] } }) :=
  .of_wp fun prog w A R s hr => by
    obtain ⟨hp, g, d, tk, os⟩ := s
    obtain ⟨at_, fin⟩ := hr
    have hsub := sub_enumerate
    have hit := fun (A : Around) (E : Value → Shared → Prop) (s : Shared) (Q : Value → Shared → Prop) (h1 : Hh s.heap) (h2 : Q (.ref s.heap.objs.size) { s with heap := s.heap.push o }) => B.iter prog w A E s Q h1 h2
    unfold Builtin.«enumerate.__new__»
    wp_walk using hit
    refine wpAny_stack_any fun st => wpAny_pure ?_
    refine wp_ite2 ?_ ?_
    · wp_walk using hit
      case h1 => exact at_
      show wpAny _ _ _ _ _ ⟨hp.push o, g, d, tk, os⟩
      wp_walk
      exact ⟨_, rfl, fin⟩
    · wp_walk using hit
      case h1 => exact at_
      show wpAny _ _ _ _ _ ⟨hp.push o, g, d, tk, os⟩
      wp_walk
      exact ⟨_, rfl, fin⟩
def IteT (K : PySem.W.Frag) (a : Addr) : L2.It :=
  { go := fun i H => ∃ xs x, SqT K H a xs ∧ xs[i]? = some x
    yld := fun i H v H' => ∃ T x, v = .ref T ∧ H T = none ∧ H' = upd H T (.tup [.int (i : Nat), x]) ∧ ∀ xs, SqT K H a xs → xs[i]? = some x
    stop := fun i H => ∃ xs, SqT K H a xs ∧ xs.length = i }
theorem turn_enumT {P : Program} {w : World} {K : PySem.W.Frag} {elts : List Expr} {kk : Nat} {tpos : Pos} (a e it : Addr) :
    Turn P w K (.Tuple elts kk tpos) (IteT K a) [e, it] e fun i h => (∃ old, IsEnum h e it (i : Nat) old) ∧ h.IsTupleIter it a i ∧ e ≠ it := by
  refine ⟨by simp, ?_, ?_, ?_, ?_, ?_⟩
  · rintro i h ⟨⟨old, h1⟩, ⟨o, h2, _, h4⟩, ne⟩ b hb
    simp only [List.mem_cons, List.not_mem_nil, or_false] at hb
    rcases hb with rfl | rfl
    · exact ⟨_, h1, fun v => by simp⟩
    · exact ⟨_, h2, fun v => by rw [h4]; simp⟩
  · rintro i h h' ⟨⟨old, h1⟩, h2, ne⟩ hk
    exact ⟨⟨old, hk e (by simp) _ h1⟩, h2.at (hk it (by simp)), ne⟩
  · rintro X rfl rfl rfl hc i pins s σ H E I hfp ⟨⟨old, h1⟩, h2, ne⟩ ⟨xs, x, hq, hx⟩
    obtain ⟨its, hv, ht, hl⟩ := I.tuple hq
    obtain ⟨u, hu, ru⟩ := hv.get hx
    have nea : a ≠ e := fun q => by
      obtain ⟨o, ho, hcl, _⟩ := ht
      rw [q, h1] at ho
      cases ho
      simp at hcl
    have nei : a ≠ it := fun q => by
      obtain ⟨o, ho, hcl, _⟩ := ht
      obtain ⟨o2, ho2, hcl2, _⟩ := h2
      rw [q, ho2] at ho
      cases ho
      rw [hcl2] at hcl
      simp at hcl
    have G := GoesN.enumFrom (prog := X.prog) (w := X.w) (A := X.A) (elts := elts) (x1 := kk) (pos := tpos) 0 (Draws.tuple (prog := X.prog) (w := X.w) (A := X.A.in1) (I.ok.hd hc) it a nei its.toArray) e ne (by simp [ne, Ne.symm nea]) (by simp)
    refine G.goes i s _ E (by simp; exact (List.getElem?_eq_some_iff.mp hu).1) ⟨⟨old, by simpa using h1⟩, h2, ht⟩ fun v h' tk hY hS hfr htk => ?_
    obtain ⟨T, t, x', rfl, hT, hx', hTu⟩ := hY
    have ex : x' = u := by
      simp at hx'
      rw [hu] at hx'
      exact (Option.some.inj hx').symm
    subst ex
    have hT0 : H T = none := I.hok.fresh hT
    refine ⟨.ref T, upd H T (.tup [.int (i : Nat), x]), I.turnedNew hfr (fun b hb => hfp b hb) hT ?_, rfl, ⟨T, x, rfl, hT0, rfl, fun ys hy => by rw [I.tuple_inj hy hq]; exact hx⟩, ?_, fun b hb => ?_⟩
    · unfold ObjOk
      refine ⟨by show 2 ≤ sizeLine; decide, [.int (i : Nat) t, x'], .cons ⟨t, rfl⟩ (.cons ru .nil), ?_⟩
      rw [Int.zero_add] at hTu
      exact hTu
    · obtain ⟨⟨o, g1⟩, g2, _⟩ := hS
      exact ⟨⟨o, by simpa using g1⟩, g2, ne⟩
    · have hb0 := (hfp b hb).1
      by_cases q : b = T
      · subst q
        obtain ⟨_, _, _, h5, _⟩ := hfp b hb
        exfalso
        have : ∃ o, s.heap.get? b = some o := by
          simp only [List.mem_cons, List.not_mem_nil, or_false] at hb
          rcases hb with rfl | rfl
          · exact ⟨_, h1⟩
          · obtain ⟨o, q1, _⟩ := h2
            exact ⟨o, q1⟩
        obtain ⟨o, q1⟩ := this
        exact absurd (Heap.lt_size q1) (Nat.not_lt.mpr hT)
      · rw [upd_ne q]
        exact hb0
  · rintro X rfl rfl rfl hc i pins s σ H E I hfp ⟨⟨old, h1⟩, h2, ne⟩ ⟨xs, hq, hx⟩
    obtain ⟨its, hv, ht, hl⟩ := I.tuple hq
    have hlen : its.toArray.size = i := by simp; rw [← hv.length]; exact hx
    have nei : a ≠ it := fun q => by
      obtain ⟨o, ho, hcl, _⟩ := ht
      obtain ⟨o2, ho2, hcl2, _⟩ := h2
      rw [q, ho2] at ho
      cases ho
      rw [hcl2] at hcl
      simp at hcl
    refine wpAny_pyNext_enum_endD (Draws.tuple (prog := X.prog) (w := X.w) (A := X.A.in1) (I.ok.hd hc) it a nei its.toArray) h1 ⟨hlen ▸ h2, ht⟩ fun h' hx' => ⟨rfl, ?_⟩
    obtain ⟨a1, a2, a3, a4, a5, a6⟩ := hfp it (by simp)
    exact I.turned (fun b o hb hg => hx' b o hb hg) a1 a2 a4 a5 a6
  · rintro A i s Q E ⟨⟨old, h1⟩, _, _⟩ q
    exact wpAny_pyIter_enum h1 q

theorem walk_enumT {K : PySem.W.Frag} {a : Addr} {xs : List V} (inj : ∀ H ys, SqT K H a xs → SqT K H a ys → ys = xs) : Walk (IteT K a) xs.length (fun H => SqT K H a xs) (fun i H v H' => ∃ T x, v = .ref T ∧ H T = none ∧ H' = upd H T (.tup [.int (i : Nat), x]) ∧ xs[i]? = some x) :=
  ⟨fun i H hi g => ⟨xs, _, g, List.getElem?_eq_getElem hi⟩, fun H g => ⟨xs, g, rfl⟩, fun i H v H' hi g y => by
    obtain ⟨T, x, a1, a2, a3, a4⟩ := y
    exact ⟨T, x, a1, a2, a3, a4 xs g⟩⟩
theorem call_enumT {prog : Program} {w : World} {A : Around} {E : Value → Shared → Prop} {s : Shared} {v : Value} {o : Obj} {Hh : Heap → Prop} {Q : Value → Shared → Prop} (B : Begins v o Hh) (hh : Hh s.heap)
    (h : ∀ h' : Heap, IsEnum h' (s.heap.objs.size + 1) s.heap.objs.size 0 .none → h'.get? s.heap.objs.size = some o → h'.objs.size = s.heap.objs.size + 2 → (∀ (b : Addr) (o : Obj), s.heap.get? b = some o → h'.get? b = some o) → Q (.ref (s.heap.objs.size + 1)) { s with heap := h' }) :
    wpAny (model prog w) A (call (.type "enumerate") [v]) Q E s := by
  refine callType_new F.called_enumerate (by decide) (F.typeCall_enumerate_1 v) (F.newCall_enumerate_1 v) (fun obj => F.args_object_init_2 obj v) F.entry_enumerate_new (enum_newB B) ⟨hh, ?_⟩
  have hz := Heap.size_push s.heap o
  rw [hz]
  refine ⟨⟨_, Heap.get?_push_at hz.symm rfl, rfl⟩, h _ (Heap.get?_push_at hz.symm rfl) ?_ ?_ ?_⟩
  · exact Heap.get?_push_of_some _ (Heap.get?_push_at rfl B.free)
  · rw [Heap.size_push, hz]
  · exact fun b o2 hb => Heap.get?_push_of_some _ (Heap.get?_push_of_some _ hb)
def iEnumT (K : PySem.W.Frag) (ta : TA) : TI := fun σ H R => ta σ H fun vs H1 => ∃ a xs, vs = [.ref a] ∧ SqT K H1 a xs ∧ R (IteT K a) H1
theorem pi_enumT {X : Cx} {e : Expr} {ta : TA} {p pos tpos : Pos} {elts : List Expr} {kk : Nat} (hg : Gl X "enumerate") (hm : X.mg "enumerate" = none) (ha : PA X [e] ta) (hs : starEach [e] X.env = [(false, eval e X.env)] := by rfl) :
    PI X (.Tuple elts kk tpos) (.Call (.Name "enumerate" p) [e] [] pos) (iEnumT X.K ta) := by
  refine ⟨fun pins s σ H R I h => ?_⟩
  refine Call_ (ld_blt I hg hm boot_enumerate (PyProof.Rows.callWith_type1 (thn (ha.run pos pins s σ H _ I h) fun us s1 x => ?_) hs rfl))
  obtain ⟨vs, H1, I1, r1, a, xs, rfl, hq, q⟩ := x
  cases r1 with
  | cons r rr =>
    cases rr
    cases r
    obtain ⟨its, rv, ht, hz⟩ := I1.tuple hq
    refine call_enumT (begins_tuple a its.toArray) ht fun h' he ho hsz hk => wpAny_pyIter_enum he ?_
    have I2 := I1.kept (t' := s1.toks) hk
    refine ⟨_, [s1.heap.objs.size + 1, s1.heap.objs.size], _, IteT X.K a, H1, rfl, I2, turn_enumT a (s1.heap.objs.size + 1) s1.heap.objs.size, ⟨⟨_, he⟩, ⟨_, ho, rfl, rfl⟩, Nat.succ_ne_self _⟩, fun b hb => ?_, q⟩
    simp only [List.mem_cons, List.not_mem_nil, or_false] at hb
    rcases hb with rfl | rfl
    · exact I1.fpOk (by omega) (I1.hok.fresh (by omega))
    · exact I1.fpOk (by omega) (I1.hok.fresh (by omega))
end Kt

/-! Ktk: loops and comprehensions over any walk of data: enumerate, zip, lists, tuples. -/
namespace Kt
open PySem PySem.Spec PyProof PyProof.Rows L2
structure WalkQ (φ : Mem → Prop) (N : Ent) (P1 : Hp) (J : L2.It) (ds : List PyData) : Prop where
  go : ∀ i H P' M', i < ds.length → Holds N P' H M' → Ex P1 P' → φ M' → J.go i H
  stop : ∀ H P' M', Holds N P' H M' → Ex P1 P' → φ M' → J.stop ds.length H
  yld : ∀ i H x H' P' M', i < ds.length → Holds N P' H M' → Ex P1 P' → φ M' → J.yld i H x H' → ∃ P'' d, ds[i]? = some d ∧ Ex P' P'' ∧ Holds N P'' H' M' ∧ RepI P'' x (.d d)
abbrev anyM : Mem → Prop := fun _ => True
section
variable {X : Cx} {N : Ent} {ρ ρ' : Rho} {M M1 M2 : Mem} {a b e tg iter : Expr} {pos : Pos} {Z : Post} {body rest : List Stmt}
/-- a walk that asks φ of what may still change -/
def IWQ (φ : Mem → Prop) (X : Cx) (N : Ent) (ρ : Rho) (M : Mem) (tg iter : Expr) (ds : List PyData) (M1 : Mem) : Prop :=
  ∃ ti : TI, PI X tg iter ti ∧ ∀ σ H P, Holds N P H M → Slots P σ ρ → ∀ R, (∀ J H1 P1, Ex P P1 → Holds N P1 H1 M1 → WalkQ φ N P1 J ds → R J H1) → ti σ H R
abbrev IW (X : Cx) (N : Ent) (ρ : Rho) (M : Mem) (tg iter : Expr) (ds : List PyData) (M1 : Mem) : Prop := IWQ anyM X N ρ M tg iter ds M1
def enumD (ds : List PyData) : List PyData := ds.mapIdx fun i d => .tuple [.int (i : Int), d]
theorem enumD_get {ds : List PyData} {i : Nat} {d : PyData} (h : ds[i]? = some d) : (enumD ds)[i]? = some (.tuple [.int (i : Int), d]) := by
  unfold enumD
  rw [List.getElem?_mapIdx, h]
  rfl
theorem enumD_len (ds : List PyData) : (enumD ds).length = ds.length := by unfold enumD; simp
theorem enumD_inv {ds : List PyData} {i : Nat} {d : PyData} (h : (enumD ds)[i]? = some d) : ∃ x, ds[i]? = some x ∧ d = .tuple [.int (i : Int), x] := by
  unfold enumD at h
  rw [List.getElem?_mapIdx] at h
  obtain ⟨x, h1, h2⟩ := Option.map_eq_some_iff.mp h
  exact ⟨x, h1, h2.symm⟩
theorem iw_enumT {p : Pos} {elts : List Expr} {kk : Nat} {tpos : Pos} {ds : List PyData} (hm : X.mg "enumerate" = none) (ha : EJ X N ρ M a (.d (.tuple ds)) M1) (hg : Gl X "enumerate" := by rfl) (hs : starEach [a] X.env = [(false, eval a X.env)] := by rfl) :
    IW X N ρ M (.Tuple elts kk tpos) (.Call (.Name "enumerate" p) [a] [] pos) (enumD ds) M1 := by
  refine ⟨_, pi_enumT hg hm pa_w hs, fun σ H P hh g R q => ?_⟩
  refine aj_cons ha aj_nil hs σ H P hh g _ fun vs H1 P1 e1 h1 r1 => ?_
  obtain ⟨x, rfl, r2⟩ := ri1 r1
  obtain ⟨t, xs, rfl, x1, x2⟩ := ri_tup r2
  have xl := dnAll_len x2
  refine ⟨t, xs, rfl, .inl (.inl (h1.ex _ _ x1)), q _ H1 P1 e1 h1 ⟨fun i H P' M' hi h2 e2 _ => ?_, fun H P' M' h2 e2 _ => ?_, fun i H v H' P' M' hi h2 e2 _ y => ?_⟩⟩
  · rw [enumD_len, ← xl] at hi
    exact ⟨xs, _, .inl (.inl (h2.ex _ _ (e2 _ _ x1))), List.getElem?_eq_getElem hi⟩
  · exact ⟨xs, .inl (.inl (h2.ex _ _ (e2 _ _ x1))), by rw [enumD_len, xl]⟩
  · obtain ⟨T, u, rfl, hT, rfl, hx⟩ := y
    have hx := hx xs (.inl (.inl (h2.ex _ _ (e2 _ _ x1))))
    rw [enumD_len] at hi
    obtain ⟨v', ev, dv⟩ := dnAll_get x2 (List.getElem?_eq_getElem hi)
    rw [hx] at ev
    cases Option.some.inj ev
    obtain ⟨h5, e5⟩ := h2.pers (o := .tup [.int (i : Nat), u]) hT
    exact ⟨_, _, enumD_get (List.getElem?_eq_getElem hi), e5, h5, .tup upd_same (.cons (.int _) (.cons (dn_ex e5 _ _ (dn_ex e2 _ _ dv)) .nil))⟩
theorem iw_enumL {p : Pos} {elts : List Expr} {kk : Nat} {tpos : Pos} {ds : List PyData} (hm : X.mg "enumerate" = none) (ha : EJ X N ρ M a (.d (.list ds)) M1) (hg : Gl X "enumerate" := by rfl) (hs : starEach [a] X.env = [(false, eval a X.env)] := by rfl) :
    IW X N ρ M (.Tuple elts kk tpos) (.Call (.Name "enumerate" p) [a] [] pos) (enumD ds) M1 := by
  refine ⟨_, pi_enum hg hm pa_w hs, fun σ H P hh g R q => ?_⟩
  refine aj_cons ha aj_nil hs σ H P hh g _ fun vs H1 P1 e1 h1 r1 => ?_
  obtain ⟨x, rfl, r2⟩ := ri1 r1
  obtain ⟨t, xs, rfl, x1, x2⟩ := ri_lst r2
  have xl := dnAll_len x2
  refine ⟨t, xs, rfl, .inl (.inl (h1.ex _ _ x1)), q _ H1 P1 e1 h1 ⟨fun i H P' M' hi h2 e2 _ => ?_, fun H P' M' h2 e2 _ => ?_, fun i H v H' P' M' hi h2 e2 _ y => ?_⟩⟩
  · rw [enumD_len, ← xl] at hi
    exact ⟨xs, _, .inl (.inl (h2.ex _ _ (e2 _ _ x1))), List.getElem?_eq_getElem hi⟩
  · exact ⟨xs, .inl (.inl (h2.ex _ _ (e2 _ _ x1))), by rw [enumD_len, xl]; exact Nat.le_refl _⟩
  · obtain ⟨T, u, rfl, hT, rfl, hx⟩ := y
    have hx := hx xs (.inl (.inl (h2.ex _ _ (e2 _ _ x1))))
    rw [enumD_len] at hi
    obtain ⟨v', ev, dv⟩ := dnAll_get x2 (List.getElem?_eq_getElem hi)
    rw [hx] at ev
    cases Option.some.inj ev
    obtain ⟨h5, e5⟩ := h2.pers (o := .tup [.int (i : Nat), u]) hT
    exact ⟨_, _, enumD_get (List.getElem?_eq_getElem hi), e5, h5, .tup upd_same (.cons (.int _) (.cons (dn_ex e5 _ _ (dn_ex e2 _ _ dv)) .nil))⟩
theorem iw_list {ds : List PyData} (ha : EJ X N ρ M iter (.d (.list ds)) M1) : IW X N ρ M tg iter ds M1 := by
  refine ⟨_, pi_list pe_w, fun σ H P hh g R q => ?_⟩
  refine ha σ H P hh g _ fun v H1 P1 e1 h1 r1 => ?_
  obtain ⟨t, xs, rfl, x1, x2⟩ := ri_lst r1
  have xl := dnAll_len x2
  refine ⟨t, rfl, ⟨xs, .inl (.inl (h1.ex _ _ x1))⟩, q _ H1 P1 e1 h1 ⟨fun i H P' M' hi h2 e2 _ => ?_, fun H P' M' h2 e2 _ => ?_, fun i H v H' P' M' hi h2 e2 _ y => ?_⟩⟩
  · rw [← xl] at hi
    exact ⟨xs, _, .inl (.inl (h2.ex _ _ (e2 _ _ x1))), List.getElem?_eq_getElem hi⟩
  · exact ⟨xs, .inl (.inl (h2.ex _ _ (e2 _ _ x1))), by rw [xl]; exact Nat.le_refl _⟩
  · obtain ⟨rfl, hx⟩ := y
    have hx := hx xs (.inl (.inl (h2.ex _ _ (e2 _ _ x1))))
    obtain ⟨v', ev, dv⟩ := dnAll_get x2 (List.getElem?_eq_getElem hi)
    rw [hx] at ev
    cases Option.some.inj ev
    exact ⟨P', _, List.getElem?_eq_getElem hi, Ex.refl _, h2, dn_ex e2 _ _ dv⟩
theorem iw_tup {ds : List PyData} (ha : EJ X N ρ M iter (.d (.tuple ds)) M1) : IW X N ρ M tg iter ds M1 := by
  refine ⟨_, pi_tup pe_w, fun σ H P hh g R q => ?_⟩
  refine ha σ H P hh g _ fun v H1 P1 e1 h1 r1 => ?_
  obtain ⟨t, xs, rfl, x1, x2⟩ := ri_tup r1
  have xl := dnAll_len x2
  refine ⟨t, rfl, ⟨xs, .inl (.inl (h1.ex _ _ x1))⟩, q _ H1 P1 e1 h1 ⟨fun i H P' M' hi h2 e2 _ => ?_, fun H P' M' h2 e2 _ => ?_, fun i H v H' P' M' hi h2 e2 _ y => ?_⟩⟩
  · rw [← xl] at hi
    exact ⟨xs, _, .inl (.inl (h2.ex _ _ (e2 _ _ x1))), List.getElem?_eq_getElem hi⟩
  · exact ⟨xs, .inl (.inl (h2.ex _ _ (e2 _ _ x1))), by rw [xl]; exact Nat.le_refl _⟩
  · obtain ⟨rfl, hx⟩ := y
    have hx := hx xs (.inl (.inl (h2.ex _ _ (e2 _ _ x1))))
    obtain ⟨v', ev, dv⟩ := dnAll_get x2 (List.getElem?_eq_getElem hi)
    rw [hx] at ev
    cases Option.some.inj ev
    exact ⟨P', _, List.getElem?_eq_getElem hi, Ex.refl _, h2, dn_ex e2 _ _ dv⟩
/-- a list of one's own, as long as it stays -/
theorem iw_own {p : Addr} {ds : List PyData} (ha : EJ X N ρ M iter (.v (.ref p)) M1) (hp : (p, ds.map It.d) ∈ M1) : IWQ (fun M' => (p, ds.map It.d) ∈ M') X N ρ M tg iter ds M1 := by
  refine ⟨_, pi_list pe_w, fun σ H P hh g R q => ?_⟩
  refine ha σ H P hh g _ fun v H1 P1 e1 h1 r1 => ?_
  cases (show v = .ref p from r1)
  obtain ⟨xs0, x0, _⟩ := h1.cell hp
  refine ⟨p, rfl, ⟨xs0, .inl (.inl x0)⟩, q _ H1 P1 e1 h1 ⟨fun i H P' M' hi h2 e2 hm => ?_, fun H P' M' h2 e2 hm => ?_, fun i H v H' P' M' hi h2 e2 hm y => ?_⟩⟩
  · obtain ⟨xs, x1, x2⟩ := h2.cell hm
    have xl := dnAll_len x2.to_all
    rw [← xl] at hi
    exact ⟨xs, _, .inl (.inl x1), List.getElem?_eq_getElem hi⟩
  · obtain ⟨xs, x1, x2⟩ := h2.cell hm
    have xl := dnAll_len x2.to_all
    exact ⟨xs, .inl (.inl x1), by rw [xl]; exact Nat.le_refl _⟩
  · obtain ⟨rfl, hx⟩ := y
    obtain ⟨xs, x1, x2⟩ := h2.cell hm
    have hx := hx xs (.inl (.inl x1))
    obtain ⟨v', ev, dv⟩ := dnAll_get x2.to_all (List.getElem?_eq_getElem hi)
    rw [hx] at ev
    cases Option.some.inj ev
    exact ⟨P', _, List.getElem?_eq_getElem hi, Ex.refl _, h2, dv⟩
theorem iw_zipL {p : Pos} {elts : List Expr} {kk : Nat} {tpos : Pos} {ds es : List PyData} (hm : X.mg "zip" = none) (ha : EJ X N ρ M a (.d (.list ds)) M1) (hb : EJ X N ρ M1 b (.d (.list es)) M2) (hl : ds.length = es.length) (hg : Gl X "zip" := by rfl) (hs : starEach [a, b] X.env = (false, eval a X.env) :: starEach [b] X.env := by rfl) (hs2 : starEach [b] X.env = (false, eval b X.env) :: starEach [] X.env := by rfl) (hpl : (backTo pos (starEach [b] X.env)).any (·.1) = false := by rfl) :
    IW X N ρ M (.Tuple elts kk tpos) (.Call (.Name "zip" p) [a, b] [] pos) (List.zipWith (fun x y => .tuple [x, y]) ds es) M2 := by
  refine ⟨_, pi_zip hg hm pa_w hs hpl, fun σ H P hh g R q => ?_⟩
  refine aj_cons ha (aj_cons hb aj_nil hs2) hs σ H P hh g _ fun vs H1 P1 e1 h1 r1 => ?_
  obtain ⟨x, y, rfl, r2, r3⟩ := ri2 r1
  obtain ⟨t, xs, rfl, x1, x2⟩ := ri_lst r2
  obtain ⟨u, ys, rfl, y1, y2⟩ := ri_lst r3
  have xl := dnAll_len x2
  have yl := dnAll_len y2
  have zl : (List.zipWith (fun x y => PyData.tuple [x, y]) ds es).length = ds.length := by simp; omega
  refine ⟨t, u, xs, ys, rfl, .inl (.inl (h1.ex _ _ x1)), .inl (.inl (h1.ex _ _ y1)), q _ H1 P1 e1 h1 ⟨fun i H P' M' hi h2 e2 _ => ?_, fun H P' M' h2 e2 _ => ?_, fun i H v H' P' M' hi h2 e2 _ y => ?_⟩⟩
  · rw [zl] at hi
    exact ⟨xs, ys, _, _, .inl (.inl (h2.ex _ _ (e2 _ _ x1))), .inl (.inl (h2.ex _ _ (e2 _ _ y1))), List.getElem?_eq_getElem (by omega), List.getElem?_eq_getElem (by omega)⟩
  · exact ⟨xs, ys, .inl (.inl (h2.ex _ _ (e2 _ _ x1))), .inl (.inl (h2.ex _ _ (e2 _ _ y1))), .inl (by rw [zl, xl]; exact Nat.le_refl _)⟩
  · obtain ⟨T, x, y, rfl, hT, rfl, hx, hy⟩ := y
    have hx := hx xs (.inl (.inl (h2.ex _ _ (e2 _ _ x1))))
    have hy := hy ys (.inl (.inl (h2.ex _ _ (e2 _ _ y1))))
    rw [zl] at hi
    obtain ⟨v', ev, dv⟩ := dnAll_get x2 (List.getElem?_eq_getElem hi)
    rw [hx] at ev
    cases Option.some.inj ev
    obtain ⟨w', ew, dw⟩ := dnAll_get y2 (List.getElem?_eq_getElem (show i < es.length by omega))
    rw [hy] at ew
    cases Option.some.inj ew
    obtain ⟨h5, e5⟩ := h2.pers (o := .tup [x, y]) hT
    exact ⟨_, .tuple [ds[i], es[i]], by rw [List.getElem?_zipWith, List.getElem?_eq_getElem hi, List.getElem?_eq_getElem (show i < es.length by omega)], e5, h5, .tup upd_same (.cons (dn_ex e5 _ _ (dn_ex e2 _ _ dv)) (.cons (dn_ex e5 _ _ (dn_ex e2 _ _ dw)) .nil))⟩
theorem sj_forQ {φ : Mem → Prop} {ds : List PyData} (hc : X.calm = true) (hi : IWQ φ X N ρ M tg iter ds M1) (Inv : Nat → Rho → Mem → Prop) (hφ : ∀ n ρ' M', Inv n ρ' M' → φ M') (h0 : Inv 0 ρ M1)
    (step : ∀ n d ρ' M', ds[n]? = some d → Inv n ρ' M' → ∃ ρ2, GJ X N tg (.d d) ρ' ρ2 ∧ SJ X N ρ2 M' body { nx := Inv (n + 1), ct := Inv (n + 1), bk := fun ρ' M' => SJ X N ρ' M' rest Z, rt := Z.rt, er := Z.er })
    (done : ∀ ρ' M', Inv ds.length ρ' M' → SJ X N ρ' M' rest Z) (hp : PassesOwn (model X.prog X.w) X.A X.env X.xe := by exact PassesOwn.never) (hf : ∀ x, foldedSetIterable iter X.env x = pure x := by intro _; rfl) : SJ X N ρ M (.For tg iter body [] pos :: rest) Z := sj_cons fun σ H P hh g D E tk z => by
  obtain ⟨ti, pi, hi⟩ := hi
  refine s_of (ps_for hp hc pi pg_w pss_w hf) (hi σ H P hh g _ fun J H1 P1 e1 h1 W => ?_)
  have WK : Walk J ds.length (fun H => ∃ P' M', Holds N P' H M' ∧ Ex P1 P' ∧ φ M') (fun i H x H' => ∀ P' M', Holds N P' H M' → Ex P1 P' → φ M' → ∃ P'' d, ds[i]? = some d ∧ Ex P' P'' ∧ Holds N P'' H' M' ∧ RepI P'' x (.d d)) :=
    ⟨fun i H hi ⟨P', M', a, b, c⟩ => W.go i H P' M' hi a b c, fun H ⟨P', M', a, b, c⟩ => W.stop H P' M' a b c, fun i H x H' hi _ y P' M' a b c => W.yld i H x H' P' M' hi a b c y⟩
  refine for_it WK (fun n σ' H' => ∃ ρ' M' P', Inv n ρ' M' ∧ Holds N P' H' M' ∧ Slots P' σ' ρ' ∧ Ex P1 P') ⟨ρ, M1, P1, h0, h1, g.ex e1, Ex.refl _⟩ (fun i σ' H' _ ⟨ρ', M', P', iv, a, _, b⟩ => ⟨P', M', a, b, hφ _ _ _ iv⟩) (fun n x σ' H' H2 hn hw hy => ?_) (fun σ' H' hw => ?_)
  · obtain ⟨ρ', M', P', w, h2, g2, e2⟩ := hw
    obtain ⟨P2, d, ed, e3, h3, r3⟩ := hy P' M' h2 e2 (hφ _ _ _ w)
    obtain ⟨ρ2, G, S⟩ := step n d ρ' M' ed w
    refine G x σ' H2 P2 M' h3 (g2.ex e3) r3 _ fun σ2 g3 => ?_
    refine S σ2 H2 P2 h3 g3 _ E tk ⟨fun ρ4 M4 σ4 H4 P4 a e h g => ⟨ρ4, M4, P4, a, h, g, (e2.trans e3).trans e⟩, fun i M4 v H4 P4 a e h r => z.rt i M4 v H4 P4 a ((e1.trans (e2.trans e3)).trans e) h r, fun ρ4 M4 σ4 H4 P4 a e h g => z.nx ρ4 M4 σ4 H4 P4 a ((e1.trans (e2.trans e3)).trans e) h g, fun ρ4 M4 σ4 H4 P4 a e h g => ⟨ρ4, M4, P4, a, h, g, (e2.trans e3).trans e⟩, fun w M4 d H4 P4 C c a e h x => z.er w M4 d H4 P4 C c a ((e1.trans (e2.trans e3)).trans e) h x⟩
  · obtain ⟨ρ', M', P', w, h2, g2, e2⟩ := hw
    exact z.nx ρ' M' σ' H' P' (done ρ' M' w) (e1.trans e2) h2 g2
theorem sj_forW {ds : List PyData} (hc : X.calm = true) (hi : IW X N ρ M tg iter ds M1) (Inv : Nat → Rho → Mem → Prop) (h0 : Inv 0 ρ M1)
    (step : ∀ n d ρ' M', ds[n]? = some d → Inv n ρ' M' → ∃ ρ2, GJ X N tg (.d d) ρ' ρ2 ∧ SJ X N ρ2 M' body { nx := Inv (n + 1), ct := Inv (n + 1), bk := fun ρ' M' => SJ X N ρ' M' rest Z, rt := Z.rt, er := Z.er })
    (done : ∀ ρ' M', Inv ds.length ρ' M' → SJ X N ρ' M' rest Z) (hp : PassesOwn (model X.prog X.w) X.A X.env X.xe := by exact PassesOwn.never) (hf : ∀ x, foldedSetIterable iter X.env x = pure x := by intro _; rfl) : SJ X N ρ M (.For tg iter body [] pos :: rest) Z :=
  sj_forQ hc hi Inv (fun _ _ _ _ => trivial) h0 step done hp hf
/-! ### comprehensions over any walk -/
variable {scope : Scope} {cnd elt : Expr}
/-- a target of a comprehension: from a datum to the slots -/
def TgC (N : Ent) (ρ : Rho) (vs : List Nat) (tgt : TG) (d : PyData) (ρ2 : Rho) : Prop :=
  ∀ v σ H P M, Holds N P H M → Slots P σ ρ → RepI P v (.d d) → ∀ Q : L2.St → Hp → Prop, (∀ σ2, Slots P σ2 ρ2 → wipe σ2 vs = wipe σ vs → Q σ2 H) → tgt v (wipe σ vs) H Q
theorem tgc1 (n : Nat) {d : PyData} : TgC N ρ [n] (gName n) d (ρ.set n (some (.d d))) := fun v σ H P M hh g r Q q => q _ (slots_comp g n r) (wipe_comp n)
theorem tgc2 {K : PySem.W.Frag} (n1 n2 : Nat) (ne : n1 ≠ n2) {x y : PyData} : TgC N ρ [n1, n2] (gTup K 2 (gCons (gName n1) (gCons (gName n2) gNil))) (.tuple [x, y]) ((ρ.set n1 (some (.d x))).set n2 (some (.d y))) := fun v σ H P M hh g r Q q => by
  obtain ⟨ta, ts, rfl, t1, t2⟩ := ri_tup r
  cases t2 with
  | cons k1 kr =>
    cases kr with
    | cons k2 kn =>
      cases kn
      exact ⟨ta, _, rfl, .inl (.inl (hh.ex _ _ t1)), rfl, _, _, rfl, _, _, rfl, rfl, q _ (by rw [two_set ne]; exact (g.set (it := .d x) k1 n1).set (it := .d y) k2 n2) (two_wipe ne)⟩
theorem lj_compQ {φ : Mem → Prop} {ti : TI} (vs : List Nat) (tgt : TG) {ds : List PyData} (A : Nat → List It) (Mi : Nat → Mem)
    (hi : ∀ σ H P, Holds N P H M → Slots P σ ρ → ∀ R, (∀ J H1 P1, Ex P P1 → Holds N P1 H1 M1 → WalkQ φ N P1 J ds → R J H1) → ti σ H R)
    (hφ : ∀ m c, φ (Mi m ++ [c])) (hA0 : A 0 = []) (hM0 : Mi 0 = M1) (hz : ds.length ≤ 100000)
    (step : ∀ (m : Nat) d, ds[m]? = some d → ∃ ρ2 t Mm, TgC N ρ vs tgt d ρ2 ∧ (∀ N' s H C cl fp, TJ (X.blk s H scope (compEnvC scope cl C X.env) fp) N' ρ2 (Mi m) cnd t Mm) ∧ (A m).length ≤ m ∧
      (t = true → ∃ j, A (m + 1) = A m ++ [j] ∧ ∀ N' s H C cl fp, EJ (X.blk s H scope (compEnvC scope cl C X.env) fp) N' ρ2 Mm elt j (Mi (m + 1))) ∧ (t = false → A (m + 1) = A m ∧ Mi (m + 1) = Mm))
    : LJ X N ρ M (tLc ti tgt (wBT X scope cnd) (wBE X scope elt) vs) (A ds.length) (Mi ds.length) := fun σ H P hh g Q q => by
  refine hi σ H P hh g _ fun J H1 P1 e1 h1 W D hD => ?_
  have WK : Walk J ds.length (fun H => ∃ P' M', Holds N P' H M' ∧ Ex P1 P' ∧ φ M') (fun i H x H' => i < ds.length ∧ ∀ P' M', Holds N P' H M' → Ex P1 P' → φ M' → ∃ P'' d, ds[i]? = some d ∧ Ex P' P'' ∧ Holds N P'' H' M' ∧ RepI P'' x (.d d)) :=
    ⟨fun i H hi ⟨P', M', a, b, c⟩ => W.go i H P' M' hi a b c, fun H ⟨P', M', a, b, c⟩ => W.stop H P' M' a b c, fun i H x H' hi _ y => ⟨hi, fun P' M' a b c => W.yld i H x H' P' M' hi a b c y⟩⟩
  refine lc_it WK (fun m H' => ∃ P', Holds N P' H' (Mi m ++ [(D, A m)]) ∧ Ex P1 P') ⟨P1, by rw [hA0, hM0]; exact h1.own hD (its := []) trivial, Ex.refl _⟩ (fun m H' _ ⟨P', a, b⟩ => ⟨P', _, a, b, hφ m _⟩) (fun m x' H' H2 hn hw hy => ?_) (fun H' hw => ?_)
  · obtain ⟨P', h2', e2'⟩ := hw
    obtain ⟨P2, d, ed, e3', h2, r3⟩ := hy.2 P' _ h2' e2' (hφ m _)
    have e2 := e2'.trans e3'
    obtain ⟨ρ2, t, Mm, G, T, lA, S1, S2⟩ := step m d ed
    refine G x' σ H2 P2 _ h2 (g.ex (e1.trans e2)) r3 _ fun σ2 gs hw2 => ⟨hw2, ?_⟩
    intro s H0 C cl fp
    refine T (inner P2 H2 (Mi m)) s H0 C cl fp _ H2 P2 h2.enter gs _ fun H3 P3 e3 h3 => ?_
    cases t with
    | true =>
      obtain ⟨j, eA, S⟩ := S1 rfl
      rw [if_pos rfl]
      intro s H0 C cl fp
      refine S (inner P2 H2 (Mi m)) s H0 C cl fp _ H3 P3 h3 (gs.ex e3) _ fun y H4 P4 e4 h4 r4 => ?_
      have h5 := h2.leave h4
      obtain ⟨acc, ea, ra⟩ := h5.cell (a := D) (its := A m) (List.mem_append_right _ (List.mem_singleton.mpr rfl))
      refine ⟨acc, ea, by rw [ra.len]; exact Nat.lt_of_lt_of_le (Nat.lt_of_le_of_lt lA (Nat.lt_of_lt_of_le hn hz)) (by decide), P4, ?_, (e2.trans e3).trans e4⟩
      have h6 := h5.write (a := D) (its := A m) (its' := A (m + 1)) (List.mem_append_right _ (List.mem_singleton.mpr rfl)) (xs' := acc ++ [y]) (by rw [eA]; exact ra.app ⟨r4, trivial⟩)
      rw [put_last h5.nd] at h6
      exact h6
    | false =>
      obtain ⟨eA, eM⟩ := S2 rfl
      rw [if_neg Bool.false_ne_true]
      refine ⟨P3, ?_, e2.trans e3⟩
      rw [eA, eM]
      exact h2.leave h3
  · obtain ⟨P', h2, e2⟩ := hw
    exact q D H' P' (e1.trans e2) (h1.newF hD) h2
theorem lj_compW {φ : Mem → Prop} {ti : TI} (vs : List Nat) (tgt : TG) {ds : List PyData} (A : Nat → List It) (Mi : Nat → Mem)
    (hi : ∀ σ H P, Holds N P H M → Slots P σ ρ → ∀ R, (∀ J H1 P1, Ex P P1 → Holds N P1 H1 M1 → WalkQ φ N P1 J ds → R J H1) → ti σ H R)
    (hφ : ∀ m c, φ (Mi m ++ [c])) (hA0 : A 0 = []) (hM0 : Mi 0 = M1) (hz : ds.length ≤ 100000)
    (step : ∀ (m : Nat) d, ds[m]? = some d → ∃ ρ2 j, TgC N ρ vs tgt d ρ2 ∧ A (m + 1) = A m ++ [j] ∧ (A m).length ≤ m ∧ ∀ N' s H C cl fp, EJ (X.blk s H scope (compEnvC scope cl C X.env) fp) N' ρ2 (Mi m) elt j (Mi (m + 1)))
    : LJ X N ρ M (tLc ti tgt tYes (wBE X scope elt) vs) (A ds.length) (Mi ds.length) := fun σ H P hh g Q q => by
  refine hi σ H P hh g _ fun J H1 P1 e1 h1 W D hD => ?_
  have WK : Walk J ds.length (fun H => ∃ P' M', Holds N P' H M' ∧ Ex P1 P' ∧ φ M') (fun i H x H' => i < ds.length ∧ ∀ P' M', Holds N P' H M' → Ex P1 P' → φ M' → ∃ P'' d, ds[i]? = some d ∧ Ex P' P'' ∧ Holds N P'' H' M' ∧ RepI P'' x (.d d)) :=
    ⟨fun i H hi ⟨P', M', a, b, c⟩ => W.go i H P' M' hi a b c, fun H ⟨P', M', a, b, c⟩ => W.stop H P' M' a b c, fun i H x H' hi _ y => ⟨hi, fun P' M' a b c => W.yld i H x H' P' M' hi a b c y⟩⟩
  refine lc_it WK (fun m H' => ∃ P', Holds N P' H' (Mi m ++ [(D, A m)]) ∧ Ex P1 P') ⟨P1, by rw [hA0, hM0]; exact h1.own hD (its := []) trivial, Ex.refl _⟩ (fun m H' _ ⟨P', a, b⟩ => ⟨P', _, a, b, hφ m _⟩) (fun m x' H' H2 hn hw hy => ?_) (fun H' hw => ?_)
  · obtain ⟨P', h2', e2'⟩ := hw
    obtain ⟨P2, d, ed, e3', h2, r3⟩ := hy.2 P' _ h2' e2' (hφ m _)
    have e2 := e2'.trans e3'
    obtain ⟨ρ2, j, G, eA, lA, S⟩ := step m d ed
    refine G x' σ H2 P2 _ h2 (g.ex (e1.trans e2)) r3 _ fun σ2 gs hw2 => ⟨hw2, ?_⟩
    unfold tYes
    dsimp only
    rw [if_pos rfl]
    intro s H0 C cl fp
    refine S (inner P2 H2 (Mi m)) s H0 C cl fp _ H2 P2 h2.enter gs _ fun y H4 P4 e4 h4 r4 => ?_
    have h5 := h2.leave h4
    obtain ⟨acc, ea, ra⟩ := h5.cell (a := D) (its := A m) (List.mem_append_right _ (List.mem_singleton.mpr rfl))
    refine ⟨acc, ea, by rw [ra.len]; exact Nat.lt_of_lt_of_le (Nat.lt_of_le_of_lt lA (Nat.lt_of_lt_of_le hn hz)) (by decide), P4, ?_, e2.trans e4⟩
    have h6 := h5.write (a := D) (its := A m) (its' := A (m + 1)) (List.mem_append_right _ (List.mem_singleton.mpr rfl)) (xs' := acc ++ [y]) (by rw [eA]; exact ra.app ⟨r4, trivial⟩)
    rw [put_last h5.nd] at h6
    exact h6
  · obtain ⟨P', h2, e2⟩ := hw
    exact q D H' P' (e1.trans e2) (h1.newF hD) h2
/-- [e for x in walk] -/
theorem el_compW1 {φ : Mem → Prop} {x : Str} {p : Pos} (n : Nat) {ds : List PyData} (A : Nat → List It) (Mi : Nat → Mem) (hc : X.calm = true) (hN : X.N.Nodup) (hi : IWQ φ X N ρ M (.Name x p) iter ds M1)
    (hφ : ∀ m c, φ (Mi m ++ [c])) (hA0 : A 0 = []) (hM0 : Mi 0 = M1) (hz : ds.length ≤ 100000)
    (step : ∀ (m : Nat) d, ds[m]? = some d → ∃ j, A (m + 1) = A m ++ [j] ∧ (A m).length ≤ m ∧ ∀ N' s H C cl fp, EJ (X.blk s H scope (compEnvC scope cl C X.env) fp) N' (ρ.set n (some (.d d))) (Mi m) elt j (Mi (m + 1)))
    (ok : BlkOk X.N X.env.scope scope [(x, n)] := by exact blkOk_by (by kernel_rfl))
    (hgn : ∀ (s : Shared) (H : Hp) (C : Addr) (cl : List (Str × Addr)) (fp : List Addr), PG (X.blk s H scope (compEnvC scope cl C X.env) fp) (.Name x p) (gName n) := by exact fun _ _ _ _ _ => pg_name (by assumption) rfl (Or.inl rfl))
    (hf : ∀ x, foldedSetIterable iter X.env x = pure x := by intro _; rfl) : EL X N ρ M (.ListComp elt [⟨.Name x p, iter, [], 0⟩] scope pos) (A ds.length) (Mi ds.length) := by
  obtain ⟨ti, pi, hi⟩ := hi
  exact el_lc (lj_compW [n] (gName n) A Mi hi hφ hA0 hM0 hz fun m d hd => by obtain ⟨j, a, b, c⟩ := step m d hd; exact ⟨_, j, tgc1 n, a, b, c⟩) (pe_lc hc hN pi ok hgn (fun _ _ _ _ _ => pts_nil) (te := wBE X scope elt) (fun s H C cl fp => ⟨fun pins s1 σ1 H1 Q1 I1 h1 => h1 s H C cl fp pins s1 I1⟩) hf)
/-- [e for x in walk if c] -/
theorem el_compW1F {φ : Mem → Prop} {x : Str} {p : Pos} (n : Nat) {ds : List PyData} (A : Nat → List It) (Mi : Nat → Mem) (hc : X.calm = true) (hN : X.N.Nodup) (hi : IWQ φ X N ρ M (.Name x p) iter ds M1)
    (hφ : ∀ m c, φ (Mi m ++ [c])) (hA0 : A 0 = []) (hM0 : Mi 0 = M1) (hz : ds.length ≤ 100000)
    (step : ∀ (m : Nat) d, ds[m]? = some d → ∃ t Mm, (∀ N' s H C cl fp, TJ (X.blk s H scope (compEnvC scope cl C X.env) fp) N' (ρ.set n (some (.d d))) (Mi m) cnd t Mm) ∧ (A m).length ≤ m ∧
      (t = true → ∃ j, A (m + 1) = A m ++ [j] ∧ ∀ N' s H C cl fp, EJ (X.blk s H scope (compEnvC scope cl C X.env) fp) N' (ρ.set n (some (.d d))) Mm elt j (Mi (m + 1))) ∧ (t = false → A (m + 1) = A m ∧ Mi (m + 1) = Mm))
    (ok : BlkOk X.N X.env.scope scope [(x, n)] := by exact blkOk_by (by kernel_rfl))
    (hgn : ∀ (s : Shared) (H : Hp) (C : Addr) (cl : List (Str × Addr)) (fp : List Addr), PG (X.blk s H scope (compEnvC scope cl C X.env) fp) (.Name x p) (gName n) := by exact fun _ _ _ _ _ => pg_name (by assumption) rfl (Or.inl rfl))
    (hf : ∀ x, foldedSetIterable iter X.env x = pure x := by intro _; rfl) : EL X N ρ M (.ListComp elt [⟨.Name x p, iter, [cnd], 0⟩] scope pos) (A ds.length) (Mi ds.length) := by
  obtain ⟨ti, pi, hi⟩ := hi
  exact el_lc (lj_compQ [n] (gName n) A Mi hi hφ hA0 hM0 hz fun m d hd => by obtain ⟨t, Mm, a, b, c⟩ := step m d hd; exact ⟨_, t, Mm, tgc1 n, a, b, c⟩) (pe_lc hc hN pi ok hgn (tt := wBT X scope cnd) (fun s H C cl fp => pts_one ⟨fun pins s1 σ1 H1 Q1 I1 h1 => h1 s H C cl fp pins s1 I1⟩) (te := wBE X scope elt) (fun s H C cl fp => ⟨fun pins s1 σ1 H1 Q1 I1 h1 => h1 s H C cl fp pins s1 I1⟩) hf)
/-- [e for x, y in walk] -/
theorem el_compW2 {φ : Mem → Prop} {x y : Str} {px py tp : Pos} {tk : Nat} (n1 n2 : Nat) {ds : List PyData} (A : Nat → List It) (Mi : Nat → Mem) (hc : X.calm = true) (hN : X.N.Nodup) (ne : n1 ≠ n2) (hi : IWQ φ X N ρ M (.Tuple [.Name x px, .Name y py] tk tp) iter ds M1)
    (hφ : ∀ m c, φ (Mi m ++ [c])) (hA0 : A 0 = []) (hM0 : Mi 0 = M1) (hz : ds.length ≤ 100000)
    (step : ∀ (m : Nat) d, ds[m]? = some d → ∃ u v j, d = .tuple [u, v] ∧ A (m + 1) = A m ++ [j] ∧ (A m).length ≤ m ∧ ∀ N' s H C cl fp, EJ (X.blk s H scope (compEnvC scope cl C X.env) fp) N' ((ρ.set n1 (some (.d u))).set n2 (some (.d v))) (Mi m) elt j (Mi (m + 1)))
    (ok : BlkOk X.N X.env.scope scope [(x, n1), (y, n2)] := by exact blkOk_by (by kernel_rfl))
    (hgn : ∀ (s : Shared) (H : Hp) (C : Addr) (cl : List (Str × Addr)) (fp : List Addr), PG (X.blk s H scope (compEnvC scope cl C X.env) fp) (.Tuple [.Name x px, .Name y py] tk tp) (gTup X.K 2 (gCons (gName n1) (gCons (gName n2) gNil))) := by exact fun _ _ _ _ _ => pg_tup (by rfl) (pgs_cons (pg_name (by assumption) rfl (Or.inl rfl)) (pgs_cons (pg_name (by assumption) rfl (Or.inl rfl)) pgs_nil)))
    (hf : ∀ x, foldedSetIterable iter X.env x = pure x := by intro _; rfl) : EL X N ρ M (.ListComp elt [⟨.Tuple [.Name x px, .Name y py] tk tp, iter, [], 0⟩] scope pos) (A ds.length) (Mi ds.length) := by
  obtain ⟨ti, pi, hi⟩ := hi
  exact el_lc (lj_compW [n1, n2] (gTup X.K 2 (gCons (gName n1) (gCons (gName n2) gNil))) A Mi hi hφ hA0 hM0 hz fun m d hd => by obtain ⟨u, v, j, rfl, a, b, c⟩ := step m d hd; exact ⟨_, j, tgc2 n1 n2 ne, a, b, c⟩) (pe_lc hc hN pi ok hgn (fun _ _ _ _ _ => pts_nil) (te := wBE X scope elt) (fun s H C cl fp => ⟨fun pins s1 σ1 H1 Q1 I1 h1 => h1 s H C cl fp pins s1 I1⟩) hf)
/-- [e for x, y in walk if c] -/
theorem el_compW2F {φ : Mem → Prop} {x y : Str} {px py tp : Pos} {tk : Nat} (n1 n2 : Nat) {ds : List PyData} (A : Nat → List It) (Mi : Nat → Mem) (hc : X.calm = true) (hN : X.N.Nodup) (ne : n1 ≠ n2) (hi : IWQ φ X N ρ M (.Tuple [.Name x px, .Name y py] tk tp) iter ds M1)
    (hφ : ∀ m c, φ (Mi m ++ [c])) (hA0 : A 0 = []) (hM0 : Mi 0 = M1) (hz : ds.length ≤ 100000)
    (step : ∀ (m : Nat) d, ds[m]? = some d → ∃ u v t Mm, d = .tuple [u, v] ∧ (∀ N' s H C cl fp, TJ (X.blk s H scope (compEnvC scope cl C X.env) fp) N' ((ρ.set n1 (some (.d u))).set n2 (some (.d v))) (Mi m) cnd t Mm) ∧ (A m).length ≤ m ∧
      (t = true → ∃ j, A (m + 1) = A m ++ [j] ∧ ∀ N' s H C cl fp, EJ (X.blk s H scope (compEnvC scope cl C X.env) fp) N' ((ρ.set n1 (some (.d u))).set n2 (some (.d v))) Mm elt j (Mi (m + 1))) ∧ (t = false → A (m + 1) = A m ∧ Mi (m + 1) = Mm))
    (ok : BlkOk X.N X.env.scope scope [(x, n1), (y, n2)] := by exact blkOk_by (by kernel_rfl))
    (hgn : ∀ (s : Shared) (H : Hp) (C : Addr) (cl : List (Str × Addr)) (fp : List Addr), PG (X.blk s H scope (compEnvC scope cl C X.env) fp) (.Tuple [.Name x px, .Name y py] tk tp) (gTup X.K 2 (gCons (gName n1) (gCons (gName n2) gNil))) := by exact fun _ _ _ _ _ => pg_tup (by rfl) (pgs_cons (pg_name (by assumption) rfl (Or.inl rfl)) (pgs_cons (pg_name (by assumption) rfl (Or.inl rfl)) pgs_nil)))
    (hf : ∀ x, foldedSetIterable iter X.env x = pure x := by intro _; rfl) : EL X N ρ M (.ListComp elt [⟨.Tuple [.Name x px, .Name y py] tk tp, iter, [cnd], 0⟩] scope pos) (A ds.length) (Mi ds.length) := by
  obtain ⟨ti, pi, hi⟩ := hi
  exact el_lc (lj_compQ [n1, n2] (gTup X.K 2 (gCons (gName n1) (gCons (gName n2) gNil))) A Mi hi hφ hA0 hM0 hz fun m d hd => by obtain ⟨u, v, t, Mm, rfl, a, b, c⟩ := step m d hd; exact ⟨_, t, Mm, tgc2 n1 n2 ne, a, b, c⟩) (pe_lc hc hN pi ok hgn (tt := wBT X scope cnd) (fun s H C cl fp => pts_one ⟨fun pins s1 σ1 H1 Q1 I1 h1 => h1 s H C cl fp pins s1 I1⟩) (te := wBE X scope elt) (fun s H C cl fp => ⟨fun pins s1 σ1 H1 Q1 I1 h1 => h1 s H C cl fp pins s1 I1⟩) hf)
end
end Kt

/-! Ktl: slices of what is only read, max of two. -/
namespace Kt
open PySem PySem.Spec PyProof PyProof.Rows L2
section
variable {X : Cx} {N : Ent} {ρ ρ' : Rho} {M M1 M2 M3 : Mem} {a b c e : Expr} {pos : Pos} {i j k : It} {Z : Post} {rest : List Stmt}
theorem el_slS {x0 : It} {ds : List PyData} {lo hi : Option Expr} {l h : Option Int} {tl th : TO} {p2 : Pos} (ha : EJ X N ρ M a x0 M1) (src : ∀ v P, RepI P v x0 → ∃ a xs, v = .ref a ∧ SqL X.K P a xs ∧ DnAll P xs ds) (pl : PO X lo tl) (ph : PO X hi th) (el : ∀ σ H Q, Q l H → tl σ H Q) (eh : ∀ σ H Q, Q h H → th σ H Q) :
    EL X N ρ M (.Subscript a (.Slice lo hi none p2) pos) ((cutD ds l h).map It.d) M1 := fun σ H P hh g Q q =>
  e_of (pe_slice sl_list pe_w pl ph) (ha σ H P hh g _ fun x H1 P1 e1 h1 r1 => el _ _ _ (eh _ _ _ (by
    obtain ⟨a, xs, rfl, h3, h4⟩ := src _ _ r1
    exact ⟨a, xs, rfl, exw_l h1.exw h3, fun p hp => q p _ P1 e1 (h1.newF hp) (h1.own hp (RepIs.of_all (h4.cut l h)))⟩)))
theorem ej_max2 {p q : Pos} {n m : Int} (hc : X.calm = true) (hm : X.mg "max" = none) (ha : EJ X N ρ M a (dI n) M1) (hb : EJ X N ρ M1 b (dI m) M2) (hg : Gl X "max" := by rfl) (he : starEach [a, b] X.env = (false, eval a X.env) :: starEach [b] X.env := by rfl) (he2 : starEach [b] X.env = (false, eval b X.env) :: starEach [] X.env := by rfl) (hpl : (backTo q (starEach [b] X.env)).any (·.1) = false := by rfl) :
    EJ X N ρ M (.Call (.Name "max" p) [a, b] [] q) (dI (if m > n then m else n)) M2 := ej_callB (call_max2 hc) hm (by decide +kernel) (aj_cons ha (aj_cons hb aj_nil he2) he) (fun vs H P h rr Q k => by
  obtain ⟨x, y, rfl, r1, r2⟩ := ri2 rr
  cases ri_int r1
  cases ri_int r2
  exact ⟨n, m, rfl, k _ H P (Ex.refl P) h (.int _)⟩) hg (by decide) (by decide) he hpl
theorem ri3 {P : Hp} {vs : List V} {i j k : It} (h : RepIs P vs [i, j, k]) : ∃ x y z, vs = [x, y, z] ∧ RepI P x i ∧ RepI P y j ∧ RepI P z k := by
  match vs, h with
  | [x, y, z], ⟨a, b, c, _⟩ => exact ⟨x, y, z, rfl, a, b, c⟩
/-- x, y, z = a, b, c: three different local names -/
theorem sj_par3 (n1 n2 n3 : Nat) {x y z : Str} {px py pz pt pt2 : Pos} {kt k2 : Nat} (hc : X.calm = true) (hN : X.N.Nodup) (ne : n1 ≠ n2) (ne2 : n1 ≠ n3) (ne3 : n2 ≠ n3) (ha : EJ X N ρ M a i M1) (hb : EJ X N ρ M1 b j M2) (hd : EJ X N ρ M2 c k M3) (hr : SJ X N (((ρ.set n1 (some i)).set n2 (some j)).set n3 (some k)) M3 rest Z)
    (hi : X.N[n1]? = some x := by rfl) (hj : X.N[n2]? = some y := by rfl) (hl : X.N[n3]? = some z := by rfl) (hx : X.env.scope.names.lookup x = some .local := by rfl) (hy : X.env.scope.names.lookup y = some .local := by rfl) (hz : X.env.scope.names.lookup z = some .local := by rfl)
    (hw : swappedStores [.Tuple [.Name x px, .Name y py, .Name z pz] kt pt] (.Tuple [a, b, c] k2 pt2) X.env = pure (some [x, y, z]) := by rfl) (hs : swapsWithSole [.Tuple [.Name x px, .Name y py, .Name z pz] kt pt] (.Tuple [a, b, c] k2 pt2) pos.line X.env = pure false := by rfl)
    (he : starEach [a, b, c] X.env = (false, eval a X.env) :: starEach [b, c] X.env := by rfl) (he2 : starEach [b, c] X.env = (false, eval b X.env) :: starEach [c] X.env := by rfl) (he3 : starEach [c] X.env = (false, eval c X.env) :: starEach [] X.env := by rfl) :
    SJ X N ρ M (.Assign [.Tuple [.Name x px, .Name y py, .Name z pz] kt pt] (.Tuple [a, b, c] k2 pt2) pos :: rest) Z := sj_cons fun σ H P hh g D E tk zz =>
  s_of (ps_par3 (i := n1) (j := n2) (l := n3) hc hN hi hj hl ne ne2 ne3 hx hy hz pa_w hw hs) (aj_cons ha (aj_cons hb (aj_cons hd aj_nil he3) he2) he σ H P hh g _ fun vs H1 P1 e1 h1 r1 => by
    obtain ⟨v, w, u, rfl, r2, r3, r4⟩ := ri3 r1
    exact ⟨v, w, u, rfl, zz.nx _ _ _ _ P1 hr e1 h1 ((((g.ex e1).set r2 n1).set r3 n2).set r4 n3)⟩)
/-! int of a bool, powers, in -/
theorem ej_intb {p q : Pos} {n : Bool} (hm : X.mg "int" = none) (ha : EJ X N ρ M a (dB n) M1) (hg : Gl X "int" := by rfl) (he : starEach [a] X.env = [(false, eval a X.env)] := by rfl) (hpl : (backTo q (starEach ([] : List Expr) X.env)).any (·.1) = false := by rfl) :
    EJ X N ρ M (.Call (.Name "int" p) [a] [] q) (dI (if n then 1 else 0)) M1 := ej_callTy call_int1 hm (by decide +kernel) (aj_cons ha aj_nil he) (fun vs H P h rr Q k => by
  obtain ⟨x, rfl, r⟩ := ri1 rr
  cases ri_bl r
  exact .inr ⟨n, rfl, k _ H P (Ex.refl P) h (.int _)⟩) hg (by decide) (by decide) he hpl
theorem ej_pow {n m : Int} (ha : EJ X N ρ M a (dI n) M1) (hb : EJ X N ρ M1 b (dI m) M2) (hc : CPow n m) : EJ X N ρ M (.BinOp a .Pow b pos) (dI (n ^ m.toNat)) M2 := ej_op op_pow ha hb (rj_I hc)
def inI (n : Int) (ns : List Int) : Bool := ns.any fun m => decide (n = m)
theorem inV_int (n : Int) : ∀ ns : List Int, inV (.int n) (ns.map V.int) = inI n ns := by
  intro ns
  induction ns with
  | nil => rfl
  | cons m ms ih =>
    unfold inV inI at ih ⊢
    rw [List.map_cons, List.any_cons, List.any_cons, ih]
    congr 1
    show eqV (.int m) (.int n) = decide (n = m)
    unfold eqV
    by_cases h : n = m
    · subst h
      simp
    · have h' : ¬ m = n := fun e => h e.symm
      simp [h, h']
theorem flat_ints : ∀ ns : List Int, (ns.map V.int).all flatV = true := by
  intro ns
  rw [List.all_eq_true]
  intro x hx
  obtain ⟨m, _, rfl⟩ := List.mem_map.mp hx
  rfl
theorem tj_inI {n : Int} {ns : List Int} (ha : EJ X N ρ M a (dI n) M1) (hb : EJ X N ρ M1 b (.d (.list (ns.map .int))) M2) (hm : behindInMarks .In b = false := by rfl) : TJ X N ρ M (.Compare a [.In] [b] pos) (inI n ns) M2 := tj_cmp op_in_seq hm ha hb fun x y H P h rx ry Q q => by
  cases ri_int rx
  obtain ⟨p, xs, rfl, h1, h2⟩ := ri_lst ry
  have e := DnAll.ints h2
  subst e
  refine ⟨p, _, rfl, .inl (.inl (.inl (h.ex _ _ h1))), rfl, flat_ints ns, ?_⟩
  rw [if_neg (by decide), inV_int]
  exact q _ H P (Ex.refl P) h (.bl _)
theorem ej_ninI {n : Int} {ns : List Int} (ha : EJ X N ρ M a (dI n) M1) (hb : EJ X N ρ M1 b (.d (.list (ns.map .int))) M2) (hm : behindInMarks .NotIn b = false := by rfl) : EJ X N ρ M (.Compare a [.NotIn] [b] pos) (dB (!inI n ns)) M2 := ej_cmp op_notIn_seq hm ha hb fun x y H P h rx ry Q q => by
  cases ri_int rx
  obtain ⟨p, xs, rfl, h1, h2⟩ := ri_lst ry
  have e := DnAll.ints h2
  subst e
  refine ⟨p, _, rfl, .inl (.inl (.inl (h.ex _ _ h1))), rfl, flat_ints ns, ?_⟩
  rw [if_pos rfl, inV_int]
  exact q _ H P (Ex.refl P) h (.bl _)
/-! is None -/
theorem tj_isN {d : PyData} (ha : EJ X N ρ M a (.d d) M1) (hb : EJ X N ρ M1 b (.d .none) M2) : TJ X N ρ M (.Compare a [.Is] [b] pos) (decide (tyD d = "NoneType")) M2 := tj_cmp op_isN (nomark _) ha hb fun x y H P h rx ry Q q => by
  cases ri_non ry
  refine ⟨rfl, ?_⟩
  have e : decide (x = V.non) = decide (tyD d = "NoneType") := by
    cases (show Dn P x d from rx) <;> rfl
  rw [e]
  exact q _ H P (Ex.refl P) h (.bl _)
theorem tj_notNo {d : PyData} (ha : EJ X N ρ M a (.d d) M1) (hb : EJ X N ρ M1 b (.d .none) M2) : TJ X N ρ M (.Compare a [.IsNot] [b] pos) (!decide (tyD d = "NoneType")) M2 := tj_cmp op_notN (nomark _) ha hb fun x y H P h rx ry Q q => by
  cases ri_non ry
  refine ⟨rfl, ?_⟩
  have e : decide (x = V.non) = decide (tyD d = "NoneType") := by
    cases (show Dn P x d from rx) <;> rfl
  rw [e]
  exact q _ H P (Ex.refl P) h (.bl _)
end
section
variable {X : Cx} {N : Ent} {M' : Mem} {Cs C0 fI a dd : Addr} {fd : FuncData} {sI : Stmt} {oe : Obj} {pn : List (Addr × Obj)} {pos : Pos} {rest : List Stmt}
/-- return e.name if isinstance(e, base) else '..' -/
theorem suite_ifName (n : Nat) {nm b0 z w : Str} {p1 p2 p3 p5 p6 p7 p8 pD : Pos} {j : Nat} {rt : It → Mem → Prop} (T : ErrTxt X.K X.mg sI Cs C0 fI fd) (I0 : IsTxt X.K Cs C0) (hmi : X.mg "isinstance" = none) (h : rt (.d (.str z)) M') (hi : X.N[n]? = some nm := by rfl)
    (hb0 : X.mg b0 = some (.ref C0)) (hg0 : Gl X b0 := by rfl) (hgi : Gl X "isinstance" := by rfl) (hd0 : (b0 == ("__debug__" : Str)) = false := by decide)
    (hv : Vis X.env.scope nm := by exact Or.inl rfl) (hd : (nm == ("__debug__" : Str)) = false := by decide) (hcd : (nm == ("__classdict__" : Str)) = false := by decide)
    (hb : attributeBase (.Name nm p1) "name" X.env (eval (.Name nm p1) X.env) = eval (.Name nm p1) X.env := by rfl)
    (hs1 : starEach [.Name nm p6, .Name b0 p7] X.env = (false, eval (.Name nm p6) X.env) :: starEach [.Name b0 p7] X.env := by rfl) (hs2 : starEach [.Name b0 p7] X.env = [(false, eval (.Name b0 p7) X.env)] := by rfl) (hpl1 : (backTo p8 (starEach [.Name b0 p7] X.env)).any (·.1) = false := by rfl) :
    SuiteOk X N n Cs (.Return (some (.IfExp (.Call (.Name "isinstance" p5) [.Name nm p6, .Name b0 p7] [] p8) (.Attribute (.Name nm p1) "name" p2) (.Constant (.str w) j p3) pD)) pos :: rest) z M' rt := fun a dd P' H' σ' oe pn D hh x ha hl hz hf k => by
  have l : n < X.N.length := (List.getElem?_eq_some_iff.mp hi).1
  have sv : (σ'.set n (some (.ref a)))[n]? = some (some (.ref a)) := List.getElem?_set_self (by omega)
  have CI := call_isD (X := X) (pn := pn) (a := a) T I0 hz hf
  have PV : ∀ q : Pos, PE (X.suite a ((a, oe) :: pn)) (.Name nm q) _ := fun q => pe_var (i := n) hi hv hd hcd
  refine ss_of (pss_cons (ps_ret (pe_ifExp (pt_val (pe_callB CI hgi hmi boot_isinstance (pa_cons (PV p6) (pa_cons (pe_glob hg0 hb0 (v := .ref C0) rfl hd0) pa_nil hs2) hs1) (by decide) (by decide) hs1 hpl1) (by intro _; rfl)) (pe_ename T hz hf (PV p1) hb) pe_str)) pss_w) ?_
  refine ⟨.ref a, sv, .ref C0, .ref C0, true, z, rfl, fun u hu => hu, I0.k0, x, true, rfl, iteT ?_⟩
  refine ⟨.ref a, sv, rfl, rfl, dd, .str z, rfl, x, ?_⟩
  exact k (.d (.str z)) M' _ H' P' h (Ex.refl _) hh (.str z)
end
end Kt

/-! Ktm: chains, tuple slices with reckoned bounds, names set to comprehensions over walks. -/
namespace Kt
open PySem PySem.Spec PyProof PyProof.Rows L2
section
variable {X : Cx} {N : Ent} {ρ ρ' : Rho} {M M1 M2 M3 : Mem} {a b c e iter : Expr} {pos : Pos} {i j k : It} {Z : Post} {rest : List Stmt} {scope : Scope} {cnd elt : Expr}
theorem ej_chainLt {n m l : Int} (ha : EJ X N ρ M a (dI n) M) (hb : EJ X N ρ M b (dI m) M) (hc : EJ X N ρ M c (dI l) M) (hm : lastMarks [.LtE, .Lt] [b, c] = false := by with_unfolding_all rfl) : EJ X N ρ M (.Compare a [.LtE, .Lt] [b, c] pos) (dB (decide (n ≤ m) && decide (m < l))) M := fun σ H P h g Q q =>
  e_of (pe_chain op_le op_lt pe_w pe_w pe_w hm) (ha σ H P h g _ fun x H1 P1 e1 h1 r1 => hb σ H1 P1 h1 (g.ex e1) _ fun y H2 P2 e2 h2 r2 => ⟨n, m, ri_int r1, ri_int r2, decide (n ≤ m), rfl, by
    cases z : decide (n ≤ m) with
    | false => exact iteF (q _ H2 P2 (e1.trans e2) h2 (by rw [z]; exact .bl _))
    | true => exact iteT (hc σ H2 P2 h2 (g.ex (e1.trans e2)) _ fun w H3 P3 e3 h3 r3 => ⟨m, l, ri_int r2, ri_int r3, q _ H3 P3 ((e1.trans e2).trans e3) h3 (by rw [z]; exact .bl _)⟩)⟩)
theorem tj_chainLt {n m l : Int} (ha : EJ X N ρ M a (dI n) M) (hb : EJ X N ρ M b (dI m) M) (hc : EJ X N ρ M c (dI l) M) (hm : lastMarks [.LtE, .Lt] [b, c] = false := by with_unfolding_all rfl) : TJ X N ρ M (.Compare a [.LtE, .Lt] [b, c] pos) (decide (n ≤ m) && decide (m < l)) M := fun σ H P h g Q q =>
  t_of (pt_chain op_le op_lt pe_w pe_w pe_w hm) (ha σ H P h g _ fun x H1 P1 e1 h1 r1 => hb σ H1 P1 h1 (g.ex e1) _ fun y H2 P2 e2 h2 r2 => ⟨n, m, ri_int r1, ri_int r2, decide (n ≤ m), rfl, by
    cases z : decide (n ≤ m) with
    | false => exact iteF ⟨false, rfl, by rw [z] at q; exact q H2 P2 (e1.trans e2) h2⟩
    | true => exact iteT (hc σ H2 P2 h2 (g.ex (e1.trans e2)) _ fun w H3 P3 e3 h3 r3 => ⟨m, l, ri_int r2, ri_int r3, _, rfl, by rw [z, Bool.true_and] at q; exact q H3 P3 ((e1.trans e2).trans e3) h3⟩)⟩)
theorem ej_slTto {ds : List PyData} {hi : Expr} {h : Int} {p2 : Pos} (ha : EJ X N ρ M a (.d (.tuple ds)) M1) (hh : EJ X N ρ M1 hi (dI h) M2) :
    EJ X N ρ M (.Subscript a (.Slice none (some hi) none p2) pos) (.d (.tuple (cutD ds none (some h)))) M2 := fun σ H P hd g Q q => by
  refine e_of (pe_slice sl_tupA pe_w po_none (po_some pe_w)) (ha σ H P hd g _ fun x H1 P1 e1 h1 r1 => ?_)
  refine hh σ H1 P1 h1 (g.ex e1) _ fun v2 H2 P2 e2 h2 r2 => ⟨h, ri_int r2, ?_⟩
  obtain ⟨a, xs, rfl, h3, h4⟩ := ri_tup (r1.ex e2)
  have l1 := dnAll_len h4
  refine ⟨a, xs, rfl, .inl (.inl (h2.ex _ _ h3)), fun hw => ?_, fun _ p hp => ?_⟩
  · rw [l1] at hw
    have e : cutD ds none (some h) = ds := by
      unfold cutD
      rw [hw.1, hw.2, List.drop_zero, Nat.sub_zero, List.take_length]
    rw [e] at q
    exact q _ H2 P2 (e1.trans e2) h2 (.tup h3 h4)
  · obtain ⟨h5, e5⟩ := h2.pers (o := .tup (cutV xs none (some h))) hp
    exact q _ _ _ ((e1.trans e2).trans e5) h5 (.tup upd_same (dnAll_ex e5 _ _ (h4.cut none (some h))))
theorem ej_slTfrom {ds : List PyData} {lo : Expr} {h : Int} {p2 : Pos} (ha : EJ X N ρ M a (.d (.tuple ds)) M1) (hh : EJ X N ρ M1 lo (dI h) M2) :
    EJ X N ρ M (.Subscript a (.Slice (some lo) none none p2) pos) (.d (.tuple (cutD ds (some h) none))) M2 := fun σ H P hd g Q q => by
  refine e_of (pe_slice sl_tupA pe_w (po_some pe_w) po_none) (ha σ H P hd g _ fun x H1 P1 e1 h1 r1 => ?_)
  refine hh σ H1 P1 h1 (g.ex e1) _ fun v2 H2 P2 e2 h2 r2 => ⟨h, ri_int r2, ?_⟩
  obtain ⟨a, xs, rfl, h3, h4⟩ := ri_tup (r1.ex e2)
  have l1 := dnAll_len h4
  refine ⟨a, xs, rfl, .inl (.inl (h2.ex _ _ h3)), fun hw => ?_, fun _ p hp => ?_⟩
  · rw [l1] at hw
    have e : cutD ds (some h) none = ds := by
      unfold cutD
      rw [hw.1, hw.2, List.drop_zero, Nat.sub_zero, List.take_length]
    rw [e] at q
    exact q _ H2 P2 (e1.trans e2) h2 (.tup h3 h4)
  · obtain ⟨h5, e5⟩ := h2.pers (o := .tup (cutV xs (some h) none)) hp
    exact q _ _ _ ((e1.trans e2).trans e5) h5 (.tup upd_same (dnAll_ex e5 _ _ (h4.cut (some h) none)))
/-- y = [e for x, y in walk] -/
theorem sj_setW2 {φ : Mem → Prop} (n' : Nat) {nm : Str} {py spos : Pos} {x y : Str} {px p2 tp : Pos} {tk : Nat} (n1 n2 : Nat) {ds : List PyData} (A : Nat → List It) (Mi : Nat → Mem) (hc : X.calm = true) (hN : X.N.Nodup) (ne : n1 ≠ n2) (hi : IWQ φ X N ρ M (.Tuple [.Name x px, .Name y p2] tk tp) iter ds M1)
    (hφ : ∀ m c, φ (Mi m ++ [c])) (hA0 : A 0 = []) (hM0 : Mi 0 = M1) (hz : ds.length ≤ 100000)
    (step : ∀ (m : Nat) d, ds[m]? = some d → ∃ u v j, d = .tuple [u, v] ∧ A (m + 1) = A m ++ [j] ∧ (A m).length ≤ m ∧ ∀ N' s H C cl fp, EJ (X.blk s H scope (compEnvC scope cl C X.env) fp) N' ((ρ.set n1 (some (.d u))).set n2 (some (.d v))) (Mi m) elt j (Mi (m + 1)))
    (hr : ∀ p, p ∉ N.F → SJ X N (ρ.set n' (some (.v (.ref p)))) (Mi ds.length ++ [(p, A ds.length)]) rest Z)
    (hy : X.N[n']? = some nm := by rfl) (hyl : X.env.scope.names.lookup nm = some .local := by rfl)
    (hsw : swapsWith (.ListComp elt [⟨.Tuple [.Name x px, .Name y p2] tk tp, iter, [], 0⟩] scope pos) (some (.Name nm py)) spos.line X.env = pure true := by exact sw_true rfl rfl rfl (by kernel_rfl))
    (ok : BlkOk X.N X.env.scope scope [(x, n1), (y, n2)] := by exact blkOk_by (by kernel_rfl))
    (hgn : ∀ (s : Shared) (H : Hp) (C : Addr) (cl : List (Str × Addr)) (fp : List Addr), PG (X.blk s H scope (compEnvC scope cl C X.env) fp) (.Tuple [.Name x px, .Name y p2] tk tp) (gTup X.K 2 (gCons (gName n1) (gCons (gName n2) gNil))) := by exact fun _ _ _ _ _ => pg_tup (by rfl) (pgs_cons (pg_name (by assumption) rfl (Or.inl rfl)) (pgs_cons (pg_name (by assumption) rfl (Or.inl rfl)) pgs_nil)))
    (hf : ∀ x, foldedSetIterable iter X.env x = pure x := by intro _; rfl) : SJ X N ρ M (.Assign [.Name nm py] (.ListComp elt [⟨.Tuple [.Name x px, .Name y p2] tk tp, iter, [], 0⟩] scope pos) spos :: rest) Z := by
  obtain ⟨ti, pi, hi⟩ := hi
  exact sj_lc n' (lj_compW [n1, n2] (gTup X.K 2 (gCons (gName n1) (gCons (gName n2) gNil))) A Mi hi hφ hA0 hM0 hz fun m d hd => by obtain ⟨u, v, j, rfl, a, b, c⟩ := step m d hd; exact ⟨_, j, tgc2 n1 n2 ne, a, b, c⟩) (ps_setLc (i := n') (y := nm) (py := py) (spos := spos) hc hN hy hyl hsw pi ok hgn (fun _ _ _ _ _ => pts_nil) (te := wBE X scope elt) (fun s H C cl fp => ⟨fun pins s1 σ1 H1 Q1 I1 h1 => h1 s H C cl fp pins s1 I1⟩) hf) hr
end
end Kt

/-! Ktn: zip of unlike lengths, of tuples; targets of four names; orders of tuples; great divisors. -/
namespace Kt
open PySem PySem.Spec PyProof PyProof.Rows L2
section
variable {X : Cx} {N : Ent} {ρ ρ' : Rho} {M M1 M2 M3 : Mem} {a b c e iter : Expr} {pos : Pos} {i j k : It} {Z : Post} {rest : List Stmt} {scope : Scope} {cnd elt : Expr}
theorem ej_fdivW {n m : Int} (ha : EJ X N ρ M a (dI n) M1) (hb : EJ X N ρ M1 b (dI m) M2) (hc : 0 < m ∧ m.natAbs.log2 < 9000) : EJ X N ρ M (.BinOp a .FloorDiv b pos) (dI (n / m)) M2 := ej_op op_fdivW ha hb (rj_I hc)
theorem ej_geV {n m : Int} (ha : EJ X N ρ M a (dI n) M1) (hb : EJ X N ρ M1 b (dI m) M2) : EJ X N ρ M (.Compare a [.GtE] [b] pos) (dB (decide (m ≤ n))) M2 := ej_cmp op_ge (nomark _) ha hb rj_B0
theorem ej_ltV {n m : Int} (ha : EJ X N ρ M a (dI n) M1) (hb : EJ X N ρ M1 b (dI m) M2) : EJ X N ρ M (.Compare a [.Lt] [b] pos) (dB (decide (n < m))) M2 := ej_cmp op_lt (nomark _) ha hb rj_B0
theorem ej_ltT {ns ms : List Int} (hu : X.A.units < cLine) (ha : EJ X N ρ M a (.d (.tuple (ns.map .int))) M1) (hb : EJ X N ρ M1 b (.d (.tuple (ms.map .int))) M2) : EJ X N ρ M (.Compare a [.Lt] [b] pos) (dB (HT.lexLt ns ms)) M2 := ej_cmp (op_ltT hu) (nomark _) ha hb fun x y H P h rx ry Q q => by
  obtain ⟨p, xs, rfl, h1, h2⟩ := ri_tup rx
  obtain ⟨p', ys, rfl, h3, h4⟩ := ri_tup ry
  have e := DnAll.ints h2
  subst e
  have e := DnAll.ints h4
  subst e
  exact ⟨p, p', ns, ms, rfl, rfl, .inl (.inl (h.ex _ _ h1)), .inl (.inl (h.ex _ _ h3)), q _ H P (Ex.refl P) h (.bl _)⟩
theorem iw_zipL' {p : Pos} {elts : List Expr} {kk : Nat} {tpos : Pos} {ds es : List PyData} (hm : X.mg "zip" = none) (ha : EJ X N ρ M a (.d (.list ds)) M1) (hb : EJ X N ρ M1 b (.d (.list es)) M2) (hg : Gl X "zip" := by rfl) (hs : starEach [a, b] X.env = (false, eval a X.env) :: starEach [b] X.env := by rfl) (hs2 : starEach [b] X.env = (false, eval b X.env) :: starEach [] X.env := by rfl) (hpl : (backTo pos (starEach [b] X.env)).any (·.1) = false := by rfl) :
    IW X N ρ M (.Tuple elts kk tpos) (.Call (.Name "zip" p) [a, b] [] pos) (List.zipWith (fun x y => .tuple [x, y]) ds es) M2 := by
  refine ⟨_, pi_zip hg hm pa_w hs hpl, fun σ H P hh g R q => ?_⟩
  refine aj_cons ha (aj_cons hb aj_nil hs2) hs σ H P hh g _ fun vs H1 P1 e1 h1 r1 => ?_
  obtain ⟨x, y, rfl, r2, r3⟩ := ri2 r1
  obtain ⟨t, xs, rfl, x1, x2⟩ := ri_lst r2
  obtain ⟨u, ys, rfl, y1, y2⟩ := ri_lst r3
  have xl := dnAll_len x2
  have yl := dnAll_len y2
  have zl : (List.zipWith (fun x y => PyData.tuple [x, y]) ds es).length = min ds.length es.length := by simp
  refine ⟨t, u, xs, ys, rfl, .inl (.inl (h1.ex _ _ x1)), .inl (.inl (h1.ex _ _ y1)), q _ H1 P1 e1 h1 ⟨fun i H P' M' hi h2 e2 _ => ?_, fun H P' M' h2 e2 _ => ?_, fun i H v H' P' M' hi h2 e2 _ y => ?_⟩⟩
  · rw [zl] at hi
    exact ⟨xs, ys, _, _, .inl (.inl (h2.ex _ _ (e2 _ _ x1))), .inl (.inl (h2.ex _ _ (e2 _ _ y1))), List.getElem?_eq_getElem (by omega), List.getElem?_eq_getElem (by omega)⟩
  · exact ⟨xs, ys, .inl (.inl (h2.ex _ _ (e2 _ _ x1))), .inl (.inl (h2.ex _ _ (e2 _ _ y1))), by omega⟩
  · obtain ⟨T, x, y, rfl, hT, rfl, hx, hy⟩ := y
    have hx := hx xs (.inl (.inl (h2.ex _ _ (e2 _ _ x1))))
    have hy := hy ys (.inl (.inl (h2.ex _ _ (e2 _ _ y1))))
    rw [zl] at hi
    have i1 : i < ds.length := by omega
    have i2 : i < es.length := by omega
    obtain ⟨v', ev, dv⟩ := dnAll_get x2 (List.getElem?_eq_getElem i1)
    rw [hx] at ev
    cases Option.some.inj ev
    obtain ⟨w', ew, dw⟩ := dnAll_get y2 (List.getElem?_eq_getElem i2)
    rw [hy] at ew
    cases Option.some.inj ew
    obtain ⟨h5, e5⟩ := h2.pers (o := .tup [x, y]) hT
    exact ⟨_, .tuple [ds[i], es[i]], by rw [List.getElem?_zipWith, List.getElem?_eq_getElem i1, List.getElem?_eq_getElem i2], e5, h5, .tup upd_same (.cons (dn_ex e5 _ _ (dn_ex e2 _ _ dv)) (.cons (dn_ex e5 _ _ (dn_ex e2 _ _ dw)) .nil))⟩
theorem iw_zipT' {p : Pos} {elts : List Expr} {kk : Nat} {tpos : Pos} {ds es : List PyData} (hm : X.mg "zip" = none) (ha : EJ X N ρ M a (.d (.tuple ds)) M1) (hb : EJ X N ρ M1 b (.d (.tuple es)) M2) (hg : Gl X "zip" := by rfl) (hs : starEach [a, b] X.env = (false, eval a X.env) :: starEach [b] X.env := by rfl) (hs2 : starEach [b] X.env = (false, eval b X.env) :: starEach [] X.env := by rfl) (hpl : (backTo pos (starEach [b] X.env)).any (·.1) = false := by rfl) :
    IW X N ρ M (.Tuple elts kk tpos) (.Call (.Name "zip" p) [a, b] [] pos) (List.zipWith (fun x y => .tuple [x, y]) ds es) M2 := by
  refine ⟨_, RZ.pi_zipA hg hm pa_w hs hpl, fun σ H P hh g R q => ?_⟩
  refine aj_cons ha (aj_cons hb aj_nil hs2) hs σ H P hh g _ fun vs H1 P1 e1 h1 r1 => ?_
  obtain ⟨x, y, rfl, r2, r3⟩ := ri2 r1
  obtain ⟨t, xs, rfl, x1, x2⟩ := ri_tup r2
  obtain ⟨u, ys, rfl, y1, y2⟩ := ri_tup r3
  have xl := dnAll_len x2
  have yl := dnAll_len y2
  have zl : (List.zipWith (fun x y => PyData.tuple [x, y]) ds es).length = min ds.length es.length := by simp
  refine ⟨t, u, xs, ys, rfl, .inr ⟨.inl (.inl (h1.ex _ _ x1)), .inl (.inl (h1.ex _ _ y1)), q _ H1 P1 e1 h1 ⟨fun i H P' M' hi h2 e2 _ => ?_, fun H P' M' h2 e2 _ => ?_, fun i H v H' P' M' hi h2 e2 _ y => ?_⟩⟩⟩
  · rw [zl] at hi
    exact ⟨xs, ys, _, _, .inl (.inl (h2.ex _ _ (e2 _ _ x1))), .inl (.inl (h2.ex _ _ (e2 _ _ y1))), List.getElem?_eq_getElem (by omega), List.getElem?_eq_getElem (by omega)⟩
  · exact ⟨xs, ys, .inl (.inl (h2.ex _ _ (e2 _ _ x1))), .inl (.inl (h2.ex _ _ (e2 _ _ y1))), by omega⟩
  · obtain ⟨T, x, y, rfl, hT, rfl, hx, hy⟩ := y
    have hx := hx xs (.inl (.inl (h2.ex _ _ (e2 _ _ x1))))
    have hy := hy ys (.inl (.inl (h2.ex _ _ (e2 _ _ y1))))
    rw [zl] at hi
    have i1 : i < ds.length := by omega
    have i2 : i < es.length := by omega
    obtain ⟨v', ev, dv⟩ := dnAll_get x2 (List.getElem?_eq_getElem i1)
    rw [hx] at ev
    cases Option.some.inj ev
    obtain ⟨w', ew, dw⟩ := dnAll_get y2 (List.getElem?_eq_getElem i2)
    rw [hy] at ew
    cases Option.some.inj ew
    obtain ⟨h5, e5⟩ := h2.pers (o := .tup [x, y]) hT
    exact ⟨_, .tuple [ds[i], es[i]], by rw [List.getElem?_zipWith, List.getElem?_eq_getElem i1, List.getElem?_eq_getElem i2], e5, h5, .tup upd_same (.cons (dn_ex e5 _ _ (dn_ex e2 _ _ dv)) (.cons (dn_ex e5 _ _ (dn_ex e2 _ _ dw)) .nil))⟩
theorem four_set {σ : L2.St} {n1 n2 n3 : Nat} {v1 v2 v3 v4 : V} (ne : n1 ≠ n2) (ne2 : n1 ≠ n3) (ne3 : n2 ≠ n3) : ((((wipe σ [n1, n2, n3]).set n1 (some v1)).set n2 (some v2)).set n3 (some v3)).set n2 (some v4) = ((σ.set n1 (some v1)).set n3 (some v3)).set n2 (some v4) := by
  show (((((((σ.set n3 none).set n2 none).set n1 none).set n1 (some v1)).set n2 (some v2)).set n3 (some v3)).set n2 (some v4)) = _
  refine List.ext_getElem? fun i => ?_
  simp only [List.getElem?_set, List.length_set]
  repeat' split
  all_goals first | rfl | omega | simp_all
theorem four_wipe {σ : L2.St} {n1 n2 n3 : Nat} {v1 v2 v3 v4 : V} (ne : n1 ≠ n2) (ne2 : n1 ≠ n3) (ne3 : n2 ≠ n3) : wipe (((((wipe σ [n1, n2, n3]).set n1 (some v1)).set n2 (some v2)).set n3 (some v3)).set n2 (some v4)) [n1, n2, n3] = wipe σ [n1, n2, n3] := by
  show (((((((((σ.set n3 none).set n2 none).set n1 none).set n1 (some v1)).set n2 (some v2)).set n3 (some v3)).set n2 (some v4)).set n3 none).set n2 none).set n1 none = ((σ.set n3 none).set n2 none).set n1 none
  refine List.ext_getElem? fun i => ?_
  simp only [List.getElem?_set, List.length_set]
  repeat' split
  all_goals first | rfl | omega | simp_all
/-- x, _, y, _ -/
theorem tgc4 {K : PySem.W.Frag} (n1 n2 n3 : Nat) (ne : n1 ≠ n2) (ne2 : n1 ≠ n3) (ne3 : n2 ≠ n3) {x y z w : PyData} : TgC N ρ [n1, n2, n3] (gTup K 4 (gCons (gName n1) (gCons (gName n2) (gCons (gName n3) (gCons (gName n2) gNil))))) (.tuple [x, y, z, w]) (((ρ.set n1 (some (.d x))).set n3 (some (.d z))).set n2 (some (.d w))) := fun v σ H P M hh g r Q q => by
  obtain ⟨ta, ts, rfl, t1, t2⟩ := ri_tup r
  cases t2 with
  | cons k1 t2 =>
    cases t2 with
    | cons k2 t2 =>
      cases t2 with
      | cons k3 t2 =>
        cases t2 with
        | cons k4 t2 =>
          cases t2
          exact ⟨ta, _, rfl, .inl (.inl (hh.ex _ _ t1)), rfl, _, _, rfl, _, _, rfl, _, _, rfl, _, _, rfl, rfl, q _ (by rw [four_set ne ne2 ne3]; exact ((g.set (it := .d x) k1 n1).set (it := .d z) k3 n3).set (it := .d w) k4 n2) (four_wipe ne ne2 ne3)⟩
/-- [e for x, _, y, _ in walk] -/
theorem el_compW4 {φ : Mem → Prop} {x y z : Str} {px py pz pw tp : Pos} {tk : Nat} (n1 n2 n3 : Nat) {ds : List PyData} (A : Nat → List It) (Mi : Nat → Mem) (hc : X.calm = true) (hN : X.N.Nodup) (ne : n1 ≠ n2) (ne2 : n1 ≠ n3) (ne3 : n2 ≠ n3) (hi : IWQ φ X N ρ M (.Tuple [.Name x px, .Name y py, .Name z pz, .Name y pw] tk tp) iter ds M1)
    (hφ : ∀ m c, φ (Mi m ++ [c])) (hA0 : A 0 = []) (hM0 : Mi 0 = M1) (hz : ds.length ≤ 100000)
    (step : ∀ (m : Nat) d, ds[m]? = some d → ∃ u v w t j, d = .tuple [u, v, w, t] ∧ A (m + 1) = A m ++ [j] ∧ (A m).length ≤ m ∧ ∀ N' s H C cl fp, EJ (X.blk s H scope (compEnvC scope cl C X.env) fp) N' (((ρ.set n1 (some (.d u))).set n3 (some (.d w))).set n2 (some (.d t))) (Mi m) elt j (Mi (m + 1)))
    (ok : BlkOk X.N X.env.scope scope [(x, n1), (y, n2), (z, n3)] := by exact blkOk_by (by kernel_rfl))
    (hgn : ∀ (s : Shared) (H : Hp) (C : Addr) (cl : List (Str × Addr)) (fp : List Addr), PG (X.blk s H scope (compEnvC scope cl C X.env) fp) (.Tuple [.Name x px, .Name y py, .Name z pz, .Name y pw] tk tp) (gTup X.K 4 (gCons (gName n1) (gCons (gName n2) (gCons (gName n3) (gCons (gName n2) gNil))))) := by exact fun _ _ _ _ _ => pg_tup (by rfl) (pgs_cons (pg_name (by assumption) rfl (Or.inl rfl)) (pgs_cons (pg_name (by assumption) rfl (Or.inl rfl)) (pgs_cons (pg_name (by assumption) rfl (Or.inl rfl)) (pgs_cons (pg_name (by assumption) rfl (Or.inl rfl)) pgs_nil)))))
    (hf : ∀ x, foldedSetIterable iter X.env x = pure x := by intro _; rfl) : EL X N ρ M (.ListComp elt [⟨.Tuple [.Name x px, .Name y py, .Name z pz, .Name y pw] tk tp, iter, [], 0⟩] scope pos) (A ds.length) (Mi ds.length) := by
  obtain ⟨ti, pi, hi⟩ := hi
  exact el_lc (lj_compW [n1, n2, n3] (gTup X.K 4 (gCons (gName n1) (gCons (gName n2) (gCons (gName n3) (gCons (gName n2) gNil))))) A Mi hi hφ hA0 hM0 hz fun m d hd => by obtain ⟨u, v, w, t, j, rfl, a, b, c⟩ := step m d hd; exact ⟨_, j, tgc4 n1 n2 n3 ne ne2 ne3, a, b, c⟩) (pe_lc hc hN pi ok hgn (fun _ _ _ _ _ => pts_nil) (te := wBE X scope elt) (fun s H C cl fp => ⟨fun pins s1 σ1 H1 Q1 I1 h1 => h1 s H C cl fp pins s1 I1⟩) hf)
end
end Kt

/-! Kto: displays of data, one rule each, so that nothing is left to be reckoned. -/
namespace Kt
open PySem PySem.Spec PyProof PyProof.Rows L2
section
variable {X : Cx} {N : Ent} {ρ ρ' : Rho} {M : Mem} {a b c d e : Expr} {pos : Pos} {A B C D : PyData} {kk : Nat}
theorem jt0 : EJ X N ρ M (.Tuple [] kk pos) (.d (.tuple [])) M := ej_tup (ds := []) aj_nil rfl (by decide)
theorem jt1 (h1 : EJ X N ρ M a (.d A) M) (hs : starEach [a] X.env = (false, eval a X.env) :: starEach [] X.env := by rfl) : EJ X N ρ M (.Tuple [a] kk pos) (.d (.tuple [A])) M := ej_tup (ds := [A]) (is := [.d A]) (aj_cons h1 aj_nil hs) rfl (by show 1 ≤ 100000; decide)
theorem jt2 (h1 : EJ X N ρ M a (.d A) M) (h2 : EJ X N ρ M b (.d B) M) (hs : starEach [a, b] X.env = (false, eval a X.env) :: starEach [b] X.env := by rfl) (hs2 : starEach [b] X.env = (false, eval b X.env) :: starEach [] X.env := by rfl) : EJ X N ρ M (.Tuple [a, b] kk pos) (.d (.tuple [A, B])) M := ej_tup (ds := [A, B]) (is := [.d A, .d B]) (aj_cons h1 (aj_cons h2 aj_nil hs2) hs) rfl (by show 2 ≤ 100000; decide)
theorem jt3 (h1 : EJ X N ρ M a (.d A) M) (h2 : EJ X N ρ M b (.d B) M) (h3 : EJ X N ρ M c (.d C) M) (hs : starEach [a, b, c] X.env = (false, eval a X.env) :: starEach [b, c] X.env := by rfl) (hs2 : starEach [b, c] X.env = (false, eval b X.env) :: starEach [c] X.env := by rfl) (hs3 : starEach [c] X.env = (false, eval c X.env) :: starEach [] X.env := by rfl) : EJ X N ρ M (.Tuple [a, b, c] kk pos) (.d (.tuple [A, B, C])) M := ej_tup (ds := [A, B, C]) (is := [.d A, .d B, .d C]) (aj_cons h1 (aj_cons h2 (aj_cons h3 aj_nil hs3) hs2) hs) rfl (by show 3 ≤ 100000; decide)
theorem jt4 (h1 : EJ X N ρ M a (.d A) M) (h2 : EJ X N ρ M b (.d B) M) (h3 : EJ X N ρ M c (.d C) M) (h4 : EJ X N ρ M d (.d D) M) (hs : starEach [a, b, c, d] X.env = (false, eval a X.env) :: starEach [b, c, d] X.env := by rfl) (hs2 : starEach [b, c, d] X.env = (false, eval b X.env) :: starEach [c, d] X.env := by rfl) (hs3 : starEach [c, d] X.env = (false, eval c X.env) :: starEach [d] X.env := by rfl) (hs4 : starEach [d] X.env = (false, eval d X.env) :: starEach [] X.env := by rfl) : EJ X N ρ M (.Tuple [a, b, c, d] kk pos) (.d (.tuple [A, B, C, D])) M := ej_tup (ds := [A, B, C, D]) (is := [.d A, .d B, .d C, .d D]) (aj_cons h1 (aj_cons h2 (aj_cons h3 (aj_cons h4 aj_nil hs4) hs3) hs2) hs) rfl (by show 4 ≤ 100000; decide)
theorem jl0 : EJ X N ρ M (.List [] pos) (.d (.list [])) M := ej_el (ds := []) (is := []) (el_disp aj_nil (by decide)) rfl
theorem jl1 (h1 : EJ X N ρ M a (.d A) M) (hs : starEach [a] X.env = (false, eval a X.env) :: starEach [] X.env := by rfl) : EJ X N ρ M (.List [a] pos) (.d (.list [A])) M := ej_el (ds := [A]) (is := [.d A]) (el_disp (aj_cons h1 aj_nil hs) (by show 1 ≤ 100000; decide)) rfl
theorem jl2 (h1 : EJ X N ρ M a (.d A) M) (h2 : EJ X N ρ M b (.d B) M) (hs : starEach [a, b] X.env = (false, eval a X.env) :: starEach [b] X.env := by rfl) (hs2 : starEach [b] X.env = (false, eval b X.env) :: starEach [] X.env := by rfl) : EJ X N ρ M (.List [a, b] pos) (.d (.list [A, B])) M := ej_el (ds := [A, B]) (is := [.d A, .d B]) (el_disp (aj_cons h1 (aj_cons h2 aj_nil hs2) hs) (by show 2 ≤ 100000; decide)) rfl
theorem jl4 (h1 : EJ X N ρ M a (.d A) M) (h2 : EJ X N ρ M b (.d B) M) (h3 : EJ X N ρ M c (.d C) M) (h4 : EJ X N ρ M d (.d D) M) (hs : starEach [a, b, c, d] X.env = (false, eval a X.env) :: starEach [b, c, d] X.env := by rfl) (hs2 : starEach [b, c, d] X.env = (false, eval b X.env) :: starEach [c, d] X.env := by rfl) (hs3 : starEach [c, d] X.env = (false, eval c X.env) :: starEach [d] X.env := by rfl) (hs4 : starEach [d] X.env = (false, eval d X.env) :: starEach [] X.env := by rfl) : EJ X N ρ M (.List [a, b, c, d] pos) (.d (.list [A, B, C, D])) M := ej_el (ds := [A, B, C, D]) (is := [.d A, .d B, .d C, .d D]) (el_disp (aj_cons h1 (aj_cons h2 (aj_cons h3 (aj_cons h4 aj_nil hs4) hs3) hs2) hs) (by show 4 ≤ 100000; decide)) rfl
/-- [x] + l, (x,) + t, t + (x,), l + [x] -/
theorem jc_l {L : List PyData} (h1 : EJ X N ρ M a (.d (.list [A])) M) (h2 : EJ X N ρ M b (.d (.list L)) M) (hz : L.length ≤ 1000) : EJ X N ρ M (.BinOp a .Add b pos) (.d (.list (A :: L))) M := ej_el (ds := A :: L) (el_cat (ds := [A]) (es := L) h1 h2 (by show 1 + L.length ≤ 100000; omega)) rfl
theorem jc_lr {L : List PyData} (h1 : EJ X N ρ M a (.d (.list L)) M) (h2 : EJ X N ρ M b (.d (.list [A])) M) (hz : L.length ≤ 1000) : EJ X N ρ M (.BinOp a .Add b pos) (.d (.list (L ++ [A]))) M := ej_el (ds := L ++ [A]) (el_cat (ds := L) (es := [A]) h1 h2 (by show L.length + 1 ≤ 100000; omega)) rfl
theorem jc_t {L : List PyData} (h1 : EJ X N ρ M a (.d (.tuple [A])) M) (h2 : EJ X N ρ M b (.d (.tuple L)) M) (hz : L.length ≤ 1000) : EJ X N ρ M (.BinOp a .Add b pos) (.d (.tuple (A :: L))) M := ej_catA (ds := [A]) (es := L) h1 h2 (by show 1 + L.length ≤ 100000; omega)
theorem jc_tr {L : List PyData} (h1 : EJ X N ρ M a (.d (.tuple L)) M) (h2 : EJ X N ρ M b (.d (.tuple [A])) M) (hz : L.length ≤ 1000) : EJ X N ρ M (.BinOp a .Add b pos) (.d (.tuple (L ++ [A]))) M := ej_catA (ds := L) (es := [A]) h1 h2 (by show L.length + 1 ≤ 100000; omega)
/-- rows: a display put behind a list -/
theorem jd_nil : AJ X N ρ M [] (([] : List PyData).map It.d) M := aj_nil
theorem jd_cons {es : List Expr} {S : List PyData} (h1 : EJ X N ρ M a (.d A) M) (h2 : AJ X N ρ M es (S.map It.d) M) (hs : starEach (a :: es) X.env = (false, eval a X.env) :: starEach es X.env := by rfl) : AJ X N ρ M (a :: es) ((A :: S).map It.d) M := aj_cons h1 h2 hs
theorem jr_list {es : List Expr} {S : List PyData} (h2 : AJ X N ρ M es (S.map It.d) M) (hz : S.length ≤ 1000) : EJ X N ρ M (.List es pos) (.d (.list S)) M := ej_el (ds := S) (el_disp h2 (by rw [List.length_map]; omega)) rfl
theorem jr_cat {es : List Expr} {R S : List PyData} {p2 : Pos} (h1 : EJ X N ρ M a (.d (.list R)) M) (h2 : AJ X N ρ M es (S.map It.d) M) (hz : S.length ≤ 1000) (hr : R.length ≤ 1000) : EJ X N ρ M (.BinOp a .Add (.List es p2) pos) (.d (.list (R ++ S))) M := ej_el (ds := R ++ S) (el_cat (ds := R) (es := S) h1 (jr_list h2 hz) (by omega)) rfl
theorem jlistT {p q : Pos} {ds : List PyData} (hm : X.mg "list" = none) (ha : EJ X N ρ M a (.d (.tuple ds)) M) (hg : Gl X "list" := by rfl) (he : starEach [a] X.env = [(false, eval a X.env)] := by rfl) (hpl : (backTo q (starEach ([] : List Expr) X.env)).any (·.1) = false := by rfl) : EJ X N ρ M (.Call (.Name "list" p) [a] [] q) (.d (.list ds)) M := ej_el (ds := ds) (el_listT hm ha hg he hpl) rfl
end
end Kt

/-! Ktp: len(set(xs)) of a longer list of different ints. -/
namespace Kt
open PySem PySem.Spec PyProof PyProof.Rows L2
def tLenB (K : PySem.W.Frag) (ta : TE) : TE := fun σ H Q => ta σ H fun x H1 => ∃ (l : Addr) (ns : List Int), x = .ref l ∧ SqL K H1 l (ns.map V.int) ∧ ns.length < 4000 ∧ ns.Nodup ∧ Q (.int (ns.length : Int)) H1
theorem pe_lenB {X : Cx} {a : Expr} {ta : TE} {p p2 q pos : Pos} (hc : X.calm = true) (hg : Gl X "len") (hm : X.mg "len" = none) (hg2 : Gl X "set") (hm2 : X.mg "set" = none) (ha : PE X a ta) (na : starEach [a] X.env = (false, eval a X.env) :: starEach [] X.env := by rfl) :
    PE X (.Call (.Name "len" p) [.Call (.Name "set" p2) [a] [] q] [] pos) (tLenB X.K ta) := by
  refine ⟨fun pins s σ H Q I h => ?_⟩
  refine Call_ (ld_blt I hg hm boot_len (PyProof.Rows.callWith_builtin1 (args_cons (Call_ (ld_blt I hg2 hm2 boot_set (PyProof.Rows.callWith_type1 (args_cons (thn (ha.run pins s σ H _ I h) fun v s1 x => args_nil ?_) na) na rfl))) rfl) rfl rfl))
  obtain ⟨x, H1, I1, r1, l, ns, rfl, hq, h1, hnd, q1⟩ := x
  cases r1
  obtain ⟨its, r, pl, hz⟩ := I1.list hq
  have hl : its.toArray.size = ns.length := by
    rw [List.size_toArray, ← r.length, List.length_map]
  refine call_set_list (I1.ok.hd hc) pl.isList r.ints (by rw [hl]; show ns.length + 1 < 4096; omega) fun h' tk hS hk => args_nil ?_
  rw [hl, firstMet_nodup ns hnd ns.length (Nat.le_refl _), List.take_length] at hS
  obtain ⟨o, es, ep, t, ho, hx, hd, _, _, _, hf, hn⟩ := hS
  refine call_len_set ho hx hd hf (by rw [hn]; omega) ?_
  refine ⟨.int (ns.length : Int), H1, ?_, ?_, q1⟩
  · exact I1.kept fun b u hb => hk b u (Heap.lt_size hb) hb
  · rw [hn]
    exact ⟨_, rfl⟩
section
variable {X : Cx} {N : Ent} {ρ : Rho} {M M1 : Mem} {a : Expr} {pos p p2 q : Pos}
theorem ej_lenSet {ns : List Int} (hc : X.calm = true) (hm : X.mg "len" = none) (hm2 : X.mg "set" = none) (ha : EJ X N ρ M a (.d (.list (ns.map .int))) M1) (h1 : ns.length < 4000) (hnd : ns.Nodup) (hg : Gl X "len" := by rfl) (hg2 : Gl X "set" := by rfl) (na : starEach [a] X.env = (false, eval a X.env) :: starEach [] X.env := by rfl) :
    EJ X N ρ M (.Call (.Name "len" p) [.Call (.Name "set" p2) [a] [] q] [] pos) (dI (ns.length : Int)) M1 := fun σ H P hh g Q k =>
  e_of (pe_lenB hc hg hm hg2 hm2 pe_w na) (ha σ H P hh g _ fun v H1 P1 e1 hh1 r => by
    obtain ⟨l, xs, rfl, h2, h3⟩ := ri_lst r
    have e := DnAll.ints h3
    subst e
    exact ⟨l, ns, rfl, .inl (.inl (hh1.ex _ _ h2)), h1, hnd, k _ H1 P1 e1 hh1 (.int _)⟩)
end
end Kt

/-! Ktq: except without a name, min of two, the length of what is only read. -/
namespace Kt
open PySem PySem.Spec PyProof PyProof.Rows L2
section
variable {X : Cx} {N : Ent} {ρ ρ' : Rho} {M M1 M2 : Mem} {a b e : Expr} {pos : Pos} {Z : Post} {rest : List Stmt} {Cs C0 fI : Addr} {fd : FuncData} {sI : Stmt}
def SuiteOk0 (X : Cx) (N : Ent) (suite : List Stmt) (M' : Mem) (rt : It → Mem → Prop) : Prop :=
  ∀ (P' H' : Hp) (σ' : L2.St) (pn : List (Addr × Obj)) (a : Addr) (D : Ends), Holds N P' H' M' → (∀ i M'' v H'' P'', rt i M'' → Ex P' P'' → Holds N P'' H'' M'' → RepI P'' v i → D.rt v H'') → wSs (X.suite a pn) suite D σ' H'
theorem sj_try0 {np pos' : Pos} {body suite : List Stmt} {b₀ : Stmt} (ER : Str → Mem → Prop) (T : ErrTxt X.K X.mg sI Cs C0 fI fd)
    (hb : ∀ (pn : List (Addr × Obj)) (xe : Value → Shared → Prop), PassesOwn (model X.prog X.w) X.A X.env xe → SJ (X.tr pn xe) N ρ M body { nx := fun ρ' M' => SJ X N ρ' M' rest Z, rt := Z.rt, bk := Z.bk, ct := Z.ct, er := ER })
    (hsu : ∀ z M', ER z M' → SuiteOk0 X N (b₀ :: suite) M' Z.rt)
    (hg : Gl X "ShapeError" := by rfl) (hs : X.stack = X.env :: X.outer := by rfl) (hf : X.env.frame = some X.env.locals := by rfl) :
    SJ X N ρ M (.Try body [.ExceptHandler (some (.Name "ShapeError" np)) none (b₀ :: suite) pos'] [] [] pos :: rest) Z := sj_cons fun σ H P hh g D E tk zd => by
  refine s_of (ps_try_only (c := .ref Cs) (tb := fun W => fun D σ H => ∀ pn xe, Takes (X.tr pn xe) W → PassesOwn (model X.prog X.w) X.A X.env xe → wSs (X.tr pn xe) body D σ H)
    (ts := fun a cls d => fun D σ H => ∀ oe pn, Zc cls d oe → (∃ vs, oe.data = .fields vs) → wSs (X.suite a ((a, oe) :: pn)) (b₀ :: suite) D σ H) (Wout := fun _ _ _ _ => False) hs hf ⟨hg, by decide, .inl T.gS⟩ takes0
    (fun W pn xe tk1 po => ⟨fun pins s σ H D I h => h pn xe tk1 po pins s I⟩) (fun a oe cls d pn hz hv => ⟨fun pins s σ H D I h => h oe pn hz hv pins s I⟩)) ?_
  intro pn xe tk1 po
  refine hb pn xe po σ H P hh g D (fun c d H' => ∀ σ' : L2.St, wOnly X.K (.ref Cs) (fun a cls d => fun D σ H => ∀ oe pn, Zc cls d oe → (∃ vs, oe.data = .fields vs) → wSs (X.suite a ((a, oe) :: pn)) (b₀ :: suite) D σ H) (fun _ _ _ _ => False) D c d σ' H') (takes_len tk1 fun c d σ' H' hl w => w σ') ⟨zd.nx, zd.rt, zd.bk, zd.ct, fun z M' d H' P' C gC hz e1 h1 x1 => ?_⟩
  intro σ'
  have eC : C = Cs := by
    have := gC.symm.trans T.gS
    cases this
    rfl
  subst eC
  refine ⟨true, T.te, fun _ a ha oe pn2 hz2 hv2 => ?_, fun q => Bool.noConfusion q⟩
  exact hsu z M' hz P' H' σ' _ a _ h1 fun i M'' v H'' P'' r e2 h2 r2 => zd.rt i M'' v H'' P'' r (e1.trans e2) h2 r2
theorem suite0_bl {M' : Mem} {n : Bool} {j : Nat} {p1 : Pos} {rest : List Stmt} {rt : It → Mem → Prop} (h : rt (dB n) M') : SuiteOk0 X N (.Return (some (.Constant (.bool n) j p1)) pos :: rest) M' rt := fun P' H' σ' pn a D hh k => by
  refine ss_of (pss_cons (ps_ret pe_bl) pss_w) ?_
  exact k (dB n) M' _ H' P' h (Ex.refl _) hh (.bl n)
theorem ej_min2 {p q : Pos} {n m : Int} (hc : X.calm = true) (hm : X.mg "min" = none) (ha : EJ X N ρ M a (dI n) M1) (hb : EJ X N ρ M1 b (dI m) M2) (hg : Gl X "min" := by rfl) (he : starEach [a, b] X.env = (false, eval a X.env) :: starEach [b] X.env := by rfl) (he2 : starEach [b] X.env = (false, eval b X.env) :: starEach [] X.env := by rfl) (hpl : (backTo q (starEach [b] X.env)).any (·.1) = false := by rfl) :
    EJ X N ρ M (.Call (.Name "min" p) [a, b] [] q) (dI (if m < n then m else n)) M2 := ej_callB (call_min2 hc) hm (by decide +kernel) (aj_cons ha (aj_cons hb aj_nil he2) he) (fun vs H P h rr Q k => by
  obtain ⟨x, y, rfl, r1, r2⟩ := ri2 rr
  cases ri_int r1
  cases ri_int r2
  exact ⟨n, m, rfl, k _ H P (Ex.refl P) h (.int _)⟩) hg (by decide) (by decide) he hpl
theorem ej_lenS {p q : Pos} {x0 : It} {ds : List PyData} (hm : X.mg "len" = none) (ha : EJ X N ρ M a x0 M1) (src : ∀ v P, RepI P v x0 → ∃ a xs, v = .ref a ∧ SqL X.K P a xs ∧ DnAll P xs ds) (hg : Gl X "len" := by rfl) (he : starEach [a] X.env = [(false, eval a X.env)] := by rfl) (hpl : (backTo q (starEach ([] : List Expr) X.env)).any (·.1) = false := by rfl) :
    EJ X N ρ M (.Call (.Name "len" p) [a] [] q) (dI (ds.length : Int)) M1 :=
  ej_len hm ha (fun v H P h r => by
    obtain ⟨a, xs, rfl, h1, h2⟩ := src v P r
    exact ⟨a, xs, rfl, .inl (exw_l h.exw h1), dnAll_len h2⟩) hg he hpl
theorem iw_range2 {tg : Expr} {p rp : Pos} {i j : Int} (hmr : X.mg "range" = none) (ha : EJ X N ρ M a (dI i) M1) (hb : EJ X N ρ M1 b (dI j) M2) (h1 : -(2 ^ 62) ≤ i ∧ i < 2 ^ 62) (h2 : -(2 ^ 62) ≤ j ∧ j < 2 ^ 62) (hg : Gl X "range" := by rfl) (hs : starEach [a, b] X.env = (false, eval a X.env) :: starEach [b] X.env := by rfl) (hs2 : starEach [b] X.env = (false, eval b X.env) :: starEach [] X.env := by rfl) (hpl : (backTo rp (starEach [b] X.env)).any (·.1) = false := by rfl) :
    IW X N ρ M tg (.Call (.Name "range" p) [a, b] [] rp) ((List.range (j - i).toNat).map fun k : Nat => .int (i + (k : Int))) M2 := by
  refine ⟨_, pi_range2 hg hmr pa_w (by rw [hs, hs2]; rfl) (by rw [hs2]; rfl), fun σ H P hh g R q => ?_⟩
  refine aj_cons ha (aj_cons hb aj_nil hs2) hs σ H P hh g _ fun vs H1 P1 e1 h3 r1 => ?_
  obtain ⟨x, y, rfl, r2, r3⟩ := ri2 r1
  cases ri_int r2
  cases ri_int r3
  have zl : ((List.range (j - i).toNat).map fun k : Nat => PyData.int (i + (k : Int))).length = (j - i).toNat := by simp
  refine ⟨i, j, rfl, ⟨h1.1, h1.2, h2.1, h2.2⟩, q _ H1 P1 e1 h3 ⟨fun n H P' M' hi h2 e2 _ => ?_, fun H P' M' h2 e2 _ => ?_, fun n H v H' P' M' hi h2 e2 _ y => ?_⟩⟩
  · rw [zl] at hi
    exact hi
  · rw [zl]
    exact Nat.le_refl _
  · obtain ⟨rfl, rfl⟩ := y
    rw [zl] at hi
    exact ⟨P', _, by rw [List.getElem?_map, List.getElem?_range hi]; rfl, Ex.refl _, h2, .int _⟩
theorem wj_orF {b2 : Expr} {u : Bool} {es : List Expr} (h : TJ X N ρ M a false M1) (h2 : WJ X N ρ M1 (.BoolOp .Or (b2 :: es) pos) u M2) : WJ X N ρ M (.BoolOp .Or (a :: b2 :: es) pos) u M2 := fun σ H P hh g Q q =>
  w_of (pw_or pt_w pw_w) (h σ H P hh g _ fun H1 P1 e1 h1 => iteF (h2 σ H1 P1 h1 (g.ex e1) Q fun H2 P2 e2 h3 => q H2 P2 (e1.trans e2) h3))
end
end Kt

/-! Kty: defs handed as parameters; slices of lists of one's own; bit_length, divmod, more comparisons as values. -/
namespace Kt
open PySem PySem.Spec PyProof PyProof.Rows L2
section
variable {X : Cx} {N : Ent} {ρ ρ' : Rho} {M M1 M2 M3 Mc Mc' Mr : Mem} {a b c e iter : Expr} {es : List Expr} {pos p : Pos} {i j k : It} {is : List It} {Z : Post} {rest : List Stmt} {scope : Scope} {cnd elt : Expr}
theorem ej_gtV {n m : Int} (ha : EJ X N ρ M a (dI n) M1) (hb : EJ X N ρ M1 b (dI m) M2) : EJ X N ρ M (.Compare a [.Gt] [b] pos) (dB (decide (m < n))) M2 := ej_cmp op_gt (nomark _) ha hb rj_B0
theorem ej_leV {n m : Int} (ha : EJ X N ρ M a (dI n) M1) (hb : EJ X N ρ M1 b (dI m) M2) : EJ X N ρ M (.Compare a [.LtE] [b] pos) (dB (decide (n ≤ m))) M2 := ej_cmp op_le (nomark _) ha hb rj_B0
theorem ej_neV {n m : Int} (ha : EJ X N ρ M a (dI n) M1) (hb : EJ X N ρ M1 b (dI m) M2) : EJ X N ρ M (.Compare a [.NotEq] [b] pos) (dB (!decide (n = m))) M2 := ej_cmp op_ne (nomark _) ha hb rj_neI
theorem ej_bits {apos : Pos} {n : Int} (ha : EJ X N ρ M a (dI n) M1) (hbase : attributeBase a "bit_length" X.env (eval a X.env) = eval a X.env := by rfl) (hline : (apos.endLine == pos.line) = true := by rfl) :
    EJ X N ρ M (.Call (.Attribute a "bit_length" apos) [] [] pos) (dI (Builtin.Int.intBits n : Nat)) M1 := fun σ H P hh g Q q =>
  e_of (pe_bits pe_w hbase hline) (ha σ H P hh g _ fun v H1 P1 e1 h1 r1 => ⟨n, ri_int r1, q _ H1 P1 e1 h1 (.int _)⟩)
theorem ej_divmod {q : Pos} {n m : Int} (hm : X.mg "divmod" = none) (ha : EJ X N ρ M a (dI n) M1) (hb : EJ X N ρ M1 b (dI m) M2) (hc : CDivP n m) (hg : Gl X "divmod" := by rfl) (he : starEach [a, b] X.env = (false, eval a X.env) :: starEach [b] X.env := by rfl) (he2 : starEach [b] X.env = (false, eval b X.env) :: starEach [] X.env := by rfl) (hpl : (backTo q (starEach [b] X.env)).any (·.1) = false := by rfl) :
    EJ X N ρ M (.Call (.Name "divmod" p) [a, b] [] q) (.d (.tuple [.int (n / m), .int (n % m)])) M2 := ej_callB call_divmodW hm (by decide +kernel) (aj_cons ha (aj_cons hb aj_nil he2) he) (fun vs H P h rr Q k => by
  obtain ⟨x, y, rfl, r1, r2⟩ := ri2 rr
  cases ri_int r1
  cases ri_int r2
  refine ⟨n, m, rfl, hc, fun p hp => ?_⟩
  obtain ⟨h', e'⟩ := h.pers (o := .tup [.int (n / m), .int (n % m)]) hp
  exact k _ _ _ e' h' (.tup (by simp [upd]) (.cons (.int _) (.cons (.int _) .nil)))) hg (by decide) (by decide) he hpl
/-! slices of a list of one's own -/
theorem RepIs.to_d {P : Hp} {vs : List V} {ds : List PyData} (h : RepIs P vs (ds.map It.d)) : DnAll P vs ds := RepIs.to_all h
theorem el_slO {o : Addr} {ds : List PyData} {lo hi : Option Expr} {l h : Option Int} {tl th : TO} {p2 : Pos} (ha : EJ X N ρ M a (.v (.ref o)) M1) (hm : (o, ds.map It.d) ∈ M1) (pl : PO X lo tl) (ph : PO X hi th) (el : ∀ σ H Q, Q l H → tl σ H Q) (eh : ∀ σ H Q, Q h H → th σ H Q) :
    EL X N ρ M (.Subscript a (.Slice lo hi none p2) pos) ((cutD ds l h).map It.d) M1 := fun σ H P hh g Q q =>
  e_of (pe_slice sl_list pe_w pl ph) (ha σ H P hh g _ fun x H1 P1 e1 h1 r1 => el _ _ _ (eh _ _ _ (by
    cases r1
    obtain ⟨xs, h3, h4⟩ := h1.cell hm
    exact ⟨o, xs, rfl, .inl (.inl h3), fun p hp => q p _ P1 e1 (h1.newF hp) (h1.own hp (RepIs.of_all ((RepIs.to_all h4).cut l h)))⟩)))
theorem el_slOfrom {o : Addr} {ds : List PyData} {lo : Expr} {l : Int} {p2 : Pos} (ha : EJ X N ρ M a (.v (.ref o)) M1) (hl : EJ X N ρ M1 lo (dI l) M2) (hm : (o, ds.map It.d) ∈ M2) :
    EL X N ρ M (.Subscript a (.Slice (some lo) none none p2) pos) ((cutD ds (some l) none).map It.d) M2 := fun σ H P hd g Q q => by
  refine e_of (pe_slice sl_list pe_w (po_some pe_w) po_none) (ha σ H P hd g _ fun x H1 P1 e1 h1 r1 => ?_)
  refine hl σ H1 P1 h1 (g.ex e1) _ fun v2 H2 P2 e2 h2 r2 => ⟨l, ri_int r2, ?_⟩
  cases r1
  obtain ⟨xs, h4, h5⟩ := h2.cell hm
  exact ⟨o, xs, rfl, .inl (.inl h4), fun p hp => q p _ P2 (e1.trans e2) (h2.newF hp) (h2.own hp (RepIs.of_all ((RepIs.to_all h5).cut (some l) none)))⟩
theorem el_slOto {o : Addr} {ds : List PyData} {hi : Expr} {l : Int} {p2 : Pos} (ha : EJ X N ρ M a (.v (.ref o)) M1) (hl : EJ X N ρ M1 hi (dI l) M2) (hm : (o, ds.map It.d) ∈ M2) :
    EL X N ρ M (.Subscript a (.Slice none (some hi) none p2) pos) ((cutD ds none (some l)).map It.d) M2 := fun σ H P hd g Q q => by
  refine e_of (pe_slice sl_list pe_w po_none (po_some pe_w)) (ha σ H P hd g _ fun x H1 P1 e1 h1 r1 => ?_)
  refine hl σ H1 P1 h1 (g.ex e1) _ fun v2 H2 P2 e2 h2 r2 => ⟨l, ri_int r2, ?_⟩
  cases r1
  obtain ⟨xs, h4, h5⟩ := h2.cell hm
  exact ⟨o, xs, rfl, .inl (.inl h4), fun p hp => q p _ P2 (e1.trans e2) (h2.newF hp) (h2.own hp (RepIs.of_all ((RepIs.to_all h5).cut none (some l))))⟩
theorem el_slLfrom {ds : List PyData} {lo : Expr} {l : Int} {p2 : Pos} (ha : EJ X N ρ M a (.d (.list ds)) M1) (hl : EJ X N ρ M1 lo (dI l) M2) :
    EL X N ρ M (.Subscript a (.Slice (some lo) none none p2) pos) ((cutD ds (some l) none).map It.d) M2 := fun σ H P hd g Q q => by
  refine e_of (pe_slice sl_list pe_w (po_some pe_w) po_none) (ha σ H P hd g _ fun x H1 P1 e1 h1 r1 => ?_)
  refine hl σ H1 P1 h1 (g.ex e1) _ fun v2 H2 P2 e2 h2 r2 => ⟨l, ri_int r2, ?_⟩
  obtain ⟨a, xs, rfl, h4, h5⟩ := ri_lst (r1.ex e2)
  exact ⟨a, xs, rfl, .inl (.inl (h2.ex _ _ h4)), fun p hp => q p _ P2 (e1.trans e2) (h2.newF hp) (h2.own hp (RepIs.of_all (h5.cut (some l) none)))⟩
theorem el_slLto {ds : List PyData} {hi : Expr} {l : Int} {p2 : Pos} (ha : EJ X N ρ M a (.d (.list ds)) M1) (hl : EJ X N ρ M1 hi (dI l) M2) :
    EL X N ρ M (.Subscript a (.Slice none (some hi) none p2) pos) ((cutD ds none (some l)).map It.d) M2 := fun σ H P hd g Q q => by
  refine e_of (pe_slice sl_list pe_w po_none (po_some pe_w)) (ha σ H P hd g _ fun x H1 P1 e1 h1 r1 => ?_)
  refine hl σ H1 P1 h1 (g.ex e1) _ fun v2 H2 P2 e2 h2 r2 => ⟨l, ri_int r2, ?_⟩
  obtain ⟨a, xs, rfl, h4, h5⟩ := ri_lst (r1.ex e2)
  exact ⟨a, xs, rfl, .inl (.inl (h2.ex _ _ h4)), fun p hp => q p _ P2 (e1.trans e2) (h2.newF hp) (h2.own hp (RepIs.of_all (h5.cut none (some l))))⟩
theorem cut_to {ds : List PyData} {n : Nat} (h : n ≤ ds.length) : cutD ds none (some (n : Int)) = ds.take n := by
  unfold cutD
  rw [HT.sIx_none, HT.sIx_nat, List.drop_zero, Nat.sub_zero, Nat.min_eq_left h]
theorem cut_from {ds : List PyData} {n : Nat} (h : n ≤ ds.length) : cutD ds (some (n : Int)) none = ds.drop n := by
  unfold cutD
  rw [HT.sIx_none, HT.sIx_nat, Nat.min_eq_left h, List.take_of_length_le (by simp)]
/-! a list of one's own, copied -/
theorem el_listO {p q : Pos} {o : Addr} {ds : List PyData} (hm : X.mg "list" = none) (ha : EJ X N ρ M a (.v (.ref o)) M1) (hM : (o, ds.map It.d) ∈ M1) (hg : Gl X "list" := by rfl) (he : starEach [a] X.env = [(false, eval a X.env)] := by rfl) (hpl : (backTo q (starEach ([] : List Expr) X.env)).any (·.1) = false := by rfl) :
    EL X N ρ M (.Call (.Name "list" p) [a] [] q) (ds.map It.d) M1 := fun σ H P hh g Q k =>
  e_of (pe_callTy call_list_of hg hm (by decide +kernel) pa_w (by decide) (by decide) he hpl) (aj_cons ha aj_nil he σ H P hh g _ fun vs H1 P1 e1 h1 r1 => by
    obtain ⟨x, rfl, r2⟩ := ri1 r1
    cases r2
    obtain ⟨xs, h3, h4⟩ := h1.cell hM
    exact ⟨o, xs, rfl, .inl (.inl (.inl h3)), fun l hl => k l _ P1 e1 (h1.newF hl) (h1.own hl h4)⟩)
/-! a def as a value, and a call of a name that holds one -/
theorem ej_fn {x : Str} {f : Addr} (hm : X.mg x = some (.ref f)) (hg : Gl X x := by rfl) (hd : (x == ("__debug__" : Str)) = false := by decide) : EJ X N ρ M (.Name x pos) (.v (.ref f)) M := fun σ H P hh g Q q =>
  e_of (pe_glob (v := .ref f) hg hm rfl hd) (q _ H P (Ex.refl P) hh rfl)
structure HoldX (P : Program) (w : World) (K : PySem.W.Frag) (mg : Str → Option Value) (base : Heap) (f : Addr) (k : Nat) (C : Co) (R : Ro) : Prop where
  ex : ∃ fd ps, FnOk P w K mg base (L2.CX P w) k f fd ps (spX mg C R) ∧ PySem.W.keepIn K (.ref f) = true ∧ Binds K fd ps []
theorem DefX.hold {P : Program} {w : World} {K : PySem.W.Frag} {mg : Str → Option Value} {base : Heap} {x : Str} {k : Nat} {C : Co} {R : Ro} (F : DefX P w K mg base x k C R) : ∃ f, mg x = some (.ref f) ∧ HoldX P w K mg base f k C R := by
  obtain ⟨f, fd, ps, h1, h2, h3, h4⟩ := F.ex
  exact ⟨f, h2, fd, ps, h1, h3, h4⟩
theorem ej_callXL (n : Nat) {x : Str} {f : Addr} {l : Nat} {C : Co} {R : Ro} (F : HoldX X.prog X.w X.K X.mg X.base f l C R) (hr : Room l X.A) (hρ : ρ[n]? = some (some (.v (.ref f)))) (ha : AJ X N ρ M (e :: es) is M1) (hM : M1 = Mc ++ Mr) (hC : C is Mc i Mc') (hM2 : M2 = Mc' ++ Mr)
    (hN : X.N[n]? = some x := by rfl) (hv : Vis X.env.scope x := by first | exact Or.inl rfl | exact Or.inr (Or.inl rfl) | exact Or.inr (Or.inr rfl)) (hdb : (x == ("__debug__" : Str)) = false := by decide) (hcd : (x == ("__classdict__" : Str)) = false := by decide)
    (he : starEach (e :: es) X.env = (false, eval e X.env) :: starEach es X.env := by rfl) (hpl : (backTo pos (starEach es X.env)).any (·.1) = false := by rfl) :
    EJ X N ρ M (.Call (.Name x p) (e :: es) [] pos) i M2 := fun σ H P hh g Q q => by
  obtain ⟨fd, ps, F1, hk, hb⟩ := F.ex
  obtain ⟨v, h0, h00⟩ := g.2 n _ hρ
  cases h00
  refine e_of (pe_callL (i := n) (f := f) F1 hr hN hv hk hb .nil passL pa_w hdb hcd he hpl) ⟨h0, ha σ H P hh g _ fun vs H1 P1 e1 h1 r1 => ?_⟩
  subst hM hM2
  refine ⟨P1, is, Mc, h1.enter, ?_, .inl ⟨i, Mc', hC, fun v H' P' h' r' => ?_⟩⟩
  · rw [List.append_nil]; exact r1
  · exact q v H' P' (e1.trans h'.ex0) (h1.leave h') r'
end
section
variable {X : Cx} {CX : CXT} {k i : Nat} {f : Addr} {fd : FuncData} {ps : List Str} {sp : Sp} {E : L2.St → XK} {x : Str} {p pos : Pos} {e : Expr} {es : List Expr} {t : TA}
def tCallLS (i : Nat) (f : Addr) (sp : Sp) (E : L2.St → XK) (t : TA) : TE := fun σ H Q => σ[i]? = some (some (.ref f)) ∧ t σ H fun vs H1 => sp vs H1 Q (E σ)
theorem pe_callLS (F : FnOk X.prog X.w X.K X.mg X.base CX k f fd ps sp) (hr : Room k X.A) (hN : X.N[i]? = some x) (hv : Vis X.env.scope x) (hk : PySem.W.keepIn X.K (.ref f) = true) (hb : Binds X.K fd ps []) (hx : ∀ σ, PassesAt CX X σ (E σ)) (ha : PA X (e :: es) t)
    (hdb : (x == ("__debug__" : Str)) = false := by decide) (hcd : (x == ("__classdict__" : Str)) = false := by decide)
    (he : starEach (e :: es) X.env = (false, eval e X.env) :: starEach es X.env := by rfl) (hpl : (backTo pos (starEach es X.env)).any (·.1) = false := by rfl) : PE X (.Call (.Name x p) (e :: es) [] pos) (tCallLS i f sp E t) := by
  refine ⟨fun pins s σ H Q I h => ?_⟩
  obtain ⟨hs, ht⟩ := h
  refine wpAny_Call_Name_kw (thn ((pe_var (pos := p) hN hv hdb hcd).run pins s σ H (fun v H1 => v = .ref f ∧ H1 = H) I ⟨.ref f, hs, rfl, rfl⟩) fun u s1 ⟨v, H1, I1, r1, q1⟩ => ?_)
  obtain ⟨rfl, rfl⟩ := q1
  cases r1
  refine PySem.W.callWith_K (h₀ := X.base) I.ok.mod.kin hk (thn (ha.run pos pins s1 σ _ _ I1 ht) fun us s2 ⟨vs, H2, I2, r, q⟩ => ⟨I2.kIn, ?_⟩) he hpl
  exact run_fnS F hr hb (hx σ) I2 r q
end
section
variable {X : Cx} {N : Ent} {ρ ρ' : Rho} {M M1 M2 M3 Mc Mc' Mr : Mem} {a b c e iter : Expr} {es : List Expr} {pos p : Pos} {i j k : It} {is : List It}
theorem xj_callXL (n : Nat) {x z : Str} {f : Addr} {l : Nat} {C : Co} {R : Ro} (F : HoldX X.prog X.w X.K X.mg X.base f l C R) (hr : Room l X.A) (hρ : ρ[n]? = some (some (.v (.ref f)))) (ha : AJ X N ρ M (e :: es) is M) (hR : R is [] z)
    (hN : X.N[n]? = some x := by rfl) (hv : Vis X.env.scope x := by first | exact Or.inl rfl | exact Or.inr (Or.inl rfl) | exact Or.inr (Or.inr rfl)) (hdb : (x == ("__debug__" : Str)) = false := by decide) (hcd : (x == ("__classdict__" : Str)) = false := by decide)
    (he : starEach (e :: es) X.env = (false, eval e X.env) :: starEach es X.env := by rfl) (hpl : (backTo pos (starEach es X.env)).any (·.1) = false := by rfl) :
    XJ X N ρ M (.Call (.Name x p) (e :: es) [] pos) z := fun σ H P hh g E tk er Q => by
  obtain ⟨fd, ps, F1, hk, hb⟩ := F.ex
  obtain ⟨v, h0, h00⟩ := g.2 n _ hρ
  cases h00
  refine e_of (pe_callLS (i := n) (f := f) F1 hr hN hv hk hb (fun σ => passAt tk σ) pa_w hdb hcd he hpl) ⟨h0, ha σ H P hh g _ fun vs H1 P1 e1 h1 r1 => ?_⟩
  have h2 : Holds N P1 H1 ([] ++ M) := h1
  refine ⟨P1, is, [], h2.enter, r1, .inr ⟨z, hR, fun d H' P' Cs gs h' x' => ?_⟩⟩
  exact er d H' P' Cs gs (e1.trans h'.ex0) (h2.leave h') x'
end
end Kt

/-! Ktz: tests whose second part changes cells; y = [comp with a test]; == of lists of ints. -/
namespace Kt
open PySem PySem.Spec PyProof PyProof.Rows L2
section
variable {X : Cx} {N : Ent} {ρ ρ' : Rho} {M M1 M2 M3 Mc Mc' Mr : Mem} {a b c e iter : Expr} {es : List Expr} {pos p : Pos} {i j k : It} {is : List It} {Z : Post} {rest : List Stmt} {scope : Scope} {cnd elt : Expr} {t u : Bool}
theorem ej_andT {es : List Expr} (h : EJ X N ρ M a (dB true) M1) (h2 : EJ X N ρ M1 (.BoolOp .And (b :: es) pos) i M2) : EJ X N ρ M (.BoolOp .And (a :: b :: es) pos) i M2 := fun σ H P hh g Q q =>
  e_of (pe_and pe_w pe_w) (h σ H P hh g _ fun v H1 P1 e1 h1 r1 => ⟨true, ri_bl r1, iteT (h2 σ H1 P1 h1 (g.ex e1) Q fun v2 H2 P2 e2 h3 r => q v2 H2 P2 (e1.trans e2) h3 r)⟩)
theorem wj_andT {es : List Expr} (h : TJ X N ρ M a true M1) (h2 : WJ X N ρ M1 (.BoolOp .And (b :: es) pos) u M2) : WJ X N ρ M (.BoolOp .And (a :: b :: es) pos) u M2 := fun σ H P hh g Q q =>
  w_of (pw_and pt_w pw_w) (h σ H P hh g _ fun H1 P1 e1 h1 => iteT (h2 σ H1 P1 h1 (g.ex e1) Q fun H2 P2 e2 h3 => q H2 P2 (e1.trans e2) h3))
theorem sj_setW1F {φ : Mem → Prop} (n' : Nat) {nm : Str} {py spos : Pos} {x : Str} {p : Pos} (n : Nat) {ds : List PyData} (A : Nat → List It) (Mi : Nat → Mem) (hc : X.calm = true) (hN : X.N.Nodup) (hi : IWQ φ X N ρ M (.Name x p) iter ds M1)
    (hφ : ∀ m c, φ (Mi m ++ [c])) (hA0 : A 0 = []) (hM0 : Mi 0 = M1) (hz : ds.length ≤ 100000)
    (step : ∀ (m : Nat) d, ds[m]? = some d → ∃ t Mm, (∀ N' s H C cl fp, TJ (X.blk s H scope (compEnvC scope cl C X.env) fp) N' (ρ.set n (some (.d d))) (Mi m) cnd t Mm) ∧ (A m).length ≤ m ∧
      (t = true → ∃ j, A (m + 1) = A m ++ [j] ∧ ∀ N' s H C cl fp, EJ (X.blk s H scope (compEnvC scope cl C X.env) fp) N' (ρ.set n (some (.d d))) Mm elt j (Mi (m + 1))) ∧ (t = false → A (m + 1) = A m ∧ Mi (m + 1) = Mm))
    (hr : ∀ p, p ∉ N.F → SJ X N (ρ.set n' (some (.v (.ref p)))) (Mi ds.length ++ [(p, A ds.length)]) rest Z)
    (hy : X.N[n']? = some nm := by rfl) (hyl : X.env.scope.names.lookup nm = some .local := by rfl)
    (hsw : swapsWith (.ListComp elt [⟨.Name x p, iter, [cnd], 0⟩] scope pos) (some (.Name nm py)) spos.line X.env = pure true := by exact sw_true rfl rfl rfl (by kernel_rfl))
    (ok : BlkOk X.N X.env.scope scope [(x, n)] := by exact blkOk_by (by kernel_rfl))
    (hgn : ∀ (s : Shared) (H : Hp) (C : Addr) (cl : List (Str × Addr)) (fp : List Addr), PG (X.blk s H scope (compEnvC scope cl C X.env) fp) (.Name x p) (gName n) := by exact fun _ _ _ _ _ => pg_name (by assumption) rfl (Or.inl rfl))
    (hf : ∀ x, foldedSetIterable iter X.env x = pure x := by intro _; rfl) : SJ X N ρ M (.Assign [.Name nm py] (.ListComp elt [⟨.Name x p, iter, [cnd], 0⟩] scope pos) spos :: rest) Z := by
  obtain ⟨ti, pi, hi⟩ := hi
  exact sj_lc n' (lj_compQ [n] (gName n) A Mi hi hφ hA0 hM0 hz fun m d hd => by obtain ⟨t, Mm, a, b, c⟩ := step m d hd; exact ⟨_, t, Mm, tgc1 n, a, b, c⟩) (ps_setLc (i := n') (y := nm) (py := py) (spos := spos) hc hN hy hyl hsw pi ok hgn (tt := wBT X scope cnd) (fun s H C cl fp => pts_one ⟨fun pins s1 σ1 H1 Q1 I1 h1 => h1 s H C cl fp pins s1 I1⟩) (te := wBE X scope elt) (fun s H C cl fp => ⟨fun pins s1 σ1 H1 Q1 I1 h1 => h1 s H C cl fp pins s1 I1⟩) hf) hr
theorem sj_setW1 {φ : Mem → Prop} (n' : Nat) {nm : Str} {py spos : Pos} {x : Str} {p : Pos} (n : Nat) {ds : List PyData} (A : Nat → List It) (Mi : Nat → Mem) (hc : X.calm = true) (hN : X.N.Nodup) (hi : IWQ φ X N ρ M (.Name x p) iter ds M1)
    (hφ : ∀ m c, φ (Mi m ++ [c])) (hA0 : A 0 = []) (hM0 : Mi 0 = M1) (hz : ds.length ≤ 100000)
    (step : ∀ (m : Nat) d, ds[m]? = some d → ∃ j, A (m + 1) = A m ++ [j] ∧ (A m).length ≤ m ∧ ∀ N' s H C cl fp, EJ (X.blk s H scope (compEnvC scope cl C X.env) fp) N' (ρ.set n (some (.d d))) (Mi m) elt j (Mi (m + 1)))
    (hr : ∀ p, p ∉ N.F → SJ X N (ρ.set n' (some (.v (.ref p)))) (Mi ds.length ++ [(p, A ds.length)]) rest Z)
    (hy : X.N[n']? = some nm := by rfl) (hyl : X.env.scope.names.lookup nm = some .local := by rfl)
    (hsw : swapsWith (.ListComp elt [⟨.Name x p, iter, [], 0⟩] scope pos) (some (.Name nm py)) spos.line X.env = pure true := by exact sw_true rfl rfl rfl (by kernel_rfl))
    (ok : BlkOk X.N X.env.scope scope [(x, n)] := by exact blkOk_by (by kernel_rfl))
    (hgn : ∀ (s : Shared) (H : Hp) (C : Addr) (cl : List (Str × Addr)) (fp : List Addr), PG (X.blk s H scope (compEnvC scope cl C X.env) fp) (.Name x p) (gName n) := by exact fun _ _ _ _ _ => pg_name (by assumption) rfl (Or.inl rfl))
    (hf : ∀ x, foldedSetIterable iter X.env x = pure x := by intro _; rfl) : SJ X N ρ M (.Assign [.Name nm py] (.ListComp elt [⟨.Name x p, iter, [], 0⟩] scope pos) spos :: rest) Z := by
  obtain ⟨ti, pi, hi⟩ := hi
  exact sj_lc n' (lj_compW [n] (gName n) A Mi hi hφ hA0 hM0 hz fun m d hd => by obtain ⟨j, a, b, c⟩ := step m d hd; exact ⟨_, j, tgc1 n, a, b, c⟩) (ps_setLc (i := n') (y := nm) (py := py) (spos := spos) hc hN hy hyl hsw pi ok hgn (fun _ _ _ _ _ => pts_nil) (te := wBE X scope elt) (fun s H C cl fp => ⟨fun pins s1 σ1 H1 Q1 I1 h1 => h1 s H C cl fp pins s1 I1⟩) hf) hr
theorem eqvAll_ints : ∀ (a b : List Int), PyData.eqvAll (a.map .int) (b.map .int) = decide (a = b)
  | [], [] => by simp [PyData.eqvAll]
  | [], _ :: _ => by simp [PyData.eqvAll]
  | _ :: _, [] => by simp [PyData.eqvAll]
  | x :: xs, y :: ys => by
    have ih := eqvAll_ints xs ys
    show (PyData.eqv (.int x) (.int y) && PyData.eqvAll (xs.map .int) (ys.map .int)) = _
    rw [ih]
    show ((x == y) && _) = _
    by_cases e : x = y <;> by_cases e2 : xs = ys <;> simp [e, e2]
theorem eqv_ints (a b : List Int) : PyData.eqv (.list (a.map .int)) (.list (b.map .int)) = decide (a = b) := eqvAll_ints a b
end
section
variable {X : Cx} {N : Ent} {ρ ρ' : Rho} {M M1 M2 Mc Mc' Mr : Mem} {e : Expr} {es : List Expr} {pos p p2 p3 : Pos} {is : List It} {Z : Post} {rest Ab : List Stmt}
/-- if not f(..): A, where f gives True and changes cells of its own -/
theorem sj_ifNotN {y : Str} {l : Nat} {A : Pre} {B : Co} (F : DefN X.prog X.w X.K X.mg X.base y l A B) (hr : Room l X.A) (ha : AJ X N ρ M (e :: es) is M1) (hM : M1 = Mc ++ Mr) (hA : A is Mc)
    (hk : ∀ i Mc', B is Mc i Mc' → i = dB true ∧ SJ X N ρ (Mc' ++ Mr) rest Z)
    (hg : Gl X y := by rfl) (hdb : (y == ("__debug__" : Str)) = false := by decide) (he : starEach (e :: es) X.env = (false, eval e X.env) :: starEach es X.env := by rfl) (hpl : (backTo pos (starEach es X.env)).any (·.1) = false := by rfl)
    (hv : ∀ whole, isTrue (.Call (.Name y p) (e :: es) [] pos) X.env whole = (do let v ← whole; standAt (Expr.Call (.Name y p) (e :: es) [] pos).pos; holding [v] (truthy v)) := by intro _; rfl) :
    SJ X N ρ M (.If (.UnaryOp .Not (.Call (.Name y p) (e :: es) [] pos) p2) Ab [] p3 :: rest) Z := sj_cons fun σ H P hh g D E tk z => by
  obtain ⟨f, fd, ps, F1, hm, hkp, hb⟩ := F.ex
  refine s_of (ps_if (pt_not (pt_val (pe_call F1 hr hg hm hkp hb .nil pass0 pa_w hdb he hpl) hv)) pss_w pss_w) (ha σ H P hh g _ fun vs H1 P1 e1 h1 r1 => ?_)
  subst hM
  refine ⟨P1, is, Mc, h1.enter, ?_, hA, fun i M' v H' P' hB h' r' => ?_⟩
  · rw [List.append_nil]; exact r1
  · obtain ⟨rfl, hs⟩ := hk i M' hB
    refine ⟨true, ri_bl r', ?_⟩
    have h2 := h1.leave h'
    exact iteF (sj_nil (Z := { Z with nx := fun ρ' M' => SJ X N ρ' M' rest Z }) hs σ H' P' h2 (g.ex (e1.trans h'.ex0)) D E tk (z.ex (e1.trans h'.ex0)))
end
end Kt

/-! Kua: comprehensions over two ranges; xs[i] op= e; max of a list of one's own; str of an int; x, y = e with other shapes. -/
namespace Kt
open PySem PySem.Spec PyProof PyProof.Rows L2
def wBA (X : Cx) (scope : Scope) (es : List Expr) : TA := fun σ H Q => ∀ s H0 C cl fp, wA (X.blk s H0 scope (compEnvC scope cl C X.env) fp) es σ H Q
def rrD (f : Nat → Nat → PyData) (m n : Nat) : List PyData := (List.range m).flatMap fun i => (List.range n).map (f i)
theorem rrD_succ (f : Nat → Nat → PyData) (m n : Nat) : rrD f (m + 1) n = rrD f m n ++ (List.range n).map (f m) := by
  unfold rrD
  rw [List.range_succ, List.flatMap_append]
  simp
theorem rrD_len (f : Nat → Nat → PyData) (n : Nat) : ∀ m, (rrD f m n).length = m * n
  | 0 => by simp [rrD]
  | m + 1 => by
    rw [rrD_succ, List.length_append, rrD_len f n m, List.length_map, List.length_range, Nat.succ_mul]
section
variable {X : Cx} {N : Ent} {ρ ρ' : Rho} {M M1 M2 M3 M' Mc Mr Mc' : Mem} {a b c e elt iter iter1 : Expr} {pos p pos' : Pos} {i j k : It} {t u : Bool} {scope : Scope} {Z : Post} {rest : List Stmt}
/-- [elt for x in range(a) for y in range(b)] -/
theorem el_comp2R {x y : Str} {px py p1 p2 p3 p4 : Pos} (n1 n2 : Nat) {z1 z2 : Int} (f : Nat → Nat → PyData) (hc : X.calm = true) (hmr : X.mg "range" = none) (hN : X.N.Nodup) (ne : n1 ≠ n2) (hi : EJ X N ρ M a (dI z1) M1)
    (h1 : -(2 ^ 62) ≤ z1 ∧ z1 < 2 ^ 62) (h2 : -(2 ^ 62) ≤ z2 ∧ z2 < 2 ^ 62) (hz : z1.toNat * z2.toNat ≤ 100000)
    (src : ∀ i < z1.toNat, ∀ N' s H C cl fp, EJ (X.blk s H scope (compEnvC scope cl C X.env) fp) N' ((ρ.set n2 none).set n1 (some (dI (i : Int)))) M1 b (dI z2) M1)
    (step : ∀ i < z1.toNat, ∀ j < z2.toNat, ∀ N' s H C cl fp, EJ (X.blk s H scope (compEnvC scope cl C X.env) fp) N' (((ρ.set n2 none).set n1 (some (dI (i : Int)))).set n2 (some (dI (j : Int)))) M1 elt (.d (f i j)) M1)
    (ok : BlkOk X.N X.env.scope scope [(x, n1), (y, n2)] := by exact blkOk_by (by kernel_rfl))
    (hg1 : ∀ (s : Shared) (H : Hp) (C : Addr) (cl : List (Str × Addr)) (fp : List Addr), PG (X.blk s H scope (compEnvC scope cl C X.env) fp) (.Name x px) (gName n1) := by exact fun _ _ _ _ _ => pg_name (by assumption) rfl (Or.inl rfl))
    (hg2 : ∀ (s : Shared) (H : Hp) (C : Addr) (cl : List (Str × Addr)) (fp : List Addr), PG (X.blk s H scope (compEnvC scope cl C X.env) fp) (.Name y py) (gName n2) := by exact fun _ _ _ _ _ => pg_name (by assumption) rfl (Or.inl rfl))
    (hgr : Gl X "range" := by rfl) (hgr1 : ∀ (s : Shared) (H : Hp) (C : Addr) (cl : List (Str × Addr)) (fp : List Addr), Gl (X.blk s H scope (compEnvC scope cl C X.env) fp) "range" := by exact fun _ _ _ _ _ => rfl)
    (hs : starEach [a] X.env = [(false, eval a X.env)] := by rfl) (hs1 : ∀ (cl : List (Str × Addr)) (C : Addr), starEach [b] (compEnvC scope cl C X.env) = [(false, eval b (compEnvC scope cl C X.env))] := by exact fun _ _ => rfl)
    (hf : ∀ x, foldedSetIterable (.Call (.Name "range" p1) [a] [] p2) X.env x = pure x := by intro _; rfl) (hf1 : ∀ env x, foldedSetIterable (.Call (.Name "range" p3) [b] [] p4) env x = pure x := by intro _ _; rfl) :
    EL X N ρ M (.ListComp elt [⟨.Name x px, .Call (.Name "range" p1) [a] [] p2, [], 0⟩, ⟨.Name y py, .Call (.Name "range" p3) [b] [] p4, [], 0⟩] scope pos) ((rrD f z1.toNat z2.toNat).map It.d) M1 := fun σ H P hh g Q q => by
  have pi1 : ∀ (s : Shared) (H : Hp) (C : Addr) (cl : List (Str × Addr)) (fp : List Addr), PI (X.blk s H scope (compEnvC scope cl C X.env) fp) (.Name y py) (.Call (.Name "range" p3) [b] [] p4) (iRng1 (wBA X scope [b])) := fun s H C cl fp =>
    pi_range1 (X := X.blk s H scope (compEnvC scope cl C X.env) fp) (hgr1 s H C cl fp) hmr ⟨fun pos pins s1 σ1 H1 Q1 I1 h1 => h1 s H C cl fp pos pins s1 I1⟩ (hs1 cl C)
  refine e_of (pe_lc2 (vs1 := [n2]) (te := wBE X scope elt) hc hN (pi_range1 hgr hmr pa_w hs) ok (by simp) hg1 (fun _ _ _ _ _ => pts_nil) pi1 hg2 (fun _ _ _ _ _ => pts_nil) (fun s H C cl fp => ⟨fun pins s1 σ1 H1 Q1 I1 h1 => h1 s H C cl fp pins s1 I1⟩) hf hf1) (aj_cons hi aj_nil hs σ H P hh g _ fun vs H1 P1 e1 h1' r1 => ?_)
  obtain ⟨v, rfl, r2⟩ := ri1 r1
  cases ri_int r2
  refine ⟨z1, rfl, h1.1, h1.2, fun D hD => ?_⟩
  refine ⟨fun i m H => m = z1.toNat - i ∧ i ≤ z1.toNat ∧ ∃ P', Holds N P' H (M1 ++ [(D, (rrD f i z2.toNat).map It.d)]) ∧ Ex P1 P', ⟨z1.toNat, by simp, Nat.zero_le _, P1, h1'.own hD (its := []) trivial, Ex.refl _⟩, ?_⟩
  rintro i m H2 ⟨rfl, hil, P2, h2', e2⟩
  by_cases hlt : i < z1.toNat
  · refine .inr ⟨hlt, fun H' => ∃ P', Holds N P' H' (M1 ++ [(D, (rrD f (i + 1) z2.toNat).map It.d)]) ∧ Ex P1 P', fun H' p' => ⟨z1.toNat - (i + 1), by omega, rfl, hlt, p'⟩, fun x' H' yl => ?_⟩
    obtain ⟨rfl, rfl⟩ := yl
    refine ⟨wipe_first ne, ?_⟩
    unfold tYes
    dsimp only
    rw [if_pos rfl]
    have g2 : Slots P2 ((wipe σ [n1, n2]).set n1 (some (.int ((0 : Int) + (i : Nat))))) ((ρ.set n2 none).set n1 (some (dI (i : Int)))) := by
      have e : (wipe σ [n1, n2]).set n1 (some (V.int ((0 : Int) + (i : Nat)))) = (σ.set n2 none).set n1 (some (V.int ((0 : Int) + (i : Nat)))) := by
        show ((σ.set n2 none).set n1 none).set n1 (some _) = _
        rw [List.set_set]
      rw [e, Int.zero_add]
      exact ((g.ex (e1.trans e2)).unset n2 none).set (it := dI (i : Int)) (.int _) n1
    have ajb : ∀ s H0 C cl fp, AJ (X.blk s H0 scope (compEnvC scope cl C X.env) fp) (inner P2 H' M1) ((ρ.set n2 none).set n1 (some (dI (i : Int)))) M1 [b] [dI z2] M1 := fun s H0 C cl fp => aj_cons (src i hlt (inner P2 H' M1) s H0 C cl fp) aj_nil (hs1 cl C)
    intro s H0 C cl fp
    refine ajb s H0 C cl fp _ H' P2 h2'.enter g2 _ fun ws H4 P4 e4 h4 r4 => ?_
    have h5 := h2'.leave h4
    obtain ⟨w, rfl, r5⟩ := ri1 r4
    cases ri_int r5
    refine ⟨z2, rfl, h2.1, h2.2, ?_⟩
    refine ⟨fun j k H => k = z2.toNat - j ∧ j ≤ z2.toNat ∧ ∃ P', Holds N P' H (M1 ++ [(D, (rrD f i z2.toNat ++ (List.range j).map (f i)).map It.d)]) ∧ Ex P4 P', ⟨z2.toNat, by simp, Nat.zero_le _, P4, by simpa using h5, Ex.refl _⟩, ?_⟩
    rintro j k H6 ⟨rfl, hjl, P6, h6, e6⟩
    by_cases hjt : j < z2.toNat
    · refine .inr ⟨hjt, fun H' => ∃ P', Holds N P' H' (M1 ++ [(D, (rrD f i z2.toNat ++ (List.range (j + 1)).map (f i)).map It.d)]) ∧ Ex P4 P', fun H' p' => ⟨z2.toNat - (j + 1), by omega, rfl, hjt, p'⟩, fun x7 H7 yl7 => ?_⟩
      obtain ⟨rfl, rfl⟩ := yl7
      refine ⟨wipe_comp n2, ?_⟩
      dsimp only
      rw [if_pos rfl]
      intro s H0 C cl fp
      have g7 : Slots P6 _ (((ρ.set n2 none).set n1 (some (dI (i : Int)))).set n2 (some (dI (j : Int)))) := slots_comp (v := .int ((0 : Int) + (j : Nat))) (g2.ex (e4.trans e6)) n2 (i := dI (j : Int)) (by rw [Int.zero_add]; exact .int _)
      refine step i hlt j hjt (inner P6 H7 M1) s H0 C cl fp _ H7 P6 h6.enter g7 _ fun y8 H8 P8 e8 h8 r8 => ?_
      have h9 := h6.leave h8
      obtain ⟨acc, ea, ra⟩ := h9.cell (a := D) (its := (rrD f i z2.toNat ++ (List.range j).map (f i)).map It.d) (List.mem_append_right _ (List.mem_singleton.mpr rfl))
      refine ⟨acc, ea, ?_, P8, ?_, e6.trans e8⟩
      · rw [ra.len]
        refine Nat.lt_of_lt_of_le (m := 100000) ?_ (by decide)
        rw [List.length_map, List.length_append, rrD_len, List.length_map, List.length_range]
        have : (i + 1) * z2.toNat ≤ z1.toNat * z2.toNat := Nat.mul_le_mul_right _ hlt
        rw [Nat.succ_mul] at this
        omega
      · have h10 := h9.write (a := D) (its := (rrD f i z2.toNat ++ (List.range j).map (f i)).map It.d) (its' := (rrD f i z2.toNat ++ (List.range (j + 1)).map (f i)).map It.d) (List.mem_append_right _ (List.mem_singleton.mpr rfl)) (xs' := acc ++ [y8]) (by
          have e11 : (rrD f i z2.toNat ++ (List.range (j + 1)).map (f i)).map It.d = (rrD f i z2.toNat ++ (List.range j).map (f i)).map It.d ++ [It.d (f i j)] := by
            rw [List.range_succ, List.map_append, List.map_append, List.map_append, List.map_append, List.append_assoc]
            rfl
          rw [e11]
          exact ra.app ⟨r8, trivial⟩)
        rw [put_last h9.nd] at h10
        exact h10
    · have ej : j = z2.toNat := by omega
      subst ej
      refine .inl ⟨Nat.le_refl _, P6, ?_, (e2.trans e4).trans e6⟩
      rw [rrD_succ]
      exact h6
  · have ei : i = z1.toNat := by omega
    subst ei
    exact .inl ⟨Nat.le_refl _, q D H2 P2 (e1.trans e2) (h1'.newF hD) h2'⟩
/-! xs[i] op= e -/
def rGetN : V → V → Hp → VK → Prop := fun o i H Q => ∃ p xs k v, o = .ref p ∧ i = .int k ∧ H p = some (.lst xs) ∧ 0 ≤ k ∧ xs[k.toNat]? = some v ∧ Q v H
theorem get_listN : PGet X rGetN := by
  intro pins s σ H o i ov iv Q I ro ri h
  obtain ⟨p, xs, k, v, rfl, rfl, hp, h0, hv, q⟩ := h
  cases ro
  obtain ⟨t, rfl⟩ := ri
  obtain ⟨its, r, pl, hz⟩ := I.list (show SqL X.K H p xs from .inl (.inl hp))
  obtain ⟨w, ew, rw'⟩ := r.get hv
  have hl := r.length
  have hn := line63
  have kl : k.toNat < xs.length := (List.getElem?_eq_some_iff.mp hv).1
  exact wpAny_getItem_list pl.isList h0 (by omega) (by simpa using ew) ⟨v, H, I, rw', q⟩
theorem sj_augO {o x : Expr} {tpos : Pos} {op : Operator} {g : Int → Int → Int} {p : Addr} {is : List It} {n : Nat} {z1 z2 : Int} (hp : PIp X op (ipI g)) (ho : EJ X N ρ M o (.v (.ref p)) M) (hx : EJ X N ρ M x (dI (n : Int)) M) (he : EJ X N ρ M e (dI z2) M) (hm : (p, is) ∈ M) (hn : is[n]? = some (dI z1)) (hr : SJ X N ρ (M.put p (is.set n (dI (g z1 z2)))) rest Z)
    (ha : ∀ ov iv new, augStore x ov iv new = (do holding [new, ov, iv] (setItem ov iv new); release [new, ov, iv] []; pure .next) := by intros; rfl) : SJ X N ρ M (.AugAssign (.Subscript o x tpos) op e pos :: rest) Z := sj_cons fun σ H P hh g0 D E tk z => by
  refine s_of (ps_augS pe_w pe_w get_listN pe_w hp set_list ha) (ho σ H P hh g0 _ fun ov H1 P1 e1 h1 r1 => hx σ H1 P1 h1 (g0.ex e1) _ fun iv H2 P2 e2 h2 r2 => ?_)
  cases r1
  cases ri_int r2
  obtain ⟨xs, e4, r4⟩ := h2.cell hm
  obtain ⟨v, ev, rv⟩ := r4.get hn
  cases ri_int rv
  refine ⟨p, xs, (n : Int), .int z1, rfl, rfl, e4, by omega, ev, he σ H2 P2 h2 (g0.ex (e1.trans e2)) _ fun w H3 P3 e3 h3 r3 => ?_⟩
  cases ri_int r3
  obtain ⟨xs3, e5, r5⟩ := h3.cell hm
  have z4 := r5.len
  have nl : n < is.length := (List.getElem?_eq_some_iff.mp hn).1
  refine ⟨z1, z2, rfl, rfl, p, xs3, (n : Int), n, rfl, rfl, e5, ?_, ?_⟩
  · unfold ixN
    rw [if_pos (by omega), if_pos (by omega)]
    simp
  · exact z.nx ρ _ σ _ P3 hr ((e1.trans e2).trans e3) (h3.write hm (r5.set (show RepI P3 (.int (g z1 z2)) (dI (g z1 z2)) from Dn.int _) n)) (g0.ex ((e1.trans e2).trans e3))
/-- max of a list of one's own -/
theorem ej_maxO {p q : Pos} {o : Addr} {ns : List Int} {m : Int} (hc : X.calm = true) (hm : X.mg "max" = none) (ha : EJ X N ρ M a (.v (.ref o)) M1) (hM : (o, ns.map dI) ∈ M1) (h1 : m ∈ ns) (h2 : ∀ y ∈ ns, y ≤ m) (hg : Gl X "max" := by rfl) (he : starEach [a] X.env = [(false, eval a X.env)] := by rfl) (hpl : (backTo q (starEach ([] : List Expr) X.env)).any (·.1) = false := by rfl) :
    EJ X N ρ M (.Call (.Name "max" p) [a] [] q) (dI m) M1 := ej_callB (cr_max hc) hm (by decide +kernel) (aj_cons ha aj_nil he) (fun vs H P h rr Q q => by
  obtain ⟨x, rfl, r⟩ := ri1 rr
  cases r
  obtain ⟨ys, h3, h4⟩ := h.cell hM
  have h5 : DnAll P ys (ns.map PyData.int) := RepIs.to_all (by rw [List.map_map]; exact h4)
  cases h5.ints
  refine ⟨o, ns, rfl, .inl (.inl h3), List.length_pos_of_mem h1, fun m' hm' hy => ?_⟩
  have e : m' = m := by have := hy m h1; have := h2 m' hm'; omega
  exact q _ H P (Ex.refl P) h (e ▸ .int _)) hg (by decide) (by decide) he hpl
/-- str of an int -/
theorem ej_strI {p q : Pos} {n : Int} (hm : X.mg "str" = none) (ha : EJ X N ρ M a (dI n) M1) (hz : n.natAbs.log2 < 1920) (hg : Gl X "str" := by rfl) (he : starEach [a] X.env = [(false, eval a X.env)] := by rfl) (hpl : (backTo q (starEach ([] : List Expr) X.env)).any (·.1) = false := by rfl) :
    EJ X N ρ M (.Call (.Name "str" p) [a] [] q) (.d (.str (toString n))) M1 := ej_callTy call_str_int hm (by decide +kernel) (aj_cons ha aj_nil he) (fun vs H P h rr Q k => by
  obtain ⟨x, rfl, r⟩ := ri1 rr
  cases ri_int r
  exact ⟨n, rfl, hz, k _ H P (Ex.refl P) h (.str _)⟩) hg (by decide) (by decide) he hpl
end
end Kt

/-! Kub: min with default=None, list.index, xs[::-1], sum of a list of one's own, x = [a new list]. -/
namespace Kt
open PySem PySem.Spec PyProof PyProof.Rows L2
def oD : Option Nat → PyData
  | none => .none
  | some v => .int (v : Int)
def oV : Option Nat → V
  | none => .non
  | some v => .int (v : Int)
theorem dn_opt {H : Hp} : ∀ {vs : List V} {l : List (Option Nat)}, DnAll H vs (l.map oD) → vs = l.map oV
  | [], [], _ => rfl
  | [], _ :: _, h => by cases h
  | _ :: _, [], h => by cases h
  | v :: vs, o :: l, h => by
    cases h with
    | cons a b =>
      have e := dn_opt b
      subst e
      cases o with
      | none => cases a; rfl
      | some x => cases a; rfl
theorem foldmin_ok : ∀ (r : List Int) (n : Int), r.foldl min n ∈ n :: r ∧ ∀ y ∈ n :: r, r.foldl min n ≤ y
  | [], n => ⟨List.mem_cons_self, fun y hy => by rw [List.mem_singleton.mp hy]; exact Int.le_refl _⟩
  | k :: r, n => by
    obtain ⟨a, b⟩ := foldmin_ok r (min n k)
    show r.foldl min (min n k) ∈ _ ∧ ∀ y ∈ _, r.foldl min (min n k) ≤ y
    refine ⟨?_, fun y hy => ?_⟩
    · rcases List.mem_cons.mp a with e | e
      · rw [e]
        rcases Int.le_total n k with c | c
        · rw [Int.min_eq_left c]
          exact List.mem_cons_self
        · rw [Int.min_eq_right c]
          exact List.mem_cons_of_mem _ List.mem_cons_self
      · exact List.mem_cons_of_mem _ (List.mem_cons_of_mem _ e)
    · have m0 := b (min n k) List.mem_cons_self
      rcases List.mem_cons.mp hy with rfl | hy
      · omega
      · rcases List.mem_cons.mp hy with rfl | hy
        · omega
        · exact b y (List.mem_cons_of_mem _ hy)
theorem depth_ints : ∀ ns : List Int, PyData.depthAll (ns.map PyData.int) ≤ 0
  | [] => Nat.le_refl _
  | n :: ns => by
    show max (PyData.depth (.int n)) (PyData.depthAll (ns.map PyData.int)) ≤ 0
    have := depth_ints ns
    have e : PyData.depth (.int n) = 0 := rfl
    omega
theorem alike_ints (ns : List Int) : PySem.W.AlikeAll (ns.map PyData.int) := by
  refine ⟨fun x hx y hy => ?_, fun x hx => ?_⟩
  · obtain ⟨a, _, rfl⟩ := List.mem_map.mp hx
    obtain ⟨b, _, rfl⟩ := List.mem_map.mp hy
    simp only [PySem.W.alike]
  · obtain ⟨a, _, rfl⟩ := List.mem_map.mp hx
    exact fun h => by cases h
def rMinDf (K : PySem.W.Frag) : List V → List V → Hp → VK → Prop := fun xs zs H Q => ∃ (a : Addr) (ns : List Int), xs = [.ref a] ∧ zs = [.non] ∧ SqL K H a (ns.map V.int) ∧ (ns = [] → Q .non H) ∧ ∀ m, m ∈ ns → (∀ y, y ∈ ns → m ≤ y) → Q (.int m) H
theorem cr_minDf {X : Cx} (hc : X.calm = true) (hu : X.A.units + 64 < cLine) : CallRK X (.builtin "min") ["default"] (rMinDf X.K) := by
  intro pins s σ H xs zs us ws Q I rx rz h
  obtain ⟨a, ns, rfl, rfl, hs, q0, q⟩ := h
  obtain ⟨its, rv, hl, _⟩ := I.list hs
  rw [Vals.ref1 rx]
  have ew : ws = [.none] := by
    cases rz with
    | cons r t => cases t; cases r; rfl
  subst ew
  have hI : IntsAre its ns := rv.ints
  have hr : ReadsAll s.heap its.toArray.toList (ns.map .int) [] := by simpa using hI.reads s.heap
  have hd := depth_ints ns
  refine PySem.W.min_list_default (d := .none) (I.ok.hd hc) hl.isList hr (alike_ints ns) (by omega) (fun e h' tk hk => ?_) (fun y ys i v h' tk bs e hv rd hk => ?_)
  · have : ns = [] := by simpa using e
    exact ⟨.non, H, I.kept hk, rfl, q0 this⟩
  · cases ns with
    | nil => cases e
    | cons n r =>
      injection e with e1 e2
      subst e1 e2
      rw [PySem.W.minD_ints] at rd
      obtain ⟨m1, m2⟩ := foldmin_ok r n
      cases rd
      exact ⟨.int _, H, I.kept hk, ⟨_, rfl⟩, q _ m1 m2⟩
section
variable {X : Cx} {N : Ent} {ρ ρ' : Rho} {M M1 M2 M3 : Mem} {a b c e : Expr} {pos p : Pos} {i j k : It} {Z : Post} {rest : List Stmt}
theorem ej_minDf {q kp kp2 : Pos} {kk : Nat} {ns : List Int} {d : PyData} (hc : X.calm = true) (hu : X.A.units + 64 < cLine) (hm : X.mg "min" = none) (ha : EJ X N ρ M a (.d (.list (ns.map .int))) M1) (h0 : ns = [] → d = .none) (h1 : ∀ m, m ∈ ns → (∀ y ∈ ns, m ≤ y) → d = .int m)
    (hg : Gl X "min" := by rfl) (hst : starEach [a] X.env = [(false, eval a X.env)] := by rfl) (he : backTo q (starEach [a] X.env) = (false, eval a X.env) :: backTo q (starEach [] X.env) := by rfl) (hpl : (backTo q (starEach [a] X.env)).any (·.1) = false := by rfl)
    (hall : (backToKw q (keywordEach [⟨some "default", .Constant .none kk kp, kp2⟩] X.env)).all (·.1.isSome) = true := by rfl) (hnone : (backToKw q (keywordEach [⟨some "default", .Constant .none kk kp, kp2⟩] X.env)).any (·.1.isNone) = false := by rfl) (hks : (backToKw q (keywordEach [⟨some "default", .Constant .none kk kp, kp2⟩] X.env)).filterMap (·.1) = ([("default" : Str)] : List Str) := by rfl) :
    EJ X N ρ M (.Call (.Name "min" p) [a] [⟨some "default", .Constant .none kk kp, kp2⟩] q) (.d d) M1 := fun σ H P hh g Q k =>
  e_of (pe_callBK (cr_minDf hc hu) hg hm (by decide +kernel) pa_w (pk_cons pe_w pk_nil) (by decide) (by decide) he hpl hall hnone hks) (aj_cons ha aj_nil hst σ H P hh g _ fun vs H1 P1 e1 h1' r1 => by
    obtain ⟨x, rfl, r⟩ := ri1 r1
    obtain ⟨y, ys, rfl, x1, x2⟩ := ri_lst r
    cases x2.ints
    refine ej_non (X := X) (N := N) (ρ := ρ) (M := M1) σ H1 P1 h1' (g.ex e1) _ fun v H2 P2 e2 h2 r2 => ?_
    cases ri_non r2
    refine ⟨y, ns, rfl, rfl, .inl (.inl (h2.ex _ _ (e2 _ _ x1))), fun e0 => ?_, fun m hm hy => ?_⟩
    · refine k _ H2 P2 (e1.trans e2) h2 ?_
      rw [h0 e0]
      exact .non
    · refine k _ H2 P2 (e1.trans e2) h2 ?_
      rw [h1 m hm hy]
      exact .int _)
theorem ej_minL {p q : Pos} {ns : List Int} {m : Int} (hc : X.calm = true) (hm : X.mg "min" = none) (ha : EJ X N ρ M a (.d (.list (ns.map PyData.int))) M1) (h1 : m ∈ ns) (h2 : ∀ y ∈ ns, m ≤ y) (hg : Gl X "min" := by rfl) (he : starEach [a] X.env = [(false, eval a X.env)] := by rfl) (hpl : (backTo q (starEach ([] : List Expr) X.env)).any (·.1) = false := by rfl) :
    EJ X N ρ M (.Call (.Name "min" p) [a] [] q) (dI m) M1 := ej_callB (cr_min hc) hm (by decide +kernel) (aj_cons ha aj_nil he) (fun vs H P h rr Q q => by
  obtain ⟨x, rfl, r⟩ := ri1 rr
  obtain ⟨y, ys, rfl, h3, h4⟩ := ri_lst r
  cases h4.ints
  refine ⟨y, ns, rfl, .inl (.inl (h.ex _ _ h3)), List.length_pos_of_mem h1, fun m' hm' hy => ?_⟩
  have e : m' = m := by have := hy m h1; have := h2 m' hm'; omega
  exact q _ H P (Ex.refl P) h (e ▸ .int _)) hg (by decide) (by decide) he hpl
/-- sum of a list of one's own -/
theorem ej_sumO {p q : Pos} {o : Addr} {ns : List Int} (hc : X.calm = true) (hm : X.mg "sum" = none) (ha : EJ X N ρ M a (.v (.ref o)) M1) (hM : (o, ns.map dI) ∈ M1) (hg : Gl X "sum" := by rfl) (he : starEach [a] X.env = [(false, eval a X.env)] := by rfl) (hpl : (backTo q (starEach ([] : List Expr) X.env)).any (·.1) = false := by rfl) :
    EJ X N ρ M (.Call (.Name "sum" p) [a] [] q) (dI ns.sum) M1 := ej_callB (cr_sum hc) hm (by decide +kernel) (aj_cons ha aj_nil he) (fun vs H P h rr Q q => by
  obtain ⟨x, rfl, r⟩ := ri1 rr
  cases r
  obtain ⟨ys, h3, h4⟩ := h.cell hM
  have h5 : DnAll P ys (ns.map PyData.int) := RepIs.to_all (by rw [List.map_map]; exact h4)
  cases h5.ints
  exact ⟨o, ns, rfl, .inl (.inl h3), q _ H P (Ex.refl P) h (.int _)⟩) hg (by decide) (by decide) he hpl
theorem DnAll.rev {P : Hp} : ∀ {xs : List V} {ds : List PyData}, DnAll P xs ds → DnAll P xs.reverse ds.reverse
  | _, _, .nil => .nil
  | _, _, .cons a b => by
    rw [List.reverse_cons, List.reverse_cons]
    exact (DnAll.rev b).app (.cons a .nil)
/-- xs[::-1] -/
theorem el_rev {ds : List PyData} {kk : Nat} {p1 p2 p3 : Pos} (ha : EJ X N ρ M a (.d (.list ds)) M1) : EL X N ρ M (.Subscript a (.Slice none none (some (.UnaryOp .USub (.Constant (.int 1) kk p1) p2)) p3) pos) (ds.reverse.map It.d) M1 := fun σ H P hh g Q q =>
  e_of (pe_revL pe_w) (ha σ H P hh g _ fun x H1 P1 e1 h1 r1 => by
    obtain ⟨a, xs, rfl, h3, h4⟩ := ri_lst r1
    exact ⟨a, xs, rfl, .inl (.inl (h1.ex _ _ h3)), fun p hp => q p _ P1 e1 (h1.newF hp) (h1.own hp (RepIs.of_all h4.rev))⟩)
/-- xs.index(v), of whole numbers and None -/
theorem ej_index {ap epos : Pos} {l : List (Option Nat)} {v j : Nat} (ho : EJ X N ρ M a (.d (.list (l.map oD))) M1) (he : EJ X N ρ M1 e (dI (v : Int)) M2) (hj : l[j]? = some (some v)) (hf : ∀ m < j, l[m]? ≠ some (some v))
    (hst : starEach [e] X.env = [(false, eval e X.env)] := by rfl) (ps : PE X (.Call (.Attribute a "index" ap) [e] [] epos) (tBM X.K "list" (rIndex X.K) (wE X a) (wA X [e])) := by exact pe_bm PySem.F.plainAttrs_list PySem.F.slot_list_index PySem.F.type_list_index mt_index pe_w pa_w) :
    EJ X N ρ M (.Call (.Attribute a "index" ap) [e] [] epos) (dI (j : Int)) M2 := fun σ H P hh g Q q =>
  e_of ps (ho σ H P hh g _ fun x H1 P1 e1 h1 r1 => by
    obtain ⟨y, ys, rfl, h3, h4⟩ := ri_lst r1
    have e0 := dn_opt h4
    subst e0
    refine ⟨.inl ⟨rfl, _, .inl (.inl (h1.ex _ _ h3))⟩, ?_⟩
    refine aj_cons he aj_nil hst σ H1 P1 h1 (g.ex e1) _ fun vs H2 P2 e2 h2 r2 => ?_
    obtain ⟨z, rfl, r3⟩ := ri1 r2
    cases ri_int r3
    refine ⟨y, l.map oV, .int (v : Int), j, .int (v : Int), rfl, rfl, .inl (.inl (h2.ex _ _ (e2 _ _ h3))), rfl, ?_, ?_, ?_, fun m z' hm hz => ?_, q _ H2 P2 (e1.trans e2) h2 (.int _)⟩
    · rw [List.all_eq_true]
      intro w hw
      obtain ⟨o, _, rfl⟩ := List.mem_map.mp hw
      cases o <;> rfl
    · rw [List.getElem?_map, hj]
      rfl
    · show ((v : Int) == (v : Int)) = true
      simp
    · rw [List.getElem?_map] at hz
      cases hl : l[m]? with
      | none => rw [hl] at hz; cases hz
      | some o =>
        rw [hl] at hz
        have hz := Option.some.inj hz
        subst hz
        cases o with
        | none => rfl
        | some u =>
          show ((u : Int) == (v : Int)) = false
          have : u ≠ v := fun e => hf m hm (by rw [hl, e])
          simp
          omega)
/-- x = [a new list] -/
theorem sj_ownLL (n : Nat) {x : Str} {pos' lp : Pos} {is : List It} (hN : X.N.Nodup) (he : EL X N ρ M e is M1) (hr : ∀ q o, q ∉ N.F → o ∉ N.F → SJ X N (ρ.set n (some (.v (.ref o)))) (M1 ++ [(q, is)] ++ [(o, [.v (.ref q)])]) rest Z) (hi : X.N[n]? = some x := by rfl) (hx : Loc X.env.scope x := by first | exact .inl rfl | exact .inr rfl) (hs : swapsWith (.List [e] lp) (some (.Name x pos')) pos.line X.env = pure false := by rfl) (hf : X.fn x = true ∨ X.env.scope.names.lookup x = some .local := by first | exact .inl rfl | exact .inr rfl)
    (hst : starEach [e] X.env = (false, eval e X.env) :: starEach [] X.env := by rfl) :
    SJ X N ρ M (.Assign [.Name x pos'] (.List [e] lp) pos :: rest) Z := sj_cons fun σ H P hh g D E tk z =>
  s_of (ps_set (i := n) hN hi hx (pe_lst (pa_cons pe_w pa_nil hst)) hs hf) (he σ H P hh g _ fun p H1 P1 e1 hp h1 => ⟨(by show 1 ≤ sizeLine; decide), fun q hq => z.nx _ _ _ _ P1 (hr p q hp (h1.newF hq)) e1 (h1.own hq ⟨rfl, trivial⟩) ((g.ex e1).set (it := .v (.ref q)) rfl n)⟩)
theorem Holds.retype {P H : Hp} {its its' : List It} {o : Addr} (h : Holds N P H (M ++ [(o, its)])) (r : ∀ xs, RepIs P xs its → RepIs P xs its') : Holds N P H (M ++ [(o, its')]) := by
  have e : (M ++ [(o, its')]).map Prod.fst = (M ++ [(o, its)]).map Prod.fst := by simp
  refine { exw := h.exw, ex0 := h.ex0, fr := h.fr, nw := h.nw, mem := fun c hc => ?_, nd := by rw [e]; exact h.nd, mf := fun a ha => by rw [e]; exact h.mf a ha, fs := fun c hc => ?_, uf := h.uf, pf := h.pf }
  · rcases List.mem_append.mp hc with hc | hc
    · exact h.mem c (List.mem_append_left _ hc)
    · rw [List.mem_singleton.mp hc]
      obtain ⟨a, xs, b, d⟩ := h.mem (o, its) (List.mem_append_right _ (List.mem_singleton.mpr rfl))
      exact ⟨a, xs, b, r xs d⟩
  · rcases List.mem_append.mp hc with hc | hc
    · exact h.fs c (List.mem_append_left _ hc)
    · rw [List.mem_singleton.mp hc]
      exact h.fs (o, its) (List.mem_append_right _ (List.mem_singleton.mpr rfl))
/-- the only item of a list of one's own becomes data -/
theorem sj_freezeIn {q o : Addr} {ds : List PyData} {sts : List Stmt} (hq : q ∉ N.F) (hr : SJ X N ρ (M ++ [(o, [.d (.list ds)])]) sts Z) : SJ X N ρ (M ++ [(q, ds.map It.d)] ++ [(o, [.v (.ref q)])]) sts Z := fun σ H P hh g D E tk z => by
  obtain ⟨P', e, dn, h'⟩ := hh.freeze (a := q) (ds := ds) (by simp) hq
  have nd := hh.nd
  have ef : ((M ++ [(q, ds.map It.d)] ++ [(o, [It.v (.ref q)])]).filter fun c => decide (c.1 ≠ q)) = M ++ [(o, [.v (.ref q)])] := by
    simp only [List.map_append, List.map_cons, List.map_nil, List.append_assoc, List.nodup_append] at nd
    have n1 : ∀ c ∈ M, c.1 ≠ q := fun c hc => nd.2.2 c.1 (List.mem_map_of_mem hc) q (by simp)
    have n2 : q ≠ o := nd.2.1.2.2 q (by simp) o (by simp)
    rw [List.filter_append, List.filter_append]
    have f1 : M.filter (fun c => decide (c.1 ≠ q)) = M := by
      rw [List.filter_eq_self]
      intro c hc
      simpa using n1 c hc
    rw [f1]
    simp [n2.symm]
  rw [ef] at h'
  have h2 := h'.retype (its' := [.d (.list ds)]) fun xs hx => by
    match xs, hx with
    | [x], ⟨hx, _⟩ =>
      cases hx
      exact ⟨dn, trivial⟩
  exact hr σ H P' h2 (g.ex e) D E tk (z.ex e)
end
end Kt

/-! Kuc: lists of one's own within a list (comps of new lists, freezing them), sorted of data. -/
namespace Kt
open PySem PySem.Spec PyProof PyProof.Rows L2
def rowsM : List Addr → List (List It) → Mem
  | q :: qs, r :: rs => (q, r) :: rowsM qs rs
  | _, _ => []
def refsI (qs : List Addr) : List It := qs.map fun q => .v (.ref q)
theorem rowsM_snoc : ∀ {qs : List Addr} {rs : List (List It)} (q : Addr) (r : List It), qs.length = rs.length → rowsM (qs ++ [q]) (rs ++ [r]) = rowsM qs rs ++ [(q, r)]
  | [], [], _, _, _ => rfl
  | [], _ :: _, _, _, h => by simp at h
  | _ :: _, [], _, _, h => by simp at h
  | a :: qs, b :: rs, q, r, h => by
    show (a, b) :: rowsM (qs ++ [q]) (rs ++ [r]) = (a, b) :: (rowsM qs rs ++ [(q, r)])
    rw [rowsM_snoc q r (by simpa using h)]
section
variable {X : Cx} {N : Ent} {ρ : Rho} {M M1 M2 : Mem}
def LJL (X : Cx) (N : Ent) (ρ : Rho) (M : Mem) (te : TE) (rs : List (List It)) (M' : Mem) : Prop :=
  ∀ σ H P, Holds N P H M → Slots P σ ρ → ∀ Q : VK, (∀ qs p H' P', Ex P P' → qs.length = rs.length → (∀ q ∈ qs, q ∉ N.F) → p ∉ N.F → Holds N P' H' (M' ++ rowsM qs rs ++ [(p, refsI qs)]) → Q (.ref p) H') → te σ H Q
theorem sj_lcL (n : Nat) {te : TE} {rs : List (List It)} {st : Stmt} {Z : Post} {rest : List Stmt} (h : LJL X N ρ M te rs M1) (ps : PS X st (tAsg te (gName n)))
    (hr : ∀ qs p, qs.length = rs.length → (∀ q ∈ qs, q ∉ N.F) → p ∉ N.F → SJ X N (ρ.set n (some (.v (.ref p)))) (M1 ++ rowsM qs rs ++ [(p, refsI qs)]) rest Z) : SJ X N ρ M (st :: rest) Z := sj_cons fun σ H P hh g D E tk z =>
  s_of ps (h σ H P hh g _ fun qs p H1 P1 e1 l1 hq hp h1 => z.nx _ _ _ _ P1 (hr qs p l1 hq hp) e1 h1 ((g.ex e1).set (it := .v (.ref p)) rfl n))
theorem lj_compWL {scope : Scope} {elt : Expr} {ti : TI} (vs : List Nat) (tgt : TG) {ds : List PyData} (rs : List (List It))
    (hi : ∀ σ H P, Holds N P H M → Slots P σ ρ → ∀ R, (∀ J H1 P1, Ex P P1 → Holds N P1 H1 M1 → WalkQ anyM N P1 J ds → R J H1) → ti σ H R)
    (hl : rs.length = ds.length) (hz : ds.length ≤ 100000)
    (step : ∀ (m : Nat) d, ds[m]? = some d → ∃ ρ2 r, TgC N ρ vs tgt d ρ2 ∧ rs[m]? = some r ∧ ∀ N' s H C cl fp M, EL (X.blk s H scope (compEnvC scope cl C X.env) fp) N' ρ2 M elt r M)
    : LJL X N ρ M (tLc ti tgt tYes (wBE X scope elt) vs) rs M1 := fun σ H P hh g Q q => by
  refine hi σ H P hh g _ fun J H1 P1 e1 h1 W D hD => ?_
  have WK : Walk J ds.length (fun H => ∃ P' M', Holds N P' H M' ∧ Ex P1 P' ∧ anyM M') (fun i H x H' => i < ds.length ∧ ∀ P' M', Holds N P' H M' → Ex P1 P' → anyM M' → ∃ P'' d, ds[i]? = some d ∧ Ex P' P'' ∧ Holds N P'' H' M' ∧ RepI P'' x (.d d)) :=
    ⟨fun i H hi ⟨P', M', a, b, c⟩ => W.go i H P' M' hi a b c, fun H ⟨P', M', a, b, c⟩ => W.stop H P' M' a b c, fun i H x H' hi _ y => ⟨hi, fun P' M' a b c => W.yld i H x H' P' M' hi a b c y⟩⟩
  refine lc_it WK (fun m H' => ∃ P' qs, qs.length = m ∧ (∀ q ∈ qs, q ∉ N.F) ∧ Holds N P' H' (M1 ++ rowsM qs (rs.take m) ++ [(D, refsI qs)]) ∧ Ex P1 P') ⟨P1, [], rfl, fun _ h => absurd h List.not_mem_nil, by
    show Holds N P1 _ (M1 ++ [] ++ [(D, [])])
    rw [List.append_nil]
    exact h1.own hD (its := []) trivial, Ex.refl _⟩ (fun m H' _ ⟨P', qs, _, _, a, b⟩ => ⟨P', _, a, b, trivial⟩) (fun m x' H' H2 hn hw hy => ?_) (fun H' hw => ?_)
  · obtain ⟨P', qs, ql, qF, h2', e2'⟩ := hw
    obtain ⟨P2, d, ed, e3', h2, r3⟩ := hy.2 P' _ h2' e2' trivial
    have e2 := e2'.trans e3'
    obtain ⟨ρ2, r, G, er, S⟩ := step m d ed
    refine G x' σ H2 P2 _ h2 (g.ex (e1.trans e2)) r3 _ fun σ2 gs hw2 => ⟨hw2, ?_⟩
    unfold tYes
    dsimp only
    rw [if_pos rfl]
    intro s H0 C cl fp
    refine S (inner P2 H2 (M1 ++ rowsM qs (rs.take m))) s H0 C cl fp _ _ H2 P2 h2.enter gs _ fun y H4 P4 e4 hy4 h4 => ?_
    have h5 := h2.leave h4
    have hne : y ∉ N.F := fun hf => by
      have nd := h5.nd
      have m1 := h2.mf y hf
      rw [List.map_append, List.map_append] at nd
      rw [List.map_append] at m1
      rcases List.mem_append.mp m1 with k | k
      · have := (List.nodup_append.mp (List.nodup_append.mp nd).1).2.2 y k y (by simp)
        exact this rfl
      · have kD : y = D := by simpa using k
        have := (List.nodup_append.mp nd).2.2 y (by simp) D (by simp)
        exact this kD
    obtain ⟨acc, ea, ra⟩ := h5.cell (a := D) (its := refsI qs) (List.mem_append_right _ (List.mem_singleton.mpr rfl))
    refine ⟨acc, ea, by rw [ra.len]; unfold refsI; rw [List.length_map, ql]; exact Nat.lt_of_lt_of_le (Nat.lt_of_lt_of_le hn hz) (by decide), P4, qs ++ [y], by rw [List.length_append, ql]; rfl, ?_, ?_, e2.trans e4⟩
    · intro q hq
      rcases List.mem_append.mp hq with k | k
      · exact qF q k
      · rw [List.mem_singleton.mp k]
        exact hne
    · have h6 := h5.write (a := D) (its := refsI qs) (its' := refsI (qs ++ [y])) (List.mem_append_right _ (List.mem_singleton.mpr rfl)) (xs' := acc ++ [.ref y]) (by
        unfold refsI
        rw [List.map_append]
        exact ra.app ⟨rfl, trivial⟩)
      rw [put_last h5.nd, List.append_assoc M1] at h6
      have tl : rs.take (m + 1) = rs.take m ++ [r] := by rw [List.take_add_one, er]; rfl
      rw [tl, rowsM_snoc y r (by rw [ql, List.length_take]; omega)]
      exact h6
  · obtain ⟨P', qs, ql, qF, h2, e2⟩ := hw
    rw [List.take_of_length_le (by omega)] at h2
    exact q qs D H' P' (e1.trans e2) (by omega) qF (h1.newF hD) h2
/-- x = [new list for y in walk] -/
theorem sj_setW1L {rest : List Stmt} {Z : Post} {iter elt : Expr} {scope : Scope} {pos : Pos} (n' : Nat) {nm : Str} {py spos : Pos} {x : Str} {p : Pos} (n : Nat) {ds : List PyData} (rs : List (List It)) (hc : X.calm = true) (hN : X.N.Nodup) (hi : IW X N ρ M (.Name x p) iter ds M1)
    (hl : rs.length = ds.length) (hz : ds.length ≤ 100000)
    (step : ∀ (m : Nat) d, ds[m]? = some d → ∃ r, rs[m]? = some r ∧ ∀ N' s H C cl fp M, EL (X.blk s H scope (compEnvC scope cl C X.env) fp) N' (ρ.set n (some (.d d))) M elt r M)
    (hr : ∀ qs p, qs.length = rs.length → (∀ q ∈ qs, q ∉ N.F) → p ∉ N.F → SJ X N (ρ.set n' (some (.v (.ref p)))) (M1 ++ rowsM qs rs ++ [(p, refsI qs)]) rest Z)
    (hy : X.N[n']? = some nm := by rfl) (hyl : X.env.scope.names.lookup nm = some .local := by rfl)
    (hsw : swapsWith (.ListComp elt [⟨.Name x p, iter, [], 0⟩] scope pos) (some (.Name nm py)) spos.line X.env = pure true := by exact sw_true rfl rfl rfl (by kernel_rfl))
    (ok : BlkOk X.N X.env.scope scope [(x, n)] := by exact blkOk_by (by kernel_rfl))
    (hgn : ∀ (s : Shared) (H : Hp) (C : Addr) (cl : List (Str × Addr)) (fp : List Addr), PG (X.blk s H scope (compEnvC scope cl C X.env) fp) (.Name x p) (gName n) := by exact fun _ _ _ _ _ => pg_name (by assumption) rfl (Or.inl rfl))
    (hf : ∀ x, foldedSetIterable iter X.env x = pure x := by intro _; rfl) : SJ X N ρ M (.Assign [.Name nm py] (.ListComp elt [⟨.Name x p, iter, [], 0⟩] scope pos) spos :: rest) Z := by
  obtain ⟨ti, pi, hi⟩ := hi
  exact sj_lcL n' (lj_compWL [n] (gName n) rs hi hl hz fun m d hd => by obtain ⟨r, a, b⟩ := step m d hd; exact ⟨_, r, tgc1 n, a, b⟩) (ps_setLc (i := n') (y := nm) (py := py) (spos := spos) hc hN hy hyl hsw pi ok hgn (fun _ _ _ _ _ => pts_nil) (te := wBE X scope elt) (fun s H C cl fp => ⟨fun pins s1 σ1 H1 Q1 I1 h1 => h1 s H C cl fp pins s1 I1⟩) hf) hr
/-- the lists within become data -/
theorem RepIs.mid {P : Hp} {q : Addr} {ds : List PyData} (dn : Dn P (.ref q) (.list ds)) : ∀ {A B : List It} {xs : List V}, RepIs P xs (A ++ .v (.ref q) :: B) → RepIs P xs (A ++ .d (.list ds) :: B)
  | [], B, [], h => h.elim
  | [], B, x :: xs, h => ⟨by have := h.1; cases this; exact dn, h.2⟩
  | a :: A, B, [], h => h.elim
  | a :: A, B, x :: xs, h => ⟨h.1, RepIs.mid dn h.2⟩
theorem Holds.freezeRows {H : Hp} {o : Addr} : ∀ {qs : List Addr} {dss : List (List PyData)} (A : List It) {P : Hp}, qs.length = dss.length → (∀ q ∈ qs, q ∉ N.F) → Holds N P H (M ++ rowsM qs (dss.map fun ds => ds.map It.d) ++ [(o, A ++ refsI qs)]) →
    ∃ P', Ex P P' ∧ Holds N P' H (M ++ [(o, A ++ dss.map fun ds => It.d (.list ds))])
  | [], [], A, P, _, _, h => ⟨P, Ex.refl P, by
    have h : Holds N P H (M ++ [] ++ [(o, A ++ [])]) := h
    rw [List.append_nil] at h
    exact h⟩
  | [], _ :: _, _, _, hl, _, _ => by simp at hl
  | _ :: _, [], _, _, hl, _, _ => by simp at hl
  | q :: qs, ds :: dss, A, P, hl, hq, h => by
    have h : Holds N P H (M ++ (q, ds.map It.d) :: rowsM qs (dss.map fun ds => ds.map It.d) ++ [(o, A ++ .v (.ref q) :: refsI qs)]) := h
    obtain ⟨P', e, dn, h'⟩ := h.freeze (a := q) (ds := ds) (by simp) (hq q List.mem_cons_self)
    have nd := h.nd
    have ef : ((M ++ (q, ds.map It.d) :: rowsM qs (dss.map fun ds => ds.map It.d) ++ [(o, A ++ .v (.ref q) :: refsI qs)]).filter fun c => decide (c.1 ≠ q)) = M ++ rowsM qs (dss.map fun ds => ds.map It.d) ++ [(o, A ++ .v (.ref q) :: refsI qs)] := by
      rw [List.append_assoc, List.cons_append, List.map_append, List.map_cons, List.nodup_append] at nd
      have n1 : ∀ c ∈ M, c.1 ≠ q := fun c hc => nd.2.2 c.1 (List.mem_map_of_mem hc) q (by simp)
      have n2 := (List.nodup_cons.mp nd.2.1).1
      rw [List.append_assoc, List.cons_append, List.filter_append, List.filter_cons_of_neg (by simp)]
      have f1 : M.filter (fun c => decide (c.1 ≠ q)) = M := by
        rw [List.filter_eq_self]
        intro c hc
        simpa using n1 c hc
      rw [f1, List.append_assoc]
      congr 1
      rw [List.filter_eq_self]
      intro c hc
      have : c.1 ≠ q := fun e => n2 (by have k := List.mem_map_of_mem (f := Prod.fst) hc; rw [e] at k; exact k)
      simpa using this
    rw [ef] at h'
    have h2 := h'.retype (its' := A ++ .d (.list ds) :: refsI qs) fun xs hx => RepIs.mid dn hx
    obtain ⟨P2, e2, h3⟩ := Holds.freezeRows (A ++ [.d (.list ds)]) (qs := qs) (dss := dss) (by simpa using hl) (fun q' hq' => hq q' (List.mem_cons_of_mem _ hq')) (by rw [List.append_assoc A]; exact h2)
    refine ⟨P2, e.trans e2, ?_⟩
    rw [List.append_assoc A] at h3
    exact h3
theorem sj_freezeRows {qs : List Addr} {o : Addr} {dss : List (List PyData)} {sts : List Stmt} {Z : Post} (hl : qs.length = dss.length) (hq : ∀ q ∈ qs, q ∉ N.F) (hr : SJ X N ρ (M ++ [(o, (dss.map .list).map It.d)]) sts Z) : SJ X N ρ (M ++ rowsM qs (dss.map fun ds => ds.map It.d) ++ [(o, refsI qs)]) sts Z := fun σ H P hh g D E tk z => by
  obtain ⟨P', e, h'⟩ := Holds.freezeRows (N := N) (M := M) [] hl hq hh
  have h' : Holds N P' H (M ++ [(o, dss.map fun ds => It.d (.list ds))]) := h'
  rw [show (dss.map fun ds => It.d (.list ds)) = (dss.map PyData.list).map It.d by rw [List.map_map]; rfl] at h'
  exact hr σ H P' h' (g.ex e) D E tk (z.ex e)
end
end Kt

/-! Kud: sorted of data of one kind. -/
namespace Kt
open PySem PySem.Spec PyProof PyProof.Rows L2
mutual
theorem dn_reads {P : Program} {w : World} {H : Hp} {h : Heap} (hok : HOk P w H h) : ∀ (d : PyData) (v : V) (u : Value), noDict d = true → Dn H v d → RelV v u → ∃ as, Reads h u d as
  | .none, _, u, _, hd, r => by
    cases hd
    cases (show u = Value.none from r)
    exact ⟨[], .none⟩
  | .bool b, _, u, _, hd, r => by
    cases hd
    cases (show u = Value.bool b from r)
    exact ⟨[], .bool b⟩
  | .int i, _, u, _, hd, r => by
    cases hd
    obtain ⟨t, rfl⟩ := (show ∃ t, u = Value.int i t from r)
    exact ⟨[], .int i t⟩
  | .str x, _, u, _, hd, r => by
    cases hd
    obtain ⟨t, rfl⟩ := (show ∃ t, u = Value.str x t from r)
    exact ⟨[], .str x t⟩
  | .list ds, _, u, n, hd, r => by
    cases hd with
    | @lst a xs _ hs ha =>
      cases (show u = Value.ref a from r)
      obtain ⟨_, its, m, rv, e⟩ := (show ObjOk P w H h a (.lst xs) from hok a _ hs)
      obtain ⟨as, ra⟩ := dn_readsAll hok ds xs its n ha rv
      exact ⟨_, .list e rfl rfl (by simpa using ra)⟩
  | .tuple ds, _, u, n, hd, r => by
    cases hd with
    | @tup a xs _ hs ha =>
      cases (show u = Value.ref a from r)
      obtain ⟨_, its, rv, o, h1, h2, m, h3⟩ := (show ObjOk P w H h a (.tup xs) from hok a _ hs)
      obtain ⟨as, ra⟩ := dn_readsAll hok ds xs its n ha rv
      exact ⟨_, .tuple h1 h2 h3 (by simpa using ra)⟩
  | .dict es, _, u, n, _, _ => by cases n
theorem dn_readsAll {P : Program} {w : World} {H : Hp} {h : Heap} (hok : HOk P w H h) : ∀ (ds : List PyData) (vs : List V) (us : List Value), noDicts ds = true → DnAll H vs ds → Vals vs us → ∃ as, ReadsAll h us ds as
  | [], _, us, _, hd, r => by
    cases hd
    cases r
    exact ⟨[], .nil⟩
  | d :: ds, _, us, n, hd, r => by
    cases hd with
    | cons h1 h2 =>
      cases r with
      | cons r1 r2 =>
        have n := Bool.and_eq_true_iff.mp n
        obtain ⟨as, a⟩ := dn_reads hok d _ _ n.1 h1 r1
        obtain ⟨bs, b⟩ := dn_readsAll hok ds _ _ n.2 h2 r2
        exact ⟨_, .cons a b⟩
end
def srtD (ds : List PyData) : List PyData := ds.mergeSort (PySem.W.dataLe false id)
def rSortedD (K : PySem.W.Frag) : List V → Hp → VK → Prop := fun vs H Q => ∃ (a : Addr) (xs : List V) (ds : List PyData) (P : Hp), vs = [.ref a] ∧ SqL K H a xs ∧ ExW P H ∧ DnAll P xs ds ∧ noDicts ds = true ∧ PySem.W.AllAlike ds ∧ PySem.W.Sortable ds ∧ (∀ d ∈ ds, d.depth ≤ 60) ∧
  ∀ ys p, DnAll P ys (srtD ds) → H p = none → Q (.ref p) (upd H p (.lst ys))
theorem each_of {X : Cx} {P H : Hp} {h : Heap} (hok : HOk X.prog X.w H h) (e : ExW P H) : ∀ {xs : List V} {its : List Value} {ds : List PyData}, noDicts ds = true → DnAll P xs ds → Vals xs its →
    PySem.W.EachIs (fun (v : Value) (b : V × PyData) => RelV b.1 v ∧ Dn P b.1 b.2) its (xs.zip ds) ∧ PySem.W.EachIs (fun (v : Value) (b : V × PyData) => ∃ as, Reads h v b.2 as) its (xs.zip ds)
  | [], _, _, _, hd, r => by
    cases r
    exact ⟨.nil, .nil⟩
  | x :: xs, _, _, n, hd, r => by
    cases hd with
    | cons h1 h2 =>
      cases r with
      | cons r1 r2 =>
        have n := Bool.and_eq_true_iff.mp n
        have ih := each_of hok e n.2 h2 r2
        exact ⟨.cons ⟨r1, h1⟩ ih.1, .cons (dn_reads hok _ _ _ n.1 (dnw_ex e _ _ h1) r1) ih.2⟩
theorem each_back {H : Hp} : ∀ {out : List Value} {bs : List (V × PyData)}, PySem.W.EachIs (fun (v : Value) (b : V × PyData) => RelV b.1 v ∧ Dn H b.1 b.2) out bs → Vals (bs.map Prod.fst) out ∧ DnAll H (bs.map Prod.fst) (bs.map Prod.snd)
  | _, _, .nil => ⟨.nil, .nil⟩
  | _, _, .cons a b => ⟨.cons a.1 (each_back b).1, .cons a.2 (each_back b).2⟩
theorem cr_sortedD {X : Cx} (hu : X.A.units + 64 < cLine) : CallR X (.builtin "sorted") (rSortedD X.K) := by
  intro pins s σ H vs us Q I r h
  obtain ⟨a, xs, ds, P, rfl, hs, hP, hd, hn, hal, hk, hdp, q⟩ := h
  obtain ⟨its, rv, hl, hz⟩ := I.list hs
  obtain ⟨u, rfl, ru⟩ := vals1 r
  obtain rfl : u = Value.ref a := ru
  have ll := dnAll_len hd
  have em : (xs.zip ds).map Prod.snd = ds := List.map_snd_zip (by omega)
  obtain ⟨e1, e2⟩ := each_of (X := X) I.hok hP hn hd rv
  refine PySem.W.sorted_data (R := fun (v : Value) (b : V × PyData) => RelV b.1 v ∧ Dn P b.1 b.2) (enc := Prod.snd) (bs := xs.zip ds) hl.isList e1 e2 (by rw [em]; exact hal) (by rw [em]; exact hk) (by rw [List.length_zip]; omega) (fun b hb => ?_) fun out lo eo => ?_
  · have := hdp b.2 (List.of_mem_zip hb).2
    omega
  · obtain ⟨v1, d1⟩ := each_back eo
    have es : ((xs.zip ds).mergeSort (PySem.W.dataLe false Prod.snd)).map Prod.snd = srtD ds := by
      unfold srtD
      have mm := List.map_mergeSort (r := PySem.W.dataLe false Prod.snd) (s := PySem.W.dataLe false id) (f := Prod.snd) (l := xs.zip ds) (fun _ _ _ _ => rfl)
      rw [mm, em]
    rw [es] at d1
    obtain ⟨n, hnn⟩ := sortedAll_at s.heap its out.toArray
    refine ⟨.ref (s.heap.objs.size + 1), upd H (s.heap.objs.size + 1) (.lst _), I.laid (t' := s.toks) (fun b o e => sortedAll_old e) (Nat.le_succ _) ⟨?_, out, n, v1, hnn⟩, rfl, q _ _ d1 (I.hok.fresh (Nat.le_succ _))⟩
    rw [List.length_map, List.length_mergeSort, List.length_zip]
    omega
theorem srtD_perm (ds : List PyData) : (srtD ds).Perm ds := List.mergeSort_perm _ _
section
variable {X : Cx} {N : Ent} {ρ : Rho} {M M1 : Mem} {a : Expr}
theorem el_sorted {p q : Pos} {ds : List PyData} (hu : X.A.units + 64 < cLine) (hm : X.mg "sorted" = none) (ha : EJ X N ρ M a (.d (.list ds)) M1) (hn : noDicts ds = true) (hal : PySem.W.AllAlike ds) (hk : PySem.W.Sortable ds) (hdp : ∀ d ∈ ds, d.depth ≤ 60)
    (hg : Gl X "sorted" := by rfl) (he : starEach [a] X.env = [(false, eval a X.env)] := by rfl) (hpl : (backTo q (starEach ([] : List Expr) X.env)).any (·.1) = false := by rfl) :
    EL X N ρ M (.Call (.Name "sorted" p) [a] [] q) ((srtD ds).map It.d) M1 := fun σ H P hh g Q k =>
  e_of (pe_callB (cr_sortedD hu) hg hm (by decide +kernel) pa_w (by decide) (by decide) he hpl) (aj_cons ha aj_nil he σ H P hh g _ fun vs H1 P1 e1 h1 r1 => by
    obtain ⟨x, rfl, r2⟩ := ri1 r1
    obtain ⟨y, ys, rfl, h3, h4⟩ := ri_lst r2
    exact ⟨y, ys, ds, P1, rfl, .inl (.inl (h1.ex _ _ h3)), h1.exw, h4, hn, hal, hk, hdp, fun zs l hz hl => k l _ P1 e1 (h1.newF hl) (h1.own hl (RepIs.of_all hz))⟩)
end
end Kt

/-! Kue: instances of own classes: their fields, their methods, how they are made. -/
namespace Kt
open PySem PySem.Spec PyProof PyProof.Rows L2
abbrev Flds := List (Str × PyData)
/-- at a stands an instance of C with these fields -/
def InsP (C a : Addr) (fs : Flds) (P : Hp) : Prop := ∃ dx vs, P a = some (.ins C dx vs) ∧ vs.map Prod.fst = fs.map Prod.fst ∧ DnAll P (vs.map Prod.snd) (fs.map Prod.snd)
theorem InsP.ex {C a : Addr} {fs : Flds} : ∀ P P', Ex P P' → InsP C a fs P → InsP C a fs P' := fun P P' e ⟨dx, vs, h1, h2, h3⟩ => ⟨dx, vs, e _ _ h1, h2, dnAll_ex e _ _ h3⟩
def insI (C a : Addr) (fs : Flds) : It := .m (.ref a) (InsP C a fs) InsP.ex
theorem lookup_ins {P : Hp} {f : Str} {d : PyData} : ∀ {vs : List (Str × V)} {fs : Flds}, vs.map Prod.fst = fs.map Prod.fst → DnAll P (vs.map Prod.snd) (fs.map Prod.snd) → fs.lookup f = some d → ∃ v, vs.lookup f = some v ∧ Dn P v d
  | [], [], _, _, h => by cases h
  | [], _ :: _, h, _, _ => by cases h
  | _ :: _, [], h, _, _ => by cases h
  | (k, v) :: vs, (k', d') :: fs, h1, h2, h => by
    cases h2 with
    | cons a b =>
      injection h1 with e1 e2
      have e1 : k = k' := e1
      subst e1
      rw [List.lookup_cons] at h ⊢
      cases q : f == k with
      | true =>
        rw [q] at h
        cases h
        exact ⟨v, rfl, a⟩
      | false =>
        rw [q] at h
        exact lookup_ins e2 b h
theorem lookup_no {f : Str} : ∀ {vs : List (Str × V)} {fs : Flds}, vs.map Prod.fst = fs.map Prod.fst → fs.lookup f = none → vs.lookup f = none
  | [], _, _, _ => rfl
  | _ :: _, [], h, _ => by cases h
  | (k, v) :: vs, (k', d') :: fs, h1, h => by
    injection h1 with e1 e2
    have e1 : k = k' := e1
    subst e1
    rw [List.lookup_cons] at h ⊢
    cases q : f == k with
    | true => rw [q] at h; cases h
    | false =>
      rw [q] at h
      exact lookup_no e2 h
section
variable {X : Cx} {N : Ent} {ρ ρ' : Rho} {M M1 M2 M3 Mc Mr Mc' : Mem} {a b c e o : Expr} {i j k : It} {pos apos : Pos}
/-- o.f -/
theorem ej_fld {Cl x : Addr} {fs : Flds} {f : Str} {d : PyData} (he : EJ X N ρ M e (insI Cl x fs) M1) (c : Cls X.K Cl) (n : NoAttr X.K Cl f) (l : fs.lookup f = some d) (hb : attributeBase e f X.env (eval e X.env) = eval e X.env := by rfl) :
    EJ X N ρ M (.Attribute e f pos) (.d d) M1 := fun σ H P hh g Q q =>
  e_of (pe_fld pe_w hb) (he σ H P hh g _ fun u H1 P1 e1 h1 r1 => by
    obtain ⟨rfl, dx, vs, hp, k1, k2⟩ := r1
    obtain ⟨v, lv, dv⟩ := lookup_ins k1 k2 l
    exact ⟨x, Cl, dx, vs, v, rfl, h1.ex _ _ hp, c, n, lv, q v H1 P1 e1 h1 dv⟩)
end
/-- a def at an address -/
structure Hold (P : Program) (w : World) (K : PySem.W.Frag) (mg : Str → Option Value) (base : Heap) (f : Addr) (k : Nat) (C : Co) : Prop where
  ex : ∃ fd ps, FnOk P w K mg base CX0 k f fd ps (spC C) ∧ PySem.W.keepIn K (.ref f) = true ∧ Binds K fd ps []
theorem hold_ok {P : Program} {w : World} {K : PySem.W.Frag} {mg : Str → Option Value} {base : Heap} {x qual : Str} {st : Stmt} {f : Addr} {fd : FuncData} {NN ps : List Str} {l : Nat} {C : Co} (F : Fun K x qual st f fd) (S : FnScope NN ps (defScope st))
    (hb : Binds K fd ps []) (len : ∀ is M i M', C is M i M' → is.length = ps.length ∧ M'.map Prod.fst = M.map Prod.fst)
    (body : ∀ X : Cx, (∃ cdv A outer s H E, X = (cxOf CX0 P w K mg base NN qual (defScope st) f cdv A outer s H E).nox ∧ Room l X.A) → ∀ N is M i M', N.F = M.map Prod.fst → C is M i M' → SJ X N (rho NN is) M (defBody st) (retZ i M')) : Hold P w K mg base f (l + 1) C := by
  refine ⟨fd, ps, F.ok S (fun vs H Q E h => ?_) (fun cdv A outer s H vs Q E hr h => ?_), F.kp, hb⟩
  · obtain ⟨P0, is, M, i, M', _, r, hC, _⟩ := h
    rw [r.len]
    exact (len _ _ _ _ hC).1
  · obtain ⟨P0, is, M, i, M', h0, r, hC, q⟩ := h
    have back : ∀ {P' H' M'' L}, M'' = M' ++ L → Holds (inner P0 H M) P' H' M'' → Holds (inner P0 H M) P' H' M' := fun {P' H' M'' L} e hh => by
      subst e
      refine hh.sub (fun c hc => List.mem_append_left _ hc) ?_ fun a ha => ?_
      · have := hh.nd
        rw [List.map_append] at this
        exact (List.nodup_append.mp this).1
      · rw [(len _ _ _ _ hC).2]
        exact ha
    refine ⟨_, pss_w, ?_⟩
    have es : L2.start NN vs = vs.map some ++ List.replicate (NN.length - is.length) none := by
      unfold L2.start
      rw [r.len]
    rw [es]
    refine body _ ⟨cdv, A, outer, s, H, E, rfl, hr⟩ (inner P0 H M) is M i M' rfl hC _ H P0 h0 (slots_start _ r) _ E0 takes0 ⟨fun ρ' M'' σ' H' P' a e hh g => ?_, fun i' M'' v H' P' a e hh rr => ?_, fun _ _ _ _ _ a => a.elim, fun _ _ _ _ _ a => a.elim, fun _ _ _ _ _ _ _ a => a.elim⟩
    · obtain ⟨rfl, L, eL⟩ := a
      exact q _ H' P' (back eL hh) .non
    · obtain ⟨rfl, L, eL⟩ := a
      exact q _ H' P' (back eL hh) rr
section
variable {X : Cx} {N : Ent} {ρ ρ' : Rho} {M M1 M2 M3 Mc Mr Mc' : Mem} {a b c e o : Expr} {i j k : It} {pos apos : Pos}
/-- o.m(e, ..) -/
theorem ej_meth {pl : Sem Bool} {Cl x f : Addr} {fs : Flds} {m : Str} {l : Nat} {C : Co} {es : List Expr} {is : List It} (F : Hold X.prog X.w X.K X.mg X.base f l C) (hr : Room l X.A) (cl : Cls X.K Cl) (hm : Meth X.K Cl m f) (ho : EJ X N ρ M o (insI Cl x fs) M1) (hl : fs.lookup m = none) (ha : AJ X N ρ M1 (e :: es) is M2) (hM : M2 = Mc ++ Mr) (hC : C (insI Cl x fs :: is) Mc i Mc') (hM2 : M3 = Mc' ++ Mr)
    (hst : starEach (e :: es) X.env = (false, eval e X.env) :: starEach es X.env := by rfl) (hpl : (backTo pos (starEach es X.env)).any (·.1) = false := by rfl)
    (ht : eval (.Call (.Attribute o m apos) (e :: es) [] pos) X.env = (do
      let ov ← eval o X.env
      standAt apos.atName
      let (f, first) ← holding [ov] (getMethod ov m pl)
      callWith pos f first (backTo pos (starEach (e :: es) X.env)) (backToKw pos (keywordEach [] X.env))) := by rfl) :
    EJ X N ρ M (.Call (.Attribute o m apos) (e :: es) [] pos) i M3 := fun σ H P hh g Q q => by
  obtain ⟨fd, ps, F1, hk, hb⟩ := F.ex
  refine e_of (pe_meth (pl := pl) pe_w cl hm F1 hr hb .nil pass0 pa_w hst hpl ht) (ho σ H P hh g _ fun u H1 P1 e1 h1 r1 => ?_)
  obtain ⟨rfl, dx, vs, hp, k1, k2⟩ := r1
  refine ⟨x, dx, vs, rfl, h1.ex _ _ hp, lookup_no k1 hl, ha σ H1 P1 h1 (g.ex e1) _ fun ws H2 P2 e2 h2 r2 => ?_⟩
  subst hM hM2
  refine ⟨P2, insI Cl x fs :: is, Mc, i, Mc', h2.enter, ?_, hC, fun v H' P' h' r' => q v H' P' ((e1.trans e2).trans h'.ex0) (h2.leave h') r'⟩
  rw [List.append_nil]
  exact ⟨⟨rfl, InsP.ex _ _ e2 ⟨dx, vs, hp, k1, k2⟩⟩, r2⟩
end
end Kt

/-! Kuf: an instance under construction: the statements of __init__. -/
namespace Kt
open PySem PySem.Spec PyProof PyProof.Rows L2
structure OOk (N : Ent) (P H : Hp) (M : Mem) (x C dx : Addr) (fs : Flds) : Prop where
  px : P x = none
  pd : P dx = none
  nx : N.H0 x = none
  nd : N.H0 dx = none
  mx : x ∉ M.map Prod.fst
  md : dx ∉ M.map Prod.fst
  ob : ∃ vs, H x = some (.ins C dx vs) ∧ vs.map Prod.fst = fs.map Prod.fst ∧ DnAll P (vs.map Prod.snd) (fs.map Prod.snd)
  od : H dx = some (.own x)
  ne : dx ≠ x
/-- what an inner point knows of it -/
def KnO (N : Ent) (x C dx : Addr) (fs : Flds) : Prop := x ∉ N.F ∧ ∃ vs, N.H0 x = some (.ins C dx vs) ∧ vs.map Prod.fst = fs.map Prod.fst ∧ DnAll N.P0 (vs.map Prod.snd) (fs.map Prod.snd)
section
variable {N : Ent} {P P' H H' : Hp} {M M' : Mem} {x C dx : Addr} {fs : Flds}
theorem OOk.kn (d : OOk N P H M x C dx fs) : KnO (inner P H M) x C dx fs := ⟨d.mx, d.ob⟩
theorem enter2 (h : Holds N P H M) : Holds (inner P H M) P H M := Holds.enter (Mr := []) (by rw [List.append_nil]; exact h)
theorem leave2 (h : Holds N P H M) (h' : Holds (inner P H M) P' H' M') : Holds N P' H' M' := by
  have := Holds.leave (Mr := []) (by rw [List.append_nil]; exact h) h'
  rw [List.append_nil] at this
  exact this
theorem away {a : Addr} {o : HO} (e : H a = some o) (pn : P a = none) (mn : a ∉ M.map Prod.fst) (h' : Holds (inner P H M) P' H' M') : P' a = none ∧ a ∉ M'.map Prod.fst ∧ H' a = some o := by
  refine ⟨?_, fun q => ?_, h'.fr a _ e mn⟩
  · cases q : P' a with
    | none => rfl
    | some u =>
      have := h'.nw a pn (by rw [q]; exact Option.some_ne_none u)
      rw [show (inner P H M).H0 = H from rfl, e] at this
      cases this
  · obtain ⟨c2, hc2, e2⟩ := List.mem_map.mp q
    rcases h'.fs c2 hc2 with k | k
    · exact mn (e2 ▸ k)
    · rw [show (inner P H M).H0 = H from rfl, e2, e] at k
      cases k
theorem OOk.leave (d : OOk N P H M x C dx fs) (h' : Holds (inner P H M) P' H' M') : OOk N P' H' M' x C dx fs := by
  obtain ⟨vs, e, k1, k2⟩ := d.ob
  obtain ⟨a1, a2, a3⟩ := away e d.px d.mx h'
  obtain ⟨b1, b2, b3⟩ := away d.od d.pd d.md h'
  exact ⟨a1, b1, d.nx, d.nd, a2, b2, ⟨vs, a3, k1, dnAll_ex h'.ex0 _ _ k2⟩, b3, d.ne⟩
/-- a field is set -/
theorem putF_new {f : Str} {v : V} : ∀ {vs : List (Str × V)}, vs.lookup f = none → putF f v vs = vs ++ [(f, v)]
  | [], _ => rfl
  | (k, y) :: r, h => by
    rw [List.lookup_cons] at h
    have hk : k ≠ f := fun e => by
      subst e
      rw [beq_self_eq_true] at h
      cases h
    have hb : (f == k) = false := beq_eq_false_iff_ne.mpr fun e => hk e.symm
    rw [hb] at h
    rw [show putF f v ((k, y) :: r) = (if k = f then (k, v) :: r else (k, y) :: putF f v r) from rfl, if_neg hk, putF_new h]
    rfl
theorem Holds.oput (h : Holds N P H M) (d : OOk N P H M x C dx fs) {o : HO} (nf : ∀ od kvs, o ≠ .frz od (.dK kvs) := by intro _ _ h; cases h) : Holds N P (upd H x o) M := by
  refine ⟨fun a u e => ?_, h.ex0, fun b u e f => ?_, h.nw, fun c hc => ?_, h.nd, h.mf, h.fs, h.ufu nf, h.pf⟩
  · rw [upd_ne (ne_of_none e d.px)]
    exact h.exw a u e
  · rw [upd_ne (ne_of_none e d.nx)]
    exact h.fr b u e f
  · obtain ⟨a1, xs, a2, a3⟩ := h.mem c hc
    refine ⟨a1, xs, ?_, a3⟩
    rw [upd_ne fun e => d.mx (List.mem_map.mpr ⟨c, hc, e⟩)]
    exact a2
theorem OOk.put (d : OOk N P H M x C dx fs) {vs : List (Str × V)} {f : Str} {v : V} {y : PyData} (k1 : vs.map Prod.fst = fs.map Prod.fst) (k2 : DnAll P (vs.map Prod.snd) (fs.map Prod.snd)) (r : Dn P v y) (l : fs.lookup f = none) :
    OOk N P (upd H x (.ins C dx (putF f v vs))) M x C dx (fs ++ [(f, y)]) := by
  refine ⟨d.px, d.pd, d.nx, d.nd, d.mx, d.md, ⟨vs ++ [(f, v)], by rw [upd_same, putF_new (lookup_no k1 l)], ?_, ?_⟩, by rw [upd_ne d.ne]; exact d.od, d.ne⟩
  · rw [List.map_append, List.map_append, k1]
    rfl
  · rw [List.map_append, List.map_append]
    exact k2.app (.cons r .nil)
/-- it becomes persistent -/
theorem Holds.ofreeze (h : Holds N P H M) (d : OOk N P H M x C dx fs) : ∃ P', Ex P P' ∧ InsP C x fs P' ∧ Holds N P' H M := by
  obtain ⟨vs, e, k1, k2⟩ := d.ob
  have q : Ex P (upd P x (.ins C dx vs)) := Ex.new d.px
  refine ⟨upd P x (.ins C dx vs), q, ⟨dx, vs, upd_same, k1, dnAll_ex q _ _ k2⟩, ⟨fun b u z => ?_, h.ex0.trans q, h.fr, fun b z f => ?_, fun c hc => ?_, h.nd, h.mf, h.fs, h.uf, h.pf.new (o := .ins C dx vs) (fun _ _ h => by cases h)⟩⟩
  · by_cases eb : b = x
    · subst eb
      rw [upd_same] at z
      rw [← z]
      exact .inl e
    · rw [upd_ne eb] at z
      exact h.exw b u z
  · by_cases eb : b = x
    · subst eb
      exact d.nx
    · rw [upd_ne eb] at f
      exact h.nw b z f
  · obtain ⟨a1, ys, a2, a3⟩ := h.mem c hc
    have ne : c.1 ≠ x := fun e => d.mx (List.mem_map.mpr ⟨c, hc, e⟩)
    exact ⟨by rw [upd_ne ne]; exact a1, ys, a2, a3.ex q⟩
end
section
variable {X : Cx} {N : Ent} {ρ ρ' : Rho} {M M1 M2 M3 : Mem} {a b c e o : Expr} {i j k : It} {pos apos : Pos} {x C dx : Addr} {fs : Flds} {rest : List Stmt} {Zn : Rho → Mem → Flds → Prop} {Ze : Str → Mem → Prop}
structure ZO (mg : Str → Option Value) (N : Ent) (P : Hp) (x C dx : Addr) (Zn : Rho → Mem → Flds → Prop) (Ze : Str → Mem → Prop) (D : Ends) (E : XK) : Prop where
  nx : ∀ ρ' M' fs' σ' H' P', Zn ρ' M' fs' → Ex P P' → Holds N P' H' M' → OOk N P' H' M' x C dx fs' → Slots P' σ' ρ' → D.nx σ' H'
  er : ∀ z M' d H' P' Cs, mg "ShapeError" = some (.ref Cs) → Ze z M' → Ex P P' → Holds N P' H' M' → H' d = some (XD z) → E (.ref Cs) (some d) H'
theorem ZO.ex {mg : Str → Option Value} {P P' : Hp} {D : Ends} {E : XK} (e : Ex P P') (z : ZO mg N P x C dx Zn Ze D E) : ZO mg N P' x C dx Zn Ze D E :=
  ⟨fun ρ' M' fs' σ' H' P'' a b => z.nx ρ' M' fs' σ' H' P'' a (e.trans b), fun w M' d H' P'' Cs c a b => z.er w M' d H' P'' Cs c a (e.trans b)⟩
def BJ (X : Cx) (N : Ent) (ρ : Rho) (M : Mem) (x C dx : Addr) (fs : Flds) (sts : List Stmt) (Zn : Rho → Mem → Flds → Prop) (Ze : Str → Mem → Prop) : Prop :=
  ∀ σ H P, Holds N P H M → OOk N P H M x C dx fs → Slots P σ ρ → ∀ (D : Ends) (E : XK), Takes X (fun c d _ H => E c d H) → ZO X.mg N P x C dx Zn Ze D E → wSs X sts D σ H
theorem bj_nil (h : Zn ρ M fs) : BJ X N ρ M x C dx fs [] Zn Ze := fun σ H P hh d g D E tk z => ss_of pss_nil (z.nx ρ M fs σ H P h (Ex.refl P) hh d g)
theorem bj_cons {st : Stmt} (h : ∀ σ H P, Holds N P H M → OOk N P H M x C dx fs → Slots P σ ρ → ∀ (D : Ends) (E : XK), Takes X (fun c d _ H => E c d H) → ZO X.mg N P x C dx (fun ρ' M' fs' => BJ X N ρ' M' x C dx fs' rest Zn Ze) Ze D E → wS X st D σ H) : BJ X N ρ M x C dx fs (st :: rest) Zn Ze := fun σ H P hh d g D E tk z =>
  ss_of (pss_cons ps_w pss_w) (h σ H P hh d g _ E tk ⟨fun ρ' M' fs' σ' H' P' a e hh' d' g' => a σ' H' P' hh' d' g' D E tk (z.ex e), z.er⟩)
/-- statements that change nothing of it, by their own rules at an inner point -/
theorem bj_sj {sts : List Stmt} (h : ∀ N', KnO N' x C dx fs → SJ X N' ρ M sts { nx := fun ρ' M' => Zn ρ' M' fs, rt := fun _ _ => False, er := Ze }) : BJ X N ρ M x C dx fs sts Zn Ze := fun σ H P hh d g D E tk z =>
  h (inner P H M) d.kn σ H P (enter2 hh) g D E tk ⟨fun ρ' M' σ' H' P' a e h' g' => z.nx ρ' M' fs σ' H' P' a e (leave2 hh h') (d.leave h') g', fun _ _ _ _ _ a => a.elim, fun _ _ _ _ _ a => a.elim, fun _ _ _ _ _ a => a.elim, fun w M' dd H' P' Cs c a e h' q => z.er w M' dd H' P' Cs c a e (leave2 hh h') q⟩
theorem bj_if {A B : List Stmt} {t : Bool} (hc : ∀ N', KnO N' x C dx fs → TJ X N' ρ M c t M1) (h1 : t = true → BJ X N ρ M1 x C dx fs A (fun ρ' M' fs' => BJ X N ρ' M' x C dx fs' rest Zn Ze) Ze) (h2 : t = false → BJ X N ρ M1 x C dx fs B (fun ρ' M' fs' => BJ X N ρ' M' x C dx fs' rest Zn Ze) Ze) : BJ X N ρ M x C dx fs (.If c A B pos :: rest) Zn Ze := bj_cons fun σ H P hh d g D E tk z =>
  s_of (ps_if pt_w pss_w pss_w) (hc _ d.kn σ H P (enter2 hh) g _ fun H1 P1 e1 h1' => by
    have hh1 := leave2 hh h1'
    have d1 := d.leave h1'
    cases t with
    | true => exact iteT (h1 rfl σ H1 P1 hh1 d1 (g.ex e1) D E tk (z.ex e1))
    | false => exact iteF (h2 rfl σ H1 P1 hh1 d1 (g.ex e1) D E tk (z.ex e1)))
/-- self.f = e -/
theorem bj_fld {f : Str} {y : PyData} {apos : Pos} (cl : Cls X.K C) (na : NoAttr X.K C f) (lf : fs.lookup f = none) (hz : fs.length < 1000) (he : ∀ N', KnO N' x C dx fs → EJ X N' ρ M e (.d y) M1) (ho : ∀ N', KnO N' x C dx fs → EJ X N' ρ M1 o (.v (.ref x)) M2)
    (hr : BJ X N ρ M2 x C dx (fs ++ [(f, y)]) rest Zn Ze) (hs : swapsWith e (some (.Attribute o f apos)) pos.line X.env = pure false := by rfl) : BJ X N ρ M x C dx fs (.Assign [.Attribute o f apos] e pos :: rest) Zn Ze := bj_cons fun σ H P hh d g D E tk z => by
  refine s_of (ps_fld pe_w pe_w hs) (he _ d.kn σ H P (enter2 hh) g _ fun v1 H1 P1 e1 h1 r1 => ?_)
  have hh1 := leave2 hh h1
  have d1 := d.leave h1
  refine ho _ d1.kn σ H1 P1 (enter2 hh1) (g.ex e1) _ fun v2 H2 P2 e2 h2 r2 => ?_
  have hh2 := leave2 hh1 h2
  have d2 := d1.leave h2
  cases (show v2 = .ref x from r2)
  obtain ⟨vs, ex, k1, k2⟩ := d2.ob
  refine ⟨x, C, dx, vs, rfl, ex, cl, na, ?_, ?_⟩
  · have := congrArg List.length k1
    rw [List.length_map, List.length_map] at this
    omega
  · exact z.nx ρ M2 _ σ _ P2 hr (e1.trans e2) (hh2.oput d2) (d2.put k1 k2 (dn_ex e2 _ _ r1) lf) ((g.ex e1).ex e2)
/-- self.f, of the instance under construction -/
theorem ej_fldO {f : Str} {y : PyData} (kn : KnO N x C dx fs) (cl : Cls X.K C) (na : NoAttr X.K C f) (l : fs.lookup f = some y) (ho : EJ X N ρ M o (.v (.ref x)) M1) (hb : attributeBase o f X.env (eval o X.env) = eval o X.env := by rfl) : EJ X N ρ M (.Attribute o f pos) (.d y) M1 := fun σ H P hh g Q q =>
  e_of (pe_fld pe_w hb) (ho σ H P hh g _ fun u H1 P1 e1 h1 r1 => by
    cases (show u = .ref x from r1)
    obtain ⟨nf, vs, e0, k1, k2⟩ := kn
    obtain ⟨v, lv, dv⟩ := lookup_ins k1 k2 l
    exact ⟨x, C, dx, vs, v, rfl, h1.fr x _ e0 nf, cl, na, lv, q v H1 P1 e1 h1 (dn_ex h1.ex0 _ _ dv)⟩)
end
/-! ### the contract of __init__, and the call of the class -/
abbrev Ic := List It → Flds → Prop
abbrev Ir := List It → Str → Prop
def spI (mg : Str → Option Value) (C : Addr) (IC : Ic) (IR : Ir) : Sp := fun vs H Q E => ∃ (P : Hp) (is : List It) (x dx : Addr) (H1 : Hp) (ws : List V), vs = .ref x :: ws ∧ H = upd (upd H1 dx (.own x)) x (.ins C dx []) ∧ H1 x = none ∧ H1 dx = none ∧ dx ≠ x ∧ Holds (inner P H1 []) P H1 [] ∧ RepIs P ws is ∧
  ((∃ fs, IC is fs ∧ ∀ H' P', Holds (inner P H1 []) P' H' [] → InsP C x fs P' → Q .non H') ∨
    (∃ z, IR is z ∧ ∀ d H' P' Cs, mg "ShapeError" = some (.ref Cs) → Holds (inner P H1 []) P' H' [] → H' d = some (XD z) → E (.ref Cs) (some d) H'))
structure HoldI (P : Program) (w : World) (K : PySem.W.Frag) (mg : Str → Option Value) (base : Heap) (f C : Addr) (k : Nat) (IC : Ic) (IR : Ir) : Prop where
  ex : ∃ fd ps, FnOk P w K mg base (L2.CX P w) k f fd ps (spI mg C IC IR) ∧ PySem.W.keepIn K (.ref f) = true ∧ Binds K fd ps []
theorem holdI_ok {P : Program} {w : World} {K : PySem.W.Frag} {mg : Str → Option Value} {base : Heap} {nm qual : Str} {st : Stmt} {f C : Addr} {fd : FuncData} {NN ps : List Str} {l : Nat} {IC : Ic} {IR : Ir} (F : Fun K nm qual st f fd) (S : FnScope NN ps (defScope st))
    (hb : Binds K fd ps []) (len : ∀ is fs, IC is fs → is.length + 1 = ps.length) (len2 : ∀ is z, IR is z → is.length + 1 = ps.length)
    (body : ∀ X : Cx, (∃ cdv A outer s H E, X = cxOf (L2.CX P w) P w K mg base NN qual (defScope st) f cdv A outer s H E ∧ Room l X.A) → ∀ N is x dx, N.F = [] →
      (∀ fs, IC is fs → BJ X N (rho NN (.v (.ref x) :: is)) [] x C dx [] (defBody st) (fun _ M' fs' => M' = [] ∧ fs' = fs) (fun _ _ => False)) ∧
      (∀ z, IR is z → BJ X N (rho NN (.v (.ref x) :: is)) [] x C dx [] (defBody st) (fun _ _ _ => False) (fun z' M' => z' = z ∧ M' = []))) : HoldI P w K mg base f C (l + 1) IC IR := by
  refine ⟨fd, ps, F.okX S (fun vs H Q E h => ?_) (fun cdv A outer s H vs Q E hr h => ?_), F.kp, hb⟩
  · obtain ⟨P0, is, x, dx, H1, ws, rfl, _, _, _, _, _, r, ⟨fs, hC, _⟩ | ⟨z, hR, _⟩⟩ := h
    · rw [List.length_cons, r.len]
      exact len _ _ hC
    · rw [List.length_cons, r.len]
      exact len2 _ _ hR
  · obtain ⟨P0, is, x, dx, H1, ws, rfl, rfl, nx, nd, ne, h0, r, hq⟩ := h
    refine ⟨_, pss_w, ?_⟩
    have r1 : RepIs P0 (.ref x :: ws) (.v (.ref x) :: is) := ⟨rfl, r⟩
    have es : L2.start NN (.ref x :: ws) = (V.ref x :: ws).map some ++ List.replicate (NN.length - (It.v (.ref x) :: is).length) none := by
      unfold L2.start
      rw [r1.len]
    rw [es]
    have hd : Holds (inner P0 H1 []) P0 (upd (upd H1 dx (.own x)) x (.ins C dx [])) [] := (h0.junk nd).junk (by rw [upd_ne ne.symm]; exact nx)
    have od : OOk (inner P0 H1 []) P0 (upd (upd H1 dx (.own x)) x (.ins C dx [])) [] x C dx [] := ⟨h0.no nx, h0.no nd, nx, nd, by simp, by simp, ⟨[], upd_same, rfl, .nil⟩, by rw [upd_ne ne, upd_same], ne⟩
    have B := body _ ⟨cdv, A, outer, s, upd (upd H1 dx (.own x)) x (.ins C dx []), E, rfl, hr⟩ (inner P0 H1 []) is x dx rfl
    rcases hq with ⟨fs, hC, q⟩ | ⟨z, hR, q⟩
    · refine B.1 fs hC _ _ P0 hd od (slots_start _ r1) _ E0 takes0 ⟨fun ρ' M' fs' σ' H' P' a e hh d g => ?_, fun _ _ _ _ _ _ _ a => a.elim⟩
      obtain ⟨rfl, rfl⟩ := a
      obtain ⟨P2, e2, ip, h2⟩ := hh.ofreeze d
      exact q H' P2 h2 ip
    · refine B.2 z hR _ _ P0 hd od (slots_start _ r1) _ E (takes_of rfl rfl rfl rfl) ⟨fun _ _ _ _ _ _ a => a.elim, fun z' M' d H' P' Cs gs a e hh q' => ?_⟩
      obtain ⟨rfl, rfl⟩ := a
      exact q d H' P' Cs gs hh q'
section
variable {X : Cx} {N : Ent} {ρ : Rho} {M M1 : Mem} {e : Expr} {p pos : Pos} {rest : List Stmt} {Z : Post}
/-- y = C(e, ..) -/
theorem sj_make (n : Nat) {y nm : Str} {py spos : Pos} {f C : Addr} {l : Nat} {IC : Ic} {IR : Ir} {es : List Expr} {is : List It} {fs : Flds} (F : HoldI X.prog X.w X.K X.mg X.base f C l IC IR) (mk : Mk X.K C f) (hN : X.N.Nodup) (hr : Room (l + 1) X.A) (hm : X.mg nm = some (.ref C)) (ha : AJ X N ρ M (e :: es) is M1) (hC : IC is fs)
    (hk : ∀ a, SJ X N (ρ.set n (some (insI C a fs))) M1 rest Z)
    (hg : Gl X nm := by rfl) (hdb : (nm == ("__debug__" : Str)) = false := by decide) (he : starEach (e :: es) X.env = (false, eval e X.env) :: starEach es X.env := by rfl) (hpl : (backTo pos (starEach es X.env)).any (·.1) = false := by rfl)
    (hi : X.N[n]? = some y := by rfl) (hx : Loc X.env.scope y := by first | exact .inl rfl | exact .inr rfl) (hs : swapsWith (.Call (.Name nm p) (e :: es) [] pos) (some (.Name y py)) spos.line X.env = pure false := by rfl) (hf : X.fn y = true ∨ X.env.scope.names.lookup y = some .local := by first | exact .inl rfl | exact .inr rfl) :
    SJ X N ρ M (.Assign [.Name y py] (.Call (.Name nm p) (e :: es) [] pos) spos :: rest) Z := sj_cons fun σ H P hh g D E tk z => by
  obtain ⟨fd, ps, F1, hkp, hb⟩ := F.ex
  refine s_of (ps_set (i := n) hN hi hx (pe_make mk F1 hr hg hm hb .nil passL pa_w hdb he hpl) hs hf) (ha σ H P hh g _ fun vs H1 P1 e1 h1 r1 => fun x dx nx nd ne => ?_)
  rw [List.append_nil]
  refine ⟨P1, is, x, dx, H1, vs, rfl, rfl, nx, nd, ne, Holds.enter (Mc := []) (Mr := M1) h1, r1, .inl ⟨fs, hC, fun H' P' h' ip => ⟨rfl, ?_⟩⟩⟩
  have h2 := Holds.leave (Mc := []) (Mc' := []) (Mr := M1) h1 h'
  exact z.nx _ _ _ _ P' (hk x) (e1.trans h'.ex0) h2 (((g.ex e1).ex h'.ex0).set (it := insI C x fs) ⟨rfl, ip⟩ n)
/-- C(e, ..) that raises -/
theorem xj_make {nm z : Str} {f C : Addr} {l : Nat} {IC : Ic} {IR : Ir} {es : List Expr} {is : List It} (F : HoldI X.prog X.w X.K X.mg X.base f C l IC IR) (mk : Mk X.K C f) (hr : Room (l + 1) X.A) (hm : X.mg nm = some (.ref C)) (ha : AJ X N ρ M (e :: es) is M) (hR : IR is z)
    (hg : Gl X nm := by rfl) (hdb : (nm == ("__debug__" : Str)) = false := by decide) (he : starEach (e :: es) X.env = (false, eval e X.env) :: starEach es X.env := by rfl) (hpl : (backTo pos (starEach es X.env)).any (·.1) = false := by rfl) :
    XJ X N ρ M (.Call (.Name nm p) (e :: es) [] pos) z := fun σ H P hh g E tk er Q => by
  obtain ⟨fd, ps, F1, hkp, hb⟩ := F.ex
  refine e_of (pe_make mk F1 hr hg hm hb .nil (fun pins σ' H' s e' s' I c => passAt (W := fun c d _ H => E c d H) tk σ' pins H' s e' s' I c) pa_w hdb he hpl) (ha σ H P hh g _ fun vs H1 P1 e1 h1 r1 => fun x dx nx nd ne => ?_)
  rw [List.append_nil]
  refine ⟨P1, is, x, dx, H1, vs, rfl, rfl, nx, nd, ne, Holds.enter (Mc := []) (Mr := M) h1, r1, .inr ⟨z, hR, fun d H' P' Cs gs h' x' => ?_⟩⟩
  exact er d H' P' Cs gs (e1.trans h'.ex0) (Holds.leave (Mc := []) (Mc' := []) (Mr := M) h1 h') x'
end
end Kt

/-! Ktr: dicts of one's own (keys: ints and texts; values: data), beside the lists of one's own. -/
namespace Kt
open PySem PySem.Spec PyProof PyProof.Rows L2

theorem sem_bp {α : Type} : ∀ m : Sem α, (m >>= pure) = m := by
  intro m
  induction m with
  | pure a => rfl
  | raise => rfl
  | unsupported => rfl
  | finish => rfl
  | _ =>
    rename_i ih
    first
    | exact congrArg _ (funext fun x => ih x)
    | exact congrArg₂ _ rfl (funext fun x => ih x)
theorem exs_one (st : Stmt) (env : Env) : execs [st] env = exec st env := by
  rw [PySem.execs.eq_2]
  refine (congrArg (exec st env >>= ·) (funext fun f => ?_)).trans (sem_bp _)
  cases f
  · exact PySem.execs.eq_1 env
  all_goals rfl
theorem s_one {X : Cx} {st : Stmt} {D : Ends} {σ : L2.St} {H : Hp} (h : wSs X [st] D σ H) : wS X st D σ H := fun pins s I => by
  have := h pins s I
  rw [exs_one] at this
  exact this

/-! ### contents -/
abbrev DC := List (Key × PyData)
abbrev Ds := List (Addr × DC)
def KV (P : Hp) : List (Key × V) → DC → Prop
  | [], [] => True
  | (k, v) :: r, (j, d) :: s => k = j ∧ Dn P v d ∧ KV P r s
  | _, _ => False
def valD (es : DC) (k : Key) : Option PyData := (es.find? fun kv => decide (kv.1 = k)).map (·.2)
def putD (es : DC) (k : Key) (d : PyData) : DC := if (es.any fun kv => decide (kv.1 = k)) = true then es.map fun kv => if kv.1 = k then (kv.1, d) else kv else es ++ [(k, d)]
def kD : Key → PyData
  | .inl i => .int i
  | .inr x => .str x
def esD (es : DC) : List (PyData × PyData) := es.map fun kv => (kD kv.1, kv.2)
section
variable {P P' : Hp}
theorem KV.ex (e : Ex P P') : ∀ {kvs : List (Key × V)} {es : DC}, KV P kvs es → KV P' kvs es
  | [], [], _ => trivial
  | (k, v) :: r, (j, d) :: s, h => ⟨h.1, dn_ex e _ _ h.2.1, KV.ex e h.2.2⟩
  | [], _ :: _, h => h.elim
  | _ :: _, [], h => h.elim
theorem KV.len : ∀ {kvs : List (Key × V)} {es : DC}, KV P kvs es → kvs.length = es.length
  | [], [], _ => rfl
  | (k, v) :: r, (j, d) :: s, h => by rw [List.length_cons, List.length_cons, KV.len h.2.2]
  | [], _ :: _, h => h.elim
  | _ :: _, [], h => h.elim
theorem KV.any (k0 : Key) : ∀ {kvs : List (Key × V)} {es : DC}, KV P kvs es → (kvs.any fun kv => decide (kv.1 = k0)) = (es.any fun kv => decide (kv.1 = k0))
  | [], [], _ => rfl
  | (k, v) :: r, (j, d) :: s, h => by
    rw [List.any_cons, List.any_cons, KV.any k0 h.2.2]
    cases h.1
    rfl
  | [], _ :: _, h => h.elim
  | _ :: _, [], h => h.elim
theorem KV.map (k0 : Key) {v0 : V} {d0 : PyData} (h0 : Dn P v0 d0) : ∀ {kvs : List (Key × V)} {es : DC}, KV P kvs es → KV P (kvs.map fun kv => if kv.1 = k0 then (kv.1, v0) else kv) (es.map fun kv => if kv.1 = k0 then (kv.1, d0) else kv)
  | [], [], _ => trivial
  | (k, v) :: r, (j, d) :: s, h => by
    cases h.1
    rw [List.map_cons, List.map_cons]
    by_cases e : k = k0
    · rw [if_pos (show ((k, v) : Key × V).1 = k0 from e), if_pos (show ((k, d) : Key × PyData).1 = k0 from e)]
      exact ⟨rfl, h0, KV.map k0 h0 h.2.2⟩
    · rw [if_neg (show ¬ ((k, v) : Key × V).1 = k0 from e), if_neg (show ¬ ((k, d) : Key × PyData).1 = k0 from e)]
      exact ⟨rfl, h.2.1, KV.map k0 h0 h.2.2⟩
  | [], _ :: _, h => h.elim
  | _ :: _, [], h => h.elim
theorem KV.snoc {k0 : Key} {v0 : V} {d0 : PyData} (h0 : Dn P v0 d0) : ∀ {kvs : List (Key × V)} {es : DC}, KV P kvs es → KV P (kvs ++ [(k0, v0)]) (es ++ [(k0, d0)])
  | [], [], _ => ⟨rfl, h0, trivial⟩
  | (k, v) :: r, (j, d) :: s, h => ⟨h.1, h.2.1, KV.snoc h0 h.2.2⟩
  | [], _ :: _, h => h.elim
  | _ :: _, [], h => h.elim
theorem KV.put {k0 : Key} {v0 : V} {d0 : PyData} (h0 : Dn P v0 d0) {kvs : List (Key × V)} {es : DC} (h : KV P kvs es) : KV P (putK kvs k0 v0) (putD es k0 d0) := by
  unfold putK putD
  rw [h.any k0]
  by_cases e : (es.any fun kv => decide (kv.1 = k0)) = true
  · rw [if_pos e, if_pos e]
    exact h.map k0 h0
  · rw [if_neg e, if_neg e]
    exact h.snoc h0
theorem KV.val (k0 : Key) : ∀ {kvs : List (Key × V)} {es : DC}, KV P kvs es → (valV kvs k0 = none ∧ valD es k0 = none) ∨ ∃ v d, valV kvs k0 = some v ∧ valD es k0 = some d ∧ Dn P v d
  | [], [], _ => .inl ⟨rfl, rfl⟩
  | (k, v) :: r, (j, d) :: s, h => by
    cases h.1
    by_cases e : k = k0
    · refine .inr ⟨v, d, valV_pos (p := (k, v)) e, ?_, h.2.1⟩
      unfold valD
      rw [List.find?_cons_of_pos (by exact decide_eq_true e)]
      rfl
    · have a : valV ((k, v) :: r) k0 = valV r k0 := valV_neg (p := (k, v)) e
      have b : valD ((k, d) :: s) k0 = valD s k0 := by
        unfold valD
        rw [List.find?_cons_of_neg (by simpa using e)]
      rw [a, b]
      exact KV.val k0 h.2.2
  | [], _ :: _, h => h.elim
  | _ :: _, [], h => h.elim
theorem KV.kv : ∀ {kvs : List (Key × V)} {es : DC}, KV P kvs es → DnKV P kvs (esD es)
  | [], [], _ => .nil
  | (.inl i, v) :: r, (j, d) :: s, h => by
    cases h.1
    exact .inl h.2.1 (KV.kv h.2.2)
  | (.inr i, v) :: r, (j, d) :: s, h => by
    cases h.1
    exact .inr h.2.1 (KV.kv h.2.2)
  | [], _ :: _, h => h.elim
  | _ :: _, [], h => h.elim
theorem putD_len (es : DC) (k : Key) (d : PyData) : (putD es k d).length ≤ es.length + 1 := by
  unfold putD
  by_cases e : (es.any fun kv => decide (kv.1 = k)) = true
  · rw [if_pos e]; simp
  · rw [if_neg e]; simp
end

/-! ### the dicts that stand -/
structure DOk (N : Ent) (P H : Hp) (M : Mem) (Δ : Ds) : Prop where
  pn : ∀ c ∈ Δ, P c.1 = none
  n0 : ∀ c ∈ Δ, N.H0 c.1 = none
  nm : ∀ c ∈ Δ, c.1 ∉ M.map Prod.fst
  ob : ∀ c ∈ Δ, ∃ kvs, H c.1 = some (.dK kvs) ∧ KV P kvs c.2
  nd : (Δ.map Prod.fst).Nodup
/-- what an inner point knows of them -/
def Kn (N : Ent) (Δ : Ds) : Prop := ∀ c ∈ Δ, c.1 ∉ N.F ∧ ∃ kvs, N.H0 c.1 = some (.dK kvs) ∧ KV N.P0 kvs c.2
section
variable {N : Ent} {P P' H H' : Hp} {M M' : Mem} {Δ Δ' : Ds}
theorem DOk.nil : DOk N P H M [] := ⟨nofun, nofun, nofun, nofun, List.nodup_nil⟩
theorem DOk.kn (h : DOk N P H M Δ) : Kn (inner P H M) Δ := fun c hc => ⟨h.nm c hc, h.ob c hc⟩
theorem Holds.enter1 (h : Holds N P H M) : Holds (inner P H M) P H M := Holds.enter (Mr := []) (by rw [List.append_nil]; exact h)
theorem Holds.leave1 (h : Holds N P H M) (h' : Holds (inner P H M) P' H' M') : Holds N P' H' M' := by
  have := Holds.leave (Mr := []) (by rw [List.append_nil]; exact h) h'
  rw [List.append_nil] at this
  exact this
theorem DOk.leave (d : DOk N P H M Δ) (h' : Holds (inner P H M) P' H' M') : DOk N P' H' M' Δ := by
  refine ⟨fun c hc => ?_, d.n0, fun c hc q => ?_, fun c hc => ?_, d.nd⟩
  · obtain ⟨kvs, e, _⟩ := d.ob c hc
    cases q : P' c.1 with
    | none => rfl
    | some u =>
      have := h'.nw c.1 (d.pn c hc) (by rw [q]; exact Option.some_ne_none u)
      rw [show (inner P H M).H0 = H from rfl, e] at this
      cases this
  · obtain ⟨kvs, e, _⟩ := d.ob c hc
    obtain ⟨c2, hc2, e2⟩ := List.mem_map.mp q
    rcases h'.fs c2 hc2 with k | k
    · exact d.nm c hc (e2 ▸ k)
    · rw [show (inner P H M).H0 = H from rfl, e2, e] at k
      cases k
  · obtain ⟨kvs, e, r⟩ := d.ob c hc
    exact ⟨kvs, h'.fr c.1 _ e (d.nm c hc), r.ex h'.ex0⟩
/-- a new dict -/
theorem Holds.dnew (h : Holds N P H M) {p : Addr} {o : HO} (hp : H p = none) (nf : ∀ od kvs, o ≠ .frz od (.dK kvs) := by intro _ _ h; cases h) : Holds N P (upd H p o) M := by
  have pn : P p = none := h.no hp
  refine ⟨fun a u e => ?_, h.ex0, fun b u e f => ?_, h.nw, fun c hc => ?_, h.nd, h.mf, h.fs, h.ufu nf, h.pf⟩
  · rw [upd_ne (ne_of_none e pn)]
    exact h.exw a u e
  · have := h.fr b u e f
    rw [upd_ne (ne_of_none this hp)]
    exact this
  · obtain ⟨a1, xs, a2, a3⟩ := h.mem c hc
    exact ⟨a1, xs, by rw [upd_ne (ne_of_none a2 hp)]; exact a2, a3⟩
theorem DOk.dnew (d : DOk N P H M Δ) (h : Holds N P H M) {p : Addr} (hp : H p = none) : DOk N P (upd H p (.dK [])) M (Δ ++ [(p, [])]) := by
  have pn : P p = none := h.no hp
  have nm : p ∉ M.map Prod.fst := fun q => by
    obtain ⟨c2, hc2, e2⟩ := List.mem_map.mp q
    obtain ⟨xs, a, _⟩ := (h.mem c2 hc2).2
    rw [e2, hp] at a
    cases a
  have nD : p ∉ Δ.map Prod.fst := fun q => by
    obtain ⟨c2, hc2, e2⟩ := List.mem_map.mp q
    obtain ⟨xs, a, _⟩ := d.ob c2 hc2
    rw [e2, hp] at a
    cases a
  refine ⟨fun c hc => ?_, fun c hc => ?_, fun c hc => ?_, fun c hc => ?_, ?_⟩
  · rcases List.mem_append.mp hc with k | k
    · exact d.pn c k
    · cases List.mem_singleton.mp k; exact pn
  · rcases List.mem_append.mp hc with k | k
    · exact d.n0 c k
    · cases List.mem_singleton.mp k; exact h.h0_none hp
  · rcases List.mem_append.mp hc with k | k
    · exact d.nm c k
    · cases List.mem_singleton.mp k; exact nm
  · rcases List.mem_append.mp hc with k | k
    · obtain ⟨kvs, a, b⟩ := d.ob c k
      exact ⟨kvs, by rw [upd_ne (ne_of_none a hp)]; exact a, b⟩
    · cases List.mem_singleton.mp k; exact ⟨[], upd_same, trivial⟩
  · rw [List.map_append]
    refine List.nodup_append.mpr ⟨d.nd, by simp, fun a ha b hb e => ?_⟩
    simp at hb
    subst hb
    exact nD (e ▸ ha)
def Ds.put (Δ : Ds) (p : Addr) (es : DC) : Ds := Δ.map fun c => if c.1 = p then (p, es) else c
theorem dsput_fst (Δ : Ds) (p : Addr) (es : DC) : (Δ.put p es).map Prod.fst = Δ.map Prod.fst := by
  unfold Ds.put
  rw [List.map_map]
  refine List.map_congr_left fun c _ => ?_
  show (if c.1 = p then (p, es) else c).1 = c.1
  by_cases e : c.1 = p
  · rw [if_pos e]; exact e.symm
  · rw [if_neg e]
theorem Holds.dput (h : Holds N P H M) (d : DOk N P H M Δ) {p : Addr} {es : DC} (hp : (p, es) ∈ Δ) {o : HO} (nf : ∀ od kvs, o ≠ .frz od (.dK kvs) := by intro _ _ h; cases h) : Holds N P (upd H p o) M := by
  have pn := d.pn _ hp
  refine ⟨fun a u e => ?_, h.ex0, fun b u e f => ?_, h.nw, fun c hc => ?_, h.nd, h.mf, h.fs, h.ufu nf, h.pf⟩
  · rw [upd_ne (ne_of_none e pn)]
    exact h.exw a u e
  · have n0 := d.n0 _ hp
    rw [upd_ne (ne_of_none e n0)]
    exact h.fr b u e f
  · obtain ⟨a1, xs, a2, a3⟩ := h.mem c hc
    refine ⟨a1, xs, ?_, a3⟩
    rw [upd_ne fun e => d.nm _ hp (List.mem_map.mpr ⟨c, hc, e⟩)]
    exact a2
theorem DOk.dput (d : DOk N P H M Δ) {p : Addr} {es es' : DC} {kvs : List (Key × V)} (hp : (p, es) ∈ Δ) (r : KV P kvs es') : DOk N P (upd H p (.dK kvs)) M (Δ.put p es') := by
  have mm : ∀ c ∈ Δ.put p es', ∃ c0 ∈ Δ, c0.1 = c.1 ∧ ((c.1 = p ∧ c.2 = es') ∨ (c.1 ≠ p ∧ c = c0)) := fun c hc => by
    obtain ⟨c0, h0, e⟩ := List.mem_map.mp hc
    by_cases q : c0.1 = p
    · rw [if_pos q] at e
      subst e
      exact ⟨c0, h0, q, .inl ⟨rfl, rfl⟩⟩
    · rw [if_neg q] at e
      subst e
      exact ⟨c0, h0, rfl, .inr ⟨q, rfl⟩⟩
  refine ⟨fun c hc => ?_, fun c hc => ?_, fun c hc => ?_, fun c hc => ?_, by rw [dsput_fst]; exact d.nd⟩
  · obtain ⟨c0, h0, e, _⟩ := mm c hc
    rw [← e]; exact d.pn c0 h0
  · obtain ⟨c0, h0, e, _⟩ := mm c hc
    rw [← e]; exact d.n0 c0 h0
  · obtain ⟨c0, h0, e, _⟩ := mm c hc
    rw [← e]; exact d.nm c0 h0
  · obtain ⟨c0, h0, e, k | k⟩ := mm c hc
    · rw [k.1, k.2]
      exact ⟨kvs, upd_same, r⟩
    · obtain ⟨ks, a, b⟩ := d.ob c0 h0
      rw [k.2]
      rw [k.2] at k
      exact ⟨ks, by rw [upd_ne k.1]; exact a, b⟩
/-- a dict of one's own becomes persistent -/
theorem Holds.dfreeze (h : Holds N P H M) (d : DOk N P H M Δ) {p : Addr} {es : DC} (hp : (p, es) ∈ Δ) :
    ∃ P', Ex P P' ∧ Dn P' (.ref p) (.dict (esD es)) ∧ Holds N P' H M ∧ DOk N P' H M (Δ.filter fun c => decide (c.1 ≠ p)) := by
  obtain ⟨kvs, e, r⟩ := d.ob _ hp
  have pn := d.pn _ hp
  have q : Ex P (upd P p (.dK kvs)) := Ex.new pn
  refine ⟨upd P p (.dK kvs), q, .dic (.inl upd_same) (r.ex q).kv, ⟨fun b u z => ?_, h.ex0.trans q, h.fr, fun b z f => ?_, fun c hc => ?_, h.nd, h.mf, h.fs, h.uf, h.pf.new (o := .dK kvs) (fun _ _ h => by cases h)⟩, ⟨fun c hc => ?_, fun c hc => d.n0 c (List.mem_filter.mp hc).1, fun c hc => d.nm c (List.mem_filter.mp hc).1, fun c hc => ?_, d.nd.sublist ((List.filter_sublist (l := Δ)).map _)⟩⟩
  · by_cases eb : b = p
    · subst eb
      rw [upd_same] at z
      rw [← z]
      exact .inl e
    · rw [upd_ne eb] at z
      exact h.exw b u z
  · by_cases eb : b = p
    · subst eb
      exact d.n0 _ hp
    · rw [upd_ne eb] at f
      exact h.nw b z f
  · obtain ⟨a1, ys, a2, a3⟩ := h.mem c hc
    refine ⟨?_, ys, a2, a3.ex q⟩
    rw [upd_ne fun e => d.nm _ hp (List.mem_map.mpr ⟨c, hc, e⟩)]
    exact a1
  · obtain ⟨hc, ne⟩ := List.mem_filter.mp hc
    have ne : c.1 ≠ p := of_decide_eq_true ne
    rw [upd_ne ne]
    exact d.pn c hc
  · obtain ⟨ks, a, b⟩ := d.ob c (List.mem_filter.mp hc).1
    exact ⟨ks, a, b.ex q⟩
end
end Kt

/-! Kts: statements while dicts of one's own stand (DJ), beside SJ. -/
namespace Kt
open PySem PySem.Spec PyProof PyProof.Rows L2

structure PostD where
  nx : Rho → Mem → Ds → Prop
  rt : It → Mem → Prop
  bk : Rho → Mem → Ds → Prop := fun _ _ _ => False
  ct : Rho → Mem → Ds → Prop := fun _ _ _ => False
  er : Str → Mem → Prop := fun _ _ => False
structure ZE (mg : Str → Option Value) (N : Ent) (P : Hp) (Z : PostD) (D : Ends) (E : XK) : Prop where
  nx : ∀ ρ' M' Δ' σ' H' P', Z.nx ρ' M' Δ' → Ex P P' → Holds N P' H' M' → DOk N P' H' M' Δ' → Slots P' σ' ρ' → D.nx σ' H'
  rt : ∀ i M' v H' P', Z.rt i M' → Ex P P' → Holds N P' H' M' → RepI P' v i → D.rt v H'
  bk : ∀ ρ' M' Δ' σ' H' P', Z.bk ρ' M' Δ' → Ex P P' → Holds N P' H' M' → DOk N P' H' M' Δ' → Slots P' σ' ρ' → D.bk σ' H'
  ct : ∀ ρ' M' Δ' σ' H' P', Z.ct ρ' M' Δ' → Ex P P' → Holds N P' H' M' → DOk N P' H' M' Δ' → Slots P' σ' ρ' → D.ct σ' H'
  er : ∀ z M' d H' P' C, mg "ShapeError" = some (.ref C) → Z.er z M' → Ex P P' → Holds N P' H' M' → H' d = some (XD z) → E (.ref C) (some d) H'
section
variable {X : Cx} {N : Ent} {ρ ρ' : Rho} {M M1 M2 M3 : Mem} {Δ Δ' : Ds} {a b c e tg iter : Expr} {i j k : It} {pos : Pos} {Z : PostD} {body rest : List Stmt} {st : Stmt}
theorem ZE.ex {mg : Str → Option Value} {P P' : Hp} {D : Ends} {E : XK} (e : Ex P P') (z : ZE mg N P Z D E) : ZE mg N P' Z D E :=
  ⟨fun ρ' M' Δ' σ' H' P'' a b => z.nx ρ' M' Δ' σ' H' P'' a (e.trans b), fun i M' v H' P'' a b => z.rt i M' v H' P'' a (e.trans b), fun ρ' M' Δ' σ' H' P'' a b => z.bk ρ' M' Δ' σ' H' P'' a (e.trans b), fun ρ' M' Δ' σ' H' P'' a b => z.ct ρ' M' Δ' σ' H' P'' a (e.trans b), fun w M' d H' P'' C c a b => z.er w M' d H' P'' C c a (e.trans b)⟩
def DJ (X : Cx) (N : Ent) (ρ : Rho) (M : Mem) (Δ : Ds) (sts : List Stmt) (Z : PostD) : Prop :=
  ∀ σ H P, Holds N P H M → DOk N P H M Δ → Slots P σ ρ → ∀ (D : Ends) (E : XK), Takes X (fun c d _ H => E c d H) → ZE X.mg N P Z D E → wSs X sts D σ H
theorem dj_nil (h : Z.nx ρ M Δ) : DJ X N ρ M Δ [] Z := fun σ H P hh d g D E tk z => ss_of pss_nil (z.nx ρ M Δ σ H P h (Ex.refl P) hh d g)
theorem dj_cons (h : ∀ σ H P, Holds N P H M → DOk N P H M Δ → Slots P σ ρ → ∀ (D : Ends) (E : XK), Takes X (fun c d _ H => E c d H) → ZE X.mg N P { Z with nx := fun ρ' M' Δ' => DJ X N ρ' M' Δ' rest Z } D E → wS X st D σ H) : DJ X N ρ M Δ (st :: rest) Z := fun σ H P hh d g D E tk z =>
  ss_of (pss_cons ps_w pss_w) (h σ H P hh d g _ E tk ⟨fun ρ' M' Δ' σ' H' P' a e hh' d' g' => a σ' H' P' hh' d' g' D E tk (z.ex e), z.rt, z.bk, z.ct, z.er⟩)
/-- the end of the statements, with the dicts that stand -/
abbrev ndZ (X : Cx) (N : Ent) (Δ : Ds) (rest : List Stmt) (Z : PostD) : Post := { nx := fun ρ' M' => DJ X N ρ' M' Δ rest Z, rt := Z.rt, bk := fun ρ' M' => Z.bk ρ' M' Δ, ct := fun ρ' M' => Z.ct ρ' M' Δ, er := Z.er }
/-- a statement that changes no dict: by its own rule at an inner point, that knows the dicts -/
theorem dj_st (h : ∀ N', Kn N' Δ → SJ X N' ρ M [st] (ndZ X N Δ rest Z)) : DJ X N ρ M Δ (st :: rest) Z := dj_cons fun σ H P hh d g D E tk z =>
  s_one (h (inner P H M) d.kn σ H P hh.enter1 g D E tk ⟨fun ρ' M' σ' H' P' a e h' g' => z.nx ρ' M' Δ σ' H' P' a e (hh.leave1 h') (d.leave h') g', fun i M' v H' P' a e h' r => z.rt i M' v H' P' a e (hh.leave1 h') r, fun ρ' M' σ' H' P' a e h' g' => z.bk ρ' M' Δ σ' H' P' a e (hh.leave1 h') (d.leave h') g', fun ρ' M' σ' H' P' a e h' g' => z.ct ρ' M' Δ σ' H' P' a e (hh.leave1 h') (d.leave h') g', fun w M' x H' P' C c a e h' r => z.er w M' x H' P' C c a e (hh.leave1 h') r⟩)
/-- from SJ, and back to it -/
abbrev Post.toD (Z : Post) : PostD := { nx := fun ρ' M' _ => Z.nx ρ' M', rt := Z.rt, bk := fun ρ' M' _ => Z.bk ρ' M', ct := fun ρ' M' _ => Z.ct ρ' M', er := Z.er }
theorem sj_dj {sts : List Stmt} {Z : Post} (h : DJ X N ρ M [] sts Z.toD) : SJ X N ρ M sts Z := fun σ H P hh g D E tk z =>
  h σ H P hh DOk.nil g D E tk ⟨fun ρ' M' _ σ' H' P' a e h' _ g' => z.nx ρ' M' σ' H' P' a e h' g', z.rt, fun ρ' M' _ σ' H' P' a e h' _ g' => z.bk ρ' M' σ' H' P' a e h' g', fun ρ' M' _ σ' H' P' a e h' _ g' => z.ct ρ' M' σ' H' P' a e h' g', z.er⟩
theorem dj_sj {sts : List Stmt} (h : SJ X N ρ M sts { nx := fun ρ' M' => Z.nx ρ' M' [], rt := Z.rt, bk := fun ρ' M' => Z.bk ρ' M' [], ct := fun ρ' M' => Z.ct ρ' M' [], er := Z.er }) : DJ X N ρ M Δ sts Z := fun σ H P hh d g D E tk z =>
  h σ H P hh g D E tk ⟨fun ρ' M' σ' H' P' a e h' g' => z.nx ρ' M' [] σ' H' P' a e h' DOk.nil g', z.rt, fun ρ' M' σ' H' P' a e h' g' => z.bk ρ' M' [] σ' H' P' a e h' DOk.nil g', fun ρ' M' σ' H' P' a e h' g' => z.ct ρ' M' [] σ' H' P' a e h' DOk.nil g', z.er⟩
/-- x = {} -/
theorem dj_new (n : Nat) {x : Str} {pos' dp : Pos} (hN : X.N.Nodup) (hr : ∀ p, DJ X N (ρ.set n (some (.v (.ref p)))) M (Δ ++ [(p, [])]) rest Z) (hi : X.N[n]? = some x := by rfl) (hx : Loc X.env.scope x := by first | exact .inl rfl | exact .inr rfl) (hs : swapsWith (.Dict [] [] dp) (some (.Name x pos')) pos.line X.env = pure false := by rfl) (hf : X.fn x = true ∨ X.env.scope.names.lookup x = some .local := by first | exact .inl rfl | exact .inr rfl) :
    DJ X N ρ M Δ (.Assign [.Name x pos'] (.Dict [] [] dp) pos :: rest) Z := dj_cons fun σ H P hh d g D E tk z =>
  s_of (ps_set (i := n) hN hi hx pe_dnewK hs hf) fun p hp => z.nx _ _ _ _ _ P (hr p) (Ex.refl P) (hh.dnew hp) (d.dnew hh hp) (g.set (it := .v (.ref p)) rfl n)
/-- keys as items -/
def kI (k : Key) : It := .d (kD k)
theorem ri_key {P : Hp} {v : V} {k : Key} (h : RepI P v (kI k)) : v = kV k := by
  cases k with
  | inl n => exact ri_int h
  | inr x => exact ri_str h
/-- d[k] = e -/
theorem dj_put {o x : Expr} {spos : Pos} {p : Addr} {es : DC} {k : Key} {v : PyData} (hu : X.A.units + 1 < cLine) (hm : (p, es) ∈ Δ) (hl : es.length < 1000000)
    (he : ∀ N', Kn N' Δ → EJ X N' ρ M e (.d v) M1) (ho : ∀ N', Kn N' Δ → EJ X N' ρ M1 o (.v (.ref p)) M2) (hx : ∀ N', Kn N' Δ → EJ X N' ρ M2 x (kI k) M3)
    (hr : DJ X N ρ M3 (Δ.put p (putD es k v)) rest Z) (hs : swapsWith e (some (.Subscript o x spos)) pos.line X.env = pure false := by rfl) :
    DJ X N ρ M Δ (.Assign [.Subscript o x spos] e pos :: rest) Z := dj_cons fun σ H P hh d g D E tk z => by
  refine s_of (ps_dput hu pe_w pe_w pe_w hs) (he _ d.kn σ H P hh.enter1 g _ fun v1 H1 P1 e1 h1 r1 => ?_)
  refine ho _ d.kn σ H1 P1 h1 (g.ex e1) _ fun v2 H2 P2 e2 h2 r2 => ?_
  refine hx _ d.kn σ H2 P2 h2 ((g.ex e1).ex e2) _ fun v3 H3 P3 e3 h3 r3 => ?_
  cases (show v2 = .ref p from r2)
  have d3 := d.leave h3
  have hh3 := hh.leave1 h3
  obtain ⟨kvs, ek, rk⟩ := d3.ob _ hm
  refine ⟨p, _, rfl, .inl ⟨kvs, k, ek, ri_key r3, by rw [rk.len]; exact Nat.lt_trans hl (by rw [sizeLine_eq]; decide), rfl⟩, ?_⟩
  exact z.nx ρ M3 _ σ _ P3 hr ((e1.trans e2).trans e3) (hh3.dput d3 hm) (d3.dput hm (rk.put (dn_ex (e2.trans e3) _ _ r1))) (((g.ex e1).ex e2).ex e3)
/-- a dict of one's own becomes data, at a slot -/
theorem dj_freeze (n : Nat) {p : Addr} {es : DC} {sts : List Stmt} (hρ : ρ[n]? = some (some (.v (.ref p)))) (hm : (p, es) ∈ Δ) (hr : DJ X N (ρ.set n (some (.d (.dict (esD es))))) M (Δ.filter fun c => decide (c.1 ≠ p)) sts Z) : DJ X N ρ M Δ sts Z := fun σ H P hh d g D E tk z => by
  obtain ⟨P', e, dn, h', d'⟩ := hh.dfreeze d hm
  obtain ⟨v, ev, rv⟩ := g.2 n _ hρ
  cases (show v = .ref p from rv)
  have es : σ.set n (some (.ref p)) = σ := by
    refine List.ext_getElem? fun m => ?_
    by_cases q : n = m
    · subst q
      have l : n < σ.length := (List.getElem?_eq_some_iff.mp ev).1
      rw [List.getElem?_set_self l, ev]
    · rw [List.getElem?_set_ne q]
  have g' := (g.ex e).set (it := .d (.dict _)) (v := .ref p) dn n
  rw [es] at g'
  exact hr σ H P' h' d' g' D E tk (z.ex e)
theorem dj_weak {sts : List Stmt} (h : DJ X N ρ' M1 Δ' sts Z) (hl : ρ'.length = ρ.length) (w : ∀ (n : Nat) (it : It), ρ'[n]? = some (some it) → ρ[n]? = some (some it)) (s : ∀ c ∈ M1, c ∈ M) (nd : (M.map Prod.fst).Nodup → (M1.map Prod.fst).Nodup) (mf : ∀ a ∈ N.F, a ∈ M1.map Prod.fst) (sd : List.Sublist Δ' Δ) : DJ X N ρ M Δ sts Z :=
  fun σ H P hh d g D E tk z => h σ H P (hh.sub s (nd hh.nd) mf) ⟨fun c hc => d.pn c (sd.mem hc), fun c hc => d.n0 c (sd.mem hc), fun c hc q => d.nm c (sd.mem hc) (by
    obtain ⟨c2, a, b⟩ := List.mem_map.mp q
    exact List.mem_map.mpr ⟨c2, s c2 a, b⟩), fun c hc => d.ob c (sd.mem hc), d.nd.sublist (sd.map _)⟩ (g.weak hl w) D E tk z
theorem dj_is {sts : List Stmt} (h : DJ X N ρ' M1 Δ' sts Z) (e1 : ρ = ρ') (e2 : M = M1) (e3 : Δ = Δ') : DJ X N ρ M Δ sts Z := by
  subst e1; subst e2; subst e3; exact h
theorem dj_if {A B : List Stmt} {t : Bool} (hc : ∀ N', Kn N' Δ → TJ X N' ρ M c t M1) (h1 : t = true → DJ X N ρ M1 Δ A { Z with nx := fun ρ' M' Δ' => DJ X N ρ' M' Δ' rest Z }) (h2 : t = false → DJ X N ρ M1 Δ B { Z with nx := fun ρ' M' Δ' => DJ X N ρ' M' Δ' rest Z }) : DJ X N ρ M Δ (.If c A B pos :: rest) Z := dj_cons fun σ H P hh d g D E tk z =>
  s_of (ps_if pt_w pss_w pss_w) (hc _ d.kn σ H P hh.enter1 g _ fun H1 P1 e1 h1' => by
    have hh1 := hh.leave1 h1'
    have d1 := d.leave h1'
    cases t with
    | true => exact iteT (h1 rfl σ H1 P1 hh1 d1 (g.ex e1) D E tk (z.ex e1))
    | false => exact iteF (h2 rfl σ H1 P1 hh1 d1 (g.ex e1) D E tk (z.ex e1)))
theorem dj_while (n0 : Nat) (Inv : Nat → Rho → Mem → Ds → Prop) (h0 : Inv n0 ρ M Δ)
    (step : ∀ m ρ' M' Δ', Inv m ρ' M' Δ' → ∃ t M2, (∀ N', Kn N' Δ' → TJ X N' ρ' M' c t M2) ∧ (t = true → DJ X N ρ' M2 Δ' body { nx := fun ρ2 M3 Δ3 => ∃ m', m' < m ∧ Inv m' ρ2 M3 Δ3, ct := fun ρ2 M3 Δ3 => ∃ m', m' < m ∧ Inv m' ρ2 M3 Δ3, bk := fun ρ' M' Δ' => DJ X N ρ' M' Δ' rest Z, rt := Z.rt, er := Z.er }) ∧ (t = false → DJ X N ρ' M2 Δ' rest Z))
    (hp : PassesOwn (model X.prog X.w) X.A X.env X.xe := by exact PassesOwn.never) : DJ X N ρ M Δ (.While c body [] pos :: rest) Z := dj_cons fun σ H P hh d g D E tk z => by
  refine s_of (ps_while hp pt_w pss_w) ⟨fun m σ' H' => ∃ ρ' M' Δ' P', Inv m ρ' M' Δ' ∧ Holds N P' H' M' ∧ DOk N P' H' M' Δ' ∧ Slots P' σ' ρ' ∧ Ex P P', ⟨n0, ρ, M, Δ, P, h0, hh, d, g, Ex.refl P⟩, fun m σ' H' hw => ?_⟩
  obtain ⟨ρ', M', Δ', P', w, h2, d2, g2, e2⟩ := hw
  obtain ⟨t, M2, T, S1, S2⟩ := step m ρ' M' Δ' w
  refine T _ d2.kn σ' H' P' h2.enter1 g2 _ fun H3 P3 e3 h3' => ?_
  have h3 := h2.leave1 h3'
  have d3 := d2.leave h3'
  cases t with
  | true =>
    refine iteT ⟨fun σ4 H4 => ∃ m', m' < m ∧ ∃ ρ' M' Δ' P', Inv m' ρ' M' Δ' ∧ Holds N P' H4 M' ∧ DOk N P' H4 M' Δ' ∧ Slots P' σ4 ρ' ∧ Ex P P', fun σ4 H4 ⟨m', l, w'⟩ => ⟨m', l, w'⟩, ?_⟩
    refine S1 rfl σ' H3 P3 h3 d3 (g2.ex e3) _ E tk ⟨fun ρ4 M4 Δ4 σ4 H4 P4 ⟨m', l, w'⟩ e h d g => ⟨m', l, ρ4, M4, Δ4, P4, w', h, d, g, (e2.trans e3).trans e⟩, fun i M4 v H4 P4 a e h r => z.rt i M4 v H4 P4 a ((e2.trans e3).trans e) h r, fun ρ4 M4 Δ4 σ4 H4 P4 a e h d g => z.nx ρ4 M4 Δ4 σ4 H4 P4 a ((e2.trans e3).trans e) h d g, fun ρ4 M4 Δ4 σ4 H4 P4 ⟨m', l, w'⟩ e h d g => ⟨m', l, ρ4, M4, Δ4, P4, w', h, d, g, (e2.trans e3).trans e⟩, fun w M4 x H4 P4 C c a e h r => z.er w M4 x H4 P4 C c a ((e2.trans e3).trans e) h r⟩
  | false => exact iteF (z.nx ρ' M2 Δ' σ' H3 P3 (S2 rfl) (e2.trans e3) h3 d3 (g2.ex e3))
/-! ### loops over a walk of data -/
/-- a walk that changes nothing but what is new, seen from any point -/
structure WalkA (P1 : Hp) (J : L2.It) (ds : List PyData) : Prop where
  go : ∀ i N H P' M', i < ds.length → Holds N P' H M' → Ex P1 P' → J.go i H
  stop : ∀ N H P' M', Holds N P' H M' → Ex P1 P' → J.stop ds.length H
  yld : ∀ i N H x H' P' M', i < ds.length → Holds N P' H M' → Ex P1 P' → J.yld i H x H' → ∃ P'' d, ds[i]? = some d ∧ Ex P' P'' ∧ Holds N P'' H' M' ∧ RepI P'' x (.d d)
def IA (X : Cx) (N : Ent) (ρ : Rho) (M : Mem) (tg iter : Expr) (ds : List PyData) (M1 : Mem) : Prop :=
  ∃ ti : TI, PI X tg iter ti ∧ ∀ σ H P, Holds N P H M → Slots P σ ρ → ∀ R, (∀ J H1 P1, Ex P P1 → Holds N P1 H1 M1 → WalkA P1 J ds → R J H1) → ti σ H R
/-- as IA, with the dicts known to the expression that is walked -/
def IAK (X : Cx) (ρ : Rho) (M : Mem) (Δ : Ds) (tg iter : Expr) (ds : List PyData) (M1 : Mem) : Prop :=
  ∃ ti : TI, PI X tg iter ti ∧ ∀ N, Kn N Δ → ∀ σ H P, Holds N P H M → Slots P σ ρ → ∀ R, (∀ J H1 P1, Ex P P1 → Holds N P1 H1 M1 → WalkA P1 J ds → R J H1) → ti σ H R
theorem ia_list {ds : List PyData} (ha : ∀ N, Kn N Δ → EJ X N ρ M iter (.d (.list ds)) M1) : IAK X ρ M Δ tg iter ds M1 := by
  refine ⟨_, pi_list pe_w, fun N kn σ H P hh g R q => ?_⟩
  refine ha N kn σ H P hh g _ fun v H1 P1 e1 h1 r1 => ?_
  obtain ⟨t, xs, rfl, x1, x2⟩ := ri_lst r1
  have xl := dnAll_len x2
  refine ⟨t, rfl, ⟨xs, .inl (.inl (h1.ex _ _ x1))⟩, q _ H1 P1 e1 h1 ⟨fun i N H P' M' hi h2 e2 => ?_, fun N H P' M' h2 e2 => ?_, fun i N H v H' P' M' hi h2 e2 y => ?_⟩⟩
  · rw [← xl] at hi
    exact ⟨xs, _, .inl (.inl (h2.ex _ _ (e2 _ _ x1))), List.getElem?_eq_getElem hi⟩
  · exact ⟨xs, .inl (.inl (h2.ex _ _ (e2 _ _ x1))), by rw [xl]; exact Nat.le_refl _⟩
  · obtain ⟨rfl, hx⟩ := y
    have hx := hx xs (.inl (.inl (h2.ex _ _ (e2 _ _ x1))))
    obtain ⟨v', ev, dv⟩ := dnAll_get x2 (List.getElem?_eq_getElem hi)
    rw [hx] at ev
    cases Option.some.inj ev
    exact ⟨P', _, List.getElem?_eq_getElem hi, Ex.refl _, h2, dn_ex e2 _ _ dv⟩
theorem ia_tup {ds : List PyData} (ha : ∀ N, Kn N Δ → EJ X N ρ M iter (.d (.tuple ds)) M1) : IAK X ρ M Δ tg iter ds M1 := by
  refine ⟨_, pi_tup pe_w, fun N kn σ H P hh g R q => ?_⟩
  refine ha N kn σ H P hh g _ fun v H1 P1 e1 h1 r1 => ?_
  obtain ⟨t, xs, rfl, x1, x2⟩ := ri_tup r1
  have xl := dnAll_len x2
  refine ⟨t, rfl, ⟨xs, .inl (.inl (h1.ex _ _ x1))⟩, q _ H1 P1 e1 h1 ⟨fun i N H P' M' hi h2 e2 => ?_, fun N H P' M' h2 e2 => ?_, fun i N H v H' P' M' hi h2 e2 y => ?_⟩⟩
  · rw [← xl] at hi
    exact ⟨xs, _, .inl (.inl (h2.ex _ _ (e2 _ _ x1))), List.getElem?_eq_getElem hi⟩
  · exact ⟨xs, .inl (.inl (h2.ex _ _ (e2 _ _ x1))), by rw [xl]; exact Nat.le_refl _⟩
  · obtain ⟨rfl, hx⟩ := y
    have hx := hx xs (.inl (.inl (h2.ex _ _ (e2 _ _ x1))))
    obtain ⟨v', ev, dv⟩ := dnAll_get x2 (List.getElem?_eq_getElem hi)
    rw [hx] at ev
    cases Option.some.inj ev
    exact ⟨P', _, List.getElem?_eq_getElem hi, Ex.refl _, h2, dn_ex e2 _ _ dv⟩
theorem ia_enumT {p : Pos} {elts : List Expr} {kk : Nat} {tpos : Pos} {ds : List PyData} (hm : X.mg "enumerate" = none) (ha : ∀ N, Kn N Δ → EJ X N ρ M a (.d (.tuple ds)) M1) (hg : Gl X "enumerate" := by rfl) (hs : starEach [a] X.env = [(false, eval a X.env)] := by rfl) :
    IAK X ρ M Δ (.Tuple elts kk tpos) (.Call (.Name "enumerate" p) [a] [] pos) (enumD ds) M1 := by
  refine ⟨_, pi_enumT hg hm pa_w hs, fun N kn σ H P hh g R q => ?_⟩
  refine aj_cons (ha N kn) aj_nil hs σ H P hh g _ fun vs H1 P1 e1 h1 r1 => ?_
  obtain ⟨x, rfl, r2⟩ := ri1 r1
  obtain ⟨t, xs, rfl, x1, x2⟩ := ri_tup r2
  have xl := dnAll_len x2
  refine ⟨t, xs, rfl, .inl (.inl (h1.ex _ _ x1)), q _ H1 P1 e1 h1 ⟨fun i N H P' M' hi h2 e2 => ?_, fun N H P' M' h2 e2 => ?_, fun i N H v H' P' M' hi h2 e2 y => ?_⟩⟩
  · rw [enumD_len, ← xl] at hi
    exact ⟨xs, _, .inl (.inl (h2.ex _ _ (e2 _ _ x1))), List.getElem?_eq_getElem hi⟩
  · exact ⟨xs, .inl (.inl (h2.ex _ _ (e2 _ _ x1))), by rw [enumD_len, xl]⟩
  · obtain ⟨T, u, rfl, hT, rfl, hx⟩ := y
    have hx := hx xs (.inl (.inl (h2.ex _ _ (e2 _ _ x1))))
    rw [enumD_len] at hi
    obtain ⟨v', ev, dv⟩ := dnAll_get x2 (List.getElem?_eq_getElem hi)
    rw [hx] at ev
    cases Option.some.inj ev
    obtain ⟨h5, e5⟩ := h2.pers (o := .tup [.int (i : Nat), u]) hT
    exact ⟨_, _, enumD_get (List.getElem?_eq_getElem hi), e5, h5, .tup upd_same (.cons (.int _) (.cons (dn_ex e5 _ _ (dn_ex e2 _ _ dv)) .nil))⟩
theorem dj_for {ds : List PyData} (hc : X.calm = true) (hi : IAK X ρ M Δ tg iter ds M1) (Inv : Nat → Rho → Mem → Ds → Prop) (h0 : Inv 0 ρ M1 Δ)
    (step : ∀ n d ρ' M' Δ', ds[n]? = some d → Inv n ρ' M' Δ' → ∃ ρ2, GJ X N tg (.d d) ρ' ρ2 ∧ DJ X N ρ2 M' Δ' body { nx := Inv (n + 1), ct := Inv (n + 1), bk := fun ρ' M' Δ' => DJ X N ρ' M' Δ' rest Z, rt := Z.rt, er := Z.er })
    (done : ∀ ρ' M' Δ', Inv ds.length ρ' M' Δ' → DJ X N ρ' M' Δ' rest Z) (hp : PassesOwn (model X.prog X.w) X.A X.env X.xe := by exact PassesOwn.never) (hf : ∀ x, foldedSetIterable iter X.env x = pure x := by intro _; rfl) : DJ X N ρ M Δ (.For tg iter body [] pos :: rest) Z := dj_cons fun σ H P hh d g D E tk z => by
  obtain ⟨ti, pi, hi⟩ := hi
  refine s_of (ps_for hp hc pi pg_w pss_w hf) (hi _ d.kn σ H P hh.enter1 g _ fun J H1 P1 e1 h1' W => ?_)
  have h1 := hh.leave1 h1'
  have d1 := d.leave h1'
  have WK : Walk J ds.length (fun H => ∃ P' M' Δ', Holds N P' H M' ∧ DOk N P' H M' Δ' ∧ Ex P1 P') (fun i H x H' => ∀ P' M' Δ', Holds N P' H M' → DOk N P' H M' Δ' → Ex P1 P' → ∃ P'' d, ds[i]? = some d ∧ Ex P' P'' ∧ Holds N P'' H' M' ∧ DOk N P'' H' M' Δ' ∧ RepI P'' x (.d d)) :=
    ⟨fun i H hi ⟨P', M', Δ', a, _, b⟩ => W.go i N H P' M' hi a b, fun H ⟨P', M', Δ', a, _, b⟩ => W.stop N H P' M' a b, fun i H x H' hi _ y P' M' Δ' a dd b => by
      obtain ⟨P'', d, q1, q2, q3, q4⟩ := W.yld i _ H x H' P' M' hi a.enter1 b y
      exact ⟨P'', d, q1, q2, a.leave1 q3, dd.leave q3, q4⟩⟩
  refine for_it WK (fun n σ' H' => ∃ ρ' M' Δ' P', Inv n ρ' M' Δ' ∧ Holds N P' H' M' ∧ DOk N P' H' M' Δ' ∧ Slots P' σ' ρ' ∧ Ex P1 P') ⟨ρ, M1, Δ, P1, h0, h1, d1, g.ex e1, Ex.refl _⟩ (fun i σ' H' _ ⟨ρ', M', Δ', P', iv, a, dd, _, b⟩ => ⟨P', M', Δ', a, dd, b⟩) (fun n x σ' H' H2 hn hw hy => ?_) (fun σ' H' hw => ?_)
  · obtain ⟨ρ', M', Δ', P', w, h2, d2, g2, e2⟩ := hw
    obtain ⟨P2, dd, ed, e3, h3, d3, r3⟩ := hy P' M' Δ' h2 d2 e2
    obtain ⟨ρ2, G, S⟩ := step n dd ρ' M' Δ' ed w
    refine G x σ' H2 P2 M' h3 (g2.ex e3) r3 _ fun σ2 g3 => ?_
    refine S σ2 H2 P2 h3 d3 g3 _ E tk ⟨fun ρ4 M4 Δ4 σ4 H4 P4 a e h d g => ⟨ρ4, M4, Δ4, P4, a, h, d, g, (e2.trans e3).trans e⟩, fun i M4 v H4 P4 a e h r => z.rt i M4 v H4 P4 a ((e1.trans (e2.trans e3)).trans e) h r, fun ρ4 M4 Δ4 σ4 H4 P4 a e h d g => z.nx ρ4 M4 Δ4 σ4 H4 P4 a ((e1.trans (e2.trans e3)).trans e) h d g, fun ρ4 M4 Δ4 σ4 H4 P4 a e h d g => ⟨ρ4, M4, Δ4, P4, a, h, d, g, (e2.trans e3).trans e⟩, fun w M4 x H4 P4 C c a e h r => z.er w M4 x H4 P4 C c a ((e1.trans (e2.trans e3)).trans e) h r⟩
  · obtain ⟨ρ', M', Δ', P', w, h2, d2, g2, e2⟩ := hw
    exact z.nx ρ' M' Δ' σ' H' P' (done ρ' M' Δ' w) (e1.trans e2) h2 d2 g2
/-! ### reading: dicts of one's own at an inner point, and dicts that are data -/
theorem DGet.kn {N : Ent} {P H : Hp} {p : Addr} {es : DC} (kn : Kn N Δ) (hh : Holds N P H M) (hm : (p, es) ∈ Δ) (k : Key) : (valD es k = none ∧ DGet H p (kV k) none) ∨ ∃ v d, valD es k = some d ∧ DGet H p (kV k) (some v) ∧ Dn P v d := by
  obtain ⟨nf, kvs, e, r⟩ := kn _ hm
  have eH := hh.fr _ _ e nf
  rcases r.val k with ⟨q1, q2⟩ | ⟨v, d, q1, q2, q3⟩
  · exact .inl ⟨q2, by rw [← q1]; exact DGet.k eH⟩
  · exact .inr ⟨v, d, q2, by rw [← q1]; exact DGet.k eH, dn_ex hh.ex0 _ _ q3⟩
end
end Kt

/-! Ktu: reading dicts: of one's own at an inner point (K), and dicts that are data (D). -/
namespace Kt
open PySem PySem.Spec PyProof PyProof.Rows L2
theorem kD_inj {a b : Key} (h : kD a = kD b) : a = b := by
  cases a with
  | inl x => cases b with
    | inl y => cases h; rfl
    | inr y => cases h
  | inr x => cases b with
    | inl y => cases h
    | inr y => cases h; rfl
theorem KV.of {P : Hp} : ∀ {kvs : List (Key × V)} {es : DC}, DnKV P kvs (esD es) → KV P kvs es
  | kvs, [], h => by
    cases h
    trivial
  | kvs, (.inl i, d) :: s, h => by
    cases h with
    | inl a b => exact ⟨rfl, a, KV.of b⟩
  | kvs, (.inr i, d) :: s, h => by
    cases h with
    | inr a b => exact ⟨rfl, a, KV.of b⟩
theorem ri_dic {P : Hp} {v : V} {es : DC} (h : RepI P v (.d (.dict (esD es)))) : ∃ a kvs, v = .ref a ∧ Rd P a (.dK kvs) ∧ KV P kvs es := by
  cases (show Dn P v (.dict (esD es)) from h) with
  | dic a b => exact ⟨_, _, rfl, a, KV.of b⟩
section
variable {X : Cx} {N : Ent} {ρ : Rho} {M M1 M2 : Mem} {Δ : Ds} {o x : Expr} {pos : Pos}
/-- what may be read as a dict with these contents -/
inductive Rdd (N : Ent) (M : Mem) : It → DC → Prop
  | k {Δ : Ds} {p : Addr} {es : DC} : Kn N Δ → (p, es) ∈ Δ → Rdd N M (.v (.ref p)) es
  | d {es : DC} : Rdd N M (.d (.dict (esD es))) es
theorem Rdd.get {i : It} {es : DC} (r : Rdd N M i es) {P H : Hp} {v : V} (hh : Holds N P H M1) (h : RepI P v i) (k : Key) : ∃ p, v = .ref p ∧ ((valD es k = none ∧ DGet H p (kV k) none) ∨ ∃ v d, valD es k = some d ∧ DGet H p (kV k) (some v) ∧ Dn P v d) := by
  cases r with
  | k kn hm => exact ⟨_, h, DGet.kn kn hh hm k⟩
  | d =>
    obtain ⟨a, kvs, rfl, e, r⟩ := ri_dic h
    have eH := hh.exw.rd e
    refine ⟨a, rfl, ?_⟩
    rcases r.val k with ⟨q1, q2⟩ | ⟨v, d, q1, q2, q3⟩
    · exact .inl ⟨q2, by rw [← q1]; exact .inl ⟨_, k, eH, rfl, rfl⟩⟩
    · exact .inr ⟨v, d, q2, by rw [← q1]; exact .inl ⟨_, k, eH, rfl, rfl⟩, q3⟩
theorem ej_dget {i : It} {es : DC} {k : Key} {d : PyData} (hu : X.A.units + 1 < cLine) (r : Rdd N M2 i es) (hv : valD es k = some d) (ho : EJ X N ρ M o i M1) (hx : EJ X N ρ M1 x (kI k) M2) (hs : NoSl x := by intro _ _; rfl) : EJ X N ρ M (.Subscript o x pos) (.d d) M2 := fun σ H P h g Q q =>
  e_of (pe_dget hu pe_w pe_w hs) (ho σ H P h g _ fun v1 H1 P1 e1 h1 r1 => hx σ H1 P1 h1 (g.ex e1) _ fun v2 H2 P2 e2 h2 r2 => by
    obtain ⟨p, rfl, q1 | ⟨v, d', q1, q2, q3⟩⟩ := r.get h2 (r1.ex e2) k
    · rw [q1.1] at hv; cases hv
    · rw [hv] at q1
      cases q1
      cases ri_key r2
      exact ⟨p, v, rfl, q2, q v H2 P2 (e1.trans e2) h2 q3⟩)
theorem tj_din {i : It} {es : DC} {k : Key} (hu : X.A.units + 1 < cLine) (r : Rdd N M2 i es) (hx : EJ X N ρ M x (kI k) M1) (ho : EJ X N ρ M1 o i M2) (hm : behindInMarks .In o = false := by rfl) : TJ X N ρ M (.Compare x [.In] [o] pos) (valD es k).isSome M2 := fun σ H P h g Q q =>
  t_of (pt_cmp (pc_din hu pe_w pe_w) hm) (hx σ H P h g _ fun v1 H1 P1 e1 h1 r1 => ho σ H1 P1 h1 (g.ex e1) _ fun v2 H2 P2 e2 h2 r2 => by
    cases ri_key r1
    obtain ⟨p, rfl, q1 | ⟨v, d', q1, q2, q3⟩⟩ := r.get h2 r2 k
    · exact ⟨p, none, rfl, q1.2, _, rfl, by have := q H2 P2 (e1.trans e2) h2; rw [q1.1] at this; exact this⟩
    · exact ⟨p, some v, rfl, q2, _, rfl, by have := q H2 P2 (e1.trans e2) h2; rw [q1] at this; exact this⟩)
theorem tj_dnin {i : It} {es : DC} {k : Key} (hu : X.A.units + 1 < cLine) (r : Rdd N M2 i es) (hx : EJ X N ρ M x (kI k) M1) (ho : EJ X N ρ M1 o i M2) (hm : behindInMarks .NotIn o = false := by rfl) : TJ X N ρ M (.Compare x [.NotIn] [o] pos) (!(valD es k).isSome) M2 := fun σ H P h g Q q =>
  t_of (pt_cmp (pc_dnotin hu pe_w pe_w) hm) (hx σ H P h g _ fun v1 H1 P1 e1 h1 r1 => ho σ H1 P1 h1 (g.ex e1) _ fun v2 H2 P2 e2 h2 r2 => by
    cases ri_key r1
    obtain ⟨p, rfl, q1 | ⟨v, d', q1, q2, q3⟩⟩ := r.get h2 r2 k
    · exact ⟨p, none, rfl, q1.2, _, rfl, by have := q H2 P2 (e1.trans e2) h2; rw [q1.1] at this; exact this⟩
    · exact ⟨p, some v, rfl, q2, _, rfl, by have := q H2 P2 (e1.trans e2) h2; rw [q1] at this; exact this⟩)
/-! ### what a store does to the contents -/
theorem valD_put (es : DC) (k j : Key) (d : PyData) : valD (putD es k d) j = if j = k then some d else valD es j := by
  have nn : ∀ (es : DC), valD es k = none → valD (es ++ [(k, d)]) j = if j = k then some d else valD es j := fun es => by
    induction es with
    | nil =>
      intro _
      by_cases e : k = j
      · rw [if_pos e.symm]
        unfold valD
        rw [List.nil_append, List.find?_cons_of_pos (by exact decide_eq_true e)]
        rfl
      · rw [if_neg (fun q => e q.symm)]
        unfold valD
        rw [List.nil_append, List.find?_cons_of_neg (by simpa using e)]
    | cons c s ih =>
      intro h
      by_cases e : c.1 = j
      · have ne : ¬ j = k := fun q => by
          unfold valD at h
          rw [List.find?_cons_of_pos (by exact decide_eq_true (e.trans q))] at h
          cases h
        rw [if_neg ne]
        unfold valD
        rw [List.cons_append, List.find?_cons_of_pos (by exact decide_eq_true e), List.find?_cons_of_pos (by exact decide_eq_true e)]
      · have h' : valD s k = none := by
          unfold valD at h ⊢
          by_cases e2 : c.1 = k
          · rw [List.find?_cons_of_pos (by exact decide_eq_true e2)] at h; cases h
          · rw [List.find?_cons_of_neg (by simpa using e2)] at h; exact h
        have a : valD ((c :: s) ++ [(k, d)]) j = valD (s ++ [(k, d)]) j := by
          unfold valD
          rw [List.cons_append, List.find?_cons_of_neg (by simpa using e)]
        have b : valD (c :: s) j = valD s j := by
          unfold valD
          rw [List.find?_cons_of_neg (by simpa using e)]
        rw [a, b]
        exact ih h'
  have mm : ∀ (es : DC), valD (es.map fun kv => if kv.1 = k then (kv.1, d) else kv) j = if j = k then (valD es j).map (fun _ => d) else valD es j := fun es => by
    induction es with
    | nil => simp [valD]
    | cons c s ih =>
      by_cases e2 : c.1 = k
      · rw [List.map_cons, if_pos e2]
        by_cases e : c.1 = j
        · rw [if_pos (e.symm.trans e2)]
          unfold valD
          rw [List.find?_cons_of_pos (by exact decide_eq_true e), List.find?_cons_of_pos (by exact decide_eq_true e)]
          rfl
        · rw [if_neg (fun q => e (e2.trans q.symm))]
          rw [if_neg (fun q => e (e2.trans q.symm))] at ih
          unfold valD at ih ⊢
          rw [List.find?_cons_of_neg (by simpa using e), List.find?_cons_of_neg (by simpa using e)]
          exact ih
      · rw [List.map_cons, if_neg e2]
        by_cases e : c.1 = j
        · rw [if_neg (fun q => e2 (e.trans q))]
          unfold valD
          rw [List.find?_cons_of_pos (by exact decide_eq_true e), List.find?_cons_of_pos (by exact decide_eq_true e)]
        · unfold valD at ih ⊢
          rw [List.find?_cons_of_neg (by simpa using e), List.find?_cons_of_neg (by simpa using e)]
          exact ih
  have ay : (es.any fun kv => decide (kv.1 = k)) = (valD es k).isSome := by
    unfold valD
    rw [Option.isSome_map, Bool.eq_iff_iff, List.find?_isSome, List.any_eq_true]
  unfold putD
  by_cases e : (es.any fun kv => decide (kv.1 = k)) = true
  · rw [if_pos e, mm]
    by_cases q : j = k
    · rw [if_pos q, if_pos q, q]
      rw [ay] at e
      obtain ⟨y, hy⟩ := Option.isSome_iff_exists.mp e
      rw [hy]
      rfl
    · rw [if_neg q, if_neg q]
  · rw [if_neg e]
    refine nn es ?_
    rw [ay] at e
    cases h : valD es k with
    | none => rfl
    | some y => rw [h] at e; exact absurd rfl e
theorem putD_new {es : DC} {k : Key} (d : PyData) (h : valD es k = none) : putD es k d = es ++ [(k, d)] := by
  have ay : ¬ (es.any fun kv => decide (kv.1 = k)) = true := fun q => by
    obtain ⟨c, hc, e⟩ := List.any_eq_true.mp q
    unfold valD at h
    rw [Option.map_eq_none_iff] at h
    exact (List.find?_eq_none.mp h c hc) e
  unfold putD
  rw [if_neg ay]
theorem dsput_last {Δ : Ds} {p : Addr} {es es' : DC} (nd : ((Δ ++ [(p, es)]).map Prod.fst).Nodup) : (Δ ++ [(p, es)]).put p es' = Δ ++ [(p, es')] := by
  unfold Ds.put
  rw [List.map_append]
  rw [List.map_append] at nd
  congr 1
  · have : (Δ.map fun c => if c.1 = p then (p, es') else c) = Δ.map id := List.map_congr_left fun c hc => if_neg fun e => (List.nodup_append.mp nd).2.2 c.1 (List.mem_map.mpr ⟨c, hc, rfl⟩) p (by simp) e
    rw [this, List.map_id]
  · simp
theorem dsput_one {p : Addr} {es es' : DC} : Ds.put [(p, es)] p es' = [(p, es')] := by
  simp [Ds.put]
end
end Kt

/-! Kug: {k: v for x, y in a walk of data}. -/
namespace Kt
open PySem PySem.Spec PyProof PyProof.Rows L2
section
variable {X : Cx} {N : Ent} {ρ ρ' : Rho} {M M1 M2 : Mem} {a b e tg iter : Expr} {pos : Pos}
theorem ia_enumL {p : Pos} {elts : List Expr} {kk : Nat} {tpos : Pos} {ds : List PyData} (hm : X.mg "enumerate" = none) (ha : EJ X N ρ M a (.d (.list ds)) M1) (hg : Gl X "enumerate" := by rfl) (hs : starEach [a] X.env = [(false, eval a X.env)] := by rfl) :
    IA X N ρ M (.Tuple elts kk tpos) (.Call (.Name "enumerate" p) [a] [] pos) (enumD ds) M1 := by
  refine ⟨_, pi_enum hg hm pa_w hs, fun σ H P hh g R q => ?_⟩
  refine aj_cons ha aj_nil hs σ H P hh g _ fun vs H1 P1 e1 h1 r1 => ?_
  obtain ⟨x, rfl, r2⟩ := ri1 r1
  obtain ⟨t, xs, rfl, x1, x2⟩ := ri_lst r2
  have xl := dnAll_len x2
  refine ⟨t, xs, rfl, .inl (.inl (h1.ex _ _ x1)), q _ H1 P1 e1 h1 ⟨fun i N H P' M' hi h2 e2 => ?_, fun N H P' M' h2 e2 => ?_, fun i N H v H' P' M' hi h2 e2 y => ?_⟩⟩
  · rw [enumD_len, ← xl] at hi
    exact ⟨xs, _, .inl (.inl (h2.ex _ _ (e2 _ _ x1))), List.getElem?_eq_getElem hi⟩
  · exact ⟨xs, .inl (.inl (h2.ex _ _ (e2 _ _ x1))), by rw [enumD_len, xl]; exact Nat.le_refl _⟩
  · obtain ⟨T, u, rfl, hT, rfl, hx⟩ := y
    have hx := hx xs (.inl (.inl (h2.ex _ _ (e2 _ _ x1))))
    rw [enumD_len] at hi
    obtain ⟨v', ev, dv⟩ := dnAll_get x2 (List.getElem?_eq_getElem hi)
    rw [hx] at ev
    cases Option.some.inj ev
    obtain ⟨h5, e5⟩ := h2.pers (o := .tup [.int (i : Nat), u]) hT
    exact ⟨_, _, enumD_get (List.getElem?_eq_getElem hi), e5, h5, .tup upd_same (.cons (.int _) (.cons (dn_ex e5 _ _ (dn_ex e2 _ _ dv)) .nil))⟩
theorem rj_key {P : Hp} {v : V} {k : Key} (h : RepI P v (.d (kD k))) : v = kV k := by
  cases k with
  | inl n => exact ri_int h
  | inr x => exact ri_str h
/-- {k: v for x, y in walk} -/
theorem ej_dc2 {kx vx : Expr} {scope : Scope} {x y : Str} {px py tp : Pos} {tk : Nat} (n1 n2 : Nat) {ds : List PyData} (A : Nat → DC) (hc : X.calm = true) (hN : X.N.Nodup) (ne : n1 ≠ n2) (hi : IA X N ρ M (.Tuple [.Name x px, .Name y py] tk tp) iter ds M1)
    (hA0 : A 0 = []) (hz : ds.length ≤ 100000)
    (step : ∀ (m : Nat) d, ds[m]? = some d → ∃ u v k z, d = .tuple [u, v] ∧ A (m + 1) = putD (A m) k z ∧ (A m).length ≤ m ∧
      (∀ N' s H C cl fp, EJ (X.blk s H scope (compEnvC scope cl C X.env) fp) N' ((ρ.set n1 (some (.d u))).set n2 (some (.d v))) M1 kx (.d (kD k)) M1) ∧ (∀ N' s H C cl fp, EJ (X.blk s H scope (compEnvC scope cl C X.env) fp) N' ((ρ.set n1 (some (.d u))).set n2 (some (.d v))) M1 vx (.d z) M1))
    (ok : BlkOk X.N X.env.scope scope [(x, n1), (y, n2)] := by exact blkOk_by (by kernel_rfl))
    (hgn : ∀ (s : Shared) (H : Hp) (C : Addr) (cl : List (Str × Addr)) (fp : List Addr), PG (X.blk s H scope (compEnvC scope cl C X.env) fp) (.Tuple [.Name x px, .Name y py] tk tp) (gTup X.K 2 (gCons (gName n1) (gCons (gName n2) gNil))) := by exact fun _ _ _ _ _ => pg_tup (by rfl) (pgs_cons (pg_name (by assumption) rfl (Or.inl rfl)) (pgs_cons (pg_name (by assumption) rfl (Or.inl rfl)) pgs_nil)))
    (hf : ∀ x, foldedSetIterable iter X.env x = pure x := by intro _; rfl) : EJ X N ρ M (.DictComp kx vx [⟨.Tuple [.Name x px, .Name y py] tk tp, iter, [], 0⟩] scope pos) (.d (.dict (esD (A ds.length)))) M1 := fun σ H P hh g Q q => by
  obtain ⟨ti, pi, hi⟩ := hi
  refine e_of (pe_dc hc hN pi ok hgn (fun _ _ _ _ _ => pts_nil) (tk := wBE X scope kx) (fun s H C cl fp => ⟨fun pins s1 σ1 H1 Q1 I1 h1 => h1 s H C cl fp pins s1 I1⟩) (tv := wBE X scope vx) (fun s H C cl fp => ⟨fun pins s1 σ1 H1 Q1 I1 h1 => h1 s H C cl fp pins s1 I1⟩) hf) ?_
  refine hi σ H P hh g _ fun J H1 P1 e1 h1 W D hD => ?_
  refine ⟨fun i m H' => m = ds.length - i ∧ i ≤ ds.length ∧ ∃ P', Holds N P' H' M1 ∧ DOk N P' H' M1 [(D, A i)] ∧ Ex P1 P', ⟨ds.length, by simp, Nat.zero_le _, P1, h1.dnew hD, by rw [hA0]; exact DOk.nil.dnew h1 hD, Ex.refl _⟩, ?_⟩
  rintro i m H' ⟨rfl, hil, P', h2', d2', e2'⟩
  by_cases hlt : i < ds.length
  · refine .inr ⟨W.go i N H' P' M1 hlt h2' e2', fun H' => i + 1 ≤ ds.length ∧ ∃ P', Holds N P' H' M1 ∧ DOk N P' H' M1 [(D, A (i + 1))] ∧ Ex P1 P', fun H'' p' => ⟨ds.length - (i + 1), by omega, rfl, p'.1, p'.2⟩, fun x' H'' hy => ?_⟩
    obtain ⟨P2, d, ed, e3', h2i, r3⟩ := W.yld i (inner P' H' M1) H' x' H'' P' M1 hlt (enter2 h2') e2' hy
    have h2 := leave2 h2' h2i
    have dd := d2'.leave h2i
    have e2 := e2'.trans e3'
    obtain ⟨u, v, k, z, rfl, eA, lA, S1, S2⟩ := step i d ed
    refine tgc2 n1 n2 ne x' σ H'' P2 _ h2 (g.ex (e1.trans e2)) r3 _ fun σ2 gs hw2 => ⟨hw2, ?_⟩
    unfold tYes
    dsimp only
    rw [if_pos rfl]
    intro s H0 C cl fp
    refine S1 (inner P2 H'' M1) s H0 C cl fp _ H'' P2 (enter2 h2) gs _ fun yk H4 P4 e4 h4i r4 => ?_
    have h4 := leave2 h2 h4i
    have d4 := dd.leave h4i
    intro s H0 C cl fp
    refine S2 (inner P4 H4 M1) s H0 C cl fp _ H4 P4 (enter2 h4) (gs.ex e4) _ fun zv H5 P5 e5 h5i r5 => ?_
    have h5 := leave2 h4 h5i
    have d5 := d4.leave h5i
    obtain ⟨kvs, ek, rk⟩ := d5.ob (D, A i) (List.mem_singleton.mpr rfl)
    refine ⟨kvs, k, rj_key r4, ek, by rw [rk.len]; exact Nat.lt_of_lt_of_le (Nat.lt_of_le_of_lt lA (Nat.lt_of_lt_of_le hlt hz)) (by decide), hlt, P5, h5.dput d5 (List.mem_singleton.mpr rfl), ?_, (e2.trans e4).trans e5⟩
    have d6 := d5.dput (List.mem_singleton.mpr rfl) (rk.put (k0 := k) r5)
    rw [eA]
    have ep : Ds.put [(D, A i)] D (putD (A i) k z) = [(D, putD (A i) k z)] := by
      unfold Ds.put
      simp
    rw [ep] at d6
    exact d6
  · have ei : i = ds.length := by omega
    subst ei
    refine .inl ⟨W.stop N H' P' M1 h2' e2', ?_⟩
    obtain ⟨P3, e3, dn, h3, _⟩ := h2'.dfreeze d2' (List.mem_singleton.mpr rfl)
    exact q (.ref D) H' P3 ((e1.trans e2').trans e3) h3 dn
end
end Kt

/-! Kuh: reversed(xs) of data -/
namespace Kt
open PySem PySem.Spec PyProof PyProof.Rows L2
section
variable {X : Cx} {N : Ent} {ρ ρ' : Rho} {M M1 M2 : Mem} {a b e tg iter : Expr} {pos : Pos}
theorem rev_get {ds : List PyData} {i : Nat} {d : PyData} (hi : i < ds.length) (h : ds[ds.length - 1 - i]? = some d) : ds.reverse[i]? = some d := by
  rw [List.getElem?_reverse hi]
  exact h
theorem iw_rev {p : Pos} {ds : List PyData} (hm : X.mg "reversed" = none) (ha : EJ X N ρ M a (.d (.list ds)) M1) (hg : Gl X "reversed" := by rfl) (hs : starEach [a] X.env = [(false, eval a X.env)] := by rfl) :
    IW X N ρ M tg (.Call (.Name "reversed" p) [a] [] pos) ds.reverse M1 := by
  refine ⟨_, pi_reversed hg hm pa_w hs, fun σ H P hh g R q => ?_⟩
  refine aj_cons ha aj_nil hs σ H P hh g _ fun vs H1 P1 e1 h1 r1 => ?_
  obtain ⟨x, rfl, r2⟩ := ri1 r1
  obtain ⟨t, xs, rfl, x1, x2⟩ := ri_lst r2
  have xl := dnAll_len x2
  refine ⟨t, xs, rfl, .inl (.inl (h1.ex _ _ x1)), q _ H1 P1 e1 h1 ⟨fun i H P' M' hi h2 e2 _ => ?_, fun H P' M' h2 e2 _ => ?_, fun i H v H' P' M' hi h2 e2 _ y => ?_⟩⟩
  · rw [List.length_reverse, ← xl] at hi
    exact ⟨hi, xs, _, .inl (.inl (h2.ex _ _ (e2 _ _ x1))), List.getElem?_eq_getElem (show xs.length - 1 - i < xs.length by omega)⟩
  · show xs.length ≤ ds.reverse.length
    rw [List.length_reverse, xl]
    exact Nat.le_refl _
  · obtain ⟨rfl, hx⟩ := y
    have hx := hx xs (.inl (.inl (h2.ex _ _ (e2 _ _ x1))))
    rw [List.length_reverse] at hi
    have lt : ds.length - 1 - i < ds.length := by omega
    obtain ⟨v', ev, dv⟩ := dnAll_get x2 (List.getElem?_eq_getElem lt)
    rw [xl, ev] at hx
    cases Option.some.inj hx
    exact ⟨P', _, rev_get hi (List.getElem?_eq_getElem lt), Ex.refl _, h2, dn_ex e2 _ _ dv⟩
end
end Kt

/-! Kui: xs.pop() -/
namespace Kt
open PySem PySem.Spec PyProof PyProof.Rows L2
section
variable {X : Cx} {N : Ent} {ρ ρ' : Rho} {M M1 M2 : Mem} {a b e tg iter : Expr} {pos : Pos} {rest : List Stmt} {Z : Post}
theorem erase_last {α : Type} (l : List α) : l.eraseIdx (l.length - 1) = l.dropLast := by
  rw [List.eraseIdx_eq_take_drop_succ, List.dropLast_eq_take]
  by_cases h : l.length = 0
  · rw [List.length_eq_zero_iff.mp h]
    rfl
  · rw [List.drop_eq_nil_of_le (by omega), List.append_nil]
theorem sj_pop {ap epos : Pos} {p : Addr} {is : List It} (ho : EJ X N ρ M a (.v (.ref p)) M) (hm : (p, is) ∈ M) (hn : is ≠ []) (hr : SJ X N ρ (M.put p is.dropLast) rest Z) (hs : swapsWith (.Call (.Attribute a "pop" ap) [] [] pos) none epos.line X.env = pure false := by rfl)
    (ps : PE X (.Call (.Attribute a "pop" ap) [] [] pos) (tBM0 X.K "list" rPop (wE X a)) := by exact pe_bm0 PySem.F.plainAttrs_list PySem.F.slot_list_pop PySem.F.type_list_pop mt_pop pe_w) : SJ X N ρ M (.Expr (.Call (.Attribute a "pop" ap) [] [] pos) epos :: rest) Z := sj_cons fun σ H P hh g D E tk z => by
  refine s_of (ps_expr ps hs) (ho σ H P hh g _ fun v H1 P1 e1 h1 r1 => ?_)
  cases (show v = .ref p from r1)
  obtain ⟨ys, ey, _⟩ := h1.cell hm
  refine ⟨.inl ⟨rfl, ys, .inl (.inl ey)⟩, ?_⟩
  obtain ⟨xs, e3, r4⟩ := h1.cell hm
  have z4 := r4.len
  have p4 : 0 < is.length := List.length_pos_iff.mpr hn
  have hx : xs.length - 1 < xs.length := by omega
  refine ⟨p, xs, xs[xs.length - 1], rfl, rfl, e3, List.getElem?_eq_getElem hx, ?_⟩
  have k := r4.erase (is.length - 1)
  rw [erase_last, ← z4, erase_last] at k
  exact z.nx ρ _ σ _ P1 hr e1 (h1.write hm k) (g.ex e1)
end
end Kt

/-! Kuj: x not in xs, xs a list of numbers of one's own -/
namespace Kt
open PySem PySem.Spec PyProof PyProof.Rows L2
section
variable {X : Cx} {N : Ent} {ρ ρ' : Rho} {M M1 M2 : Mem} {a b e tg iter : Expr} {pos : Pos} {rest : List Stmt} {Z : Post}
theorem tj_ninO {n : Int} {ns : List Int} {p : Addr} (ha : EJ X N ρ M a (dI n) M1) (hb : EJ X N ρ M1 b (.v (.ref p)) M2) (hM : (p, (ns.map PyData.int).map It.d) ∈ M2) (hm : behindInMarks .NotIn b = false := by rfl) : TJ X N ρ M (.Compare a [.NotIn] [b] pos) (!inI n ns) M2 := tj_cmp op_notIn_seq hm ha hb fun x y H P h rx ry Q q => by
  cases ri_int rx
  cases (show y = .ref p from ry)
  obtain ⟨xs, e3, r4⟩ := h.cell hM
  have h2 := r4.to_all
  have e := DnAll.ints h2
  subst e
  refine ⟨p, _, rfl, .inl (.inl (.inl e3)), rfl, flat_ints ns, ?_⟩
  rw [if_pos rfl, inV_int]
  exact q _ H P (Ex.refl P) h (.bl _)
theorem ej_notNo {d : PyData} (ha : EJ X N ρ M a (.d d) M1) (hb : EJ X N ρ M1 b (.d .none) M2) : EJ X N ρ M (.Compare a [.IsNot] [b] pos) (dB (!decide (tyD d = "NoneType"))) M2 := ej_cmp op_notN (nomark _) ha hb fun x y H P h rx ry Q q => by
  cases ri_non ry
  refine ⟨rfl, ?_⟩
  have e : decide (x = V.non) = decide (tyD d = "NoneType") := by
    cases (show Dn P x d from rx) <;> rfl
  rw [e]
  exact q _ H P (Ex.refl P) h (.bl _)
end
end Kt

/-! Kuk: instances as values of expressions (their address told by no name) -/
namespace Kt
open PySem PySem.Spec PyProof PyProof.Rows L2
def insE (C : Addr) (fs : Flds) : It := .w (fun v P => ∃ a, v = .ref a ∧ InsP C a fs P) fun v P P' e ⟨a, h1, h2⟩ => ⟨a, h1, InsP.ex P P' e h2⟩
section
variable {X : Cx} {N : Ent} {ρ ρ' : Rho} {M M1 M2 M3 Mc Mc' Mr : Mem} {a b e tg iter : Expr} {i : It} {pos p : Pos} {rest : List Stmt} {Z : Post}
/-- C(e, ..) as a value -/
theorem ej_make {nm : Str} {f C : Addr} {l : Nat} {IC : Ic} {IR : Ir} {es : List Expr} {is : List It} {fs : Flds} (F : HoldI X.prog X.w X.K X.mg X.base f C l IC IR) (mk : Mk X.K C f) (hr : Room (l + 1) X.A) (hm : X.mg nm = some (.ref C)) (ha : AJ X N ρ M (e :: es) is M1) (hC : IC is fs)
    (hg : Gl X nm := by rfl) (hdb : (nm == ("__debug__" : Str)) = false := by decide) (he : starEach (e :: es) X.env = (false, eval e X.env) :: starEach es X.env := by rfl) (hpl : (backTo pos (starEach es X.env)).any (·.1) = false := by rfl) :
    EJ X N ρ M (.Call (.Name nm p) (e :: es) [] pos) (insE C fs) M1 := fun σ H P hh g Q q => by
  obtain ⟨fd, ps, F1, hkp, hb⟩ := F.ex
  refine e_of (pe_make mk F1 hr hg hm hb .nil passL pa_w hdb he hpl) (ha σ H P hh g _ fun vs H1 P1 e1 h1 r1 => fun x dx nx nd ne => ?_)
  rw [List.append_nil]
  refine ⟨P1, is, x, dx, H1, vs, rfl, rfl, nx, nd, ne, Holds.enter (Mc := []) (Mr := M1) h1, r1, .inl ⟨fs, hC, fun H' P' h' ip => ⟨rfl, ?_⟩⟩⟩
  have h2 := Holds.leave (Mc := []) (Mc' := []) (Mr := M1) h1 h'
  exact q _ _ P' (e1.trans h'.ex0) h2 ⟨x, rfl, ip⟩
/-- a call whose first argument is such an instance -/
theorem ej_callE {x : Str} {l : Nat} {C : Co} {Cl : Addr} {fs : Flds} {es : List Expr} {is : List It} (F : Def X.prog X.w X.K X.mg X.base x l C) (hr : Room l X.A) (ha : AJ X N ρ M (e :: es) (insE Cl fs :: is) M1) (hM : M1 = Mc ++ Mr) (hC : ∀ a, C (insI Cl a fs :: is) Mc i Mc') (hM2 : M2 = Mc' ++ Mr)
    (hg : Gl X x := by rfl) (hdb : (x == ("__debug__" : Str)) = false := by decide) (he : starEach (e :: es) X.env = (false, eval e X.env) :: starEach es X.env := by rfl) (hpl : (backTo pos (starEach es X.env)).any (·.1) = false := by rfl) :
    EJ X N ρ M (.Call (.Name x p) (e :: es) [] pos) i M2 := fun σ H P hh g Q q => by
  obtain ⟨f, fd, ps, F1, hm, hk, hb⟩ := F.ex
  refine e_of (pe_call F1 hr hg hm hk hb .nil pass0 pa_w hdb he hpl) (ha σ H P hh g _ fun vs H1 P1 e1 h1 r1 => ?_)
  subst hM hM2
  match vs, r1 with
  | v :: vs, ⟨⟨a, hv, ip⟩, r2⟩ =>
    subst hv
    refine ⟨P1, insI Cl a fs :: is, Mc, i, Mc', h1.enter, ?_, hC a, fun v H' P' h' r' => ?_⟩
    · rw [List.append_nil]
      exact ⟨⟨rfl, ip⟩, r2⟩
    · exact q v H' P' (e1.trans h'.ex0) (h1.leave h') r'
/-- from here on its address has a name -/
theorem sj_openE (n : Nat) {Cl : Addr} {fs : Flds} {sts : List Stmt} (hρ : ρ[n]? = some (some (insE Cl fs))) (hr : ∀ a, SJ X N (ρ.set n (some (insI Cl a fs))) M sts Z) : SJ X N ρ M sts Z := fun σ H P hh g D E tk z => by
  obtain ⟨v, ev, rv⟩ := g.2 n _ hρ
  obtain ⟨a, rfl, ip⟩ := rv
  have es : σ.set n (some (.ref a)) = σ := by
    refine List.ext_getElem? fun m => ?_
    by_cases q : n = m
    · subst q
      have l : n < σ.length := (List.getElem?_eq_some_iff.mp ev).1
      rw [List.getElem?_set_self l, ev]
    · rw [List.getElem?_set_ne q]
  have g' := g.set (it := insI Cl a fs) (v := .ref a) ⟨rfl, ip⟩ n
  rw [es] at g'
  exact hr a σ H P hh g' D E tk z
/-- a def whose global name is another one than its own -/
theorem def_okA {P : Program} {w : World} {K : PySem.W.Frag} {mg : Str → Option Value} {base : Heap} {x y qual : Str} {st : Stmt} {f : Addr} {fd : FuncData} {NN ps : List Str} {l : Nat} {C : Co} (F : Fun K y qual st f fd) (S : FnScope NN ps (defScope st))
    (hm : mg x = some (.ref f)) (hb : Binds K fd ps []) (len : ∀ is M i M', C is M i M' → is.length = ps.length ∧ M'.map Prod.fst = M.map Prod.fst)
    (body : ∀ X : Cx, (∃ cdv A outer s H E, X = (cxOf CX0 P w K mg base NN qual (defScope st) f cdv A outer s H E).nox ∧ Room l X.A) → ∀ N is M i M', N.F = M.map Prod.fst → C is M i M' → SJ X N (rho NN is) M (defBody st) (retZ i M')) : Def P w K mg base x (l + 1) C := by
  refine ⟨f, fd, ps, F.ok S (fun vs H Q E h => ?_) (fun cdv A outer s H vs Q E hr h => ?_), hm, F.kp, hb⟩
  · obtain ⟨P0, is, M, i, M', _, r, hC, _⟩ := h
    rw [r.len]
    exact (len _ _ _ _ hC).1
  · obtain ⟨P0, is, M, i, M', h0, r, hC, q⟩ := h
    have back : ∀ {P' H' M'' L}, M'' = M' ++ L → Holds (inner P0 H M) P' H' M'' → Holds (inner P0 H M) P' H' M' := fun {P' H' M'' L} e hh => by
      subst e
      refine hh.sub (fun c hc => List.mem_append_left _ hc) ?_ fun a ha => ?_
      · have := hh.nd
        rw [List.map_append] at this
        exact (List.nodup_append.mp this).1
      · rw [(len _ _ _ _ hC).2]
        exact ha
    refine ⟨_, pss_w, ?_⟩
    have es : L2.start NN vs = vs.map some ++ List.replicate (NN.length - is.length) none := by
      unfold L2.start
      rw [r.len]
    rw [es]
    refine body _ ⟨cdv, A, outer, s, H, E, rfl, hr⟩ (inner P0 H M) is M i M' rfl hC _ H P0 h0 (slots_start _ r) _ E0 takes0 ⟨fun ρ' M'' σ' H' P' a e hh g => ?_, fun i' M'' v H' P' a e hh rr => ?_, fun _ _ _ _ _ a => a.elim, fun _ _ _ _ _ a => a.elim, fun _ _ _ _ _ _ _ a => a.elim⟩
    · obtain ⟨rfl, L, eL⟩ := a
      exact q _ H' P' (back eL hh) .non
    · obtain ⟨rfl, L, eL⟩ := a
      exact q _ H' P' (back eL hh) rr
end
end Kt

/-! Kul: any(xs) of numbers -/
namespace Kt
open PySem PySem.Spec PyProof PyProof.Rows L2
def rAnyI (K : PySem.W.Frag) : List V → Hp → VK → Prop := fun vs H Q => ∃ (a : Addr) (ns : List Int), vs = [V.ref a] ∧ SqL K H a (ns.map V.int) ∧ Q (.bl (ns.any fun n => !decide (n = 0))) H
theorem any_ints (ns : List Int) : (ns.map PyData.int).any PyData.truthy = ns.any fun n => !decide (n = 0) := by
  induction ns with
  | nil => rfl
  | cons n ns ih =>
    rw [List.map_cons, List.any_cons, List.any_cons, ih]
    congr 1
theorem cr_anyI {X : Cx} (hc : X.calm = true) : CallR X (.builtin "any") (rAnyI X.K) := by
  intro pins s σ H vs us Q I r h
  obtain ⟨a, ns, rfl, hs, q⟩ := h
  obtain ⟨its, rv, hl, _⟩ := I.list hs
  rw [Vals.ref1 r]
  have hI : IntsAre its ns := rv.ints
  have hr : ReadsAll s.heap its.toArray.toList (ns.map .int) [] := by simpa using hI.reads s.heap
  refine PySem.W.any_list_data (I.ok.hd hc) hl.isList hr (by
    have : ∀ ns : List Int, PyData.plainAll (ns.map .int) = true := fun ns => by
      induction ns with
      | nil => rfl
      | cons n ns ih => exact ih
    exact this ns) (fun x hx => by
    obtain ⟨n, _, rfl⟩ := List.mem_map.mp hx
    trivial) fun h' tk hk => ?_
  refine ⟨.bl _, H, I.kept hk, ?_, q⟩
  show Value.bool _ = Value.bool _
  rw [any_ints]
section
variable {X : Cx} {N : Ent} {ρ ρ' : Rho} {M M1 M2 : Mem} {a b e : Expr} {pos : Pos}
theorem ej_anyI {p q : Pos} {ns : List Int} (hc : X.calm = true) (hm : X.mg "any" = none) (ha : EJ X N ρ M a (.d (.list (ns.map PyData.int))) M1) (hg : Gl X "any" := by rfl) (he : starEach [a] X.env = [(false, eval a X.env)] := by rfl) (hpl : (backTo q (starEach ([] : List Expr) X.env)).any (·.1) = false := by rfl) :
    EJ X N ρ M (.Call (.Name "any" p) [a] [] q) (dB (ns.any fun n => !decide (n = 0))) M1 := ej_callB (cr_anyI hc) hm (by decide +kernel) (aj_cons ha aj_nil he) (fun vs H P h rr Q q => by
  obtain ⟨x, rfl, r⟩ := ri1 rr
  obtain ⟨y, ys, rfl, h1, h2⟩ := ri_lst r
  have e := DnAll.ints h2
  subst e
  exact ⟨y, ns, rfl, .inl (.inl (h.ex _ _ h1)), q _ H P (Ex.refl P) h (.bl _)⟩) hg (by decide) (by decide) he hpl
end
end Kt

/-! Kum: a, b = f(..) where f hands back something of which a relation tells; {} as data -/
namespace Kt
open PySem PySem.Spec PyProof PyProof.Rows L2
section
variable {X : Cx} {N : Ent} {ρ : Rho} {M M1 Mc Mr : Mem} {e : Expr} {es : List Expr} {is : List It} {p pos : Pos} {rest : List Stmt} {Z : Post}
theorem sj_asgN {tg : Expr} {y : Str} {l : Nat} {A : Pre} {B : Co} (F : DefN X.prog X.w X.K X.mg X.base y l A B) (hr : Room l X.A) (ha : AJ X N ρ M (e :: es) is M1) (hM : M1 = Mc ++ Mr) (hA : A is Mc)
    (hk : ∀ i Mc', B is Mc i Mc' → ∃ ρ', GJ X N tg i ρ ρ' ∧ SJ X N ρ' (Mc' ++ Mr) rest Z)
    (hg : Gl X y := by rfl) (hdb : (y == ("__debug__" : Str)) = false := by decide) (he : starEach (e :: es) X.env = (false, eval e X.env) :: starEach es X.env := by rfl) (hpl : (backTo pos (starEach es X.env)).any (·.1) = false := by rfl) {spos : Pos}
    (hs : swapsWithSole [tg] (.Call (.Name y p) (e :: es) [] pos) spos.line X.env = pure false := by rfl) (hw : swappedStores [tg] (.Call (.Name y p) (e :: es) [] pos) X.env = pure none := by rfl)
    (h1 : (assignEach [tg] X.env).map (·.2) = [assign tg X.env] := by rfl) :
    SJ X N ρ M (.Assign [tg] (.Call (.Name y p) (e :: es) [] pos) spos :: rest) Z := sj_cons fun σ H P hh g D E tk z => by
  obtain ⟨f, fd, ps, F1, hm, hkp, hb⟩ := F.ex
  refine s_of (ps_asg (pe_call F1 hr hg hm hkp hb .nil pass0 pa_w hdb he hpl) pg_w hs hw h1) (ha σ H P hh g _ fun vs H1 P1 e1 h1 r1 => ?_)
  subst hM
  refine ⟨P1, is, Mc, h1.enter, ?_, hA, fun i M' v H' P' hB h' r' => ?_⟩
  · rw [List.append_nil]; exact r1
  · obtain ⟨ρ', hgj, hsj⟩ := hk i M' hB
    exact hgj v σ H' P' (M' ++ Mr) (h1.leave h') (g.ex (e1.trans h'.ex0)) r' _ fun σ' g' => z.nx ρ' (M' ++ Mr) σ' H' P' hsj (e1.trans h'.ex0) (h1.leave h') g'
theorem ej_dict0 : EJ X N ρ M (.Dict [] [] pos) (.d (.dict [])) M := fun σ H P hh g Q q =>
  e_of pe_dnewK fun p hp => by
    obtain ⟨h2, e2⟩ := hh.pers (o := .dK []) hp
    exact q _ _ _ e2 h2 (.dic (.inl upd_same) .nil)
theorem gj_lst {ρ' : Rho} {ds : List PyData} {kk : Nat} (hc : X.calm = true) (h : GsJ X N es ds ρ ρ') (hl : es.length = ds.length := by rfl)
    (hn : (assignEach es X.env).length = es.length := by rfl) (hst : (assignEach es X.env).findIdx? (·.1) = none := by rfl) : GJ X N (.Tuple es kk pos) (.d (.list ds)) ρ ρ' := fun v σ H P M hh g r Q q => by
  obtain ⟨t, pt, ht⟩ := h
  obtain ⟨a, xs, rfl, h1, h2⟩ := ri_lst r
  exact g_of (pg_unl hc pt hn hst) ⟨a, xs, rfl, .inl (.inl (hh.ex _ _ h1)), by rw [dnAll_len h2, hl], ht xs σ H P M hh g h2 Q q⟩
end
end Kt

/-! Kun: objects of one's own of any kind (OD), beside the lists of one's own: TOk, UJ, as Kts does it for dicts; dicts with tuple keys. -/
namespace Kt
open PySem PySem.Spec PyProof PyProof.Rows L2

structure OD where
  rep : Hp → HO → Prop
  ex : ∀ {P P' : Hp} {o : HO}, Ex P P' → rep P o → rep P' o
  nf : ∀ {P : Hp} {o : HO}, rep P o → ∀ od kvs, o ≠ .frz od (.dK kvs)
  nd : ∀ {P : Hp} {o : HO}, rep P o → ∀ kvs, o ≠ .lst kvs
abbrev Os := List (Addr × OD)
structure TOk (N : Ent) (P H : Hp) (M : Mem) (Θ : Os) : Prop where
  pn : ∀ c ∈ Θ, P c.1 = none
  n0 : ∀ c ∈ Θ, N.H0 c.1 = none
  nm : ∀ c ∈ Θ, c.1 ∉ M.map Prod.fst
  ob : ∀ c ∈ Θ, ∃ o, H c.1 = some o ∧ c.2.rep P o
  nd : (Θ.map Prod.fst).Nodup
/-- what an inner point knows of them -/
def KnT (N : Ent) (Θ : Os) : Prop := ∀ c ∈ Θ, c.1 ∉ N.F ∧ ∃ o, N.H0 c.1 = some o ∧ c.2.rep N.P0 o
section
variable {N : Ent} {P P' H H' : Hp} {M M' : Mem} {Θ Θ' : Os}
theorem TOk.nil : TOk N P H M [] := ⟨nofun, nofun, nofun, nofun, List.nodup_nil⟩
theorem TOk.kn (h : TOk N P H M Θ) : KnT (inner P H M) Θ := fun c hc => ⟨h.nm c hc, h.ob c hc⟩
theorem TOk.leave (d : TOk N P H M Θ) (h' : Holds (inner P H M) P' H' M') : TOk N P' H' M' Θ := by
  refine ⟨fun c hc => ?_, d.n0, fun c hc q => ?_, fun c hc => ?_, d.nd⟩
  · obtain ⟨o, e, _⟩ := d.ob c hc
    cases q : P' c.1 with
    | none => rfl
    | some u =>
      have := h'.nw c.1 (d.pn c hc) (by rw [q]; exact Option.some_ne_none u)
      rw [show (inner P H M).H0 = H from rfl, e] at this
      cases this
  · obtain ⟨o, e, _⟩ := d.ob c hc
    obtain ⟨c2, hc2, e2⟩ := List.mem_map.mp q
    rcases h'.fs c2 hc2 with k | k
    · exact d.nm c hc (e2 ▸ k)
    · rw [show (inner P H M).H0 = H from rfl, e2, e] at k
      cases k
  · obtain ⟨o, e, r⟩ := d.ob c hc
    exact ⟨o, h'.fr c.1 _ e (d.nm c hc), c.2.ex h'.ex0 r⟩
theorem TOk.new (d : TOk N P H M Θ) (h : Holds N P H M) {p : Addr} {o : HO} {k : OD} (hp : H p = none) (r : k.rep P o) : TOk N P (upd H p o) M (Θ ++ [(p, k)]) := by
  have pn : P p = none := h.no hp
  have nm : p ∉ M.map Prod.fst := fun q => by
    obtain ⟨c2, hc2, e2⟩ := List.mem_map.mp q
    obtain ⟨xs, a, _⟩ := (h.mem c2 hc2).2
    rw [e2, hp] at a
    cases a
  have nD : p ∉ Θ.map Prod.fst := fun q => by
    obtain ⟨c2, hc2, e2⟩ := List.mem_map.mp q
    obtain ⟨xs, a, _⟩ := d.ob c2 hc2
    rw [e2, hp] at a
    cases a
  refine ⟨fun c hc => ?_, fun c hc => ?_, fun c hc => ?_, fun c hc => ?_, ?_⟩
  · rcases List.mem_append.mp hc with k | k
    · exact d.pn c k
    · cases List.mem_singleton.mp k; exact pn
  · rcases List.mem_append.mp hc with k | k
    · exact d.n0 c k
    · cases List.mem_singleton.mp k; exact h.h0_none hp
  · rcases List.mem_append.mp hc with k | k
    · exact d.nm c k
    · cases List.mem_singleton.mp k; exact nm
  · rcases List.mem_append.mp hc with k | k
    · obtain ⟨kvs, a, b⟩ := d.ob c k
      exact ⟨kvs, by rw [upd_ne (ne_of_none a hp)]; exact a, b⟩
    · cases List.mem_singleton.mp k; exact ⟨o, upd_same, r⟩
  · rw [List.map_append]
    refine List.nodup_append.mpr ⟨d.nd, by simp, fun a ha b hb e => ?_⟩
    simp at hb
    subst hb
    exact nD (e ▸ ha)
def Os.put (Θ : Os) (p : Addr) (k : OD) : Os := Θ.map fun c => if c.1 = p then (p, k) else c
theorem osput_fst (Θ : Os) (p : Addr) (k : OD) : (Θ.put p k).map Prod.fst = Θ.map Prod.fst := by
  unfold Os.put
  rw [List.map_map]
  refine List.map_congr_left fun c _ => ?_
  show (if c.1 = p then (p, k) else c).1 = c.1
  by_cases e : c.1 = p
  · rw [if_pos e]; exact e.symm
  · rw [if_neg e]
theorem osput_one {p : Addr} {k k' : OD} : Os.put [(p, k)] p k' = [(p, k')] := by simp [Os.put]
theorem Holds.tput (h : Holds N P H M) (d : TOk N P H M Θ) {p : Addr} {k : OD} (hp : (p, k) ∈ Θ) {o : HO} (nf : ∀ od kvs, o ≠ .frz od (.dK kvs)) : Holds N P (upd H p o) M := by
  have pn := d.pn _ hp
  refine ⟨fun a u e => ?_, h.ex0, fun b u e f => ?_, h.nw, fun c hc => ?_, h.nd, h.mf, h.fs, h.ufu nf, h.pf⟩
  · rw [upd_ne (ne_of_none e pn)]
    exact h.exw a u e
  · have n0 := d.n0 _ hp
    rw [upd_ne (ne_of_none e n0)]
    exact h.fr b u e f
  · obtain ⟨a1, xs, a2, a3⟩ := h.mem c hc
    refine ⟨a1, xs, ?_, a3⟩
    rw [upd_ne fun e => d.nm _ hp (List.mem_map.mpr ⟨c, hc, e⟩)]
    exact a2
theorem TOk.put (d : TOk N P H M Θ) {p : Addr} {k k' : OD} {o : HO} (hp : (p, k) ∈ Θ) (r : k'.rep P o) : TOk N P (upd H p o) M (Θ.put p k') := by
  have mm : ∀ c ∈ Θ.put p k', ∃ c0 ∈ Θ, c0.1 = c.1 ∧ ((c.1 = p ∧ c.2 = k') ∨ (c.1 ≠ p ∧ c = c0)) := fun c hc => by
    obtain ⟨c0, h0, e⟩ := List.mem_map.mp hc
    by_cases q : c0.1 = p
    · rw [if_pos q] at e
      subst e
      exact ⟨c0, h0, q, .inl ⟨rfl, rfl⟩⟩
    · rw [if_neg q] at e
      subst e
      exact ⟨c0, h0, rfl, .inr ⟨q, rfl⟩⟩
  refine ⟨fun c hc => ?_, fun c hc => ?_, fun c hc => ?_, fun c hc => ?_, by rw [osput_fst]; exact d.nd⟩
  · obtain ⟨c0, h0, e, _⟩ := mm c hc
    rw [← e]; exact d.pn c0 h0
  · obtain ⟨c0, h0, e, _⟩ := mm c hc
    rw [← e]; exact d.n0 c0 h0
  · obtain ⟨c0, h0, e, _⟩ := mm c hc
    rw [← e]; exact d.nm c0 h0
  · obtain ⟨c0, h0, e, q | q⟩ := mm c hc
    · rw [q.1, q.2]
      exact ⟨o, upd_same, r⟩
    · obtain ⟨ks, a, b⟩ := d.ob c0 h0
      rw [q.2]
      rw [q.2] at q
      exact ⟨ks, by rw [upd_ne q.1]; exact a, b⟩
/-- an object of one's own becomes persistent -/
theorem Holds.tfreeze (h : Holds N P H M) (d : TOk N P H M Θ) {p : Addr} {k : OD} (hp : (p, k) ∈ Θ) :
    ∃ P' o, Ex P P' ∧ P' p = some o ∧ k.rep P' o ∧ Holds N P' H M ∧ TOk N P' H M (Θ.filter fun c => decide (c.1 ≠ p)) := by
  obtain ⟨o, e, r⟩ := d.ob _ hp
  have pn := d.pn _ hp
  have q : Ex P (upd P p o) := Ex.new pn
  refine ⟨upd P p o, o, q, upd_same, k.ex q r, ⟨fun b u z => ?_, h.ex0.trans q, h.fr, fun b z f => ?_, fun c hc => ?_, h.nd, h.mf, h.fs, h.uf, h.pf.new (o := o) (k.nf r)⟩, ⟨fun c hc => ?_, fun c hc => d.n0 c (List.mem_filter.mp hc).1, fun c hc => d.nm c (List.mem_filter.mp hc).1, fun c hc => ?_, d.nd.sublist ((List.filter_sublist (l := Θ)).map _)⟩⟩
  · by_cases eb : b = p
    · subst eb
      rw [upd_same] at z
      rw [← z]
      exact .inl e
    · rw [upd_ne eb] at z
      exact h.exw b u z
  · by_cases eb : b = p
    · subst eb
      exact d.n0 _ hp
    · rw [upd_ne eb] at f
      exact h.nw b z f
  · obtain ⟨a1, ys, a2, a3⟩ := h.mem c hc
    refine ⟨?_, ys, a2, a3.ex q⟩
    rw [upd_ne fun e => d.nm _ hp (List.mem_map.mpr ⟨c, hc, e⟩)]
    exact a1
  · obtain ⟨hc, ne⟩ := List.mem_filter.mp hc
    have ne : c.1 ≠ p := of_decide_eq_true ne
    rw [upd_ne ne]
    exact d.pn c hc
  · obtain ⟨ks, a, b⟩ := d.ob c (List.mem_filter.mp hc).1
    exact ⟨ks, a, c.2.ex q b⟩
end

structure PostO where
  nx : Rho → Mem → Os → Prop
  rt : It → Mem → Prop
  bk : Rho → Mem → Os → Prop := fun _ _ _ => False
  ct : Rho → Mem → Os → Prop := fun _ _ _ => False
  er : Str → Mem → Prop := fun _ _ => False
structure ZF (mg : Str → Option Value) (N : Ent) (P : Hp) (Z : PostO) (D : Ends) (E : XK) : Prop where
  nx : ∀ ρ' M' Θ' σ' H' P', Z.nx ρ' M' Θ' → Ex P P' → Holds N P' H' M' → TOk N P' H' M' Θ' → Slots P' σ' ρ' → D.nx σ' H'
  rt : ∀ i M' v H' P', Z.rt i M' → Ex P P' → Holds N P' H' M' → RepI P' v i → D.rt v H'
  bk : ∀ ρ' M' Θ' σ' H' P', Z.bk ρ' M' Θ' → Ex P P' → Holds N P' H' M' → TOk N P' H' M' Θ' → Slots P' σ' ρ' → D.bk σ' H'
  ct : ∀ ρ' M' Θ' σ' H' P', Z.ct ρ' M' Θ' → Ex P P' → Holds N P' H' M' → TOk N P' H' M' Θ' → Slots P' σ' ρ' → D.ct σ' H'
  er : ∀ z M' d H' P' C, mg "ShapeError" = some (.ref C) → Z.er z M' → Ex P P' → Holds N P' H' M' → H' d = some (XD z) → E (.ref C) (some d) H'
section
variable {X : Cx} {N : Ent} {ρ ρ' : Rho} {M M1 M2 M3 : Mem} {Θ Θ' : Os} {a b c e tg iter : Expr} {i j k : It} {pos : Pos} {Z : PostO} {body rest : List Stmt} {st : Stmt}
theorem ZF.ex {mg : Str → Option Value} {P P' : Hp} {D : Ends} {E : XK} (e : Ex P P') (z : ZF mg N P Z D E) : ZF mg N P' Z D E :=
  ⟨fun ρ' M' Θ' σ' H' P'' a b => z.nx ρ' M' Θ' σ' H' P'' a (e.trans b), fun i M' v H' P'' a b => z.rt i M' v H' P'' a (e.trans b), fun ρ' M' Θ' σ' H' P'' a b => z.bk ρ' M' Θ' σ' H' P'' a (e.trans b), fun ρ' M' Θ' σ' H' P'' a b => z.ct ρ' M' Θ' σ' H' P'' a (e.trans b), fun w M' d H' P'' C c a b => z.er w M' d H' P'' C c a (e.trans b)⟩
def UJ (X : Cx) (N : Ent) (ρ : Rho) (M : Mem) (Θ : Os) (sts : List Stmt) (Z : PostO) : Prop :=
  ∀ σ H P, Holds N P H M → TOk N P H M Θ → Slots P σ ρ → ∀ (D : Ends) (E : XK), Takes X (fun c d _ H => E c d H) → ZF X.mg N P Z D E → wSs X sts D σ H
theorem uj_nil (h : Z.nx ρ M Θ) : UJ X N ρ M Θ [] Z := fun σ H P hh d g D E tk z => ss_of pss_nil (z.nx ρ M Θ σ H P h (Ex.refl P) hh d g)
theorem uj_cons (h : ∀ σ H P, Holds N P H M → TOk N P H M Θ → Slots P σ ρ → ∀ (D : Ends) (E : XK), Takes X (fun c d _ H => E c d H) → ZF X.mg N P { Z with nx := fun ρ' M' Θ' => UJ X N ρ' M' Θ' rest Z } D E → wS X st D σ H) : UJ X N ρ M Θ (st :: rest) Z := fun σ H P hh d g D E tk z =>
  ss_of (pss_cons ps_w pss_w) (h σ H P hh d g _ E tk ⟨fun ρ' M' Θ' σ' H' P' a e hh' d' g' => a σ' H' P' hh' d' g' D E tk (z.ex e), z.rt, z.bk, z.ct, z.er⟩)
/-- the end of the statements, with the dicts that stand -/
abbrev ntZ (X : Cx) (N : Ent) (Θ : Os) (rest : List Stmt) (Z : PostO) : Post := { nx := fun ρ' M' => UJ X N ρ' M' Θ rest Z, rt := Z.rt, bk := fun ρ' M' => Z.bk ρ' M' Θ, ct := fun ρ' M' => Z.ct ρ' M' Θ, er := Z.er }
/-- a statement that changes no dict: by its own rule at an inner point, that knows the dicts -/
theorem uj_st (h : ∀ N', KnT N' Θ → SJ X N' ρ M [st] (ntZ X N Θ rest Z)) : UJ X N ρ M Θ (st :: rest) Z := uj_cons fun σ H P hh d g D E tk z =>
  s_one (h (inner P H M) d.kn σ H P hh.enter1 g D E tk ⟨fun ρ' M' σ' H' P' a e h' g' => z.nx ρ' M' Θ σ' H' P' a e (hh.leave1 h') (d.leave h') g', fun i M' v H' P' a e h' r => z.rt i M' v H' P' a e (hh.leave1 h') r, fun ρ' M' σ' H' P' a e h' g' => z.bk ρ' M' Θ σ' H' P' a e (hh.leave1 h') (d.leave h') g', fun ρ' M' σ' H' P' a e h' g' => z.ct ρ' M' Θ σ' H' P' a e (hh.leave1 h') (d.leave h') g', fun w M' x H' P' C c a e h' r => z.er w M' x H' P' C c a e (hh.leave1 h') r⟩)
/-- from SJ, and back to it -/
abbrev Post.toO (Z : Post) : PostO := { nx := fun ρ' M' _ => Z.nx ρ' M', rt := Z.rt, bk := fun ρ' M' _ => Z.bk ρ' M', ct := fun ρ' M' _ => Z.ct ρ' M', er := Z.er }
theorem sj_uj {sts : List Stmt} {Z : Post} (h : UJ X N ρ M [] sts Z.toO) : SJ X N ρ M sts Z := fun σ H P hh g D E tk z =>
  h σ H P hh TOk.nil g D E tk ⟨fun ρ' M' _ σ' H' P' a e h' _ g' => z.nx ρ' M' σ' H' P' a e h' g', z.rt, fun ρ' M' _ σ' H' P' a e h' _ g' => z.bk ρ' M' σ' H' P' a e h' g', fun ρ' M' _ σ' H' P' a e h' _ g' => z.ct ρ' M' σ' H' P' a e h' g', z.er⟩
theorem uj_sj {sts : List Stmt} (h : SJ X N ρ M sts { nx := fun ρ' M' => Z.nx ρ' M' [], rt := Z.rt, bk := fun ρ' M' => Z.bk ρ' M' [], ct := fun ρ' M' => Z.ct ρ' M' [], er := Z.er }) : UJ X N ρ M Θ sts Z := fun σ H P hh d g D E tk z =>
  h σ H P hh g D E tk ⟨fun ρ' M' σ' H' P' a e h' g' => z.nx ρ' M' [] σ' H' P' a e h' TOk.nil g', z.rt, fun ρ' M' σ' H' P' a e h' g' => z.bk ρ' M' [] σ' H' P' a e h' TOk.nil g', fun ρ' M' σ' H' P' a e h' g' => z.ct ρ' M' [] σ' H' P' a e h' TOk.nil g', z.er⟩
theorem uj_weak {sts : List Stmt} (h : UJ X N ρ' M1 Θ' sts Z) (hl : ρ'.length = ρ.length) (w : ∀ (n : Nat) (it : It), ρ'[n]? = some (some it) → ρ[n]? = some (some it)) (s : ∀ c ∈ M1, c ∈ M) (nd : (M.map Prod.fst).Nodup → (M1.map Prod.fst).Nodup) (mf : ∀ a ∈ N.F, a ∈ M1.map Prod.fst) (sd : List.Sublist Θ' Θ) : UJ X N ρ M Θ sts Z :=
  fun σ H P hh d g D E tk z => h σ H P (hh.sub s (nd hh.nd) mf) ⟨fun c hc => d.pn c (sd.mem hc), fun c hc => d.n0 c (sd.mem hc), fun c hc q => d.nm c (sd.mem hc) (by
    obtain ⟨c2, a, b⟩ := List.mem_map.mp q
    exact List.mem_map.mpr ⟨c2, s c2 a, b⟩), fun c hc => d.ob c (sd.mem hc), d.nd.sublist (sd.map _)⟩ (g.weak hl w) D E tk z
theorem uj_is {sts : List Stmt} (h : UJ X N ρ' M1 Θ' sts Z) (e1 : ρ = ρ') (e2 : M = M1) (e3 : Θ = Θ') : UJ X N ρ M Θ sts Z := by
  subst e1; subst e2; subst e3; exact h
theorem uj_if {A B : List Stmt} {t : Bool} (hc : ∀ N', KnT N' Θ → TJ X N' ρ M c t M1) (h1 : t = true → UJ X N ρ M1 Θ A { Z with nx := fun ρ' M' Θ' => UJ X N ρ' M' Θ' rest Z }) (h2 : t = false → UJ X N ρ M1 Θ B { Z with nx := fun ρ' M' Θ' => UJ X N ρ' M' Θ' rest Z }) : UJ X N ρ M Θ (.If c A B pos :: rest) Z := uj_cons fun σ H P hh d g D E tk z =>
  s_of (ps_if pt_w pss_w pss_w) (hc _ d.kn σ H P hh.enter1 g _ fun H1 P1 e1 h1' => by
    have hh1 := hh.leave1 h1'
    have d1 := d.leave h1'
    cases t with
    | true => exact iteT (h1 rfl σ H1 P1 hh1 d1 (g.ex e1) D E tk (z.ex e1))
    | false => exact iteF (h2 rfl σ H1 P1 hh1 d1 (g.ex e1) D E tk (z.ex e1)))
theorem uj_while (n0 : Nat) (Inv : Nat → Rho → Mem → Os → Prop) (h0 : Inv n0 ρ M Θ)
    (step : ∀ m ρ' M' Θ', Inv m ρ' M' Θ' → ∃ t M2, (∀ N', KnT N' Θ' → TJ X N' ρ' M' c t M2) ∧ (t = true → UJ X N ρ' M2 Θ' body { nx := fun ρ2 M3 Θ3 => ∃ m', m' < m ∧ Inv m' ρ2 M3 Θ3, ct := fun ρ2 M3 Θ3 => ∃ m', m' < m ∧ Inv m' ρ2 M3 Θ3, bk := fun ρ' M' Θ' => UJ X N ρ' M' Θ' rest Z, rt := Z.rt, er := Z.er }) ∧ (t = false → UJ X N ρ' M2 Θ' rest Z))
    (hp : PassesOwn (model X.prog X.w) X.A X.env X.xe := by exact PassesOwn.never) : UJ X N ρ M Θ (.While c body [] pos :: rest) Z := uj_cons fun σ H P hh d g D E tk z => by
  refine s_of (ps_while hp pt_w pss_w) ⟨fun m σ' H' => ∃ ρ' M' Θ' P', Inv m ρ' M' Θ' ∧ Holds N P' H' M' ∧ TOk N P' H' M' Θ' ∧ Slots P' σ' ρ' ∧ Ex P P', ⟨n0, ρ, M, Θ, P, h0, hh, d, g, Ex.refl P⟩, fun m σ' H' hw => ?_⟩
  obtain ⟨ρ', M', Θ', P', w, h2, d2, g2, e2⟩ := hw
  obtain ⟨t, M2, T, S1, S2⟩ := step m ρ' M' Θ' w
  refine T _ d2.kn σ' H' P' h2.enter1 g2 _ fun H3 P3 e3 h3' => ?_
  have h3 := h2.leave1 h3'
  have d3 := d2.leave h3'
  cases t with
  | true =>
    refine iteT ⟨fun σ4 H4 => ∃ m', m' < m ∧ ∃ ρ' M' Θ' P', Inv m' ρ' M' Θ' ∧ Holds N P' H4 M' ∧ TOk N P' H4 M' Θ' ∧ Slots P' σ4 ρ' ∧ Ex P P', fun σ4 H4 ⟨m', l, w'⟩ => ⟨m', l, w'⟩, ?_⟩
    refine S1 rfl σ' H3 P3 h3 d3 (g2.ex e3) _ E tk ⟨fun ρ4 M4 Θ4 σ4 H4 P4 ⟨m', l, w'⟩ e h d g => ⟨m', l, ρ4, M4, Θ4, P4, w', h, d, g, (e2.trans e3).trans e⟩, fun i M4 v H4 P4 a e h r => z.rt i M4 v H4 P4 a ((e2.trans e3).trans e) h r, fun ρ4 M4 Θ4 σ4 H4 P4 a e h d g => z.nx ρ4 M4 Θ4 σ4 H4 P4 a ((e2.trans e3).trans e) h d g, fun ρ4 M4 Θ4 σ4 H4 P4 ⟨m', l, w'⟩ e h d g => ⟨m', l, ρ4, M4, Θ4, P4, w', h, d, g, (e2.trans e3).trans e⟩, fun w M4 x H4 P4 C c a e h r => z.er w M4 x H4 P4 C c a ((e2.trans e3).trans e) h r⟩
  | false => exact iteF (z.nx ρ' M2 Θ' σ' H3 P3 (S2 rfl) (e2.trans e3) h3 d3 (g2.ex e3))
/-- as IA, with the dicts known to the expression that is walked -/
def IAO (X : Cx) (ρ : Rho) (M : Mem) (Θ : Os) (tg iter : Expr) (ds : List PyData) (M1 : Mem) : Prop :=
  ∃ ti : TI, PI X tg iter ti ∧ ∀ N, KnT N Θ → ∀ σ H P, Holds N P H M → Slots P σ ρ → ∀ R, (∀ J H1 P1, Ex P P1 → Holds N P1 H1 M1 → WalkA P1 J ds → R J H1) → ti σ H R
theorem io_list {ds : List PyData} (ha : ∀ N, KnT N Θ → EJ X N ρ M iter (.d (.list ds)) M1) : IAO X ρ M Θ tg iter ds M1 := by
  refine ⟨_, pi_list pe_w, fun N kn σ H P hh g R q => ?_⟩
  refine ha N kn σ H P hh g _ fun v H1 P1 e1 h1 r1 => ?_
  obtain ⟨t, xs, rfl, x1, x2⟩ := ri_lst r1
  have xl := dnAll_len x2
  refine ⟨t, rfl, ⟨xs, .inl (.inl (h1.ex _ _ x1))⟩, q _ H1 P1 e1 h1 ⟨fun i N H P' M' hi h2 e2 => ?_, fun N H P' M' h2 e2 => ?_, fun i N H v H' P' M' hi h2 e2 y => ?_⟩⟩
  · rw [← xl] at hi
    exact ⟨xs, _, .inl (.inl (h2.ex _ _ (e2 _ _ x1))), List.getElem?_eq_getElem hi⟩
  · exact ⟨xs, .inl (.inl (h2.ex _ _ (e2 _ _ x1))), by rw [xl]; exact Nat.le_refl _⟩
  · obtain ⟨rfl, hx⟩ := y
    have hx := hx xs (.inl (.inl (h2.ex _ _ (e2 _ _ x1))))
    obtain ⟨v', ev, dv⟩ := dnAll_get x2 (List.getElem?_eq_getElem hi)
    rw [hx] at ev
    cases Option.some.inj ev
    exact ⟨P', _, List.getElem?_eq_getElem hi, Ex.refl _, h2, dn_ex e2 _ _ dv⟩
theorem io_tup {ds : List PyData} (ha : ∀ N, KnT N Θ → EJ X N ρ M iter (.d (.tuple ds)) M1) : IAO X ρ M Θ tg iter ds M1 := by
  refine ⟨_, pi_tup pe_w, fun N kn σ H P hh g R q => ?_⟩
  refine ha N kn σ H P hh g _ fun v H1 P1 e1 h1 r1 => ?_
  obtain ⟨t, xs, rfl, x1, x2⟩ := ri_tup r1
  have xl := dnAll_len x2
  refine ⟨t, rfl, ⟨xs, .inl (.inl (h1.ex _ _ x1))⟩, q _ H1 P1 e1 h1 ⟨fun i N H P' M' hi h2 e2 => ?_, fun N H P' M' h2 e2 => ?_, fun i N H v H' P' M' hi h2 e2 y => ?_⟩⟩
  · rw [← xl] at hi
    exact ⟨xs, _, .inl (.inl (h2.ex _ _ (e2 _ _ x1))), List.getElem?_eq_getElem hi⟩
  · exact ⟨xs, .inl (.inl (h2.ex _ _ (e2 _ _ x1))), by rw [xl]; exact Nat.le_refl _⟩
  · obtain ⟨rfl, hx⟩ := y
    have hx := hx xs (.inl (.inl (h2.ex _ _ (e2 _ _ x1))))
    obtain ⟨v', ev, dv⟩ := dnAll_get x2 (List.getElem?_eq_getElem hi)
    rw [hx] at ev
    cases Option.some.inj ev
    exact ⟨P', _, List.getElem?_eq_getElem hi, Ex.refl _, h2, dn_ex e2 _ _ dv⟩
theorem io_enumT {p : Pos} {elts : List Expr} {kk : Nat} {tpos : Pos} {ds : List PyData} (hm : X.mg "enumerate" = none) (ha : ∀ N, KnT N Θ → EJ X N ρ M a (.d (.tuple ds)) M1) (hg : Gl X "enumerate" := by rfl) (hs : starEach [a] X.env = [(false, eval a X.env)] := by rfl) :
    IAO X ρ M Θ (.Tuple elts kk tpos) (.Call (.Name "enumerate" p) [a] [] pos) (enumD ds) M1 := by
  refine ⟨_, pi_enumT hg hm pa_w hs, fun N kn σ H P hh g R q => ?_⟩
  refine aj_cons (ha N kn) aj_nil hs σ H P hh g _ fun vs H1 P1 e1 h1 r1 => ?_
  obtain ⟨x, rfl, r2⟩ := ri1 r1
  obtain ⟨t, xs, rfl, x1, x2⟩ := ri_tup r2
  have xl := dnAll_len x2
  refine ⟨t, xs, rfl, .inl (.inl (h1.ex _ _ x1)), q _ H1 P1 e1 h1 ⟨fun i N H P' M' hi h2 e2 => ?_, fun N H P' M' h2 e2 => ?_, fun i N H v H' P' M' hi h2 e2 y => ?_⟩⟩
  · rw [enumD_len, ← xl] at hi
    exact ⟨xs, _, .inl (.inl (h2.ex _ _ (e2 _ _ x1))), List.getElem?_eq_getElem hi⟩
  · exact ⟨xs, .inl (.inl (h2.ex _ _ (e2 _ _ x1))), by rw [enumD_len, xl]⟩
  · obtain ⟨T, u, rfl, hT, rfl, hx⟩ := y
    have hx := hx xs (.inl (.inl (h2.ex _ _ (e2 _ _ x1))))
    rw [enumD_len] at hi
    obtain ⟨v', ev, dv⟩ := dnAll_get x2 (List.getElem?_eq_getElem hi)
    rw [hx] at ev
    cases Option.some.inj ev
    obtain ⟨h5, e5⟩ := h2.pers (o := .tup [.int (i : Nat), u]) hT
    exact ⟨_, _, enumD_get (List.getElem?_eq_getElem hi), e5, h5, .tup upd_same (.cons (.int _) (.cons (dn_ex e5 _ _ (dn_ex e2 _ _ dv)) .nil))⟩
theorem uj_for {ds : List PyData} (hc : X.calm = true) (hi : IAO X ρ M Θ tg iter ds M1) (Inv : Nat → Rho → Mem → Os → Prop) (h0 : Inv 0 ρ M1 Θ)
    (step : ∀ n d ρ' M' Θ', ds[n]? = some d → Inv n ρ' M' Θ' → ∃ ρ2, GJ X N tg (.d d) ρ' ρ2 ∧ UJ X N ρ2 M' Θ' body { nx := Inv (n + 1), ct := Inv (n + 1), bk := fun ρ' M' Θ' => UJ X N ρ' M' Θ' rest Z, rt := Z.rt, er := Z.er })
    (done : ∀ ρ' M' Θ', Inv ds.length ρ' M' Θ' → UJ X N ρ' M' Θ' rest Z) (hp : PassesOwn (model X.prog X.w) X.A X.env X.xe := by exact PassesOwn.never) (hf : ∀ x, foldedSetIterable iter X.env x = pure x := by intro _; rfl) : UJ X N ρ M Θ (.For tg iter body [] pos :: rest) Z := uj_cons fun σ H P hh d g D E tk z => by
  obtain ⟨ti, pi, hi⟩ := hi
  refine s_of (ps_for hp hc pi pg_w pss_w hf) (hi _ d.kn σ H P hh.enter1 g _ fun J H1 P1 e1 h1' W => ?_)
  have h1 := hh.leave1 h1'
  have d1 := d.leave h1'
  have WK : Walk J ds.length (fun H => ∃ P' M' Θ', Holds N P' H M' ∧ TOk N P' H M' Θ' ∧ Ex P1 P') (fun i H x H' => ∀ P' M' Θ', Holds N P' H M' → TOk N P' H M' Θ' → Ex P1 P' → ∃ P'' d, ds[i]? = some d ∧ Ex P' P'' ∧ Holds N P'' H' M' ∧ TOk N P'' H' M' Θ' ∧ RepI P'' x (.d d)) :=
    ⟨fun i H hi ⟨P', M', Θ', a, _, b⟩ => W.go i N H P' M' hi a b, fun H ⟨P', M', Θ', a, _, b⟩ => W.stop N H P' M' a b, fun i H x H' hi _ y P' M' Θ' a dd b => by
      obtain ⟨P'', d, q1, q2, q3, q4⟩ := W.yld i _ H x H' P' M' hi a.enter1 b y
      exact ⟨P'', d, q1, q2, a.leave1 q3, dd.leave q3, q4⟩⟩
  refine for_it WK (fun n σ' H' => ∃ ρ' M' Θ' P', Inv n ρ' M' Θ' ∧ Holds N P' H' M' ∧ TOk N P' H' M' Θ' ∧ Slots P' σ' ρ' ∧ Ex P1 P') ⟨ρ, M1, Θ, P1, h0, h1, d1, g.ex e1, Ex.refl _⟩ (fun i σ' H' _ ⟨ρ', M', Θ', P', iv, a, dd, _, b⟩ => ⟨P', M', Θ', a, dd, b⟩) (fun n x σ' H' H2 hn hw hy => ?_) (fun σ' H' hw => ?_)
  · obtain ⟨ρ', M', Θ', P', w, h2, d2, g2, e2⟩ := hw
    obtain ⟨P2, dd, ed, e3, h3, d3, r3⟩ := hy P' M' Θ' h2 d2 e2
    obtain ⟨ρ2, G, S⟩ := step n dd ρ' M' Θ' ed w
    refine G x σ' H2 P2 M' h3 (g2.ex e3) r3 _ fun σ2 g3 => ?_
    refine S σ2 H2 P2 h3 d3 g3 _ E tk ⟨fun ρ4 M4 Θ4 σ4 H4 P4 a e h d g => ⟨ρ4, M4, Θ4, P4, a, h, d, g, (e2.trans e3).trans e⟩, fun i M4 v H4 P4 a e h r => z.rt i M4 v H4 P4 a ((e1.trans (e2.trans e3)).trans e) h r, fun ρ4 M4 Θ4 σ4 H4 P4 a e h d g => z.nx ρ4 M4 Θ4 σ4 H4 P4 a ((e1.trans (e2.trans e3)).trans e) h d g, fun ρ4 M4 Θ4 σ4 H4 P4 a e h d g => ⟨ρ4, M4, Θ4, P4, a, h, d, g, (e2.trans e3).trans e⟩, fun w M4 x H4 P4 C c a e h r => z.er w M4 x H4 P4 C c a ((e1.trans (e2.trans e3)).trans e) h r⟩
  · obtain ⟨ρ', M', Θ', P', w, h2, d2, g2, e2⟩ := hw
    exact z.nx ρ' M' Θ' σ' H' P' (done ρ' M' Θ' w) (e1.trans e2) h2 d2 g2
end

/-! ### dicts with tuple keys -/
abbrev DT' := List (List Key × PyData)
def KVT (P : Hp) : List (List Key × V) → DT' → Prop
  | [], [] => True
  | (k, v) :: r, (j, d) :: s => k = j ∧ Dn P v d ∧ KVT P r s
  | _, _ => False
def valT (es : DT') (k : List Key) : Option PyData := (es.find? fun kv => decide (kv.1 = k)).map (·.2)
def putT (es : DT') (k : List Key) (d : PyData) : DT' := if (es.any fun kv => decide (kv.1 = k)) = true then es.map fun kv => if kv.1 = k then (kv.1, d) else kv else es ++ [(k, d)]
section
variable {P P' : Hp}
theorem KVT.ex (e : Ex P P') : ∀ {kvs : List (List Key × V)} {es : DT'}, KVT P kvs es → KVT P' kvs es
  | [], [], _ => trivial
  | (k, v) :: r, (j, d) :: s, h => ⟨h.1, dn_ex e _ _ h.2.1, KVT.ex e h.2.2⟩
  | [], _ :: _, h => h.elim
  | _ :: _, [], h => h.elim
theorem KVT.len : ∀ {kvs : List (List Key × V)} {es : DT'}, KVT P kvs es → kvs.length = es.length
  | [], [], _ => rfl
  | (k, v) :: r, (j, d) :: s, h => by rw [List.length_cons, List.length_cons, KVT.len h.2.2]
  | [], _ :: _, h => h.elim
  | _ :: _, [], h => h.elim
theorem KVT.any (k0 : List Key) : ∀ {kvs : List (List Key × V)} {es : DT'}, KVT P kvs es → (kvs.any fun kv => decide (kv.1 = k0)) = (es.any fun kv => decide (kv.1 = k0))
  | [], [], _ => rfl
  | (k, v) :: r, (j, d) :: s, h => by
    rw [List.any_cons, List.any_cons, KVT.any k0 h.2.2]
    cases h.1
    rfl
  | [], _ :: _, h => h.elim
  | _ :: _, [], h => h.elim
theorem KVT.map (k0 : List Key) {v0 : V} {d0 : PyData} (h0 : Dn P v0 d0) : ∀ {kvs : List (List Key × V)} {es : DT'}, KVT P kvs es → KVT P (kvs.map fun kv => if kv.1 = k0 then (kv.1, v0) else kv) (es.map fun kv => if kv.1 = k0 then (kv.1, d0) else kv)
  | [], [], _ => trivial
  | (k, v) :: r, (j, d) :: s, h => by
    cases h.1
    rw [List.map_cons, List.map_cons]
    by_cases e : k = k0
    · rw [if_pos (show ((k, v) : List Key × V).1 = k0 from e), if_pos (show ((k, d) : List Key × PyData).1 = k0 from e)]
      exact ⟨rfl, h0, KVT.map k0 h0 h.2.2⟩
    · rw [if_neg (show ¬ ((k, v) : List Key × V).1 = k0 from e), if_neg (show ¬ ((k, d) : List Key × PyData).1 = k0 from e)]
      exact ⟨rfl, h.2.1, KVT.map k0 h0 h.2.2⟩
  | [], _ :: _, h => h.elim
  | _ :: _, [], h => h.elim
theorem KVT.snoc {k0 : List Key} {v0 : V} {d0 : PyData} (h0 : Dn P v0 d0) : ∀ {kvs : List (List Key × V)} {es : DT'}, KVT P kvs es → KVT P (kvs ++ [(k0, v0)]) (es ++ [(k0, d0)])
  | [], [], _ => ⟨rfl, h0, trivial⟩
  | (k, v) :: r, (j, d) :: s, h => ⟨h.1, h.2.1, KVT.snoc h0 h.2.2⟩
  | [], _ :: _, h => h.elim
  | _ :: _, [], h => h.elim
theorem KVT.put {k0 : List Key} {v0 : V} {d0 : PyData} (h0 : Dn P v0 d0) {kvs : List (List Key × V)} {es : DT'} (h : KVT P kvs es) : KVT P (putK kvs k0 v0) (putT es k0 d0) := by
  unfold putK putT
  rw [h.any k0]
  by_cases e : (es.any fun kv => decide (kv.1 = k0)) = true
  · rw [if_pos e, if_pos e]
    exact h.map k0 h0
  · rw [if_neg e, if_neg e]
    exact h.snoc h0
theorem KVT.val (k0 : List Key) : ∀ {kvs : List (List Key × V)} {es : DT'}, KVT P kvs es → (valV kvs k0 = none ∧ valT es k0 = none) ∨ ∃ v d, valV kvs k0 = some v ∧ valT es k0 = some d ∧ Dn P v d
  | [], [], _ => .inl ⟨rfl, rfl⟩
  | (k, v) :: r, (j, d) :: s, h => by
    cases h.1
    by_cases e : k = k0
    · refine .inr ⟨v, d, valV_pos (p := (k, v)) e, ?_, h.2.1⟩
      unfold valT
      rw [List.find?_cons_of_pos (by exact decide_eq_true e)]
      rfl
    · have a : valV ((k, v) :: r) k0 = valV r k0 := valV_neg (p := (k, v)) e
      have b : valT ((k, d) :: s) k0 = valT s k0 := by
        unfold valT
        rw [List.find?_cons_of_neg (by simpa using e)]
      rw [a, b]
      exact KVT.val k0 h.2.2
  | [], _ :: _, h => h.elim
  | _ :: _, [], h => h.elim
theorem putT_len (es : DT') (k : List Key) (d : PyData) : (putT es k d).length ≤ es.length + 1 := by
  unfold putT
  by_cases e : (es.any fun kv => decide (kv.1 = k)) = true
  · rw [if_pos e]; simp
  · rw [if_neg e]; simp
end
def dtO (es : DT') : OD := ⟨fun P o => ∃ kvs, o = .dT kvs ∧ KVT P kvs es, fun e ⟨kvs, h1, h2⟩ => ⟨kvs, h1, h2.ex e⟩, fun ⟨kvs, h1, _⟩ od u h => (by rw [h1] at h; cases h), fun ⟨kvs, h1, _⟩ u h => (by rw [h1] at h; cases h)⟩
def TD (a : Addr) (es : DT') (P : Hp) : Prop := ∃ kvs, P a = some (.dT kvs) ∧ KVT P kvs es
theorem TD.ex {a : Addr} {es : DT'} (P P' : Hp) (e : Ex P P') (h : TD a es P) : TD a es P' := by
  obtain ⟨kvs, h1, h2⟩ := h
  exact ⟨kvs, e _ _ h1, h2.ex e⟩
/-- a dict with tuple keys that stands -/
def tdE (es : DT') : It := .w (fun v P => ∃ a, v = .ref a ∧ TD a es P) fun v P P' e ⟨a, h1, h2⟩ => ⟨a, h1, TD.ex P P' e h2⟩
def tkD (k : List Key) : PyData := .tuple (k.map kD)
theorem dn_key {P : Hp} : ∀ {k : Key} {v : V}, Dn P v (kD k) → v = kV k
  | .inl i, _, h => by cases h; rfl
  | .inr x, _, h => by cases h; rfl
theorem dnAll_keys {P : Hp} : ∀ {k : List Key} {vs : List V}, DnAll P vs (k.map kD) → vs = k.map kV
  | [], _, h => by cases h; rfl
  | x :: k, _, h => by
    cases h with
    | cons h1 h2 => rw [dn_key h1, dnAll_keys h2]; rfl
section
variable {X : Cx} {N : Ent} {ρ : Rho} {M M1 M2 M3 : Mem} {Θ : Os} {e o x : Expr} {pos : Pos} {Z : PostO} {rest : List Stmt}
theorem uj_newT (n : Nat) {y : Str} {pos' dp : Pos} (hN : X.N.Nodup) (hr : ∀ p, UJ X N (ρ.set n (some (.v (.ref p)))) M (Θ ++ [(p, dtO [])]) rest Z) (hi : X.N[n]? = some y := by rfl) (hx : Loc X.env.scope y := by first | exact .inl rfl | exact .inr rfl) (hs : swapsWith (.Dict [] [] dp) (some (.Name y pos')) pos.line X.env = pure false := by rfl) (hf : X.fn y = true ∨ X.env.scope.names.lookup y = some .local := by first | exact .inl rfl | exact .inr rfl) :
    UJ X N ρ M Θ (.Assign [.Name y pos'] (.Dict [] [] dp) pos :: rest) Z := uj_cons fun σ H P hh d g D E tk z =>
  s_of (ps_set (i := n) hN hi hx pe_dnewT hs hf) fun p hp => z.nx _ _ _ _ _ P (hr p) (Ex.refl P) (hh.dnew hp) (d.new hh hp (k := dtO []) ⟨[], rfl, trivial⟩) (g.set (it := .v (.ref p)) rfl n)
/-- d[(..)] = e -/
theorem uj_putT {spos : Pos} {p : Addr} {es : DT'} {k : List Key} {v : PyData} (hu : X.A.units + 1 < cLine) (hm : (p, dtO es) ∈ Θ) (hl : es.length < 1000000)
    (he : ∀ N', KnT N' Θ → EJ X N' ρ M e (.d v) M1) (ho : ∀ N', KnT N' Θ → EJ X N' ρ M1 o (.v (.ref p)) M2) (hx : ∀ N', KnT N' Θ → EJ X N' ρ M2 x (.d (tkD k)) M3)
    (hr : UJ X N ρ M3 (Θ.put p (dtO (putT es k v))) rest Z) (hs : swapsWith e (some (.Subscript o x spos)) pos.line X.env = pure false := by rfl) :
    UJ X N ρ M Θ (.Assign [.Subscript o x spos] e pos :: rest) Z := uj_cons fun σ H P hh d g D E tk z => by
  refine s_of (ps_dput hu pe_w pe_w pe_w hs) (he _ d.kn σ H P hh.enter1 g _ fun v1 H1 P1 e1 h1 r1 => ?_)
  refine ho _ d.kn σ H1 P1 h1 (g.ex e1) _ fun v2 H2 P2 e2 h2 r2 => ?_
  refine hx _ d.kn σ H2 P2 h2 ((g.ex e1).ex e2) _ fun v3 H3 P3 e3 h3 r3 => ?_
  cases (show v2 = .ref p from r2)
  have d3 := d.leave h3
  have hh3 := hh.leave1 h3
  obtain ⟨o3, ek, kvs, rfl, rk⟩ := d3.ob _ hm
  obtain ⟨b, xs, rfl, h4, h5⟩ := ri_tup r3
  have ex := dnAll_keys h5
  subst ex
  refine ⟨p, _, rfl, DPut.t ek (hh3.ex _ _ h4) (by rw [rk.len]; exact Nat.lt_trans hl (by rw [sizeLine_eq]; decide)), ?_⟩
  have rp : (dtO (putT es k v)).rep P3 (.dT (putK kvs k v1)) := ⟨_, rfl, rk.put (dn_ex (e2.trans e3) _ _ r1)⟩
  exact z.nx ρ M3 _ σ _ P3 hr ((e1.trans e2).trans e3) (hh3.tput d3 hm ((dtO (putT es k v)).nf rp)) (d3.put hm rp) (((g.ex e1).ex e2).ex e3)
/-- a dict with tuple keys becomes persistent, at a slot -/
theorem uj_freezeT (n : Nat) {p : Addr} {es : DT'} {sts : List Stmt} (hρ : ρ[n]? = some (some (.v (.ref p)))) (hm : (p, dtO es) ∈ Θ) (hr : UJ X N (ρ.set n (some (tdE es))) M (Θ.filter fun c => decide (c.1 ≠ p)) sts Z) : UJ X N ρ M Θ sts Z := fun σ H P hh d g D E tk z => by
  obtain ⟨P', o', e, h1, ⟨kvs, rfl, h2⟩, h', d'⟩ := hh.tfreeze d hm
  obtain ⟨v, ev, rv⟩ := g.2 n _ hρ
  cases (show v = .ref p from rv)
  have es' : σ.set n (some (.ref p)) = σ := by
    refine List.ext_getElem? fun m => ?_
    by_cases q : n = m
    · subst q
      have l : n < σ.length := (List.getElem?_eq_some_iff.mp ev).1
      rw [List.getElem?_set_self l, ev]
    · rw [List.getElem?_set_ne q]
  have g' := (g.ex e).set (it := tdE es) (v := .ref p) ⟨p, rfl, kvs, h1, h2⟩ n
  rw [es'] at g'
  exact hr σ H P' h' d' g' D E tk (z.ex e)
/-- d[(..)] of a dict that stands -/
theorem ej_tget {es : DT'} {k : List Key} {d : PyData} (hu : X.A.units + 1 < cLine) (hv : valT es k = some d) (ho : EJ X N ρ M o (tdE es) M1) (hx : EJ X N ρ M1 x (.d (tkD k)) M2) (hs : NoSl x := by intro _ _; rfl) : EJ X N ρ M (.Subscript o x pos) (.d d) M2 := fun σ H P h g Q q =>
  e_of (pe_dget hu pe_w pe_w hs) (ho σ H P h g _ fun v1 H1 P1 e1 h1 r1 => hx σ H1 P1 h1 (g.ex e1) _ fun v2 H2 P2 e2 h2 r2 => by
    obtain ⟨p, rfl, kvs, h3, h4⟩ := (show ∃ a, v1 = .ref a ∧ TD a es P2 from (RepI.ex e2 r1 : RepI P2 v1 (tdE es)))
    obtain ⟨b, xs, rfl, h5, h6⟩ := ri_tup r2
    have ex := dnAll_keys h6
    subst ex
    rcases h4.val k with ⟨q1, q2⟩ | ⟨v, d', q1, q2, q3⟩
    · rw [q2] at hv; cases hv
    · rw [hv] at q2
      cases q2
      have dg := DGet.t (h2.ex _ _ h3) (h2.ex _ _ h5)
      rw [q1] at dg
      exact ⟨p, v, rfl, dg, q v H2 P2 (e1.trans e2) h2 q3⟩)
end
end Kt

/-! Kuo: xs.count(data), xs.extend(list), min of data -/
namespace Kt
open PySem PySem.Spec PyProof PyProof.Rows L2
def rCountD (K : PySem.W.Frag) : V → List V → Hp → VK → Prop := fun x xs H Q => ∃ (a : Addr) (y : V) (d : PyData) (ds : List PyData), x = V.ref a ∧ xs = [y] ∧ Dp K H (V.ref a) (.list ds) ∧ Dp K H y d ∧
  SeqAt.shaped (.list ds) = true ∧ SeqAt.shaped d = true ∧ Q (.int (ds.countP fun z => PyData.eqv z d : Nat)) H
section
variable {X : Cx}
theorem mt_countD (hu : X.A.units + 65 < cLine) : MtR X "list.count" (rCountD X.K) := by
  intro pins s σ H x xs v us Q I rx rxs h
  obtain ⟨a, y, d, ds, rfl, rfl, hl, hy, sl, sd, q⟩ := h
  cases rx
  cases rxs with
  | cons ry rt =>
    rename_i uy ut
    cases rt
    obtain ⟨bs, r1⟩ := Dp.reads I d y uy hy ry
    have hxs : PyData.canLayAll0 ds = true := SeqAt.canLay_of_shaped sl
    have hroom : X.A.units + 1 + min (PyData.depthAll ds) d.depth < cLine := room_in_shaped sd hu
    cases hl with
    | lst hs ha =>
      obtain ⟨its, rv, ⟨⟨cls, dd, data, sls⟩, n, ho, hc, hdn, hdt⟩, hlen⟩ := I.list hs
      simp only at hc hdt
      subst hc hdt
      obtain ⟨as, h4⟩ := Dp.readsAll I ds _ its ha rv
      have hmap : its.map (SeqAt.readOf s.heap) = ds := SeqAt.readsAll_map ds its as hxs h4
      have ec : its.toArray.toList.countP (fun u => PyData.eqv (SeqAt.readOf s.heap u) d) = ds.countP fun z => PyData.eqv z d := by
        rw [← hmap, List.countP_map]
        rfl
      refine call_meets PySem.F.slot_list_count ⟨_, ho, rfl⟩ PySem.F.entry_list_count (PySem.F.args_list_count_2 _ _)
        (SeqAt.list_countAt a its.toArray n dd sls uy (fun u => PyData.eqv (SeqAt.readOf s.heap u) d)) ⟨ho, SeqAt.items_eqAt (vs := its.toArray) (show ReadsAll s.heap its.toArray.toList ds as from h4) r1 hxs (SeqAt.canLay_of_shaped sd) hroom, ?_⟩
      refine ⟨.int (ds.countP fun z => PyData.eqv z d : Nat), H, I.tok _, ⟨s.toks, ?_⟩, q⟩
      show Value.int ((its.toArray.toList.countP _ : Nat) : Int) s.toks = _
      rw [ec]
end
def rMinD (K : PySem.W.Frag) : List V → Hp → VK → Prop := fun vs H Q => ∃ (a : Addr) (xs : List V) (d : PyData) (ds : List PyData) (P : Hp), vs = [.ref a] ∧ SqL K H a xs ∧ ExW P H ∧ DnAll P xs (d :: ds) ∧ noDicts (d :: ds) = true ∧ PySem.W.AlikeAll (d :: ds) ∧ SeqAt.shaped (.list (d :: ds)) = true ∧ PyData.depthAll (d :: ds) ≤ 60 ∧
  ∀ v, Dn P v (PySem.W.minD d ds) → Q v H
theorem min_mem (d : PyData) : ∀ ds : List PyData, PySem.W.minD d ds ∈ d :: ds := by
  intro ds
  unfold PySem.W.minD
  induction ds generalizing d with
  | nil => exact List.mem_cons_self
  | cons x r ih =>
    rw [List.foldl_cons]
    have := ih (if PySem.W.dataLt x d = true then x else d)
    rcases List.mem_cons.mp this with e | e
    · rw [e]
      split
      · exact List.mem_cons_of_mem _ List.mem_cons_self
      · exact List.mem_cons_self
    · exact List.mem_cons_of_mem _ (List.mem_cons_of_mem _ e)
theorem lay_mem {d : PyData} : ∀ {ds : List PyData}, PyData.canLayAll0 ds = true → d ∈ ds → d.canLay0 = true
  | [], _, h => absurd h List.not_mem_nil
  | x :: r, h, hd => by
    have h2 := Bool.and_eq_true_iff.mp (show (x.canLay0 && PyData.canLayAll0 r) = true from h)
    rcases List.mem_cons.mp hd with e | e
    · rw [e]; exact h2.1
    · exact lay_mem h2.2 e
theorem cr_minD {X : Cx} (hc : X.calm = true) (hu : X.A.units + 64 < cLine) : CallR X (.builtin "min") (rMinD X.K) := by
  intro pins s σ H vs us Q I rv h
  obtain ⟨a, xs, d, ds, P, rfl, hs, ew, hd, hn, hal, hsh, hdp, q⟩ := h
  rw [Vals.ref1 rv]
  obtain ⟨its, rv2, hl, _⟩ := I.list hs
  have hp : DpAll X.K H xs (d :: ds) := dpAll_of _ _ hn (dnwAll_ex ew _ _ hd)
  obtain ⟨as, rd⟩ := Dp.readsAll I (d :: ds) xs its hp rv2
  have hxs : PyData.canLayAll0 (d :: ds) = true := SeqAt.canLay_of_shaped hsh
  refine PySem.W.min_list_data (I.ok.hd hc) hl.isList (vs := its.toArray) (by simpa using rd) hal (by omega) fun i v h' tk bs hv r hk => ?_
  have hmap : its.map (SeqAt.readOf s.heap) = d :: ds := SeqAt.readsAll_map (d :: ds) its as hxs rd
  have hv2 : its[i]? = some v := by simpa using hv
  have il : i < its.length := (List.getElem?_eq_some_iff.mp hv2).1
  have e2 : (d :: ds)[i]? = some (SeqAt.readOf s.heap v) := by
    rw [← hmap, List.getElem?_map, hv2]
    rfl
  obtain ⟨bs2, r2⟩ : ∃ bs, Reads s.heap v (SeqAt.readOf s.heap v) bs := by
    obtain ⟨bs, r3, b1, b2, b3⟩ := PySem.W.readsAll_at rd i v hv2
    rw [List.getD_eq_getElem?_getD, e2] at r3
    exact ⟨bs, r3⟩
  have e3 : SeqAt.readOf s.heap v = PySem.W.minD d ds := by
    have c1 : (SeqAt.readOf s.heap v).canLay0 = true := lay_mem hxs (List.mem_of_getElem? e2)
    have c2 : (PySem.W.minD d ds).canLay0 = true := lay_mem hxs (min_mem d ds)
    have r4 : Reads h' v (SeqAt.readOf s.heap v) bs2 := PySem.W.reads_keeps hk r2
    rw [← SeqAt.readOf_eq c1 r4, SeqAt.readOf_eq c2 r]
  rw [e3] at e2
  obtain ⟨w, hw1, hw2⟩ := dnAll_get hd e2
  obtain ⟨u, hu1, hu2⟩ := Vals.get rv2 hw1
  rw [hv2] at hu1
  cases Option.some.inj hu1
  exact ⟨w, H, I.kept hk, hu2, q w hw2⟩
section
variable {X : Cx} {N : Ent} {ρ ρ' : Rho} {M M1 M2 M3 : Mem} {a b c e : Expr} {pos p : Pos} {i j k : It} {Z : Post} {rest : List Stmt}
/-- xs.count(y), xs one's own -/
theorem ej_countO {ap epos : Pos} {o : Addr} {ds : List PyData} {d : PyData} (hu : X.A.units + 65 < cLine) (ho : EJ X N ρ M a (.v (.ref o)) M1) (hm1 : (o, ds.map It.d) ∈ M1) (he : EJ X N ρ M1 e (.d d) M2) (hm : (o, ds.map It.d) ∈ M2) (s1 : plainD (.list ds) = true) (s2 : plainD d = true)
    (hst : starEach [e] X.env = [(false, eval e X.env)] := by rfl) (ps : PE X (.Call (.Attribute a "count" ap) [e] [] epos) (tBM X.K "list" (rCountD X.K) (wE X a) (wA X [e])) := by exact pe_bm PySem.F.plainAttrs_list PySem.F.slot_list_count PySem.F.type_list_count (mt_countD (by assumption)) pe_w pa_w) :
    EJ X N ρ M (.Call (.Attribute a "count" ap) [e] [] epos) (dI ((ds.countP fun z => PyData.eqv z d : Nat) : Int)) M2 := fun σ H P hh g Q q =>
  e_of ps (ho σ H P hh g _ fun x H1 P1 e1 h1 r1 => by
    cases (show x = .ref o from r1)
    obtain ⟨ys, e3, _⟩ := h1.cell hm1
    refine ⟨.inl ⟨rfl, ys, .inl (.inl e3)⟩, ?_⟩
    refine aj_cons he aj_nil hst σ H1 P1 h1 (g.ex e1) _ fun vs H2 P2 e2 h2 r2 => ?_
    obtain ⟨z, rfl, r3⟩ := ri1 r2
    have k1 := Bool.and_eq_true_iff.mp s1
    have k2 := Bool.and_eq_true_iff.mp s2
    have d1 : Dn H2 (.ref o) (.list ds) := Rd1.dn h2 (i := .v (.ref o)) rfl (.own hm)
    exact ⟨o, z, d, ds, rfl, rfl, dp_of _ _ k1.1 d1, dp_of _ _ k2.1 (dnw_ex h2.exw _ _ r3), k1.2, k2.2, q _ H2 P2 (e1.trans e2) h2 (.int _)⟩)
/-- xs.extend(ys), xs one's own, ys data -/
theorem sj_extL {ap epos : Pos} {p : Addr} {is is0 : List It} {ds : List PyData} (ho : EJ X N ρ M a (.v (.ref p)) M) (hm0 : (p, is0) ∈ M) (he : EJ X N ρ M e (.d (.list ds)) M1) (hm : (p, is) ∈ M1) (hz : is.length + ds.length ≤ 100000) (hr : SJ X N ρ (M1.put p (is ++ ds.map It.d)) rest Z) (hs : swapsWith (.Call (.Attribute a "extend" ap) [e] [] pos) none epos.line X.env = pure false := by rfl)
    (hst : starEach [e] X.env = [(false, eval e X.env)] := by rfl) (ps : PE X (.Call (.Attribute a "extend" ap) [e] [] pos) (tBM X.K "list" rExtend (wE X a) (wA X [e])) := by exact pe_bm PySem.F.plainAttrs_list PySem.F.slot_list_extend PySem.F.type_list_extend mt_extend pe_w pa_w) : SJ X N ρ M (.Expr (.Call (.Attribute a "extend" ap) [e] [] pos) epos :: rest) Z := sj_cons fun σ H P hh g D E tk z => by
  refine s_of (ps_expr ps hs) (ho σ H P hh g _ fun v H1 P1 e1 h1 r1 => ?_)
  cases (show v = .ref p from r1)
  obtain ⟨ys, ey, _⟩ := h1.cell hm0
  refine ⟨.inl ⟨rfl, ys, .inl (.inl ey)⟩, ?_⟩
  refine aj_cons he aj_nil hst σ H1 P1 h1 (g.ex e1) _ fun vs H2 P2 e2 h2 r2 => ?_
  obtain ⟨y, rfl, r3⟩ := ri1 r2
  obtain ⟨xs, e3, r4⟩ := h2.cell hm
  obtain ⟨b, zs, rfl, h5, h6⟩ := ri_lst r3
  refine ⟨p, b, xs, zs, rfl, rfl, e3, h2.ex _ _ h5, by rw [r4.len, dnAll_len h6]; exact Nat.le_trans hz (by decide), ?_⟩
  exact z.nx ρ _ σ _ P2 hr (e1.trans e2) (h2.write hm (r4.app (RepIs.of_all h6))) (g.ex (e1.trans e2))
/-- min of a list of one's own -/
theorem ej_minOD {p q : Pos} {o : Addr} {d : PyData} {ds : List PyData} (hc : X.calm = true) (hu : X.A.units + 64 < cLine) (hm : X.mg "min" = none) (ha : EJ X N ρ M a (.v (.ref o)) M1) (hM : (o, (d :: ds).map It.d) ∈ M1) (s1 : plainD (.list (d :: ds)) = true) (hal : PySem.W.AlikeAll (d :: ds)) (hdp : PyData.depthAll (d :: ds) ≤ 60)
    (hg : Gl X "min" := by rfl) (he : starEach [a] X.env = [(false, eval a X.env)] := by rfl) (hpl : (backTo q (starEach ([] : List Expr) X.env)).any (·.1) = false := by rfl) :
    EJ X N ρ M (.Call (.Name "min" p) [a] [] q) (.d (PySem.W.minD d ds)) M1 := ej_callB (cr_minD hc hu) hm (by decide +kernel) (aj_cons ha aj_nil he) (fun vs H P h rr Q q => by
  obtain ⟨x, rfl, r⟩ := ri1 rr
  cases (show x = .ref o from r)
  obtain ⟨ys, h3, h4⟩ := h.cell hM
  have k1 := Bool.and_eq_true_iff.mp s1
  exact ⟨o, ys, d, ds, P, rfl, .inl (.inl h3), h.exw, h4.to_all, k1.1, hal, k1.2, hdp, fun v hv => q _ H P (Ex.refl P) h hv⟩) hg (by decide) (by decide) he hpl
end
end Kt

/-! Kup: xs[k] = e with any whole k -/
namespace Kt
open PySem PySem.Spec PyProof PyProof.Rows L2
section
variable {X : Cx} {N : Ent} {ρ : Rho} {M M1 M2 : Mem} {e : Expr} {i : It} {pos : Pos} {Z : Post} {rest : List Stmt}
theorem sj_setZ {o x : Expr} {spos : Pos} {p : Addr} {is : List It} {n : Nat} {z : Int} (he : EJ X N ρ M e i M1) (ho : EJ X N ρ M1 o (.v (.ref p)) M1) (hx : EJ X N ρ M1 x (dI z) M2) (hm : (p, is) ∈ M2) (hn : ixN is.length z = some n) (hr : SJ X N ρ (M2.put p (is.set n i)) rest Z)
    (ha : ∀ v, assign (.Subscript o x spos) X.env v = (do
      let ov ← holding [v] (eval o X.env)
      let iv ← holding [v, ov] (eval x X.env)
      standAt spos
      holding [v, ov, iv] (setItem ov iv v)
      release [v, ov, iv] []) := by intro _; rfl)
    (hs : swapsWithSole [.Subscript o x spos] e pos.line X.env = pure false := by rfl) (hw : swappedStores [.Subscript o x spos] e X.env = pure none := by rfl)
    (h1 : (assignEach [.Subscript o x spos] X.env).map (·.2) = [assign (.Subscript o x spos) X.env] := by rfl) : SJ X N ρ M (.Assign [.Subscript o x spos] e pos :: rest) Z := sj_cons fun σ H P hh g D E tk z0 => by
  refine s_of (ps_asg pe_w (pg_sub pe_w pe_w set_list ha) hs hw h1) (he σ H P hh g _ fun v H1 P1 e1 h1 r1 => ho σ H1 P1 h1 (g.ex e1) _ fun ov H2 P2 e2 h2 r2 => hx σ H2 P2 h2 (g.ex (e1.trans e2)) _ fun iv H3 P3 e3 h3 r3 => ?_)
  obtain ⟨xs, e4, r4⟩ := h3.cell hm
  have z4 := r4.len
  refine ⟨p, xs, z, n, r2, ri_int r3, e4, by rw [z4]; exact hn, ?_⟩
  exact z0.nx ρ _ σ _ P3 hr ((e1.trans e2).trans e3) (h3.write hm (r4.set ((r1.ex e2).ex e3) n)) (g.ex ((e1.trans e2).trans e3))
end
end Kt
namespace Kt
open PySem PySem.Spec PyProof PyProof.Rows L2
section
variable {X : Cx} {ρ : Rho} {M M1 : Mem} {Θ : Os} {a tg : Expr}
theorem io_range {p rp : Pos} {m : Int} (hmr : X.mg "range" = none) (ha : ∀ N, KnT N Θ → EJ X N ρ M a (dI m) M1) (hb : -(2 ^ 62) ≤ m ∧ m < 2 ^ 62) (hg : Gl X "range" := by rfl) (hs : starEach [a] X.env = [(false, eval a X.env)] := by rfl) :
    IAO X ρ M Θ tg (.Call (.Name "range" p) [a] [] rp) ((List.range m.toNat).map fun k : Nat => .int (k : Int)) M1 := by
  refine ⟨_, pi_range1 hg hmr pa_w hs, fun N kn σ H P hh g R q => ?_⟩
  refine aj_cons (ha N kn) aj_nil hs σ H P hh g _ fun vs H1 P1 e1 h3 r1 => ?_
  obtain ⟨x, rfl, r2⟩ := ri1 r1
  cases ri_int r2
  have zl : ((List.range m.toNat).map fun k : Nat => PyData.int (k : Int)).length = m.toNat := by simp
  refine ⟨m, rfl, hb.1, hb.2, q _ H1 P1 e1 h3 ⟨fun n N H P' M' hi h2 e2 => ?_, fun N H P' M' h2 e2 => ?_, fun n N H v H' P' M' hi h2 e2 y => ?_⟩⟩
  · rw [zl] at hi
    have : m - 0 = m := by omega
    first | exact hi | (simp; omega)
  · rw [zl]
    first | exact Nat.le_refl _ | (simp)
  · rw [zl] at hi
    obtain ⟨rfl, rfl⟩ := y
    refine ⟨P', _, by rw [List.getElem?_map, List.getElem?_range hi]; rfl, Ex.refl _, h2, ?_⟩
    have : (0 : Int) + (n : Int) = (n : Int) := by omega
    rw [this]
    exact .int _
end
end Kt

/-! Kuq: the law where the caller calls it: nothing is under repr there; repr of data -/
namespace Kt
open PySem PySem.Spec PyProof PyProof.Rows L2
/-- what the def does when the caller calls it -/
def RunAt (P : Program) (w : World) (K : PySem.W.Frag) (mg : Str → Option Value) (base : Heap) (f : Addr) (fd : FuncData) (ps : List Str) (sp : Sp) : Prop :=
  ∀ (s : Shared) (H : Hp) (args : Args) (us : List Value) (vs : List V) (Q : VK) (E : XK), Env0 P w K mg base callerA [] s H → BindsTo s fd args (ps.zip us) → Vals vs us → sp vs H Q E →
    codeAny (model P w) callerA (.call (.ref f) args) (CR CX0 [] P w H s Q E) s
theorem room_c {k : Nat} (hk : k ≤ 40) : Room k callerA := by
  have h : Room 40 callerA := ⟨rfl, by decide, by decide⟩
  exact h.mono hk
theorem run_at {P : Program} {w : World} {K : PySem.W.Frag} {mg : Str → Option Value} {base : Heap} {x qual : Str} {st : Stmt} {f : Addr} {fd : FuncData} {NN ps : List Str} {k : Nat} {sp : Sp} (hk : k + 1 ≤ 40) (F : Fun K x qual st f fd) (S : FnScope NN ps (defScope st)) (len : ∀ vs H Q E, sp vs H Q E → vs.length = ps.length)
    (body : ∀ (cdv : Value) (s : Shared) (H : Hp) (vs : List V) (Q : VK) (E : XK), Room k (callerA.deeper (envOfC qual (defScope st) s.heap.objs.size f cdv)) → sp vs H Q E →
      ∃ t, PSs (cxOf CX0 P w K mg base NN qual (defScope st) f cdv callerA [] s H E).nox (defBody st) t ∧ t { nx := fun _ H' => Q .non H', rt := Q } (start NN vs) H) : RunAt P w K mg base f fd ps sp := by
  intro s H args us vs Q E e0 hb rv hsp
  obtain ⟨oc, od, kV, doc, pm, an, cdv, ct, osl, rfl, lk, hcd⟩ := F.ex
  have R1 : Room (k + 1) callerA := room_c hk
  have up : ∀ b o, base.get? b = some o → s.heap.get? b = some o := fun b o q => (e0.bs b o q).1
  have kin := e0.mod.kin.keeps up
  have nol := e0.mod.nolimit.keeps up
  have kinds : ∀ y ∈ ps.zip us, (defScope st).names.lookup y.1 = some .local ∨ ((defScope st).names.lookup y.1 = some .cell ∧ ((cellsFrom (s.heap.objs.size + 1) (defScope st).names []).lookup y.1).isSome = true) := by
    intro y hy
    obtain ⟨n, v⟩ := y
    rcases S.par n (List.of_mem_zip hy).1 with a | a
    · exact Or.inl a
    · exact Or.inr ⟨a, PySem.W.cellsFrom_some _ _ _ (Or.inl a)⟩
  refine codeAny_call_function (R1.depth) (kin _ _ lk) rfl S.co S.gen rfl (PySem.W.codeRec_of kin hcd) (hb _ _ _ _ ?_)
  refine wpAny_newFunctionEnv_cells S.kind kinds ?_
  intro env he s1 y
  subst he
  refine ⟨nol.keeps y.toInCall.keep, ?_⟩
  refine codeAny_func ?_
  obtain ⟨t, T0, q⟩ := body cdv s H vs Q E (R1.deeper _) hsp
  have T := T0.nox
  have J0 := inv_start S R1.hd e0 (len _ _ _ _ hsp) rv y (E := E) (CX := CX0)
  refine wpAny_mono (T.run [] s1 _ H _ J0 q) ?_ fun _ _ a => a
  intro fl s2 hs
  have close : ∀ {σ' : L2.St} {H' : Hp} {v : V} {u : Value}, Inv (cxOf CX0 P w K mg base NN qual (defScope st) f cdv callerA [] s H E) [] σ' H' s2 → RelV v u → Q v H' → CE [] P w H s Q u s2 := by
    intro σ' H' v u J a b
    exact ⟨v, H', J.os, J.bare, J.base, J.hok, a, b⟩
  match fl, hs with
  | .ret u, ⟨v, σ', H', J, a, b⟩ => exact close J a b
  | .next, ⟨σ', H', J, b⟩ => exact close (v := V.non) (u := Value.none) J rfl b
  | .brk, ⟨_, _, _, b⟩ => exact absurd b id
  | .cont, ⟨_, _, _, b⟩ => exact absurd b id
end Kt
namespace Kt
open PySem PySem.Spec PyProof PyProof.Rows L2
section
variable {P : Program} {w : World} {K : PySem.W.Frag} {mg mb : Str → Option Value} {fa a : Addr} {fd : FuncData} {x : Str} {sp : Sp} {s1 : Shared} {vs : List Value} {ns : List Int}
/-- over a heap in which at most the script is tracked -/
theorem law_over {H : Hp} (hO : Only H) (hS : SqL K H a (ns.map V.int)) (hok : HOk P w H s1.heap) (one : ∀ b, H b ≠ none → b = a) (own : H a ≠ none → K.lookup a = none)
    (kin : K.In s1.heap) (gl : s1.heap.Ns mainGlobals mg) (bt : s1.heap.Ns builtinsNs mb) (bb : ∀ x : Str, x ≠ "__name__" → mb x = bootBuiltins x) (nl : s1.heap.NoLimit) (gn : s1.gens = #[])
    (ho : s1.heap.get? a = some { cls := .type "list", data := .seq vs.toArray })
    (F : ∀ base : Heap, K.In base → base.Ns mainGlobals mg → RunAt P w K mg base fa fd [x] sp) (bind : ∀ (s : Shared) (u : Value), BindsTo s fd ⟨[u], []⟩ [(x, u)])
    (hsp : sp [.ref a] H (fun v _ => v = .bl true) fun _ _ _ => False) :
    codeAny (model P w) callerA (.call (.ref fa) ⟨[.ref a], []⟩) (fun r s2 => r = .ok (.ret (.bool true)) ∧ OldK s1.heap s2.heap ∧ s2.os = s1.os ∧ AllBare s2.gens) s1 := by
  have hid : ∀ {b : Addr} {o : Obj}, s1.heap.get? b = some o → (b = a → H a = none) → (hidT s1.heap H).get? b = some o := fun {b o} e n => hidT_get e (by
    cases q : H b with
    | none => rfl
    | some u =>
      have e2 : b = a := one b (by rw [q]; exact Option.some_ne_none u)
      rw [e2, n e2] at q
      cases q)
  have dct : ∀ {b : Addr} {m : Str → Option Value}, s1.heap.Ns b m → (hidT s1.heap H).Ns b m := by
    rintro b m ⟨o, es, ep, e, d, r⟩
    refine ⟨o, es, ep, hid e fun e2 => ?_, d, r⟩
    subst e2
    rw [ho] at e
    cases e
    exact absurd (show Data.seq vs.toArray _ = Data.dict es ep from d) (fun k => by cases k)
  have kin2 : K.In (hidT s1.heap H) := fun b o e => hid (kin b o e) fun e2 => by
    subst e2
    cases q : H b with
    | none => rfl
    | some u =>
      rw [own (by rw [q]; exact Option.some_ne_none u)] at e
      cases e
  have md : Mod K mg (hidT s1.heap H) := by
    obtain ⟨mc, l1, l2⟩ := nl
    exact ⟨kin2, dct gl, ⟨mb, dct bt, bb⟩, ⟨mc, dct l1, l2⟩⟩
  have e0 : Env0 P w K mg (hidT s1.heap H) callerA [] s1 H := by
    refine ⟨rfl, md, fun b o e => of_hidT e, Nat.le_of_eq (hidT_size _ _), trivial, fun b hb => ?_, hok, .of_eq gn⟩
    exact absurd hb List.not_mem_nil
  refine codeAny_mono (F _ kin2 (dct gl) s1 H ⟨[.ref a], []⟩ [.ref a] [.ref a] _ _ e0 (bind s1 (.ref a)) (.cons rfl .nil) hsp) ?_
  intro r s2 h
  match r, h with
  | .error e, h => exact absurd h (by
      intro k
      exact k)
  | .ok .next, h => exact absurd h id
  | .ok .brk, h => exact absurd h id
  | .ok .cont, h => exact absurd h id
  | .ok (.ret u), h =>
    obtain ⟨v, H2, os, bare, un, hok2, rv, hv⟩ := h
    have hv : v = .bl true := hv
    subst hv
    obtain rfl : u = Value.bool true := rv
    refine ⟨rfl, OldK.of_keep ?_, os, bare⟩
    intro b o e
    cases q : H b with
    | none => exact un.keep b o e q (by intro z; exact absurd z List.not_mem_nil) (by simp)
    | some t =>
      rcases hO b with z | ⟨ob, xs, z⟩
      · rw [z] at q
        cases q
      · obtain ⟨g1, _⟩ := hok b _ z
        obtain ⟨g2, _⟩ := hok2 b _ (un.frzs b ob _ z)
        rw [e] at g1
        cases g1
        exact g2
theorem law_at (kin : K.In s1.heap) (gl : s1.heap.Ns mainGlobals mg) (bt : s1.heap.Ns builtinsNs mb) (bb : ∀ x : Str, x ≠ "__name__" → mb x = bootBuiltins x) (nl : s1.heap.NoLimit) (gn : s1.gens = #[])
    (ho : s1.heap.get? a = some { cls := .type "list", data := .seq vs.toArray }) (hi : IntsAre vs ns) (hl : ns.length ≤ sizeLine)
    (F : ∀ base : Heap, K.In base → base.Ns mainGlobals mg → RunAt P w K mg base fa fd [x] sp) (bind : ∀ (s : Shared) (u : Value), BindsTo s fd ⟨[u], []⟩ [(x, u)])
    (hsp : ∀ H : Hp, Only H → SqL K H a (ns.map V.int) → sp [.ref a] H (fun v _ => v = .bl true) fun _ _ _ => False) :
    codeAny (model P w) callerA (.call (.ref fa) ⟨[.ref a], []⟩) (fun r s2 => r = .ok (.ret (.bool true)) ∧ OldK s1.heap s2.heap ∧ s2.os = s1.os ∧ AllBare s2.gens) s1 := by
  have rv := vals_ints hi
  cases hk : K.lookup a with
  | some o =>
    have e := kin a o hk
    rw [ho] at e
    cases e
    have S : SqL K (fun _ => none) a (ns.map V.int) := .inr ⟨_, vs.toArray, _, hk, rfl, rfl, rfl, by rw [List.size_toArray, hi.length]; exact hl, by simpa using rv⟩
    exact law_over (H := fun _ => none) (fun _ => .inl rfl) S (fun b u z => absurd z (by simp)) (fun b z => absurd rfl z) (fun z => absurd rfl z) kin gl bt bb nl gn ho F bind (hsp _ (fun _ => .inl rfl) S)
  | none =>
    obtain ⟨T, hT⟩ : ∃ T : HO, T = .frz { cls := .type "list", data := .seq vs.toArray } (.lst (ns.map V.int)) := ⟨_, rfl⟩
    have O : Only (fun b => if b = a then some T else none) := fun b => by
      by_cases e : b = a
      · exact .inr ⟨_, _, (if_pos e).trans (congrArg some hT)⟩
      · exact .inl (if_neg e)
    have S : SqL K (fun b => if b = a then some T else none) a (ns.map V.int) := .inl (.inr ⟨_, (if_pos rfl).trans (congrArg some hT)⟩)
    refine law_over (H := fun b => if b = a then some T else none) O S (fun b u z => ?_) (fun b z => ?_) (fun _ => hk) kin gl bt bb nl gn ho F bind (hsp _ O S)
    · by_cases e : b = a
      · have z : some T = some u := (if_pos e).symm.trans z
        cases z
        subst e
        rw [hT]
        exact ⟨ho, by rw [List.length_map]; exact hl, vs, _, rv, ho⟩
      · have z : none = some u := (if_neg e).symm.trans z
        cases z
    · by_cases e : b = a
      · exact e
      · exact absurd (if_neg e) z
end
theorem walk_at {l : PySem.W.OpenLaw} {n : Nat} {q : Program} {loose : List Str} {XP : (Str → Option Value) → Heap → Prop} {YP : World → Heap → Prop} {d : DefRec} {K : Params → PySem.W.Frag} {sp : World → Sp} {x : Str}
    (hn : l.most = some n) (hn2 : n ≤ sizeLine) (hdf : d.params.defaults = [])
    (hY : ∀ (w : World) (h : Heap), YP w h → (K w.params).In h)
    (F : ∀ (w : World) (mg : Str → Option Value) (fa : Addr) (h : Heap), (K w.params).In h → h.Ns mainGlobals mg → mg d.name = some (.ref fa) →
      ∃ fd : FuncData, (∀ (s : Shared) (u : Value), BindsTo s fd ⟨[u], []⟩ [(x, u)]) ∧ ∀ base : Heap, (K w.params).In base → base.Ns mainGlobals mg → RunAt l.prog w (K w.params) mg base fa fd [x] (sp w))
    (hsp : ∀ (w : World) (H : Hp) (a : Addr) (ns : List Int), ns.length ≤ n → Only H → SqL (K w.params) H a (ns.map V.int) → sp w [.ref a] H (fun v _ => v = .bl true) fun _ _ _ => False) :
    PySem.W.WalkO q loose XP YP l.row.toRowW d [] (fun f vs => PySem.call f vs) := by
  refine Att.attach_call hn hdf ?_
  intro w s₀ s₁ mg mb fa o pm cd doc a vs ns G Y _ _ _ hmg hobj hints hlen hg
  obtain ⟨fd, bind, R⟩ := F w mg fa _ (hY w _ Y) G.T.g hmg
  exact law_at (hY w _ Y) G.T.g G.T.b G.T.builtins G.T.nolimit hg hobj hints (Nat.le_trans hlen hn2) R bind fun H hO hS => hsp w H a ns hlen hO hS
/-- the law, at its call: nothing is under repr -/
theorem lawG_ok {P : Program} {w : World} {K : PySem.W.Frag} {mg : Str → Option Value} {base : Heap} {st : Stmt} {f : Addr} {fd : FuncData} {NN : List Str} {l : Nat} (hk : l + 1 ≤ 40) (F : Fun K "law" "law" st f fd) (S : FnScope NN ["script"] (defScope st))
    (body : ∀ X : Cx, (∃ cdv A outer s H E, X = (cxOf CX0 P w K mg base NN "law" (defScope st) f cdv A outer s H E).nox ∧ Room l X.A ∧ X.A.guards = some []) → ∀ N a ns, N.F = [] → ns.length ≤ 63 → SJ X N (rho NN [scr K a ns]) [] (defBody st) { nx := fun _ _ => False, rt := fun i _ => i = dB true }) : RunAt P w K mg base f fd ["script"] (spLaw K) := by
  refine run_at hk F S (fun vs H Q E h => ?_) (fun cdv s H vs Q E hr h => ?_)
  · obtain ⟨a, ns, rfl, _⟩ := h
    rfl
  · obtain ⟨a, ns, rfl, hS, hl, nz, q⟩ := h
    refine ⟨_, pss_w, ?_⟩
    have h0 : Holds (inner H H []) H H [] := ⟨(Ex.refl H).w, Ex.refl H, fun _ _ e _ => e, fun _ e f => absurd e f, fun _ hc => absurd hc (List.not_mem_nil), List.nodup_nil, fun _ ha => ha, fun _ hc => absurd hc (List.not_mem_nil), fun _ _ _ e => e, nz⟩
    have es : L2.start NN [V.ref a] = ([V.ref a] : List V).map some ++ List.replicate (NN.length - ([scr K a ns] : List It).length) none := rfl
    rw [es]
    refine body _ ⟨cdv, callerA, [], s, H, E, rfl, hr, rfl⟩ (inner H H []) a ns rfl hl _ H H h0 (slots_start (vs := [V.ref a]) (is := [scr K a ns]) _ ⟨⟨rfl, hS⟩, trivial⟩) _ E0 takes0 ⟨fun _ _ _ _ _ a => a.elim, fun i' M'' v H' P' e _ hh rr => ?_, fun _ _ _ _ _ a => a.elim, fun _ _ _ _ _ a => a.elim, fun _ _ _ _ _ _ _ a => a.elim⟩
    subst e
    rw [ri_bl rr]
    exact q H'
end Kt
namespace Kt
open PySem PySem.Spec PyProof PyProof.Rows L2
/-- data that repr can write: depth, bulk -/
inductive PR : Nat → Nat → PyData → Prop
  | non {n W : Nat} : PR n W .none
  | bl {n W : Nat} (b : Bool) : PR n W (.bool b)
  | int {n W : Nat} (i : Int) (h : i.natAbs < 10 ^ 39) : PR n W (.int i)
  | str {n W : Nat} (x : Str) (h : ∀ c ∈ x.cps.toList, c < 16 ^ 8) (hl : x.cps.size ≤ W) : PR n W (.str x)
  | lst {n W L Z : Nat} (l : List PyData) (hl : l.length ≤ L) (h : ∀ x ∈ l, PR n W x) (hz : L * (W + 1) ≤ Z) : PR (n + 1) Z (.list l)
  | tup {n W L Z : Nat} (l : List PyData) (hl : l.length ≤ L) (h : ∀ x ∈ l, PR n W x) (hz : L * (W + 1) ≤ Z) : PR (n + 1) Z (.tuple l)
structure PROk (n W : Nat) (d : PyData) : Prop where
  sh : d.showable = true
  nd : d.hasDict = false
  no : noDict d = true
  ls : PyData.leavesShort 40 d = true
  wt : d.bulk ≤ W
  dp : d.depth ≤ n
structure PRAll (n W : Nat) (l : List PyData) : Prop where
  sh : PyData.showableAll l = true
  nd : PyData.hasDictAll l = false
  no : noDicts l = true
  ls : PyData.leavesShortAll 40 l = true
  wt : PyData.bulkAll l ≤ l.length * (W + 1)
  dp : PyData.depthAll l ≤ n
theorem pr_all {n W : Nat} : ∀ {l : List PyData}, (∀ x ∈ l, PROk n W x) → PRAll n W l
  | [], _ => ⟨rfl, rfl, rfl, rfl, Nat.zero_le _, Nat.zero_le _⟩
  | x :: l, h => by
    have a := h x List.mem_cons_self
    have b := pr_all (l := l) fun y hy => h y (List.mem_cons_of_mem _ hy)
    refine ⟨?_, ?_, ?_, ?_, ?_, ?_⟩
    · show (x.showable && PyData.showableAll l) = true
      rw [a.sh, b.sh]
      rfl
    · show (x.hasDict || PyData.hasDictAll l) = false
      rw [a.nd, b.nd]
      rfl
    · show (noDict x && noDicts l) = true
      rw [a.no, b.no]
      rfl
    · show (PyData.leavesShort 40 x && PyData.leavesShortAll 40 l) = true
      rw [a.ls, b.ls]
      rfl
    · show x.bulk + 1 + PyData.bulkAll l ≤ (l.length + 1) * (W + 1)
      have := a.wt
      have := b.wt
      rw [Nat.succ_mul]
      omega
    · show max x.depth (PyData.depthAll l) ≤ n
      have := a.dp
      have := b.dp
      omega
theorem int_short {i : Int} (h : i.natAbs < 10 ^ 39) : (PyData.shown (.int i)).length ≤ 40 := by
  have := int_text_length_le10 (k := 39) (by decide) h
  have e : (PyData.shown (.int i)) = Str.ofString (toString i) := by simp only [PyData.shown]
  rw [e, PySem.ofString_length]
  exact this
theorem log_short {i : Int} (h : i.natAbs < 10 ^ 39) : i.natAbs.log2 < 1920 := by
  by_cases z : i.natAbs = 0
  · rw [z]; decide
  · have h1 : (10 : Nat) ^ 39 ≤ 2 ^ 130 := by decide +kernel
    exact Nat.lt_of_lt_of_le ((Nat.log2_lt z).mpr (Nat.lt_of_lt_of_le h h1)) (by decide)
theorem pr_ok {n W : Nat} {d : PyData} (h : PR n W d) : PROk n W d := by
  induction h with
  | non => exact ⟨rfl, rfl, rfl, rfl, Nat.zero_le _, Nat.zero_le _⟩
  | bl b => exact ⟨rfl, rfl, rfl, rfl, Nat.zero_le _, Nat.zero_le _⟩
  | int i hi => exact ⟨decide_eq_true (log_short hi), rfl, rfl, decide_eq_true (int_short hi), Nat.zero_le _, Nat.zero_le _⟩
  | str x h hl => exact ⟨rfl, rfl, rfl, List.all_eq_true.mpr fun c hc => decide_eq_true (h c hc), hl, Nat.zero_le _⟩
  | lst l hl _ hz ih =>
    have a := pr_all ih
    exact ⟨a.sh, a.nd, a.no, a.ls, Nat.le_trans a.wt (Nat.le_trans (Nat.mul_le_mul_right _ hl) hz), by show PyData.depthAll l + 1 ≤ _; have := a.dp; omega⟩
  | tup l hl _ hz ih =>
    have a := pr_all ih
    exact ⟨a.sh, a.nd, a.no, a.ls, Nat.le_trans a.wt (Nat.le_trans (Nat.mul_le_mul_right _ hl) hz), by show PyData.depthAll l + 1 ≤ _; have := a.dp; omega⟩
def rRepr (K : PySem.W.Frag) : List V → Hp → VK → Prop := fun vs H Q => ∃ (a : Addr) (d : PyData) (W : Nat), vs = [.ref a] ∧ Dp K H (.ref a) d ∧ PROk 60 W d ∧ W ≤ 300000 ∧ Q (.str d.shown) H
theorem cr_repr {X : Cx} (hg : X.A.guards = some []) (hu : X.A.units + 64 < cLine) : CallR X (.builtin "repr") (rRepr X.K) := by
  intro pins s σ H vs us Q I rv h
  obtain ⟨a, d, W, rfl, hd, ok, hW, q⟩ := h
  rw [Vals.ref1 rv]
  obtain ⟨as, r⟩ := Dp.reads I d (.ref a) (.ref a) hd rfl
  have sz : d.shown.length ≤ sizeLine := by
    have h1 := PyData.shown_le_bulk 40 (by decide) d ok.ls
    have h2 := ok.wt
    rw [sizeLine_eq]
    omega
  have dp := ok.dp
  refine repr_of_reads' (s := s) (h₀ := s.heap) r ok.sh (fun e => by rw [ok.nd] at e; cases e) hg (by omega) (fun _ _ e => e) (fun h' u tk hk => ?_) sz
  exact ⟨.str d.shown, H, I.kept hk, ⟨u, rfl⟩, q⟩
section
variable {X : Cx} {N : Ent} {ρ : Rho} {M M1 M2 : Mem} {a b : Expr} {pos : Pos}
theorem ej_repr {p q : Pos} {d : PyData} {W : Nat} (hg0 : X.A.guards = some []) (hu : X.A.units + 64 < cLine) (hm : X.mg "repr" = none) (ha : EJ X N ρ M a (.d d) M1) (ok : PROk 60 W d) (hW : W ≤ 300000) (hl : (∃ l, d = .list l) ∨ ∃ l, d = .tuple l)
    (hg : Gl X "repr" := by rfl) (he : starEach [a] X.env = [(false, eval a X.env)] := by rfl) (hpl : (backTo q (starEach ([] : List Expr) X.env)).any (·.1) = false := by rfl) :
    EJ X N ρ M (.Call (.Name "repr" p) [a] [] q) (.d (.str d.shown)) M1 := ej_callB (cr_repr hg0 hu) hm (by decide +kernel) (aj_cons ha aj_nil he) (fun vs H P h rr Q k => by
  obtain ⟨x, rfl, r⟩ := ri1 rr
  have dn : Dn H x d := dnw_ex h.exw _ _ r
  obtain ⟨y, rfl⟩ : ∃ y, x = .ref y := by
    rcases hl with ⟨l, rfl⟩ | ⟨l, rfl⟩
    · cases dn; exact ⟨_, rfl⟩
    · cases dn; exact ⟨_, rfl⟩
  exact ⟨y, d, W, rfl, dp_of _ _ ok.no dn, ok, hW, k _ H P (Ex.refl P) h (.str _)⟩) hg (by decide) (by decide) he hpl
end
section
variable {X : Cx} {N : Ent} {ρ : Rho} {M M1 M2 : Mem} {a b : Expr} {pos : Pos}
theorem rj_neS {s t : Str} : RJ N rNe M (.d (.str s)) (.d (.str t)) (dB (!decide (s = t))) M := fun x y H P h rx ry Q q => by
  cases ri_str rx
  cases ri_str ry
  refine ⟨rfl, q _ H P (Ex.refl P) h ?_⟩
  have e : decide (V.str s = V.str t) = decide (s = t) := by
    by_cases z : s = t
    · subst z; simp
    · simp [z]
  rw [e]
  exact .bl _
theorem tj_neS {s t : Str} (ha : EJ X N ρ M a (.d (.str s)) M1) (hb : EJ X N ρ M1 b (.d (.str t)) M2) : TJ X N ρ M (.Compare a [.NotEq] [b] pos) (!decide (s = t)) M2 := tj_cmp op_ne (nomark _) ha hb rj_neS
end
end Kt

/-! Kur: comprehensions of three clauses, clause by clause -/
namespace Kt
open PySem PySem.Spec PyProof PyProof.Rows L2
abbrev TB := L2.St → Hp → (Hp → Prop) → Prop
/-- what a clause's turn does behind its store, then k -/
structure PB (Y : Cx) (K : Sem Fin → Sem Fin) (vs : List Nat) (b : TB) : Prop where
  run : ∀ (pins : List (Addr × Obj)) (σ : L2.St) (H : Hp) (s : Shared) (N : Hp → Prop) (k : Sem Fin) (R : Fin → Shared → Prop), Inv Y pins σ H s → b σ H N →
    (∀ σ' H' s', Inv Y pins σ' H' s' → σ'.length = σ.length → (∀ (j : Nat) v, (wipe σ vs)[j]? = some (some v) → σ'[j]? = some (some v)) → N H' → wpAny (model Y.prog Y.w) Y.A k R (fun _ _ => False) s') →
    wpAny (model Y.prog Y.w) Y.A (K k) R (fun _ _ => False) s
/-- a clause's loop: its turns, by measure -/
def LV (vs : List Nat) (g : TG) (b : TB) (J : L2.It) (σ : L2.St) (Stop : Hp → Prop) (W : Nat → Nat → Hp → Prop) : Prop := ∀ i m H, W i m H →
  (J.stop i H ∧ Stop H) ∨ (J.go i H ∧ ∃ Nx : Hp → Prop, (∀ H', Nx H' → ∃ m', m' < m ∧ W (i + 1) m' H') ∧ ∀ x H', J.yld i H x H' → g x (wipe σ vs) H' fun σ2 H2 => wipe σ2 vs = wipe σ vs ∧ b σ2 H2 Nx)
section
variable {Y : Cx} {elt : Expr} {gens : List Comprehension} {scope : Scope} {pos : Pos} {t i : Expr} {c : Nat} {it : Addr} {acc : Value} {K : Sem Fin → Sem Fin} {vs vs1 : List Nat} {g : TG} {b : TB} {J : L2.It} {fp : List Addr} {tn : Nat → Heap → Prop} {pins : List (Addr × Obj)} {σ : L2.St} {Stop : Hp → Prop} {W : Nat → Nat → Hp → Prop} {m0 : Nat} {H0 : Hp} {s0 : Shared} {R : Result → Shared → Prop}
theorem wipe_sub {σ8 : L2.St} (hw : wipe σ8 vs = wipe σ vs) (hv : ∀ i ∈ vs1, i ∈ vs) {j : Nat} {v : V} (e : (wipe σ vs)[j]? = some (some v)) : (wipe σ8 vs1)[j]? = some (some v) := by
  rw [← hw] at e
  obtain ⟨e1, e2⟩ := wipe_some e
  rw [wipe_out fun z => e2 (hv j z)]
  exact e1
theorem loop_lvl (hc : Y.calm = true) (hx : Y.xe = fun _ _ => False)
    (eq : compTurn (.ListComp elt gens scope pos) c (.ref it) acc Y.env = (do
      standAt i.pos
      match ← pyNext (.ref it) with
      | none => pure (.done .next)
      | some v =>
        letOwnedTupleGo t (.ref it) v
        assign t Y.env v
        K (again (.compLoop (.ListComp elt gens scope pos) c (.ref it) acc Y.env))))
    (T : Turn Y.prog Y.w Y.K t J fp it tn) (pg : PG Y t g) (pb : PB Y K vs1 b) (hv : ∀ i ∈ vs1, i ∈ vs)
    (stat : ∀ {σ' : L2.St} {H' : Hp} {s' : Shared}, Inv Y pins σ' H' s' → (∀ b ∈ fp, H' b = none) → ∀ b ∈ fp, FpOk Y pins H' b)
    (I0 : Inv Y pins (wipe σ vs) H0 s0) (st0 : tn 0 s0.heap) (n0 : ∀ b ∈ fp, H0 b = none) (w0 : W 0 m0 H0) (turn : LV vs g b J σ Stop W)
    (hR : ∀ s' H', Inv Y pins (wipe σ vs) H' s' → Stop H' → R (.ok .next) s') : codeAny (model Y.prog Y.w) Y.A (.compLoop (.ListComp elt gens scope pos) c (.ref it) acc Y.env) R s0 := by
  refine codeAny_loop rfl (fun n s' => ∃ i H', Inv Y pins (wipe σ vs) H' s' ∧ tn i s'.heap ∧ (∀ b ∈ fp, H' b = none) ∧ W i n H') (fun n s5 hI => ?_) m0 ⟨0, H0, I0, st0, n0, w0⟩
  obtain ⟨i, H5, I5, st5, n5, w5⟩ := hI
  show wpAny _ Y.A ((compTurn (.ListComp elt gens scope pos) c (.ref it) acc Y.env).onRaise (fun x => do noteFrame x Y.env; theTreesLotGoes x)) _ _ s5
  refine wpAny_noted ?_
  rw [eq]
  refine wpAny_bind (wpAny_standAt (wpAny_bind ?_))
  rcases turn i n H5 w5 with ⟨stop, qq⟩ | ⟨go, Nx, hNx, step⟩
  · refine thnF (T.done Y rfl rfl rfl hc i pins s5 _ H5 (fun _ _ => False) I5 (stat I5 n5) st5 stop) fun r s6 ⟨hr, I6⟩ => ?_
    subst hr
    exact wpAny_pure (hR s6 H5 I6 qq)
  · refine thnF (T.item Y rfl rfl rfl hc i pins s5 _ H5 (fun _ _ => False) I5 (stat I5 n5) st5 go) fun r s6 ⟨u, hr, h6⟩ => ?_
    subst hr
    refine wpAny_bind (thnF h6 fun _ s7 ⟨x, H7, I7, r7, y7, st7, n7⟩ => ?_)
    have I7' := I7.pinned (stat I7 n7) (T.obj _ _ st7)
    have pr := pg.run _ s7 _ H7 x u _ I7' r7 (step x H7 y7)
    rw [hx] at pr
    refine wpAny_bind (thnF pr fun _ s8 ⟨σ8, H8, I8, hw8, q8⟩ => ?_)
    refine thnF (pb.run _ σ8 H8 s8 Nx _ _ I8 q8 fun σ9 H9 s9 I9 hl hk nx => wpAny_pure ⟨rfl, ?_⟩) fun _ _ z => z
    obtain ⟨m', hm, w'⟩ := hNx H9 nx
    have pin' : ∀ b ∈ fp, ∀ o, s7.heap.get? b = some o → s9.heap.get? b = some o ∧ H9 b = none := fun b hb o e =>
      let z := I9.pin (b, o) (List.mem_append_right _ (List.mem_append_right _ (mem_pinsAt hb e)))
      ⟨z.1, z.2.1⟩
    refine ⟨m', hm, i + 1, H9, I9.unpinned.weak ?_ (fun j v e => hk j v (wipe_sub hw8 hv e)), T.keep _ _ _ st7 fun b hb o e => (pin' b hb o e).1, fun b hb => ?_, w'⟩
    · rw [hl, ← hw8, wipe_length]
    · obtain ⟨o, e, _⟩ := T.obj _ _ st7 b hb
      exact (pin' b hb o e).2
end
section
variable {Y : Cx}
/-- the element, put behind the list -/
theorem pb_app {elt : Expr} {te : TE} {D : Addr} (hx : Y.xe = fun _ _ => False) (pe : PE Y elt te) : PB Y (fun k => do
      (do let _ ← call (.builtin "list.append") [.ref D, ← eval elt Y.env])
      k) [] (fun σ H N => te σ H fun y H7 => ∃ acc, H7 D = some (.lst acc) ∧ acc.length < sizeLine ∧ N (upd H7 D (.lst (acc ++ [y])))) := by
  refine ⟨fun pins σ H s N k R I h hk => ?_⟩
  have pr := pe.run _ s σ H _ I h
  rw [hx] at pr
  refine wpAny_bind (wpAny_bind (thnF pr fun z s1 ⟨yv, H1, I1, r1, acc, hD, hz, nx⟩ => ?_))
  refine wpAny_bind (app_ok I1 hD hz r1 fun s2 I2 => wpAny_pure (hk σ _ s2 I2 rfl (fun j v e => e) nx))
/-- the next clause, over its own source -/
theorem pb_down {elt : Expr} {gens : List Comprehension} {scope : Scope} {pos : Pos} {i : Expr} {c : Nat} {t : Expr} {acc : Value} {K : Sem Fin → Sem Fin} {vs vs1 : List Nat} {wi : TI} {g : TG} {b : TB} (hc : Y.calm = true) (hx : Y.xe = fun _ _ => False)
    (eq : ∀ it : Addr, compTurn (.ListComp elt gens scope pos) c (.ref it) acc Y.env = (do
      standAt i.pos
      match ← pyNext (.ref it) with
      | none => pure (.done .next)
      | some v =>
        letOwnedTupleGo t (.ref it) v
        assign t Y.env v
        K (again (.compLoop (.ListComp elt gens scope pos) c (.ref it) acc Y.env))))
    (start : ∀ (it : Addr) (s : Shared) (R : Result → Shared → Prop), codeAny (model Y.prog Y.w) Y.A (.compLoop (.ListComp elt gens scope pos) c (.ref it) acc Y.env) R s → wpAny (model Y.prog Y.w) Y.A (pyIter (.ref it)) (fun it' s' => codeAny (model Y.prog Y.w) Y.A (.compLoop (.ListComp elt gens scope pos) c it' acc Y.env) R s') (notedBy (model Y.prog Y.w) Y.A Y.env fun x s' => R (.error x) s') s → codeAny (model Y.prog Y.w) Y.A (.compStart (.ListComp elt gens scope pos) c (.ref it) acc Y.env) R s)
    (hs : ∀ x, foldedSetIterable i Y.env x = pure x) (pi : PI Y t i wi) (pg : PG Y t g) (pb : PB Y K vs1 b) (hv : ∀ i ∈ vs1, i ∈ vs) :
    PB Y (fun k => do
      let x ← eval i Y.env
      standAt i.pos
      let x ← foldedSetIterable i Y.env x
      let _ ← runOwn (.compStart (.ListComp elt gens scope pos) c (← holding [x] (pyIter x)) acc Y.env) Y.env
      k) vs (fun σ H N => wi σ H fun J H1 => ∃ W : Nat → Nat → Hp → Prop, (∃ m, W 0 m H1) ∧ LV vs g b J σ N W) := by
  refine ⟨fun pins σ H s N k R I h hk => ?_⟩
  have pr := pi.run pins s σ H _ I h
  rw [hx] at pr
  refine wpAny_bind (thnF pr fun xv s1 h1 => ?_)
  refine wpAny_bind (wpAny_standAt (wpAny_bind (wpAny_of_eq (hs xv) (wpAny_bind (wpAny_holding (thnF h1 fun itv s2 h2 => ?_))))))
  obtain ⟨it, fp, tn, J, H2, e2, I2, T, st2, f2, W, ⟨m0, w0⟩, turn⟩ := h2
  subst e2
  refine wpAny_bind (wpAny_runOwn ?_)
  rw [Around.mark_none]
  have loop : codeAny (model Y.prog Y.w) Y.A (.compLoop (.ListComp elt gens scope pos) c (.ref it) acc Y.env) (fun r s' => match r with
      | .ok _ => wpAny (model Y.prog Y.w) Y.A k R (fun _ _ => False) s'
      | .error _ => False) s2 := loop_lvl hc hx (eq it) T pg pb hv (fun I' hn b hb => ⟨hn b hb, (f2 b hb).2⟩) (I2.weak (wipe_length _ _) fun j v e => (wipe_some e).1) st2 (fun b hb => (f2 b hb).1) w0 turn fun s' H' I' st => hk (wipe σ vs) H' s' I' (wipe_length _ _) (fun j v e => e) st
  refine codeAny_mono (start it s2 _ loop (T.self Y.A 0 _ _ _ st2 loop)) fun r s' hr => ?_
  cases r with
  | ok f => exact hr
  | error x => exact hr.elim
end
section
variable (elt t0 i0 t1 i1 t2 i2 : Expr) (scope : Scope) (pos : Pos)
abbrev lc3 : Expr := .ListComp elt [⟨t0, i0, [], 0⟩, ⟨t1, i1, [], 0⟩, ⟨t2, i2, [], 0⟩] scope pos
/-- down to clause c, whose source is i -/
abbrev goK (e i : Expr) (c : Nat) (acc : Value) (env : Env) : Sem Fin → Sem Fin := fun k => do
  let x ← eval i env
  standAt i.pos
  let x ← foldedSetIterable i env x
  let _ ← runOwn (.compStart e c (← holding [x] (pyIter x)) acc env) env
  k
abbrev appK (elt : Expr) (D : Addr) (env : Env) : Sem Fin → Sem Fin := fun k => do
  (do let _ ← call (.builtin "list.append") [.ref D, ← eval elt env])
  k
theorem turn3_0 (it : Addr) (acc : Value) (env : Env) : compTurn (lc3 elt t0 i0 t1 i1 t2 i2 scope pos) 0 (.ref it) acc env = (do
      standAt i0.pos
      match ← pyNext (.ref it) with
      | none => pure (.done .next)
      | some v =>
        letOwnedTupleGo t0 (.ref it) v
        assign t0 env v
        goK (lc3 elt t0 i0 t1 i1 t2 i2 scope pos) i1 1 acc env (again (.compLoop (lc3 elt t0 i0 t1 i1 t2 i2 scope pos) 0 (.ref it) acc env))) := by rfl
theorem turn3_1 (it : Addr) (acc : Value) (env : Env) : compTurn (lc3 elt t0 i0 t1 i1 t2 i2 scope pos) 1 (.ref it) acc env = (do
      standAt i1.pos
      match ← pyNext (.ref it) with
      | none => pure (.done .next)
      | some v =>
        letOwnedTupleGo t1 (.ref it) v
        assign t1 env v
        goK (lc3 elt t0 i0 t1 i1 t2 i2 scope pos) i2 2 acc env (again (.compLoop (lc3 elt t0 i0 t1 i1 t2 i2 scope pos) 1 (.ref it) acc env))) := by rfl
theorem turn3_2 (it D : Addr) (env : Env) : compTurn (lc3 elt t0 i0 t1 i1 t2 i2 scope pos) 2 (.ref it) (.ref D) env = (do
      standAt i2.pos
      match ← pyNext (.ref it) with
      | none => pure (.done .next)
      | some v =>
        letOwnedTupleGo t2 (.ref it) v
        assign t2 env v
        appK elt D env (again (.compLoop (lc3 elt t0 i0 t1 i1 t2 i2 scope pos) 2 (.ref it) (.ref D) env))) := by rfl
end
section
variable {prog : Program} {w : World} {A : Around} {R : Result → Shared → Prop} {s : Shared} {elt t0 i0 t1 i1 t2 i2 : Expr} {scope : Scope} {pos : Pos} {it acc : Value} {env : Env}
theorem start3 {c : Nat} (hcc : c = 1 ∨ c = 2) (h0 : codeAny (model prog w) A (.compLoop (lc3 elt t0 i0 t1 i1 t2 i2 scope pos) c it acc env) R s)
    (h : wpAny (model prog w) A (pyIter it) (fun it' s' => codeAny (model prog w) A (.compLoop (lc3 elt t0 i0 t1 i1 t2 i2 scope pos) c it' acc env) R s') (notedBy (model prog w) A env fun x s' => R (.error x) s') s) :
    codeAny (model prog w) A (.compStart (lc3 elt t0 i0 t1 i1 t2 i2 scope pos) c it acc env) R s := by
  refine codeAny_of_tree ?_
  rcases hcc with rfl | rfl
  all_goals
    refine wpAny_notedAt ?_
    unfold compStart
    show wpAny _ _ (ask >>= _) _ _ s
    refine wpAny_bind (wpAny_askSetting (wpAny_ite ?_))
    split
    · first
        | exact wpAny_bind (wpAny_pure (wpAny_pure (And.intro rfl h0)))
        | exact wpAny_pure (And.intro rfl h0)
    · refine wpAny_bind (wpAny_rule ?_)
      refine wpAny_bind (wpAny_standAt (wpAny_bind (wpAny_mono h (fun it' s' h' => wpAny_pure (And.intro rfl h')) fun _ _ x => x)))
end
def B3 (te : TE) (D : Addr) : TB := fun σ H N => te σ H fun y H7 => ∃ acc, H7 D = some (.lst acc) ∧ acc.length < sizeLine ∧ N (upd H7 D (.lst (acc ++ [y])))
def BD (wi : TI) (g : TG) (vs : List Nat) (b : TB) : TB := fun σ H N => wi σ H fun J H1 => ∃ W : Nat → Nat → Hp → Prop, (∃ m, W 0 m H1) ∧ LV vs g b J σ N W
def tLc3 (wi : TI) (g : TG) (wi1 : TI) (g1 : TG) (wi2 : TI) (g2 : TG) (te : TE) (vs vs1 vs2 : List Nat) : TE := fun σ H Q => wi σ H fun J H1 => ∀ D, H1 D = none → ∃ W : Nat → Nat → Hp → Prop, (∃ m, W 0 m (upd H1 D (.lst []))) ∧ LV vs g (BD wi1 g1 vs1 (BD wi2 g2 vs2 (B3 te D))) J σ (Q (.ref D)) W
section
variable {X : Cx}
theorem pe_lc3 {elt t0 i0 t1 i1 t2 i2 : Expr} {scope : Scope} {own : List (Str × Nat)} {vs1 vs2 : List Nat} {pos : Pos} {wi wi1 wi2 : TI} {g g1 g2 : TG} {te : TE} (hc : X.calm = true) (hN : X.N.Nodup) (hi : PI X t0 i0 wi) (ok : BlkOk X.N X.env.scope scope own) (hv1 : ∀ i ∈ vs1, i ∈ own.map (·.2)) (hv2 : ∀ i ∈ vs2, i ∈ vs1)
    (hg : ∀ (s : Shared) (H : Hp) (C : Addr) (cl : List (Str × Addr)) (fp : List Addr), PG (X.blk s H scope (compEnvC scope cl C X.env) fp) t0 g)
    (hi1 : ∀ (s : Shared) (H : Hp) (C : Addr) (cl : List (Str × Addr)) (fp : List Addr), PI (X.blk s H scope (compEnvC scope cl C X.env) fp) t1 i1 wi1)
    (hg1 : ∀ (s : Shared) (H : Hp) (C : Addr) (cl : List (Str × Addr)) (fp : List Addr), PG (X.blk s H scope (compEnvC scope cl C X.env) fp) t1 g1)
    (hi2 : ∀ (s : Shared) (H : Hp) (C : Addr) (cl : List (Str × Addr)) (fp : List Addr), PI (X.blk s H scope (compEnvC scope cl C X.env) fp) t2 i2 wi2)
    (hg2 : ∀ (s : Shared) (H : Hp) (C : Addr) (cl : List (Str × Addr)) (fp : List Addr), PG (X.blk s H scope (compEnvC scope cl C X.env) fp) t2 g2)
    (he : ∀ (s : Shared) (H : Hp) (C : Addr) (cl : List (Str × Addr)) (fp : List Addr), PE (X.blk s H scope (compEnvC scope cl C X.env) fp) elt te)
    (hs : ∀ x, foldedSetIterable i0 X.env x = pure x := by intro _; rfl) (hs1 : ∀ env x, foldedSetIterable i1 env x = pure x := by intro _ _; rfl) (hs2 : ∀ env x, foldedSetIterable i2 env x = pure x := by intro _ _; rfl) :
    PE X (lc3 elt t0 i0 t1 i1 t2 i2 scope pos) (tLc3 wi g wi1 g1 wi2 g2 te (own.map (·.2)) vs1 vs2) := by
  refine ⟨fun pins s σ H Q I h => ?_⟩
  rw [eval_ListComp]
  have hfree : ∀ y ∈ scope.names, y.2 = .free → ∃ c, X.env.cells.lookup y.1 = some c := fun y hy e => (ok.free y hy e).elim (fun k => I.ok.has _ (.inl k)) fun k => I.ok.has _ (.inr k)
  refine wpAny_comprehension_free rfl hs (closure_ok hfree) ok.kind (fun y hy e => by rw [ok.uniq y hy, e])
    (thn (hi.run pins s σ H _ I h) fun xv s1 hx => thn hx fun itv s2 h2 => ?_)
  obtain ⟨it, fp, tn, J, H2, e, I2, T, st2, f2, q⟩ := h2
  subst e
  refine wpAny_newObj_type (newEnv_comp ?_) (by show 0 ≤ sizeLine; decide)
  obtain ⟨D, hD⟩ : ∃ D, s2.heap.objs.size = D := ⟨_, rfl⟩
  obtain ⟨W, ⟨m0, w0⟩, turn⟩ := q D (I2.hok.fresh (Nat.le_of_eq hD))
  obtain ⟨s3, hs3⟩ : ∃ s3 : Shared, s3 = { s2 with heap := s2.heap.push { cls := .type "list", data := .seq ([] : List Value).toArray } } := ⟨_, rfl⟩
  have h3 : s3.heap = s2.heap.push { cls := .type "list", data := .seq ([] : List Value).toArray } := by rw [hs3]
  have I3 : Inv X pins σ (upd H2 D (.lst [])) s3 := by
    rw [hs3]
    refine I2.laid (t' := s2.toks) (fun b o e => Heap.get?_push_of_some _ e) (Nat.le_of_eq hD) ⟨Nat.zero_le _, [], 0, .nil, ?_⟩
    rw [← hD]
    exact Heap.get?_push_size _ rfl
  have f3 : ∀ b ∈ fp, FpOk X pins (upd H2 D (.lst [])) b ∧ b < s3.heap.objs.size := fun b hb => by
    obtain ⟨o, e, _⟩ := T.obj _ _ st2 b hb
    have hlt := Heap.lt_size e
    refine ⟨⟨?_, (f2 b hb).2⟩, by rw [h3, Heap.size_push]; exact Nat.lt_succ_of_lt hlt⟩
    rw [upd_ne (by rw [← hD]; exact Nat.ne_of_lt hlt)]
    exact (f2 b hb).1
  have I4 := block_start I3 ok hN f3
  have st4 : tn 0 (pushCells (s3.heap.push { cls := .type "dict", data := .dict #[] }) scope.names) := T.keep _ _ _ st2 fun b _ o e => pushCells_keeps _ _ _ _ (Heap.get?_push_of_some _ (by rw [h3]; exact Heap.get?_push_of_some _ e))
  obtain ⟨cl, hcl⟩ : ∃ cl, cellsFrom (s3.heap.objs.size + 1) scope.names (cloFrom X.env.cells scope.names []) = cl := ⟨_, rfl⟩
  obtain ⟨H3, hH3⟩ : ∃ H3, upd H2 D (.lst []) = H3 := ⟨_, rfl⟩
  have e3 : ({ s2 with heap := s2.heap.push { cls := .type "list", data := .seq ([] : List Value).toArray } } : Shared) = s3 := hs3.symm
  rw [hcl, hH3] at I4
  rw [hH3] at I3 f3 w0
  show codeAny _ _ (.compStart (lc3 elt t0 i0 t1 i1 t2 i2 scope pos) 0 (.ref it) (.ref s2.heap.objs.size) (compEnvC scope (cellsFrom (({ s2 with heap := s2.heap.push { cls := .type "list", data := .seq ([] : List Value).toArray } } : Shared).heap.objs.size + 1) scope.names (cloFrom X.env.cells scope.names [])) ({ s2 with heap := s2.heap.push { cls := .type "list", data := .seq ([] : List Value).toArray } } : Shared).heap.objs.size X.env)) _ { ({ s2 with heap := s2.heap.push { cls := .type "list", data := .seq ([] : List Value).toArray } } : Shared) with heap := pushCells (({ s2 with heap := s2.heap.push { cls := .type "list", data := .seq ([] : List Value).toArray } } : Shared).heap.push { cls := .type "dict", data := .dict #[] }) scope.names }
  rw [e3, hD, hcl]
  have pb3 : PB (X.blk s3 H3 scope (compEnvC scope cl s3.heap.objs.size X.env) fp) (appK elt D (compEnvC scope cl s3.heap.objs.size X.env)) [] (B3 te D) := pb_app rfl (he s3 H3 s3.heap.objs.size cl fp)
  have pb2 : PB (X.blk s3 H3 scope (compEnvC scope cl s3.heap.objs.size X.env) fp) (goK (lc3 elt t0 i0 t1 i1 t2 i2 scope pos) i2 2 (.ref D) (compEnvC scope cl s3.heap.objs.size X.env)) vs2 (BD wi2 g2 vs2 (B3 te D)) := pb_down hc rfl (fun it => turn3_2 elt t0 i0 t1 i1 t2 i2 scope pos it D _) (fun it s R h0 h => start3 (.inr rfl) h0 h) (hs2 _) (hi2 s3 H3 s3.heap.objs.size cl fp) (hg2 s3 H3 s3.heap.objs.size cl fp) pb3 (fun i hi => absurd hi List.not_mem_nil)
  have pb1 : PB (X.blk s3 H3 scope (compEnvC scope cl s3.heap.objs.size X.env) fp) (goK (lc3 elt t0 i0 t1 i1 t2 i2 scope pos) i1 1 (.ref D) (compEnvC scope cl s3.heap.objs.size X.env)) vs1 (BD wi1 g1 vs1 (BD wi2 g2 vs2 (B3 te D))) := pb_down hc rfl (fun it => turn3_1 elt t0 i0 t1 i1 t2 i2 scope pos it (.ref D) _) (fun it s R h0 h => start3 (.inl rfl) h0 h) (hs1 _) (hi1 s3 H3 s3.heap.objs.size cl fp) (hg1 s3 H3 s3.heap.objs.size cl fp) pb2 hv2
  have loop := loop_lvl (Y := X.blk s3 H3 scope (compEnvC scope cl s3.heap.objs.size X.env) fp) (R := compPost (model X.prog X.w) X.A X.xe none (EP X pins σ Q) (.ref D) s3.heap.objs.size) hc rfl (turn3_0 elt t0 i0 t1 i1 t2 i2 scope pos it (.ref D) _) T (hg s3 H3 s3.heap.objs.size cl fp) pb1 hv1 (fun {σ' H' s'} I' hn b hb => ⟨hn b hb, (I'.ok.exf b hb).1, I'.ok.exfs b hb, .inl hb, fun x c e => (I'.ok.exf b hb).2 x c e, fun p hp => absurd (show p ∈ ([] : List (Addr × Obj)) ++ [] from hp) (by simp)⟩) I4 st4 (fun b hb => (f3 b hb).1.1) w0 turn fun s6 H5 I6 qq => by
    have I7 : Inv X pins σ H5 s6 := I3.call' (ch := fp) I6.os I6.base I6.hok I6.bare fun b hb => ⟨(f3 b hb).1.2.2.2.1, (f3 b hb).1.2.1, (f3 b hb).1.2.2.2.2.1, (f3 b hb).1.2.2.2.2.2⟩
    have nC : H5 s3.heap.objs.size = none := I6.free
    obtain ⟨m, hn, _⟩ := I6.loc
    obtain ⟨_, f1, f2', f3', f4, f5⟩ := I3.fpOk (Nat.le_refl _) nC
    exact ⟨m, hn, fun h'' sb => ⟨.ref D, H5, I7.turned (t' := s6.toks) (fun b o hb e => (sb.2 b hb).trans e) nC f1 f3' f4 f5, rfl, qq⟩⟩
  exact codeAny_compStart_list loop (T.self X.A 0 _ _ _ st4 loop)
end
end Kt

/-! Kus: [elt for .. for .. for ..], data walked -/
namespace Kt
open PySem PySem.Spec PyProof PyProof.Rows L2
theorem wipe_get (σ : L2.St) (i : Nat) : ∀ vs : List Nat, (wipe σ vs)[i]? = if i ∈ vs then (σ[i]?).map fun _ => none else σ[i]?
  | [] => by rw [if_neg List.not_mem_nil]; rfl
  | v :: vs => by
    unfold wipe
    rw [List.getElem?_set, wipe_length]
    have ih := wipe_get σ i vs
    by_cases e : v = i
    · subst e
      rw [if_pos rfl, if_pos List.mem_cons_self]
      by_cases l : v < σ.length
      · rw [if_pos l, List.getElem?_eq_getElem l]
        rfl
      · rw [if_neg l, List.getElem?_eq_none (by omega)]
        rfl
    · rw [if_neg e, ih]
      by_cases m : i ∈ vs
      · rw [if_pos m, if_pos (List.mem_cons_of_mem _ m)]
      · rw [if_neg m, if_neg (fun k => (List.mem_cons.mp k).elim (fun z => e z.symm) m)]
theorem wipe_same {σ τ : L2.St} {vs : List Nat} (hl : τ.length = σ.length) (h : ∀ i, i ∉ vs → τ[i]? = σ[i]?) : wipe τ vs = wipe σ vs := by
  refine List.ext_getElem? fun i => ?_
  rw [wipe_get, wipe_get]
  by_cases m : i ∈ vs
  · rw [if_pos m, if_pos m]
    by_cases l : i < σ.length
    · rw [List.getElem?_eq_getElem l, List.getElem?_eq_getElem (by omega)]
      rfl
    · rw [List.getElem?_eq_none (by omega), List.getElem?_eq_none (by omega)]
  · rw [if_neg m, if_neg m, h i m]
def rw_ (ρ : Rho) : List Nat → Rho
  | [] => ρ
  | v :: vs => (rw_ ρ vs).set v none
section
variable {N : Ent} {ρ : Rho} {P : Hp} {σ : L2.St}
theorem slots_wipe (g : Slots P σ ρ) : ∀ vs : List Nat, Slots P (wipe σ vs) (rw_ ρ vs)
  | [] => g
  | v :: vs => (slots_wipe g vs).unset v none
theorem tgV1 (n : Nat) (vs : List Nat) {d : PyData} : TgC N ρ (n :: vs) (gName n) d ((rw_ ρ (n :: vs)).set n (some (.d d))) := fun v σ H P M hh g r Q q => q _ ((slots_wipe g _).set (it := .d d) r n) (wipe_same (by rw [List.length_set, wipe_length]) fun i hi => by
  have h1 : n ≠ i := fun e => hi (by rw [e]; exact List.mem_cons_self)
  rw [List.getElem?_set_ne h1, wipe_get, if_neg hi])
theorem tgV2 {K : PySem.W.Frag} (n1 n2 : Nat) (vs : List Nat) {x y : PyData} : TgC N ρ (n1 :: n2 :: vs) (gTup K 2 (gCons (gName n1) (gCons (gName n2) gNil))) (.tuple [x, y]) (((rw_ ρ (n1 :: n2 :: vs)).set n1 (some (.d x))).set n2 (some (.d y))) := fun v σ H P M hh g r Q q => by
  obtain ⟨ta, ts, rfl, t1, t2⟩ := ri_tup r
  cases t2 with
  | cons k1 kr =>
    cases kr with
    | cons k2 kn =>
      cases kn
      refine ⟨ta, _, rfl, .inl (.inl (hh.ex _ _ t1)), rfl, _, _, rfl, _, _, rfl, rfl, q _ (((slots_wipe g _).set (it := .d x) k1 n1).set (it := .d y) k2 n2) (wipe_same (by rw [List.length_set, List.length_set, wipe_length]) fun i hi => ?_)⟩
      have h1 : n1 ≠ i := fun e => hi (by rw [e]; exact List.mem_cons_self)
      have h2 : n2 ≠ i := fun e => hi (by rw [e]; exact List.mem_cons_of_mem _ List.mem_cons_self)
      rw [List.getElem?_set_ne h2, List.getElem?_set_ne h1, wipe_get, if_neg hi]
end
/-- a turn's end, as it changes the list D -/
def TBJ (N : Ent) (D : Addr) (ρ : Rho) (M : Mem) (A A' : List It) (b : TB) : Prop :=
  ∀ σ H P, Holds N P H (M ++ [(D, A)]) → Slots P σ ρ → ∀ Nx : Hp → Prop, (∀ H' P', Ex P P' → Holds N P' H' (M ++ [(D, A')]) → Nx H') → b σ H Nx
/-- what a block's source asks -/
def wBI (X : Cx) (scope : Scope) (tg iter : Expr) : TI := fun σ H R => ∀ s0 H0 C cl fp pins s, Inv (X.blk s0 H0 scope (compEnvC scope cl C X.env) fp) pins σ H s →
  wpAny (model X.prog X.w) X.A (eval iter (compEnvC scope cl C X.env)) (fun v s1 => wpAny (model X.prog X.w) X.A (pyIter v) (PIE (X.blk s0 H0 scope (compEnvC scope cl C X.env) fp) pins σ tg R) (fun _ _ => False) s1) (fun _ _ => False) s
theorem pi_wBI {X : Cx} {scope : Scope} {tg iter : Expr} (s0 : Shared) (H0 : Hp) (C : Addr) (cl : List (Str × Addr)) (fp : List Addr) : PI (X.blk s0 H0 scope (compEnvC scope cl C X.env) fp) tg iter (wBI X scope tg iter) := ⟨fun pins s σ H R I h => h s0 H0 C cl fp pins s I⟩
section
variable {X : Cx} {N : Ent} {D : Addr} {ρ : Rho} {M M1 : Mem} {elt tg iter : Expr} {scope : Scope} {b : TB} {g : TG}
theorem tbj_app {A : List It} {j : It} (hA : A.length < 100000) (h : ∀ N' s H C cl fp, EJ (X.blk s H scope (compEnvC scope cl C X.env) fp) N' ρ M elt j M) : TBJ N D ρ M A (A ++ [j]) (B3 (wBE X scope elt) D) := fun σ H P hh gs Nx q => by
  intro s H0 C cl fp
  refine h (inner P H M) s H0 C cl fp _ H P hh.enter gs _ fun y H4 P4 e4 h4 r4 => ?_
  have h5 := hh.leave h4
  obtain ⟨acc, ea, ra⟩ := h5.cell (a := D) (its := A) (List.mem_append_right _ (List.mem_singleton.mpr rfl))
  refine ⟨acc, ea, by rw [ra.len]; exact Nat.lt_of_lt_of_le hA (by decide), q _ P4 e4 ?_⟩
  have h6 := h5.write (a := D) (its := A) (its' := A ++ [j]) (List.mem_append_right _ (List.mem_singleton.mpr rfl)) (xs' := acc ++ [y]) (ra.app ⟨r4, trivial⟩)
  rw [put_last h5.nd] at h6
  exact h6
theorem lv_data {vs : List Nat} {ds : List PyData} {J : L2.It} {P1 : Hp} {σ : L2.St} {Stop : Hp → Prop} {P0 : Hp} (A : Nat → List It) (W : WalkA P1 J ds) (gs : Slots P0 σ ρ) (e0 : Ex P0 P1)
    (step : ∀ m d, ds[m]? = some d → ∃ ρ2, TgC N ρ vs g d ρ2 ∧ TBJ N D ρ2 M (A m) (A (m + 1)) b)
    (stop : ∀ H' P', Ex P1 P' → Holds N P' H' (M ++ [(D, A ds.length)]) → Stop H') :
    LV vs g b J σ Stop fun i m H => m = ds.length - i ∧ i ≤ ds.length ∧ ∃ P', Holds N P' H (M ++ [(D, A i)]) ∧ Ex P1 P' := by
  rintro i m H ⟨rfl, hil, P2, h2, e2⟩
  by_cases hlt : i < ds.length
  · refine .inr ⟨W.go i N H P2 _ hlt h2 e2, fun H' => ∃ P', Holds N P' H' (M ++ [(D, A (i + 1))]) ∧ Ex P1 P', fun H' p' => ⟨ds.length - (i + 1), by omega, rfl, hlt, p'⟩, fun x H' yl => ?_⟩
    obtain ⟨P3, d, ed, e3, h3, r3⟩ := W.yld i N H x H' P2 _ hlt h2 e2 yl
    obtain ⟨ρ2, G, S⟩ := step i d ed
    refine G x σ H' P3 _ h3 (gs.ex ((e0.trans e2).trans e3)) r3 _ fun σ2 gs2 hw => ⟨hw, ?_⟩
    exact S σ2 H' P3 h3 gs2 _ fun H4 P4 e4 h4 => ⟨P4, h4, (e2.trans e3).trans e4⟩
  · have hi : i = ds.length := by omega
    subst hi
    exact .inl ⟨W.stop N H P2 _ h2 e2, stop H P2 e2 h2⟩
theorem tbj_walk {vs : List Nat} {ds : List PyData} (A : Nat → List It) (src : ∀ N' s H C cl fp, IA (X.blk s H scope (compEnvC scope cl C X.env) fp) N' ρ M tg iter ds M)
    (step : ∀ m d, ds[m]? = some d → ∃ ρ2, TgC N ρ vs g d ρ2 ∧ TBJ N D ρ2 M (A m) (A (m + 1)) b) : TBJ N D ρ M (A 0) (A ds.length) (BD (wBI X scope tg iter) g vs b) := fun σ H P hh gs Nx q => by
  intro s0 H0 C cl fp pins s I
  obtain ⟨ti, pi, hi⟩ := src (inner P H M) s0 H0 C cl fp
  refine pi.run pins s σ H _ I (hi σ H P hh.enter gs _ fun J H1 P1 e1 h1 W => ?_)
  exact ⟨_, ⟨ds.length, by simp, Nat.zero_le _, P1, hh.leave h1, Ex.refl _⟩, lv_data A W gs e1 step fun H' P' e' h' => q H' P' (e1.trans e') h'⟩
/-- [elt for .. for .. for ..] -/
theorem el_comp3 {t0 i0 t1 i1 t2 i2 : Expr} {pos : Pos} {own : List (Str × Nat)} {vs1 vs2 : List Nat} {g1 g2 : TG} {ds : List PyData} (A : Nat → List It) (hc : X.calm = true) (hN : X.N.Nodup) (hi : IA X N ρ M t0 i0 ds M1) (hA0 : A 0 = [])
    (hv1 : ∀ i ∈ vs1, i ∈ own.map (·.2)) (hv2 : ∀ i ∈ vs2, i ∈ vs1)
    (step : ∀ N' D m d, ds[m]? = some d → ∃ ρ2, TgC N' ρ (own.map (·.2)) g d ρ2 ∧ TBJ N' D ρ2 M1 (A m) (A (m + 1)) (BD (wBI X scope t1 i1) g1 vs1 (BD (wBI X scope t2 i2) g2 vs2 (B3 (wBE X scope elt) D))))
    (ok : BlkOk X.N X.env.scope scope own)
    (hg : ∀ (s : Shared) (H : Hp) (C : Addr) (cl : List (Str × Addr)) (fp : List Addr), PG (X.blk s H scope (compEnvC scope cl C X.env) fp) t0 g)
    (hg1 : ∀ (s : Shared) (H : Hp) (C : Addr) (cl : List (Str × Addr)) (fp : List Addr), PG (X.blk s H scope (compEnvC scope cl C X.env) fp) t1 g1)
    (hg2 : ∀ (s : Shared) (H : Hp) (C : Addr) (cl : List (Str × Addr)) (fp : List Addr), PG (X.blk s H scope (compEnvC scope cl C X.env) fp) t2 g2)
    (hs : ∀ x, foldedSetIterable i0 X.env x = pure x := by intro _; rfl) (hs1 : ∀ env x, foldedSetIterable i1 env x = pure x := by intro _ _; rfl) (hs2 : ∀ env x, foldedSetIterable i2 env x = pure x := by intro _ _; rfl) :
    EL X N ρ M (.ListComp elt [⟨t0, i0, [], 0⟩, ⟨t1, i1, [], 0⟩, ⟨t2, i2, [], 0⟩] scope pos) (A ds.length) M1 := fun σ H P hh gs Q q => by
  obtain ⟨ti, pi, hti⟩ := hi
  refine e_of (pe_lc3 (te := wBE X scope elt) hc hN pi ok hv1 hv2 hg (fun s H C cl fp => pi_wBI s H C cl fp) hg1 (fun s H C cl fp => pi_wBI s H C cl fp) hg2 (fun s H C cl fp => ⟨fun pins s1 σ1 H1 Q1 I1 h1 => h1 s H C cl fp pins s1 I1⟩) hs hs1 hs2) (hti σ H P hh gs _ fun J H1 P1 e1 h1 W D hD => ?_)
  refine ⟨_, ⟨ds.length, by simp, Nat.zero_le _, P1, by rw [hA0]; exact h1.own hD (its := []) trivial, Ex.refl _⟩, lv_data A W gs e1 (fun m d hd => step N D m d hd) fun H' P' e' h' => q D H' P' (e1.trans e') (h1.newF hD) h'⟩
end
section
variable {X : Cx} {N : Ent} {ρ : Rho} {M M1 M2 : Mem} {a b elt iter : Expr} {scope : Scope} {pos : Pos}
theorem ia_range2 {tg : Expr} {p rp : Pos} {i j : Int} (hmr : X.mg "range" = none) (ha : EJ X N ρ M a (dI i) M1) (hb : EJ X N ρ M1 b (dI j) M2) (h1 : -(2 ^ 62) ≤ i ∧ i < 2 ^ 62) (h2 : -(2 ^ 62) ≤ j ∧ j < 2 ^ 62) (hg : Gl X "range" := by rfl) (hs : starEach [a, b] X.env = (false, eval a X.env) :: starEach [b] X.env := by rfl) (hs2 : starEach [b] X.env = (false, eval b X.env) :: starEach [] X.env := by rfl) :
    IA X N ρ M tg (.Call (.Name "range" p) [a, b] [] rp) ((List.range (j - i).toNat).map fun k : Nat => .int (i + (k : Int))) M2 := by
  refine ⟨_, pi_range2 hg hmr pa_w (by rw [hs, hs2]; rfl) (by rw [hs2]; rfl), fun σ H P hh g R q => ?_⟩
  refine aj_cons ha (aj_cons hb aj_nil hs2) hs σ H P hh g _ fun vs H1 P1 e1 h3 r1 => ?_
  obtain ⟨x, y, rfl, r2, r3⟩ := ri2 r1
  cases ri_int r2
  cases ri_int r3
  have zl : ((List.range (j - i).toNat).map fun k : Nat => PyData.int (i + (k : Int))).length = (j - i).toNat := by simp
  refine ⟨i, j, rfl, ⟨h1.1, h1.2, h2.1, h2.2⟩, q _ H1 P1 e1 h3 ⟨fun n N' H P' M' hi h2 e2 => ?_, fun N' H P' M' h2 e2 => ?_, fun n N' H v H' P' M' hi h2 e2 y => ?_⟩⟩
  · rw [zl] at hi
    exact hi
  · rw [zl]
    exact Nat.le_refl _
  · obtain ⟨rfl, rfl⟩ := y
    rw [zl] at hi
    exact ⟨P', _, by rw [List.getElem?_map, List.getElem?_range hi]; rfl, Ex.refl _, h2, .int _⟩
theorem tgV22 {K : PySem.W.Frag} (n1 n2 n3 n4 : Nat) {u v x y : PyData} : TgC N ρ [n1, n2, n3, n4] (gTup K 2 (gCons (gTup K 2 (gCons (gName n1) (gCons (gName n2) gNil))) (gCons (gTup K 2 (gCons (gName n3) (gCons (gName n4) gNil))) gNil))) (.tuple [.tuple [u, v], .tuple [x, y]]) (((((rw_ ρ [n1, n2, n3, n4]).set n1 (some (.d u))).set n2 (some (.d v))).set n3 (some (.d x))).set n4 (some (.d y))) := fun z σ H P M hh g r Q q => by
  obtain ⟨ta, ts, rfl, t1, t2⟩ := ri_tup r
  cases t2 with
  | cons k1 kr =>
    cases kr with
    | cons k2 kn =>
      cases kn
      obtain ⟨tb, bs, rfl, b1, b2⟩ := ri_tup k1
      obtain ⟨tc, cs, rfl, c1, c2⟩ := ri_tup k2
      cases b2 with
      | cons b3 b4 =>
        cases b4 with
        | cons b5 b6 =>
          cases b6
          cases c2 with
          | cons c3 c4 =>
            cases c4 with
            | cons c5 c6 =>
              cases c6
              refine ⟨ta, _, rfl, .inl (.inl (hh.ex _ _ t1)), rfl, _, _, rfl, ⟨tb, _, rfl, .inl (.inl (hh.ex _ _ b1)), rfl, _, _, rfl, _, _, rfl, rfl, _, _, rfl, ⟨tc, _, rfl, .inl (.inl (hh.ex _ _ c1)), rfl, _, _, rfl, _, _, rfl, rfl, rfl, q _ (((((slots_wipe g _).set (it := .d u) b3 n1).set (it := .d v) b5 n2).set (it := .d x) c3 n3).set (it := .d y) c5 n4) (wipe_same (by simp only [List.length_set, wipe_length]) fun i hi => ?_)⟩⟩⟩
              simp only [List.mem_cons, List.not_mem_nil, or_false, not_or] at hi
              rw [List.getElem?_set_ne (fun e => hi.2.2.2 e.symm), List.getElem?_set_ne (fun e => hi.2.2.1 e.symm), List.getElem?_set_ne (fun e => hi.2.1 e.symm), List.getElem?_set_ne (fun e => hi.1 e.symm), wipe_get, if_neg (by simp only [List.mem_cons, List.not_mem_nil, or_false, not_or]; exact hi)]
/-- [e for (a, b), (c, d) in walk] -/
theorem el_compW22 {φ : Mem → Prop} {x1 x2 x3 x4 : Str} {p1 p2 p3 p4 q1 q2 q3 : Pos} {k1 k2 k3 : Nat} (n1 n2 n3 n4 : Nat) {ds : List PyData} (A : Nat → List It) (Mi : Nat → Mem) (hc : X.calm = true) (hN : X.N.Nodup) (hi : IWQ φ X N ρ M (.Tuple [.Tuple [.Name x1 p1, .Name x2 p2] k1 q1, .Tuple [.Name x3 p3, .Name x4 p4] k2 q2] k3 q3) iter ds M1)
    (hφ : ∀ m c, φ (Mi m ++ [c])) (hA0 : A 0 = []) (hM0 : Mi 0 = M1) (hz : ds.length ≤ 100000)
    (step : ∀ (m : Nat) d, ds[m]? = some d → ∃ u v x y j, d = .tuple [.tuple [u, v], .tuple [x, y]] ∧ A (m + 1) = A m ++ [j] ∧ (A m).length ≤ m ∧ ∀ N' s H C cl fp, EJ (X.blk s H scope (compEnvC scope cl C X.env) fp) N' (((((rw_ ρ [n1, n2, n3, n4]).set n1 (some (.d u))).set n2 (some (.d v))).set n3 (some (.d x))).set n4 (some (.d y))) (Mi m) elt j (Mi (m + 1)))
    (ok : BlkOk X.N X.env.scope scope [(x1, n1), (x2, n2), (x3, n3), (x4, n4)] := by exact blkOk_by (by kernel_rfl))
    (hgn : ∀ (s : Shared) (H : Hp) (C : Addr) (cl : List (Str × Addr)) (fp : List Addr), PG (X.blk s H scope (compEnvC scope cl C X.env) fp) (.Tuple [.Tuple [.Name x1 p1, .Name x2 p2] k1 q1, .Tuple [.Name x3 p3, .Name x4 p4] k2 q2] k3 q3) (gTup X.K 2 (gCons (gTup X.K 2 (gCons (gName n1) (gCons (gName n2) gNil))) (gCons (gTup X.K 2 (gCons (gName n3) (gCons (gName n4) gNil))) gNil))) := by exact fun _ _ _ _ _ => pg_tup (by rfl) (pgs_cons (pg_tup (by rfl) (pgs_cons (pg_name (by assumption) rfl (Or.inl rfl)) (pgs_cons (pg_name (by assumption) rfl (Or.inl rfl)) pgs_nil))) (pgs_cons (pg_tup (by rfl) (pgs_cons (pg_name (by assumption) rfl (Or.inl rfl)) (pgs_cons (pg_name (by assumption) rfl (Or.inl rfl)) pgs_nil))) pgs_nil)))
    (hf : ∀ x, foldedSetIterable iter X.env x = pure x := by intro _; rfl) : EL X N ρ M (.ListComp elt [⟨.Tuple [.Tuple [.Name x1 p1, .Name x2 p2] k1 q1, .Tuple [.Name x3 p3, .Name x4 p4] k2 q2] k3 q3, iter, [], 0⟩] scope pos) (A ds.length) (Mi ds.length) := by
  obtain ⟨ti, pi, hi⟩ := hi
  exact el_lc (lj_compW [n1, n2, n3, n4] _ A Mi hi hφ hA0 hM0 hz fun m d hd => by obtain ⟨u, v, x, y, j, rfl, a, b, c⟩ := step m d hd; exact ⟨_, j, tgV22 n1 n2 n3 n4, a, b, c⟩) (pe_lc hc hN pi ok hgn (fun _ _ _ _ _ => pts_nil) (te := wBE X scope elt) (fun s H C cl fp => ⟨fun pins s1 σ1 H1 Q1 I1 h1 => h1 s H C cl fp pins s1 I1⟩) hf)
end
end Kt

/-! Kut: min of two tuples, <= of data, a bool less a bool -/
namespace Kt
open PySem PySem.Spec PyProof PyProof.Rows L2
section
variable {prog : Program} {w : World} {A : Around} {E : Value → Shared → Prop} {s : Shared}
theorem min_two_data {a b : Value} {da db : PyData} {as bs : List Addr} {Q : Value → Shared → Prop} (hh : A.handled = none) (ra : Reads s.heap a da as) (rb : Reads s.heap b db bs) (hal : PySem.W.AlikeAll [da, db]) (hu : A.units + 1 + PyData.depthAll [da, db] < cLine)
    (h : ∀ h' tk, (∀ c o, s.heap.get? c = some o → h'.get? c = some o) → Q (if PySem.W.dataLt db da = true then b else a) { s with heap := h', toks := tk }) : wpAny (model prog w) A (call (.builtin "min") [a, b]) Q E s := by
  have hname : (toString "min" ++ toString ".loop" : String) = "min.loop" := by decide
  refine call_function_tree F.kind_min F.plain_min F.entry_min (F.args_min2 _ _) ?_
  show wpAny _ A.in1 (Builtin.Builtins.bindParams "min" ["key", "default"] 0 ⟨[], []⟩ >>= _) _ _ s
  refine wpAny_bind (wpAny_of_eq (show Builtin.Builtins.bindParams "min" ["key", "default"] 0 ⟨[], []⟩ = pure [none, none] from rfl) ?_)
  show wpAny _ A.in1 (newTuple [a, b] >>= _) _ _ s
  refine wpAny_bind (wpAny_newObj_type ?_)
  have hT : (s.heap.push { cls := .type "tuple", data := .seq #[a, b] }).IsTuple s.heap.objs.size #[a, b] := ⟨_, Heap.get?_push_size _ rfl, rfl, 0, rfl⟩
  have k0 : ∀ c o, s.heap.get? c = some o → (s.heap.push { cls := .type "tuple", data := .seq #[a, b] }).get? c = some o := fun c o e => Heap.get?_push_of_some _ e
  have hr : ReadsAll (s.heap.push { cls := .type "tuple", data := .seq #[a, b] }) #[a, b].toList [da, db] (as ++ (bs ++ [])) := ReadsAll.cons (Reads.keeps k0 ra) (ReadsAll.cons (Reads.keeps k0 rb) .nil)
  refine wpAny_bind (PySem.W.iter_tupleW (A := A.in1) hh hT fun s₂ e W st hfp hw hk => ?_)
  refine wpAny_bind (wpAny_newObj_type ?_)
  have hSf : s₂.heap.objs.size ∉ [(s.heap.push { cls := .type "tuple", data := .seq #[a, b] }).objs.size, s.heap.objs.size] := fun hm => Nat.lt_irrefl _ (hfp _ hm)
  rw [hname]
  refine wpAny_pure ⟨plainId_quiet F.plain_min_loop _, PySem.codeAny_min_loop_firstH W _ hw _ (PySem.W.cmpIn_lt (A := A.in1) (s := { s with heap := s.heap.push { cls := .type "tuple", data := .seq #[a, b] } }) hr hal (by show A.units + 1 + _ < _; exact hu)) s₂.heap.objs.size hSf (PySem.fresh_in hk) _ (show 0 < 2 from Nat.zero_lt_succ 1) (fun b o e => Heap.get?_push_of_some _ (hk b o e)) (W.frame 0 s₂ _ s₂.toks st (Nat.le_refl _) fun b _ o e => Heap.get?_push_of_some _ e) (Heap.get?_push_size _ rfl) fun v s' hP hm => ?_⟩
  obtain ⟨h', tk, rfl, hk'⟩ := PySem.W.moved_old (s := { s with heap := s.heap.push { cls := .type "tuple", data := .seq #[a, b] } }) e rfl (PySem.Moved.drop_new (tk := s₂.toks) hm (Nat.le_refl _))
  have hv : v = if PySem.W.dataLt db da = true then b else a := by
    have hP : (#[a, b] : Array Value)[if PySem.W.dataLt db da = true then 1 else 0]? = some v := hP
    by_cases c : PySem.W.dataLt db da = true
    · rw [if_pos c] at hP ⊢
      exact (Option.some.inj hP).symm
    · rw [if_neg c] at hP ⊢
      exact (Option.some.inj hP).symm
  rw [hv]
  exact h h' tk fun c o e => hk' c o (k0 c o e)
end
def rMin2D (K : PySem.W.Frag) : List V → Hp → VK → Prop := fun vs H Q => ∃ (x y : V) (d e : PyData), vs = [x, y] ∧ Dp K H x d ∧ Dp K H y e ∧ PySem.W.AlikeAll [d, e] ∧ PyData.depthAll [d, e] ≤ 60 ∧ Q (if PySem.W.dataLt e d = true then y else x) H
theorem cr_min2D {X : Cx} (hc : X.calm = true) (hu : X.A.units + 64 < cLine) : CallR X (.builtin "min") (rMin2D X.K) := by
  intro pins s σ H vs us Q I rv h
  obtain ⟨x, y, d, e, rfl, hd, he, hal, hdp, q⟩ := h
  cases rv with
  | cons r1 r2 =>
    cases r2 with
    | cons r3 r4 =>
      cases r4
      obtain ⟨as, ra⟩ := Dp.reads I d _ _ hd r1
      obtain ⟨bs, rb⟩ := Dp.reads I e _ _ he r3
      refine min_two_data (I.ok.hd hc) ra rb hal (by omega) fun h' tk hk => ?_
      refine ⟨_, H, I.kept hk, ?_, q⟩
      split
      · exact r3
      · exact r1
theorem op_leD {X : Cx} (hu : X.A.units + 64 < cLine) : OpR X (compareOp .LtE) (fun x y H Q => ∃ d e, Dp X.K H x d ∧ Dp X.K H y e ∧ PySem.W.alike d e = true ∧ d ≠ .none ∧ d.depth ≤ 60 ∧ Q (.bl (!PySem.W.dataLt e d)) H) := by
  intro pins s σ H x y v u Q I rx ry h
  obtain ⟨d, e, hd, he, hal, hn, hdp, q⟩ := h
  obtain ⟨as, r1⟩ := Dp.reads I d x v hd rx
  obtain ⟨bs, r2⟩ := Dp.reads I e y u he ry
  refine PySem.W.le_data r1 r2 hal hn ?_ ⟨.bl _, H, I, rfl, q⟩
  have := Nat.min_le_left d.depth e.depth
  omega
theorem op_subB {X : Cx} : OpR X (binaryOp .Sub) (fun x y H Q => ∃ a b : Bool, x = .bl a ∧ y = .bl b ∧ Q (.int (PyProof.Rows.b2i a - PyProof.Rows.b2i b)) H) := by
  intro pins s σ H x y v u Q I rx ry h
  obtain ⟨a, b, rfl, rfl, q⟩ := h
  cases rx
  cases ry
  exact PyProof.Rows.sub_bool ⟨.int _, H, I.tok _, ⟨_, rfl⟩, q⟩
section
variable {X : Cx} {N : Ent} {ρ : Rho} {M M1 M2 : Mem} {a b : Expr} {pos : Pos}
/-- min of two data without a dict in them -/
theorem ej_min2D {p q : Pos} {d e : PyData} (hc : X.calm = true) (hu : X.A.units + 64 < cLine) (hm : X.mg "min" = none) (ha : EJ X N ρ M a (.d d) M1) (hb : EJ X N ρ M1 b (.d e) M2) (n1 : noDict d = true) (n2 : noDict e = true) (hal : PySem.W.AlikeAll [d, e]) (hdp : PyData.depthAll [d, e] ≤ 60)
    (hg : Gl X "min" := by rfl) (he : starEach [a, b] X.env = (false, eval a X.env) :: starEach [b] X.env := by rfl) (he2 : starEach [b] X.env = (false, eval b X.env) :: starEach [] X.env := by rfl) (hpl : (backTo q (starEach [b] X.env)).any (·.1) = false := by rfl) :
    EJ X N ρ M (.Call (.Name "min" p) [a, b] [] q) (.d (if PySem.W.dataLt e d = true then e else d)) M2 := ej_callB (cr_min2D hc hu) hm (by decide +kernel) (aj_cons ha (aj_cons hb aj_nil he2) he) (fun vs H P h rr Q k => by
  obtain ⟨x, y, rfl, r1, r2⟩ := ri2 rr
  have d1 := dnw_ex h.exw _ _ r1
  have d2 := dnw_ex h.exw _ _ r2
  refine ⟨x, y, d, e, rfl, dp_of _ _ n1 d1, dp_of _ _ n2 d2, hal, hdp, k _ H P (Ex.refl P) h ?_⟩
  split
  · exact r2
  · exact r1) hg (by decide) (by decide) he hpl
theorem tj_leD {d e : PyData} (hu : X.A.units + 64 < cLine) (ha : EJ X N ρ M a (.d d) M1) (hb : EJ X N ρ M1 b (.d e) M2) (n1 : noDict d = true) (n2 : noDict e = true) (hal : PySem.W.alike d e = true) (hn : d ≠ .none) (hdp : d.depth ≤ 60) : EJ X N ρ M (.Compare a [.LtE] [b] pos) (dB (!PySem.W.dataLt e d)) M2 := ej_cmp (op_leD hu) (nomark _) ha hb fun x y H P h rx ry Q q => by
  have d1 := dnw_ex h.exw _ _ rx
  have d2 := dnw_ex h.exw _ _ ry
  exact ⟨d, e, dp_of _ _ n1 d1, dp_of _ _ n2 d2, hal, hn, hdp, q _ H P (Ex.refl P) h (.bl _)⟩
end
section
variable {X : Cx} {N : Ent} {ρ : Rho} {M M1 M2 : Mem} {a b : Expr} {pos : Pos}
theorem ej_subB {t u : Bool} (ha : EJ X N ρ M a (dB t) M1) (hb : EJ X N ρ M1 b (dB u) M2) : EJ X N ρ M (.BinOp a .Sub b pos) (dI (PyProof.Rows.b2i t - PyProof.Rows.b2i u)) M2 := ej_op op_subB ha hb fun x y H P h rx ry Q q => ⟨_, _, ri_bl rx, ri_bl ry, q _ H P (Ex.refl P) h (.int _)⟩
end
end Kt

/-! Kuv: xs.insert(n, e), a walk of a list or a tuple -/
namespace Kt
open PySem PySem.Spec PyProof PyProof.Rows L2
theorem RepIs.take {P : Hp} : ∀ {xs : List V} {is : List Kt.It} (n : Nat), RepIs P xs is → RepIs P (xs.take n) (is.take n)
  | [], [], n, h => by rw [List.take_nil, List.take_nil]; exact h
  | x :: xs, i :: is, 0, h => trivial
  | x :: xs, i :: is, n + 1, h => ⟨h.1, RepIs.take n h.2⟩
theorem RepIs.drop {P : Hp} : ∀ {xs : List V} {is : List Kt.It} (n : Nat), RepIs P xs is → RepIs P (xs.drop n) (is.drop n)
  | xs, is, 0, h => h
  | [], [], n + 1, h => trivial
  | x :: xs, i :: is, n + 1, h => RepIs.drop n h.2
section
variable {X : Cx} {N : Ent} {ρ : Rho} {M M1 M2 : Mem} {a e1 e2 : Expr} {pos : Pos} {i : Kt.It} {Z : Post} {rest : List Stmt}
theorem sj_insert {ap epos : Pos} {p : Addr} {is is0 : List Kt.It} {n : Nat} (ho : EJ X N ρ M a (.v (.ref p)) M) (hm0 : (p, is0) ∈ M) (h1 : EJ X N ρ M e1 (dI (n : Int)) M1) (h2 : EJ X N ρ M1 e2 i M2) (hm : (p, is) ∈ M2) (hz : is.length < 100000) (hn : n ≤ 100000) (hr : SJ X N ρ (M2.put p (is.take n ++ [i] ++ is.drop n)) rest Z) (hs : swapsWith (.Call (.Attribute a "insert" ap) [e1, e2] [] pos) none epos.line X.env = pure false := by rfl)
    (hst : starEach [e1, e2] X.env = (false, eval e1 X.env) :: starEach [e2] X.env := by rfl) (hst2 : starEach [e2] X.env = [(false, eval e2 X.env)] := by rfl) (ps : PE X (.Call (.Attribute a "insert" ap) [e1, e2] [] pos) (tBM X.K "list" (fun x vs H Q => ∃ (l : Addr) (xs : List V) (i : Int) (y : V), x = .ref l ∧ vs = [.int i, y] ∧ H l = some (.lst xs) ∧ xs.length < sizeLine ∧ 0 ≤ i ∧ i < 2 ^ 63 ∧ Q .non (upd H l (.lst (xs.take i.toNat ++ [y] ++ xs.drop i.toNat)))) (wE X a) (wA X [e1, e2])) := by exact pe_bm PySem.F.plainAttrs_list PySem.F.slot_list_insert PySem.F.type_list_insert mt_insert pe_w pa_w) : SJ X N ρ M (.Expr (.Call (.Attribute a "insert" ap) [e1, e2] [] pos) epos :: rest) Z := sj_cons fun σ H P hh g D E tk z => by
  refine s_of (ps_expr ps hs) (ho σ H P hh g _ fun v H1 P1 x1 g1 r1 => ?_)
  cases (show v = .ref p from r1)
  obtain ⟨ys, ey, _⟩ := g1.cell hm0
  refine ⟨.inl ⟨rfl, ys, .inl (.inl ey)⟩, ?_⟩
  refine aj_cons h1 (aj_cons h2 aj_nil hst2) hst σ H1 P1 g1 (g.ex x1) _ fun vs H2 P2 x2 g2 r2 => ?_
  obtain ⟨u, y, rfl, r3, r4⟩ := ri2 r2
  cases ri_int r3
  obtain ⟨xs, e3, r5⟩ := g2.cell hm
  refine ⟨p, xs, (n : Int), y, rfl, rfl, e3, by rw [r5.len]; exact Nat.lt_trans hz (by decide), by omega, by omega, ?_⟩
  rw [Int.toNat_natCast]
  exact z.nx ρ _ σ _ P2 hr (x1.trans x2) (g2.write hm (RepIs.app (RepIs.app (RepIs.take n r5) (show RepIs P2 [y] [i] from ⟨r4, trivial⟩)) (RepIs.drop n r5))) (g.ex (x1.trans x2))
end
end Kt

namespace K98
open PySem PySem.Spec PyProof.Rows L2 Kt
def topS (i : Nat) : Stmt := PySem.Challenge.pw_heardtrue_k98_openings_of_all_sizes.main.body.getD i (.Pass ⟨0, 0, 0, 0⟩)
abbrev s_plus : Stmt := topS 1
abbrev n_plus : List Str := ["one", "other"]
theorem sc_plus : FnScope n_plus ["one", "other"] (defScope s_plus) := ⟨rfl, rfl, rfl, by decide +kernel, rfl, by decide +kernel, by decide +kernel⟩
abbrev s_minus : Stmt := topS 2
abbrev n_minus : List Str := ["one", "other"]
theorem sc_minus : FnScope n_minus ["one", "other"] (defScope s_minus) := ⟨rfl, rfl, rfl, by decide +kernel, rfl, by decide +kernel, by decide +kernel⟩
abbrev s_times : Stmt := topS 3
abbrev n_times : List Str := ["one", "other"]
theorem sc_times : FnScope n_times ["one", "other"] (defScope s_times) := ⟨rfl, rfl, rfl, by decide +kernel, rfl, by decide +kernel, by decide +kernel⟩
abbrev s_size : Stmt := topS 4
abbrev n_size : List Str := ["point"]
theorem sc_size : FnScope n_size ["point"] (defScope s_size) := ⟨rfl, rfl, rfl, by decide +kernel, rfl, by decide +kernel, by decide +kernel⟩
abbrev s_total : Stmt := topS 5
abbrev n_total : List Str := ["points", "point"]
theorem sc_total : FnScope n_total ["points"] (defScope s_total) := ⟨rfl, rfl, rfl, by decide +kernel, rfl, by decide +kernel, by decide +kernel⟩
abbrev s_smeared : Stmt := topS 7
abbrev n_smeared : List Str := ["taps", "points", "sums", "place", "point", "late", "tap"]
theorem sc_smeared : FnScope n_smeared ["taps", "points"] (defScope s_smeared) := ⟨rfl, rfl, rfl, by decide +kernel, rfl, by decide +kernel, by decide +kernel⟩
abbrev s_sent : Stmt := topS 8
abbrev n_sent : List Str := ["line", "points"]
theorem sc_sent : FnScope n_sent ["line", "points"] (defScope s_sent) := ⟨rfl, rfl, rfl, by decide +kernel, rfl, by decide +kernel, by decide +kernel⟩
abbrev s_turned : Stmt := topS 10
abbrev n_turned : List Str := ["point", "turn", "x", "y"]
theorem sc_turned : FnScope n_turned ["point", "turn"] (defScope s_turned) := ⟨rfl, rfl, rfl, by decide +kernel, rfl, by decide +kernel, by decide +kernel⟩
abbrev s_told_by : Stmt := topS 11
abbrev n_told_by : List Str := ["opening", "line", "turn", "sample"]
theorem sc_told_by : FnScope n_told_by ["opening", "line", "turn"] (defScope s_told_by) := ⟨rfl, rfl, rfl, by decide +kernel, rfl, by decide +kernel, by decide +kernel⟩
abbrev s_shape : Stmt := topS 12
abbrev n_shape : List Str := ["opening", "line", "turn"]
theorem sc_shape : FnScope n_shape ["opening", "line", "turn"] (defScope s_shape) := ⟨rfl, rfl, rfl, by decide +kernel, rfl, by decide +kernel, by decide +kernel⟩
abbrev s_arrival : Stmt := topS 13
abbrev n_arrival : List Str := ["opening", "lines", "slack", "guess", "place", "turn", "number", "samples"]
theorem sc_arrival : FnScope n_arrival ["opening", "lines", "slack", "guess"] (defScope s_arrival) := ⟨rfl, rfl, rfl, by decide +kernel, rfl, by decide +kernel, by decide +kernel⟩
abbrev s_cost_at : Stmt := topS 14
abbrev n_cost_at : List Str := ["row", "place", "samples", "spent", "point", "sample"]
theorem sc_cost_at : FnScope n_cost_at ["row", "place", "samples"] (defScope s_cost_at) := ⟨rfl, rfl, rfl, by decide +kernel, rfl, by decide +kernel, by decide +kernel⟩
abbrev s_cost : Stmt := topS 15
abbrev n_cost : List Str := ["opening", "lines", "guess", "samples", "place", "turn", "number"]
theorem sc_cost : FnScope n_cost ["opening", "lines", "guess", "samples"] (defScope s_cost) := ⟨rfl, rfl, rfl, by decide +kernel, rfl, by decide +kernel, by decide +kernel⟩
abbrev s_find : Stmt := topS 16
abbrev n_find : List Str := ["opening", "lines", "slack", "samples", "told", "turn", "number", "line", "row", "_", "guess", "place"]
theorem sc_find : FnScope n_find ["opening", "lines", "slack", "samples"] (defScope s_find) := ⟨rfl, rfl, rfl, by decide +kernel, rfl, by decide +kernel, by decide +kernel⟩
abbrev s_separation : Stmt := topS 17
abbrev n_separation : List Str := ["opening", "lines", "slack", "waves", "rows", "line", "number", "wave", "shift", "beside", "row"]
theorem sc_separation : FnScope n_separation ["opening", "lines", "slack"] (defScope s_separation) := ⟨rfl, rfl, rfl, by decide +kernel, rfl, by decide +kernel, by decide +kernel⟩
abbrev s_least_apart : Stmt := topS 18
abbrev n_least_apart : List Str := ["window", "row", "same", "x", "y", "turns", "a", "b", "c", "d"]
theorem sc_least_apart : FnScope n_least_apart ["window", "row", "same"] (defScope s_least_apart) := ⟨rfl, rfl, rfl, by decide +kernel, rfl, by decide +kernel, by decide +kernel⟩
abbrev s_shifted : Stmt := topS 19
abbrev n_shifted : List Str := ["samples", "shift", "many", "ahead", "found"]
theorem sc_shifted : FnScope n_shifted ["samples", "shift", "many"] (defScope s_shifted) := ⟨rfl, rfl, rfl, by decide +kernel, rfl, by decide +kernel, by decide +kernel⟩
abbrev s_law_state : Stmt := topS 21
abbrev n_law_state : List Str := ["script", "seed", "cell"]
theorem sc_law_state : FnScope n_law_state ["script"] (defScope s_law_state) := ⟨rfl, rfl, rfl, by decide +kernel, rfl, by decide +kernel, by decide +kernel⟩
abbrev s_law_draw : Stmt := topS 22
abbrev n_law_draw : List Str := ["state", "many", "cells", "number", "mixed"]
theorem sc_law_draw : FnScope n_law_draw ["state", "many"] (defScope s_law_draw) := ⟨rfl, rfl, rfl, by decide +kernel, rfl, by decide +kernel, by decide +kernel⟩
abbrev s_law_pick : Stmt := topS 23
abbrev n_law_pick : List Str := ["state", "row"]
theorem sc_law_pick : FnScope n_law_pick ["state", "row"] (defScope s_law_pick) := ⟨rfl, rfl, rfl, by decide +kernel, rfl, by decide +kernel, by decide +kernel⟩
abbrev s_law_point : Stmt := topS 24
abbrev n_law_point : List Str := ["state", "wide"]
theorem sc_law_point : FnScope n_law_point ["state", "wide"] (defScope s_law_point) := ⟨rfl, rfl, rfl, by decide +kernel, rfl, by decide +kernel, by decide +kernel⟩
abbrev s_law_opening : Stmt := topS 25
abbrev n_law_opening : List Str := ["state", "many", "scale", "row", "k", "x", "y"]
theorem sc_law_opening : FnScope n_law_opening ["state"] (defScope s_law_opening) := ⟨rfl, rfl, rfl, by decide +kernel, rfl, by decide +kernel, by decide +kernel⟩
abbrev s_law_line : Stmt := topS 26
abbrev n_law_line : List Str := ["state", "taps", "k"]
theorem sc_law_line : FnScope n_law_line ["state"] (defScope s_law_line) := ⟨rfl, rfl, rfl, by decide +kernel, rfl, by decide +kernel, by decide +kernel⟩
abbrev s_law_sizes : Stmt := topS 27
abbrev n_law_sizes : List Str := ["state", "lines", "slack"]
theorem sc_law_sizes : FnScope n_law_sizes ["state"] (defScope s_law_sizes) := ⟨rfl, rfl, rfl, by decide +kernel, rfl, by decide +kernel, by decide +kernel⟩
abbrev s_law_turned : Stmt := topS 28
abbrev n_law_turned : List Str := ["point", "turn", "x", "y"]
theorem sc_law_turned : FnScope n_law_turned ["point", "turn"] (defScope s_law_turned) := ⟨rfl, rfl, rfl, by decide +kernel, rfl, by decide +kernel, by decide +kernel⟩
abbrev s_law_whole : Stmt := topS 29
abbrev n_law_whole : List Str := ["opening", "line", "turn", "found", "k", "j", "a", "b", "c", "d", "point"]
theorem sc_law_whole : FnScope n_law_whole ["opening", "line", "turn"] (defScope s_law_whole) := ⟨rfl, rfl, rfl, by decide +kernel, rfl, by decide +kernel, by decide +kernel⟩
abbrev s_law_arrival : Stmt := topS 30
abbrev n_law_arrival : List Str := ["opening", "line", "turn", "place", "slack", "found", "whole", "k"]
theorem sc_law_arrival : FnScope n_law_arrival ["opening", "line", "turn", "place", "slack"] (defScope s_law_arrival) := ⟨rfl, rfl, rfl, by decide +kernel, rfl, by decide +kernel, by decide +kernel⟩
abbrev s_law_cost : Stmt := topS 31
abbrev n_law_cost : List Str := ["form", "samples", "place", "total_v", "k", "x", "y"]
theorem sc_law_cost : FnScope n_law_cost ["form", "samples", "place"] (defScope s_law_cost) := ⟨rfl, rfl, rfl, by decide +kernel, rfl, by decide +kernel, by decide +kernel⟩
abbrev s_law_shapes : Stmt := topS 32
abbrev n_law_shapes : List Str := ["opening", "lines", "shapes", "turn", "number"]
theorem sc_law_shapes : FnScope n_law_shapes ["opening", "lines"] (defScope s_law_shapes) := ⟨rfl, rfl, rfl, by decide +kernel, rfl, by decide +kernel, by decide +kernel⟩
abbrev s_law_guesses : Stmt := topS 33
abbrev n_law_guesses : List Str := ["lines", "slack", "found", "place", "turn", "number"]
theorem sc_law_guesses : FnScope n_law_guesses ["lines", "slack"] (defScope s_law_guesses) := ⟨rfl, rfl, rfl, by decide +kernel, rfl, by decide +kernel, by decide +kernel⟩
abbrev s_law_least : Stmt := topS 34
abbrev n_law_least : List Str := ["opening", "lines", "slack", "shapes", "found", "place", "turn", "number", "clear", "other", "price"]
theorem sc_law_least : FnScope n_law_least ["opening", "lines", "slack"] (defScope s_law_least) := ⟨rfl, rfl, rfl, by decide +kernel, rfl, by decide +kernel, by decide +kernel⟩
abbrev s_law_samples : Stmt := topS 35
abbrev n_law_samples : List Str := ["state", "clear", "scale", "wide", "drop", "found", "drawn", "x", "y", "dx", "dy", "point", "k"]
theorem sc_law_samples : FnScope n_law_samples ["state", "clear", "scale"] (defScope s_law_samples) := ⟨rfl, rfl, rfl, by decide +kernel, rfl, by decide +kernel, by decide +kernel⟩
abbrev s_law_found : Stmt := topS 36
abbrev n_law_found : List Str := ["shapes", "lines", "slack", "samples", "best", "place", "turn", "number", "price"]
theorem sc_law_found : FnScope n_law_found ["shapes", "lines", "slack", "samples"] (defScope s_law_found) := ⟨rfl, rfl, rfl, by decide +kernel, rfl, by decide +kernel, by decide +kernel⟩
abbrev s_law : Stmt := topS 37
abbrev n_law : List Str := ["script", "state", "opening", "scale", "count", "slack", "lines", "k", "shapes", "kept", "handed", "turn", "true", "clear", "samples", "row", "other", "x", "y"]
theorem sc_law : FnScope n_law ["script"] (defScope s_law) := ⟨rfl, rfl, rfl, by decide +kernel, rfl, by decide +kernel, by decide +kernel⟩
structure Txt (K : PySem.W.Frag) (mg : Str → Option Value) : Prop where
  f_plus : ∃ f fd, Fun K "plus" "plus" s_plus f fd ∧ mg "plus" = some (.ref f) ∧ Binds K fd ["one", "other"] []
  f_minus : ∃ f fd, Fun K "minus" "minus" s_minus f fd ∧ mg "minus" = some (.ref f) ∧ Binds K fd ["one", "other"] []
  f_times : ∃ f fd, Fun K "times" "times" s_times f fd ∧ mg "times" = some (.ref f) ∧ Binds K fd ["one", "other"] []
  f_size : ∃ f fd, Fun K "size" "size" s_size f fd ∧ mg "size" = some (.ref f) ∧ Binds K fd ["point"] []
  f_total : ∃ f fd, Fun K "total" "total" s_total f fd ∧ mg "total" = some (.ref f) ∧ Binds K fd ["points"] []
  f_smeared : ∃ f fd, Fun K "smeared" "smeared" s_smeared f fd ∧ mg "smeared" = some (.ref f) ∧ Binds K fd ["taps", "points"] []
  f_sent : ∃ f fd, Fun K "sent" "sent" s_sent f fd ∧ mg "sent" = some (.ref f) ∧ Binds K fd ["line", "points"] []
  f_turned : ∃ f fd, Fun K "turned" "turned" s_turned f fd ∧ mg "turned" = some (.ref f) ∧ Binds K fd ["point", "turn"] []
  f_told_by : ∃ f fd, Fun K "told_by" "told_by" s_told_by f fd ∧ mg "told_by" = some (.ref f) ∧ Binds K fd ["opening", "line", "turn"] []
  f_shape : ∃ f fd, Fun K "shape" "shape" s_shape f fd ∧ mg "shape" = some (.ref f) ∧ Binds K fd ["opening", "line", "turn"] []
  f_arrival : ∃ f fd, Fun K "arrival" "arrival" s_arrival f fd ∧ mg "arrival" = some (.ref f) ∧ Binds K fd ["opening", "lines", "slack", "guess"] []
  f_cost_at : ∃ f fd, Fun K "cost_at" "cost_at" s_cost_at f fd ∧ mg "cost_at" = some (.ref f) ∧ Binds K fd ["row", "place", "samples"] []
  f_cost : ∃ f fd, Fun K "cost" "cost" s_cost f fd ∧ mg "cost" = some (.ref f) ∧ Binds K fd ["opening", "lines", "guess", "samples"] []
  f_find : ∃ f fd, Fun K "find" "find" s_find f fd ∧ mg "find" = some (.ref f) ∧ Binds K fd ["opening", "lines", "slack", "samples"] []
  f_separation : ∃ f fd, Fun K "separation" "separation" s_separation f fd ∧ mg "separation" = some (.ref f) ∧ Binds K fd ["opening", "lines", "slack"] []
  f_least_apart : ∃ f fd, Fun K "least_apart" "least_apart" s_least_apart f fd ∧ mg "least_apart" = some (.ref f) ∧ Binds K fd ["window", "row", "same"] []
  f_shifted : ∃ f fd, Fun K "shifted" "shifted" s_shifted f fd ∧ mg "shifted" = some (.ref f) ∧ Binds K fd ["samples", "shift", "many"] []
  f_law_state : ∃ f fd, Fun K "_law_state" "_law_state" s_law_state f fd ∧ mg "_law_state" = some (.ref f) ∧ Binds K fd ["script"] []
  f_law_draw : ∃ f fd, Fun K "_law_draw" "_law_draw" s_law_draw f fd ∧ mg "_law_draw" = some (.ref f) ∧ Binds K fd ["state", "many"] []
  f_law_pick : ∃ f fd, Fun K "_law_pick" "_law_pick" s_law_pick f fd ∧ mg "_law_pick" = some (.ref f) ∧ Binds K fd ["state", "row"] []
  f_law_point : ∃ f fd, Fun K "_law_point" "_law_point" s_law_point f fd ∧ mg "_law_point" = some (.ref f) ∧ Binds K fd ["state", "wide"] []
  f_law_opening : ∃ f fd, Fun K "_law_opening" "_law_opening" s_law_opening f fd ∧ mg "_law_opening" = some (.ref f) ∧ Binds K fd ["state"] []
  f_law_line : ∃ f fd, Fun K "_law_line" "_law_line" s_law_line f fd ∧ mg "_law_line" = some (.ref f) ∧ Binds K fd ["state"] []
  f_law_sizes : ∃ f fd, Fun K "_law_sizes" "_law_sizes" s_law_sizes f fd ∧ mg "_law_sizes" = some (.ref f) ∧ Binds K fd ["state"] []
  f_law_turned : ∃ f fd, Fun K "_law_turned" "_law_turned" s_law_turned f fd ∧ mg "_law_turned" = some (.ref f) ∧ Binds K fd ["point", "turn"] []
  f_law_whole : ∃ f fd, Fun K "_law_whole" "_law_whole" s_law_whole f fd ∧ mg "_law_whole" = some (.ref f) ∧ Binds K fd ["opening", "line", "turn"] []
  f_law_arrival : ∃ f fd, Fun K "_law_arrival" "_law_arrival" s_law_arrival f fd ∧ mg "_law_arrival" = some (.ref f) ∧ Binds K fd ["opening", "line", "turn", "place", "slack"] []
  f_law_cost : ∃ f fd, Fun K "_law_cost" "_law_cost" s_law_cost f fd ∧ mg "_law_cost" = some (.ref f) ∧ Binds K fd ["form", "samples", "place"] []
  f_law_shapes : ∃ f fd, Fun K "_law_shapes" "_law_shapes" s_law_shapes f fd ∧ mg "_law_shapes" = some (.ref f) ∧ Binds K fd ["opening", "lines"] []
  f_law_guesses : ∃ f fd, Fun K "_law_guesses" "_law_guesses" s_law_guesses f fd ∧ mg "_law_guesses" = some (.ref f) ∧ Binds K fd ["lines", "slack"] []
  f_law_least : ∃ f fd, Fun K "_law_least" "_law_least" s_law_least f fd ∧ mg "_law_least" = some (.ref f) ∧ Binds K fd ["opening", "lines", "slack"] []
  f_law_samples : ∃ f fd, Fun K "_law_samples" "_law_samples" s_law_samples f fd ∧ mg "_law_samples" = some (.ref f) ∧ Binds K fd ["state", "clear", "scale"] []
  f_law_found : ∃ f fd, Fun K "_law_found" "_law_found" s_law_found f fd ∧ mg "_law_found" = some (.ref f) ∧ Binds K fd ["shapes", "lines", "slack", "samples"] []
  f_law : ∃ f fd, Fun K "law" "law" s_law f fd ∧ mg "law" = some (.ref f) ∧ Binds K fd ["script"] []
  b_abs : mg "abs" = none
  b_enumerate : mg "enumerate" = none
  b_int : mg "int" = none
  b_len : mg "len" = none
  b_list : mg "list" = none
  b_max : mg "max" = none
  b_min : mg "min" = none
  b_range : mg "range" = none
  b_sum : mg "sum" = none
  b_tuple : mg "tuple" = none
  b_zip : mg "zip" = none

/-! ### the law's draws -/
def dropZ : List Int → List Int
  | [] => []
  | v :: r => if v = 0 then dropZ r else v :: r
def drw (cs : List Int) (s many : Int) : Int × List Int × Int :=
  match dropZ cs with
  | [] => ((s * 48271 + 12345) % 2147483647 / 64 % many, [], (s * 48271 + 12345) % 2147483647)
  | v :: r => (v % many, (v / many) :: r, s)
theorem dropZ_len : ∀ l : List Int, (dropZ l).length ≤ l.length
  | [] => Nat.le_refl _
  | v :: r => by
    unfold dropZ
    split
    · exact Nat.le_succ_of_le (dropZ_len r)
    · exact Nat.le_refl _
theorem drw_len (cs : List Int) (s many : Int) : (drw cs s many).2.1.length ≤ cs.length := by
  have := dropZ_len cs
  unfold drw
  cases e : dropZ cs with
  | nil => exact Nat.zero_le _
  | cons v r => rw [e] at this; exact this
theorem drw_lo {many : Int} (cs : List Int) (s : Int) (h : 0 < many) : 0 ≤ (drw cs s many).1 := by
  unfold drw
  cases e : dropZ cs with
  | nil => exact Int.emod_nonneg _ (by omega)
  | cons v r => exact Int.emod_nonneg _ (by omega)
theorem drw_hi {many : Int} (cs : List Int) (s : Int) (h : 0 < many) : (drw cs s many).1 < many := by
  unfold drw
  cases e : dropZ cs with
  | nil => exact Int.emod_lt_of_pos _ h
  | cons v r => exact Int.emod_lt_of_pos _ h
def Stt (a c : Addr) (cs : List Int) (s : Int) : Mem := [(a, [.v (.ref c), dI s]), (c, cs.map dI)]
theorem put_c {a c : Addr} {cs ds : List Int} {s : Int} {its : List Kt.It} (ne : a ≠ c) (e : its = ds.map dI) : (Stt a c cs s).put c its = Stt a c ds s := by
  unfold Stt Mem.put
  simp [ne, e]
theorem put_a {a c : Addr} {cs : List Int} {s s' : Int} {its : List Kt.It} (ne : a ≠ c) (e : its = [.v (.ref c), dI s']) : (Stt a c cs s).put a its = Stt a c cs s' := by
  unfold Stt Mem.put
  simp [ne.symm, e]
theorem stt_a {a c : Addr} {cs : List Int} {s : Int} : (a, [Kt.It.v (.ref c), dI s]) ∈ Stt a c cs s := List.mem_cons_self
theorem stt_c {a c : Addr} {cs : List Int} {s : Int} : (c, cs.map dI) ∈ Stt a c cs s := List.mem_cons_of_mem _ List.mem_cons_self
theorem stt_ne {a c : Addr} {cs : List Int} {s : Int} (h : ((Stt a c cs s).map Prod.fst).Nodup) : a ≠ c := by
  have : a ≠ c ∧ True := by simpa [Stt] using h
  exact this.1
theorem at0 {α : Type} {x : α} {xs : List α} : atI (x :: xs) 0 = some x := atI_nat (j := 0) rfl
theorem wide_ok {m : Int} (h1 : 0 < m) (h2 : m < 18446744073709551616) : 0 < m ∧ m.natAbs.log2 < 9000 := by
  refine ⟨h1, ?_⟩
  have h : m.natAbs < 2 ^ 64 := by omega
  have h0 : m.natAbs ≠ 0 := by omega
  exact Nat.lt_trans ((Nat.log2_lt h0).mpr h) (by decide)
def CoDraw : Co := fun is M i M' => ∃ (a c : Addr) (cs : List Int) (s many : Int), is = [.v (.ref a), dI many] ∧ M = Stt a c cs s ∧ 0 < many ∧ many < 18446744073709551616 ∧ cs.length ≤ 63 ∧ i = dI (drw cs s many).1 ∧ M' = Stt a c (drw cs s many).2.1 (drw cs s many).2.2
section
variable {P : Program} {w : World} {K : PySem.W.Frag} {mg : Str → Option Value} {base : Heap}
theorem d_law_draw (T : Txt K mg) : Def P w K mg base "_law_draw" 1 CoDraw := by
  obtain ⟨f, fd, F, hm, hb⟩ := T.f_law_draw
  refine def_ok F sc_law_draw hm hb (fun is M i M' h => ?_) fun X hX N is M i M' hF hC => ?_
  · obtain ⟨a, c, cs, s, many, rfl, rfl, _, _, _, _, rfl⟩ := h
    exact ⟨rfl, rfl⟩
  · obtain ⟨cdv, A, outer, s, H, E, rfl, hr⟩ := hX
    obtain ⟨a, c, cs, s, many, rfl, rfl, h1, h2, h3, rfl, rfl⟩ := hC
    have nd := sc_law_draw.nd
    refine sj_nd fun hne => ?_
    have ne := stt_ne hne
    refine sj_set 2 nd (ej_ixO (ej_name 0) ej_int stt_a rfl) ?_
    refine sj_while cs.length (fun m ρ M => ∃ l : List Int, m = l.length ∧ l.length ≤ 63 ∧ dropZ l = dropZ cs ∧ ρ = [some (.v (.ref a)), some (dI many), some (.v (.ref c)), none, none] ∧ M = Stt a c l s) ⟨cs, rfl, h3, rfl, rfl, rfl⟩ fun m ρ M hI => ?_
    obtain ⟨l, rfl, hl, hz, rfl, rfl⟩ := hI
    cases l with
    | nil =>
      refine ⟨_, _, tj_w (wj_and (u := true) (tj_gt (ej_lenO T.b_len (ej_name 2) stt_c) ej_int) fun h => ?_), fun h => ?_, fun _ => ?_⟩
      · simp at h
      · simp at h
      · have hd2 : dropZ cs = [] := hz.symm
        have e : drw cs s many = ((s * 48271 + 12345) % 2147483647 / 64 % many, [], (s * 48271 + 12345) % 2147483647) := by unfold drw; rw [hd2]
        rw [e]
        refine sj_if (tj_gt (ej_lenO T.b_len (ej_name 2) stt_c) ej_int) (fun h => by simp at h) fun _ => sj_nil ?_
        refine sj_set 4 nd (ej_mod (ej_intc T.b_int (ej_add (ej_mul (n := s) (ej_ixO (ej_name 0) ej_int stt_a rfl) ej_int (.inr (by decide))) ej_int)) ej_int (by decide)) ?_
        refine sj_setO (n := 1) (ej_name 4) (ej_name 0) ej_int stt_a (by simp) ?_
        refine sj_is (sj_ret (ej_mod (ej_intc T.b_int (ej_fdiv (ej_name 4) ej_int (by decide))) (ej_name 1) h1) ⟨rfl, [], ?_⟩) rfl (put_a ne rfl)
        rw [List.append_nil]
    | cons v r =>
      refine ⟨_, _, tj_w (wj_and (tj_gt (ej_lenO T.b_len (ej_name 2) stt_c) ej_int) fun _ => wj_and1 (tj_eqI (n := v) (ej_ixO (ej_name 2) ej_int stt_c at0) ej_int)), fun h => ?_, fun h => ?_⟩
      · have hv : v = 0 := by simpa using h
        refine sj_popAt (n := 0) (ej_name 2) ej_int stt_c (by simp) (by simp; simp at hl; omega) (sj_nil ⟨r.length, by simp, r, rfl, by simp at hl; omega, ?_, rfl, put_c ne (by simp)⟩)
        rw [← hz]
        show dropZ r = if v = 0 then dropZ r else v :: r
        rw [if_pos hv]
      · have hv : v ≠ 0 := by simpa using h
        have hd2 : dropZ cs = v :: r := by
          rw [← hz]
          show (if v = 0 then dropZ r else v :: r) = _
          rw [if_neg hv]
        have e : drw cs s many = (v % many, (v / many) :: r, s) := by unfold drw; rw [hd2]
        rw [e]
        refine sj_if (tj_gt (ej_lenO T.b_len (ej_name 2) stt_c) ej_int) (fun _ => ?_) fun h => by simp at h
        refine sj_set 3 nd (ej_ixO (k := dI v) (ej_name 2) ej_int stt_c at0) ?_
        refine sj_setO (n := 0) (ej_fdivW (n := v) (ej_name 3) (ej_name 1) (wide_ok h1 h2)) (ej_name 2) ej_int stt_c (by simp) ?_
        refine sj_is (sj_ret (ej_mod (n := v) (ej_intc T.b_int (ej_name 3)) (ej_name 1) h1) ⟨rfl, [], ?_⟩) rfl (put_c (ds := (v / many) :: r) ne (by simp))
        rw [List.append_nil]
end

/-! ### the law's first state -/
def seedOf (ns : List Int) : Int := ns.foldl (fun s n => (s * 31 + n) % 1000003) 7
def absI (n : Int) : Int := if n < 0 then -n else n
def PreState (K : PySem.W.Frag) : Pre := fun is M => M = [] ∧ ∃ a ns, is = [scr K a ns] ∧ ns.length ≤ 63
def CoState (K : PySem.W.Frag) : Co := fun is _ i M' => ∃ a ns p c, is = [scr K a ns] ∧ i = .v (.ref p) ∧ M' = Stt p c (ns.map absI) (seedOf ns + 1) ∧ ns.length ≤ 63
section
variable {P : Program} {w : World} {K : PySem.W.Frag} {mg : Str → Option Value} {base : Heap}
theorem d_law_state (T : Txt K mg) : DefN P w K mg base "_law_state" 1 (PreState K) (CoState K) := by
  obtain ⟨f, fd, F, hm, hb⟩ := T.f_law_state
  refine defN_ok F sc_law_state hm hb (fun is M h => ?_) (fun is M i M' h _ a ha => ?_) fun X hX N is M hF hA => ?_
  · obtain ⟨rfl, a, ns, rfl, _⟩ := h
    rfl
  · obtain ⟨rfl, _⟩ := h
    exact absurd ha List.not_mem_nil
  · obtain ⟨cdv, A, outer, s, H, E, rfl, hr⟩ := hX
    obtain ⟨rfl, a, ns, rfl, hl⟩ := hA
    have nd := sc_law_state.nd
    refine sj_set 1 nd ej_int ?_
    refine sj_forS (ds := ns.map PyData.int) rfl (ej_name 0) scr_src (fun k ρ M => ∃ y, ρ = [some (scr K a ns), some (dI (seedOf (ns.take k))), y] ∧ M = []) ⟨none, rfl, rfl⟩ (fun k d ρ M hk hI => ?_) fun ρ M hI => ?_
    · obtain ⟨y, rfl, rfl⟩ := hI
      rw [List.getElem?_map] at hk
      obtain ⟨n, e1, rfl⟩ := Option.map_eq_some_iff.mp hk
      refine ⟨_, gj_name 2 nd, ?_⟩
      refine sj_set 1 nd (ej_mod (ej_intc T.b_int (ej_add (ej_mul (ej_name 1) ej_int (.inr (by decide))) (ej_name 2))) ej_int (by decide)) (sj_nil ⟨some (dI n), ?_, rfl⟩)
      have e2 : ns.take (k + 1) = ns.take k ++ [n] := by
        rw [List.take_add_one, e1]
        rfl
      have e3 : seedOf (ns.take (k + 1)) = (seedOf (ns.take k) * 31 + n) % 1000003 := by
        unfold seedOf
        rw [e2, List.foldl_append]
        rfl
      rw [e3]
      rfl
    · obtain ⟨y, rfl, rfl⟩ := hI
      rw [List.length_map, List.take_length]
      refine sj_retLL (el_compS 2 (ds := ns.map PyData.int) (fun m => (ns.take m).map fun n => dI (absI n)) (fun _ => []) rfl nd (ej_name 0) scr_src rfl rfl (by simp; omega) (fun m d hm => ?_)) (fun p => ej_add (ej_name 1) ej_int) fun p q => ?_
      · rw [List.getElem?_map] at hm
        obtain ⟨n, e1, rfl⟩ := Option.map_eq_some_iff.mp hm
        refine ⟨dI (absI n), ?_, ?_, fun N' s H C cl fp => ej_abs T.b_abs (ej_name 2)⟩
        · rw [List.take_add_one, e1, List.map_append]
          rfl
        · simp
          omega
      · refine ⟨Stt q p (ns.map absI) (seedOf ns + 1), ⟨a, ns, q, p, rfl, rfl, rfl, hl⟩, ?_, ?_⟩
        · intro c hc
          simp [Stt] at hc
          rcases hc with rfl | rfl
          · simp
          · simp [List.map_map, Function.comp_def]
        · intro h
          have : p ≠ q := by simpa using h
          simpa [Stt] using this.symm
end

/-! several draws -/
def drN (many : Int) : Nat → List Int → Int → List Int × List Int × Int
  | 0, cs, s => ([], cs, s)
  | m + 1, cs, s => ((drN many m cs s).1 ++ [(drw (drN many m cs s).2.1 (drN many m cs s).2.2 many).1], (drw (drN many m cs s).2.1 (drN many m cs s).2.2 many).2.1, (drw (drN many m cs s).2.1 (drN many m cs s).2.2 many).2.2)
theorem drN_ok {many : Int} (h : 0 < many) (cs : List Int) (s : Int) : ∀ m, (drN many m cs s).1.length = m ∧ (drN many m cs s).2.1.length ≤ cs.length ∧ ∀ v ∈ (drN many m cs s).1, 0 ≤ v ∧ v < many
  | 0 => ⟨rfl, Nat.le_refl _, fun v hv => absurd hv List.not_mem_nil⟩
  | m + 1 => by
    obtain ⟨a, b, c⟩ := drN_ok h cs s m
    refine ⟨?_, Nat.le_trans (drw_len _ _ _) b, fun v hv => ?_⟩
    · show (_ ++ [_]).length = _
      rw [List.length_append, a]
      rfl
    · rcases List.mem_append.mp hv with hv | hv
      · exact c v hv
      · rw [List.mem_singleton.mp hv]
        exact ⟨drw_lo _ _ h, drw_hi _ _ h⟩
section
variable {X : Cx} {N : Ent} {ρ : Rho} {M : Mem} {e1 e2 : Expr}
theorem ej_draw {p q : Pos} (F : Def X.prog X.w X.K X.mg X.base "_law_draw" 1 CoDraw) (hr : Room 1 X.A) {a c : Addr} {cs cs' : List Int} {s s' many : Int} {Mr : Mem} (h1 : EJ X N ρ (Stt a c cs s ++ Mr) e1 (.v (.ref a)) (Stt a c cs s ++ Mr)) (h2 : EJ X N ρ (Stt a c cs s ++ Mr) e2 (dI many) (Stt a c cs' s' ++ Mr)) (m0 : 0 < many) (m1 : many < 18446744073709551616) (hl : cs'.length ≤ 63)
    (hg : Gl X "_law_draw" := by rfl) (he : starEach [e1, e2] X.env = (false, eval e1 X.env) :: starEach [e2] X.env := by rfl) (he2 : starEach [e2] X.env = [(false, eval e2 X.env)] := by rfl) (hpl : (backTo q (starEach [e2] X.env)).any (·.1) = false := by rfl) :
    EJ X N ρ (Stt a c cs s ++ Mr) (.Call (.Name "_law_draw" p) [e1, e2] [] q) (dI (drw cs' s' many).1) (Stt a c (drw cs' s' many).2.1 (drw cs' s' many).2.2 ++ Mr) :=
  ej_call F hr (aj_cons h1 (aj_cons h2 aj_nil he2) he) (Mc := Stt a c cs' s') rfl ⟨a, c, cs', s', many, rfl, rfl, m0, m1, hl, rfl, rfl⟩ rfl hg (by decide) he hpl
end

/-! ### kinds -/
theorem boot_int' : bootBuiltins "int" = some (.type "int") := by decide +kernel
theorem boot_bool' : bootBuiltins "bool" = some (.type "bool") := by decide +kernel
theorem boot_tuple' : bootBuiltins "tuple" = some (.type "tuple") := by decide +kernel
theorem boot_str' : bootBuiltins "str" = some (.type "str") := by decide +kernel
theorem boot_list' : bootBuiltins "list" = some (.type "list") := by decide +kernel
def betw (d : PyData) (lo hi : Int) : Bool := match d with
  | .int i => decide (lo ≤ i) && decide (i ≤ hi)
  | _ => false
def isTupN (d : PyData) (many : Int) : Bool := match d with
  | .tuple l => decide ((l.length : Int) = many)
  | _ => false
def CoIsInt : Co := fun is M i M' => M = [] ∧ M' = [] ∧ ∃ d, is = [.d d] ∧ i = dB (decide (tyD d = "int"))
def CoBetw : Co := fun is M i M' => M = [] ∧ M' = [] ∧ ∃ d lo hi, is = [.d d, dI lo, dI hi] ∧ i = dB (betw d lo hi)
def CoIsTup : Co := fun is M i M' => M = [] ∧ M' = [] ∧ ∃ d m, is = [.d d, dI m] ∧ i = dB (isTupN d m)
def tame : Nat → PyData → Prop
  | n + 1, .tuple l => l.length ≤ 1000 ∧ ∀ x ∈ l, tame n x
  | n + 1, .list l => l.length ≤ 1000 ∧ ∀ x ∈ l, tame n x
  | _, _ => True
theorem take_map_succ {α β : Type} {l : List α} {m : Nat} {x : α} (f : α → β) (h : l[m]? = some x) : (l.take (m + 1)).map f = (l.take m).map f ++ [f x] := by
  rw [List.take_add_one, h, List.map_append]
  rfl

/-! points as pairs, lines as lists of points: sums, products -/
abbrev Gp := Int × Int
def gadd (p q : Gp) : Gp := (p.1 + q.1, p.2 + q.2)
def gmul (p q : Gp) : Gp := (p.1 * q.1 - p.2 * q.2, p.1 * q.2 + p.2 * q.1)
def g0 : Gp := (0, 0)
theorem gadd_comm (p q : Gp) : gadd p q = gadd q p := by unfold gadd; rw [Int.add_comm, Int.add_comm p.2]
theorem gadd_assoc (p q r : Gp) : gadd (gadd p q) r = gadd p (gadd q r) := by unfold gadd; simp [Int.add_assoc]
theorem gadd_0 (p : Gp) : gadd p g0 = p := by unfold gadd g0; simp
theorem g0_add (p : Gp) : gadd g0 p = p := by unfold gadd g0; simp
theorem gmul_comm (p q : Gp) : gmul p q = gmul q p := by
  unfold gmul
  rw [Int.mul_comm p.1, Int.mul_comm p.2 q.2, Int.mul_comm p.1 q.2, Int.mul_comm p.2 q.1, Int.add_comm]
theorem gmul_add (p q r : Gp) : gmul p (gadd q r) = gadd (gmul p q) (gmul p r) := by
  unfold gmul gadd
  simp only [Int.mul_add]
  congr 1 <;> omega
theorem gadd_mul (p q r : Gp) : gmul (gadd p q) r = gadd (gmul p r) (gmul q r) := by
  rw [gmul_comm, gmul_add, gmul_comm r p, gmul_comm r q]
theorem gmul_assoc (p q r : Gp) : gmul (gmul p q) r = gmul p (gmul q r) := by
  unfold gmul
  simp only [Int.mul_add, Int.add_mul, Int.mul_sub, Int.sub_mul, Int.mul_assoc]
  congr 1 <;> omega
theorem g0_mul (p : Gp) : gmul g0 p = g0 := by unfold gmul g0; simp
theorem gmul_0 (p : Gp) : gmul p g0 = g0 := by unfold gmul g0; simp
theorem sq_nn (x : Int) : 0 ≤ x * x := by
  rcases Int.le_total 0 x with h | h
  · exact Int.mul_nonneg h h
  · exact Int.mul_nonneg_of_nonpos_of_nonpos h h
theorem sq_0 {x : Int} (h : x * x = 0) : x = 0 := by
  rcases Int.mul_eq_zero.mp h with h | h <;> exact h
theorem gn_0 {p : Gp} (h : p.1 * p.1 + p.2 * p.2 = 0) : p = g0 := by
  have a := sq_nn p.1
  have b := sq_nn p.2
  have h1 : p.1 * p.1 = 0 := by omega
  have h2 : p.2 * p.2 = 0 := by omega
  exact Prod.ext (sq_0 h1) (sq_0 h2)
theorem gmul_eq0 {p q : Gp} (h : gmul p q = g0) : p = g0 ∨ q = g0 := by
  have h1 : p.1 * q.1 - p.2 * q.2 = 0 := congrArg Prod.fst h
  have h2 : p.1 * q.2 + p.2 * q.1 = 0 := congrArg Prod.snd h
  have k : (p.1 * p.1 + p.2 * p.2) * (q.1 * q.1 + q.2 * q.2) = 0 := by
    have e : (p.1 * p.1 + p.2 * p.2) * (q.1 * q.1 + q.2 * q.2) = (p.1 * q.1 - p.2 * q.2) * (p.1 * q.1 - p.2 * q.2) + (p.1 * q.2 + p.2 * q.1) * (p.1 * q.2 + p.2 * q.1) := by
      obtain ⟨a, b⟩ := p
      obtain ⟨c, d⟩ := q
      show (a * a + b * b) * (c * c + d * d) = (a * c - b * d) * (a * c - b * d) + (a * d + b * c) * (a * d + b * c)
      simp only [Int.mul_add, Int.add_mul, Int.mul_sub, Int.sub_mul]
      have e1 : a * c * (a * c) = a * a * (c * c) := by ac_rfl
      have e2 : a * c * (b * d) = a * d * (b * c) := by ac_rfl
      have e3 : b * d * (a * c) = b * c * (a * d) := by ac_rfl
      have e4 : b * d * (b * d) = b * b * (d * d) := by ac_rfl
      have e5 : a * d * (a * d) = a * a * (d * d) := by ac_rfl
      have e6 : b * c * (b * c) = b * b * (c * c) := by ac_rfl
      omega
    rw [e, h1, h2]
    rfl
  rcases Int.mul_eq_zero.mp k with k | k
  · exact .inl (gn_0 k)
  · exact .inr (gn_0 k)
/-- sums of lists, the longer one's end as it is -/
def ladd : List Gp → List Gp → List Gp
  | [], l => l
  | l, [] => l
  | x :: xs, y :: ys => gadd x y :: ladd xs ys
def scl (x : Gp) (l : List Gp) : List Gp := l.map (gmul x)
/-- what a line makes of points -/
def conv : List Gp → List Gp → List Gp
  | [], _ => []
  | x :: xs, b => ladd (scl x b) (g0 :: conv xs b)
theorem ladd_nil (l : List Gp) : ladd l [] = l := by cases l <;> rfl
theorem nil_ladd (l : List Gp) : ladd [] l = l := by cases l <;> rfl
theorem ladd_comm : ∀ a b : List Gp, ladd a b = ladd b a
  | [], b => by rw [nil_ladd, ladd_nil]
  | x :: xs, [] => rfl
  | x :: xs, y :: ys => by
    show gadd x y :: ladd xs ys = gadd y x :: ladd ys xs
    rw [gadd_comm, ladd_comm xs ys]
theorem ladd_assoc : ∀ a b c : List Gp, ladd (ladd a b) c = ladd a (ladd b c)
  | [], b, c => by rw [nil_ladd, nil_ladd]
  | x :: xs, [], c => by rw [ladd_nil, nil_ladd]
  | x :: xs, y :: ys, [] => by rw [ladd_nil, ladd_nil]
  | x :: xs, y :: ys, z :: zs => by
    show gadd (gadd x y) z :: ladd (ladd xs ys) zs = gadd x (gadd y z) :: ladd xs (ladd ys zs)
    rw [gadd_assoc, ladd_assoc xs ys zs]
theorem ladd_len : ∀ a b : List Gp, (ladd a b).length = max a.length b.length
  | [], b => by rw [nil_ladd]; simp
  | x :: xs, [] => by rw [ladd_nil]; simp
  | x :: xs, y :: ys => by
    show (ladd xs ys).length + 1 = _
    rw [ladd_len xs ys]
    simp only [List.length_cons]
    omega
theorem scl_len (x : Gp) (l : List Gp) : (scl x l).length = l.length := by simp [scl]
theorem scl_ladd (x : Gp) : ∀ a b : List Gp, scl x (ladd a b) = ladd (scl x a) (scl x b)
  | [], b => by rw [nil_ladd]; rfl
  | y :: ys, [] => by rw [ladd_nil]; rfl
  | y :: ys, z :: zs => by
    show gmul x (gadd y z) :: scl x (ladd ys zs) = gadd (gmul x y) (gmul x z) :: ladd (scl x ys) (scl x zs)
    rw [gmul_add, scl_ladd x ys zs]
theorem scl_scl (x y : Gp) (l : List Gp) : scl x (scl y l) = scl (gmul x y) l := by
  unfold scl
  rw [List.map_map]
  exact List.map_congr_left fun z _ => (gmul_assoc x y z).symm
theorem scl_add (x y : Gp) (l : List Gp) : scl (gadd x y) l = ladd (scl x l) (scl y l) := by
  induction l with
  | nil => rfl
  | cons z zs ih =>
    show gmul (gadd x y) z :: scl (gadd x y) zs = gadd (gmul x z) (gmul y z) :: ladd (scl x zs) (scl y zs)
    rw [gadd_mul, ih]
theorem conv_len {b : List Gp} (hb : b ≠ []) : ∀ {a : List Gp}, a ≠ [] → (conv a b).length + 1 = a.length + b.length
  | [], h => absurd rfl h
  | [x], _ => by
    have : 0 < b.length := List.length_pos_iff.mpr hb
    show (ladd (scl x b) [g0]).length + 1 = _
    rw [ladd_len, scl_len]
    simp
    omega
  | x :: y :: ys, _ => by
    have ih := conv_len hb (a := y :: ys) (by simp)
    have : 0 < b.length := List.length_pos_iff.mpr hb
    show (ladd (scl x b) (g0 :: conv (y :: ys) b)).length + 1 = _
    rw [ladd_len, scl_len]
    simp at ih ⊢
    omega
theorem ladd_shift (a b : List Gp) : ladd (g0 :: a) (g0 :: b) = g0 :: ladd a b := by
  show gadd g0 g0 :: ladd a b = _
  rw [gadd_0]
theorem ladd_swap (a b c d : List Gp) : ladd (ladd a b) (ladd c d) = ladd (ladd a c) (ladd b d) := by
  rw [ladd_assoc, ← ladd_assoc b c d, ladd_comm b c, ladd_assoc c b d, ← ladd_assoc]
theorem conv_ladd : ∀ (a a' b : List Gp), conv (ladd a a') b = ladd (conv a b) (conv a' b)
  | [], a', b => by rw [nil_ladd]; show _ = ladd [] _; rw [nil_ladd]
  | x :: xs, [], b => by rw [ladd_nil]; show _ = ladd _ []; rw [ladd_nil]
  | x :: xs, y :: ys, b => by
    show ladd (scl (gadd x y) b) (g0 :: conv (ladd xs ys) b) = ladd (ladd (scl x b) (g0 :: conv xs b)) (ladd (scl y b) (g0 :: conv ys b))
    rw [conv_ladd xs ys b, scl_add, ladd_swap, ladd_shift]
theorem scl_cons (x y : Gp) (l : List Gp) : scl x (y :: l) = gmul x y :: scl x l := rfl
theorem scl_0 : ∀ l : List Gp, scl g0 l = List.replicate l.length g0
  | [] => rfl
  | x :: xs => by
    show gmul g0 x :: scl g0 xs = g0 :: List.replicate xs.length g0
    rw [g0_mul, scl_0 xs]
theorem ladd_rep : ∀ (n : Nat) (l : List Gp), n ≤ l.length → ladd (List.replicate n g0) l = l
  | 0, l, _ => nil_ladd l
  | n + 1, [], h => by simp at h
  | n + 1, x :: xs, h => by
    show gadd g0 x :: ladd (List.replicate n g0) xs = _
    rw [g0_add, ladd_rep n xs (by simpa using h)]
theorem conv_one (y : Gp) : ∀ {a : List Gp}, a ≠ [] → conv a [y] = scl y a
  | [], h => absurd rfl h
  | [x], _ => by
    show [gadd (gmul x y) g0] = [gmul y x]
    rw [gadd_0, gmul_comm]
  | x :: w :: ws, _ => by
    show ladd [gmul x y] (g0 :: conv (w :: ws) [y]) = gmul y x :: scl y (w :: ws)
    rw [conv_one y (a := w :: ws) (by simp)]
    show gadd (gmul x y) g0 :: ladd [] (scl y (w :: ws)) = _
    rw [gadd_0, gmul_comm, nil_ladd]
theorem conv_snoc (y : Gp) {ys : List Gp} (hy : ys ≠ []) : ∀ {a : List Gp}, a ≠ [] → conv a (y :: ys) = ladd (scl y a) (g0 :: conv a ys)
  | [], h => absurd rfl h
  | [x], _ => by
    cases ys with
    | nil => exact absurd rfl hy
    | cons z zs =>
      show gadd (gmul x y) g0 :: ladd (scl x (z :: zs)) [] = gadd (gmul y x) g0 :: ladd [] (gadd (gmul x z) g0 :: ladd (scl x zs) [])
      rw [gmul_comm, ladd_nil, nil_ladd, gadd_0, gadd_0, ladd_nil]
      rfl
  | x :: w :: ws, _ => by
    have ih := conv_snoc y hy (a := w :: ws) (by simp)
    show ladd (scl x (y :: ys)) (g0 :: conv (w :: ws) (y :: ys)) = ladd (scl y (x :: w :: ws)) (g0 :: ladd (scl x ys) (g0 :: conv (w :: ws) ys))
    rw [ih]
    show gadd (gmul x y) g0 :: ladd (scl x ys) (ladd (scl y (w :: ws)) (g0 :: conv (w :: ws) ys)) = gadd (gmul y x) g0 :: ladd (scl y (w :: ws)) (ladd (scl x ys) (g0 :: conv (w :: ws) ys))
    rw [gmul_comm x y, ← ladd_assoc, ← ladd_assoc, ladd_comm (scl x ys)]
theorem conv_comm : ∀ {a b : List Gp}, a ≠ [] → b ≠ [] → conv a b = conv b a
  | [], _, h, _ => absurd rfl h
  | [x], b, _, hb => by
    rw [conv_one x hb]
    show ladd (scl x b) [g0] = _
    rw [ladd_comm]
    exact ladd_rep 1 _ (by rw [scl_len]; exact List.length_pos_iff.mpr hb)
  | x :: w :: ws, b, _, hb => by
    show ladd (scl x b) (g0 :: conv (w :: ws) b) = _
    rw [conv_comm (a := w :: ws) (b := b) (by simp) hb]
    exact (conv_snoc x (by simp) hb).symm
theorem scl_conv (x : Gp) : ∀ b c : List Gp, conv (scl x b) c = scl x (conv b c)
  | [], c => rfl
  | y :: ys, c => by
    show ladd (scl (gmul x y) c) (g0 :: conv (scl x ys) c) = scl x (ladd (scl y c) (g0 :: conv ys c))
    rw [scl_conv x ys c, scl_ladd, scl_scl]
    show _ = ladd _ (gmul x g0 :: scl x (conv ys c))
    rw [gmul_0]
theorem conv_shift {l c : List Gp} (hl : l ≠ [] ) (hc : c ≠ []) : conv (g0 :: l) c = g0 :: conv l c := by
  show ladd (scl g0 c) (g0 :: conv l c) = _
  rw [scl_0]
  refine ladd_rep _ _ ?_
  have := conv_len hc hl
  have : 0 < l.length := List.length_pos_iff.mpr hl
  simp
  omega
theorem conv_ne {a b : List Gp} (ha : a ≠ []) (hb : b ≠ []) : conv a b ≠ [] := fun h => by
  have := conv_len hb ha
  have : 0 < b.length := List.length_pos_iff.mpr hb
  have : 0 < a.length := List.length_pos_iff.mpr ha
  rw [h] at *
  simp at *
  omega
theorem conv_assoc {b c : List Gp} (hb : b ≠ []) (hc : c ≠ []) : ∀ {a : List Gp}, a ≠ [] → conv (conv a b) c = conv a (conv b c)
  | [], h => absurd rfl h
  | [x], _ => by
    have pb : 0 < b.length := List.length_pos_iff.mpr hb
    have e0 : ∀ l : List Gp, l ≠ [] → ladd l [g0] = l := fun l h => by
      rw [ladd_comm]
      exact ladd_rep 1 l (List.length_pos_iff.mpr h)
    show conv (ladd (scl x b) [g0]) c = ladd (scl x (conv b c)) [g0]
    rw [e0 _ (by simpa [scl] using hb), e0 _ (by simpa [scl] using conv_ne hb hc), scl_conv]
  | x :: y :: ys, _ => by
    have ih := conv_assoc hb hc (a := y :: ys) (by simp)
    show conv (ladd (scl x b) (g0 :: conv (y :: ys) b)) c = ladd (scl x (conv b c)) (g0 :: conv (y :: ys) (conv b c))
    rw [conv_ladd, scl_conv, conv_shift (conv_ne (by simp) hb) hc, ih]
/-- no product of two lines is nothing -/
def allz (l : List Gp) : Prop := ∀ x ∈ l, x = g0
theorem allz_rep : ∀ {l : List Gp}, allz l → l = List.replicate l.length g0
  | [], _ => rfl
  | x :: xs, h => by
    show _ = g0 :: List.replicate xs.length g0
    rw [← allz_rep (l := xs) fun y hy => h y (List.mem_cons_of_mem _ hy), h x List.mem_cons_self]
theorem conv_z : ∀ {a b : List Gp}, a ≠ [] → b ≠ [] → allz (conv a b) → allz a ∨ allz b
  | [], _, h, _, _ => absurd rfl h
  | x :: xs, [], _, h, _ => absurd rfl h
  | x :: xs, y :: ys, _, _, h => by
    by_cases hx : x = g0
    · cases xs with
      | nil => exact .inl fun z hz => by simpa [hx] using hz
      | cons w ws =>
        subst hx
        rw [conv_shift (by simp) (by simp)] at h
        rcases conv_z (a := w :: ws) (b := y :: ys) (by simp) (by simp) (fun z hz => h z (List.mem_cons_of_mem _ hz)) with k | k
        · exact .inl fun z hz => by
            rcases List.mem_cons.mp hz with rfl | hz
            · rfl
            · exact k z hz
        · exact .inr k
    · by_cases hy : y = g0
      · cases ys with
        | nil => exact .inr fun z hz => by simpa [hy] using hz
        | cons w ws =>
          subst hy
          rw [conv_comm (by simp) (by simp), conv_shift (by simp) (by simp)] at h
          rcases conv_z (a := w :: ws) (b := x :: xs) (by simp) (by simp) (fun z hz => h z (List.mem_cons_of_mem _ hz)) with k | k
          · exact .inr fun z hz => by
              rcases List.mem_cons.mp hz with rfl | hz
              · rfl
              · exact k z hz
          · exact .inl k
      · exfalso
        have : gadd (gmul x y) g0 = g0 := h _ (by show _ ∈ gadd (gmul x y) g0 :: _; exact List.mem_cons_self)
        rw [gadd_0] at this
        rcases gmul_eq0 this with k | k
        · exact hx k
        · exact hy k
termination_by a b => a.length + b.length
/-- the loops: products put where they belong -/
def addAt : List Gp → Nat → List Gp → List Gp
  | L, _, [] => L
  | [], _, _ :: _ => []
  | l :: L, 0, v :: vs => gadd l v :: addAt L 0 vs
  | l :: L, j + 1, v :: vs => l :: addAt L j (v :: vs)
theorem addAt_nil (L : List Gp) (j : Nat) : addAt L j [] = L := by cases L <;> cases j <;> rfl
theorem addAt_len : ∀ (L : List Gp) (j : Nat) (vs : List Gp), (addAt L j vs).length = L.length
  | L, j, [] => by rw [addAt_nil]
  | [], _, _ :: _ => rfl
  | l :: L, 0, v :: vs => by
    show (addAt L 0 vs).length + 1 = L.length + 1
    rw [addAt_len L 0 vs]
  | l :: L, j + 1, v :: vs => by
    show (addAt L j (v :: vs)).length + 1 = L.length + 1
    rw [addAt_len L j (v :: vs)]
theorem addAt_snoc (w : Gp) : ∀ (L : List Gp) (j : Nat) (vs : List Gp) (u : Gp), (addAt L j vs)[j + vs.length]? = some u → addAt L j (vs ++ [w]) = (addAt L j vs).set (j + vs.length) (gadd u w)
  | [], j, [], u, h => by rw [addAt_nil] at h; simp at h
  | [], j, _ :: _, u, h => by simp [addAt] at h
  | l :: L, 0, [], u, h => by
    have e : l = u := by simpa [addAt] using h
    subst e
    show gadd l w :: addAt L 0 [] = _
    rw [addAt_nil]
    rfl
  | l :: L, 0, v :: vs, u, h => by
    show gadd l v :: addAt L 0 (vs ++ [w]) = (gadd l v :: addAt L 0 vs).set (0 + (vs.length + 1)) (gadd u w)
    have h' : (addAt L 0 vs)[0 + vs.length]? = some u := by
      have : (gadd l v :: addAt L 0 vs)[0 + (vs.length + 1)]? = some u := h
      simpa using this
    rw [addAt_snoc w L 0 vs u h']
    simp
  | l :: L, j + 1, [], u, h => by
    show l :: addAt L j [w] = (l :: L).set (j + 1 + 0) (gadd u w)
    have h' : (addAt L j [])[j + 0]? = some u := by
      rw [addAt_nil]
      have : (l :: L)[j + 1 + 0]? = some u := h
      simpa using this
    have ih := addAt_snoc w L j [] u h'
    rw [addAt_nil] at ih
    rw [show [w] = [] ++ [w] from rfl, ih]
    rfl
  | l :: L, j + 1, v :: vs, u, h => by
    show l :: addAt L j ((v :: vs) ++ [w]) = (l :: addAt L j (v :: vs)).set (j + 1 + (v :: vs).length) (gadd u w)
    have h' : (addAt L j (v :: vs))[j + (v :: vs).length]? = some u := by
      have : (l :: addAt L j (v :: vs))[j + 1 + (v :: vs).length]? = some u := h
      rw [show j + 1 + (v :: vs).length = j + (v :: vs).length + 1 by omega] at this
      simpa using this
    rw [addAt_snoc w L j (v :: vs) u h', show j + 1 + (v :: vs).length = j + (v :: vs).length + 1 by omega]
    rfl
/-- all products of a list of points at j, j + 1 .. -/
def mulAt : List Gp → Nat → List Gp → List Gp → List Gp
  | L, _, [], _ => L
  | L, j, x :: xs, b => mulAt (addAt L j (scl x b)) (j + 1) xs b
theorem mulAt_len : ∀ (a L : List Gp) (j : Nat) (b : List Gp), (mulAt L j a b).length = L.length
  | [], L, j, b => rfl
  | x :: xs, L, j, b => by
    show (mulAt (addAt L j (scl x b)) (j + 1) xs b).length = _
    rw [mulAt_len, addAt_len]
theorem mulAt_snoc (x : Gp) (b : List Gp) : ∀ (a L : List Gp) (j : Nat), mulAt L j (a ++ [x]) b = addAt (mulAt L j a b) (j + a.length) (scl x b)
  | [], L, j => rfl
  | y :: ys, L, j => by
    show mulAt (addAt L j (scl y b)) (j + 1) (ys ++ [x]) b = addAt (mulAt (addAt L j (scl y b)) (j + 1) ys b) (j + (ys.length + 1)) (scl x b)
    rw [mulAt_snoc x b ys, show j + 1 + ys.length = j + (ys.length + 1) by omega]
theorem addAt_0 : ∀ (L vs : List Gp), vs.length ≤ L.length → addAt L 0 vs = ladd L vs
  | L, [], _ => by rw [addAt_nil, ladd_nil]
  | [], _ :: _, h => by simp at h
  | l :: L, v :: vs, h => by
    show gadd l v :: addAt L 0 vs = gadd l v :: ladd L vs
    rw [addAt_0 L vs (by simpa using h)]
theorem addAt_shift (l : Gp) (L vs : List Gp) (j : Nat) : addAt (l :: L) (j + 1) vs = l :: addAt L j vs := by
  cases vs with
  | nil => rw [addAt_nil, addAt_nil]
  | cons v vs => rfl
theorem mulAt_shift (l : Gp) (b : List Gp) : ∀ (a L : List Gp) (j : Nat), mulAt (l :: L) (j + 1) a b = l :: mulAt L j a b
  | [], L, j => rfl
  | x :: xs, L, j => by
    show mulAt (addAt (l :: L) (j + 1) (scl x b)) (j + 1 + 1) xs b = l :: mulAt (addAt L j (scl x b)) (j + 1) xs b
    rw [addAt_shift, mulAt_shift l b xs]
theorem mulAt_0 {b : List Gp} (hb : b ≠ []) : ∀ (a L : List Gp), a.length + b.length ≤ L.length + 1 → mulAt L 0 a b = ladd L (conv a b)
  | [], L, _ => by show L = ladd L []; rw [ladd_nil]
  | x :: xs, [], h => by
    have : 0 < b.length := List.length_pos_iff.mpr hb
    simp at h
    omega
  | x :: xs, l :: L, h => by
    show mulAt (addAt (l :: L) 0 (scl x b)) (0 + 1) xs b = ladd (l :: L) (ladd (scl x b) (g0 :: conv xs b))
    rw [addAt_0 _ _ (by rw [scl_len]; simp at h ⊢; omega)]
    cases b with
    | nil => exact absurd rfl hb
    | cons y ys =>
      rw [← ladd_assoc]
      show mulAt (gadd l (gmul x y) :: ladd L (scl x ys)) (0 + 1) xs (y :: ys) = gadd (gadd l (gmul x y)) g0 :: ladd (ladd L (scl x ys)) (conv xs (y :: ys))
      rw [mulAt_shift, gadd_0, mulAt_0 hb xs (ladd L (scl x ys)) (by rw [ladd_len, scl_len]; simp at h ⊢; omega)]
theorem mul_conv {a b : List Gp} (ha : a ≠ []) (hb : b ≠ []) : mulAt (List.replicate (a.length + b.length - 1) g0) 0 a b = conv a b := by
  have pa : 0 < a.length := List.length_pos_iff.mpr ha
  have pb : 0 < b.length := List.length_pos_iff.mpr hb
  rw [mulAt_0 hb a _ (by simp; omega)]
  refine ladd_rep _ _ ?_
  have := conv_len hb ha
  omega

/-! ### points and lines of the program -/
def pD (p : Gp) : PyData := .tuple [.int p.1, .int p.2]
def psD (l : List Gp) : List PyData := l.map pD
def itG (l : List Gp) : List Kt.It := (psD l).map It.d
def sm (p : Gp) : Prop := (-2 ^ 64 < p.1 ∧ p.1 < 2 ^ 64) ∧ (-2 ^ 64 < p.2 ∧ p.2 < 2 ^ 64)
theorem psD_len (l : List Gp) : (psD l).length = l.length := by simp [psD]
theorem itG_len (l : List Gp) : (itG l).length = l.length := by simp [itG, psD]
theorem psD_get {l : List Gp} {n : Nat} {p : Gp} (h : l[n]? = some p) : (psD l)[n]? = some (pD p) := by
  unfold psD
  rw [List.getElem?_map, h]
  rfl
theorem itG_at {l : List Gp} {n : Nat} {p : Gp} (h : l[n]? = some p) : atI (itG l) (n : Int) = some (.d (pD p)) := atI_nat (j := n) (by unfold itG; rw [List.getElem?_map, psD_get h]; rfl)
theorem psD_at {l : List Gp} {n : Nat} {p : Gp} (h : l[n]? = some p) : atI (psD l) (n : Int) = some (pD p) := atI_nat (j := n) (psD_get h)
theorem itG_set (l : List Gp) (n : Nat) (p : Gp) : (itG l).set n (.d (pD p)) = itG (l.set n p) := by
  unfold itG psD
  rw [List.map_set, List.map_set]
theorem psD_inv {l : List Gp} {n : Nat} {d : PyData} (h : (psD l)[n]? = some d) : ∃ p, l[n]? = some p ∧ d = pD p := by
  unfold psD at h
  rw [List.getElem?_map] at h
  obtain ⟨p, h1, h2⟩ := Option.map_eq_some_iff.mp h
  exact ⟨p, h1, h2.symm⟩
def CoPlus : Co := fun is M i M' => M = [] ∧ M' = [] ∧ ∃ p q, is = [.d (pD p), .d (pD q)] ∧ i = .d (pD (gadd p q))
def CoTimes : Co := fun is M i M' => M = [] ∧ M' = [] ∧ ∃ p q, is = [.d (pD p), .d (pD q)] ∧ sm p ∧ i = .d (pD (gmul p q))
def CoSm : Co := fun is M i M' => M = [] ∧ M' = [] ∧ ∃ ts ps pp, (pp = .tuple (psD ps) ∨ pp = .list (psD ps)) ∧ is = [.d (.tuple (psD ts)), .d pp] ∧ ts ≠ [] ∧ ps ≠ [] ∧ (∀ t ∈ ts, sm t) ∧ ts.length + ps.length ≤ 1000 ∧ i = .d (.list (psD (conv ps ts)))
theorem take_snoc {α : Type} {l : List α} {m : Nat} {x : α} (h : l[m]? = some x) : l.take (m + 1) = l.take m ++ [x] := by
  rw [List.take_add_one, h]
  rfl
section
variable {P : Program} {w : World} {K : PySem.W.Frag} {mg : Str → Option Value} {base : Heap}
theorem d_plus (T : Txt K mg) : Def P w K mg base "plus" 1 CoPlus := by
  obtain ⟨f, fd, F, hm, hb⟩ := T.f_plus
  refine def_ok F sc_plus hm hb (fun is M i M' h => ?_) fun X hX N is M i M' hF hC => ?_
  · obtain ⟨rfl, rfl, p, q, rfl, _⟩ := h
    exact ⟨rfl, rfl⟩
  · obtain ⟨cdv, A, outer, sh, H, E, rfl, hr⟩ := hX
    obtain ⟨rfl, rfl, p, q, rfl, rfl⟩ := hC
    have a0 : ∀ p : Gp, atI [PyData.int p.1, .int p.2] 0 = some (.int p.1) := fun p => atI_nat (j := 0) rfl
    have a1 : ∀ p : Gp, atI [PyData.int p.1, .int p.2] 1 = some (.int p.2) := fun p => atI_nat (j := 1) rfl
    exact sj_ret (ej_tup (aj_cons (ej_add (ej_ixT (ej_name 0) ej_int (a0 p)) (ej_ixT (ej_name 1) ej_int (a0 q))) (aj_cons (ej_add (ej_ixT (ej_name 0) ej_int (a1 p)) (ej_ixT (ej_name 1) ej_int (a1 q))) aj_nil))) ⟨rfl, [], rfl⟩
theorem d_times (T : Txt K mg) : Def P w K mg base "times" 1 CoTimes := by
  obtain ⟨f, fd, F, hm, hb⟩ := T.f_times
  refine def_ok F sc_times hm hb (fun is M i M' h => ?_) fun X hX N is M i M' hF hC => ?_
  · obtain ⟨rfl, rfl, p, q, rfl, _⟩ := h
    exact ⟨rfl, rfl⟩
  · obtain ⟨cdv, A, outer, sh, H, E, rfl, hr⟩ := hX
    obtain ⟨rfl, rfl, p, q, rfl, hs, rfl⟩ := hC
    have a0 : ∀ p : Gp, atI [PyData.int p.1, .int p.2] 0 = some (.int p.1) := fun p => atI_nat (j := 0) rfl
    have a1 : ∀ p : Gp, atI [PyData.int p.1, .int p.2] 1 = some (.int p.2) := fun p => atI_nat (j := 1) rfl
    exact sj_ret (ej_tup (aj_cons (ej_sub (ej_mul (ej_ixT (ej_name 0) ej_int (a0 p)) (ej_ixT (ej_name 1) ej_int (a0 q)) (.inl hs.1)) (ej_mul (ej_ixT (ej_name 0) ej_int (a1 p)) (ej_ixT (ej_name 1) ej_int (a1 q)) (.inl hs.2))) (aj_cons (ej_add (ej_mul (ej_ixT (ej_name 0) ej_int (a0 p)) (ej_ixT (ej_name 1) ej_int (a1 q)) (.inl hs.1)) (ej_mul (ej_ixT (ej_name 0) ej_int (a1 p)) (ej_ixT (ej_name 1) ej_int (a0 q)) (.inl hs.2))) aj_nil))) ⟨rfl, [], rfl⟩
theorem d_smeared (T : Txt K mg) : Def P w K mg base "smeared" 2 CoSm := by
  obtain ⟨f, fd, F, hm, hb⟩ := T.f_smeared
  have G1 := d_plus (P := P) (w := w) (base := base) T
  have G2 := d_times (P := P) (w := w) (base := base) T
  refine def_ok F sc_smeared hm hb (fun is M i M' h => ?_) fun X hX N is M i M' hF hC => ?_
  · obtain ⟨rfl, rfl, ts, ps, pp, _, rfl, _⟩ := h
    exact ⟨rfl, rfl⟩
  · obtain ⟨cdv, A, outer, sh, H, E, rfl, hr⟩ := hX
    obtain ⟨rfl, rfl, ts, ps, pp, hpp, rfl, ht, hp, hsm, hz, rfl⟩ := hC
    have nd := sc_smeared.nd
    have hr1 : Room 1 (A.deeper (envOfC "smeared" (defScope s_smeared) sh.heap.objs.size f cdv)) := hr.mono (by decide)
    have pt : 0 < ts.length := List.length_pos_iff.mpr ht
    have pq : 0 < ps.length := List.length_pos_iff.mpr hp
    have Zl : ((List.replicate ((((ts.length : Nat) : Int) + ((ps.length : Nat) : Int) - 1)).toNat [pD g0]).flatten).map It.d = itG (List.replicate (ps.length + ts.length - 1) g0) := by
      have e : (((ts.length : Nat) : Int) + ((ps.length : Nat) : Int) - 1).toNat = ps.length + ts.length - 1 := by omega
      rw [e]
      unfold itG psD
      congr 1
      generalize ps.length + ts.length - 1 = n
      induction n with
      | zero => rfl
      | succ n ih =>
        rw [List.replicate_succ, List.replicate_succ, List.flatten_cons, ih]
        rfl
    refine sj_own (M1 := []) 2 nd (el_rep (ds := [pD g0]) (n := ((ts.length : Nat) : Int) + ((ps.length : Nat) : Int) - 1) (ej_el (el_disp (aj_cons (ej_tup (aj_cons ej_int (aj_cons ej_int aj_nil))) aj_nil)) rfl) (ej_sub (ej_add (ej_is (ej_lenT (ds := psD ts) T.b_len (ej_name 0)) (congrArg (fun n : Nat => dI (n : Int)) (psD_len ts))) ?hlen) ej_int) (by omega) (by omega) (by simp; omega)) fun p hpF => ?_
    case hlen =>
      rcases hpp with rfl | rfl
      · exact ej_is (ej_lenT (ds := psD ps) T.b_len (ej_name 1)) (congrArg (fun n : Nat => dI (n : Int)) (psD_len ps))
      · exact ej_is (ej_lenL (ds := psD ps) T.b_len (ej_name 1)) (congrArg (fun n : Nat => dI (n : Int)) (psD_len ps))
    rw [Zl]
    refine sj_forW (ds := enumD (psD ps)) (M1 := [(p, itG (List.replicate (ps.length + ts.length - 1) g0))]) rfl ?hit (fun j ρ M => ∃ y1 y2 y3 y4, ρ = [some (.d (.tuple (psD ts))), some (.d pp), some (.v (.ref p)), y1, y2, y3, y4] ∧ M = [(p, itG (mulAt (List.replicate (ps.length + ts.length - 1) g0) 0 (ps.take j) ts))]) ⟨none, none, none, none, rfl, rfl⟩ (fun j d ρ M hd hI => ?_) fun ρ M hI => ?_
    case hit =>
      rcases hpp with rfl | rfl
      · exact iw_enumT T.b_enumerate (ej_name 1)
      · exact iw_enumL T.b_enumerate (ej_name 1)
    · obtain ⟨y1, y2, y3, y4, rfl, rfl⟩ := hI
      obtain ⟨x, hx, rfl⟩ := enumD_inv hd
      obtain ⟨pt0, hp0, rfl⟩ := psD_inv hx
      have jl : j < ps.length := (List.getElem?_eq_some_iff.mp hp0).1
      refine ⟨_, gj_tup rfl (gs_cons 3 nd (gs_cons 4 nd gs_nil)), ?_⟩
      generalize hL : mulAt (List.replicate (ps.length + ts.length - 1) g0) 0 (ps.take j) ts = L
      have hLl : L.length = ps.length + ts.length - 1 := by rw [← hL, mulAt_len, List.length_replicate]
      refine sj_forW (ds := enumD (psD ts)) rfl (iw_enumT T.b_enumerate (ej_name 0)) (fun k ρ M => ∃ y3 y4, ρ = [some (.d (.tuple (psD ts))), some (.d pp), some (.v (.ref p)), some (dI (j : Int)), some (.d (pD pt0)), y3, y4] ∧ M = [(p, itG (addAt L j (scl pt0 (ts.take k))))]) ⟨y3, y4, rfl, by rw [List.take_zero]; show _ = [(p, itG (addAt L j []))]; rw [addAt_nil]⟩ (fun k d ρ M hd hI => ?_) fun ρ M hI => ?_
      · obtain ⟨y3, y4, rfl, rfl⟩ := hI
        obtain ⟨x, hx, rfl⟩ := enumD_inv hd
        obtain ⟨t0, ht0, rfl⟩ := psD_inv hx
        have kl : k < ts.length := (List.getElem?_eq_some_iff.mp ht0).1
        refine ⟨_, gj_tup rfl (gs_cons 5 nd (gs_cons 6 nd gs_nil)), ?_⟩
        have tl : (scl pt0 (ts.take k)).length = k := by rw [scl_len, List.length_take]; omega
        generalize hL2 : addAt L j (scl pt0 (ts.take k)) = L2
        have hL2l : L2.length = ps.length + ts.length - 1 := by rw [← hL2, addAt_len, hLl]
        have hix : j + k < L2.length := by omega
        obtain ⟨u, hu⟩ : ∃ u, L2[j + k]? = some u := ⟨_, List.getElem?_eq_getElem hix⟩
        have eix : ((j : Int) + (k : Int)) = ((j + k : Nat) : Int) := by omega
        refine sj_setO (p := p) (n := j + k) (ej_callP G1 hr1 (aj_cons (ej_ixO (ej_name 2) (ej_is (ej_add (ej_name 3) (ej_name 5)) (congrArg (fun z => dI z) eix)) (List.mem_singleton.mpr rfl) (itG_at hu)) (aj_cons (ej_callP G2 hr1 (aj_cons (ej_name 6) (aj_cons (ej_name 4) aj_nil)) ⟨rfl, rfl, t0, pt0, rfl, hsm t0 (List.mem_of_getElem? ht0), rfl⟩) aj_nil)) ⟨rfl, rfl, u, gmul t0 pt0, rfl, rfl⟩) (ej_name 2) (ej_is (ej_add (ej_name 3) (ej_name 5)) (congrArg (fun z => dI z) eix)) (List.mem_singleton.mpr rfl) (by rw [itG_len]; exact hix) (sj_nil ⟨_, _, rfl, ?_⟩)
        rw [itG_set]
        have e1 : addAt L j (scl pt0 (ts.take (k + 1))) = L2.set (j + k) (gadd u (gmul t0 pt0)) := by
          have e2 : scl pt0 (ts.take (k + 1)) = scl pt0 (ts.take k) ++ [gmul pt0 t0] := by
            rw [take_snoc ht0]
            unfold scl
            rw [List.map_append]
            rfl
          rw [e2, addAt_snoc _ L j _ u (by rw [hL2, tl]; exact hu), hL2, tl, gmul_comm]
        rw [e1]
        simp [Mem.put]
      · obtain ⟨y3, y4, rfl, rfl⟩ := hI
        refine sj_nil ⟨_, _, _, _, rfl, ?_⟩
        rw [take_snoc hp0, mulAt_snoc, hL, enumD_len, psD_len, List.take_length]
        have : 0 + (ps.take j).length = j := by rw [List.length_take]; omega
        rw [this]
    · obtain ⟨y1, y2, y3, y4, rfl, rfl⟩ := hI
      rw [enumD_len, psD_len, List.take_length, mul_conv hp ht]
      refine sj_freeze 2 (p := p) (ds := psD (conv ps ts)) rfl (List.mem_singleton.mpr rfl) hpF ?_
      exact sj_ret (ej_name 2) ⟨rfl, [], by simp⟩
end

/-! ### a drawn item of a list -/
def pkD (cs : List Int) (s : Int) (ds : List PyData) : PyData := ds.getD (drw cs s (ds.length : Int)).1.toNat .none
theorem pk_mem {cs : List Int} {s : Int} {ds : List PyData} (h : ds ≠ []) : pkD cs s ds ∈ ds := by
  have p : 0 < ds.length := List.length_pos_iff.mpr h
  have h0 := drw_lo (many := (ds.length : Int)) cs s (by omega)
  have h1 := drw_hi (many := (ds.length : Int)) cs s (by omega)
  unfold pkD
  rw [List.getD_eq_getElem?_getD, List.getElem?_eq_getElem (by omega)]
  exact List.getElem_mem _
def CoPick : Co := fun is M i M' => ∃ (a c : Addr) (cs : List Int) (s : Int) (ds : List PyData), is = [.v (.ref a), .d (.list ds)] ∧ M = Stt a c cs s ∧ ds ≠ [] ∧ ds.length ≤ 100000 ∧ cs.length ≤ 63 ∧ i = .d (pkD cs s ds) ∧ M' = Stt a c (drw cs s (ds.length : Int)).2.1 (drw cs s (ds.length : Int)).2.2
section
variable {P : Program} {w : World} {K : PySem.W.Frag} {mg : Str → Option Value} {base : Heap}
theorem d_law_pick (T : Txt K mg) : Def P w K mg base "_law_pick" 2 CoPick := by
  obtain ⟨f, fd, F, hm, hb⟩ := T.f_law_pick
  have GD := d_law_draw (P := P) (w := w) (base := base) T
  refine def_ok F sc_law_pick hm hb (fun is M i M' h => ?_) fun X hX N is M i M' hF hC => ?_
  · obtain ⟨a, c, cs, s, ds, rfl, rfl, _, _, _, _, rfl⟩ := h
    exact ⟨rfl, rfl⟩
  · obtain ⟨cdv, A, outer, s0, H, E, rfl, hr⟩ := hX
    obtain ⟨a, c, cs, s, ds, rfl, rfl, hne, hz, hl, rfl, rfl⟩ := hC
    have p : 0 < ds.length := List.length_pos_iff.mpr hne
    have h0 := drw_lo (many := (ds.length : Int)) cs s (by omega)
    have h1 := drw_hi (many := (ds.length : Int)) cs s (by omega)
    have hx : atI ds (drw cs s (ds.length : Int)).1 = some (pkD cs s ds) := at_of0 h0 (by
      unfold pkD
      rw [List.getD_eq_getElem?_getD, List.getElem?_eq_getElem (by omega)]
      rfl)
    exact sj_ret (ej_ixL (ds := ds) (ej_name 1) (ej_draw GD hr (Mr := []) (many := (ds.length : Int)) (ej_name 0) (ej_lenL (ds := ds) T.b_len (ej_name 1)) (by omega) (by omega) hl) hx) ⟨rfl, [], by simp [Stt]⟩
theorem ej_pick {X : Cx} {N : Ent} {ρ : Rho} {e1 e2 : Expr} {p q : Pos} (F : Def X.prog X.w X.K X.mg X.base "_law_pick" 2 CoPick) (hr : Room 2 X.A) {a c : Addr} {cs cs' : List Int} {s s' : Int} {ds : List PyData} {Mr : Mem} (h1 : EJ X N ρ (Stt a c cs s ++ Mr) e1 (.v (.ref a)) (Stt a c cs s ++ Mr)) (h2 : EJ X N ρ (Stt a c cs s ++ Mr) e2 (.d (.list ds)) (Stt a c cs' s' ++ Mr)) (hne : ds ≠ []) (hz : ds.length ≤ 100000) (hl : cs'.length ≤ 63)
    (hg : Gl X "_law_pick" := by rfl) (he : starEach [e1, e2] X.env = (false, eval e1 X.env) :: starEach [e2] X.env := by rfl) (he2 : starEach [e2] X.env = [(false, eval e2 X.env)] := by rfl) (hpl : (backTo q (starEach [e2] X.env)).any (·.1) = false := by rfl) :
    EJ X N ρ (Stt a c cs s ++ Mr) (.Call (.Name "_law_pick" p) [e1, e2] [] q) (.d (pkD cs' s' ds)) (Stt a c (drw cs' s' (ds.length : Int)).2.1 (drw cs' s' (ds.length : Int)).2.2 ++ Mr) :=
  ej_call F hr (aj_cons h1 (aj_cons h2 aj_nil he2) he) (Mc := Stt a c cs' s') rfl ⟨a, c, cs', s', ds, rfl, rfl, hne, hz, hl, rfl, rfl⟩ rfl hg (by decide) he hpl
end

/-! ### small helps -/
def pkI (cs : List Int) (s : Int) (ns : List Int) : Int := ns.getD (drw cs s (ns.length : Int)).1.toNat 0
theorem pkI_mem {cs : List Int} {s : Int} {ns : List Int} (h : ns ≠ []) : pkI cs s ns ∈ ns := by
  have p : 0 < ns.length := List.length_pos_iff.mpr h
  have h0 := drw_lo (many := (ns.length : Int)) cs s (by omega)
  have h1 := drw_hi (many := (ns.length : Int)) cs s (by omega)
  unfold pkI
  rw [List.getD_eq_getElem?_getD, List.getElem?_eq_getElem (by omega)]
  exact List.getElem_mem _
theorem pkI_eq {cs : List Int} {s : Int} {ns : List Int} (h : ns ≠ []) : pkD cs s (ns.map .int) = .int (pkI cs s ns) := by
  have p : 0 < ns.length := List.length_pos_iff.mpr h
  have h0 := drw_lo (many := (ns.length : Int)) cs s (by omega)
  have h1 := drw_hi (many := (ns.length : Int)) cs s (by omega)
  unfold pkD pkI
  rw [List.length_map, List.getD_eq_getElem?_getD, List.getD_eq_getElem?_getD, List.getElem?_map, List.getElem?_eq_getElem (by omega)]
  rfl
theorem sj_frzT {X : Cx} {N : Ent} {ρ : Rho} {sts : List Stmt} {Z : Post} {Mb : Mem} {q : Addr} {ds : List PyData} (n : Nat) (hρ : ρ[n]? = some (some (.v (.ref q)))) (hF : q ∉ N.F) (hr : SJ X N (ρ.set n (some (.d (.list ds)))) Mb sts Z) : SJ X N ρ (Mb ++ [(q, ds.map It.d)]) sts Z :=
  sj_nd fun hne => sj_freeze n (p := q) (ds := ds) hρ (List.mem_append_right _ (List.mem_singleton.mpr rfl)) hF (by
    rw [filter_last hne]
    exact hr)
theorem put_none {p : Addr} {X : List Kt.It} : ∀ {M : Mem}, p ∉ M.map Prod.fst → M.put p X = M
  | [], _ => rfl
  | c :: r, h => by
    have h1 : c.1 ≠ p := fun e => h (e ▸ List.mem_cons_self)
    have h2 := put_none (X := X) (M := r) fun e => h (List.mem_cons_of_mem _ e)
    unfold Mem.put at h2 ⊢
    rw [List.map_cons, h2, if_neg h1]
theorem put_end {M : Mem} {p : Addr} {A B : List Kt.It} (nd : ((M ++ [(p, A)]).map Prod.fst).Nodup) : (M ++ [(p, A)]).put p B = M ++ [(p, B)] := put_last nd

def lnD (ts : List Gp) : PyData := .tuple [.str "line", .tuple (psD ts)]
def CoSent : Co := fun is M i M' => M = [] ∧ M' = [] ∧ ∃ ts ps, is = [.d (lnD ts), .d (.list (psD ps))] ∧ ts ≠ [] ∧ (∀ t ∈ ts, sm t) ∧ ts.length + ps.length ≤ 1000 ∧ i = .d (.list (psD (conv ps ts)))
theorem eqv_pt (a b c d : Int) : PyData.eqv (.tuple [.int a, .int b]) (.tuple [.int c, .int d]) = (decide (a = c) && decide (b = d)) := by
  simp [PyData.eqv, PyData.eqvAll]
  rfl
theorem pn_pt (a b : Int) : PN 1 (.tuple [.int a, .int b]) := .tup _ fun x hx => by
  simp only [List.mem_cons, List.not_mem_nil, or_false] at hx
  rcases hx with rfl | rfl <;> exact .int _
section
variable {P : Program} {w : World} {K : PySem.W.Frag} {mg : Str → Option Value} {base : Heap}
theorem d_sent (T : Txt K mg) : Def P w K mg base "sent" 3 CoSent := by
  obtain ⟨f, fd, F, hm, hb⟩ := T.f_sent
  have G1 := d_smeared (P := P) (w := w) (base := base) T
  refine def_ok F sc_sent hm hb (fun is M i M' h => ?_) fun X hX N is M i M' hF hC => ?_
  · obtain ⟨rfl, rfl, ts, ps, rfl, _⟩ := h
    exact ⟨rfl, rfl⟩
  · obtain ⟨cdv, A, outer, sh, H, E, rfl, hr⟩ := hX
    obtain ⟨rfl, rfl, ts, ps, rfl, ht, hs, hz, rfl⟩ := hC
    refine sj_if (tj_eqI (ej_lenL (ds := psD ps) T.b_len (ej_name 1)) ej_int) (fun h => ?_) fun h => sj_nil ?_
    · have h0 : ps = [] := by
        have := of_decide_eq_true h
        rw [psD_len] at this
        exact List.length_eq_zero_iff.mp (by omega)
      subst h0
      exact sj_ret (ej_el (ds := []) (el_disp aj_nil) rfl) ⟨rfl, [], rfl⟩
    · have h0 : ps ≠ [] := fun e => by
        subst e
        simp [psD] at h
      exact sj_ret (ej_callP G1 hr (aj_cons (ej_ixT (ds := [.str "line", .tuple (psD ts)]) (ej_name 0) ej_int (atI_nat (j := 1) rfl)) (aj_cons (ej_name 1) aj_nil)) ⟨rfl, rfl, ts, ps, _, .inr rfl, rfl, ht, h0, hs, hz, rfl⟩) ⟨rfl, [], rfl⟩
end

def gsub (p q : Gp) : Gp := (p.1 - q.1, p.2 - q.2)
def szG (p : Gp) : Int := p.1 * p.1 + p.2 * p.2
def optD : Option Gp → PyData
  | none => .none
  | some p => pD p
def osD (l : List (Option Gp)) : List PyData := l.map optD
def CoMinus : Co := fun is M i M' => M = [] ∧ M' = [] ∧ ∃ p q, is = [.d (pD p), .d (pD q)] ∧ i = .d (pD (gsub p q))
def CoSize : Co := fun is M i M' => M = [] ∧ M' = [] ∧ ∃ p, is = [.d (pD p)] ∧ sm p ∧ i = dI (szG p)
section
variable {P : Program} {w : World} {K : PySem.W.Frag} {mg : Str → Option Value} {base : Heap}
theorem d_minus (T : Txt K mg) : Def P w K mg base "minus" 1 CoMinus := by
  obtain ⟨f, fd, F, hm, hb⟩ := T.f_minus
  refine def_ok F sc_minus hm hb (fun is M i M' h => ?_) fun X hX N is M i M' hF hC => ?_
  · obtain ⟨rfl, rfl, p, q, rfl, _⟩ := h
    exact ⟨rfl, rfl⟩
  · obtain ⟨cdv, A, outer, sh, H, E, rfl, hr⟩ := hX
    obtain ⟨rfl, rfl, p, q, rfl, rfl⟩ := hC
    have a0 : ∀ p : Gp, atI [PyData.int p.1, .int p.2] 0 = some (.int p.1) := fun p => atI_nat (j := 0) rfl
    have a1 : ∀ p : Gp, atI [PyData.int p.1, .int p.2] 1 = some (.int p.2) := fun p => atI_nat (j := 1) rfl
    exact sj_ret (ej_tup (aj_cons (ej_sub (ej_ixT (ej_name 0) ej_int (a0 p)) (ej_ixT (ej_name 1) ej_int (a0 q))) (aj_cons (ej_sub (ej_ixT (ej_name 0) ej_int (a1 p)) (ej_ixT (ej_name 1) ej_int (a1 q))) aj_nil))) ⟨rfl, [], rfl⟩
theorem d_size (T : Txt K mg) : Def P w K mg base "size" 1 CoSize := by
  obtain ⟨f, fd, F, hm, hb⟩ := T.f_size
  refine def_ok F sc_size hm hb (fun is M i M' h => ?_) fun X hX N is M i M' hF hC => ?_
  · obtain ⟨rfl, rfl, p, rfl, _⟩ := h
    exact ⟨rfl, rfl⟩
  · obtain ⟨cdv, A, outer, sh, H, E, rfl, hr⟩ := hX
    obtain ⟨rfl, rfl, p, rfl, hs, rfl⟩ := hC
    have a0 : atI [PyData.int p.1, .int p.2] 0 = some (.int p.1) := atI_nat (j := 0) rfl
    have a1 : atI [PyData.int p.1, .int p.2] 1 = some (.int p.2) := atI_nat (j := 1) rfl
    exact sj_ret (ej_add (ej_mul (ej_ixT (ej_name 0) ej_int a0) (ej_ixT (ej_name 0) ej_int a0) (.inl hs.1)) (ej_mul (ej_ixT (ej_name 0) ej_int a1) (ej_ixT (ej_name 0) ej_int a1) (.inl hs.2))) ⟨rfl, [], rfl⟩
end

/-! ### openings: what they are -/
def rt4 (t : Nat) (p : Gp) : Gp := match t with
  | 0 => p
  | 1 => (-p.2, p.1)
  | 2 => (-p.1, -p.2)
  | _ => (p.2, -p.1)
def tolG (o ts : List Gp) (t : Nat) : List Gp := (conv o ts).map (rt4 t)
def shpG (o ts : List Gp) (t : Nat) : List Gp := (tolG o ts t).take o.length
def bdG (B : Int) (p : Gp) : Prop := (-B ≤ p.1 ∧ p.1 ≤ B) ∧ (-B ≤ p.2 ∧ p.2 ≤ B)
theorem bdG.mono {A B : Int} {p : Gp} (h : bdG A p) (hab : A ≤ B) : bdG B p := by
  obtain ⟨⟨a, b⟩, c, d⟩ := h
  exact ⟨⟨by omega, by omega⟩, by omega, by omega⟩
theorem bdG.sm {B : Int} {p : Gp} (h : bdG B p) (hb : B < 18446744073709551616) : sm p := by
  obtain ⟨⟨a, b⟩, c, d⟩ := h
  exact ⟨⟨by omega, by omega⟩, by omega, by omega⟩
theorem bd0 {B : Int} (h : 0 ≤ B) : bdG B g0 := ⟨⟨by show -B ≤ 0; omega, h⟩, by show -B ≤ 0; omega, h⟩
theorem bd_rt {B : Int} {p : Gp} (h : bdG B p) : ∀ t, bdG B (rt4 t p)
  | 0 => h
  | 1 => by
    obtain ⟨⟨a, b⟩, c, d⟩ := h
    exact ⟨⟨by show -B ≤ -p.2; omega, by show -p.2 ≤ B; omega⟩, a, b⟩
  | 2 => by
    obtain ⟨⟨a, b⟩, c, d⟩ := h
    exact ⟨⟨by show -B ≤ -p.1; omega, by show -p.1 ≤ B; omega⟩, by show -B ≤ -p.2; omega, by show -p.2 ≤ B; omega⟩
  | _ + 3 => by
    obtain ⟨⟨a, b⟩, c, d⟩ := h
    exact ⟨⟨c, d⟩, by show -B ≤ -p.1; omega, by show -p.1 ≤ B; omega⟩
theorem abs_mul {A B x y : Int} (hx : -A ≤ x ∧ x ≤ A) (hy : -B ≤ y ∧ y ≤ B) : -(A * B) ≤ x * y ∧ x * y ≤ A * B := by
  have h1 : x.natAbs ≤ A.natAbs := by omega
  have h2 : y.natAbs ≤ B.natAbs := by omega
  have h3 : (x * y).natAbs ≤ (A * B).natAbs := by
    rw [Int.natAbs_mul, Int.natAbs_mul]
    exact Nat.mul_le_mul h1 h2
  have h4 : 0 ≤ A * B := Int.mul_nonneg (by omega) (by omega)
  omega
theorem bd_mul {A B : Int} {p q : Gp} (hp : bdG A p) (hq : bdG B q) : bdG (2 * (A * B)) (gmul p q) := by
  obtain ⟨a, c⟩ := hp
  obtain ⟨e, g⟩ := hq
  have k1 := abs_mul a e
  have k2 := abs_mul c g
  have k3 := abs_mul a g
  have k4 := abs_mul c e
  exact ⟨⟨by show _ ≤ p.1 * q.1 - p.2 * q.2; omega, by show p.1 * q.1 - p.2 * q.2 ≤ _; omega⟩, by show _ ≤ p.1 * q.2 + p.2 * q.1; omega, by show p.1 * q.2 + p.2 * q.1 ≤ _; omega⟩
theorem bd_add {A B : Int} {p q : Gp} (hp : bdG A p) (hq : bdG B q) : bdG (A + B) (gadd p q) := by
  obtain ⟨⟨a, b⟩, c, d⟩ := hp
  obtain ⟨⟨e, f⟩, g, h⟩ := hq
  exact ⟨⟨by show _ ≤ p.1 + q.1; omega, by show p.1 + q.1 ≤ _; omega⟩, by show _ ≤ p.2 + q.2; omega, by show p.2 + q.2 ≤ _; omega⟩
theorem bd_sub {A B : Int} {p q : Gp} (hp : bdG A p) (hq : bdG B q) : bdG (A + B) (gsub p q) := by
  obtain ⟨⟨a, b⟩, c, d⟩ := hp
  obtain ⟨⟨e, f⟩, g, h⟩ := hq
  exact ⟨⟨by show _ ≤ p.1 - q.1; omega, by show p.1 - q.1 ≤ _; omega⟩, by show _ ≤ p.2 - q.2; omega, by show p.2 - q.2 ≤ _; omega⟩
theorem bd_ladd {A B : Int} (hA : 0 ≤ A) (hB : 0 ≤ B) : ∀ {a b : List Gp}, (∀ p ∈ a, bdG A p) → (∀ p ∈ b, bdG B p) → ∀ p ∈ ladd a b, bdG (A + B) p
  | [], b, _, hb, p, hp => by
    rw [nil_ladd] at hp
    exact (hb p hp).mono (by omega)
  | x :: a, [], ha, _, p, hp => by
    rw [ladd_nil] at hp
    exact (ha p hp).mono (by omega)
  | x :: a, y :: b, ha, hb, p, hp => by
    rcases List.mem_cons.mp (show p ∈ gadd x y :: ladd a b from hp) with rfl | hp
    · exact bd_add (ha x List.mem_cons_self) (hb y List.mem_cons_self)
    · exact bd_ladd hA hB (fun p h => ha p (List.mem_cons_of_mem _ h)) (fun p h => hb p (List.mem_cons_of_mem _ h)) p hp
theorem bd_conv {A B : Int} (hA : 0 ≤ A) (hB : 0 ≤ B) : ∀ {a b : List Gp}, (∀ p ∈ a, bdG A p) → (∀ p ∈ b, bdG B p) → ∀ p ∈ conv a b, bdG ((a.length : Int) * (2 * (A * B))) p
  | [], b, _, _, p, hp => absurd hp (by unfold conv; exact List.not_mem_nil)
  | x :: a, b, ha, hb, p, hp => by
    have hp : p ∈ ladd (scl x b) (g0 :: conv a b) := hp
    have ih := bd_conv hA hB (a := a) (fun p h => ha p (List.mem_cons_of_mem _ h)) hb
    have AB : 0 ≤ A * B := Int.mul_nonneg hA hB
    have n0 : 0 ≤ ((a.length : Nat) : Int) * (2 * (A * B)) := Int.mul_nonneg (by omega) (by omega)
    refine (bd_ladd (A := 2 * (A * B)) (B := ((a.length : Nat) : Int) * (2 * (A * B))) (by omega) n0 (fun q hq => ?_) (fun q hq => ?_) p hp).mono ?_
    · unfold scl at hq
      obtain ⟨y, hy, rfl⟩ := List.mem_map.mp hq
      exact bd_mul (ha x List.mem_cons_self) (hb y hy)
    · rcases List.mem_cons.mp hq with rfl | hq
      · exact bd0 n0
      · exact ih q hq
    · rw [show (((x :: a).length : Nat) : Int) = ((a.length : Nat) : Int) + 1 by rw [List.length_cons]; omega, Int.add_mul, Int.one_mul]
      omega
/-- lines, openings as they are drawn -/
structure LnOk (B : Int) (ts : List Gp) : Prop where
  ne : ts ≠ []
  le : ts.length ≤ 4
  bd : ∀ t ∈ ts, bdG B t
structure OpOk (B : Int) (o : List Gp) : Prop where
  ne : o ≠ []
  le : o.length ≤ 64
  bd : ∀ t ∈ o, bdG B t
theorem tol_len {o ts : List Gp} (ho : o ≠ []) (ht : ts ≠ []) (t : Nat) : (tolG o ts t).length + 1 = o.length + ts.length := by
  unfold tolG
  rw [List.length_map]
  exact conv_len ht ho
theorem shp_len {o ts : List Gp} (ho : o ≠ []) (ht : ts ≠ []) (t : Nat) : (shpG o ts t).length = o.length := by
  have := tol_len ho ht t
  have : 1 ≤ ts.length := List.length_pos_iff.mpr ht
  unfold shpG
  rw [List.length_take]
  omega
theorem tol_bd {A B : Int} {o ts : List Gp} (hA : 0 ≤ A) (hB : 0 ≤ B) (O : OpOk A o) (L : LnOk B ts) (t : Nat) : ∀ p ∈ tolG o ts t, bdG (128 * (A * B)) p := fun p hp => by
  unfold tolG at hp
  obtain ⟨q, hq, rfl⟩ := List.mem_map.mp hp
  have AB : 0 ≤ A * B := Int.mul_nonneg hA hB
  refine bd_rt ((bd_conv hA hB O.bd L.bd q hq).mono ?_) t
  have h64 := O.le
  have : (o.length : Int) * (2 * (A * B)) ≤ 64 * (2 * (A * B)) := Int.mul_le_mul_of_nonneg_right (by omega) (by omega)
  omega
/-- the cost of a shape along samples -/
def cstG (p : Gp) (s : Option Gp) : Int := match s with
  | none => 0
  | some s => szG (gsub p s)
def csL (row : List Gp) (ss : List (Option Gp)) : List Int := List.zipWith cstG row ss
def arrG (o ts : List Gp) (place t slack : Nat) : List Gp := (List.replicate place g0 ++ tolG o ts t ++ List.replicate slack g0).take (slack + o.length)
def gsD (place t n : Nat) : PyData := .tuple [.int (place : Int), .int (t : Int), .int (n : Int)]
def opD (o : List Gp) : PyData := .tuple (psD o)
def lnsD (ls : List (List Gp)) : List PyData := ls.map lnD
theorem rep_ps (n : Nat) : (List.replicate n [pD g0]).flatten = psD (List.replicate n g0) := by
  unfold psD
  induction n with
  | zero => rfl
  | succ n ih => rw [List.replicate_succ, List.replicate_succ, List.flatten_cons, ih]; rfl
def CoTn : Co := fun is M i M' => M = [] ∧ M' = [] ∧ ∃ (p : Gp) (t : Nat), is = [.d (pD p), dI (t : Int)] ∧ t ≤ 3 ∧ i = .d (pD (rt4 t p))
def CoTold : Co := fun is M i M' => M = [] ∧ M' = [] ∧ ∃ (B : Int) (o ts : List Gp) (t : Nat), is = [.d (opD o), .d (lnD ts), dI (t : Int)] ∧ t ≤ 3 ∧ o ≠ [] ∧ o.length ≤ 64 ∧ LnOk B ts ∧ B ≤ 1000 ∧ i = .d (.list (psD (tolG o ts t)))
def CoShp : Co := fun is M i M' => M = [] ∧ M' = [] ∧ ∃ (B : Int) (o ts : List Gp) (t : Nat), is = [.d (opD o), .d (lnD ts), dI (t : Int)] ∧ t ≤ 3 ∧ o ≠ [] ∧ o.length ≤ 64 ∧ LnOk B ts ∧ B ≤ 1000 ∧ i = .d (.list (psD (shpG o ts t)))
def CoCsa : Co := fun is M i M' => M = [] ∧ M' = [] ∧ ∃ (row : List Gp) (place : Nat) (ss : List (Option Gp)), is = [.d (.list (psD row)), dI (place : Int), .d (.list (osD ss))] ∧ place ≤ ss.length ∧ row.length ≤ 1000 ∧ (∀ p ∈ row, ∀ s, some s ∈ ss → sm (gsub p s)) ∧ i = dI (csL row (ss.drop place)).sum
section
variable {P : Program} {w : World} {K : PySem.W.Frag} {mg : Str → Option Value} {base : Heap}
theorem osD_len (l : List (Option Gp)) : (osD l).length = l.length := by simp [osD]
theorem d_turned (T : Txt K mg) : Def P w K mg base "turned" 1 CoTn := by
  obtain ⟨f, fd, F, hm, hb⟩ := T.f_turned
  refine def_ok F sc_turned hm hb (fun is M i M' h => ?_) fun X hX N is M i M' hF hC => ?_
  · obtain ⟨rfl, rfl, p, t, rfl, _⟩ := h
    exact ⟨rfl, rfl⟩
  · obtain ⟨cdv, A, outer, sh, H, E, rfl, hr⟩ := hX
    obtain ⟨rfl, rfl, p, t, rfl, ht, rfl⟩ := hC
    have nd := sc_turned.nd
    obtain ⟨x, y⟩ := p
    have ix : atI [PyData.tuple [.int x, .int y], .tuple [.int (-y), .int x], .tuple [.int (-x), .int (-y)], .tuple [.int y, .int (-x)]] (t : Int) = some (pD (rt4 t (x, y))) := by
      match t, ht with
      | 0, _ => rfl
      | 1, _ => rfl
      | 2, _ => rfl
      | 3, _ => rfl
    refine sj_asgG (i := .d (.tuple [.int x, .int y])) (M1 := []) (ej_name 0) (gj_tup (ds := [.int x, .int y]) rfl (gs_cons 2 nd (gs_cons 3 nd gs_nil))) ?_
    exact sj_ret (ej_ixT (n := (t : Int)) (jt4 (jt2 (ej_name 2) (ej_name 3)) (jt2 (A := .int (-y)) (ej_neg (n := y) (ej_name 3)) (ej_name 2)) (jt2 (A := .int (-x)) (B := .int (-y)) (ej_neg (n := x) (ej_name 2)) (ej_neg (n := y) (ej_name 3))) (jt2 (B := .int (-x)) (ej_name 3) (ej_neg (n := x) (ej_name 2)))) (ej_name 1) ix) ⟨rfl, [], rfl⟩
theorem d_told_by (T : Txt K mg) : Def P w K mg base "told_by" 4 CoTold := by
  obtain ⟨f, fd, F, hm, hb⟩ := T.f_told_by
  have GS := d_sent (P := P) (w := w) (base := base) T
  have GT := d_turned (P := P) (w := w) (base := base) T
  refine def_ok F sc_told_by hm hb (fun is M i M' h => ?_) fun X hX N is M i M' hF hC => ?_
  · obtain ⟨rfl, rfl, B, o, ts, t, rfl, _⟩ := h
    exact ⟨rfl, rfl⟩
  · obtain ⟨cdv, A, outer, sh, H, E, rfl, hr⟩ := hX
    obtain ⟨rfl, rfl, B, o, ts, t, rfl, ht, ho, lo, L, hB, rfl⟩ := hC
    have nd := sc_told_by.nd
    have hr1 : Room 1 (A.deeper (envOfC "told_by" (defScope s_told_by) sh.heap.objs.size f cdv)) := hr.mono (by decide)
    have cl := conv_len L.ne ho
    have l4 := L.le
    refine sj_ret (ej_el (ds := psD (tolG o ts t)) (el_compW1 3 (ds := psD (conv o ts)) (M1 := []) (fun j => itG (((conv o ts).take j).map (rt4 t))) (fun _ => []) rfl nd (iw_list (ej_callP GS hr (aj_cons (ej_name (i := .d (lnD ts)) 1) (aj_cons (ej_el (ds := psD o) (el_listT (ds := psD o) T.b_list (ej_name 0)) rfl) aj_nil)) ⟨rfl, rfl, ts, o, rfl, L.ne, fun t h => (L.bd t h).sm (by omega), by omega, rfl⟩)) (fun _ _ => trivial) rfl rfl (by rw [psD_len]; omega) (fun j d hd => ?_)) ?_) ⟨rfl, [], rfl⟩
    · obtain ⟨p, hp, rfl⟩ := psD_inv hd
      refine ⟨.d (pD (rt4 t p)), ?_, by rw [itG_len, List.length_map]; exact List.length_take_le .., fun N' s' Hh C cl fp' => ej_callP GT hr1 (aj_cons (ej_name (i := .d (pD p)) 3) (aj_cons (ej_name (i := dI (t : Int)) 2) aj_nil)) ⟨rfl, rfl, p, t, rfl, ht, rfl⟩⟩
      rw [take_snoc hp]
      unfold itG psD
      rw [List.map_append, List.map_append, List.map_append]
      rfl
    · rw [psD_len, List.take_length]
      rfl
theorem d_shape (T : Txt K mg) : Def P w K mg base "shape" 5 CoShp := by
  obtain ⟨f, fd, F, hm, hb⟩ := T.f_shape
  have GT := d_told_by (P := P) (w := w) (base := base) T
  refine def_ok F sc_shape hm hb (fun is M i M' h => ?_) fun X hX N is M i M' hF hC => ?_
  · obtain ⟨rfl, rfl, B, o, ts, t, rfl, _⟩ := h
    exact ⟨rfl, rfl⟩
  · obtain ⟨cdv, A, outer, sh, H, E, rfl, hr⟩ := hX
    obtain ⟨rfl, rfl, B, o, ts, t, rfl, ht, ho, lo, L, hB, rfl⟩ := hC
    have tl := tol_len ho L.ne t
    have t1 : 1 ≤ ts.length := List.length_pos_iff.mpr L.ne
    refine sj_ret (ej_el (ds := psD (shpG o ts t)) (el_slLto (ds := psD (tolG o ts t)) (l := (o.length : Int)) (ej_callP GT hr (aj_cons (ej_name (i := .d (opD o)) 0) (aj_cons (ej_name (i := .d (lnD ts)) 1) (aj_cons (ej_name (i := dI (t : Int)) 2) aj_nil))) ⟨rfl, rfl, B, o, ts, t, rfl, ht, ho, lo, L, hB, rfl⟩) (ej_is (ej_lenT (ds := psD o) T.b_len (ej_name 0)) (by rw [psD_len]))) ?_) ⟨rfl, [], rfl⟩
    rw [cut_to (by rw [psD_len]; omega)]
    unfold shpG psD
    simp only [List.map_take]
theorem d_cost_at (T : Txt K mg) : Def P w K mg base "cost_at" 2 CoCsa := by
  obtain ⟨f, fd, F, hm, hb⟩ := T.f_cost_at
  have GM := d_minus (P := P) (w := w) (base := base) T
  have GZ := d_size (P := P) (w := w) (base := base) T
  refine def_ok F sc_cost_at hm hb (fun is M i M' h => ?_) fun X hX N is M i M' hF hC => ?_
  · obtain ⟨rfl, rfl, row, place, ss, rfl, _⟩ := h
    exact ⟨rfl, rfl⟩
  · obtain ⟨cdv, A, outer, sh, H, E, rfl, hr⟩ := hX
    obtain ⟨rfl, rfl, row, place, ss, rfl, hp, hl, hs, rfl⟩ := hC
    have nd := sc_cost_at.nd
    have dm : ∀ s, some s ∈ ss.drop place → some s ∈ ss := fun s h => List.mem_of_mem_drop h
    have ed : (osD ss).drop place = osD (ss.drop place) := by
      unfold osD
      rw [List.map_drop]
    generalize ss.drop place = us at dm ed
    refine sj_set 3 (i := dI (((csL row us).take 0).sum)) (M1 := []) nd ej_int ?_
    refine sj_forW (ds := List.zipWith (fun x y => .tuple [x, y]) (psD row) (osD us)) (M1 := []) rfl (iw_zipL' T.b_zip (ej_name 0) (ej_el (ds := osD us) (el_slLfrom (ds := osD ss) (ej_name 2) (ej_name (i := dI (place : Int)) 1)) (by rw [cut_from (by rw [osD_len]; exact hp), ed]))) (fun j ρ M => ∃ y4 y5, ρ = [some (.d (.list (psD row))), some (dI (place : Int)), some (.d (.list (osD ss))), some (dI (((csL row us).take j).sum)), y4, y5] ∧ M = []) ⟨none, none, rfl, rfl⟩ (fun j d ρ M hd hI => ?_) fun ρ M hI => ?_
    · obtain ⟨y4, y5, rfl, rfl⟩ := hI
      obtain ⟨p, u, hp', hu', rfl⟩ : ∃ p u, row[j]? = some p ∧ us[j]? = some u ∧ d = .tuple [pD p, optD u] := by
        rw [List.getElem?_zipWith_eq_some] at hd
        obtain ⟨x, y, h1, h2, h3⟩ := hd
        obtain ⟨p, hp, rfl⟩ := psD_inv h1
        unfold osD at h2
        rw [List.getElem?_map] at h2
        obtain ⟨u, h4, h5⟩ := Option.map_eq_some_iff.mp h2
        exact ⟨p, u, hp, h4, by rw [← h3, h5]⟩
      have ez : (csL row us)[j]? = some (cstG p u) := by
        unfold csL
        rw [List.getElem?_zipWith_eq_some]
        exact ⟨p, u, hp', hu', rfl⟩
      have es : ((csL row us).take (j + 1)).sum = ((csL row us).take j).sum + cstG p u := by
        rw [take_snoc ez, List.sum_append]
        simp
      rw [es]
      cases u with
      | none =>
        rw [show cstG p none = 0 from rfl, Int.add_zero]
        refine ⟨_, gj_tup (ds := [pD p, optD none]) rfl (gs_cons 4 nd (gs_cons 5 nd gs_nil)), ?_⟩
        exact sj_if (t := false) (M1 := []) (tj_is (tj_notNo (d := .none) (ej_name 5) ej_non) rfl) (fun h => nomatch h) fun _ => sj_nil (sj_nil ⟨_, _, rfl, rfl⟩)
      | some s =>
        refine ⟨_, gj_tup (ds := [pD p, optD (some s)]) rfl (gs_cons 4 nd (gs_cons 5 nd gs_nil)), ?_⟩
        have hsm := hs p (List.mem_of_getElem? hp') s (dm s (List.mem_of_getElem? hu'))
        refine sj_if (t := true) (M1 := []) (tj_is (tj_notNo (d := pD s) (ej_name 5) ej_non) rfl) (fun _ => ?_) fun h => nomatch h
        refine sj_aug 3 ip_add nd rfl (z2 := szG (gsub p s)) (M1 := []) (ej_callP GZ hr (aj_cons (ej_callP GM hr (aj_cons (ej_name (i := .d (pD p)) 4) (aj_cons (ej_name (i := .d (pD s)) 5) aj_nil)) ⟨rfl, rfl, p, s, rfl, rfl⟩) aj_nil) ⟨rfl, rfl, gsub p s, rfl, hsm, rfl⟩) (sj_nil (sj_nil ⟨_, _, rfl, rfl⟩))
    · obtain ⟨y4, y5, rfl, rfl⟩ := hI
      have ln : (List.zipWith (fun x y => PyData.tuple [x, y]) (psD row) (osD us)).length = (csL row us).length := by
        unfold csL
        rw [List.length_zipWith, List.length_zipWith, psD_len, osD_len]
      rw [ln, List.take_length]
      exact sj_ret (ej_name 3) ⟨rfl, [], rfl⟩
end

/-! ### draws, with the state as one thing -/
abbrev DT := Int × List Int × Int
def trn (n : Int) (d : DT) : DT := drw d.2.1 d.2.2 n
def SttD (a c : Addr) (d : DT) : Mem := Stt a c d.2.1 d.2.2
def pkT (d : DT) (ds : List PyData) : PyData := pkD d.2.1 d.2.2 ds
theorem trn_ok {n : Int} (h : 0 < n) (d : DT) (hl : d.2.1.length ≤ 63) : 0 ≤ (trn n d).1 ∧ (trn n d).1 < n ∧ (trn n d).2.1.length ≤ 63 :=
  ⟨drw_lo _ _ h, drw_hi _ _ h, Nat.le_trans (drw_len _ _ _) hl⟩
theorem trn_nat {n : Int} (h : 0 < n) (d : DT) (hl : d.2.1.length ≤ 63) : ∃ x : Nat, (trn n d).1 = (x : Int) ∧ (x : Int) < n ∧ (trn n d).2.1.length ≤ 63 := by
  obtain ⟨h1, h2, h3⟩ := trn_ok h d hl
  obtain ⟨x, e⟩ := Int.eq_ofNat_of_zero_le h1
  exact ⟨x, e, by rw [← e]; exact h2, h3⟩
theorem trn_len (n : Int) (d : DT) (hl : d.2.1.length ≤ 63) : (trn n d).2.1.length ≤ 63 := Nat.le_trans (drw_len _ _ _) hl
theorem pkT_mem {d : DT} {ds : List PyData} (h : ds ≠ []) : pkT d ds ∈ ds := pk_mem h
theorem sttD_fst (a c : Addr) (d d' : DT) : (SttD a c d).map Prod.fst = (SttD a c d').map Prod.fst := rfl
section
variable {X : Cx} {N : Ent} {ρ : Rho} {e1 e2 : Expr} {p q : Pos} {a c : Addr} {d d0 : DT}
theorem ej_drawM (F : Def X.prog X.w X.K X.mg X.base "_law_draw" 1 CoDraw) (hr : Room 1 X.A) {many : Int} {Mr : Mem} (h1 : EJ X N ρ (SttD a c d0 ++ Mr) e1 (.v (.ref a)) (SttD a c d0 ++ Mr)) (h2 : EJ X N ρ (SttD a c d0 ++ Mr) e2 (dI many) (SttD a c d ++ Mr)) (m0 : 0 < many) (m1 : many < 18446744073709551616) (hl : d.2.1.length ≤ 63)
    (hg : Gl X "_law_draw" := by rfl) (he : starEach [e1, e2] X.env = (false, eval e1 X.env) :: starEach [e2] X.env := by rfl) (he2 : starEach [e2] X.env = [(false, eval e2 X.env)] := by rfl) (hpl : (backTo q (starEach [e2] X.env)).any (·.1) = false := by rfl) :
    EJ X N ρ (SttD a c d0 ++ Mr) (.Call (.Name "_law_draw" p) [e1, e2] [] q) (dI (trn many d).1) (SttD a c (trn many d) ++ Mr) :=
  ej_draw (p := p) (q := q) F hr (a := a) (c := c) (cs := d0.2.1) (s := d0.2.2) (cs' := d.2.1) (s' := d.2.2) h1 h2 m0 m1 hl hg he he2 hpl
theorem ej_drawD (F : Def X.prog X.w X.K X.mg X.base "_law_draw" 1 CoDraw) (hr : Room 1 X.A) {many : Int} (h1 : EJ X N ρ (SttD a c d0) e1 (.v (.ref a)) (SttD a c d0)) (h2 : EJ X N ρ (SttD a c d0) e2 (dI many) (SttD a c d)) (m0 : 0 < many) (m1 : many < 18446744073709551616) (hl : d.2.1.length ≤ 63)
    (hg : Gl X "_law_draw" := by rfl) (he : starEach [e1, e2] X.env = (false, eval e1 X.env) :: starEach [e2] X.env := by rfl) (he2 : starEach [e2] X.env = [(false, eval e2 X.env)] := by rfl) (hpl : (backTo q (starEach [e2] X.env)).any (·.1) = false := by rfl) :
    EJ X N ρ (SttD a c d0) (.Call (.Name "_law_draw" p) [e1, e2] [] q) (dI (trn many d).1) (SttD a c (trn many d)) := by
  have e := ej_drawM (p := p) (q := q) (Mr := []) F hr (a := a) (c := c) (d := d) (d0 := d0) (ej_m (by rw [List.append_nil]; exact h1) rfl) (ej_m (by rw [List.append_nil]; exact h2) (List.append_nil _).symm) m0 m1 hl hg he he2 hpl
  rw [List.append_nil, List.append_nil] at e
  exact e
theorem ej_pickM (F : Def X.prog X.w X.K X.mg X.base "_law_pick" 2 CoPick) (hr : Room 2 X.A) {ds : List PyData} {Mr : Mem} (h1 : EJ X N ρ (SttD a c d0 ++ Mr) e1 (.v (.ref a)) (SttD a c d0 ++ Mr)) (h2 : EJ X N ρ (SttD a c d0 ++ Mr) e2 (.d (.list ds)) (SttD a c d ++ Mr)) (hne : ds ≠ []) (hz : ds.length ≤ 100000) (hl : d.2.1.length ≤ 63)
    (hg : Gl X "_law_pick" := by rfl) (he : starEach [e1, e2] X.env = (false, eval e1 X.env) :: starEach [e2] X.env := by rfl) (he2 : starEach [e2] X.env = [(false, eval e2 X.env)] := by rfl) (hpl : (backTo q (starEach [e2] X.env)).any (·.1) = false := by rfl) :
    EJ X N ρ (SttD a c d0 ++ Mr) (.Call (.Name "_law_pick" p) [e1, e2] [] q) (.d (pkT d ds)) (SttD a c (trn (ds.length : Int) d) ++ Mr) :=
  ej_pick (p := p) (q := q) F hr (a := a) (c := c) (cs := d0.2.1) (s := d0.2.2) (cs' := d.2.1) (s' := d.2.2) h1 h2 hne hz hl hg he he2 hpl
theorem ej_pickD (F : Def X.prog X.w X.K X.mg X.base "_law_pick" 2 CoPick) (hr : Room 2 X.A) {ds : List PyData} (h1 : EJ X N ρ (SttD a c d0) e1 (.v (.ref a)) (SttD a c d0)) (h2 : EJ X N ρ (SttD a c d0) e2 (.d (.list ds)) (SttD a c d)) (hne : ds ≠ []) (hz : ds.length ≤ 100000) (hl : d.2.1.length ≤ 63)
    (hg : Gl X "_law_pick" := by rfl) (he : starEach [e1, e2] X.env = (false, eval e1 X.env) :: starEach [e2] X.env := by rfl) (he2 : starEach [e2] X.env = [(false, eval e2 X.env)] := by rfl) (hpl : (backTo q (starEach [e2] X.env)).any (·.1) = false := by rfl) :
    EJ X N ρ (SttD a c d0) (.Call (.Name "_law_pick" p) [e1, e2] [] q) (.d (pkT d ds)) (SttD a c (trn (ds.length : Int) d)) := by
  have e := ej_pickM (p := p) (q := q) (Mr := []) F hr (a := a) (c := c) (d := d) (d0 := d0) (ej_m (by rw [List.append_nil]; exact h1) rfl) (ej_m (by rw [List.append_nil]; exact h2) (List.append_nil _).symm) hne hz hl hg he he2 hpl
  rw [List.append_nil, List.append_nil] at e
  exact e
end
theorem eqTT (n : Int) : dB (decide (n = n)) = dB true := by rw [decide_eq_true rfl]
theorem ab_name {n f : Str} {p : Pos} {env : Env} {w : Sem Value} : attributeBase (.Name n p) f env w = w := rfl
theorem st_l {es rest : List Expr} {p : Pos} {env : Env} : starEach (.List es p :: rest) env = (false, eval (.List es p) env) :: starEach rest env := rfl
theorem st_c {c : Const} {j : Nat} {rest : List Expr} {p : Pos} {env : Env} : starEach (.Constant c j p :: rest) env = (false, eval (.Constant c j p) env) :: starEach rest env := rfl

/-! ### openings: the law's own side -/
def ptG (wide : Int) (d : DT) : Gp := ((trn (2 * wide + 1) d).1 - wide, (trn (2 * wide + 1) (trn (2 * wide + 1) d)).1 - wide)
def ptS (wide : Int) (d : DT) : DT := trn (2 * wide + 1) (trn (2 * wide + 1) d)
theorem pt_ok {wide : Int} (h : 0 ≤ wide) {d : DT} (hl : d.2.1.length ≤ 63) : bdG wide (ptG wide d) ∧ (ptS wide d).2.1.length ≤ 63 := by
  obtain ⟨a1, a2, a3⟩ := trn_ok (n := 2 * wide + 1) (by omega) d hl
  obtain ⟨b1, b2, b3⟩ := trn_ok (n := 2 * wide + 1) (by omega) _ a3
  exact ⟨⟨⟨by show -wide ≤ _ - wide; omega, by show _ - wide ≤ wide; omega⟩, by show -wide ≤ _ - wide; omega, by show _ - wide ≤ wide; omega⟩, b3⟩
def CoPnt : Co := fun is M i M' => ∃ (a c : Addr) (d : DT) (wide : Int), is = [.v (.ref a), dI wide] ∧ M = SttD a c d ∧ d.2.1.length ≤ 63 ∧ 0 ≤ wide ∧ wide < 4611686018427387904 ∧ i = .d (pD (ptG wide d)) ∧ M' = SttD a c (ptS wide d)
/-- rows of points, all of one width -/
def prS (wide : Int) (d : DT) : Nat → DT
  | 0 => d
  | k + 1 => ptS wide (prS wide d k)
def prL (wide : Int) (d : DT) : Nat → List Gp
  | 0 => []
  | k + 1 => prL wide d k ++ [ptG wide (prS wide d k)]
theorem pr_ok {wide : Int} (h : 0 ≤ wide) {d : DT} (hl : d.2.1.length ≤ 63) : ∀ k, (prS wide d k).2.1.length ≤ 63 ∧ (prL wide d k).length = k ∧ ∀ p ∈ prL wide d k, bdG wide p
  | 0 => ⟨hl, rfl, fun p hp => absurd hp List.not_mem_nil⟩
  | k + 1 => by
    obtain ⟨h1, h2, h3⟩ := pr_ok h hl k
    obtain ⟨a, b⟩ := pt_ok h h1
    refine ⟨b, ?_, fun p hp => ?_⟩
    · show (_ ++ [_]).length = _
      rw [List.length_append, h2]
      rfl
    · rcases List.mem_append.mp hp with hp | hp
      · exact h3 p hp
      · rw [List.mem_singleton.mp hp]
        exact a
theorem itG_app (a : List Gp) (p : Gp) : itG (a ++ [p]) = itG a ++ [.d (pD p)] := by
  unfold itG psD
  rw [List.map_append, List.map_append]
  rfl
theorem itG_d (a : List Gp) : itG a = (psD a).map It.d := rfl
theorem pD_plain (p : Gp) : plainD (pD p) = true := (pn_pt p.1 p.2).plain
theorem psD_plain (l : List Gp) : plainD (.list (psD l)) = true := (PN.lst (n := 5) _ fun x hx => by
  obtain ⟨p, _, rfl⟩ := List.mem_map.mp hx
  exact .tup _ fun y hy => by
    simp only [List.mem_cons, List.not_mem_nil, or_false] at hy
    rcases hy with rfl | rfl <;> exact .int _).plain
theorem eqv_pD (p q : Gp) : PyData.eqv (pD p) (pD q) = decide (p = q) := by
  show PyData.eqv (.tuple [.int p.1, .int p.2]) (.tuple [.int q.1, .int q.2]) = _
  rw [eqv_pt]
  by_cases h : p = q
  · rw [h, decide_eq_true rfl, decide_eq_true rfl, decide_eq_true rfl]
    rfl
  · rw [decide_eq_false h]
    by_cases h1 : p.1 = q.1
    · rw [decide_eq_false (fun h2 => h (Prod.ext h1 h2)), Bool.and_false]
    · rw [decide_eq_false h1, Bool.false_and]
theorem count_all (l : List Gp) : ((psD l).countP fun z => PyData.eqv z (pD g0)) = l.length ↔ ∀ p ∈ l, p = g0 := by
  unfold psD
  rw [List.countP_map, List.countP_eq_length]
  refine forall_congr' fun p => forall_congr' fun _ => ?_
  show PyData.eqv (pD p) (pD g0) = true ↔ _
  rw [eqv_pD, decide_eq_true_iff]
/-- none but zeros: something in a place -/
def fixG (l : List Gp) (n : Nat) (q : Gp) : List Gp := if ∀ p ∈ l, p = g0 then l.set n q else l
theorem fix_len (l : List Gp) (n : Nat) (q : Gp) : (fixG l n q).length = l.length := by
  unfold fixG
  split
  · rw [List.length_set]
  · rfl
theorem fix_bd {B : Int} {l : List Gp} {n : Nat} {q : Gp} (h : ∀ p ∈ l, bdG B p) (hq : bdG B q) : ∀ p ∈ fixG l n q, bdG B p := fun p hp => by
  unfold fixG at hp
  split at hp
  · rcases List.mem_or_eq_of_mem_set hp with k | k
    · exact h p k
    · rw [k]; exact hq
  · exact h p hp
theorem fix_nz {l : List Gp} {n : Nat} {q : Gp} (hn : n < l.length) (hq : q ≠ g0) : ∃ p ∈ fixG l n q, p ≠ g0 := by
  unfold fixG
  split
  · exact ⟨q, List.mem_iff_getElem?.mpr ⟨n, by rw [List.getElem?_set_self hn]⟩, hq⟩
  · rename_i h
    refine Classical.byContradiction fun k => h fun p hp => ?_
    exact Classical.byContradiction fun e => k ⟨p, hp, e⟩
def lnW (wl : List PyData) (d : DT) : Int := match pkT d wl with
  | .int v => v
  | _ => 1
def lnP (wl : List PyData) (d : DT) : Gp := ptG (lnW wl d) (trn (wl.length : Int) d)
def lnN (wl : List PyData) (d : DT) : DT := ptS (lnW wl d) (trn (wl.length : Int) d)
def ltS (wl : List PyData) (d : DT) : Nat → DT
  | 0 => d
  | k + 1 => lnN wl (ltS wl d k)
def ltL (wl : List PyData) (d : DT) : Nat → List Gp
  | 0 => []
  | k + 1 => ltL wl d k ++ [lnP wl (ltS wl d k)]
/-- a line, drawn: mm its most taps -/
def lnG (wl : List PyData) (mm : Int) (d : DT) : List Gp := fixG (ltL wl (trn mm d) ((trn mm d).1.toNat + 1)) 0 (0, 1)
def lnS (wl : List PyData) (mm : Int) (d : DT) : DT := ltS wl (trn mm d) ((trn mm d).1.toNat + 1)
structure WlOk (wl : List PyData) (W : Int) : Prop where
  ne : wl ≠ []
  le : wl.length ≤ 10
  wv : ∀ x ∈ wl, ∃ v : Int, x = .int v ∧ 1 ≤ v ∧ v ≤ W
theorem WlOk.w {wl : List PyData} {W : Int} (h : WlOk wl W) (d : DT) : pkT d wl = .int (lnW wl d) ∧ 1 ≤ lnW wl d ∧ lnW wl d ≤ W := by
  obtain ⟨v, e, v1, v2⟩ := h.wv _ (pkT_mem (d := d) h.ne)
  unfold lnW
  rw [e]
  exact ⟨rfl, v1, v2⟩
theorem lt_ok {wl : List PyData} {W : Int} (h : WlOk wl W) {d : DT} (hl : d.2.1.length ≤ 63) : ∀ k, (ltS wl d k).2.1.length ≤ 63 ∧ (ltL wl d k).length = k ∧ ∀ p ∈ ltL wl d k, bdG W p
  | 0 => ⟨hl, rfl, fun p hp => absurd hp List.not_mem_nil⟩
  | k + 1 => by
    obtain ⟨h1, h2, h3⟩ := lt_ok h hl k
    obtain ⟨w1, w2, w3⟩ := h.w (ltS wl d k)
    obtain ⟨a, b⟩ := pt_ok (wide := lnW wl (ltS wl d k)) (by omega) (trn_len (wl.length : Int) _ h1)
    refine ⟨b, ?_, fun p hp => ?_⟩
    · show (_ ++ [_]).length = _
      rw [List.length_append, h2]
      rfl
    · rcases List.mem_append.mp hp with hp | hp
      · exact h3 p hp
      · rw [List.mem_singleton.mp hp]
        exact a.mono w3
theorem ln_ok {wl : List PyData} {W mm : Int} (h : WlOk wl W) (hm : 1 ≤ mm ∧ mm ≤ 4) {d : DT} (hl : d.2.1.length ≤ 63) : LnOk W (lnG wl mm d) ∧ (lnS wl mm d).2.1.length ≤ 63 := by
  obtain ⟨x, ex, wx, l1⟩ := trn_nat (n := mm) (by omega) d hl
  obtain ⟨h1, h2, h3⟩ := lt_ok h l1 (x + 1)
  have W1 : 1 ≤ W := by
    obtain ⟨w1, w2, w3⟩ := h.w d
    omega
  unfold lnG lnS
  rw [ex, Int.toNat_natCast]
  refine ⟨⟨fun e => ?_, by rw [fix_len, h2]; omega, fix_bd h3 ⟨⟨by show -W ≤ 0; omega, by show 0 ≤ W; omega⟩, by show -W ≤ 1; omega, W1⟩⟩, h1⟩
  have := congrArg List.length e
  rw [fix_len, h2] at this
  cases this
def CoLn (wl : List PyData) (mm : Int) : Co := fun is M i M' => ∃ (a c : Addr) (d : DT), is = [.v (.ref a)] ∧ M = SttD a c d ∧ d.2.1.length ≤ 63 ∧ i = .d (lnD (lnG wl mm d)) ∧ M' = SttD a c (lnS wl mm d)
/-- arrivals, by places -/
def arF (W : List Gp) (place n k : Nat) : List Gp := (List.range n).map fun i => if place ≤ i ∧ i < place + k then W.getD (i - place) g0 else g0
theorem arF_len (W : List Gp) (place n k : Nat) : (arF W place n k).length = n := by unfold arF; simp
theorem arF_at {W : List Gp} {place n k i : Nat} (h : i < n) : (arF W place n k)[i]? = some (if place ≤ i ∧ i < place + k then W.getD (i - place) g0 else g0) := by
  unfold arF
  rw [List.getElem?_map, List.getElem?_range h]
  rfl
theorem arF_0 (W : List Gp) (place n : Nat) : arF W place n 0 = List.replicate n g0 := by
  refine List.ext_getElem? fun i => ?_
  by_cases h : i < n
  · rw [arF_at h, if_neg (by omega), List.getElem?_replicate, if_pos h]
  · rw [List.getElem?_eq_none (by rw [arF_len]; omega), List.getElem?_eq_none (by rw [List.length_replicate]; omega)]
theorem arF_hi {W : List Gp} {place n k : Nat} (h : n ≤ place + k) : arF W place n (k + 1) = arF W place n k := by
  refine List.ext_getElem? fun i => ?_
  by_cases c : i < n
  · rw [arF_at c, arF_at c]
    by_cases c2 : place ≤ i
    · rw [if_pos ⟨c2, by omega⟩, if_pos ⟨c2, by omega⟩]
    · rw [if_neg (by omega), if_neg (by omega)]
  · rw [List.getElem?_eq_none (by rw [arF_len]; omega), List.getElem?_eq_none (by rw [arF_len]; omega)]
theorem arF_set {W : List Gp} {place n k : Nat} {p : Gp} (hk : W[k]? = some p) (h : place + k < n) : arF W place n (k + 1) = (arF W place n k).set (place + k) p := by
  refine List.ext_getElem? fun i => ?_
  by_cases c : i < n
  · rw [arF_at c]
    by_cases e : place + k = i
    · rw [← e, List.getElem?_set_self (by rw [arF_len]; exact h), if_pos ⟨by omega, by omega⟩, show place + k - place = k by omega, List.getD_eq_getElem?_getD, hk]
      rfl
    · rw [List.getElem?_set_ne e, arF_at c]
      by_cases c2 : place ≤ i ∧ i < place + k
      · rw [if_pos c2, if_pos ⟨c2.1, by omega⟩]
      · rw [if_neg c2, if_neg (by omega)]
  · rw [List.getElem?_eq_none (by rw [arF_len]; omega), List.getElem?_eq_none (by rw [List.length_set, arF_len]; omega)]
theorem arF_arr {o ts : List Gp} (ho : o ≠ []) (ht : ts ≠ []) (place t slack : Nat) (hp : place ≤ slack) : arF (tolG o ts t) place (slack + o.length) (tolG o ts t).length = arrG o ts place t slack := by
  have tl := tol_len ho ht t
  have t1 : 1 ≤ ts.length := List.length_pos_iff.mpr ht
  unfold arrG
  generalize tolG o ts t = W at tl ⊢
  refine List.ext_getElem? fun i => ?_
  by_cases c : i < slack + o.length
  · rw [arF_at c, List.getElem?_take_of_lt c, List.append_assoc, List.getElem?_append, List.length_replicate]
    by_cases c1 : i < place
    · rw [if_pos c1, if_neg (by omega), List.getElem?_replicate, if_pos c1]
    · rw [if_neg c1, List.getElem?_append]
      by_cases c2 : i - place < W.length
      · rw [if_pos c2, if_pos ⟨by omega, by omega⟩, List.getD_eq_getElem?_getD, List.getElem?_eq_getElem c2]
        rfl
      · rw [if_neg c2, if_neg (by omega), List.getElem?_replicate, if_pos (by omega)]
  · rw [List.getElem?_eq_none (by rw [arF_len]; omega), List.getElem?_eq_none (by rw [List.length_take]; omega)]
def CoWho : Co := fun is M i M' => M = [] ∧ M' = [] ∧ ∃ (A B : Int) (o ts : List Gp) (t : Nat), is = [.d (opD o), .d (lnD ts), dI (t : Int)] ∧ t ≤ 3 ∧ OpOk A o ∧ LnOk B ts ∧ A ≤ 10000000000 ∧ i = .d (.list (psD (tolG o ts t)))
def CoLar : Co := fun is M i M' => M = [] ∧ M' = [] ∧ ∃ (A B : Int) (o ts : List Gp) (t place slack : Nat), is = [.d (opD o), .d (lnD ts), dI (t : Int), dI (place : Int), dI (slack : Int)] ∧ t ≤ 3 ∧ OpOk A o ∧ LnOk B ts ∧ A ≤ 10000000000 ∧ place ≤ slack ∧ slack ≤ 1000 ∧ i = .d (.list (psD (arrG o ts place t slack)))
def CoLcs : Co := fun is M i M' => M = [] ∧ M' = [] ∧ ∃ (row : List Gp) (place : Nat) (ss : List (Option Gp)), is = [.d (.list (psD row)), .d (.list (osD ss)), dI (place : Int)] ∧ place + row.length ≤ ss.length ∧ row.length ≤ 1000 ∧ (∀ p ∈ row, ∀ s, some s ∈ ss → sm (gsub p s)) ∧ i = dI (csL row (ss.drop place)).sum
def shE (o : List Gp) (ls : List (List Gp)) (t n : Nat) : List Key × PyData := ([.inl (t : Int), .inl (n : Int)], .list (psD (shpG o (ls.getD n []) t)))
def shT (o : List Gp) (ls : List (List Gp)) : DT' := (List.range 4).flatMap fun t => (List.range ls.length).map (shE o ls t)
theorem valT_mem {es : DT'} {k : List Key} {v : PyData} (h1 : ∀ e ∈ es, e.1 = k → e.2 = v) (h2 : ∃ e ∈ es, e.1 = k) : valT es k = some v := by
  unfold valT
  cases e : es.find? fun kv => decide (kv.1 = k) with
  | none =>
    obtain ⟨x, hx, hk⟩ := h2
    have := List.find?_eq_none.mp e x hx
    rw [decide_eq_true hk] at this
    exact absurd rfl this
  | some x =>
    have a := List.find?_some e
    have b := List.mem_of_find?_eq_some e
    show some x.2 = _
    rw [h1 x b (of_decide_eq_true a)]
theorem putT_new {es : DT'} {k : List Key} {v : PyData} (h : ∀ e ∈ es, e.1 ≠ k) : putT es k v = es ++ [(k, v)] := by
  unfold putT
  rw [if_neg]
  intro e
  obtain ⟨x, hx, hk⟩ := List.any_eq_true.mp e
  exact h x hx (of_decide_eq_true hk)
theorem sh_key {t n t' n' : Nat} (h : ([.inl (t : Int), .inl (n : Int)] : List Key) = [.inl (t' : Int), .inl (n' : Int)]) : t = t' ∧ n = n' := by
  injection h with h1 h2
  injection h2 with h2 _
  injection h1 with h1
  injection h2 with h2
  exact ⟨by omega, by omega⟩
theorem shT_val {o : List Gp} {ls : List (List Gp)} {t n : Nat} {ts : List Gp} (ht : t < 4) (hn : ls[n]? = some ts) : valT (shT o ls) [.inl (t : Int), .inl (n : Int)] = some (.list (psD (shpG o ts t))) := by
  have nl : n < ls.length := (List.getElem?_eq_some_iff.mp hn).1
  have e : ls.getD n [] = ts := by rw [List.getD_eq_getElem?_getD, hn]; rfl
  refine valT_mem (fun x hx hk => ?_) ⟨shE o ls t n, List.mem_flatMap.mpr ⟨t, List.mem_range.mpr ht, List.mem_map.mpr ⟨n, List.mem_range.mpr nl, rfl⟩⟩, rfl⟩
  obtain ⟨t', _, hx⟩ := List.mem_flatMap.mp hx
  obtain ⟨n', _, rfl⟩ := List.mem_map.mp hx
  obtain ⟨rfl, rfl⟩ := sh_key hk
  show PyData.list (psD (shpG o (ls.getD n' []) t')) = _
  rw [e]
def CoShs : Co := fun is M i M' => M = [] ∧ M' = [] ∧ ∃ (A B : Int) (o : List Gp) (ls : List (List Gp)), is = [.d (opD o), .d (.list (lnsD ls))] ∧ OpOk A o ∧ (∀ ts ∈ ls, LnOk B ts) ∧ A ≤ 10000000000 ∧ ls.length ≤ 100 ∧ i = tdE (shT o ls)
def guL (L s : Nat) : List PyData := (List.range (s + 1)).flatMap fun p => (List.range 4).flatMap fun t => (List.range L).map (gsD p t)
def CoGu : Co := fun is M i M' => M = [] ∧ M' = [] ∧ ∃ (ls : List (List Gp)) (s : Nat), is = [.d (.list (lnsD ls)), dI (s : Int)] ∧ ls.length ≤ 10 ∧ s ≤ 100 ∧ i = .d (.list (guL ls.length s))
theorem gu_mem {L s : Nat} {d : PyData} : d ∈ guL L s ↔ ∃ p t n : Nat, p ≤ s ∧ t ≤ 3 ∧ n < L ∧ d = gsD p t n := by
  unfold guL
  rw [List.mem_flatMap]
  constructor
  · rintro ⟨p, hp, h⟩
    obtain ⟨t, ht, h⟩ := List.mem_flatMap.mp h
    obtain ⟨n, hn, rfl⟩ := List.mem_map.mp h
    have := List.mem_range.mp hp
    have := List.mem_range.mp ht
    exact ⟨p, t, n, by omega, by omega, List.mem_range.mp hn, rfl⟩
  · rintro ⟨p, t, n, hp, ht, hn, rfl⟩
    exact ⟨p, List.mem_range.mpr (by omega), List.mem_flatMap.mpr ⟨t, List.mem_range.mpr (by omega), List.mem_map.mpr ⟨n, List.mem_range.mpr hn, rfl⟩⟩⟩
theorem sq_sub (a b : Int) : (a - b) ^ 2 = (b - a) * (b - a) := by
  rw [Int.pow_succ, Int.pow_succ, Int.pow_zero, Int.one_mul, ← Int.neg_sub b a, Int.neg_mul_neg]

/-! ### arrival, cost -/
def LnsD (L : PyData) (ls : List (List Gp)) : Prop := L = .list (lnsD ls) ∨ L = .tuple (lnsD ls)
theorem lns_at {ls : List (List Gp)} {n : Nat} {ts : List Gp} (h : ls[n]? = some ts) : atI (lnsD ls) (n : Int) = some (lnD ts) := atI_nat (j := n) (by unfold lnsD; rw [List.getElem?_map, h]; rfl)
theorem lnsD_len (ls : List (List Gp)) : (lnsD ls).length = ls.length := List.length_map ..
def CoArr : Co := fun is M i M' => M = [] ∧ M' = [] ∧ ∃ (B : Int) (o ts : List Gp) (L : PyData) (ls : List (List Gp)) (slack place t n : Nat), is = [.d (opD o), .d L, dI (slack : Int), .d (gsD place t n)] ∧ LnsD L ls ∧ ls[n]? = some ts ∧ t ≤ 3 ∧ o ≠ [] ∧ o.length ≤ 64 ∧ LnOk B ts ∧ B ≤ 1000 ∧ slack ≤ 1000 ∧ place ≤ 1000 ∧ i = .d (.list (psD (arrG o ts place t slack)))
def CoCst : Co := fun is M i M' => M = [] ∧ M' = [] ∧ ∃ (B : Int) (o ts : List Gp) (L : PyData) (ls : List (List Gp)) (place t n : Nat) (ss : List (Option Gp)), is = [.d (opD o), .d L, .d (gsD place t n), .d (.list (osD ss))] ∧ LnsD L ls ∧ ls[n]? = some ts ∧ t ≤ 3 ∧ o ≠ [] ∧ o.length ≤ 64 ∧ LnOk B ts ∧ B ≤ 1000 ∧ place ≤ ss.length ∧ (∀ p ∈ shpG o ts t, ∀ s, some s ∈ ss → sm (gsub p s)) ∧ i = dI (csL (shpG o ts t) (ss.drop place)).sum
section
variable {P : Program} {w : World} {K : PySem.W.Frag} {mg : Str → Option Value} {base : Heap}
section
variable {X : Cx} {N : Ent} {ρ : Rho} {M : Mem} {a b : Expr} {pos : Pos}
theorem ej_lnsAt {L : PyData} {ls : List (List Gp)} {n : Nat} {ts : List Gp} (h : LnsD L ls) (hn : ls[n]? = some ts) (ha : EJ X N ρ M a (.d L) M) (hb : EJ X N ρ M b (dI (n : Int)) M) (hs : PlainIx b := by exact fun _ _ => rfl) : EJ X N ρ M (.Subscript a b pos) (.d (lnD ts)) M := by
  rcases h with rfl | rfl
  · exact ej_ixL ha hb (lns_at hn) hs
  · exact ej_ixT ha hb (lns_at hn) hs
theorem ej_zeros {n : Nat} (hn : n ≤ 100000) (ha : EJ X N ρ M a (.d (.list [pD g0])) M) (hb : EJ X N ρ M b (dI (n : Int)) M) : EJ X N ρ M (.BinOp a .Mult b pos) (.d (.list (psD (List.replicate n g0)))) M :=
  ej_el (el_rep (ds := [pD g0]) (n := (n : Int)) ha hb (by omega) (by omega) (by show 1 * _ ≤ 100000; omega)) (by rw [Int.toNat_natCast, rep_ps])
end
theorem psD_app (a b : List Gp) : psD (a ++ b) = psD a ++ psD b := List.map_append
theorem d_arrival (T : Txt K mg) : Def P w K mg base "arrival" 5 CoArr := by
  obtain ⟨f, fd, F, hm, hb⟩ := T.f_arrival
  have GT := d_told_by (P := P) (w := w) (base := base) T
  refine def_ok F sc_arrival hm hb (fun is M i M' h => ?_) fun X hX N is M i M' hF hC => ?_
  · obtain ⟨rfl, rfl, B, o, ts, L, ls, slack, place, t, n, rfl, _⟩ := h
    exact ⟨rfl, rfl⟩
  · obtain ⟨cdv, A, outer, sh, H, E, rfl, hr⟩ := hX
    obtain ⟨rfl, rfl, B, o, ts, L, ls, slack, place, t, n, rfl, hL, hn, ht, ho, lo, LO, hB, hs, hp, rfl⟩ := hC
    have nd := sc_arrival.nd
    have tl := tol_len ho LO.ne t
    have l4 := LO.le
    have t1 : 1 ≤ ts.length := List.length_pos_iff.mpr LO.ne
    refine sj_asgG (i := .d (gsD place t n)) (M1 := []) (ej_name 3) (gj_tup (ds := [.int (place : Int), .int (t : Int), .int (n : Int)]) rfl (gs_cons 4 nd (gs_cons 5 nd (gs_cons 6 nd gs_nil)))) ?_
    refine sj_set 7 (i := .d (.list (psD (List.replicate place g0 ++ tolG o ts t ++ List.replicate slack g0)))) (M1 := []) nd (ej_el (ds := psD (List.replicate place g0 ++ tolG o ts t ++ List.replicate slack g0)) (el_cat (ds := psD (List.replicate place g0 ++ tolG o ts t)) (es := psD (List.replicate slack g0)) (ej_el (ds := psD (List.replicate place g0 ++ tolG o ts t)) (el_cat (ds := psD (List.replicate place g0)) (es := psD (tolG o ts t)) (ej_zeros (by omega) (jl1 (jt2 ej_int ej_int)) (ej_name 4)) (ej_callP GT hr (aj_cons (ej_name (i := .d (opD o)) 0) (aj_cons (ej_lnsAt hL hn (ej_name 1) (ej_name (i := dI (n : Int)) 6)) (aj_cons (ej_name (i := dI (t : Int)) 5) aj_nil))) ⟨rfl, rfl, B, o, ts, t, rfl, ht, ho, lo, LO, hB, rfl⟩) (by rw [psD_len, psD_len, List.length_replicate]; omega)) (by rw [psD_app])) (ej_zeros (by omega) (jl1 (jt2 ej_int ej_int)) (ej_name 2)) (by rw [psD_len, psD_len, List.length_append, List.length_replicate, List.length_replicate]; omega)) (by rw [psD_app (_ ++ _)])) ?_
    refine sj_ret (ej_el (ds := psD (arrG o ts place t slack)) (el_slLto (ds := psD (List.replicate place g0 ++ tolG o ts t ++ List.replicate slack g0)) (l := ((slack + o.length : Nat) : Int)) (ej_name 7) (ej_is (ej_add (n := (slack : Int)) (m := (o.length : Int)) (ej_name 2) (ej_is (ej_lenT (ds := psD o) T.b_len (ej_name 0)) (by rw [psD_len]))) (by rw [Int.natCast_add]))) ?_) ⟨rfl, [], rfl⟩
    rw [cut_to (by rw [psD_len, List.length_append, List.length_append, List.length_replicate, List.length_replicate]; omega)]
    unfold arrG psD
    simp only [List.map_take]
theorem d_cost (T : Txt K mg) : Def P w K mg base "cost" 6 CoCst := by
  obtain ⟨f, fd, F, hm, hb⟩ := T.f_cost
  have GS := d_shape (P := P) (w := w) (base := base) T
  have GC := d_cost_at (P := P) (w := w) (base := base) T
  refine def_ok F sc_cost hm hb (fun is M i M' h => ?_) fun X hX N is M i M' hF hC => ?_
  · obtain ⟨rfl, rfl, B, o, ts, L, ls, place, t, n, ss, rfl, _⟩ := h
    exact ⟨rfl, rfl⟩
  · obtain ⟨cdv, A, outer, sh, H, E, rfl, hr⟩ := hX
    obtain ⟨rfl, rfl, B, o, ts, L, ls, place, t, n, ss, rfl, hL, hn, ht, ho, lo, LO, hB, hp, hs, rfl⟩ := hC
    have nd := sc_cost.nd
    have sl := shp_len ho LO.ne t
    have hr2 : Room 2 (A.deeper (envOfC "cost" (defScope s_cost) sh.heap.objs.size f cdv)) := hr.mono (by decide)
    refine sj_asgG (i := .d (gsD place t n)) (M1 := []) (ej_name 2) (gj_tup (ds := [.int (place : Int), .int (t : Int), .int (n : Int)]) rfl (gs_cons 4 nd (gs_cons 5 nd (gs_cons 6 nd gs_nil)))) ?_
    exact sj_ret (ej_callP GC hr2 (aj_cons (ej_callP GS hr (aj_cons (ej_name (i := .d (opD o)) 0) (aj_cons (ej_lnsAt hL hn (ej_name 1) (ej_name (i := dI (n : Int)) 6)) (aj_cons (ej_name (i := dI (t : Int)) 5) aj_nil))) ⟨rfl, rfl, B, o, ts, t, rfl, ht, ho, lo, LO, hB, rfl⟩) (aj_cons (ej_name (i := dI (place : Int)) 4) (aj_cons (ej_name (i := .d (.list (osD ss))) 3) aj_nil))) ⟨rfl, rfl, shpG o ts t, place, ss, rfl, hp, by omega, hs, rfl⟩) ⟨rfl, [], rfl⟩
end

/-! ### the law's own defs for openings -/
theorem st_units {k : Nat} {A : Around} (h : Room k A) : A.units + 65 < cLine := by
  have := h.un
  omega
section
variable {X : Cx} {N : Ent} {ρ : Rho} {M M1 : Mem} {a b : Expr} {pos : Pos}
theorem el_zeros {n : Nat} (hn : n ≤ 100000) (ha : EJ X N ρ M a (.d (.list [pD g0])) M) (hb : EJ X N ρ M b (dI (n : Int)) M) : EL X N ρ M (.BinOp a .Mult b pos) (itG (List.replicate n g0)) M := by
  have h := el_rep (pos := pos) (ds := [pD g0]) (n := (n : Int)) ha hb (by omega) (by omega) (by show 1 * _ ≤ 100000; omega)
  rw [Int.toNat_natCast, rep_ps] at h
  exact h
theorem ej_pt1 {p : Gp} (ha : EJ X N ρ M a (.d (pD p)) M1) {b : Expr} (hb : EJ X N ρ M1 b (dI 0) M1) (hs : PlainIx b := by exact fun _ _ => rfl) : EJ X N ρ M (.Subscript a b pos) (dI p.1) M1 := ej_ixT (ds := [.int p.1, .int p.2]) ha hb rfl hs
theorem ej_pt2 {p : Gp} (ha : EJ X N ρ M a (.d (pD p)) M1) {b : Expr} (hb : EJ X N ρ M1 b (dI 1) M1) (hs : PlainIx b := by exact fun _ _ => rfl) : EJ X N ρ M (.Subscript a b pos) (dI p.2) M1 := ej_ixT (ds := [.int p.1, .int p.2]) ha hb rfl hs
end
section
variable {P : Program} {w : World} {K : PySem.W.Frag} {mg : Str → Option Value} {base : Heap}
theorem d_law_point (T : Txt K mg) : Def P w K mg base "_law_point" 2 CoPnt := by
  obtain ⟨f, fd, F, hm, hb⟩ := T.f_law_point
  have GD := d_law_draw (P := P) (w := w) (base := base) T
  refine def_ok F sc_law_point hm hb (fun is M i M' h => ?_) fun X hX N is M i M' hF hC => ?_
  · obtain ⟨a, c, d, wide, rfl, rfl, _, _, _, _, rfl⟩ := h
    exact ⟨rfl, sttD_fst _ _ _ _⟩
  · obtain ⟨cdv, A, outer, sh, H, E, rfl, hr⟩ := hX
    obtain ⟨a, c, d, wide, rfl, rfl, hl, w0, w1, rfl, rfl⟩ := hC
    have l1 := trn_len (2 * wide + 1) d hl
    exact sj_ret (i := .d (pD (ptG wide d))) (M1 := SttD a c (ptS wide d)) (ej_tup (is := [dI (ptG wide d).1, dI (ptG wide d).2]) (aj_cons (M1 := SttD a c (trn (2 * wide + 1) d)) (ej_sub (n := (trn (2 * wide + 1) d).1) (m := wide) (ej_drawD GD hr (d := d) (ej_name 0) (ej_add (n := 2 * wide) (m := 1) (ej_mul (n := 2) (m := wide) ej_int (ej_name 1) (.inl (by decide))) ej_int) (by omega) (by omega) hl) (ej_name 1)) (aj_cons (M1 := SttD a c (ptS wide d)) (ej_sub (n := (trn (2 * wide + 1) (trn (2 * wide + 1) d)).1) (m := wide) (ej_drawD GD hr (d := trn (2 * wide + 1) d) (ej_name 0) (ej_add (n := 2 * wide) (m := 1) (ej_mul (n := 2) (m := wide) ej_int (ej_name 1) (.inl (by decide))) ej_int) (by omega) (by omega) l1) (ej_name 1)) aj_nil))) ⟨rfl, [], (List.append_nil _).symm⟩
theorem d_law_turned (T : Txt K mg) : Def P w K mg base "_law_turned" 1 CoTn := by
  obtain ⟨f, fd, F, hm, hb⟩ := T.f_law_turned
  refine def_ok F sc_law_turned hm hb (fun is M i M' h => ?_) fun X hX N is M i M' hF hC => ?_
  · obtain ⟨rfl, rfl, p, t, rfl, _⟩ := h
    exact ⟨rfl, rfl⟩
  · obtain ⟨cdv, A, outer, sh, H, E, rfl, hr⟩ := hX
    obtain ⟨rfl, rfl, p, t, rfl, ht, rfl⟩ := hC
    have nd := sc_law_turned.nd
    obtain ⟨x, y⟩ := p
    have ix : atI [PyData.tuple [.int x, .int y], .tuple [.int (-y), .int x], .tuple [.int (-x), .int (-y)], .tuple [.int y, .int (-x)]] (t : Int) = some (pD (rt4 t (x, y))) := by
      match t, ht with
      | 0, _ => rfl
      | 1, _ => rfl
      | 2, _ => rfl
      | 3, _ => rfl
    refine sj_asgG (i := .d (.tuple [.int x, .int y])) (M1 := []) (ej_name 0) (gj_tup (ds := [.int x, .int y]) rfl (gs_cons 2 nd (gs_cons 3 nd gs_nil))) ?_
    exact sj_ret (ej_ixL (n := (t : Int)) (jl4 (jt2 (ej_name 2) (ej_name 3)) (jt2 (A := .int (-y)) (ej_is (ej_sub (n := 0) (m := y) ej_int (ej_name 3)) (by rw [Int.zero_sub])) (ej_name 2)) (jt2 (A := .int (-x)) (B := .int (-y)) (ej_is (ej_sub (n := 0) (m := x) ej_int (ej_name 2)) (by rw [Int.zero_sub])) (ej_is (ej_sub (n := 0) (m := y) ej_int (ej_name 3)) (by rw [Int.zero_sub]))) (jt2 (B := .int (-x)) (ej_name 3) (ej_is (ej_sub (n := 0) (m := x) ej_int (ej_name 2)) (by rw [Int.zero_sub])))) (ej_name 1) ix) ⟨rfl, [], rfl⟩
theorem d_law_whole (T : Txt K mg) : Def P w K mg base "_law_whole" 2 CoWho := by
  obtain ⟨f, fd, F, hm, hb⟩ := T.f_law_whole
  have GT := d_law_turned (P := P) (w := w) (base := base) T
  refine def_ok F sc_law_whole hm hb (fun is M i M' h => ?_) fun X hX N is M i M' hF hC => ?_
  · obtain ⟨rfl, rfl, A, B, o, ts, t, rfl, _⟩ := h
    exact ⟨rfl, rfl⟩
  · obtain ⟨cdv, Ar, outer, sh, H, E, rfl, hr⟩ := hX
    obtain ⟨rfl, rfl, A, B, o, ts, t, rfl, ht, O, L, hA, rfl⟩ := hC
    have nd := sc_law_whole.nd
    have ho := O.ne
    have lo := O.le
    have l4 := L.le
    have o1 : 1 ≤ o.length := List.length_pos_iff.mpr ho
    have t1 : 1 ≤ ts.length := List.length_pos_iff.mpr L.ne
    have l1 : atI [PyData.str "line", .tuple (psD ts)] 1 = some (.tuple (psD ts)) := atI_nat (j := 1) rfl
    refine sj_own (M1 := []) 3 (is := itG (List.replicate (o.length + ts.length - 1) g0)) nd (el_zeros (by omega) (jl1 (jt2 ej_int ej_int)) (ej_is (ej_sub (n := (o.length : Int) + (ts.length : Int)) (m := 1) (ej_add (n := (o.length : Int)) (m := (ts.length : Int)) (ej_is (ej_lenT (ds := psD o) T.b_len (ej_name 0)) (by rw [psD_len])) (ej_is (ej_lenT (ds := psD ts) T.b_len (ej_ixT (ds := [.str "line", .tuple (psD ts)]) (ej_name 1) ej_int l1)) (by rw [psD_len]))) ej_int) (by refine congrArg dI ?_; omega))) fun p hpF => ?_
    refine sj_forR (m := (o.length : Int)) (M1 := [(p, itG (List.replicate (o.length + ts.length - 1) g0))]) rfl T.b_range (ej_is (ej_lenT (ds := psD o) T.b_len (ej_name 0)) (by rw [psD_len])) (by omega) (fun j ρ M => ∃ y4 y5 y6 y7 y8 y9, ρ = [some (.d (opD o)), some (.d (lnD ts)), some (dI (t : Int)), some (.v (.ref p)), y4, y5, y6, y7, y8, y9, none] ∧ M = [(p, itG (mulAt (List.replicate (o.length + ts.length - 1) g0) 0 (o.take j) ts))]) ⟨none, none, none, none, none, none, rfl, rfl⟩ (fun j ρ M hj hI => ?_) fun ρ M hI => ?_
    · obtain ⟨y4, y5, y6, y7, y8, y9, rfl, rfl⟩ := hI
      have jl : j < o.length := by omega
      obtain ⟨pt0, hp0⟩ : ∃ q, o[j]? = some q := ⟨_, List.getElem?_eq_getElem jl⟩
      have pb := (O.bd pt0 (List.mem_of_getElem? hp0)).sm (by omega)
      refine ⟨_, gj_name 4 nd, ?_⟩
      generalize hL : mulAt (List.replicate (o.length + ts.length - 1) g0) 0 (o.take j) ts = LL
      have hLl : LL.length = o.length + ts.length - 1 := by rw [← hL, mulAt_len, List.length_replicate]
      refine sj_forR (m := (ts.length : Int)) (M1 := [(p, itG LL)]) rfl T.b_range (ej_is (ej_lenT (ds := psD ts) T.b_len (ej_ixT (ds := [.str "line", .tuple (psD ts)]) (ej_name 1) ej_int l1)) (by rw [psD_len])) (by omega) (fun k ρ M => ∃ y5 y6 y7 y8 y9, ρ = [some (.d (opD o)), some (.d (lnD ts)), some (dI (t : Int)), some (.v (.ref p)), some (dI (j : Int)), y5, y6, y7, y8, y9, none] ∧ M = [(p, itG (addAt LL j (scl pt0 (ts.take k))))]) ⟨y5, y6, y7, y8, y9, rfl, by rw [List.take_zero]; show _ = [(p, itG (addAt LL j []))]; rw [addAt_nil]⟩ (fun k ρ M hk hI => ?_) fun ρ M hI => ?_
      · obtain ⟨y5, y6, y7, y8, y9, rfl, rfl⟩ := hI
        have kl : k < ts.length := by omega
        obtain ⟨t0, ht0⟩ : ∃ q, ts[k]? = some q := ⟨_, List.getElem?_eq_getElem kl⟩
        have tl : (scl pt0 (ts.take k)).length = k := by rw [scl_len, List.length_take]; omega
        generalize hL2 : addAt LL j (scl pt0 (ts.take k)) = L2
        have hL2l : L2.length = o.length + ts.length - 1 := by rw [← hL2, addAt_len, hLl]
        have hix : j + k < L2.length := by omega
        obtain ⟨u, hu⟩ : ∃ u, L2[j + k]? = some u := ⟨_, List.getElem?_eq_getElem hix⟩
        have e1 : addAt LL j (scl pt0 (ts.take (k + 1))) = L2.set (j + k) (gadd u (gmul pt0 t0)) := by
          have e2 : scl pt0 (ts.take (k + 1)) = scl pt0 (ts.take k) ++ [gmul pt0 t0] := by
            rw [take_snoc ht0]
            unfold scl
            rw [List.map_append]
            rfl
          rw [e2, addAt_snoc _ LL j _ u (by rw [hL2, tl]; exact hu), hL2, tl]
        rw [e1]
        have eix : ((j : Int) + (k : Int)) = ((j + k : Nat) : Int) := by omega
        obtain ⟨pa, pb'⟩ := pt0
        obtain ⟨tc, td⟩ := t0
        have gv : pD (gadd u (gmul (pa, pb') (tc, td))) = .tuple [.int (u.1 + pa * tc - pb' * td), .int (u.2 + pa * td + pb' * tc)] := by
          show PyData.tuple [.int (u.1 + (pa * tc - pb' * td)), .int (u.2 + (pa * td + pb' * tc))] = _
          rw [← Int.add_sub_assoc, ← Int.add_assoc]
        refine ⟨_, gj_name 5 nd, ?_⟩
        refine sj_asgG (i := .d (pD (pa, pb'))) (M1 := [(p, itG L2)]) (ej_ixT (ds := psD o) (ej_name 0) (ej_name (i := dI (j : Int)) 4) (psD_at hp0)) (gj_tup (ds := [.int pa, .int pb']) rfl (gs_cons 6 nd (gs_cons 7 nd gs_nil))) ?_
        refine sj_asgG (i := .d (pD (tc, td))) (M1 := [(p, itG L2)]) (ej_ixT (ds := psD ts) (ej_ixT (ds := [.str "line", .tuple (psD ts)]) (ej_name 1) ej_int l1) (ej_name (i := dI (k : Int)) 5) (psD_at ht0)) (gj_tup (ds := [.int tc, .int td]) rfl (gs_cons 8 nd (gs_cons 9 nd gs_nil))) ?_
        refine sj_setO (p := p) (n := j + k) (is := itG L2) (i := .d (pD (gadd u (gmul (pa, pb') (tc, td))))) (M1 := [(p, itG L2)]) (M2 := [(p, itG L2)]) (ej_is (jt2 (A := .int (u.1 + pa * tc - pb' * td)) (B := .int (u.2 + pa * td + pb' * tc)) (ej_sub (n := u.1 + pa * tc) (m := pb' * td) (ej_add (n := u.1) (m := pa * tc) (ej_pt1 (ej_ixO (is := itG L2) (ej_name 3) (ej_is (ej_add (n := (j : Int)) (m := (k : Int)) (ej_name 4) (ej_name 5)) (congrArg (fun z => dI z) eix)) (List.mem_singleton.mpr rfl) (itG_at hu)) ej_int) (ej_mul (n := pa) (m := tc) (ej_name 6) (ej_name 8) (.inl pb.1))) (ej_mul (n := pb') (m := td) (ej_name 7) (ej_name 9) (.inl pb.2))) (ej_add (n := u.2 + pa * td) (m := pb' * tc) (ej_add (n := u.2) (m := pa * td) (ej_pt2 (ej_ixO (is := itG L2) (ej_name 3) (ej_is (ej_add (n := (j : Int)) (m := (k : Int)) (ej_name 4) (ej_name 5)) (congrArg (fun z => dI z) eix)) (List.mem_singleton.mpr rfl) (itG_at hu)) ej_int) (ej_mul (n := pa) (m := td) (ej_name 6) (ej_name 9) (.inl pb.1))) (ej_mul (n := pb') (m := tc) (ej_name 7) (ej_name 8) (.inl pb.2)))) (by rw [gv])) (ej_name 3) (ej_is (ej_add (n := (j : Int)) (m := (k : Int)) (ej_name 4) (ej_name 5)) (congrArg (fun z => dI z) eix)) (List.mem_singleton.mpr rfl) (by rw [itG_len]; exact hix) ?_
        rw [itG_set]
        refine sj_nil ⟨_, _, _, _, _, rfl, ?_⟩
        simp [Mem.put]
      · obtain ⟨y5, y6, y7, y8, y9, rfl, rfl⟩ := hI
        refine sj_nil ⟨_, _, _, _, _, _, rfl, ?_⟩
        rw [take_snoc hp0, mulAt_snoc, hL, Int.toNat_natCast, List.take_length]
        have : 0 + (o.take j).length = j := by rw [List.length_take]; omega
        rw [this]
    · obtain ⟨y4, y5, y6, y7, y8, y9, rfl, rfl⟩ := hI
      rw [Int.toNat_natCast, List.take_length, mul_conv ho L.ne, itG_d]
      have cl := conv_len L.ne ho
      refine sj_frzT (Mb := []) 3 (ds := psD (conv o ts)) rfl hpF ?_
      refine sj_ret (ej_el (ds := psD (tolG o ts t)) (el_compW1 10 (ds := psD (conv o ts)) (M1 := []) (fun j => itG (((conv o ts).take j).map (rt4 t))) (fun _ => []) rfl nd (iw_list (ej_name 3)) (fun _ _ => trivial) rfl rfl (by rw [psD_len]; omega) (fun j d hd => ?_)) ?_) ⟨rfl, [], rfl⟩
      · obtain ⟨q, hq, rfl⟩ := psD_inv hd
        refine ⟨.d (pD (rt4 t q)), ?_, by rw [itG_len, List.length_map]; exact List.length_take_le .., fun N' s' Hh C cl fp' => ej_callP GT hr (aj_cons (ej_name (i := .d (pD q)) 10) (aj_cons (ej_name (i := dI (t : Int)) 2) aj_nil)) ⟨rfl, rfl, q, t, rfl, ht, rfl⟩⟩
        rw [take_snoc hq, List.map_append, List.map_singleton, itG_app]
      · rw [psD_len, List.take_length]
        rfl
theorem d_law_arrival (T : Txt K mg) : Def P w K mg base "_law_arrival" 3 CoLar := by
  obtain ⟨f, fd, F, hm, hb⟩ := T.f_law_arrival
  have GW := d_law_whole (P := P) (w := w) (base := base) T
  refine def_ok F sc_law_arrival hm hb (fun is M i M' h => ?_) fun X hX N is M i M' hF hC => ?_
  · obtain ⟨rfl, rfl, A, B, o, ts, t, place, slack, rfl, _⟩ := h
    exact ⟨rfl, rfl⟩
  · obtain ⟨cdv, Ar, outer, sh, H, E, rfl, hr⟩ := hX
    obtain ⟨rfl, rfl, A, B, o, ts, t, place, slack, rfl, ht, O, L, hA, hps, hs, rfl⟩ := hC
    have nd := sc_law_arrival.nd
    have lo := O.le
    have l4 := L.le
    have tl := tol_len O.ne L.ne t
    refine sj_own (M1 := []) 5 (is := itG (arF (tolG o ts t) place (slack + o.length) 0)) nd (by rw [arF_0]; exact el_zeros (by omega) (jl1 (jt2 ej_int ej_int)) (ej_is (ej_add (n := (slack : Int)) (m := (o.length : Int)) (ej_name 4) (ej_is (ej_lenT (ds := psD o) T.b_len (ej_name 0)) (by rw [psD_len]))) (by rw [Int.natCast_add]))) fun p hpF => ?_
    refine sj_set 6 (i := .d (.list (psD (tolG o ts t)))) (M1 := [(p, itG (arF (tolG o ts t) place (slack + o.length) 0))]) nd (ej_callP GW hr (aj_cons (ej_name (i := .d (opD o)) 0) (aj_cons (ej_name (i := .d (lnD ts)) 1) (aj_cons (ej_name (i := dI (t : Int)) 2) aj_nil))) ⟨rfl, rfl, A, B, o, ts, t, rfl, ht, O, L, hA, rfl⟩) ?_
    have ear := arF_arr O.ne L.ne place t slack hps
    rw [← ear]
    generalize tolG o ts t = W at tl ⊢
    refine sj_forR (m := (W.length : Int)) (M1 := [(p, itG (arF W place (slack + o.length) 0))]) rfl T.b_range (ej_is (ej_lenL (ds := psD W) T.b_len (ej_name 6)) (by rw [psD_len])) (by omega) (fun k ρ M => ∃ y7, ρ = [some (.d (opD o)), some (.d (lnD ts)), some (dI (t : Int)), some (dI (place : Int)), some (dI (slack : Int)), some (.v (.ref p)), some (.d (.list (psD W))), y7] ∧ M = [(p, itG (arF W place (slack + o.length) k))]) ⟨none, rfl, rfl⟩ (fun k ρ M hk hI => ?_) fun ρ M hI => ?_
    · obtain ⟨y7, rfl, rfl⟩ := hI
      have kl : k < W.length := by omega
      obtain ⟨q, hq⟩ : ∃ q, W[k]? = some q := ⟨_, List.getElem?_eq_getElem kl⟩
      refine ⟨_, gj_name 7 nd, ?_⟩
      refine sj_if (t := decide ((place : Int) + (k : Int) < ((slack + o.length : Nat) : Int))) (M1 := [(p, itG (arF W place (slack + o.length) k))]) (tj_lt (n := (place : Int) + (k : Int)) (m := ((slack + o.length : Nat) : Int)) (ej_add (ej_name 3) (ej_name 7)) (ej_is (ej_lenO (o := p) (is := itG (arF W place (slack + o.length) k)) T.b_len (ej_name 5) (List.mem_singleton.mpr rfl)) (by rw [itG_len, arF_len]))) (fun h => ?_) fun h => ?_
      · have h := of_decide_eq_true h
        rw [arF_set hq (by omega)]
        refine sj_setO (p := p) (n := place + k) (is := itG (arF W place (slack + o.length) k)) (i := .d (pD q)) (M2 := [(p, itG (arF W place (slack + o.length) k))]) (ej_ixL (ds := psD W) (ej_name 6) (ej_name (i := dI (k : Int)) 7) (psD_at hq)) (ej_name 5) (ej_is (ej_add (n := (place : Int)) (m := (k : Int)) (ej_name 3) (ej_name 7)) (by rw [Int.natCast_add])) (List.mem_singleton.mpr rfl) (by rw [itG_len, arF_len]; omega) ?_
        rw [itG_set]
        refine sj_nil (sj_nil ⟨_, rfl, ?_⟩)
        simp [Mem.put]
      · have h := of_decide_eq_false h
        rw [arF_hi (by omega)]
        exact sj_nil (sj_nil ⟨_, rfl, rfl⟩)
    · obtain ⟨y7, rfl, rfl⟩ := hI
      rw [Int.toNat_natCast, itG_d]
      refine sj_frzT (Mb := []) 5 (ds := psD (arF W place (slack + o.length) W.length)) rfl hpF ?_
      exact sj_ret (ej_name 5) ⟨rfl, [], rfl⟩
theorem d_law_cost (T : Txt K mg) : Def P w K mg base "_law_cost" 1 CoLcs := by
  obtain ⟨f, fd, F, hm, hb⟩ := T.f_law_cost
  refine def_ok F sc_law_cost hm hb (fun is M i M' h => ?_) fun X hX N is M i M' hF hC => ?_
  · obtain ⟨rfl, rfl, row, place, ss, rfl, _⟩ := h
    exact ⟨rfl, rfl⟩
  · obtain ⟨cdv, A, outer, sh, H, E, rfl, hr⟩ := hX
    obtain ⟨rfl, rfl, row, place, ss, rfl, hp, hl, hs, rfl⟩ := hC
    have nd := sc_law_cost.nd
    refine sj_set 3 (i := dI (((csL row (ss.drop place)).take 0).sum)) (M1 := []) nd ej_int ?_
    refine sj_forR (m := (row.length : Int)) (M1 := []) rfl T.b_range (ej_is (ej_lenL (ds := psD row) T.b_len (ej_name 0)) (by rw [psD_len])) (by omega) (fun j ρ M => ∃ y4 y5 y6, ρ = [some (.d (.list (psD row))), some (.d (.list (osD ss))), some (dI (place : Int)), some (dI (((csL row (ss.drop place)).take j).sum)), y4, y5, y6] ∧ M = []) ⟨none, none, none, rfl, rfl⟩ (fun j ρ M hj hI => ?_) fun ρ M hI => ?_
    · obtain ⟨y4, y5, y6, rfl, rfl⟩ := hI
      have jl : j < row.length := by omega
      obtain ⟨q, hq⟩ : ∃ q, row[j]? = some q := ⟨_, List.getElem?_eq_getElem jl⟩
      obtain ⟨u, hu⟩ : ∃ u, ss[place + j]? = some u := ⟨_, List.getElem?_eq_getElem (by omega)⟩
      have ez : (csL row (ss.drop place))[j]? = some (cstG q u) := by
        unfold csL
        rw [List.getElem?_zipWith_eq_some]
        exact ⟨q, u, hq, by rw [List.getElem?_drop]; exact hu, rfl⟩
      have es : ((csL row (ss.drop place)).take (j + 1)).sum = ((csL row (ss.drop place)).take j).sum + cstG q u := by
        rw [take_snoc ez, List.sum_append]
        simp
      have sat : atI (osD ss) ((place + j : Nat) : Int) = some (optD u) := atI_nat (j := place + j) (by unfold osD; rw [List.getElem?_map, hu]; rfl)
      rw [es]
      generalize ((csL row (ss.drop place)).take j).sum = tot
      refine ⟨_, gj_name 4 nd, ?_⟩
      cases u with
      | none =>
        rw [show cstG q none = 0 from rfl, Int.add_zero]
        exact sj_if (t := false) (M1 := []) (tj_is (tj_notNo (d := .none) (ej_ixL (ds := osD ss) (ej_name 1) (ej_is (ej_add (n := (place : Int)) (m := (j : Int)) (ej_name 2) (ej_name 4)) (by rw [Int.natCast_add])) sat) ej_non) rfl) (fun h => nomatch h) fun _ => sj_nil (sj_nil ⟨_, _, _, rfl, rfl⟩)
      | some s =>
        have hsm := hs q (List.mem_of_getElem? hq) s (List.mem_of_getElem? hu)
        have ec : cstG q (some s) = (s.1 - q.1) ^ ((2 : Int)).toNat + (s.2 - q.2) ^ ((2 : Int)).toNat := by
          show (q.1 - s.1) * (q.1 - s.1) + (q.2 - s.2) * (q.2 - s.2) = (s.1 - q.1) ^ 2 + (s.2 - q.2) ^ 2
          rw [sq_sub, sq_sub]
        have b1 : -18446744073709551616 < q.1 - s.1 ∧ q.1 - s.1 < 18446744073709551616 := hsm.1
        have b2 : -18446744073709551616 < q.2 - s.2 ∧ q.2 - s.2 < 18446744073709551616 := hsm.2
        rw [ec, ← Int.add_assoc]
        refine sj_if (t := true) (M1 := []) (tj_is (tj_notNo (d := pD s) (ej_ixL (ds := osD ss) (ej_name 1) (ej_is (ej_add (n := (place : Int)) (m := (j : Int)) (ej_name 2) (ej_name 4)) (by rw [Int.natCast_add])) sat) ej_non) rfl) (fun _ => ?_) fun h => nomatch h
        refine sj_asgG (i := .d (pD s)) (M1 := []) (ej_ixL (ds := osD ss) (ej_name 1) (ej_is (ej_add (n := (place : Int)) (m := (j : Int)) (ej_name 2) (ej_name 4)) (by rw [Int.natCast_add])) sat) (gj_tup (ds := [.int s.1, .int s.2]) rfl (gs_cons 5 nd (gs_cons 6 nd gs_nil))) ?_
        refine sj_set 3 (i := dI (tot + (s.1 - q.1) ^ ((2 : Int)).toNat + (s.2 - q.2) ^ ((2 : Int)).toNat)) (M1 := []) nd (ej_add (n := tot + (s.1 - q.1) ^ ((2 : Int)).toNat) (m := (s.2 - q.2) ^ ((2 : Int)).toNat) (ej_add (n := tot) (m := (s.1 - q.1) ^ ((2 : Int)).toNat) (ej_name 3) (ej_pow (n := s.1 - q.1) (m := 2) (ej_sub (n := s.1) (m := q.1) (ej_name 5) (ej_pt1 (ej_ixL (ds := psD row) (ej_name 0) (ej_name (i := dI (j : Int)) 4) (psD_at hq)) ej_int)) ej_int ⟨by decide, by decide, by omega⟩)) (ej_pow (n := s.2 - q.2) (m := 2) (ej_sub (n := s.2) (m := q.2) (ej_name 6) (ej_pt2 (ej_ixL (ds := psD row) (ej_name 0) (ej_name (i := dI (j : Int)) 4) (psD_at hq)) ej_int)) ej_int ⟨by decide, by decide, by omega⟩)) ?_
        exact sj_nil (sj_nil ⟨_, _, _, rfl, rfl⟩)
    · obtain ⟨y4, y5, y6, rfl, rfl⟩ := hI
      have ln : row.length = (csL row (ss.drop place)).length := by
        unfold csL
        rw [List.length_zipWith, List.length_drop]
        omega
      rw [Int.toNat_natCast, ln, List.take_length]
      exact sj_ret (ej_name 3) ⟨rfl, [], rfl⟩
end

/-! ### openings, lines, shapes, guesses: drawn -/
def PreOp : Pre := fun is M => ∃ (a c : Addr) (d : DT) (most : Nat), is = [.v (.ref a), dI (most : Int)] ∧ M = SttD a c d ∧ d.2.1.length ≤ 63 ∧ 1 ≤ most ∧ most ≤ 64
def CoOp : Co := fun is M i M' => ∀ (a c : Addr) (d : DT) (most : Nat), is = [.v (.ref a), dI (most : Int)] → M = SttD a c d → ∃ (d' : DT) (o : List Gp), i = .d (opD o) ∧ OpOk 3 o ∧ o.length ≤ most ∧ (∃ p ∈ o, p ≠ g0) ∧ M' = SttD a c d' ∧ d'.2.1.length ≤ 63
theorem sttD_inj {a c a' c' : Addr} {d d' : DT} (h : SttD a c d = SttD a' c' d') : a = a' ∧ c = c' := by
  unfold SttD Stt at h
  injection h with h1 h2
  injection h1 with h1 h3
  injection h2 with h2 h4
  injection h2 with h2 h5
  exact ⟨h1, h2⟩
theorem ix_last {n : Nat} (h : 1 ≤ n) : ixN n (-1) = some (n - 1) := by
  unfold ixN
  rw [if_neg (by decide), if_pos (by omega)]
  refine congrArg some ?_
  omega
def lwL : List PyData := [.int 1, .int 1, .int 2]
theorem lw_ok : WlOk lwL 2 := ⟨by unfold lwL; simp, by decide, fun x hx => by
  unfold lwL at hx
  simp only [List.mem_cons, List.not_mem_nil, or_false] at hx
  rcases hx with rfl | rfl | rfl
  · exact ⟨1, rfl, by decide, by decide⟩
  · exact ⟨1, rfl, by decide, by decide⟩
  · exact ⟨2, rfl, by decide, by decide⟩⟩
def shN (o : List Gp) (ls : List (List Gp)) (t n : Nat) : DT' := ((List.range t).flatMap fun t => (List.range ls.length).map (shE o ls t)) ++ (List.range n).map (shE o ls t)
theorem shN_succ {o : List Gp} {ls : List (List Gp)} {t n : Nat} : putT (shN o ls t n) [.inl (t : Int), .inl (n : Int)] (.list (psD (shpG o (ls.getD n []) t))) = shN o ls t (n + 1) := by
  rw [putT_new]
  · unfold shN
    rw [List.range_succ, List.map_append, List.append_assoc]
    rfl
  · intro e he hk
    unfold shN at he
    rcases List.mem_append.mp he with he | he
    · obtain ⟨t', ht', he⟩ := List.mem_flatMap.mp he
      obtain ⟨n', _, rfl⟩ := List.mem_map.mp he
      obtain ⟨rfl, _⟩ := sh_key hk
      exact absurd (List.mem_range.mp ht') (Nat.lt_irrefl _)
    · obtain ⟨n', hn', rfl⟩ := List.mem_map.mp he
      obtain ⟨_, rfl⟩ := sh_key hk
      exact absurd (List.mem_range.mp hn') (Nat.lt_irrefl _)
theorem shN_row {o : List Gp} {ls : List (List Gp)} {t : Nat} : shN o ls t ls.length = shN o ls (t + 1) 0 := by
  unfold shN
  rw [List.range_succ, List.flatMap_append, List.flatMap_singleton, List.range_zero, List.map_nil, List.append_nil]
theorem shN_len (o : List Gp) (ls : List (List Gp)) (t n : Nat) : (shN o ls t n).length = t * ls.length + n := by
  unfold shN
  rw [List.length_append, List.length_map, List.length_range, List.length_flatMap]
  simp only [List.length_map, List.length_range]
  rw [List.map_const', List.length_range]
  congr 1
  induction t with
  | zero => simp
  | succ t ih => rw [List.replicate_succ, List.sum_cons, ih, Nat.succ_mul, Nat.add_comm]
def gpL (L p : Nat) : List PyData := (List.range p).flatMap fun p => (List.range 4).flatMap fun t => (List.range L).map (gsD p t)
def gtL (L p t : Nat) : List PyData := gpL L p ++ (List.range t).flatMap fun t => (List.range L).map (gsD p t)
theorem gpL_succ (L p : Nat) : gtL L p 4 = gpL L (p + 1) := by
  unfold gtL gpL
  rw [show List.range (p + 1) = List.range p ++ [p] from List.range_succ, List.flatMap_append, List.flatMap_singleton]
theorem gtL_succ (L p t : Nat) : gtL L p t ++ (List.range L).map (gsD p t) = gtL L p (t + 1) := by
  unfold gtL
  rw [List.range_succ, List.flatMap_append, List.flatMap_singleton, List.append_assoc]
theorem sum_const (f : Nat) : ∀ n, (List.replicate n f).sum = n * f
  | 0 => (Nat.zero_mul f).symm
  | n + 1 => by rw [List.replicate_succ, List.sum_cons, sum_const f n, Nat.succ_mul, Nat.add_comm]
theorem gpL_len (L p : Nat) : (gpL L p).length = p * (4 * L) := by
  unfold gpL
  rw [List.length_flatMap]
  have : ∀ q, ((List.range 4).flatMap fun t => (List.range L).map (gsD q t)).length = 4 * L := fun q => by
    rw [List.length_flatMap]
    simp only [List.length_map, List.length_range]
    rw [List.map_const', List.length_range, sum_const]
  simp only [this]
  rw [List.map_const', List.length_range, sum_const]
theorem gtL_len (L p t : Nat) : (gtL L p t).length = p * (4 * L) + t * L := by
  unfold gtL
  rw [List.length_append, gpL_len, List.length_flatMap]
  simp only [List.length_map, List.length_range]
  rw [List.map_const', List.length_range, sum_const]
def lw98 : List PyData := [.int 1, .int 1, .int 2, .int 50]
theorem lw98_ok : WlOk lw98 50 := ⟨by unfold lw98; simp, by decide, fun x hx => by
  unfold lw98 at hx
  simp only [List.mem_cons, List.not_mem_nil, or_false] at hx
  rcases hx with rfl | rfl | rfl | rfl
  · exact ⟨1, rfl, by decide, by decide⟩
  · exact ⟨1, rfl, by decide, by decide⟩
  · exact ⟨2, rfl, by decide, by decide⟩
  · exact ⟨50, rfl, by decide, by decide⟩⟩
section
variable {P : Program} {w : World} {K : PySem.W.Frag} {mg : Str → Option Value} {base : Heap}
theorem d_law_line (T : Txt K mg) : Def P w K mg base "_law_line" 3 (CoLn lw98 4) := by
  obtain ⟨f, fd, F, hm, hb⟩ := T.f_law_line
  have GD := d_law_draw (P := P) (w := w) (base := base) T
  have GK := d_law_pick (P := P) (w := w) (base := base) T
  have GP := d_law_point (P := P) (w := w) (base := base) T
  refine def_ok F sc_law_line hm hb (fun is M i M' h => ?_) fun X hX N is M i M' hF hC => ?_
  · obtain ⟨a, c, d, rfl, rfl, _, _, rfl⟩ := h
    exact ⟨rfl, sttD_fst _ _ _ _⟩
  · obtain ⟨cdv, A, outer, sh, Hp, E, rfl, hr⟩ := hX
    obtain ⟨a, c, d0, rfl, rfl, hl, rfl, rfl⟩ := hC
    have nd := sc_law_line.nd
    have hu := st_units hr
    have hr1 : Room 1 (A.deeper (envOfC "_law_line" (defScope s_law_line) sh.heap.objs.size f cdv)) := hr.mono (by decide)
    have hr2 : Room 2 (A.deeper (envOfC "_law_line" (defScope s_law_line) sh.heap.objs.size f cdv)) := hr
    obtain ⟨x, ex, wx, l1⟩ := trn_nat (n := 4) (by decide) d0 hl
    have e2 : lnG lw98 4 d0 = fixG (ltL lw98 (trn 4 d0) (x + 1)) 0 (0, 1) := by
      unfold lnG
      rw [ex, Int.toNat_natCast]
    have e3 : lnS lw98 4 d0 = ltS lw98 (trn 4 d0) (x + 1) := by
      unfold lnS
      rw [ex, Int.toNat_natCast]
    rw [e2, e3]
    obtain ⟨d1, hd1⟩ : ∃ d, trn 4 d0 = d := ⟨_, rfl⟩
    rw [hd1] at ex l1 ⊢
    have pk := fun j => lt_ok lw98_ok l1 j
    obtain ⟨wl, hwl⟩ : ∃ wl, lw98 = wl := ⟨_, rfl⟩
    have wok := lw98_ok
    rw [hwl] at pk wok ⊢
    have w10 := wok.le
    refine sj_setcompR 1 2 (z := ((x + 1 : Nat) : Int)) (M1 := SttD a c d1) (fun j => itG (ltL wl d1 j)) (fun j => SttD a c (ltS wl d1 j)) rfl T.b_range nd (ej_m (ej_is (ej_add (n := 1) ej_int (ej_drawD GD hr1 (d := d0) (ej_name 0) ej_int (by decide) (by decide) hl)) (by rw [hd1, ex]; refine congrArg dI ?_; omega)) (by rw [hd1])) rfl rfl (by omega) (fun j hj => ⟨.d (pD (lnP wl (ltS wl d1 j))), itG_app _ _, by rw [itG_len, (pk j).2.1]; exact Nat.le_refl _, fun N' s H C cl fp => ?_⟩) fun o ho => ?_
    · obtain ⟨w1, w2, w3⟩ := wok.w (ltS wl d1 j)
      exact ej_m (ej_call GP hr2 (Mc := SttD a c (trn (wl.length : Int) (ltS wl d1 j))) (Mc' := SttD a c (ltS wl d1 (j + 1))) (Mr := []) (aj_cons (M1 := SttD a c (ltS wl d1 j)) (ej_name 0) (aj_cons (i := dI (lnW wl (ltS wl d1 j))) (M1 := SttD a c (trn (wl.length : Int) (ltS wl d1 j))) (ej_is (ej_pickD GK hr2 (d := ltS wl d1 j) (ds := wl) (ej_name 0) (by rw [← hwl]; exact jr_list (jd_cons ej_int (jd_cons ej_int (jd_cons ej_int (jd_cons ej_int jd_nil)))) (by show 4 ≤ 1000; decide)) wok.ne (by omega) (pk j).1) (by rw [w1])) aj_nil)) (List.append_nil _).symm ⟨a, c, trn (wl.length : Int) (ltS wl d1 j), lnW wl (ltS wl d1 j), rfl, rfl, trn_len _ _ (pk j).1, by omega, by omega, rfl, rfl⟩ rfl) (List.append_nil _)
    rw [Int.toNat_natCast]
    obtain ⟨ps1, ps2, ps3⟩ := pk (x + 1)
    clear pk
    generalize ltS wl d1 (x + 1) = d2 at ps1 ⊢
    generalize ltL wl d1 (x + 1) = l at ps2 ps3 ⊢
    refine (fun (key : SJ _ N [some (.v (.ref a)), some (.v (.ref o)), none] (SttD a c d2 ++ [(o, itG (fixG l 0 (0, 1)))]) _ _) => sj_nd fun ndm => sj_if (t := decide (((l.countP fun p => decide (p = g0) : Nat) : Int) = (l.length : Int))) (M1 := SttD a c d2 ++ [(o, itG l)]) (tj_eqI (ej_is (ej_countO (o := o) (ds := psD l) (d := pD g0) hu (ej_name 1) (by simp [itG]) (jt2 ej_int ej_int) (by simp [itG]) (psD_plain l) (pD_plain g0)) ?_) (ej_is (ej_lenO (o := o) (is := itG l) T.b_len (ej_name 1) (by simp)) (by rw [itG_len]))) (fun h => ?_) (fun h => sj_nil (sj_is key rfl ?_))) ?_
    · refine congrArg (fun n : Nat => dI (n : Int)) ?_
      unfold psD
      rw [List.countP_map]
      refine List.countP_congr fun p _ => ?_
      show PyData.eqv (pD p) (pD g0) = true ↔ _
      rw [eqv_pD]
    · have hz : ∀ p ∈ l, p = g0 := by
        have h := of_decide_eq_true h
        have h : (l.countP fun p => decide (p = g0)) = l.length := by omega
        intro p hp
        exact of_decide_eq_true (List.countP_eq_length.mp h p hp)
      refine sj_setO (p := o) (is := itG l) (n := 0) (i := .d (pD (0, 1))) (M1 := SttD a c d2 ++ [(o, itG l)]) (M2 := SttD a c d2 ++ [(o, itG l)]) (jt2 ej_int ej_int) (ej_name 1) ej_int (by simp) (by rw [itG_len]; omega) ?_
      rw [put_end ndm, itG_set]
      have ef : fixG l 0 (0, 1) = l.set 0 (0, 1) := if_pos hz
      rw [← ef]
      exact sj_nil key
    · have ef : fixG l 0 (0, 1) = l := by
        refine if_neg fun hz => ?_
        have h := of_decide_eq_false h
        exact h (congrArg (fun n : Nat => (n : Int)) (List.countP_eq_length.mpr fun p hp => decide_eq_true (hz p hp)))
      rw [ef]
    · generalize fixG l 0 (0, 1) = o'
      exact sj_ret (jt2 ej_str (ej_tupleO (o := o) (ds := psD o') T.b_tuple (ej_name 1) (by simp [itG]))) ⟨rfl, _, rfl⟩
theorem d_law_shapes (T : Txt K mg) : Def P w K mg base "_law_shapes" 3 CoShs := by
  obtain ⟨f, fd, F, hm, hb⟩ := T.f_law_shapes
  have GW := d_law_whole (P := P) (w := w) (base := base) T
  refine def_ok F sc_law_shapes hm hb (fun is M i M' h => ?_) fun X hX N is M i M' hF hC => ?_
  · obtain ⟨rfl, rfl, A, B, o, ls, rfl, _⟩ := h
    exact ⟨rfl, rfl⟩
  · obtain ⟨cdv, Ar, outer, sh, Hp, E, rfl, hr⟩ := hX
    obtain ⟨rfl, rfl, A, B, o, ls, rfl, O, L, hA, hls, rfl⟩ := hC
    have nd := sc_law_shapes.nd
    have hu := hu_of hr
    have eN : shT o ls = shN o ls 4 0 := (List.append_nil _).symm
    refine sj_uj (uj_newT 2 nd fun p => ?_)
    refine uj_for (ds := (List.range ((4 : Nat) : Int).toNat).map fun k : Nat => .int (k : Int)) (M1 := []) rfl (io_range T.b_range (fun N' _ => ej_is ej_int rfl) (by decide)) (fun t ρ M Θ => ∃ y3 y4, ρ = [some (.d (opD o)), some (.d (.list (lnsD ls))), some (.v (.ref p)), y3, y4] ∧ M = [] ∧ Θ = [(p, dtO (shN o ls t 0))]) ⟨none, none, rfl, rfl, rfl⟩ (fun t d ρ M Θ hd hI => ?_) fun ρ M Θ hI => ?_
    · obtain ⟨y3, y4, rfl, rfl, rfl⟩ := hI
      rw [List.getElem?_map] at hd
      obtain ⟨t', ht', rfl⟩ := Option.map_eq_some_iff.mp hd
      have t4 : t < 4 := by
        have := (List.getElem?_eq_some_iff.mp ht').1
        rw [List.length_range] at this
        omega
      rw [List.getElem?_range (by omega)] at ht'
      cases Option.some.inj ht'
      refine ⟨_, gj_name 3 nd, ?_⟩
      refine uj_for (ds := (List.range ((ls.length : Nat) : Int).toNat).map fun k : Nat => .int (k : Int)) (M1 := []) rfl (io_range T.b_range (fun N' _ => ej_is (ej_lenL (ds := lnsD ls) T.b_len (ej_name 1)) (by rw [lnsD_len])) (by omega)) (fun n ρ M Θ => ∃ y4, ρ = [some (.d (opD o)), some (.d (.list (lnsD ls))), some (.v (.ref p)), some (dI (t : Int)), y4] ∧ M = [] ∧ Θ = [(p, dtO (shN o ls t n))]) ⟨y4, rfl, rfl, rfl⟩ (fun n d ρ M Θ hd hI => ?_) fun ρ M Θ hI => ?_
      · obtain ⟨y4, rfl, rfl, rfl⟩ := hI
        rw [List.getElem?_map] at hd
        obtain ⟨n', hn', rfl⟩ := Option.map_eq_some_iff.mp hd
        have nl : n < ls.length := by
          have := (List.getElem?_eq_some_iff.mp hn').1
          rw [List.length_range] at this
          omega
        rw [List.getElem?_range (by omega)] at hn'
        cases Option.some.inj hn'
        obtain ⟨ts, hts⟩ : ∃ ts, ls[n]? = some ts := ⟨_, List.getElem?_eq_getElem nl⟩
        have LO := L ts (List.mem_of_getElem? hts)
        have eg : ls.getD n [] = ts := by rw [List.getD_eq_getElem?_getD, hts]; rfl
        have tl := tol_len O.ne LO.ne t
        have t1 : 1 ≤ ts.length := List.length_pos_iff.mpr LO.ne
        refine ⟨_, gj_name 4 nd, ?_⟩
        refine uj_putT (p := p) (es := shN o ls t n) (k := [.inl (t : Int), .inl (n : Int)]) (v := .list (psD (shpG o ts t))) (M1 := []) (M2 := []) (M3 := []) hu (List.mem_singleton.mpr rfl) (by
          rw [shN_len]
          have : t * ls.length ≤ 4 * ls.length := Nat.mul_le_mul_right _ (by omega)
          omega) (fun N' _ => ej_el (ds := psD (shpG o ts t)) (el_slLto (ds := psD (tolG o ts t)) (l := (o.length : Int)) (ej_callP GW hr (aj_cons (ej_name (i := .d (opD o)) 0) (aj_cons (ej_ixL (ds := lnsD ls) (ej_name 1) (ej_name (i := dI (n : Int)) 4) (lns_at hts)) (aj_cons (ej_name (i := dI (t : Int)) 3) aj_nil))) ⟨rfl, rfl, A, B, o, ts, t, rfl, by omega, O, LO, hA, rfl⟩) (ej_is (ej_lenT (ds := psD o) T.b_len (ej_name 0)) (by rw [psD_len]))) (by
            rw [cut_to (by rw [psD_len]; omega)]
            unfold shpG psD
            simp only [List.map_take])) (fun N' _ => ej_name 2) (fun N' _ => jt2 (ej_name 3) (ej_name 4)) (uj_nil ?_)
        refine ⟨_, rfl, rfl, ?_⟩
        rw [osput_one, ← eg, shN_succ]
      · obtain ⟨y4, rfl, rfl, rfl⟩ := hI
        refine uj_nil ⟨_, _, rfl, rfl, ?_⟩
        rw [List.length_map, List.length_range, Int.toNat_natCast, shN_row]
    · obtain ⟨y3, y4, rfl, rfl, rfl⟩ := hI
      rw [List.length_map, List.length_range, Int.toNat_natCast, ← eN]
      exact uj_freezeT 2 rfl (List.mem_singleton.mpr rfl) (uj_sj (sj_ret (ej_name 2) ⟨rfl, [], rfl⟩))
theorem d_law_guesses (T : Txt K mg) : Def P w K mg base "_law_guesses" 1 CoGu := by
  obtain ⟨f, fd, F, hm, hb⟩ := T.f_law_guesses
  refine def_ok F sc_law_guesses hm hb (fun is M i M' h => ?_) fun X hX N is M i M' hF hC => ?_
  · obtain ⟨rfl, rfl, ls, s, rfl, _⟩ := h
    exact ⟨rfl, rfl⟩
  · obtain ⟨cdv, Ar, outer, sh, Hp, E, rfl, hr⟩ := hX
    obtain ⟨rfl, rfl, ls, s, rfl, hls, hs, rfl⟩ := hC
    have nd := sc_law_guesses.nd
    have eg : guL ls.length s = gpL ls.length (s + 1) := rfl
    have ml : ∀ p t, p ≤ 101 → t ≤ 4 → (gtL ls.length p t).length ≤ 5000 := fun p t hp ht => by
      rw [gtL_len]
      have h1 : p * (4 * ls.length) ≤ 101 * (4 * ls.length) := Nat.mul_le_mul_right _ hp
      have h2 : t * ls.length ≤ 4 * ls.length := Nat.mul_le_mul_right _ ht
      omega
    rw [eg]
    refine sj_set 2 (i := .d (.list (gpL ls.length 0))) (M1 := []) nd jl0 ?_
    refine sj_forR (m := ((s + 1 : Nat) : Int)) (M1 := []) rfl T.b_range (ej_is (ej_add (n := (s : Int)) (m := 1) (ej_name 1) ej_int) (by rw [Int.natCast_add]; rfl)) (by omega) (fun p ρ M => ∃ y3 y4, ρ = [some (.d (.list (lnsD ls))), some (dI (s : Int)), some (.d (.list (gpL ls.length p))), y3, y4, none] ∧ M = []) ⟨none, none, rfl, rfl⟩ (fun p ρ M hp hI => ?_) fun ρ M hI => ?_
    · obtain ⟨y3, y4, rfl, rfl⟩ := hI
      refine ⟨_, gj_name 3 nd, ?_⟩
      obtain ⟨four, h4⟩ : ∃ c : Nat, c = 4 := ⟨_, rfl⟩
      refine sj_forR (m := (four : Int)) (M1 := []) rfl T.b_range (ej_is ej_int (by rw [h4]; rfl)) (by omega) (fun t ρ M => ∃ y4, ρ = [some (.d (.list (lnsD ls))), some (dI (s : Int)), some (.d (.list (gtL ls.length p t))), some (dI (p : Int)), y4, none] ∧ M = []) ⟨y4, by unfold gtL; rw [List.range_zero, List.flatMap_nil, List.append_nil]; rfl, rfl⟩ (fun t ρ M ht hI => ?_) fun ρ M hI => ?_
      · obtain ⟨y4, rfl, rfl⟩ := hI
        have mm := ml p t (by omega) (by omega)
        have gsu := gtL_succ ls.length p t
        rw [← gsu]
        generalize gtL ls.length p t = G at mm gsu ⊢
        refine ⟨_, gj_name 4 nd, ?_⟩
        refine sj_set 2 (i := .d (.list (G ++ (List.range ls.length).map (gsD p t)))) (M1 := []) nd (ej_el (ds := G ++ (List.range ls.length).map (gsD p t)) (el_cat (ds := G) (es := (List.range ls.length).map (gsD p t)) (ej_name 2) (ej_el (ds := (List.range ls.length).map (gsD p t)) (el_compR 5 (z := (ls.length : Int)) (M1 := []) (fun j => ((List.range j).map (gsD p t)).map It.d) (fun _ => []) rfl T.b_range nd (ej_is (ej_lenL (ds := lnsD ls) T.b_len (ej_name 0)) (by rw [lnsD_len])) rfl rfl (by omega) (fun j hj => ⟨.d (gsD p t j), by rw [List.range_succ, List.map_append, List.map_append]; rfl, by simp, fun N' s' Hh C cl fp' => jt3 (ej_name (i := dI (p : Int)) 3) (ej_name (i := dI (t : Int)) 4) (ej_name (i := dI (j : Int)) 5)⟩)) (by rw [Int.toNat_natCast])) (by rw [List.length_map, List.length_range]; omega)) rfl) ?_
        exact sj_nil ⟨_, rfl, rfl⟩
      · obtain ⟨y4, rfl, rfl⟩ := hI
        rw [Int.toNat_natCast, h4, gpL_succ]
        exact sj_nil ⟨_, _, rfl, rfl⟩
    · obtain ⟨y3, y4, rfl, rfl⟩ := hI
      rw [Int.toNat_natCast]
      exact sj_ret (ej_name 2) ⟨rfl, [], rfl⟩
end

/-! ### the best guess -/
def quD (c : Int) (p t n : Nat) : PyData := .tuple [.int c, gsD p t n]
def ltQ (c : Int) (p t n : Nat) (c' : Int) (p' t' n' : Nat) : Prop := c < c' ∨ (c = c' ∧ (p < p' ∨ (p = p' ∧ (t < t' ∨ (t = t' ∧ n < n')))))
instance (c : Int) (p t n : Nat) (c' : Int) (p' t' n' : Nat) : Decidable (ltQ c p t n c' p' t' n') := by unfold ltQ; infer_instance
theorem alike_gs (p t n p' t' n' : Nat) : PySem.W.alike (gsD p t n) (gsD p' t' n') = true := by
  simp [gsD, PySem.W.alike, PySem.W.alikeAll]
theorem eqv_gs (p t n p' t' n' : Nat) : PyData.eqv (gsD p t n) (gsD p' t' n') = decide (p = p' ∧ t = t' ∧ n = n') := by
  have h : PyData.eqv (gsD p t n) (gsD p' t' n') = (decide ((p : Int) = p') && (decide ((t : Int) = t') && decide ((n : Int) = n'))) := by
    simp [gsD, PyData.eqv, PyData.eqvAll]
    rfl
  rw [h, Bool.eq_iff_iff]
  simp only [Bool.and_eq_true, decide_eq_true_eq]
  omega
theorem lt_gs (p t n p' t' n' : Nat) : PySem.W.dataLt (gsD p t n) (gsD p' t' n') = decide (p < p' ∨ (p = p' ∧ (t < t' ∨ (t = t' ∧ n < n')))) := by
  have h : PySem.W.dataLt (gsD p t n) (gsD p' t' n') = PySem.W.rowLt (([(p : Int), t, n] : List Int).map .int) (([(p' : Int), t', n'] : List Int).map .int) := PySem.W.dataLt_tuple _ _
  rw [h, PySem.W.dataLt_ints, Bool.eq_iff_iff]
  simp only [decide_eq_true_eq, List.cons_lt_cons_iff, List.not_lt_nil, and_false, or_false]
  omega
theorem lt_qu (c : Int) (p t n : Nat) (c' : Int) (p' t' n' : Nat) : PySem.W.dataLt (quD c p t n) (quD c' p' t' n') = decide (ltQ c p t n c' p' t' n') := by
  have h := PySem.W.dataLt_pair (x := .int c) (x' := .int c') (y := gsD p t n) (y' := gsD p' t' n') (by simp [PySem.W.alike]) (alike_gs ..)
  have h : PySem.W.dataLt (quD c p t n) (quD c' p' t' n') = _ := h
  rw [h, eqv_gs, lt_gs, PySem.W.dataLt_int]
  have e : PyData.eqv (.int c) (.int c') = decide (c = c') := by simp only [PyData.eqv]; rfl
  rw [e]
  unfold ltQ
  by_cases h1 : c = c'
  · rw [if_pos (decide_eq_true h1)]
    by_cases h2 : p = p' ∧ t = t' ∧ n = n'
    · rw [if_pos (decide_eq_true h2)]
      refine (decide_eq_false ?_).symm
      omega
    · rw [if_neg (by rw [decide_eq_false h2]; exact Bool.false_ne_true)]
      refine decide_eq_decide.mpr ?_
      omega
  · rw [if_neg (by rw [decide_eq_false h1]; exact Bool.false_ne_true)]
    refine decide_eq_decide.mpr ?_
    omega
theorem alike_qu {l : List PyData} (h : ∀ x ∈ l, ∃ c p t n, x = quD c p t n) : PySem.W.AlikeAll l := by
  refine ⟨fun x hx y hy => ?_, fun x hx e => ?_⟩
  · obtain ⟨c, p, t, n, rfl⟩ := h x hx
    obtain ⟨c', p', t', n', rfl⟩ := h y hy
    have := alike_gs p t n p' t' n'
    simp [quD, PySem.W.alike, PySem.W.alikeAll, this]
  · obtain ⟨c, p, t, n, rfl⟩ := h x hx
    cases e
theorem depth_qu {l : List PyData} (h : ∀ x ∈ l, ∃ c p t n, x = quD c p t n) : PyData.depthAll l ≤ 60 := by
  induction l with
  | nil => exact Nat.zero_le _
  | cons x l ih =>
    obtain ⟨c, p, t, n, rfl⟩ := h x List.mem_cons_self
    have := ih fun y hy => h y (List.mem_cons_of_mem _ hy)
    have e : (quD c p t n).depth = 2 := by simp [quD, gsD, PyData.depth, PyData.depthAll]
    show max (quD c p t n).depth (PyData.depthAll l) ≤ 60
    omega
theorem plain_qu {l : List PyData} (h : ∀ x ∈ l, ∃ c p t n, x = quD c p t n) : plainD (.list l) = true := (PN.lst (n := 5) _ fun x hx => by
  obtain ⟨c, p, t, n, rfl⟩ := h x hx
  refine .tup _ fun y hy => ?_
  simp only [List.mem_cons, List.not_mem_nil, or_false] at hy
  rcases hy with rfl | rfl
  · exact .int _
  · refine .tup _ fun z hz => ?_
    simp only [List.mem_cons, List.not_mem_nil, or_false] at hz
    rcases hz with rfl | rfl | rfl <;> exact .int _).plain
/-- the least is least -/
theorem min_least : ∀ (ds : List PyData) (d : PyData) (S : List PyData), (∀ x ∈ d :: ds, ∃ c p t n, x = quD c p t n) → (∀ x ∈ S, ∃ c p t n, x = quD c p t n) → (∀ x ∈ S, PySem.W.dataLt x d = false) → ∀ x ∈ S ++ d :: ds, PySem.W.dataLt x (PySem.W.minD d ds) = false
  | [], d, S, h, _, hm, x, hx => by
    have e : PySem.W.minD d [] = d := rfl
    rw [e]
    rcases List.mem_append.mp hx with hx | hx
    · exact hm x hx
    · rw [List.mem_singleton.mp hx]
      obtain ⟨c, p, t, n, rfl⟩ := h d List.mem_cons_self
      rw [lt_qu]
      refine decide_eq_false ?_
      unfold ltQ
      omega
  | y :: ds, d, S, h, hS, hm, x0, hx0 => by
    have e : PySem.W.minD d (y :: ds) = PySem.W.minD (if PySem.W.dataLt y d = true then y else d) ds := rfl
    rw [e]
    have hd := h d List.mem_cons_self
    have hy := h y (List.mem_cons_of_mem _ List.mem_cons_self)
    have hr : ∀ x ∈ ds, ∃ c p t n, x = quD c p t n := fun x hx => h x (List.mem_cons_of_mem _ (List.mem_cons_of_mem _ hx))
    by_cases c : PySem.W.dataLt y d = true
    · rw [if_pos c]
      refine min_least ds y (S ++ [d]) (fun x hx => ?_) (fun x hx => ?_) (fun x hx => ?_) x0 (by rw [List.append_assoc]; exact hx0)
      · rcases List.mem_cons.mp hx with rfl | hx
        · exact hy
        · exact hr x hx
      · rcases List.mem_append.mp hx with hx | hx
        · exact hS x hx
        · rw [List.mem_singleton.mp hx]; exact hd
      · obtain ⟨c1, p1, t1, n1, rfl⟩ := hd
        obtain ⟨c2, p2, t2, n2, rfl⟩ := hy
        rw [lt_qu] at c
        have c := of_decide_eq_true c
        have hx : ∃ c p t n, x = quD c p t n ∧ ¬ ltQ c p t n c1 p1 t1 n1 := by
          rcases List.mem_append.mp hx with hx | hx
          · obtain ⟨c3, p3, t3, n3, rfl⟩ := hS x hx
            have := hm _ hx
            rw [lt_qu] at this
            exact ⟨_, _, _, _, rfl, of_decide_eq_false this⟩
          · rw [List.mem_singleton.mp hx]
            exact ⟨_, _, _, _, rfl, by unfold ltQ; omega⟩
        obtain ⟨c3, p3, t3, n3, rfl, k⟩ := hx
        rw [lt_qu]
        refine decide_eq_false ?_
        unfold ltQ at c k ⊢
        omega
    · rw [if_neg c]
      refine min_least ds d (S ++ [y]) (fun x hx => ?_) (fun x hx => ?_) (fun x hx => ?_) x0 (by
        simp only [List.mem_append, List.mem_cons, List.not_mem_nil, or_false] at hx0 ⊢
        rcases hx0 with hx | hx | hx | hx
        · exact .inl (.inl hx)
        · exact .inr (.inl hx)
        · exact .inl (.inr hx)
        · exact .inr (.inr hx))
      · rcases List.mem_cons.mp hx with rfl | hx
        · exact hd
        · exact hr x hx
      · rcases List.mem_append.mp hx with hx | hx
        · exact hS x hx
        · rw [List.mem_singleton.mp hx]; exact hy
      · rcases List.mem_append.mp hx with hx | hx
        · exact hm x hx
        · rw [List.mem_singleton.mp hx]
          exact Bool.eq_false_iff.mpr c
def cstQ (o : List Gp) (ls : List (List Gp)) (us : List (Option Gp)) (p t n : Nat) : Int := (csL (shpG o (ls.getD n []) t) (us.drop p)).sum
structure Best (o : List Gp) (ls : List (List Gp)) (us : List (Option Gp)) (s p t n : Nat) : Prop where
  hp : p ≤ s
  ht : t ≤ 3
  hn : n < ls.length
  b : ∀ p' t' n', p' ≤ s → t' ≤ 3 → n' < ls.length → ¬ ltQ (cstQ o ls us p' t' n') p' t' n' (cstQ o ls us p t n) p t n
theorem Best.uniq {o : List Gp} {ls : List (List Gp)} {us : List (Option Gp)} {s p t n p' t' n' : Nat} (a : Best o ls us s p t n) (b : Best o ls us s p' t' n') : gsD p t n = gsD p' t' n' := by
  have h1 := a.b p' t' n' b.hp b.ht b.hn
  have h2 := b.b p t n a.hp a.ht a.hn
  have : p = p' ∧ t = t' ∧ n = n' := by
    unfold ltQ at h1 h2
    omega
  obtain ⟨rfl, rfl, rfl⟩ := this
  rfl
/-- told, up to a place -/
def tlR (f : Nat → Nat → Nat → Int) (s t n : Nat) : List PyData := (List.range (s + 1)).map fun p => quD (f p t n) p t n
def tlN (f : Nat → Nat → Nat → Int) (L s t n : Nat) : List PyData := ((List.range t).flatMap fun t => (List.range L).flatMap (tlR f s t)) ++ (List.range n).flatMap (tlR f s t)
theorem tlN_succ (f : Nat → Nat → Nat → Int) (L s t n : Nat) : tlN f L s t n ++ tlR f s t n = tlN f L s t (n + 1) := by
  unfold tlN
  rw [List.range_succ (n := n), List.flatMap_append, List.flatMap_singleton, List.append_assoc]
theorem tlN_row (f : Nat → Nat → Nat → Int) (L s t : Nat) : tlN f L s t L = tlN f L s (t + 1) 0 := by
  unfold tlN
  rw [List.range_succ (n := t), List.flatMap_append, List.flatMap_singleton, List.range_zero, List.flatMap_nil, List.append_nil]
theorem tlR_len (f : Nat → Nat → Nat → Int) (s t n : Nat) : (tlR f s t n).length = s + 1 := by unfold tlR; simp
theorem tlN_len (f : Nat → Nat → Nat → Int) (L s t n : Nat) : (tlN f L s t n).length = (t * L + n) * (s + 1) := by
  have a : ∀ t n, ((List.range n).flatMap (tlR f s t)).length = n * (s + 1) := fun t n => by
    rw [List.length_flatMap]
    simp only [tlR_len]
    rw [List.map_const', List.length_range, sum_const]
  unfold tlN
  rw [List.length_append, List.length_flatMap]
  simp only [a]
  rw [List.map_const', List.length_range, sum_const, Nat.add_mul, Nat.mul_assoc]
theorem tlN_mem {f : Nat → Nat → Nat → Int} {L s : Nat} {d : PyData} : d ∈ tlN f L s 4 0 ↔ ∃ p t n : Nat, p ≤ s ∧ t ≤ 3 ∧ n < L ∧ d = quD (f p t n) p t n := by
  unfold tlN tlR
  rw [List.range_zero, List.flatMap_nil, List.append_nil, List.mem_flatMap]
  constructor
  · rintro ⟨t, ht, h⟩
    obtain ⟨n, hn, h⟩ := List.mem_flatMap.mp h
    obtain ⟨p, hp, rfl⟩ := List.mem_map.mp h
    have := List.mem_range.mp hp
    have := List.mem_range.mp ht
    exact ⟨p, t, n, by omega, by omega, List.mem_range.mp hn, rfl⟩
  · rintro ⟨p, t, n, hp, ht, hn, rfl⟩
    exact ⟨t, List.mem_range.mpr (by omega), List.mem_flatMap.mpr ⟨n, List.mem_range.mpr hn, List.mem_map.mpr ⟨p, List.mem_range.mpr (by omega), rfl⟩⟩⟩
/-- the least told is the best -/
theorem min_best {o : List Gp} {ls : List (List Gp)} {us : List (Option Gp)} {s : Nat} {d : PyData} {ds : List PyData} (e : tlN (cstQ o ls us) ls.length s 4 0 = d :: ds) : ∃ p t n, PySem.W.minD d ds = quD (cstQ o ls us p t n) p t n ∧ Best o ls us s p t n := by
  have hq : ∀ x ∈ d :: ds, ∃ c p t n, x = quD c p t n := fun x hx => by
    rw [← e] at hx
    obtain ⟨p, t, n, _, _, _, rfl⟩ := tlN_mem.mp hx
    exact ⟨_, _, _, _, rfl⟩
  have hm := min_mem d ds
  rw [← e] at hm
  obtain ⟨p, t, n, hp, ht, hn, em⟩ := tlN_mem.mp hm
  refine ⟨p, t, n, em, hp, ht, hn, fun p' t' n' hp' ht' hn' => ?_⟩
  have hx : quD (cstQ o ls us p' t' n') p' t' n' ∈ d :: ds := by
    rw [← e]
    exact tlN_mem.mpr ⟨p', t', n', hp', ht', hn', rfl⟩
  have := min_least ds d [] hq (fun _ h => absurd h List.not_mem_nil) (fun _ h => absurd h List.not_mem_nil) _ hx
  rw [em, lt_qu] at this
  exact of_decide_eq_false this

/-! ### find -/
def CoFind : Co := fun is M i M' => M = [] ∧ M' = [] ∧ ∃ (B : Int) (o : List Gp) (Lv : PyData) (ls : List (List Gp)) (us : List (Option Gp)) (s p t n : Nat), is = [.d (opD o), .d Lv, dI (s : Int), .d (.list (osD us))] ∧ LnsD Lv ls ∧ o ≠ [] ∧ o.length ≤ 64 ∧ (∀ ts ∈ ls, LnOk B ts) ∧ B ≤ 1000 ∧ ls.length ≤ 10 ∧ s ≤ 100 ∧ s ≤ us.length ∧ (∀ ts ∈ ls, ∀ t, ∀ q ∈ shpG o ts t, ∀ z, some z ∈ us → sm (gsub q z)) ∧ Best o ls us s p t n ∧ i = .d (gsD p t n)
theorem lns_inv {ls : List (List Gp)} {n : Nat} {d : PyData} (h : (lnsD ls)[n]? = some d) : ∃ ts, ls[n]? = some ts ∧ d = lnD ts := by
  unfold lnsD at h
  rw [List.getElem?_map] at h
  obtain ⟨ts, h1, h2⟩ := Option.map_eq_some_iff.mp h
  exact ⟨ts, h1, h2.symm⟩
section
variable {P : Program} {w : World} {K : PySem.W.Frag} {mg : Str → Option Value} {base : Heap}
theorem d_find (T : Txt K mg) : Def P w K mg base "find" 6 CoFind := by
  obtain ⟨f, fd, F, hm, hb⟩ := T.f_find
  have GS := d_shape (P := P) (w := w) (base := base) T
  have GC := d_cost_at (P := P) (w := w) (base := base) T
  refine def_ok F sc_find hm hb (fun is M i M' h => ?_) fun X hX N is M i M' hF hC => ?_
  · obtain ⟨rfl, rfl, B, o, Lv, ls, us, s, p, t, n, rfl, _⟩ := h
    exact ⟨rfl, rfl⟩
  · obtain ⟨cdv, A, outer, sh, H, E, rfl, hr⟩ := hX
    obtain ⟨rfl, rfl, B, o, Lv, ls, us, s, p0, t0, n0, rfl, hLv, ho, lo, L, hB, l10, s100, su, hsm, best, rfl⟩ := hC
    have nd := sc_find.nd
    have hu := st_units hr
    have hr5 : Room 5 (A.deeper (envOfC "find" (defScope s_find) sh.heap.objs.size f cdv)) := hr
    have hr2 : Room 2 (A.deeper (envOfC "find" (defScope s_find) sh.heap.objs.size f cdv)) := hr.mono (by decide)
    obtain ⟨fc, hfc⟩ : ∃ fc, cstQ o ls us = fc := ⟨_, rfl⟩
    obtain ⟨four, h4⟩ : ∃ c : Nat, c = 4 := ⟨_, rfl⟩
    rcases hLv with rfl | rfl
    · refine sj_own 4 (is := []) (M1 := []) nd (el_disp aj_nil) fun q hq => ?_
      refine sj_forR (m := (four : Int)) (M1 := [(q, [])]) rfl T.b_range (ej_is ej_int (by rw [h4]; rfl)) (by omega) (fun t ρ M => ∃ y5 y6 y7 y8, ρ = [some (.d (opD o)), some (.d (.list (lnsD ls))), some (dI (s : Int)), some (.d (.list (osD us))), some (.v (.ref q)), y5, y6, y7, y8, none, none, none] ∧ M = [(q, (tlN fc ls.length s t 0).map It.d)]) ⟨none, none, none, none, rfl, rfl⟩ (fun t ρ M ht hI => ?_) fun ρ M hI => ?_
      · obtain ⟨y5, y6, y7, y8, rfl, rfl⟩ := hI
        have t3 : t ≤ 3 := by omega
        refine ⟨_, gj_name 5 nd, ?_⟩
        refine sj_forW (ds := enumD (lnsD ls)) (M1 := [(q, (tlN fc ls.length s t 0).map It.d)]) rfl (iw_enumL T.b_enumerate (ej_name 1)) (fun j ρ M => ∃ y6 y7 y8, ρ = [some (.d (opD o)), some (.d (.list (lnsD ls))), some (dI (s : Int)), some (.d (.list (osD us))), some (.v (.ref q)), some (dI (t : Int)), y6, y7, y8, none, none, none] ∧ M = [(q, (tlN fc ls.length s t j).map It.d)]) ⟨y6, y7, y8, rfl, rfl⟩ (fun n d ρ M hd hI => ?_) fun ρ M hI => ?_
        · obtain ⟨y6, y7, y8, rfl, rfl⟩ := hI
          obtain ⟨x, hx, rfl⟩ := enumD_inv hd
          obtain ⟨ts, hts, rfl⟩ := lns_inv hx
          have nl : n < ls.length := (List.getElem?_eq_some_iff.mp hts).1
          have LO := L ts (List.mem_of_getElem? hts)
          have eg : ls.getD n [] = ts := by rw [List.getD_eq_getElem?_getD, hts]; rfl
          have sl := shp_len ho LO.ne t
          refine ⟨_, gj_tup rfl (gs_cons 6 nd (gs_cons 7 nd gs_nil)), ?_⟩
          have tn := tlN_len fc ls.length s t n
          have tb : (t * ls.length + n) * (s + 1) ≤ 50 * 101 := Nat.mul_le_mul (by
            have : t * ls.length ≤ 3 * ls.length := Nat.mul_le_mul_right _ t3
            omega) (by omega)
          have ts2 := tlN_succ fc ls.length s t n
          rw [← ts2]
          generalize tlN fc ls.length s t n = TL at tn
          refine sj_set 8 (i := .d (.list (psD (shpG o ts t)))) (M1 := [(q, TL.map It.d)]) nd (ej_callP GS hr5 (aj_cons (ej_name (i := .d (opD o)) 0) (aj_cons (ej_name (i := .d (lnD ts)) 7) (aj_cons (ej_name (i := dI (t : Int)) 5) aj_nil))) ⟨rfl, rfl, B, o, ts, t, rfl, t3, ho, lo, LO, hB, rfl⟩) ?_
          refine sj_extL (p := q) (is := TL.map It.d) (is0 := TL.map It.d) (ds := tlR fc s t n) (M1 := [(q, TL.map It.d)]) (ej_name 4) (List.mem_singleton.mpr rfl) (ej_el (ds := tlR fc s t n) (el_compR 11 (z := ((s + 1 : Nat) : Int)) (M1 := [(q, TL.map It.d)]) (fun j => ((List.range j).map fun p => quD (fc p t n) p t n).map It.d) (fun _ => [(q, TL.map It.d)]) rfl T.b_range nd (ej_is (ej_add (n := (s : Int)) (m := 1) (ej_name 2) ej_int) (by rw [Int.natCast_add]; rfl)) rfl rfl (by omega) (fun j hj => ⟨.d (quD (fc j t n) j t n), by rw [List.range_succ, List.map_append, List.map_append]; rfl, by simp, fun N' s' Hh C cl fp' => jt2 (A := .int (fc j t n)) (B := gsD j t n) (ej_is (ej_callP GC hr2 (aj_cons (ej_name (i := .d (.list (psD (shpG o ts t)))) 8) (aj_cons (ej_name (i := dI (j : Int)) 11) (aj_cons (ej_name (i := .d (.list (osD us))) 3) aj_nil))) ⟨rfl, rfl, shpG o ts t, j, us, rfl, by omega, by omega, hsm ts (List.mem_of_getElem? hts) t, rfl⟩) (by rw [← hfc]; unfold cstQ; rw [eg])) (jt3 (ej_name (i := dI (j : Int)) 11) (ej_name (i := dI (t : Int)) 5) (ej_name (i := dI (n : Int)) 6))⟩)) (by rw [Int.toNat_natCast]; rfl)) (List.mem_singleton.mpr rfl) (by rw [List.length_map, tlR_len]; omega) ?_
          refine sj_nil ⟨_, _, _, rfl, ?_⟩
          rw [List.map_append]
          simp [Mem.put]
        · obtain ⟨y6, y7, y8, rfl, rfl⟩ := hI
          refine sj_nil ⟨_, _, _, _, rfl, ?_⟩
          rw [enumD_len, lnsD_len, tlN_row]
      · obtain ⟨y5, y6, y7, y8, rfl, rfl⟩ := hI
        rw [Int.toNat_natCast, h4, ← hfc]
        obtain ⟨d, ds, e⟩ : ∃ d ds, tlN (cstQ o ls us) ls.length s 4 0 = d :: ds := by
          cases e : tlN (cstQ o ls us) ls.length s 4 0 with
          | cons d ds => exact ⟨d, ds, rfl⟩
          | nil =>
            have := (tlN_mem (f := cstQ o ls us) (L := ls.length) (s := s)).mpr ⟨0, 0, n0, Nat.zero_le s, Nat.zero_le 3, best.hn, rfl⟩
            rw [e] at this
            cases this
        obtain ⟨p, t, n, em, b2⟩ := min_best e
        have hq : ∀ x ∈ d :: ds, ∃ c p t n, x = quD c p t n := fun x hx => by
          rw [← e] at hx
          obtain ⟨p, t, n, _, _, _, rfl⟩ := tlN_mem.mp hx
          exact ⟨_, _, _, _, rfl⟩
        rw [e]
        refine sj_asgG (i := .d (quD (cstQ o ls us p t n) p t n)) (M1 := [(q, (d :: ds).map It.d)]) (ej_is (ej_minOD (o := q) (d := d) (ds := ds) rfl (by omega) T.b_min (ej_name 4) (List.mem_singleton.mpr rfl) (plain_qu hq) (alike_qu hq) (depth_qu hq)) (by rw [em])) (gj_tup (ds := [.int (cstQ o ls us p t n), gsD p t n]) rfl (gs_cons 9 nd (gs_cons 10 nd gs_nil))) ?_
        rw [b2.uniq best]
        exact sj_ret (ej_name 10) ⟨rfl, _, rfl⟩
    · refine sj_own 4 (is := []) (M1 := []) nd (el_disp aj_nil) fun q hq => ?_
      refine sj_forR (m := (four : Int)) (M1 := [(q, [])]) rfl T.b_range (ej_is ej_int (by rw [h4]; rfl)) (by omega) (fun t ρ M => ∃ y5 y6 y7 y8, ρ = [some (.d (opD o)), some (.d (.tuple (lnsD ls))), some (dI (s : Int)), some (.d (.list (osD us))), some (.v (.ref q)), y5, y6, y7, y8, none, none, none] ∧ M = [(q, (tlN fc ls.length s t 0).map It.d)]) ⟨none, none, none, none, rfl, rfl⟩ (fun t ρ M ht hI => ?_) fun ρ M hI => ?_
      · obtain ⟨y5, y6, y7, y8, rfl, rfl⟩ := hI
        have t3 : t ≤ 3 := by omega
        refine ⟨_, gj_name 5 nd, ?_⟩
        refine sj_forW (ds := enumD (lnsD ls)) (M1 := [(q, (tlN fc ls.length s t 0).map It.d)]) rfl (iw_enumT T.b_enumerate (ej_name 1)) (fun j ρ M => ∃ y6 y7 y8, ρ = [some (.d (opD o)), some (.d (.tuple (lnsD ls))), some (dI (s : Int)), some (.d (.list (osD us))), some (.v (.ref q)), some (dI (t : Int)), y6, y7, y8, none, none, none] ∧ M = [(q, (tlN fc ls.length s t j).map It.d)]) ⟨y6, y7, y8, rfl, rfl⟩ (fun n d ρ M hd hI => ?_) fun ρ M hI => ?_
        · obtain ⟨y6, y7, y8, rfl, rfl⟩ := hI
          obtain ⟨x, hx, rfl⟩ := enumD_inv hd
          obtain ⟨ts, hts, rfl⟩ := lns_inv hx
          have nl : n < ls.length := (List.getElem?_eq_some_iff.mp hts).1
          have LO := L ts (List.mem_of_getElem? hts)
          have eg : ls.getD n [] = ts := by rw [List.getD_eq_getElem?_getD, hts]; rfl
          have sl := shp_len ho LO.ne t
          refine ⟨_, gj_tup rfl (gs_cons 6 nd (gs_cons 7 nd gs_nil)), ?_⟩
          have tn := tlN_len fc ls.length s t n
          have tb : (t * ls.length + n) * (s + 1) ≤ 50 * 101 := Nat.mul_le_mul (by
            have : t * ls.length ≤ 3 * ls.length := Nat.mul_le_mul_right _ t3
            omega) (by omega)
          have ts2 := tlN_succ fc ls.length s t n
          rw [← ts2]
          generalize tlN fc ls.length s t n = TL at tn
          refine sj_set 8 (i := .d (.list (psD (shpG o ts t)))) (M1 := [(q, TL.map It.d)]) nd (ej_callP GS hr5 (aj_cons (ej_name (i := .d (opD o)) 0) (aj_cons (ej_name (i := .d (lnD ts)) 7) (aj_cons (ej_name (i := dI (t : Int)) 5) aj_nil))) ⟨rfl, rfl, B, o, ts, t, rfl, t3, ho, lo, LO, hB, rfl⟩) ?_
          refine sj_extL (p := q) (is := TL.map It.d) (is0 := TL.map It.d) (ds := tlR fc s t n) (M1 := [(q, TL.map It.d)]) (ej_name 4) (List.mem_singleton.mpr rfl) (ej_el (ds := tlR fc s t n) (el_compR 11 (z := ((s + 1 : Nat) : Int)) (M1 := [(q, TL.map It.d)]) (fun j => ((List.range j).map fun p => quD (fc p t n) p t n).map It.d) (fun _ => [(q, TL.map It.d)]) rfl T.b_range nd (ej_is (ej_add (n := (s : Int)) (m := 1) (ej_name 2) ej_int) (by rw [Int.natCast_add]; rfl)) rfl rfl (by omega) (fun j hj => ⟨.d (quD (fc j t n) j t n), by rw [List.range_succ, List.map_append, List.map_append]; rfl, by simp, fun N' s' Hh C cl fp' => jt2 (A := .int (fc j t n)) (B := gsD j t n) (ej_is (ej_callP GC hr2 (aj_cons (ej_name (i := .d (.list (psD (shpG o ts t)))) 8) (aj_cons (ej_name (i := dI (j : Int)) 11) (aj_cons (ej_name (i := .d (.list (osD us))) 3) aj_nil))) ⟨rfl, rfl, shpG o ts t, j, us, rfl, by omega, by omega, hsm ts (List.mem_of_getElem? hts) t, rfl⟩) (by rw [← hfc]; unfold cstQ; rw [eg])) (jt3 (ej_name (i := dI (j : Int)) 11) (ej_name (i := dI (t : Int)) 5) (ej_name (i := dI (n : Int)) 6))⟩)) (by rw [Int.toNat_natCast]; rfl)) (List.mem_singleton.mpr rfl) (by rw [List.length_map, tlR_len]; omega) ?_
          refine sj_nil ⟨_, _, _, rfl, ?_⟩
          rw [List.map_append]
          simp [Mem.put]
        · obtain ⟨y6, y7, y8, rfl, rfl⟩ := hI
          refine sj_nil ⟨_, _, _, _, rfl, ?_⟩
          rw [enumD_len, lnsD_len, tlN_row]
      · obtain ⟨y5, y6, y7, y8, rfl, rfl⟩ := hI
        rw [Int.toNat_natCast, h4, ← hfc]
        obtain ⟨d, ds, e⟩ : ∃ d ds, tlN (cstQ o ls us) ls.length s 4 0 = d :: ds := by
          cases e : tlN (cstQ o ls us) ls.length s 4 0 with
          | cons d ds => exact ⟨d, ds, rfl⟩
          | nil =>
            have := (tlN_mem (f := cstQ o ls us) (L := ls.length) (s := s)).mpr ⟨0, 0, n0, Nat.zero_le s, Nat.zero_le 3, best.hn, rfl⟩
            rw [e] at this
            cases this
        obtain ⟨p, t, n, em, b2⟩ := min_best e
        have hq : ∀ x ∈ d :: ds, ∃ c p t n, x = quD c p t n := fun x hx => by
          rw [← e] at hx
          obtain ⟨p, t, n, _, _, _, rfl⟩ := tlN_mem.mp hx
          exact ⟨_, _, _, _, rfl⟩
        rw [e]
        refine sj_asgG (i := .d (quD (cstQ o ls us p t n) p t n)) (M1 := [(q, (d :: ds).map It.d)]) (ej_is (ej_minOD (o := q) (d := d) (ds := ds) rfl (by omega) T.b_min (ej_name 4) (List.mem_singleton.mpr rfl) (plain_qu hq) (alike_qu hq) (depth_qu hq)) (by rw [em])) (gj_tup (ds := [.int (cstQ o ls us p t n), gsD p t n]) rfl (gs_cons 9 nd (gs_cons 10 nd gs_nil))) ?_
        rw [b2.uniq best]
        exact sj_ret (ej_name 10) ⟨rfl, _, rfl⟩
end

/-! ### separations: the program's own side -/
def reL (w r : List Gp) : List Int := List.zipWith (fun p q : Gp => p.1 * q.1 + p.2 * q.2) w r
def imL (w r : List Gp) : List Int := List.zipWith (fun p q : Gp => p.1 * q.2 - p.2 * q.1) w r
def toL (w : List Gp) : Int := (w.map szG).sum
def trS (same : Bool) (x y : Int) : List Int := if same then [-y, -x, y] else [x, -y, -x, y]
def maxL : List Int → Int
  | [] => 0
  | [x] => x
  | x :: y :: r => max x (maxL (y :: r))
theorem maxL_ok : ∀ {l : List Int}, l ≠ [] → maxL l ∈ l ∧ ∀ y ∈ l, y ≤ maxL l
  | [], h => absurd rfl h
  | [x], _ => ⟨List.mem_singleton.mpr rfl, fun y hy => by rw [List.mem_singleton.mp hy]; exact Int.le_refl _⟩
  | x :: y :: r, _ => by
    obtain ⟨h1, h2⟩ := maxL_ok (l := y :: r) (by simp)
    have e : maxL (x :: y :: r) = max x (maxL (y :: r)) := rfl
    refine ⟨?_, fun z hz => ?_⟩
    · rw [e]
      by_cases c : x ≤ maxL (y :: r)
      · rw [Int.max_eq_right c]
        exact List.mem_cons_of_mem _ h1
      · rw [Int.max_eq_left (by omega)]
        exact List.mem_cons_self
    · rw [e]
      rcases List.mem_cons.mp hz with rfl | hz
      · omega
      · have := h2 z hz
        omega
def laG (same : Bool) (w r : List Gp) : Int := toL w + toL r - 2 * maxL (trS same (reL w r).sum (imL w r).sum)
def shG (ws : List Gp) (shift : Int) (many : Nat) : List Gp := (List.range many).map fun j : Nat => if 0 ≤ (j : Int) + shift then ws.getD ((j : Int) + shift).toNat g0 else g0
theorem shG_len (ws : List Gp) (shift : Int) (many : Nat) : (shG ws shift many).length = many := by unfold shG; simp
theorem shG_bd {B : Int} (hB : 0 ≤ B) {ws : List Gp} (h : ∀ p ∈ ws, bdG B p) (shift : Int) (many : Nat) : ∀ p ∈ shG ws shift many, bdG B p := fun p hp => by
  unfold shG at hp
  obtain ⟨j, _, rfl⟩ := List.mem_map.mp hp
  split
  · rw [List.getD_eq_getElem?_getD]
    cases e : ws[((j : Int) + shift).toNat]? with
    | none => exact bd0 hB
    | some q => exact h q (List.mem_of_getElem? e)
  · exact bd0 hB
theorem shG_at {ws : List Gp} {shift : Int} {many j : Nat} (h : j < many) : (shG ws shift many)[j]? = some (if 0 ≤ (j : Int) + shift then ws.getD ((j : Int) + shift).toNat g0 else g0) := by
  unfold shG
  rw [List.getElem?_map, List.getElem?_range h]
  rfl
theorem shG_neg {ws : List Gp} {k many : Nat} (hm : many ≤ ws.length) (hk : 0 < k) : List.replicate (min k many) g0 ++ ws.take (many - min k many) = shG ws (-(k : Int)) many := by
  refine List.ext_getElem? fun j => ?_
  by_cases hj : j < many
  · rw [shG_at hj, List.getElem?_append, List.length_replicate]
    by_cases c : j < min k many
    · rw [if_pos c, if_neg (by omega), List.getElem?_replicate, if_pos c]
    · rw [if_neg c, if_pos (by omega), List.getElem?_take_of_lt (by omega), show j - min k many = ((j : Int) + -(k : Int)).toNat by omega, List.getD_eq_getElem?_getD, List.getElem?_eq_getElem (by omega)]
      rfl
  · rw [List.getElem?_eq_none (by rw [List.length_append, List.length_replicate, List.length_take]; omega), List.getElem?_eq_none (by rw [shG_len]; omega)]
theorem shG_pos {ws : List Gp} {k many : Nat} : (ws.drop k).take many ++ List.replicate (many - min many (ws.length - k)) g0 = shG ws (k : Int) many := by
  refine List.ext_getElem? fun j => ?_
  by_cases hj : j < many
  · rw [shG_at hj, if_pos (by omega), List.getElem?_append, List.length_take, List.length_drop, show ((j : Int) + (k : Int)).toNat = k + j by omega, List.getD_eq_getElem?_getD]
    by_cases c : j < min many (ws.length - k)
    · rw [if_pos c, List.getElem?_take_of_lt hj, List.getElem?_drop, List.getElem?_eq_getElem (by omega)]
      rfl
    · rw [if_neg c, List.getElem?_replicate, if_pos (by omega), List.getElem?_eq_none (by omega)]
      rfl
  · rw [List.getElem?_eq_none (by rw [List.length_append, List.length_replicate, List.length_take, List.length_drop]; omega), List.getElem?_eq_none (by rw [shG_len]; omega)]
def CoTot : Co := fun is M i M' => M = [] ∧ M' = [] ∧ ∃ ps, is = [.d (.list (psD ps))] ∧ (∀ p ∈ ps, sm p) ∧ ps.length ≤ 1000 ∧ i = dI (toL ps)
def CoLa : Co := fun is M i M' => M = [] ∧ M' = [] ∧ ∃ (w r : List Gp) (same : Bool), is = [.d (.list (psD w)), .d (.list (psD r)), dB same] ∧ (∀ p ∈ w, sm p) ∧ (∀ p ∈ r, sm p) ∧ w.length ≤ 1000 ∧ r.length ≤ 1000 ∧ i = dI (laG same w r)
def CoShf : Co := fun is M i M' => M = [] ∧ M' = [] ∧ ∃ (ws : List Gp) (shift : Int) (many : Nat), is = [.d (.list (psD ws)), dI shift, dI (many : Int)] ∧ many ≤ ws.length ∧ ws.length ≤ 1000 ∧ -1000 ≤ shift ∧ shift ≤ 1000 ∧ i = .d (.list (psD (shG ws shift many)))
theorem psD_cat2 (a b : List Gp) : psD (a ++ b) = psD a ++ psD b := List.map_append ..
theorem reL_at {w r : List Gp} {j : Nat} {d : PyData} (h : (List.zipWith (fun x y => PyData.tuple [x, y]) (psD w) (psD r))[j]? = some d) : ∃ p q, w[j]? = some p ∧ r[j]? = some q ∧ d = .tuple [pD p, pD q] := by
  rw [List.getElem?_zipWith_eq_some] at h
  obtain ⟨x, y, h1, h2, h3⟩ := h
  obtain ⟨p, hp, rfl⟩ := psD_inv h1
  obtain ⟨q, hq, rfl⟩ := psD_inv h2
  exact ⟨p, q, hp, hq, h3.symm⟩
theorem zw_at {f : Gp → Gp → Int} {w r : List Gp} {j : Nat} {p q : Gp} (h1 : w[j]? = some p) (h2 : r[j]? = some q) : (List.zipWith f w r)[j]? = some (f p q) := by
  rw [List.getElem?_zipWith_eq_some]
  exact ⟨p, q, h1, h2, rfl⟩
theorem reL_get {w r : List Gp} {j : Nat} {p q : Gp} (h1 : w[j]? = some p) (h2 : r[j]? = some q) : (reL w r)[j]? = some (p.1 * q.1 + p.2 * q.2) := zw_at h1 h2
theorem imL_get {w r : List Gp} {j : Nat} {p q : Gp} (h1 : w[j]? = some p) (h2 : r[j]? = some q) : (imL w r)[j]? = some (p.1 * q.2 - p.2 * q.1) := zw_at h1 h2
theorem cut_any {ds : List PyData} {a m : Nat} : Kt.cutD ds (some (a : Int)) (some ((a + m : Nat) : Int)) = (ds.drop a).take m := by
  unfold Kt.cutD
  rw [HT.sIx_nat, HT.sIx_nat]
  by_cases h : a ≤ ds.length
  · rw [Nat.min_eq_left h]
    by_cases h2 : a + m ≤ ds.length
    · rw [Nat.min_eq_left h2, show a + m - a = m by omega]
    · rw [Nat.min_eq_right (by omega), List.take_of_length_le (by rw [List.length_drop]; omega), List.take_of_length_le (by rw [List.length_drop]; omega)]
  · rw [Nat.min_eq_right (by omega), Nat.min_eq_right (by omega), Nat.sub_self, List.take_zero, List.drop_eq_nil_of_le (by omega), List.take_nil]
section
variable {P : Program} {w : World} {K : PySem.W.Frag} {mg : Str → Option Value} {base : Heap}
theorem d_total (T : Txt K mg) : Def P w K mg base "total" 2 CoTot := by
  obtain ⟨f, fd, F, hm, hb⟩ := T.f_total
  have GZ := d_size (P := P) (w := w) (base := base) T
  refine def_ok F sc_total hm hb (fun is M i M' h => ?_) fun X hX N is M i M' hF hC => ?_
  · obtain ⟨rfl, rfl, ps, rfl, _⟩ := h
    exact ⟨rfl, rfl⟩
  · obtain ⟨cdv, A, outer, sh, H, E, rfl, hr⟩ := hX
    obtain ⟨rfl, rfl, ps, rfl, hs, hl, rfl⟩ := hC
    have nd := sc_total.nd
    refine sj_ret (ej_sum (ns := ps.map szG) rfl T.b_sum (ej_el (ds := (ps.map szG).map .int) (el_compW1 1 (ds := psD ps) (M1 := []) (fun j => ((ps.take j).map szG).map dI) (fun _ => []) rfl nd (iw_list (ej_name 0)) (fun _ _ => trivial) rfl rfl (by rw [psD_len]; omega) (fun j d hd => ?_)) ?_)) ⟨rfl, [], rfl⟩
    · obtain ⟨p, hp, rfl⟩ := psD_inv hd
      exact ⟨dI (szG p), by rw [take_snoc hp, List.map_append, List.map_append]; rfl, by rw [List.length_map, List.length_map]; exact List.length_take_le .., fun N' s' Hh C cl fp' => ej_callP GZ hr (aj_cons (ej_name (i := .d (pD p)) 1) aj_nil) ⟨rfl, rfl, p, rfl, hs p (List.mem_of_getElem? hp), rfl⟩⟩
    · rw [psD_len, List.take_length, List.map_map (f := PyData.int)]
      rfl
theorem d_least_apart (T : Txt K mg) : Def P w K mg base "least_apart" 3 CoLa := by
  obtain ⟨f, fd, F, hm, hb⟩ := T.f_least_apart
  have GT := d_total (P := P) (w := w) (base := base) T
  refine def_ok F sc_least_apart hm hb (fun is M i M' h => ?_) fun X hX N is M i M' hF hC => ?_
  · obtain ⟨rfl, rfl, w, r, same, rfl, _⟩ := h
    exact ⟨rfl, rfl⟩
  · obtain ⟨cdv, A, outer, sh, H, E, rfl, hr⟩ := hX
    obtain ⟨rfl, rfl, wn, r, same, rfl, sw, sr, lw, lr, rfl⟩ := hC
    have nd := sc_least_apart.nd
    have zl : (List.zipWith (fun x y => PyData.tuple [x, y]) (psD wn) (psD r)).length = min wn.length r.length := by rw [List.length_zipWith, psD_len, psD_len]
    refine sj_set 3 (i := dI (reL wn r).sum) (M1 := []) nd (ej_sum (ns := reL wn r) rfl T.b_sum (ej_el (ds := (reL wn r).map .int) (el_compW22 6 7 8 9 (ds := List.zipWith (fun x y => .tuple [x, y]) (psD wn) (psD r)) (M1 := []) (fun j => ((reL wn r).take j).map dI) (fun _ => []) rfl nd (iw_zipL' T.b_zip (ej_name 0) (ej_name 1)) (fun _ _ => trivial) rfl rfl (by rw [zl]; omega) (fun j d hd => ?_)) ?_)) ?_
    · obtain ⟨p, q, hp, hq, rfl⟩ := reL_at hd
      have sp := sw p (List.mem_of_getElem? hp)
      refine ⟨.int p.1, .int p.2, .int q.1, .int q.2, dI (p.1 * q.1 + p.2 * q.2), rfl, by rw [take_snoc (reL_get hp hq), List.map_append]; rfl, by rw [List.length_map]; exact List.length_take_le .., fun N' s' Hh C cl fp' => ej_add (n := p.1 * q.1) (m := p.2 * q.2) (ej_mul (n := p.1) (m := q.1) (ej_name 6) (ej_name 8) (.inl sp.1)) (ej_mul (n := p.2) (m := q.2) (ej_name 7) (ej_name 9) (.inl sp.2))⟩
    · rw [zl, List.take_of_length_le (by unfold reL; rw [List.length_zipWith]; exact Nat.le_refl _), List.map_map (f := PyData.int)]
      rfl
    refine sj_set 4 (i := dI (imL wn r).sum) (M1 := []) nd (ej_sum (ns := imL wn r) rfl T.b_sum (ej_el (ds := (imL wn r).map .int) (el_compW22 6 7 8 9 (ds := List.zipWith (fun x y => .tuple [x, y]) (psD wn) (psD r)) (M1 := []) (fun j => ((imL wn r).take j).map dI) (fun _ => []) rfl nd (iw_zipL' T.b_zip (ej_name 0) (ej_name 1)) (fun _ _ => trivial) rfl rfl (by rw [zl]; omega) (fun j d hd => ?_)) ?_)) ?_
    · obtain ⟨p, q, hp, hq, rfl⟩ := reL_at hd
      have sp := sw p (List.mem_of_getElem? hp)
      refine ⟨.int p.1, .int p.2, .int q.1, .int q.2, dI (p.1 * q.2 - p.2 * q.1), rfl, by rw [take_snoc (imL_get hp hq), List.map_append]; rfl, by rw [List.length_map]; exact List.length_take_le .., fun N' s' Hh C cl fp' => ej_sub (n := p.1 * q.2) (m := p.2 * q.1) (ej_mul (n := p.1) (m := q.2) (ej_name 6) (ej_name 9) (.inl sp.1)) (ej_mul (n := p.2) (m := q.1) (ej_name 7) (ej_name 8) (.inl sp.2))⟩
    · rw [zl, List.take_of_length_le (by unfold imL; rw [List.length_zipWith]; exact Nat.le_refl _), List.map_map (f := PyData.int)]
      rfl
    generalize hx : (reL wn r).sum = x
    generalize hy : (imL wn r).sum = y
    have la : laG same wn r = toL wn + toL r - 2 * maxL (trS same x y) := by unfold laG; rw [hx, hy]
    rw [la]
    have tne : trS same x y ≠ [] := by unfold trS; cases same <;> simp
    obtain ⟨m1, m2⟩ := maxL_ok tne
    refine sj_set 5 (i := .d (.list ((trS same x y).map .int))) (M1 := []) nd (ej_if (t := same) (tj_val (ej_name 2)) (fun h => by
      subst h
      exact jr_list (jd_cons (ej_neg (n := y) (ej_name 4)) (jd_cons (ej_neg (n := x) (ej_name 3)) (jd_cons (ej_name 4) jd_nil))) (by show 3 ≤ 1000; decide)) (fun h => by
      subst h
      exact jl4 (A := .int x) (B := .int (-y)) (C := .int (-x)) (ej_name 3) (ej_neg (n := y) (ej_name 4)) (ej_neg (n := x) (ej_name 3)) (ej_name 4))) ?_
    exact sj_ret (ej_sub (n := toL wn + toL r) (m := 2 * maxL (trS same x y)) (ej_add (n := toL wn) (m := toL r) (ej_callP GT hr (aj_cons (ej_name (i := .d (.list (psD wn))) 0) aj_nil) ⟨rfl, rfl, wn, rfl, sw, lw, rfl⟩) (ej_callP GT hr (aj_cons (ej_name (i := .d (.list (psD r))) 1) aj_nil) ⟨rfl, rfl, r, rfl, sr, lr, rfl⟩)) (ej_mul (n := 2) (m := maxL (trS same x y)) ej_int (ej_maxL (ns := trS same x y) rfl T.b_max (ej_name 5) m1 m2) (.inl (by decide)))) ⟨rfl, [], rfl⟩
theorem d_shifted (T : Txt K mg) : Def P w K mg base "shifted" 1 CoShf := by
  obtain ⟨f, fd, F, hm, hb⟩ := T.f_shifted
  refine def_ok F sc_shifted hm hb (fun is M i M' h => ?_) fun X hX N is M i M' hF hC => ?_
  · obtain ⟨rfl, rfl, ws, shift, many, rfl, _⟩ := h
    exact ⟨rfl, rfl⟩
  · obtain ⟨cdv, A, outer, sh, H, E, rfl, hr⟩ := hX
    obtain ⟨rfl, rfl, ws, shift, many, rfl, hm1, hw, s1, s2, rfl⟩ := hC
    have nd := sc_shifted.nd
    refine sj_if (t := decide (shift < 0)) (M1 := []) (tj_lt (n := shift) (m := 0) (ej_name 1) ej_int) (fun h => ?_) (fun h => ?_)
    · have h := of_decide_eq_true h
      obtain ⟨k, ek⟩ : ∃ k : Nat, shift = -(k : Int) := ⟨(-shift).toNat, by omega⟩
      have kp : 0 < k := by omega
      have emin : min (-shift) (many : Int) = ((min k many : Nat) : Int) := by omega
      refine sj_set 3 (i := .d (.list (psD (List.replicate (min k many) g0)))) (M1 := []) nd (ej_el (ds := psD (List.replicate (min k many) g0)) (el_zeros (n := min k many) (by omega) (jl1 (jt2 ej_int ej_int)) (ej_is (ej_min2 (n := -shift) (m := (many : Int)) rfl T.b_min (ej_neg (n := shift) (ej_name 1)) (ej_name 2)) ?_)) rfl) ?_
      · refine congrArg dI ?_
        omega
      refine sj_set 4 (i := .d (.list (psD (ws.take (many - min k many))))) (M1 := []) nd (ej_el (ds := psD (ws.take (many - min k many))) (el_slLto (ds := psD ws) (l := ((many - min k many : Nat) : Int)) (ej_name 0) (ej_is (ej_sub (n := (many : Int)) (m := ((min k many : Nat) : Int)) (ej_name 2) (ej_is (ej_lenL (ds := psD (List.replicate (min k many) g0)) T.b_len (ej_name 3)) (by rw [psD_len, List.length_replicate]))) (by refine congrArg dI ?_; omega))) (by
        rw [cut_to (by rw [psD_len]; omega)]
        unfold psD
        simp only [List.map_take])) ?_
      have e : List.replicate (min k many) g0 ++ ws.take (many - min k many) ++ List.replicate (many - (List.replicate (min k many) g0).length - (ws.take (many - min k many)).length) g0 = shG ws shift many := by
        rw [List.length_replicate, List.length_take, show many - min k many - min (many - min k many) ws.length = 0 by omega, List.replicate_zero, List.append_nil, ek]
        exact shG_neg hm1 kp
      have h1 : (List.replicate (min k many) g0).length + (ws.take (many - min k many)).length ≤ many := by rw [List.length_replicate, List.length_take]; omega
      rw [← e]
      refine sj_nil ?_
      generalize List.replicate (min k many) g0 = a at h1 ⊢
      generalize ws.take (many - min k many) = b at h1 ⊢
      refine sj_ret (ej_el (ds := psD (a ++ b ++ List.replicate (many - a.length - b.length) g0)) (el_cat (ds := psD (a ++ b)) (es := psD (List.replicate (many - a.length - b.length) g0)) (ej_el (ds := psD (a ++ b)) (el_cat (ds := psD a) (es := psD b) (ej_name 3) (ej_name 4) (by rw [psD_len, psD_len]; omega)) (by rw [psD_cat2])) (ej_el (ds := psD (List.replicate (many - a.length - b.length) g0)) (el_zeros (n := many - a.length - b.length) (by omega) (jl1 (jt2 ej_int ej_int)) (ej_is (ej_sub (n := (many : Int) - (a.length : Int)) (m := (b.length : Int)) (ej_sub (n := (many : Int)) (m := (a.length : Int)) (ej_name 2) (ej_is (ej_lenL (ds := psD a) T.b_len (ej_name 3)) (by rw [psD_len]))) (ej_is (ej_lenL (ds := psD b) T.b_len (ej_name 4)) (by rw [psD_len]))) (by refine congrArg dI ?_; omega))) rfl) (by rw [psD_len, psD_len, List.length_append, List.length_replicate]; omega)) (by rw [psD_cat2 (a ++ b)])) ⟨rfl, [], rfl⟩
    · have h := of_decide_eq_false h
      obtain ⟨k, ek⟩ : ∃ k : Nat, shift = (k : Int) := ⟨shift.toNat, by omega⟩
      refine sj_set 3 (i := .d (.list (psD []))) (M1 := []) nd jl0 ?_
      refine sj_set 4 (i := .d (.list (psD ((ws.drop k).take many)))) (M1 := []) nd (ej_el (ds := psD ((ws.drop k).take many)) (el_slV (ds := psD ws) (l := (k : Int)) (h := ((k + many : Nat) : Int)) (ej_name 0) (ej_is (ej_name (i := dI shift) 1) (by rw [ek])) (ej_is (ej_add (n := shift) (m := (many : Int)) (ej_name 1) (ej_name 2)) (by rw [ek, Int.natCast_add]))) ?_) ?_
      · rw [cut_any]
        unfold psD
        simp only [List.map_take, List.map_drop]
      have e : [] ++ (ws.drop k).take many ++ List.replicate (many - ([] : List Gp).length - ((ws.drop k).take many).length) g0 = shG ws shift many := by
        rw [List.nil_append, List.length_nil, Nat.sub_zero, List.length_take, List.length_drop, ek]
        exact shG_pos
      have h1 : ([] : List Gp).length + ((ws.drop k).take many).length ≤ many := by rw [List.length_take, List.length_nil]; omega
      rw [← e]
      refine sj_nil ?_
      generalize ([] : List Gp) = a at h1 ⊢
      generalize (ws.drop k).take many = b at h1 ⊢
      refine sj_ret (ej_el (ds := psD (a ++ b ++ List.replicate (many - a.length - b.length) g0)) (el_cat (ds := psD (a ++ b)) (es := psD (List.replicate (many - a.length - b.length) g0)) (ej_el (ds := psD (a ++ b)) (el_cat (ds := psD a) (es := psD b) (ej_name 3) (ej_name 4) (by rw [psD_len, psD_len]; omega)) (by rw [psD_cat2])) (ej_el (ds := psD (List.replicate (many - a.length - b.length) g0)) (el_zeros (n := many - a.length - b.length) (by omega) (jl1 (jt2 ej_int ej_int)) (ej_is (ej_sub (n := (many : Int) - (a.length : Int)) (m := (b.length : Int)) (ej_sub (n := (many : Int)) (m := (a.length : Int)) (ej_name 2) (ej_is (ej_lenL (ds := psD a) T.b_len (ej_name 3)) (by rw [psD_len]))) (ej_is (ej_lenL (ds := psD b) T.b_len (ej_name 4)) (by rw [psD_len]))) (by refine congrArg dI ?_; omega))) rfl) (by rw [psD_len, psD_len, List.length_append, List.length_replicate]; omega)) (by rw [psD_cat2 (a ++ b)])) ⟨rfl, [], rfl⟩
end

/-! ### separation -/
def sepE (o : List Gp) (ls : List (List Gp)) (n : Nat) (sf : Int) (b : Nat) : Int := laG (decide (sf = 0) && decide ((n : Int) = (b : Int))) (shG (tolG o (ls.getD n []) 0) sf o.length) (shpG o (ls.getD b []) 0)
def sepR (o : List Gp) (ls : List (List Gp)) (n : Nat) (sf : Int) (m : Nat) : List Int := (List.range m).map (sepE o ls n sf)
def sepW (o : List Gp) (ls : List (List Gp)) (s n m : Nat) : List Int := (List.range m).flatMap fun k : Nat => sepR o ls n (-(s : Int) + (k : Int)) ls.length
def sepL (o : List Gp) (ls : List (List Gp)) (s m : Nat) : List Int := (List.range m).flatMap fun n => sepW o ls s n (2 * s + 1)
theorem sepL_succ (o : List Gp) (ls : List (List Gp)) (s m : Nat) : sepL o ls s (m + 1) = sepL o ls s m ++ sepW o ls s m (2 * s + 1) := by
  unfold sepL
  rw [List.range_succ, List.flatMap_append, List.flatMap_singleton]
theorem sepW_succ (o : List Gp) (ls : List (List Gp)) (s n m : Nat) : sepW o ls s n (m + 1) = sepW o ls s n m ++ sepR o ls n (-(s : Int) + (m : Int)) ls.length := by
  unfold sepW
  rw [List.range_succ, List.flatMap_append, List.flatMap_singleton]
theorem sepR_succ (o : List Gp) (ls : List (List Gp)) (n : Nat) (sf : Int) (m : Nat) : sepR o ls n sf (m + 1) = sepR o ls n sf m ++ [sepE o ls n sf m] := by
  unfold sepR
  rw [List.range_succ, List.map_append]
  rfl
theorem sepW_len (o : List Gp) (ls : List (List Gp)) (s n m : Nat) : (sepW o ls s n m).length = m * ls.length := by
  unfold sepW sepR
  rw [List.length_flatMap]
  simp only [List.length_map, List.length_range]
  rw [List.map_const', List.length_range, sum_const]
theorem sepL_len (o : List Gp) (ls : List (List Gp)) (s m : Nat) : (sepL o ls s m).length = m * ((2 * s + 1) * ls.length) := by
  unfold sepL
  rw [List.length_flatMap]
  simp only [sepW_len]
  rw [List.map_const', List.length_range, sum_const]
theorem sep_mem {o : List Gp} {ls : List (List Gp)} {s : Nat} {v : Int} : v ∈ sepL o ls s ls.length ↔ ∃ (n b : Nat) (sf : Int), n < ls.length ∧ b < ls.length ∧ -(s : Int) ≤ sf ∧ sf ≤ (s : Int) ∧ v = sepE o ls n sf b := by
  unfold sepL sepW sepR
  rw [List.mem_flatMap]
  constructor
  · rintro ⟨n, hn, h⟩
    obtain ⟨k, hk, h⟩ := List.mem_flatMap.mp h
    obtain ⟨b, hb, rfl⟩ := List.mem_map.mp h
    have := List.mem_range.mp hk
    exact ⟨n, b, _, List.mem_range.mp hn, List.mem_range.mp hb, by omega, by omega, rfl⟩
  · rintro ⟨n, b, sf, hn, hb, h1, h2, rfl⟩
    refine ⟨n, List.mem_range.mpr hn, List.mem_flatMap.mpr ⟨(sf + s).toNat, List.mem_range.mpr (by omega), List.mem_map.mpr ⟨b, List.mem_range.mpr hb, ?_⟩⟩⟩
    rw [show -(s : Int) + ((sf + s).toNat : Int) = sf by omega]
def CoSep : Co := fun is M i M' => M = [] ∧ M' = [] ∧ ∃ (A B : Int) (o : List Gp) (ls : List (List Gp)) (s : Nat) (m : Int) (Lv : PyData), is = [.d (opD o), .d Lv, dI (s : Int)] ∧ LnsD Lv ls ∧ OpOk A o ∧ (∀ ts ∈ ls, LnOk B ts) ∧ 0 ≤ A ∧ 0 ≤ B ∧ B ≤ 1000 ∧ 128 * (A * B) < 18446744073709551616 ∧ ls.length ≤ 10 ∧ s ≤ 100 ∧ m ∈ sepL o ls s ls.length ∧ (∀ y ∈ sepL o ls s ls.length, m ≤ y) ∧ i = dI m
def wvD (o : List Gp) (ls : List (List Gp)) : List PyData := ls.map fun ts => .list (psD (tolG o ts 0))
def rwD (o : List Gp) (ls : List (List Gp)) : List PyData := ls.map fun ts => .list (psD (shpG o ts 0))
theorem wv_inv {f : List Gp → PyData} {ls : List (List Gp)} {j : Nat} {d : PyData} (h : (ls.map f)[j]? = some d) : ∃ ts, ls[j]? = some ts ∧ d = f ts := by
  rw [List.getElem?_map] at h
  obtain ⟨ts, h1, h2⟩ := Option.map_eq_some_iff.mp h
  exact ⟨ts, h1, h2.symm⟩
theorem el_eq {X : Cx} {N : Ent} {ρ : Rho} {M M1 : Mem} {e : Expr} {is js : List Kt.It} (h : EL X N ρ M e is M1) (q : is = js) : EL X N ρ M e js M1 := q ▸ h
theorem tbj_is {N : Ent} {D : Addr} {ρ : Rho} {M : Mem} {A A' C C' : List Kt.It} {b : TB} (h : TBJ N D ρ M A A' b) (e1 : A = C) (e2 : A' = C') : TBJ N D ρ M C C' b := by
  subst e1 e2
  exact h
section
variable {P : Program} {w : World} {K : PySem.W.Frag} {mg : Str → Option Value} {base : Heap}
theorem d_separation (T : Txt K mg) : Def P w K mg base "separation" 6 CoSep := by
  obtain ⟨f, fd, F, hm, hb⟩ := T.f_separation
  have GT := d_told_by (P := P) (w := w) (base := base) T
  have GS := d_shape (P := P) (w := w) (base := base) T
  have GL := d_least_apart (P := P) (w := w) (base := base) T
  have GW := d_shifted (P := P) (w := w) (base := base) T
  refine def_ok F sc_separation hm hb (fun is M i M' h => ?_) fun X hX N is M i M' hF hC => ?_
  · obtain ⟨rfl, rfl, A, B, o, ls, s, m, Lv, rfl, _⟩ := h
    exact ⟨rfl, rfl⟩
  · obtain ⟨cdv, Ar, outer, sh, H, E, rfl, hr⟩ := hX
    obtain ⟨rfl, rfl, A, B, o, ls, s, m, Lv, rfl, hLv, O, L, hA, hB, hB2, hAB, l10, s100, m1, m2, rfl⟩ := hC
    have nd := sc_separation.nd
    have hr1 : Room 1 (Ar.deeper (envOfC "separation" (defScope s_separation) sh.heap.objs.size f cdv)) := hr.mono (by decide)
    have hr3 : Room 3 (Ar.deeper (envOfC "separation" (defScope s_separation) sh.heap.objs.size f cdv)) := hr.mono (by decide)
    have hr4 : Room 4 (Ar.deeper (envOfC "separation" (defScope s_separation) sh.heap.objs.size f cdv)) := hr.mono (by decide)
    have hr5 : Room 5 (Ar.deeper (envOfC "separation" (defScope s_separation) sh.heap.objs.size f cdv)) := hr
    have o1 : 1 ≤ o.length := List.length_pos_iff.mpr O.ne
    have o64 := O.le
    have wl : (wvD o ls).length = ls.length := List.length_map ..
    have rl : (rwD o ls).length = ls.length := List.length_map ..
    have zero : (0 : Int) = ((0 : Nat) : Int) := rfl
    have tb : ∀ ts ∈ ls, ∀ t, ∀ p ∈ tolG o ts t, bdG (128 * (A * B)) p := fun ts hts t => tol_bd hA hB O (L ts hts) t
    have AB0 : 0 ≤ 128 * (A * B) := by have := Int.mul_nonneg hA hB; omega
    rcases hLv with rfl | rfl
    · refine sj_setcomp 3 5 (ds := lnsD ls) (M1 := []) (fun j => (wvD o (ls.take j)).map It.d) (fun _ => []) rfl nd (ej_name 1) rfl rfl (by rw [lnsD_len]; omega) (fun j d hd => ?_) fun q hq => ?_
      · obtain ⟨ts, hts, rfl⟩ := lns_inv hd
        have LO := L ts (List.mem_of_getElem? hts)
        refine ⟨.d (.list (psD (tolG o ts 0))), by unfold wvD; rw [take_snoc hts, List.map_append, List.map_append]; rfl, by unfold wvD; rw [List.length_map, List.length_map]; exact List.length_take_le .., fun N' s' Hh C cl fp => ej_callP GT hr4 (aj_cons (ej_name (i := .d (opD o)) 0) (aj_cons (ej_name (i := .d (lnD ts)) 5) (aj_cons (ej_is ej_int (j := dI ((0 : Nat) : Int)) rfl) aj_nil))) ⟨rfl, rfl, B, o, ts, 0, rfl, by omega, O.ne, o64, LO, hB2, rfl⟩⟩
      rw [lnsD_len, List.take_length]
      refine sj_frzT (Mb := []) 3 (ds := wvD o ls) rfl hq ?_
      refine sj_own 4 (is := (rwD o ls).map It.d) (M1 := []) nd (el_eq (el_compW1 5 (ds := lnsD ls) (M1 := []) (fun j => (rwD o (ls.take j)).map It.d) (fun _ => []) rfl nd (iw_list (ej_name 1)) (fun _ _ => trivial) rfl rfl (by rw [lnsD_len]; omega) (fun j d hd => by
          obtain ⟨ts, hts, rfl⟩ := lns_inv hd
          have LO := L ts (List.mem_of_getElem? hts)
          exact ⟨.d (.list (psD (shpG o ts 0))), by unfold rwD; rw [take_snoc hts, List.map_append, List.map_append]; rfl, by unfold rwD; rw [List.length_map, List.length_map]; exact List.length_take_le .., fun N' s' Hh C cl fp => ej_callP GS hr5 (aj_cons (ej_name (i := .d (opD o)) 0) (aj_cons (ej_name (i := .d (lnD ts)) 5) (aj_cons (ej_is ej_int (j := dI ((0 : Nat) : Int)) rfl) aj_nil))) ⟨rfl, rfl, B, o, ts, 0, rfl, by omega, O.ne, o64, LO, hB2, rfl⟩⟩)) (by rw [lnsD_len, List.take_length])) fun q2 hq2 => ?_
      refine sj_frzT (Mb := []) 4 (ds := rwD o ls) rfl hq2 ?_
      have ll1 : ∀ n, n ≤ ls.length → n * ((2 * s + 1) * ls.length) ≤ 10 * (201 * 10) := fun n hn => Nat.mul_le_mul (by omega) (Nat.mul_le_mul (by omega) l10)
      have ll2 : ∀ k, k ≤ 2 * s + 1 → k * ls.length ≤ 201 * 10 := fun k hk => Nat.mul_le_mul (by omega) l10
      refine sj_ret (ej_minL (ns := sepL o ls s ls.length) rfl T.b_min (ej_el (ds := (sepL o ls s ls.length).map .int) (M1 := []) (el_comp3 (own := [("number", 6), ("wave", 7), ("shift", 8), ("beside", 9), ("row", 10)]) (vs1 := [8, 9, 10]) (vs2 := [9, 10]) (g := gTup K 2 (gCons (gName 6) (gCons (gName 7) gNil))) (g1 := gName 8) (g2 := gTup K 2 (gCons (gName 9) (gCons (gName 10) gNil))) (ds := enumD (wvD o ls)) (M1 := []) (fun m => (sepL o ls s m).map dI) rfl nd (ia_enumL T.b_enumerate (ej_name 3)) rfl (by decide) (by decide) (fun N' D n d hd => ?_) (blkOk_by (by kernel_rfl)) (fun _ _ _ _ _ => pg_tup (by rfl) (pgs_cons (pg_name (by assumption) rfl (Or.inl rfl)) (pgs_cons (pg_name (by assumption) rfl (Or.inl rfl)) pgs_nil))) (fun _ _ _ _ _ => pg_name (by assumption) rfl (Or.inl rfl)) (fun _ _ _ _ _ => pg_tup (by rfl) (pgs_cons (pg_name (by assumption) rfl (Or.inl rfl)) (pgs_cons (pg_name (by assumption) rfl (Or.inl rfl)) pgs_nil)))) ?_) m1 m2) ⟨rfl, [], rfl⟩
      · obtain ⟨x, hx, rfl⟩ := enumD_inv hd
        obtain ⟨ts, hts, rfl⟩ := wv_inv hx
        have nl : n < ls.length := (List.getElem?_eq_some_iff.mp hts).1
        have LO := L ts (List.mem_of_getElem? hts)
        have t1 : 1 ≤ ts.length := List.length_pos_iff.mpr LO.ne
        have t4 := LO.le
        have tl := tol_len O.ne LO.ne 0
        have eg : ls.getD n [] = ts := by rw [List.getD_eq_getElem?_getD, hts]; rfl
        have ln := ll1 n (by omega)
        refine ⟨[some (.d (opD o)), some (.d (.list (lnsD ls))), some (dI (s : Int)), some (.d (.list (wvD o ls))), some (.d (.list (rwD o ls))), none, some (dI (n : Int)), some (.d (.list (psD (tolG o ts 0)))), none, none, none], tgV2 6 7 [8, 9, 10], ?_⟩
        refine tbj_is (tbj_walk (ds := (List.range ((s : Int) + 1 - -(s : Int)).toNat).map fun k : Nat => .int (-(s : Int) + (k : Int))) (fun j => (sepL o ls s n ++ sepW o ls s n j).map dI) (fun N' s' Hh C cl fp => ia_range2 T.b_range (ej_neg (n := (s : Int)) (ej_name 2)) (ej_add (n := (s : Int)) (m := 1) (ej_name 2) ej_int) (by omega) (by omega)) (fun j d hd => ?_)) (by show (sepL o ls s n ++ []).map dI = _; rw [List.append_nil]) (by rw [List.length_map, List.length_range, show ((s : Int) + 1 - -(s : Int)).toNat = 2 * s + 1 by omega, sepL_succ])
        have jl : j < 2 * s + 1 := by
          have := (List.getElem?_eq_some_iff.mp hd).1
          rw [List.length_map, List.length_range] at this
          omega
        rw [List.getElem?_map, List.getElem?_range (by omega)] at hd
        cases Option.some.inj hd
        have lj := ll2 j (by omega)
        refine ⟨[some (.d (opD o)), some (.d (.list (lnsD ls))), some (dI (s : Int)), some (.d (.list (wvD o ls))), some (.d (.list (rwD o ls))), none, some (dI (n : Int)), some (.d (.list (psD (tolG o ts 0)))), some (dI (-(s : Int) + (j : Int))), none, none], tgV1 8 [9, 10], ?_⟩
        refine tbj_is (tbj_walk (ds := enumD (rwD o ls)) (fun b => (sepL o ls s n ++ sepW o ls s n j ++ sepR o ls n (-(s : Int) + (j : Int)) b).map dI) (fun N' s' Hh C cl fp => ia_enumL T.b_enumerate (ej_name 4)) (fun b d hd => ?_)) (by show (sepL o ls s n ++ sepW o ls s n j ++ []).map dI = _; rw [List.append_nil]) (by rw [enumD_len, rl, sepW_succ, List.append_assoc])
        obtain ⟨x, hx, rfl⟩ := enumD_inv hd
        obtain ⟨ts2, hts2, rfl⟩ := wv_inv hx
        have bl : b < ls.length := (List.getElem?_eq_some_iff.mp hts2).1
        have LO2 := L ts2 (List.mem_of_getElem? hts2)
        have eg2 : ls.getD b [] = ts2 := by rw [List.getD_eq_getElem?_getD, hts2]; rfl
        have sl2 := shp_len O.ne LO2.ne 0
        have es : sepE o ls n (-(s : Int) + (j : Int)) b = laG (decide (-(s : Int) + (j : Int) = 0) && decide ((n : Int) = (b : Int))) (shG (tolG o ts 0) (-(s : Int) + (j : Int)) o.length) (shpG o ts2 0) := by
          unfold sepE
          rw [eg, eg2]
        refine ⟨[some (.d (opD o)), some (.d (.list (lnsD ls))), some (dI (s : Int)), some (.d (.list (wvD o ls))), some (.d (.list (rwD o ls))), none, some (dI (n : Int)), some (.d (.list (psD (tolG o ts 0)))), some (dI (-(s : Int) + (j : Int))), some (dI (b : Int)), some (.d (.list (psD (shpG o ts2 0))))], tgV2 9 10 [], ?_⟩
        refine tbj_is (tbj_app (A := (sepL o ls s n ++ sepW o ls s n j ++ sepR o ls n (-(s : Int) + (j : Int)) b).map dI) (j := dI (sepE o ls n (-(s : Int) + (j : Int)) b)) ?_ fun N' s' Hh C cl fp => ?_) rfl (by rw [sepR_succ, ← List.append_assoc, List.map_append (l₂ := [_])]; rfl)
        · have : (sepR o ls n (-(s : Int) + (j : Int)) b).length = b := by unfold sepR; simp
          rw [List.length_map, List.length_append, List.length_append, sepL_len, sepW_len, this]
          omega
        · rw [es]
          refine ej_callP GL hr3 (aj_cons (ej_callP GW hr1 (aj_cons (ej_name (i := .d (.list (psD (tolG o ts 0)))) 7) (aj_cons (ej_name (i := dI (-(s : Int) + (j : Int))) 8) (aj_cons (ej_is (ej_lenT (ds := psD o) T.b_len (ej_name 0)) (by rw [psD_len])) aj_nil))) ⟨rfl, rfl, tolG o ts 0, -(s : Int) + (j : Int), o.length, rfl, by omega, by omega, by omega, by omega, rfl⟩) (aj_cons (ej_name (i := .d (.list (psD (shpG o ts2 0)))) 10) (aj_cons (i := dB (decide (-(s : Int) + (j : Int) = 0) && decide ((n : Int) = (b : Int)))) (ej_andV (ej_eqI (n := -(s : Int) + (j : Int)) (m := 0) (ej_name 8) ej_int) fun _ => ej_one (ej_eqI (n := (n : Int)) (m := (b : Int)) (ej_name 6) (ej_name 9))) aj_nil))) ⟨rfl, rfl, shG (tolG o ts 0) (-(s : Int) + (j : Int)) o.length, shpG o ts2 0, _, rfl, fun p hp => (shG_bd AB0 (tb ts (List.mem_of_getElem? hts) 0) _ _ p hp).sm hAB, fun p hp => (tb ts2 (List.mem_of_getElem? hts2) 0 p (List.mem_of_mem_take hp)).sm hAB, by rw [shG_len]; omega, by omega, rfl⟩
      · rw [enumD_len, wl, List.map_map (f := PyData.int)]
        rfl
    · refine sj_setcompT 3 5 (ds := lnsD ls) (M1 := []) (fun j => (wvD o (ls.take j)).map It.d) (fun _ => []) rfl nd (ej_name 1) rfl rfl (by rw [lnsD_len]; omega) (fun j d hd => ?_) fun q hq => ?_
      · obtain ⟨ts, hts, rfl⟩ := lns_inv hd
        have LO := L ts (List.mem_of_getElem? hts)
        refine ⟨.d (.list (psD (tolG o ts 0))), by unfold wvD; rw [take_snoc hts, List.map_append, List.map_append]; rfl, by unfold wvD; rw [List.length_map, List.length_map]; exact List.length_take_le .., fun N' s' Hh C cl fp => ej_callP GT hr4 (aj_cons (ej_name (i := .d (opD o)) 0) (aj_cons (ej_name (i := .d (lnD ts)) 5) (aj_cons (ej_is ej_int (j := dI ((0 : Nat) : Int)) rfl) aj_nil))) ⟨rfl, rfl, B, o, ts, 0, rfl, by omega, O.ne, o64, LO, hB2, rfl⟩⟩
      rw [lnsD_len, List.take_length]
      refine sj_frzT (Mb := []) 3 (ds := wvD o ls) rfl hq ?_
      refine sj_own 4 (is := (rwD o ls).map It.d) (M1 := []) nd (el_eq (el_compW1 5 (ds := lnsD ls) (M1 := []) (fun j => (rwD o (ls.take j)).map It.d) (fun _ => []) rfl nd (iw_tup (ej_name 1)) (fun _ _ => trivial) rfl rfl (by rw [lnsD_len]; omega) (fun j d hd => by
          obtain ⟨ts, hts, rfl⟩ := lns_inv hd
          have LO := L ts (List.mem_of_getElem? hts)
          exact ⟨.d (.list (psD (shpG o ts 0))), by unfold rwD; rw [take_snoc hts, List.map_append, List.map_append]; rfl, by unfold rwD; rw [List.length_map, List.length_map]; exact List.length_take_le .., fun N' s' Hh C cl fp => ej_callP GS hr5 (aj_cons (ej_name (i := .d (opD o)) 0) (aj_cons (ej_name (i := .d (lnD ts)) 5) (aj_cons (ej_is ej_int (j := dI ((0 : Nat) : Int)) rfl) aj_nil))) ⟨rfl, rfl, B, o, ts, 0, rfl, by omega, O.ne, o64, LO, hB2, rfl⟩⟩)) (by rw [lnsD_len, List.take_length])) fun q2 hq2 => ?_
      refine sj_frzT (Mb := []) 4 (ds := rwD o ls) rfl hq2 ?_
      have ll1 : ∀ n, n ≤ ls.length → n * ((2 * s + 1) * ls.length) ≤ 10 * (201 * 10) := fun n hn => Nat.mul_le_mul (by omega) (Nat.mul_le_mul (by omega) l10)
      have ll2 : ∀ k, k ≤ 2 * s + 1 → k * ls.length ≤ 201 * 10 := fun k hk => Nat.mul_le_mul (by omega) l10
      refine sj_ret (ej_minL (ns := sepL o ls s ls.length) rfl T.b_min (ej_el (ds := (sepL o ls s ls.length).map .int) (M1 := []) (el_comp3 (own := [("number", 6), ("wave", 7), ("shift", 8), ("beside", 9), ("row", 10)]) (vs1 := [8, 9, 10]) (vs2 := [9, 10]) (g := gTup K 2 (gCons (gName 6) (gCons (gName 7) gNil))) (g1 := gName 8) (g2 := gTup K 2 (gCons (gName 9) (gCons (gName 10) gNil))) (ds := enumD (wvD o ls)) (M1 := []) (fun m => (sepL o ls s m).map dI) rfl nd (ia_enumL T.b_enumerate (ej_name 3)) rfl (by decide) (by decide) (fun N' D n d hd => ?_) (blkOk_by (by kernel_rfl)) (fun _ _ _ _ _ => pg_tup (by rfl) (pgs_cons (pg_name (by assumption) rfl (Or.inl rfl)) (pgs_cons (pg_name (by assumption) rfl (Or.inl rfl)) pgs_nil))) (fun _ _ _ _ _ => pg_name (by assumption) rfl (Or.inl rfl)) (fun _ _ _ _ _ => pg_tup (by rfl) (pgs_cons (pg_name (by assumption) rfl (Or.inl rfl)) (pgs_cons (pg_name (by assumption) rfl (Or.inl rfl)) pgs_nil)))) ?_) m1 m2) ⟨rfl, [], rfl⟩
      · obtain ⟨x, hx, rfl⟩ := enumD_inv hd
        obtain ⟨ts, hts, rfl⟩ := wv_inv hx
        have nl : n < ls.length := (List.getElem?_eq_some_iff.mp hts).1
        have LO := L ts (List.mem_of_getElem? hts)
        have t1 : 1 ≤ ts.length := List.length_pos_iff.mpr LO.ne
        have t4 := LO.le
        have tl := tol_len O.ne LO.ne 0
        have eg : ls.getD n [] = ts := by rw [List.getD_eq_getElem?_getD, hts]; rfl
        have ln := ll1 n (by omega)
        refine ⟨[some (.d (opD o)), some (.d (.tuple (lnsD ls))), some (dI (s : Int)), some (.d (.list (wvD o ls))), some (.d (.list (rwD o ls))), none, some (dI (n : Int)), some (.d (.list (psD (tolG o ts 0)))), none, none, none], tgV2 6 7 [8, 9, 10], ?_⟩
        refine tbj_is (tbj_walk (ds := (List.range ((s : Int) + 1 - -(s : Int)).toNat).map fun k : Nat => .int (-(s : Int) + (k : Int))) (fun j => (sepL o ls s n ++ sepW o ls s n j).map dI) (fun N' s' Hh C cl fp => ia_range2 T.b_range (ej_neg (n := (s : Int)) (ej_name 2)) (ej_add (n := (s : Int)) (m := 1) (ej_name 2) ej_int) (by omega) (by omega)) (fun j d hd => ?_)) (by show (sepL o ls s n ++ []).map dI = _; rw [List.append_nil]) (by rw [List.length_map, List.length_range, show ((s : Int) + 1 - -(s : Int)).toNat = 2 * s + 1 by omega, sepL_succ])
        have jl : j < 2 * s + 1 := by
          have := (List.getElem?_eq_some_iff.mp hd).1
          rw [List.length_map, List.length_range] at this
          omega
        rw [List.getElem?_map, List.getElem?_range (by omega)] at hd
        cases Option.some.inj hd
        have lj := ll2 j (by omega)
        refine ⟨[some (.d (opD o)), some (.d (.tuple (lnsD ls))), some (dI (s : Int)), some (.d (.list (wvD o ls))), some (.d (.list (rwD o ls))), none, some (dI (n : Int)), some (.d (.list (psD (tolG o ts 0)))), some (dI (-(s : Int) + (j : Int))), none, none], tgV1 8 [9, 10], ?_⟩
        refine tbj_is (tbj_walk (ds := enumD (rwD o ls)) (fun b => (sepL o ls s n ++ sepW o ls s n j ++ sepR o ls n (-(s : Int) + (j : Int)) b).map dI) (fun N' s' Hh C cl fp => ia_enumL T.b_enumerate (ej_name 4)) (fun b d hd => ?_)) (by show (sepL o ls s n ++ sepW o ls s n j ++ []).map dI = _; rw [List.append_nil]) (by rw [enumD_len, rl, sepW_succ, List.append_assoc])
        obtain ⟨x, hx, rfl⟩ := enumD_inv hd
        obtain ⟨ts2, hts2, rfl⟩ := wv_inv hx
        have bl : b < ls.length := (List.getElem?_eq_some_iff.mp hts2).1
        have LO2 := L ts2 (List.mem_of_getElem? hts2)
        have eg2 : ls.getD b [] = ts2 := by rw [List.getD_eq_getElem?_getD, hts2]; rfl
        have sl2 := shp_len O.ne LO2.ne 0
        have es : sepE o ls n (-(s : Int) + (j : Int)) b = laG (decide (-(s : Int) + (j : Int) = 0) && decide ((n : Int) = (b : Int))) (shG (tolG o ts 0) (-(s : Int) + (j : Int)) o.length) (shpG o ts2 0) := by
          unfold sepE
          rw [eg, eg2]
        refine ⟨[some (.d (opD o)), some (.d (.tuple (lnsD ls))), some (dI (s : Int)), some (.d (.list (wvD o ls))), some (.d (.list (rwD o ls))), none, some (dI (n : Int)), some (.d (.list (psD (tolG o ts 0)))), some (dI (-(s : Int) + (j : Int))), some (dI (b : Int)), some (.d (.list (psD (shpG o ts2 0))))], tgV2 9 10 [], ?_⟩
        refine tbj_is (tbj_app (A := (sepL o ls s n ++ sepW o ls s n j ++ sepR o ls n (-(s : Int) + (j : Int)) b).map dI) (j := dI (sepE o ls n (-(s : Int) + (j : Int)) b)) ?_ fun N' s' Hh C cl fp => ?_) rfl (by rw [sepR_succ, ← List.append_assoc, List.map_append (l₂ := [_])]; rfl)
        · have : (sepR o ls n (-(s : Int) + (j : Int)) b).length = b := by unfold sepR; simp
          rw [List.length_map, List.length_append, List.length_append, sepL_len, sepW_len, this]
          omega
        · rw [es]
          refine ej_callP GL hr3 (aj_cons (ej_callP GW hr1 (aj_cons (ej_name (i := .d (.list (psD (tolG o ts 0)))) 7) (aj_cons (ej_name (i := dI (-(s : Int) + (j : Int))) 8) (aj_cons (ej_is (ej_lenT (ds := psD o) T.b_len (ej_name 0)) (by rw [psD_len])) aj_nil))) ⟨rfl, rfl, tolG o ts 0, -(s : Int) + (j : Int), o.length, rfl, by omega, by omega, by omega, by omega, rfl⟩) (aj_cons (ej_name (i := .d (.list (psD (shpG o ts2 0)))) 10) (aj_cons (i := dB (decide (-(s : Int) + (j : Int) = 0) && decide ((n : Int) = (b : Int)))) (ej_andV (ej_eqI (n := -(s : Int) + (j : Int)) (m := 0) (ej_name 8) ej_int) fun _ => ej_one (ej_eqI (n := (n : Int)) (m := (b : Int)) (ej_name 6) (ej_name 9))) aj_nil))) ⟨rfl, rfl, shG (tolG o ts 0) (-(s : Int) + (j : Int)) o.length, shpG o ts2 0, _, rfl, fun p hp => (shG_bd AB0 (tb ts (List.mem_of_getElem? hts) 0) _ _ p hp).sm hAB, fun p hp => (tb ts2 (List.mem_of_getElem? hts2) 0 p (List.mem_of_mem_take hp)).sm hAB, by rw [shG_len]; omega, by omega, rfl⟩
      · rw [enumD_len, wl, List.map_map (f := PyData.int)]
        rfl
end

theorem arr_len {o ts : List Gp} (ho : o ≠ []) (ht : ts ≠ []) (place t slack : Nat) : (arrG o ts place t slack).length = slack + o.length := by
  have tl := tol_len ho ht t
  have t1 : 1 ≤ ts.length := List.length_pos_iff.mpr ht
  unfold arrG
  rw [List.length_take, List.length_append, List.length_append, List.length_replicate, List.length_replicate]
  omega

/-! ### separations: what they are -/
def dG (t : Nat) (x y : Int) : Int := match t with
  | 0 => x
  | 1 => -y
  | 2 => -x
  | _ => y
theorem rt_0 (p : Gp) : rt4 0 p = p := rfl
theorem rt_g0 (t : Nat) : rt4 t g0 = g0 := by
  match t with
  | 0 => rfl
  | 1 => rfl
  | 2 => rfl
  | _ + 3 => rfl
theorem sz_rt (t : Nat) (p q : Gp) : szG (gsub (rt4 t q) p) = szG p + szG q - 2 * dG t (p.1 * q.1 + p.2 * q.2) (p.1 * q.2 - p.2 * q.1) := by
  obtain ⟨a, b⟩ := p
  obtain ⟨c, d⟩ := q
  match t with
  | 0 => show (c - a) * (c - a) + (d - b) * (d - b) = (a * a + b * b) + (c * c + d * d) - 2 * (a * c + b * d); grind
  | 1 => show (-d - a) * (-d - a) + (c - b) * (c - b) = (a * a + b * b) + (c * c + d * d) - 2 * (-(a * d - b * c)); grind
  | 2 => show (-c - a) * (-c - a) + (-d - b) * (-d - b) = (a * a + b * b) + (c * c + d * d) - 2 * (-(a * c + b * d)); grind
  | _ + 3 => show (d - a) * (d - a) + (-c - b) * (-c - b) = (a * a + b * b) + (c * c + d * d) - 2 * (a * d - b * c); grind
theorem sz_rot (t1 t2 : Nat) (h1 : t1 ≤ 3) (h2 : t2 ≤ 3) (p q : Gp) : szG (gsub (rt4 t2 q) (rt4 t1 p)) = szG (gsub (rt4 ((t2 + 4 - t1) % 4) q) p) := by
  obtain ⟨a, b⟩ := p
  obtain ⟨c, d⟩ := q
  have e1 : t1 = 0 ∨ t1 = 1 ∨ t1 = 2 ∨ t1 = 3 := by omega
  have e2 : t2 = 0 ∨ t2 = 1 ∨ t2 = 2 ∨ t2 = 3 := by omega
  rcases e1 with rfl | rfl | rfl | rfl <;> rcases e2 with rfl | rfl | rfl | rfl <;> first | (simp only [rt4, gsub, szG, show (0 + 4 - 0) % 4 = 0 from rfl, show (1 + 4 - 0) % 4 = 1 from rfl, show (2 + 4 - 0) % 4 = 2 from rfl, show (3 + 4 - 0) % 4 = 3 from rfl, show (0 + 4 - 1) % 4 = 3 from rfl, show (1 + 4 - 1) % 4 = 0 from rfl, show (2 + 4 - 1) % 4 = 1 from rfl, show (3 + 4 - 1) % 4 = 2 from rfl, show (0 + 4 - 2) % 4 = 2 from rfl, show (1 + 4 - 2) % 4 = 3 from rfl, show (2 + 4 - 2) % 4 = 0 from rfl, show (3 + 4 - 2) % 4 = 1 from rfl, show (0 + 4 - 3) % 4 = 1 from rfl, show (1 + 4 - 3) % 4 = 2 from rfl, show (2 + 4 - 3) % 4 = 3 from rfl, show (3 + 4 - 3) % 4 = 0 from rfl]; done) | (simp only [rt4, gsub, szG, show (0 + 4 - 0) % 4 = 0 from rfl, show (1 + 4 - 0) % 4 = 1 from rfl, show (2 + 4 - 0) % 4 = 2 from rfl, show (3 + 4 - 0) % 4 = 3 from rfl, show (0 + 4 - 1) % 4 = 3 from rfl, show (1 + 4 - 1) % 4 = 0 from rfl, show (2 + 4 - 1) % 4 = 1 from rfl, show (3 + 4 - 1) % 4 = 2 from rfl, show (0 + 4 - 2) % 4 = 2 from rfl, show (1 + 4 - 2) % 4 = 3 from rfl, show (2 + 4 - 2) % 4 = 0 from rfl, show (3 + 4 - 2) % 4 = 1 from rfl, show (0 + 4 - 3) % 4 = 1 from rfl, show (1 + 4 - 3) % 4 = 2 from rfl, show (2 + 4 - 3) % 4 = 3 from rfl, show (3 + 4 - 3) % 4 = 0 from rfl]; grind)
/-- the cost of a turned row along a window -/
def vG (w r : List Gp) (t : Nat) : Int := (List.zipWith (fun p q => szG (gsub (rt4 t q) p)) w r).sum
theorem dG_add (t : Nat) (a b x y : Int) : dG t (a + x) (b + y) = dG t a b + dG t x y := by
  match t with
  | 0 => rfl
  | 1 => show -(b + y) = -b + -y; omega
  | 2 => show -(a + x) = -a + -x; omega
  | _ + 3 => rfl
theorem vG_eq (t : Nat) : ∀ {w r : List Gp}, w.length = r.length → vG w r t = toL w + toL r - 2 * dG t (reL w r).sum (imL w r).sum
  | [], [], _ => by
    match t with
    | 0 => rfl
    | 1 => rfl
    | 2 => rfl
    | _ + 3 => rfl
  | p :: w, q :: r, h => by
    have ih := vG_eq t (w := w) (r := r) (Nat.succ.inj h)
    have e1 : vG (p :: w) (q :: r) t = szG (gsub (rt4 t q) p) + vG w r t := rfl
    have e2 : toL (p :: w) = szG p + toL w := rfl
    have e3 : toL (q :: r) = szG q + toL r := rfl
    have e4 : (reL (p :: w) (q :: r)).sum = (p.1 * q.1 + p.2 * q.2) + (reL w r).sum := rfl
    have e5 : (imL (p :: w) (q :: r)).sum = (p.1 * q.2 - p.2 * q.1) + (imL w r).sum := rfl
    rw [e1, e2, e3, e4, e5, ih, sz_rt, dG_add]
    omega
  | [], _ :: _, h => nomatch h
  | _ :: _, [], h => nomatch h
theorem tr_mem {same : Bool} {x y v : Int} : v ∈ trS same x y ↔ ∃ t, t ≤ 3 ∧ (same = true → t ≠ 0) ∧ v = dG t x y := by
  cases same with
  | true =>
    show v ∈ [-y, -x, y] ↔ _
    constructor
    · intro h
      simp only [List.mem_cons, List.not_mem_nil, or_false] at h
      rcases h with rfl | rfl | rfl
      · exact ⟨1, by omega, fun _ => by omega, rfl⟩
      · exact ⟨2, by omega, fun _ => by omega, rfl⟩
      · exact ⟨3, by omega, fun _ => by omega, rfl⟩
    · rintro ⟨t, ht, h0, rfl⟩
      have h0 := h0 rfl
      have : t = 1 ∨ t = 2 ∨ t = 3 := by omega
      simp only [List.mem_cons, List.not_mem_nil, or_false]
      rcases this with rfl | rfl | rfl
      · exact .inl rfl
      · exact .inr (.inl rfl)
      · exact .inr (.inr rfl)
  | false =>
    show v ∈ [x, -y, -x, y] ↔ _
    constructor
    · intro h
      simp only [List.mem_cons, List.not_mem_nil, or_false] at h
      rcases h with rfl | rfl | rfl | rfl
      · exact ⟨0, by omega, (fun h => nomatch h), rfl⟩
      · exact ⟨1, by omega, (fun h => nomatch h), rfl⟩
      · exact ⟨2, by omega, (fun h => nomatch h), rfl⟩
      · exact ⟨3, by omega, (fun h => nomatch h), rfl⟩
    · rintro ⟨t, ht, _, rfl⟩
      have : t = 0 ∨ t = 1 ∨ t = 2 ∨ t = 3 := by omega
      simp only [List.mem_cons, List.not_mem_nil, or_false]
      rcases this with rfl | rfl | rfl | rfl
      · exact .inl rfl
      · exact .inr (.inl rfl)
      · exact .inr (.inr (.inl rfl))
      · exact .inr (.inr (.inr rfl))
theorem la_ok {w r : List Gp} (h : w.length = r.length) (same : Bool) : (∃ t, t ≤ 3 ∧ (same = true → t ≠ 0) ∧ laG same w r = vG w r t) ∧ ∀ t, t ≤ 3 → (same = true → t ≠ 0) → laG same w r ≤ vG w r t := by
  have tne : trS same (reL w r).sum (imL w r).sum ≠ [] := by unfold trS; cases same <;> simp
  obtain ⟨m1, m2⟩ := maxL_ok tne
  refine ⟨?_, fun t ht h0 => ?_⟩
  · obtain ⟨t, ht, h0, e⟩ := tr_mem.mp m1
    refine ⟨t, ht, h0, ?_⟩
    rw [vG_eq t h]
    unfold laG
    rw [e]
  · have := m2 _ (tr_mem.mpr ⟨t, ht, h0, rfl⟩)
    rw [vG_eq t h]
    unfold laG
    omega
/-- the cost of one guess where another is true -/
def cpG (o : List Gp) (ls : List (List Gp)) (s p1 t1 n1 p2 t2 n2 : Nat) : Int := cstQ o ls ((arrG o (ls.getD n1 []) p1 t1 s).map some) p2 t2 n2
theorem tol_at {o ts : List Gp} {t i : Nat} : (tolG o ts t)[i]? = ((tolG o ts 0)[i]?).map (rt4 t) := by
  unfold tolG
  rw [List.getElem?_map, List.getElem?_map, Option.map_map]
  rfl
theorem arr_at {o ts : List Gp} (ho : o ≠ []) (ht : ts ≠ []) {p1 t s p2 j : Nat} (hp1 : p1 ≤ s) (hp2 : p2 ≤ s) (hj : j < o.length) : (arrG o ts p1 t s)[p2 + j]? = some (rt4 t ((shG (tolG o ts 0) ((p2 : Int) - (p1 : Int)) o.length).getD j g0)) := by
  have e0 : (shG (tolG o ts 0) ((p2 : Int) - (p1 : Int)) o.length).getD j g0 = if 0 ≤ (j : Int) + ((p2 : Int) - (p1 : Int)) then (tolG o ts 0).getD ((j : Int) + ((p2 : Int) - (p1 : Int))).toNat g0 else g0 := by
    rw [List.getD_eq_getElem?_getD, shG_at hj]
    rfl
  rw [← arF_arr ho ht p1 t s hp1, arF_at (by omega), e0]
  have tl := tol_len ho ht t
  have tl0 := tol_len ho ht 0
  refine congrArg some ?_
  by_cases c : p1 ≤ p2 + j
  · rw [if_pos (show 0 ≤ (j : Int) + ((p2 : Int) - (p1 : Int)) by omega), show ((j : Int) + ((p2 : Int) - (p1 : Int))).toNat = p2 + j - p1 by omega]
    by_cases c2 : p2 + j - p1 < (tolG o ts t).length
    · rw [if_pos ⟨c, by omega⟩, List.getD_eq_getElem?_getD, List.getD_eq_getElem?_getD, tol_at (t := t), List.getElem?_eq_getElem (l := tolG o ts 0) (by omega)]
      rfl
    · rw [if_neg (by omega), List.getD_eq_getElem?_getD, List.getElem?_eq_none (by omega)]
      exact (rt_g0 t).symm
  · rw [if_neg (by omega), if_neg (by omega), rt_g0]
theorem cp_eq {B : Int} {o : List Gp} {ls : List (List Gp)} {s p1 t1 n1 p2 t2 n2 : Nat} (ho : o ≠ []) (L : ∀ ts ∈ ls, LnOk B ts) (hp1 : p1 ≤ s) (ht1 : t1 ≤ 3) (hn1 : n1 < ls.length) (hp2 : p2 ≤ s) (ht2 : t2 ≤ 3) (hn2 : n2 < ls.length) :
    cpG o ls s p1 t1 n1 p2 t2 n2 = vG (shG (tolG o (ls.getD n1 []) 0) ((p2 : Int) - (p1 : Int)) o.length) (shpG o (ls.getD n2 []) 0) ((t2 + 4 - t1) % 4) := by
  have g1 : ls.getD n1 [] ∈ ls := by rw [List.getD_eq_getElem?_getD, List.getElem?_eq_getElem hn1]; exact List.getElem_mem _
  have g2 : ls.getD n2 [] ∈ ls := by rw [List.getD_eq_getElem?_getD, List.getElem?_eq_getElem hn2]; exact List.getElem_mem _
  generalize hT1 : ls.getD n1 [] = u1 at g1
  have L2 := (L _ g2).ne
  have L1 := (L _ g1).ne
  unfold cpG cstQ vG csL
  rw [hT1]
  generalize ls.getD n2 [] = u2 at g2 L2
  have sl := shp_len ho L2 t2
  have sl0 := shp_len ho L2 0
  have al := arr_len ho L1 p1 t1 s
  refine congrArg List.sum ?_
  refine List.ext_getElem? fun j => ?_
  by_cases hj : j < o.length
  · have er : (shpG o u2 t2)[j]? = ((shpG o u2 0)[j]?).map (rt4 t2) := by
      unfold shpG
      rw [List.getElem?_take_of_lt hj, List.getElem?_take_of_lt hj, tol_at]
    obtain ⟨q, hq⟩ : ∃ q, (shpG o u2 0)[j]? = some q := ⟨_, List.getElem?_eq_getElem (by omega)⟩
    obtain ⟨z, hz⟩ : ∃ z, (shG (tolG o u1 0) ((p2 : Int) - (p1 : Int)) o.length)[j]? = some z := ⟨_, shG_at hj⟩
    have ea : (((arrG o u1 p1 t1 s).map some).drop p2)[j]? = some (some (rt4 t1 z)) := by
      rw [List.getElem?_drop, List.getElem?_map, arr_at ho L1 hp1 hp2 hj, List.getD_eq_getElem?_getD, hz]
      rfl
    rw [hq] at er
    rw [(List.getElem?_zipWith_eq_some (l₁ := shpG o u2 t2)).mpr ⟨_, _, er, ea, rfl⟩, (List.getElem?_zipWith_eq_some (l₁ := shG (tolG o u1 0) ((p2 : Int) - (p1 : Int)) o.length)).mpr ⟨_, _, hz, hq, rfl⟩]
    exact congrArg some (sz_rot t1 t2 ht1 ht2 z q)
  · rw [List.getElem?_eq_none (by rw [List.length_zipWith]; omega), List.getElem?_eq_none (by rw [List.length_zipWith, shG_len]; omega)]
/-- the least cost of a wrong guess -/
structure Least (o : List Gp) (ls : List (List Gp)) (s : Nat) (m : Int) : Prop where
  ex : ∃ p1 t1 n1 p2 t2 n2, p1 ≤ s ∧ t1 ≤ 3 ∧ n1 < ls.length ∧ p2 ≤ s ∧ t2 ≤ 3 ∧ n2 < ls.length ∧ ¬ (p2 = p1 ∧ t2 = t1 ∧ n2 = n1) ∧ m = cpG o ls s p1 t1 n1 p2 t2 n2
  le : ∀ p1 t1 n1 p2 t2 n2, p1 ≤ s → t1 ≤ 3 → n1 < ls.length → p2 ≤ s → t2 ≤ 3 → n2 < ls.length → ¬ (p2 = p1 ∧ t2 = t1 ∧ n2 = n1) → m ≤ cpG o ls s p1 t1 n1 p2 t2 n2
theorem least_sep {B : Int} {o : List Gp} {ls : List (List Gp)} {s : Nat} {m : Int} (ho : o ≠ []) (L : ∀ ts ∈ ls, LnOk B ts) (h : Least o ls s m) : m ∈ sepL o ls s ls.length ∧ ∀ y ∈ sepL o ls s ls.length, m ≤ y := by
  have lens : ∀ n b (sf : Int), b < ls.length → (shG (tolG o (ls.getD n []) 0) sf o.length).length = (shpG o (ls.getD b []) 0).length := fun n b sf hb => by
    have g2 : ls.getD b [] ∈ ls := by rw [List.getD_eq_getElem?_getD, List.getElem?_eq_getElem hb]; exact List.getElem_mem _
    rw [shG_len, shp_len ho (L _ g2).ne]
  have low : ∀ y ∈ sepL o ls s ls.length, m ≤ y := fun y hy => by
    obtain ⟨n, b, sf, hn, hb, h1, h2, rfl⟩ := sep_mem.mp hy
    obtain ⟨⟨t, ht, h0, e⟩, _⟩ := la_ok (lens n b sf hb) (decide (sf = 0) && decide ((n : Int) = (b : Int)))
    have e : sepE o ls n sf b = _ := e
    rw [e]
    have := h.le (-sf).toNat 0 n ((-sf).toNat + sf).toNat t b (by omega) (by omega) hn (by omega) ht hb (fun k => by
      obtain ⟨k1, k2, k3⟩ := k
      refine h0 ?_ k2
      rw [decide_eq_true (show sf = 0 by omega), decide_eq_true (show (n : Int) = (b : Int) by omega)]
      rfl)
    rw [cp_eq ho L (by omega) (by omega) hn (by omega) ht hb, show ((((-sf).toNat + sf).toNat : Nat) : Int) - (((-sf).toNat : Nat) : Int) = sf by omega, show (t + 4 - 0) % 4 = t by omega] at this
    exact this
  refine ⟨?_, low⟩
  obtain ⟨p1, t1, n1, p2, t2, n2, a1, a2, a3, a4, a5, a6, a7, e⟩ := h.ex
  have hs : sepE o ls n1 ((p2 : Int) - (p1 : Int)) n2 ∈ sepL o ls s ls.length := sep_mem.mpr ⟨n1, n2, _, a3, a6, by omega, by omega, rfl⟩
  have h1 := low _ hs
  have h2 := (la_ok (lens n1 n2 ((p2 : Int) - (p1 : Int)) a6) (decide ((p2 : Int) - (p1 : Int) = 0) && decide ((n1 : Int) = (n2 : Int)))).2 ((t2 + 4 - t1) % 4) (by omega) (fun k => by
    have k := Bool.and_eq_true_iff.mp k
    have k1 := of_decide_eq_true k.1
    have k2 := of_decide_eq_true k.2
    omega)
  rw [← cp_eq ho L a1 a2 a3 a4 a5 a6, ← e] at h2
  have h2 : sepE o ls n1 ((p2 : Int) - (p1 : Int)) n2 ≤ m := h2
  rw [show m = sepE o ls n1 ((p2 : Int) - (p1 : Int)) n2 by omega]
  exact hs

theorem gs_inj {p t n p' t' n' : Nat} (h : gsD p t n = gsD p' t' n') : p = p' ∧ t = t' ∧ n = n' := by
  injection h with h
  injection h with h1 h
  injection h with h2 h
  injection h with h3 h
  injection h1 with h1
  injection h2 with h2
  injection h3 with h3
  exact ⟨by omega, by omega, by omega⟩

theorem gs_plain (p t n : Nat) : plainD (gsD p t n) = true := (PN.tup (n := 1) _ fun x hx => by
  simp only [List.mem_cons, List.not_mem_nil, or_false] at hx
  rcases hx with rfl | rfl | rfl <;> exact .int _).plain

theorem arr_bd {A B : Int} {o ts : List Gp} (hA : 0 ≤ A) (hB : 0 ≤ B) (O : OpOk A o) (L : LnOk B ts) (place t slack : Nat) : ∀ p ∈ arrG o ts place t slack, bdG (128 * (A * B)) p := fun p hp => by
  have AB : 0 ≤ A * B := Int.mul_nonneg hA hB
  have hp := List.mem_of_mem_take hp
  rcases List.mem_append.mp hp with hp | hp
  · rcases List.mem_append.mp hp with hp | hp
    · rw [(List.mem_replicate.mp hp).2]
      exact bd0 (by omega)
    · exact tol_bd hA hB O L t p hp
  · rw [(List.mem_replicate.mp hp).2]
    exact bd0 (by omega)

/-! ### the least, as the law walks -/
def Pr (o : List Gp) (ls : List (List Gp)) (s : Nat) (g h : PyData) (v : Int) : Prop := ∃ p1 t1 n1 p2 t2 n2, g = gsD p1 t1 n1 ∧ h = gsD p2 t2 n2 ∧ ¬ (p2 = p1 ∧ t2 = t1 ∧ n2 = n1) ∧ v = cpG o ls s p1 t1 n1 p2 t2 n2
def S0 (o : List Gp) (ls : List (List Gp)) (s j : Nat) (v : Int) : Prop := ∃ g ∈ (guL ls.length s).take j, ∃ h ∈ guL ls.length s, Pr o ls s g h v
def S1 (o : List Gp) (ls : List (List Gp)) (s j : Nat) (g : PyData) (k : Nat) (v : Int) : Prop := S0 o ls s j v ∨ ∃ h ∈ (guL ls.length s).take k, Pr o ls s g h v
def FndOk (S : Int → Prop) (fd : PyData) : Prop := ((∀ v, ¬ S v) ∧ fd = .none) ∨ ∃ m, fd = .int m ∧ S m ∧ ∀ y, S y → m ≤ y
theorem FndOk.iff {S S' : Int → Prop} {fd : PyData} (h : FndOk S fd) (e : ∀ v, S' v ↔ S v) : FndOk S' fd := by
  have : S' = S := funext fun v => propext (e v)
  rw [this]
  exact h
theorem s1_succ {o : List Gp} {ls : List (List Gp)} {s j k : Nat} {g h : PyData} (hk : (guL ls.length s)[k]? = some h) (v : Int) : S1 o ls s j g (k + 1) v ↔ S1 o ls s j g k v ∨ Pr o ls s g h v := by
  unfold S1
  rw [take_snoc hk]
  constructor
  · rintro (a | ⟨x, hx, p⟩)
    · exact .inl (.inl a)
    · rcases List.mem_append.mp hx with hx | hx
      · exact .inl (.inr ⟨x, hx, p⟩)
      · rw [List.mem_singleton.mp hx] at p
        exact .inr p
  · rintro ((a | ⟨x, hx, p⟩) | p)
    · exact .inl a
    · exact .inr ⟨x, List.mem_append_left _ hx, p⟩
    · exact .inr ⟨h, List.mem_append_right _ (List.mem_singleton.mpr rfl), p⟩
theorem s0_succ {o : List Gp} {ls : List (List Gp)} {s j : Nat} {g : PyData} (hj : (guL ls.length s)[j]? = some g) (v : Int) : S0 o ls s (j + 1) v ↔ S1 o ls s j g (guL ls.length s).length v := by
  unfold S1 S0
  rw [take_snoc hj, List.take_length]
  constructor
  · rintro ⟨x, hx, r⟩
    rcases List.mem_append.mp hx with hx | hx
    · exact .inl ⟨x, hx, r⟩
    · rw [List.mem_singleton.mp hx] at r
      exact .inr r
  · rintro (⟨x, hx, r⟩ | r)
    · exact ⟨x, List.mem_append_left _ hx, r⟩
    · exact ⟨g, List.mem_append_right _ (List.mem_singleton.mpr rfl), r⟩
theorem pr_gs {o : List Gp} {ls : List (List Gp)} {s p1 t1 n1 p2 t2 n2 : Nat} (ne : ¬ (p2 = p1 ∧ t2 = t1 ∧ n2 = n1)) (v : Int) : Pr o ls s (gsD p1 t1 n1) (gsD p2 t2 n2) v ↔ v = cpG o ls s p1 t1 n1 p2 t2 n2 := by
  constructor
  · rintro ⟨a1, a2, a3, b1, b2, b3, e1, e2, _, rfl⟩
    obtain ⟨rfl, rfl, rfl⟩ := gs_inj e1
    obtain ⟨rfl, rfl, rfl⟩ := gs_inj e2
    rfl
  · rintro rfl
    exact ⟨_, _, _, _, _, _, rfl, rfl, ne, rfl⟩
theorem pr_same {o : List Gp} {ls : List (List Gp)} {s p1 t1 n1 p2 t2 n2 : Nat} (ne : p2 = p1 ∧ t2 = t1 ∧ n2 = n1) (v : Int) : ¬ Pr o ls s (gsD p1 t1 n1) (gsD p2 t2 n2) v := by
  rintro ⟨a1, a2, a3, b1, b2, b3, e1, e2, k, _⟩
  obtain ⟨rfl, rfl, rfl⟩ := gs_inj e1
  obtain ⟨rfl, rfl, rfl⟩ := gs_inj e2
  exact k ne
theorem s0_all {o : List Gp} {ls : List (List Gp)} {s : Nat} {m : Int} (h : Least o ls s m) {fd : PyData} (f : FndOk (S0 o ls s (guL ls.length s).length) fd) : fd = .int m := by
  have hm : S0 o ls s (guL ls.length s).length m := by
    obtain ⟨p1, t1, n1, p2, t2, n2, a1, a2, a3, a4, a5, a6, a7, e⟩ := h.ex
    refine ⟨gsD p1 t1 n1, ?_, gsD p2 t2 n2, gu_mem.mpr ⟨p2, t2, n2, a4, a5, a6, rfl⟩, (pr_gs a7 m).mpr e⟩
    rw [List.take_length]
    exact gu_mem.mpr ⟨p1, t1, n1, a1, a2, a3, rfl⟩
  have hl : ∀ y, S0 o ls s (guL ls.length s).length y → m ≤ y := by
    rintro y ⟨g, hg, x, hx, p1, t1, n1, p2, t2, n2, rfl, rfl, ne, rfl⟩
    rw [List.take_length] at hg
    obtain ⟨a1, a2, a3, h1, h2, h3, e⟩ := gu_mem.mp hg
    obtain ⟨rfl, rfl, rfl⟩ := gs_inj e
    obtain ⟨b1, b2, b3, h4, h5, h6, e⟩ := gu_mem.mp hx
    obtain ⟨rfl, rfl, rfl⟩ := gs_inj e
    exact h.le _ _ _ _ _ _ h1 h2 h3 h4 h5 h6 ne
  rcases f with ⟨no, _⟩ | ⟨m2, rfl, h2, l2⟩
  · exact absurd hm (no m)
  · have := l2 m hm
    have := hl m2 h2
    rw [show m2 = m by omega]
def CoLst : Co := fun is M i M' => M = [] ∧ M' = [] ∧ ∃ (A B : Int) (o : List Gp) (ls : List (List Gp)) (s : Nat) (m : Int), is = [.d (opD o), .d (.list (lnsD ls)), dI (s : Int)] ∧ OpOk A o ∧ (∀ ts ∈ ls, LnOk B ts) ∧ 0 ≤ A ∧ 0 ≤ B ∧ A ≤ 10000000000 ∧ 128 * (A * B) < 4611686018427387904 ∧ ls.length ≤ 10 ∧ s ≤ 100 ∧ Least o ls s m ∧ i = dI m
section
variable {P : Program} {w : World} {K : PySem.W.Frag} {mg : Str → Option Value} {base : Heap}
theorem psos (l : List Gp) : osD (l.map some) = psD l := by
  unfold osD psD
  rw [List.map_map]
  rfl
theorem d_law_least (T : Txt K mg) : Def P w K mg base "_law_least" 4 CoLst := by
  obtain ⟨f, fd, F, hm, hb⟩ := T.f_law_least
  have GA := d_law_arrival (P := P) (w := w) (base := base) T
  have GC := d_law_cost (P := P) (w := w) (base := base) T
  have GE := d_law_shapes (P := P) (w := w) (base := base) T
  have GG := d_law_guesses (P := P) (w := w) (base := base) T
  refine def_ok F sc_law_least hm hb (fun is M i M' h => ?_) fun X hX N is M i M' hF hC => ?_
  · obtain ⟨rfl, rfl, A, B, o, ls, s, m, rfl, _⟩ := h
    exact ⟨rfl, rfl⟩
  · obtain ⟨cdv, Ar, outer, sh, H, E, rfl, hr⟩ := hX
    obtain ⟨rfl, rfl, A, B, o, ls, s, m, rfl, O, L, hA, hB, hA2, hAB, l10, s100, least, rfl⟩ := hC
    have nd := sc_law_least.nd
    have hu := hu_of hr
    have hr1 : Room 1 (Ar.deeper (envOfC "_law_least" (defScope s_law_least) sh.heap.objs.size f cdv)) := hr.mono (by decide)
    have hr3 : Room 3 (Ar.deeper (envOfC "_law_least" (defScope s_law_least) sh.heap.objs.size f cdv)) := hr
    refine sj_set 3 (i := tdE (shT o ls)) (M1 := []) nd (ej_callP GE hr3 (aj_cons (ej_name (i := .d (opD o)) 0) (aj_cons (ej_name (i := .d (.list (lnsD ls))) 1) aj_nil)) ⟨rfl, rfl, A, B, o, ls, rfl, O, L, hA2, by omega, rfl⟩) ?_
    refine sj_set 4 (i := .d .none) (M1 := []) nd ej_non ?_
    refine sj_forW (ds := guL ls.length s) (M1 := []) rfl (iw_list (ej_callP GG hr1 (aj_cons (ej_name (i := .d (.list (lnsD ls))) 1) (aj_cons (ej_name (i := dI (s : Int)) 2) aj_nil)) ⟨rfl, rfl, ls, s, rfl, by omega, by omega, rfl⟩)) (fun j ρ M => ∃ fd y5 y6 y7 y8 y9 y10, ρ = [some (.d (opD o)), some (.d (.list (lnsD ls))), some (dI (s : Int)), some (tdE (shT o ls)), some (.d fd), y5, y6, y7, y8, y9, y10] ∧ M = [] ∧ FndOk (S0 o ls s j) fd) ⟨.none, none, none, none, none, none, none, rfl, rfl, .inl ⟨fun v ⟨g, hg, _⟩ => absurd hg List.not_mem_nil, rfl⟩⟩ (fun j d ρ M hd hI => ?_) fun ρ M hI => ?_
    · obtain ⟨fd0, y5, y6, y7, y8, y9, y10, rfl, rfl, fok⟩ := hI
      obtain ⟨p1, t1, n1, hp1, ht1, hn1, rfl⟩ := gu_mem.mp (List.mem_of_getElem? hd)
      obtain ⟨ts1, hts1⟩ : ∃ ts, ls[n1]? = some ts := ⟨_, List.getElem?_eq_getElem hn1⟩
      have m1 := List.mem_of_getElem? hts1
      have LO1 := L ts1 m1
      have eg1 : ls.getD n1 [] = ts1 := by rw [List.getD_eq_getElem?_getD, hts1]; rfl
      refine ⟨_, gj_tup (ds := [.int (p1 : Int), .int (t1 : Int), .int (n1 : Int)]) rfl (gs_cons 5 nd (gs_cons 6 nd (gs_cons 7 nd gs_nil))), ?_⟩
      refine sj_set 8 (i := .d (.list (psD (arrG o ts1 p1 t1 s)))) (M1 := []) nd (ej_callP GA hr3 (aj_cons (ej_name (i := .d (opD o)) 0) (aj_cons (ej_ixL (ds := lnsD ls) (ej_name 1) (ej_name (i := dI (n1 : Int)) 7) (lns_at hts1)) (aj_cons (ej_name (i := dI (t1 : Int)) 6) (aj_cons (ej_name (i := dI (p1 : Int)) 5) (aj_cons (ej_name (i := dI (s : Int)) 2) aj_nil))))) ⟨rfl, rfl, A, B, o, ts1, t1, p1, s, rfl, ht1, O, LO1, hA2, hp1, by omega, rfl⟩) ?_
      have al := arr_len O.ne LO1.ne p1 t1 s
      have ab := arr_bd hA hB O LO1 p1 t1 s
      have ec : ∀ p2 t2 n2, cpG o ls s p1 t1 n1 p2 t2 n2 = cstQ o ls ((arrG o ts1 p1 t1 s).map some) p2 t2 n2 := fun p2 t2 n2 => by unfold cpG; rw [eg1]
      generalize arrG o ts1 p1 t1 s = ar at al ab ec ⊢
      refine sj_forW (ds := guL ls.length s) (M1 := []) rfl (iw_list (ej_callP GG hr1 (aj_cons (ej_name (i := .d (.list (lnsD ls))) 1) (aj_cons (ej_name (i := dI (s : Int)) 2) aj_nil)) ⟨rfl, rfl, ls, s, rfl, by omega, by omega, rfl⟩)) (fun k ρ M => ∃ fd y9 y10, ρ = [some (.d (opD o)), some (.d (.list (lnsD ls))), some (dI (s : Int)), some (tdE (shT o ls)), some (.d fd), some (dI (p1 : Int)), some (dI (t1 : Int)), some (dI (n1 : Int)), some (.d (.list (psD ar))), y9, y10] ∧ M = [] ∧ FndOk (S1 o ls s j (gsD p1 t1 n1) k) fd) ⟨fd0, y9, y10, rfl, rfl, fok.iff fun v => ⟨fun h => h.elim id fun ⟨x, hx, _⟩ => absurd hx List.not_mem_nil, .inl⟩⟩ (fun k d ρ M hd2 hI => ?_) fun ρ M hI => ?_
      · clear fok fd0 y9 y10
        obtain ⟨fd0, y9, y10, rfl, rfl, fok⟩ := hI
        obtain ⟨p2, t2, n2, hp2, ht2, hn2, rfl⟩ := gu_mem.mp (List.mem_of_getElem? hd2)
        obtain ⟨ts2, hts2⟩ : ∃ ts, ls[n2]? = some ts := ⟨_, List.getElem?_eq_getElem hn2⟩
        have m2 := List.mem_of_getElem? hts2
        have LO2 := L ts2 m2
        have sl2 := shp_len O.ne LO2.ne t2
        have eg2 : ls.getD n2 [] = ts2 := by rw [List.getD_eq_getElem?_getD, hts2]; rfl
        have suc := s1_succ (o := o) (ls := ls) (s := s) (j := j) (g := gsD p1 t1 n1) hd2
        have ct : cutD [PyData.int (p2 : Int), .int (t2 : Int), .int (n2 : Int)] (some 1) none = ([.inl (t2 : Int), .inl (n2 : Int)] : List Key).map kD := by
          have := cut_from (ds := [PyData.int (p2 : Int), .int (t2 : Int), .int (n2 : Int)]) (n := 1) (by show 1 ≤ 3; decide)
          exact this
        have i0 : atI [PyData.int (p2 : Int), .int (t2 : Int), .int (n2 : Int)] 0 = some (.int (p2 : Int)) := atI_nat (j := 0) rfl
        have hsm : ∀ q ∈ shpG o ts2 t2, ∀ z, some z ∈ ar.map some → sm (gsub q z) := fun q hq z hz => by
          obtain ⟨z', hz', e⟩ := List.mem_map.mp hz
          rw [← Option.some.inj e]
          exact (bd_sub (tol_bd hA hB O LO2 t2 q (List.mem_of_mem_take hq)) (ab z' hz')).sm (by omega)
        refine ⟨_, gj_name 9 nd, ?_⟩
        refine sj_if (t := !decide (p2 = p1 ∧ t2 = t1 ∧ n2 = n1)) (M1 := []) (tj_is (tj_neD hr.units (d := gsD p2 t2 n2) (d' := gsD p1 t1 n1) (ej_name 9) (jt3 (ej_name (i := dI (p1 : Int)) 5) (ej_name (i := dI (t1 : Int)) 6) (ej_name (i := dI (n1 : Int)) 7)) (.d _) (.d _) (gs_plain _ _ _) (gs_plain _ _ _)) (by rw [eqv_gs])) (fun h => ?_) (fun h => ?_)
        · have ne : ¬ (p2 = p1 ∧ t2 = t1 ∧ n2 = n1) := by
            intro k
            rw [decide_eq_true k] at h
            cases h
          have suc2 : ∀ v, S1 o ls s j (gsD p1 t1 n1) (k + 1) v ↔ S1 o ls s j (gsD p1 t1 n1) k v ∨ v = cpG o ls s p1 t1 n1 p2 t2 n2 := fun v => (suc v).trans (or_congr_right (pr_gs ne v))
          generalize hcc : cpG o ls s p1 t1 n1 p2 t2 n2 = cc at suc2
          refine sj_set 10 (i := dI cc) (M1 := []) nd (ej_is (ej_callP GC hr1 (aj_cons (i := .d (.list (psD (shpG o ts2 t2)))) (ej_tget (es := shT o ls) (k := [.inl (t2 : Int), .inl (n2 : Int)]) hu (shT_val (by omega) hts2) (ej_name 3) (ej_is (ej_slTfrom (ds := [PyData.int (p2 : Int), .int (t2 : Int), .int (n2 : Int)]) (ej_name 9) ej_int) (by rw [ct]; rfl))) (aj_cons (ej_is (ej_name (i := .d (.list (psD ar))) 8) (by rw [← psos])) (aj_cons (i := dI (p2 : Int)) (ej_ixT (ds := [PyData.int (p2 : Int), .int (t2 : Int), .int (n2 : Int)]) (ej_name 9) ej_int i0) aj_nil))) ⟨rfl, rfl, shpG o ts2 t2, p2, ar.map some, rfl, by rw [List.length_map]; omega, by have := O.le; omega, hsm, rfl⟩) (by rw [← hcc, ec]; unfold cstQ; rw [eg2])) ?_
          rcases fok with ⟨no, rfl⟩ | ⟨m3, rfl, h3, l3⟩
          · refine sj_if (t := true) (M1 := []) (tj_is (tj_w (wj_or (t := true) (u := false) (tj_is (tj_isN (d := .none) (ej_name 4) ej_non) rfl) (fun h => nomatch h))) rfl) (fun _ => ?_) (fun h => nomatch h)
            exact sj_set 4 (i := dI cc) (M1 := []) nd (ej_name 10) (sj_nil (sj_nil (sj_nil ⟨_, _, _, rfl, rfl, .inr ⟨cc, rfl, (suc2 cc).mpr (.inr rfl), fun y hy => ((suc2 y).mp hy).elim (fun z => absurd z (no y)) fun z => by omega⟩⟩)))
          · refine sj_if (t := decide (cc < m3)) (M1 := []) (tj_w (wj_orF (M1 := []) (tj_is (tj_isN (d := .int m3) (ej_name 4) ej_non) rfl) (wj_or1 (tj_lt (n := cc) (m := m3) (ej_name 10) (ej_name 4))))) (fun h => ?_) (fun h => ?_)
            · have h := of_decide_eq_true h
              exact sj_set 4 (i := dI cc) (M1 := []) nd (ej_name 10) (sj_nil (sj_nil (sj_nil ⟨_, _, _, rfl, rfl, .inr ⟨cc, rfl, (suc2 cc).mpr (.inr rfl), fun y hy => ((suc2 y).mp hy).elim (fun z => by have := l3 y z; omega) fun z => by omega⟩⟩)))
            · have h := of_decide_eq_false h
              exact sj_nil (sj_nil (sj_nil ⟨_, _, _, rfl, rfl, .inr ⟨m3, rfl, (suc2 m3).mpr (.inl h3), fun y hy => ((suc2 y).mp hy).elim (fun z => l3 y z) fun z => by omega⟩⟩))
        · have eq : p2 = p1 ∧ t2 = t1 ∧ n2 = n1 := by
            refine Classical.byContradiction fun k => ?_
            rw [decide_eq_false k] at h
            cases h
          exact sj_nil (sj_nil ⟨_, _, _, rfl, rfl, fok.iff fun v => (suc v).trans ⟨fun z => z.elim id fun z => absurd z (pr_same eq v), .inl⟩⟩)
      · obtain ⟨fd0, y9, y10, rfl, rfl, fok⟩ := hI
        exact sj_nil ⟨_, _, _, _, _, _, _, rfl, rfl, fok.iff fun v => s0_succ hd v⟩
    · obtain ⟨fd0, y5, y6, y7, y8, y9, y10, rfl, rfl, fok⟩ := hI
      have e := s0_all least fok
      subst e
      exact sj_ret (ej_name 4) ⟨rfl, [], rfl⟩
end

/-! ### openings of all sizes -/
section
variable {P : Program} {w : World} {K : PySem.W.Frag} {mg : Str → Option Value} {base : Heap}
theorem d_law_opening98 (T : Txt K mg) {a c : Addr} {d0 : DT} (hl : d0.2.1.length ≤ 63) : DefN P w K mg base "_law_opening" 3 (fun is M => M = SttD a c d0 ∧ is = [.v (.ref a)]) (fun _ _ i M' => ∃ (d' : DT) (o : List Gp), i = .d (opD o) ∧ OpOk 3000000000 o ∧ d'.2.1.length ≤ 63 ∧ M' = SttD a c d') := by
  obtain ⟨f, fd, F, hm, hb⟩ := T.f_law_opening
  have GD := d_law_draw (P := P) (w := w) (base := base) T
  have GK := d_law_pick (P := P) (w := w) (base := base) T
  have GP := d_law_point (P := P) (w := w) (base := base) T
  refine defN_ok F sc_law_opening hm hb (fun is M h => ?_) (fun is M i M' h h2 x hx => ?_) fun X hX N is M hF hC => ?_
  · obtain ⟨rfl, rfl⟩ := h
    rfl
  · obtain ⟨rfl, rfl⟩ := h
    obtain ⟨d', o, rfl, _, _, rfl⟩ := h2
    exact hx
  · obtain ⟨cdv, A, outer, sh, Hp, E, rfl, hr⟩ := hX
    obtain ⟨rfl, rfl⟩ := hC
    have nd := sc_law_opening.nd
    have hu := st_units hr
    have hr1 : Room 1 (A.deeper (envOfC "_law_opening" (defScope s_law_opening) sh.heap.objs.size f cdv)) := hr.mono (by decide)
    have hr2 : Room 2 (A.deeper (envOfC "_law_opening" (defScope s_law_opening) sh.heap.objs.size f cdv)) := hr
    obtain ⟨x1, e1, w1, l1⟩ := trn_nat (n := 6) (by decide) d0 hl
    obtain ⟨x2, e2, w2, l2⟩ := trn_nat (n := 6) (by decide) _ l1
    obtain ⟨x3, e3, w3, l3⟩ := trn_nat (n := 16) (by decide) _ l2
    obtain ⟨d3, h3⟩ : ∃ d, trn 16 (trn 6 (trn 6 d0)) = d := ⟨_, rfl⟩
    obtain ⟨wl, hwl⟩ : ∃ wl : List PyData, wl = [.int ((x1 + 1 : Nat) : Int), .int ((x2 + 1 : Nat) : Int), .int ((x3 + 1 : Nat) : Int)] := ⟨_, rfl⟩
    have wln : wl ≠ [] := by rw [hwl]; simp
    have wll : wl.length = 3 := by rw [hwl]; rfl
    rw [h3] at l3
    obtain ⟨mn, emn, mn1, mn2⟩ : ∃ v : Nat, pkT d3 wl = .int (v : Int) ∧ 1 ≤ v ∧ v ≤ 64 := by
      have := pkT_mem (d := d3) (ds := wl) wln
      generalize pkT d3 wl = z at this
      rw [hwl] at this
      simp only [List.mem_cons, List.not_mem_nil, or_false] at this
      rcases this with rfl | rfl | rfl
      · exact ⟨x1 + 1, rfl, by omega, by omega⟩
      · exact ⟨x2 + 1, rfl, by omega, by omega⟩
      · exact ⟨x3 + 1, rfl, by omega, by omega⟩
    have one : ∀ x : Nat, (1 : Int) + (x : Int) = ((x + 1 : Nat) : Int) := fun x => by omega
    refine sj_set 1 (i := dI (mn : Int)) (M1 := SttD a c (trn (wl.length : Int) d3)) nd (ej_is (ej_pickD GK hr2 (d0 := d0) (d := d3) (ds := wl) (ej_name 0) (ej_el (ds := wl) (is := [dI ((x1 + 1 : Nat) : Int), dI ((x2 + 1 : Nat) : Int), dI ((x3 + 1 : Nat) : Int)]) (M1 := SttD a c d3) (el_disp (aj_cons (M1 := SttD a c (trn 6 d0)) (ej_is (ej_add (n := 1) ej_int (ej_drawD GD hr1 (d := d0) (ej_name 0) ej_int (by decide) (by decide) hl)) (by rw [e1, one])) (aj_cons (M1 := SttD a c (trn 6 (trn 6 d0))) (ej_is (ej_add (n := 1) ej_int (ej_drawD GD hr1 (d := trn 6 d0) (ej_name 0) ej_int (by decide) (by decide) l1)) (by rw [e2, one])) (aj_cons (M1 := SttD a c d3) (ej_m (ej_is (ej_add (n := 1) ej_int (ej_drawD GD hr1 (d := trn 6 (trn 6 d0)) (ej_name 0) ej_int (by decide) (by decide) l2)) (by rw [e3, one])) (by rw [h3])) aj_nil)))) (by rw [hwl]; rfl)) wln (by omega) l3) (by rw [emn])) ?_
    have l4 := trn_len (wl.length : Int) d3 l3
    generalize trn (wl.length : Int) d3 = d4 at l4 ⊢
    clear emn hwl wln wll h3 l3 e3 w3 l2 e2 w2 l1 e1 w1 one
    refine (fun (key : ∀ (mn : Nat), 1 ≤ mn → mn ≤ 64 → SJ _ N [some (.v (.ref a)), some (dI (mn : Int)), none, none, none, none, none] (SttD a c (trn 24 d4)) _ _) => sj_if (t := decide ((trn 24 d4).1 = 0)) (M1 := SttD a c (trn 24 d4)) (tj_eqI (ej_drawD GD hr1 (d := d4) (ej_name 0) ej_int (by decide) (by decide) l4) ej_int) (fun h => sj_set 1 (i := dI ((64 : Nat) : Int)) (M1 := SttD a c (trn 24 d4)) nd (ej_is ej_int rfl) (sj_nil (key 64 (by decide) (by decide)))) (fun h => sj_nil (key mn mn1 mn2))) ?_
    have l5 := trn_len 24 d4 l4
    generalize trn 24 d4 = d5 at l5 ⊢
    clear mn1 mn2 mn l4 d4 d3 wl
    intro mn mn1 mn2
    -- scale
    obtain ⟨wl, hwl⟩ : ∃ wl : List PyData, wl = [.int 1, .int 1, .int 1, .int 1000, .int 1000000000] := ⟨_, rfl⟩
    have wln : wl ≠ [] := by rw [hwl]; simp
    have wll : wl.length = 5 := by rw [hwl]; rfl
    obtain ⟨sc, esc, sc1, sc2⟩ : ∃ v : Int, pkT d5 wl = .int v ∧ 1 ≤ v ∧ v ≤ 1000000000 := by
      have := pkT_mem (d := d5) (ds := wl) wln
      generalize pkT d5 wl = z at this
      rw [hwl] at this
      simp only [List.mem_cons, List.not_mem_nil, or_false] at this
      rcases this with rfl | rfl | rfl | rfl | rfl
      · exact ⟨1, rfl, by decide, by decide⟩
      · exact ⟨1, rfl, by decide, by decide⟩
      · exact ⟨1, rfl, by decide, by decide⟩
      · exact ⟨1000, rfl, by decide, by decide⟩
      · exact ⟨1000000000, rfl, by decide, by decide⟩
    have l6 := trn_len (wl.length : Int) d5 l5
    refine sj_set 2 (i := dI sc) (M1 := SttD a c (trn (wl.length : Int) d5)) nd (ej_is (ej_pickD GK hr2 (d := d5) (ds := wl) (ej_name 0) (by rw [hwl]; exact jr_list (jd_cons ej_int (jd_cons ej_int (jd_cons ej_int (jd_cons ej_int (jd_cons (ej_is (ej_pow (n := 10) (m := 9) ej_int ej_int ⟨by decide, by decide, by decide⟩) (j := dI 1000000000) rfl) jd_nil))))) (by show 5 ≤ 1000; decide)) wln (by omega) l5) (by rw [esc])) ?_
    generalize trn (wl.length : Int) d5 = d1 at l6 ⊢
    clear esc wll wln hwl wl l5 d5
    have pk := fun j => pr_ok (wide := 3) (by decide) l6 j
    refine sj_setcompR 3 4 (z := (mn : Int)) (M1 := SttD a c d1) (fun j => itG (prL 3 d1 j)) (fun j => SttD a c (prS 3 d1 j)) rfl T.b_range nd (ej_name 1) rfl rfl (by omega) (fun j hj => ⟨.d (pD (ptG 3 (prS 3 d1 j))), itG_app _ _, by rw [itG_len, (pk j).2.1]; exact Nat.le_refl _, fun N' s H C cl fp => ej_m (ej_call GP hr2 (Mc := SttD a c (prS 3 d1 j)) (Mc' := SttD a c (prS 3 d1 (j + 1))) (Mr := []) (aj_cons (ej_name 0) (aj_cons ej_int aj_nil)) (List.append_nil _).symm ⟨a, c, prS 3 d1 j, 3, rfl, rfl, (pk j).1, by decide, by decide, rfl, rfl⟩ rfl) (List.append_nil _)⟩) fun o ho => ?_
    rw [Int.toNat_natCast]
    obtain ⟨ps1, ps2, ps3⟩ := pk mn
    clear pk
    generalize prS 3 d1 mn = d2 at ps1 ⊢
    generalize prL 3 d1 mn = l at ps2 ps3 ⊢
    have q3 : bdG 3 (1, 2) := ⟨⟨by decide, by decide⟩, by decide, by decide⟩
    refine (fun (key : SJ _ N [some (.v (.ref a)), some (dI (mn : Int)), some (dI sc), some (.v (.ref o)), none, none, none] (SttD a c d2 ++ [(o, itG (fixG l (l.length - 1) (1, 2)))]) _ _) => sj_nd fun ndm => sj_if (t := decide (((l.countP fun p => decide (p = g0) : Nat) : Int) = (l.length : Int))) (M1 := SttD a c d2 ++ [(o, itG l)]) (tj_eqI (ej_is (ej_countO (o := o) (ds := psD l) (d := pD g0) hu (ej_name 3) (by simp [itG]) (jt2 ej_int ej_int) (by simp [itG]) (psD_plain l) (pD_plain g0)) ?_) (ej_is (ej_lenO (o := o) (is := itG l) T.b_len (ej_name 3) (by simp)) (by rw [itG_len]))) (fun h => ?_) (fun h => sj_nil (sj_is key rfl ?_))) ?_
    · refine congrArg (fun n : Nat => dI (n : Int)) ?_
      unfold psD
      rw [List.countP_map]
      refine List.countP_congr fun p _ => ?_
      show PyData.eqv (pD p) (pD g0) = true ↔ _
      rw [eqv_pD]
    · have hz : ∀ p ∈ l, p = g0 := by
        have h := of_decide_eq_true h
        have h : (l.countP fun p => decide (p = g0)) = l.length := by omega
        intro p hp
        exact of_decide_eq_true (List.countP_eq_length.mp h p hp)
      refine sj_setZ (p := o) (is := itG l) (n := l.length - 1) (z := -1) (i := .d (pD (1, 2))) (M1 := SttD a c d2 ++ [(o, itG l)]) (M2 := SttD a c d2 ++ [(o, itG l)]) (jt2 ej_int ej_int) (ej_name 3) (ej_neg ej_int) (by simp) (by rw [itG_len]; exact ix_last (by omega)) ?_
      rw [put_end ndm, itG_set]
      have ef : fixG l (l.length - 1) (1, 2) = l.set (l.length - 1) (1, 2) := if_pos hz
      rw [← ef]
      exact sj_nil key
    · have ef : fixG l (l.length - 1) (1, 2) = l := by
        refine if_neg fun hz => ?_
        have h := of_decide_eq_false h
        exact h (congrArg (fun n : Nat => (n : Int)) (List.countP_eq_length.mpr fun p hp => decide_eq_true (hz p hp)))
      rw [ef]
    · have fl := fix_len l (l.length - 1) (1, 2)
      have fb := fix_bd (n := l.length - 1) ps3 q3
      generalize fixG l (l.length - 1) (1, 2) = o' at fl fb ⊢
      rw [itG_d]
      refine sj_frzT (Mb := SttD a c d2) 3 (ds := psD o') rfl ho ?_
      obtain ⟨o2, ho2⟩ : ∃ o2, o'.map (fun p : Gp => ((p.1 * sc, p.2 * sc) : Gp)) = o2 := ⟨_, rfl⟩
      have lo2 : o2.length = o'.length := by rw [← ho2, List.length_map]
      refine sj_ret (i := .d (opD o2)) (ej_tupleL (ds := psD o2) T.b_tuple (el_compW2 5 6 (ds := psD o') (M1 := SttD a c d2) (fun j => itG ((o'.take j).map fun p : Gp => ((p.1 * sc, p.2 * sc) : Gp))) (fun _ => SttD a c d2) rfl nd (by decide) (iw_list (ej_name 3)) (fun _ _ => trivial) rfl rfl (by rw [psD_len]; omega) (fun j d hd => by
        obtain ⟨p, hp, rfl⟩ := psD_inv hd
        have pb := fb p (List.mem_of_getElem? hp)
        exact ⟨.int p.1, .int p.2, .d (pD (p.1 * sc, p.2 * sc)), rfl, by rw [take_snoc hp, List.map_append, List.map_singleton, itG_app], by rw [itG_len, List.length_map]; exact List.length_take_le .., fun N' s' Hh C cl fp => jt2 (A := .int (p.1 * sc)) (B := .int (p.2 * sc)) (ej_mul (n := p.1) (m := sc) (ej_name 5) (ej_name 2) (.inl (pb.sm (by decide)).1)) (ej_mul (n := p.2) (m := sc) (ej_name 6) (ej_name 2) (.inl (pb.sm (by decide)).2))⟩)) (by rw [psD_len, List.take_length, ho2, itG_d])) ⟨SttD a c d2, ⟨d2, o2, rfl, ⟨fun e => ?_, by omega, fun z hz => ?_⟩, ps1, rfl⟩, fun _ h => h, fun h => h⟩
      · rw [e] at lo2
        simp at lo2
        omega
      · rw [← ho2] at hz
        obtain ⟨p, hp, rfl⟩ := List.mem_map.mp hz
        have pb := fb p hp
        have m1 := abs_mul (A := 3) (B := 1000000000) pb.1 (y := sc) ⟨by omega, sc2⟩
        have m2 := abs_mul (A := 3) (B := 1000000000) pb.2 (y := sc) ⟨by omega, sc2⟩
        exact ⟨⟨by show _ ≤ p.1 * sc; omega, by show p.1 * sc ≤ _; omega⟩, by show _ ≤ p.2 * sc; omega, by show p.2 * sc ≤ _; omega⟩
end

/-! ### guesses, in their order -/
theorem gu_sorted (L s : Nat) : (guL L s).Pairwise fun a b => PySem.W.dataLt a b = true := by
  have fix3 : ∀ p t : Nat, ((List.range L).map (gsD p t)).Pairwise fun a b => PySem.W.dataLt a b = true := fun p t => by
    rw [List.pairwise_map]
    refine List.pairwise_lt_range.imp fun h => ?_
    rw [lt_gs]
    exact decide_eq_true (by omega)
  have fix2 : ∀ p : Nat, ((List.range 4).flatMap fun t => (List.range L).map (gsD p t)).Pairwise fun a b => PySem.W.dataLt a b = true := fun p => by
    rw [List.pairwise_flatMap]
    refine ⟨fun t _ => fix3 p t, List.pairwise_lt_range.imp fun h x hx y hy => ?_⟩
    obtain ⟨n, _, rfl⟩ := List.mem_map.mp hx
    obtain ⟨m, _, rfl⟩ := List.mem_map.mp hy
    rw [lt_gs]
    exact decide_eq_true (by omega)
  unfold guL
  rw [List.pairwise_flatMap]
  refine ⟨fun p _ => fix2 p, List.pairwise_lt_range.imp fun h x hx y hy => ?_⟩
  obtain ⟨t, _, hx⟩ := List.mem_flatMap.mp hx
  obtain ⟨n, _, rfl⟩ := List.mem_map.mp hx
  obtain ⟨t2, _, hy⟩ := List.mem_flatMap.mp hy
  obtain ⟨m, _, rfl⟩ := List.mem_map.mp hy
  rw [lt_gs]
  exact decide_eq_true (by omega)
theorem gu_before {L s j p t n p' t' n' : Nat} (h : (guL L s)[j]? = some (gsD p t n)) (h2 : gsD p' t' n' ∈ (guL L s).take j) : p' < p ∨ (p' = p ∧ (t' < t ∨ (t' = t ∧ n' < n))) := by
  obtain ⟨i, hi⟩ := List.mem_iff_getElem?.mp h2
  have il : i < j := by
    have := (List.getElem?_eq_some_iff.mp hi).1
    rw [List.length_take] at this
    omega
  rw [List.getElem?_take_of_lt il] at hi
  obtain ⟨h3, e3⟩ := List.getElem?_eq_some_iff.mp hi
  obtain ⟨h4, e4⟩ := List.getElem?_eq_some_iff.mp h
  have := (List.pairwise_iff_getElem.mp (gu_sorted L s)) i j h3 h4 il
  rw [e3, e4, lt_gs] at this
  exact of_decide_eq_true this

/-- the best so far -/
def SoFar (f : Nat → Nat → Nat → Int) (l : List PyData) (bd : PyData) : Prop := (l = [] ∧ bd = .none) ∨ ∃ p t n, bd = .tuple [.int (f p t n), gsD p t n] ∧ gsD p t n ∈ l ∧ ∀ p' t' n', gsD p' t' n' ∈ l → ¬ ltQ (f p' t' n') p' t' n' (f p t n) p t n
theorem far_new {f : Nat → Nat → Nat → Int} {L s j p t n : Nat} (h : (guL L s)[j]? = some (gsD p t n)) {q u m : Nat} (hb : ∀ p' t' n', gsD p' t' n' ∈ (guL L s).take j → ¬ ltQ (f p' t' n') p' t' n' (f q u m) q u m) (hlt : f p t n < f q u m) : SoFar f ((guL L s).take (j + 1)) (.tuple [.int (f p t n), gsD p t n]) := by
  rw [take_snoc h]
  refine .inr ⟨p, t, n, rfl, by simp, fun p' t' n' hm => ?_⟩
  rcases List.mem_append.mp hm with hm | hm
  · have := hb p' t' n' hm
    unfold ltQ at this ⊢
    omega
  · obtain ⟨rfl, rfl, rfl⟩ := gs_inj (List.mem_singleton.mp hm)
    unfold ltQ
    omega
theorem far_old {f : Nat → Nat → Nat → Int} {L s j p t n : Nat} (h : (guL L s)[j]? = some (gsD p t n)) {q u m : Nat} (hq : gsD q u m ∈ (guL L s).take j) (hb : ∀ p' t' n', gsD p' t' n' ∈ (guL L s).take j → ¬ ltQ (f p' t' n') p' t' n' (f q u m) q u m) (hlt : ¬ f p t n < f q u m) : SoFar f ((guL L s).take (j + 1)) (.tuple [.int (f q u m), gsD q u m]) := by
  have ho := gu_before h hq
  rw [take_snoc h]
  refine .inr ⟨q, u, m, rfl, List.mem_append_left _ hq, fun p' t' n' hm => ?_⟩
  rcases List.mem_append.mp hm with hm | hm
  · exact hb p' t' n' hm
  · obtain ⟨rfl, rfl, rfl⟩ := gs_inj (List.mem_singleton.mp hm)
    unfold ltQ
    omega
theorem far_first {f : Nat → Nat → Nat → Int} {L s j p t n : Nat} (h : (guL L s)[j]? = some (gsD p t n)) (h0 : (guL L s).take j = []) : SoFar f ((guL L s).take (j + 1)) (.tuple [.int (f p t n), gsD p t n]) := by
  rw [take_snoc h, h0]
  refine .inr ⟨p, t, n, rfl, by simp, fun p' t' n' hm => ?_⟩
  obtain ⟨rfl, rfl, rfl⟩ := gs_inj (List.mem_singleton.mp hm)
  unfold ltQ
  omega

/-! ### sizes, samples, the found -/
section
variable {P : Program} {w : World} {K : PySem.W.Frag} {mg : Str → Option Value} {base : Heap}
theorem d_law_sizes (T : Txt K mg) {a c : Addr} {d0 : DT} (hl : d0.2.1.length ≤ 63) : DefN P w K mg base "_law_sizes" 3 (fun is M => M = SttD a c d0 ∧ is = [.v (.ref a)]) (fun _ _ i M' => ∃ (d' : DT) (L s : Nat), i = .d (.tuple [.int (L : Int), .int (s : Int)]) ∧ 1 ≤ L ∧ L ≤ 8 ∧ s ≤ 40 ∧ d'.2.1.length ≤ 63 ∧ M' = SttD a c d') := by
  obtain ⟨f, fd, F, hm, hb⟩ := T.f_law_sizes
  have GD := d_law_draw (P := P) (w := w) (base := base) T
  have GK := d_law_pick (P := P) (w := w) (base := base) T
  refine defN_ok F sc_law_sizes hm hb (fun is M h => ?_) (fun is M i M' h h2 x hx => ?_) fun X hX N is M hF hC => ?_
  · obtain ⟨rfl, rfl⟩ := h
    rfl
  · obtain ⟨rfl, rfl⟩ := h
    obtain ⟨d', L, s, rfl, _, _, _, _, rfl⟩ := h2
    exact hx
  · obtain ⟨cdv, A, outer, sh, Hp, E, rfl, hr⟩ := hX
    obtain ⟨rfl, rfl⟩ := hC
    have nd := sc_law_sizes.nd
    have hr1 : Room 1 (A.deeper (envOfC "_law_sizes" (defScope s_law_sizes) sh.heap.objs.size f cdv)) := hr.mono (by decide)
    have hr2 : Room 2 (A.deeper (envOfC "_law_sizes" (defScope s_law_sizes) sh.heap.objs.size f cdv)) := hr
    obtain ⟨x1, e1, w1, l1⟩ := trn_nat (n := 2) (by decide) d0 hl
    obtain ⟨x2, e2, w2, l2⟩ := trn_nat (n := 4) (by decide) _ l1
    obtain ⟨x3, e3, w3, l3⟩ := trn_nat (n := 8) (by decide) _ l2
    obtain ⟨d3, h3⟩ : ∃ d, trn 8 (trn 4 (trn 2 d0)) = d := ⟨_, rfl⟩
    obtain ⟨wl, hwl⟩ : ∃ wl : List PyData, wl = [.int (x1 : Int), .int (x2 : Int), .int (x3 : Int)] := ⟨_, rfl⟩
    have wln : wl ≠ [] := by rw [hwl]; simp
    have wll : wl.length = 3 := by rw [hwl]; rfl
    rw [h3] at l3
    obtain ⟨mn, emn, mn2⟩ : ∃ v : Nat, pkT d3 wl = .int (v : Int) ∧ v ≤ 7 := by
      have := pkT_mem (d := d3) (ds := wl) wln
      generalize pkT d3 wl = z at this
      rw [hwl] at this
      simp only [List.mem_cons, List.not_mem_nil, or_false] at this
      rcases this with rfl | rfl | rfl
      · exact ⟨x1, rfl, by omega⟩
      · exact ⟨x2, rfl, by omega⟩
      · exact ⟨x3, rfl, by omega⟩
    refine sj_set 1 (i := dI ((mn + 1 : Nat) : Int)) (M1 := SttD a c (trn (wl.length : Int) d3)) nd (ej_is (ej_add (n := 1) (m := (mn : Int)) ej_int (ej_is (ej_pickD GK hr2 (d0 := d0) (d := d3) (ds := wl) (ej_name 0) (ej_el (ds := wl) (is := [dI (x1 : Int), dI (x2 : Int), dI (x3 : Int)]) (M1 := SttD a c d3) (el_disp (aj_cons (M1 := SttD a c (trn 2 d0)) (ej_is (ej_drawD GD hr1 (d := d0) (ej_name 0) ej_int (by decide) (by decide) hl) (by rw [e1])) (aj_cons (M1 := SttD a c (trn 4 (trn 2 d0))) (ej_is (ej_drawD GD hr1 (d := trn 2 d0) (ej_name 0) ej_int (by decide) (by decide) l1) (by rw [e2])) (aj_cons (M1 := SttD a c d3) (ej_m (ej_is (ej_drawD GD hr1 (d := trn 4 (trn 2 d0)) (ej_name 0) ej_int (by decide) (by decide) l2) (by rw [e3])) (by rw [h3])) aj_nil)))) (by rw [hwl]; rfl)) wln (by omega) l3) (by rw [emn]))) (by refine congrArg dI ?_; omega)) ?_
    have l4 := trn_len (wl.length : Int) d3 l3
    generalize trn (wl.length : Int) d3 = d4 at l4 ⊢
    clear emn hwl wln wll h3 l3 e3 w3 l2 e2 w2 l1 e1 w1 wl d3
    obtain ⟨wl, hwl⟩ : ∃ wl : List PyData, wl = [.int 0, .int 1, .int 2, .int 3, .int 5, .int 12] := ⟨_, rfl⟩
    have wln : wl ≠ [] := by rw [hwl]; simp
    have wll : wl.length = 6 := by rw [hwl]; rfl
    obtain ⟨sl, esl, sl2⟩ : ∃ v : Nat, pkT d4 wl = .int (v : Int) ∧ v ≤ 40 := by
      have := pkT_mem (d := d4) (ds := wl) wln
      generalize pkT d4 wl = z at this
      rw [hwl] at this
      simp only [List.mem_cons, List.not_mem_nil, or_false] at this
      rcases this with rfl | rfl | rfl | rfl | rfl | rfl
      · exact ⟨0, rfl, by decide⟩
      · exact ⟨1, rfl, by decide⟩
      · exact ⟨2, rfl, by decide⟩
      · exact ⟨3, rfl, by decide⟩
      · exact ⟨5, rfl, by decide⟩
      · exact ⟨12, rfl, by decide⟩
    have l5 := trn_len (wl.length : Int) d4 l4
    refine sj_set 2 (i := dI (sl : Int)) (M1 := SttD a c (trn (wl.length : Int) d4)) nd (ej_is (ej_pickD GK hr2 (d := d4) (ds := wl) (ej_name 0) (by rw [hwl]; exact jr_list (jd_cons ej_int (jd_cons ej_int (jd_cons ej_int (jd_cons ej_int (jd_cons ej_int (jd_cons ej_int jd_nil)))))) (by show 6 ≤ 1000; decide)) wln (by omega) l4) (by rw [esl])) ?_
    generalize trn (wl.length : Int) d4 = d5 at l5 ⊢
    clear esl hwl wln wll wl l4 d4
    refine (fun (key : ∀ (d6 : DT) (s : Nat), s ≤ 40 → d6.2.1.length ≤ 63 → SJ _ N [some (.v (.ref a)), some (dI ((mn + 1 : Nat) : Int)), some (dI (s : Int))] (SttD a c d6) _ _) => sj_if (t := decide (((mn + 1 : Nat) : Int) < 3)) (M1 := SttD a c d5) (tj_lt (n := ((mn + 1 : Nat) : Int)) (m := 3) (ej_name 1) ej_int) (fun h => ?_) (fun h => sj_nil (key d5 sl sl2 l5))) ?_
    · obtain ⟨x1, e1, w1, l1⟩ := trn_nat (n := 41) (by decide) d5 l5
      obtain ⟨wl, hwl⟩ : ∃ wl : List PyData, wl = [.int (sl : Int), .int (sl : Int), .int (x1 : Int)] := ⟨_, rfl⟩
      have wln : wl ≠ [] := by rw [hwl]; simp
      have wll : wl.length = 3 := by rw [hwl]; rfl
      obtain ⟨d6, h6⟩ : ∃ d, trn 41 d5 = d := ⟨_, rfl⟩
      rw [h6] at l1
      obtain ⟨s3, es3, s32⟩ : ∃ v : Nat, pkT d6 wl = .int (v : Int) ∧ v ≤ 40 := by
        have := pkT_mem (d := d6) (ds := wl) wln
        generalize pkT d6 wl = z at this
        rw [hwl] at this
        simp only [List.mem_cons, List.not_mem_nil, or_false] at this
        rcases this with rfl | rfl | rfl
        · exact ⟨sl, rfl, sl2⟩
        · exact ⟨sl, rfl, sl2⟩
        · exact ⟨x1, rfl, by omega⟩
      refine sj_set 2 (i := dI (s3 : Int)) (M1 := SttD a c (trn (wl.length : Int) d6)) nd (ej_is (ej_pickD GK hr2 (d0 := d5) (d := d6) (ds := wl) (ej_name 0) (ej_el (ds := wl) (is := [dI (sl : Int), dI (sl : Int), dI (x1 : Int)]) (M1 := SttD a c d6) (el_disp (aj_cons (M1 := SttD a c d5) (ej_name 2) (aj_cons (M1 := SttD a c d5) (ej_name 2) (aj_cons (M1 := SttD a c d6) (ej_m (ej_is (ej_drawD GD hr1 (d := d5) (ej_name 0) ej_int (by decide) (by decide) l5) (by rw [e1])) (by rw [h6])) aj_nil)))) (by rw [hwl]; rfl)) wln (by omega) l1) (by rw [es3])) ?_
      exact sj_nil (key _ s3 s32 (trn_len _ d6 l1))
    · intro d6 s s40 l6
      exact sj_ret (jt2 (ej_name (i := dI ((mn + 1 : Nat) : Int)) 1) (ej_name (i := dI (s : Int)) 2)) ⟨SttD a c d6, ⟨d6, mn + 1, s, rfl, by omega, by omega, s40, l6, rfl⟩, fun _ h => h, fun h => h⟩
def CoFd98 : Co := fun is M i M' => M = [] ∧ M' = [] ∧ ∃ (o : List Gp) (ls : List (List Gp)) (us : List (Option Gp)) (s p t n : Nat), is = [tdE (shT o ls), .d (.list (lnsD ls)), dI (s : Int), .d (.list (osD us))] ∧ OpOk 3000000000 o ∧ (∀ ts ∈ ls, LnOk 50 ts) ∧ ls.length ≤ 10 ∧ s ≤ 100 ∧ s + o.length ≤ us.length ∧ (∀ ts ∈ ls, ∀ t, ∀ q ∈ shpG o ts t, ∀ z, some z ∈ us → sm (gsub q z)) ∧ Best o ls us s p t n ∧ i = .d (gsD p t n)
theorem d_law_found (T : Txt K mg) : Def P w K mg base "_law_found" 2 CoFd98 := by
  obtain ⟨f, fd, F, hm, hb⟩ := T.f_law_found
  have GC := d_law_cost (P := P) (w := w) (base := base) T
  have GG := d_law_guesses (P := P) (w := w) (base := base) T
  refine def_ok F sc_law_found hm hb (fun is M i M' h => ?_) fun X hX N is M i M' hF hC => ?_
  · obtain ⟨rfl, rfl, o, ls, us, s, p, t, n, rfl, _⟩ := h
    exact ⟨rfl, rfl⟩
  · obtain ⟨cdv, Ar, outer, sh, H, E, rfl, hr⟩ := hX
    obtain ⟨rfl, rfl, o, ls, us, s, p3, t3, n3, rfl, O, k3, l10, s100, lus, hsm, best, rfl⟩ := hC
    have nd := sc_law_found.nd
    have hu := hu_of hr
    have hr1 : Room 1 (Ar.deeper (envOfC "_law_found" (defScope s_law_found) sh.heap.objs.size f cdv)) := hr
    have o64 := O.le
    refine sj_set 4 (i := .d .none) (M1 := []) nd ej_non ?_
    obtain ⟨fc, hfc⟩ : ∃ fc, cstQ o ls us = fc := ⟨_, rfl⟩
    refine sj_forW (ds := guL ls.length s) (M1 := []) rfl (iw_list (ej_callP GG hr1 (aj_cons (ej_name (i := .d (.list (lnsD ls))) 1) (aj_cons (ej_name (i := dI (s : Int)) 2) aj_nil)) ⟨rfl, rfl, ls, s, rfl, by omega, by omega, rfl⟩)) (fun j ρ M => ∃ bd y5 y6 y7 y8, ρ = [some (tdE (shT o ls)), some (.d (.list (lnsD ls))), some (dI (s : Int)), some (.d (.list (osD us))), some (.d bd), y5, y6, y7, y8] ∧ M = [] ∧ SoFar fc ((guL ls.length s).take j) bd) ⟨.none, none, none, none, none, rfl, rfl, .inl ⟨rfl, rfl⟩⟩ (fun j d ρ M hd hI => ?_) fun ρ M hI => ?_
    · obtain ⟨bd, y5, y6, y7, y8, rfl, rfl, far⟩ := hI
      obtain ⟨p2, t2, n2, hp2, ht2, hn2, rfl⟩ := gu_mem.mp (List.mem_of_getElem? hd)
      obtain ⟨ts2, hts2⟩ : ∃ ts, ls[n2]? = some ts := ⟨_, List.getElem?_eq_getElem hn2⟩
      have m2 := List.mem_of_getElem? hts2
      have LO2 := k3 ts2 m2
      have sl2 := shp_len O.ne LO2.ne t2
      have eg2 : ls.getD n2 [] = ts2 := by rw [List.getD_eq_getElem?_getD, hts2]; rfl
      refine ⟨_, gj_tup (ds := [.int (p2 : Int), .int (t2 : Int), .int (n2 : Int)]) rfl (gs_cons 5 nd (gs_cons 6 nd (gs_cons 7 nd gs_nil))), ?_⟩
      refine sj_set 8 (i := dI (fc p2 t2 n2)) (M1 := []) nd (ej_is (ej_callP GC hr1 (aj_cons (i := .d (.list (psD (shpG o ts2 t2)))) (ej_tget (es := shT o ls) (k := [.inl (t2 : Int), .inl (n2 : Int)]) hu (shT_val (by omega) hts2) (ej_name 0) (ej_is (jt2 (ej_name (i := dI (t2 : Int)) 6) (ej_name (i := dI (n2 : Int)) 7)) rfl)) (aj_cons (ej_name (i := .d (.list (osD us))) 3) (aj_cons (ej_name (i := dI (p2 : Int)) 5) aj_nil))) ⟨rfl, rfl, shpG o ts2 t2, p2, us, rfl, by omega, by omega, hsm ts2 m2 t2, rfl⟩) (by rw [← hfc]; unfold cstQ; rw [eg2])) ?_
      rcases far with ⟨e0, rfl⟩ | ⟨q, u, m, rfl, hq, hb⟩
      · refine sj_if (t := true) (M1 := []) (tj_is (tj_w (wj_or (t := true) (u := false) (tj_is (tj_isN (d := .none) (ej_name 4) ej_non) rfl) (fun h => nomatch h))) rfl) (fun _ => ?_) (fun h => nomatch h)
        exact sj_set 4 (i := .d (.tuple [.int (fc p2 t2 n2), gsD p2 t2 n2])) (M1 := []) nd (jt2 (A := .int (fc p2 t2 n2)) (B := gsD p2 t2 n2) (ej_name 8) (jt3 (ej_name (i := dI (p2 : Int)) 5) (ej_name (i := dI (t2 : Int)) 6) (ej_name (i := dI (n2 : Int)) 7))) (sj_nil (sj_nil ⟨_, _, _, _, _, rfl, rfl, far_first hd e0⟩))
      · have i1 : atI [PyData.int (fc q u m), gsD q u m] 0 = some (.int (fc q u m)) := atI_nat (j := 0) rfl
        refine sj_if (t := decide (fc p2 t2 n2 < fc q u m)) (M1 := []) (tj_w (wj_orF (M1 := []) (tj_is (tj_isN (d := .tuple [.int (fc q u m), gsD q u m]) (ej_name 4) ej_non) rfl) (wj_or1 (tj_lt (n := fc p2 t2 n2) (m := fc q u m) (ej_name 8) (ej_ixT (ds := [PyData.int (fc q u m), gsD q u m]) (ej_name 4) ej_int i1))))) (fun h => ?_) (fun h => ?_)
        · exact sj_set 4 (i := .d (.tuple [.int (fc p2 t2 n2), gsD p2 t2 n2])) (M1 := []) nd (jt2 (A := .int (fc p2 t2 n2)) (B := gsD p2 t2 n2) (ej_name 8) (jt3 (ej_name (i := dI (p2 : Int)) 5) (ej_name (i := dI (t2 : Int)) 6) (ej_name (i := dI (n2 : Int)) 7))) (sj_nil (sj_nil ⟨_, _, _, _, _, rfl, rfl, far_new hd hb (of_decide_eq_true h)⟩))
        · exact sj_nil (sj_nil ⟨_, _, _, _, _, rfl, rfl, far_old hd hq hb (of_decide_eq_false h)⟩)
    · obtain ⟨bd, y5, y6, y7, y8, rfl, rfl, far⟩ := hI
      rw [List.take_length] at far
      have gne : guL ls.length s ≠ [] := fun e => by
        have : gsD p3 t3 n3 ∈ guL ls.length s := gu_mem.mpr ⟨p3, t3, n3, best.hp, best.ht, best.hn, rfl⟩
        rw [e] at this
        cases this
      rcases far with ⟨e0, _⟩ | ⟨p4, t4, n4, rfl, hm, hb⟩
      · exact absurd e0 gne
      have b4 : Best o ls us s p4 t4 n4 := by
        obtain ⟨a1, a2, a3, h1, h2, h3, e⟩ := gu_mem.mp hm
        obtain ⟨rfl, rfl, rfl⟩ := gs_inj e
        exact ⟨h1, h2, h3, fun p' t' n' g1 g2 g3 => by rw [hfc]; exact hb p' t' n' (gu_mem.mpr ⟨p', t', n', g1, g2, g3, rfl⟩)⟩
      have i1 : atI [PyData.int (fc p4 t4 n4), gsD p4 t4 n4] 1 = some (gsD p4 t4 n4) := atI_nat (j := 1) rfl
      rw [← b4.uniq best]
      exact sj_ret (ej_ixT (ds := [PyData.int (fc p4 t4 n4), gsD p4 t4 n4]) (ej_name 4) ej_int i1) ⟨rfl, [], rfl⟩
end

theorem best_ex {o : List Gp} {ls : List (List Gp)} (us : List (Option Gp)) (s : Nat) (h : ls ≠ []) : ∃ p t n, Best o ls us s p t n := by
  have l1 : 0 < ls.length := List.length_pos_iff.mpr h
  cases e : tlN (cstQ o ls us) ls.length s 4 0 with
  | cons d ds =>
    obtain ⟨p, t, n, _, b⟩ := min_best e
    exact ⟨p, t, n, b⟩
  | nil =>
    have := (tlN_mem (f := cstQ o ls us) (L := ls.length) (s := s)).mpr ⟨0, 0, 0, Nat.zero_le s, Nat.zero_le 3, l1, rfl⟩
    rw [e] at this
    cases this

def CoPickO : Co := fun is M i M' => ∃ (a c q : Addr) (d : DT) (ds : List PyData), is = [.v (.ref a), .v (.ref q)] ∧ M = SttD a c d ++ [(q, ds.map It.d)] ∧ ds ≠ [] ∧ ds.length ≤ 100000 ∧ d.2.1.length ≤ 63 ∧ i = .d (pkT d ds) ∧ M' = SttD a c (trn (ds.length : Int) d) ++ [(q, ds.map It.d)]
section
variable {P : Program} {w : World} {K : PySem.W.Frag} {mg : Str → Option Value} {base : Heap}
theorem d_law_pickO (T : Txt K mg) : Def P w K mg base "_law_pick" 2 CoPickO := by
  obtain ⟨f, fd, F, hm, hb⟩ := T.f_law_pick
  have GD := d_law_draw (P := P) (w := w) (base := base) T
  refine def_ok F sc_law_pick hm hb (fun is M i M' h => ?_) fun X hX N is M i M' hF hC => ?_
  · obtain ⟨a, c, q, d, ds, rfl, rfl, _, _, _, _, rfl⟩ := h
    exact ⟨rfl, rfl⟩
  · obtain ⟨cdv, A, outer, s0, H, E, rfl, hr⟩ := hX
    obtain ⟨a, c, q, d, ds, rfl, rfl, hne, hz, hl, rfl, rfl⟩ := hC
    have p : 0 < ds.length := List.length_pos_iff.mpr hne
    obtain ⟨h0, h1, _⟩ := trn_ok (n := (ds.length : Int)) (by omega) d hl
    have hx : atI (ds.map It.d) (trn (ds.length : Int) d).1 = some (.d (pkT d ds)) := at_of0 h0 (by
      unfold trn at h0 h1 ⊢
      unfold pkT pkD
      rw [List.getD_eq_getElem?_getD, List.getElem?_map, List.getElem?_eq_getElem (by omega)]
      rfl)
    exact sj_ret (ej_ixO (p := q) (is := ds.map It.d) (ej_name 1) (ej_drawM (d := d) (Mr := [(q, ds.map It.d)]) (many := (ds.length : Int)) GD hr (ej_name 0) (ej_is (ej_lenO (o := q) (is := ds.map It.d) T.b_len (ej_name 1) (by simp)) (by rw [List.length_map])) (by omega) (by omega) hl) (by simp) hx) ⟨rfl, [], (List.append_nil _).symm⟩
end

/-! ### samples of all sizes -/
section
variable {P : Program} {w : World} {K : PySem.W.Frag} {mg : Str → Option Value} {base : Heap}
theorem d_law_samples (T : Txt K mg) {a c : Addr} {d0 : DT} {cl : List Gp} {sc : Int} (hl : d0.2.1.length ≤ 63) (lc : cl.length ≤ 200) (bc : ∀ z ∈ cl, bdG 20000000000000 z) (sc0 : 0 ≤ sc) (sc1 : sc ≤ 3000000000) : DefN P w K mg base "_law_samples" 3 (fun is M => M = SttD a c d0 ∧ is = [.v (.ref a), .d (.list (psD cl)), dI sc]) (fun _ _ i M' => ∃ (d' : DT) (us : List (Option Gp)), i = .d (.list (osD us)) ∧ cl.length ≤ us.length ∧ us.length ≤ 300 ∧ (∀ z, some z ∈ us → bdG 40000000000000 z) ∧ d'.2.1.length ≤ 63 ∧ M' = SttD a c d') := by
  obtain ⟨f, fd, F, hm, hb⟩ := T.f_law_samples
  have GD := d_law_draw (P := P) (w := w) (base := base) T
  have GK := d_law_pick (P := P) (w := w) (base := base) T
  have GP := d_law_point (P := P) (w := w) (base := base) T
  refine defN_ok F sc_law_samples hm hb (fun is M h => ?_) (fun is M i M' h h2 x hx => ?_) fun X hX N is M hF hC => ?_
  · obtain ⟨rfl, rfl⟩ := h
    rfl
  · obtain ⟨rfl, rfl⟩ := h
    obtain ⟨d', us, rfl, _, _, _, _, rfl⟩ := h2
    exact hx
  · obtain ⟨cdv, A, outer, sh, Hp, E, rfl, hr⟩ := hX
    obtain ⟨rfl, rfl⟩ := hC
    have nd := sc_law_samples.nd
    have hr1 : Room 1 (A.deeper (envOfC "_law_samples" (defScope s_law_samples) sh.heap.objs.size f cdv)) := hr.mono (by decide)
    have hr2 : Room 2 (A.deeper (envOfC "_law_samples" (defScope s_law_samples) sh.heap.objs.size f cdv)) := hr
    obtain ⟨wl, hwl⟩ : ∃ wl : List PyData, wl = [.int 0, .int 0, .int 1, .int 3, .int 3000] := ⟨_, rfl⟩
    have wln : wl ≠ [] := by rw [hwl]; simp
    have wll : wl.length = 5 := by rw [hwl]; rfl
    obtain ⟨v, ev, v0, v1⟩ : ∃ v : Int, pkT d0 wl = .int v ∧ 0 ≤ v ∧ v ≤ 3000 := by
      have := pkT_mem (d := d0) (ds := wl) wln
      generalize pkT d0 wl = z at this
      rw [hwl] at this
      simp only [List.mem_cons, List.not_mem_nil, or_false] at this
      rcases this with rfl | rfl | rfl | rfl | rfl
      · exact ⟨0, rfl, by decide, by decide⟩
      · exact ⟨0, rfl, by decide, by decide⟩
      · exact ⟨1, rfl, by decide, by decide⟩
      · exact ⟨3, rfl, by decide, by decide⟩
      · exact ⟨3000, rfl, by decide, by decide⟩
    have l1 := trn_len (wl.length : Int) d0 hl
    have wb := abs_mul (A := 3000000000) (B := 3000) (x := sc) (y := v) ⟨by omega, sc1⟩ ⟨by omega, v1⟩
    have w0 : 0 ≤ sc * v := Int.mul_nonneg sc0 v0
    refine sj_set 3 (i := dI (sc * v)) (M1 := SttD a c (trn (wl.length : Int) d0)) nd (ej_mul (n := sc) (m := v) (ej_name 2) (ej_is (ej_pickD GK hr2 (d := d0) (ds := wl) (ej_name 0) (by rw [hwl]; exact jr_list (jd_cons ej_int (jd_cons ej_int (jd_cons ej_int (jd_cons ej_int (jd_cons ej_int jd_nil))))) (by show 5 ≤ 1000; decide)) wln (by omega) hl) (by rw [ev])) (.inl ⟨by omega, by omega⟩)) ?_
    generalize trn (wl.length : Int) d0 = d1 at l1 ⊢
    generalize sc * v = wi at wb w0 ⊢
    clear ev hwl wln wll wl
    obtain ⟨wl, hwl⟩ : ∃ wl : List PyData, wl = [.int 99, .int 99, .int 6, .int 2, .int 1] := ⟨_, rfl⟩
    have wln : wl ≠ [] := by rw [hwl]; simp
    have wll : wl.length = 5 := by rw [hwl]; rfl
    obtain ⟨dr, edr, dr0, dr1⟩ : ∃ v : Int, pkT d1 wl = .int v ∧ 1 ≤ v ∧ v ≤ 99 := by
      have := pkT_mem (d := d1) (ds := wl) wln
      generalize pkT d1 wl = z at this
      rw [hwl] at this
      simp only [List.mem_cons, List.not_mem_nil, or_false] at this
      rcases this with rfl | rfl | rfl | rfl | rfl
      · exact ⟨99, rfl, by decide, by decide⟩
      · exact ⟨99, rfl, by decide, by decide⟩
      · exact ⟨6, rfl, by decide, by decide⟩
      · exact ⟨2, rfl, by decide, by decide⟩
      · exact ⟨1, rfl, by decide, by decide⟩
    have l2 := trn_len (wl.length : Int) d1 l1
    refine sj_set 4 (i := dI dr) (M1 := SttD a c (trn (wl.length : Int) d1)) nd (ej_is (ej_pickD GK hr2 (d := d1) (ds := wl) (ej_name 0) (by rw [hwl]; exact jr_list (jd_cons ej_int (jd_cons ej_int (jd_cons ej_int (jd_cons ej_int (jd_cons ej_int jd_nil))))) (by show 5 ≤ 1000; decide)) wln (by omega) l1) (by rw [edr])) ?_
    generalize trn (wl.length : Int) d1 = d2 at l2 ⊢
    clear edr hwl wln wll wl l1 d1
    refine sj_own 5 (is := []) (M1 := SttD a c d2) nd (el_disp aj_nil) fun o hoF => ?_
    have l3 := trn_len 6 d2 l2
    refine sj_set 6 (i := dB (decide ((trn 6 d2).1 = 0))) (M1 := SttD a c (trn 6 d2) ++ [(o, [])]) nd (ej_eqI (n := (trn 6 d2).1) (m := 0) (ej_drawM (d := d2) (many := 6) (Mr := [(o, [])]) GD hr1 (ej_name 0) ej_int (by decide) (by decide) l2) ej_int) ?_
    generalize decide ((trn 6 d2).1 = 0) = drn
    generalize trn 6 d2 = d3 at l3 ⊢
    refine sj_forW (ds := psD cl) (M1 := SttD a c d3 ++ [(o, [])]) rfl (iw_list (ej_name 1)) (fun j ρ M => ∃ y7 y8 y9 y10 y11 d us, ρ = [some (.v (.ref a)), some (.d (.list (psD cl))), some (dI sc), some (dI wi), some (dI dr), some (.v (.ref o)), some (dB drn), y7, y8, y9, y10, y11, none] ∧ M = SttD a c d ++ [(o, (osD us).map It.d)] ∧ d.2.1.length ≤ 63 ∧ us.length = j ∧ ∀ z, some z ∈ us → bdG 40000000000000 z) ⟨none, none, none, none, none, d3, [], rfl, rfl, l3, rfl, fun z hz => absurd hz List.not_mem_nil⟩ (fun j d0 ρ M hd hI => ?_) fun ρ M hI => ?_
    · obtain ⟨y7, y8, y9, y10, y11, d, us, rfl, rfl, ld, lus, bus⟩ := hI
      obtain ⟨p, hp, rfl⟩ := psD_inv hd
      have pb := bc p (List.mem_of_getElem? hp)
      have jl := (List.getElem?_eq_some_iff.mp hp).1
      obtain ⟨b5, l5⟩ := pt_ok (wide := wi) w0 ld
      refine ⟨_, gj_tup (ds := [.int p.1, .int p.2]) rfl (gs_cons 7 nd (gs_cons 8 nd gs_nil)), ?_⟩
      refine sj_asgG (i := .d (pD (ptG wi d))) (M1 := SttD a c (ptS wi d) ++ [(o, (osD us).map It.d)]) (ej_call GP hr2 (Mc := SttD a c d) (Mc' := SttD a c (ptS wi d)) (Mr := [(o, (osD us).map It.d)]) (aj_cons (ej_name 0) (aj_cons (ej_name (i := dI wi) 3) aj_nil)) rfl ⟨a, c, d, wi, rfl, rfl, ld, w0, by omega, rfl, rfl⟩ rfl) (gj_tup (ds := [.int (ptG wi d).1, .int (ptG wi d).2]) rfl (gs_cons 9 nd (gs_cons 10 nd gs_nil))) ?_
      generalize ptG wi d = q at b5 ⊢
      generalize ptS wi d = d5 at l5 ⊢
      have bq : bdG 40000000000000 (gadd p q) := (bd_add pb b5).mono (by omega)
      refine sj_set 11 (i := .d (pD (gadd p q))) (M1 := SttD a c d5 ++ [(o, (osD us).map It.d)]) nd (jt2 (A := .int (p.1 + q.1)) (B := .int (p.2 + q.2)) (ej_add (n := p.1) (m := q.1) (ej_name 7) (ej_name 9)) (ej_add (n := p.2) (m := q.2) (ej_name 8) (ej_name 10))) ?_
      generalize gadd p q = pt at bq ⊢
      refine (fun (key : ∀ (d6 : DT) (pt : Gp), d6.2.1.length ≤ 63 → bdG 40000000000000 pt → SJ _ N [some (.v (.ref a)), some (.d (.list (psD cl))), some (dI sc), some (dI wi), some (dI dr), some (.v (.ref o)), some (dB drn), some (dI p.1), some (dI p.2), some (dI q.1), some (dI q.2), some (.d (pD pt)), none] (SttD a c d6 ++ [(o, (osD us).map It.d)]) _ _) => sj_if (t := drn) (M1 := SttD a c d5 ++ [(o, (osD us).map It.d)]) (tj_val (ej_name 6)) (fun h => ?_) (fun h => sj_nil (key d5 pt l5 bq))) ?_
      · obtain ⟨b6, l6⟩ := pt_ok (wide := 2 * sc + wi) (by omega) l5
        refine sj_set 11 (i := .d (pD (ptG (2 * sc + wi) d5))) (M1 := SttD a c (ptS (2 * sc + wi) d5) ++ [(o, (osD us).map It.d)]) nd (ej_call GP hr2 (Mc := SttD a c d5) (Mc' := SttD a c (ptS (2 * sc + wi) d5)) (Mr := [(o, (osD us).map It.d)]) (aj_cons (ej_name 0) (aj_cons (i := dI (2 * sc + wi)) (ej_add (n := 2 * sc) (m := wi) (ej_mul (n := 2) (m := sc) ej_int (ej_name 2) (.inl (by decide))) (ej_name 3)) aj_nil)) rfl ⟨a, c, d5, 2 * sc + wi, rfl, rfl, l5, by omega, by omega, rfl, rfl⟩ rfl) ?_
        exact sj_nil (key _ _ l6 (b6.mono (by omega)))
      clear bq pt l5 d5
      intro d5 pt l5 bq
      have l7 := trn_len dr d5 l5
      refine (fun (key : ∀ (u : Option Gp), (∀ z, u = some z → bdG 40000000000000 z) → SJ _ N [some (.v (.ref a)), some (.d (.list (psD cl))), some (dI sc), some (dI wi), some (dI dr), some (.v (.ref o)), some (dB drn), some (dI p.1), some (dI p.2), some (dI q.1), some (dI q.2), some (.d (optD u)), none] (SttD a c (trn dr d5) ++ [(o, (osD us).map It.d)]) _ _) => sj_if (t := decide ((trn dr d5).1 = 0)) (M1 := SttD a c (trn dr d5) ++ [(o, (osD us).map It.d)]) (tj_eqI (n := (trn dr d5).1) (m := 0) (ej_drawM (d := d5) (many := dr) (Mr := [(o, (osD us).map It.d)]) GD hr1 (ej_name 0) (ej_name 4) (by omega) (by omega) l5) ej_int) (fun h => sj_set 11 (i := .d (optD none)) (M1 := SttD a c (trn dr d5) ++ [(o, (osD us).map It.d)]) nd ej_non (sj_nil (key none (fun z e => by cases e)))) (fun h => sj_nil (key (some pt) (fun z e => by cases e; exact bq)))) ?_
      intro u hu
      refine sj_nd fun ndm => ?_
      refine sj_append (p := o) (is := (osD us).map It.d) (is0 := (osD us).map It.d) (i := .d (optD u)) (M1 := SttD a c (trn dr d5) ++ [(o, (osD us).map It.d)]) (ej_name 5) (by simp) (ej_name 11) (by simp) (by rw [List.length_map, osD_len]; omega) ?_
      rw [put_end ndm]
      refine sj_nil ⟨_, _, _, _, _, trn dr d5, us ++ [u], rfl, ?_, l7, by rw [List.length_append, lus]; rfl, fun z hz => ?_⟩
      · unfold osD
        rw [List.map_append, List.map_append]
        rfl
      · rcases List.mem_append.mp hz with h | h
        · exact bus z h
        · exact hu z (List.mem_singleton.mp h).symm
    · obtain ⟨y7, y8, y9, y10, y11, d, us, rfl, rfl, ld, lus, bus⟩ := hI
      rw [psD_len] at lus
      refine sj_frzT (Mb := SttD a c d) 5 (ds := osD us) rfl hoF ?_
      obtain ⟨x, ex, wx, l8⟩ := trn_nat (n := 4) (by decide) d ld
      obtain ⟨d8, h8⟩ : ∃ d8, trn 4 d = d8 := ⟨_, rfl⟩
      rw [h8] at ex l8
      have pk := fun j => pr_ok (wide := 3) (by decide) l8 j
      obtain ⟨pk1, pk2, pk3⟩ := pk (x / 2)
      refine sj_ret (i := .d (.list (osD (us ++ (prL 3 d8 (x / 2)).map some)))) (M1 := SttD a c (prS 3 d8 (x / 2))) (ej_el (ds := osD (us ++ (prL 3 d8 (x / 2)).map some)) (el_cat (ds := osD us) (es := psD (prL 3 d8 (x / 2))) (ej_name 5) (ej_el (ds := psD (prL 3 d8 (x / 2))) (el_compR 12 (z := ((x / 2 : Nat) : Int)) (M1 := SttD a c d8) (fun j => itG (prL 3 d8 j)) (fun j => SttD a c (prS 3 d8 j)) rfl T.b_range nd (ej_m (ej_is (ej_fdiv (n := (x : Int)) (m := 2) (ej_is (ej_drawD GD hr1 (d := d) (ej_name 0) ej_int (by decide) (by decide) ld) (by rw [h8, ex])) ej_int (by decide)) (by refine congrArg dI ?_; omega)) (by rw [h8])) rfl rfl (by omega) (fun j hj => ⟨.d (pD (ptG 3 (prS 3 d8 j))), itG_app _ _, by rw [itG_len, (pk j).2.1]; exact Nat.le_refl _, fun N' s H C cl fp => ej_m (ej_call GP hr2 (Mc := SttD a c (prS 3 d8 j)) (Mc' := SttD a c (prS 3 d8 (j + 1))) (Mr := []) (aj_cons (ej_name 0) (aj_cons ej_int aj_nil)) (List.append_nil _).symm ⟨a, c, prS 3 d8 j, 3, rfl, rfl, (pk j).1, by decide, by decide, rfl, rfl⟩ rfl) (List.append_nil _)⟩)) (by rw [Int.toNat_natCast]; rfl)) (by rw [osD_len, psD_len, pk2]; omega)) (by
        rw [← psos]
        unfold osD
        simp only [List.map_append])) ⟨SttD a c (prS 3 d8 (x / 2)), ⟨_, us ++ (prL 3 d8 (x / 2)).map some, rfl, by rw [List.length_append]; omega, by rw [List.length_append, List.length_map, pk2]; omega, fun z hz => ?_, pk1, rfl⟩, fun _ h => h, fun h => h⟩
      rcases List.mem_append.mp hz with h | h
      · exact bus z h
      · obtain ⟨g, hg, e⟩ := List.mem_map.mp h
        rw [← Option.some.inj e]
        exact (pk3 g hg).mono (by decide)
end

/-! ### the law -/
theorem os_pn (l : List (Option Gp)) : PN 5 (.list (osD l)) := .lst (n := 4) _ fun x hx => by
  obtain ⟨u, _, rfl⟩ := List.mem_map.mp hx
  cases u with
  | none => exact .non
  | some p =>
    refine .tup _ fun y hy => ?_
    simp only [List.mem_cons, List.not_mem_nil, or_false] at hy
    rcases hy with rfl | rfl <;> exact .int _
theorem ln_pn (l : List (List Gp)) : PN 8 (.list (lnsD l)) := .lst (n := 7) _ fun x hx => by
  obtain ⟨ts, _, rfl⟩ := List.mem_map.mp hx
  refine .tup _ fun y hy => ?_
  simp only [List.mem_cons, List.not_mem_nil, or_false] at hy
  rcases hy with rfl | rfl
  · exact .str _ (by decide +kernel)
  · refine .tup _ fun z hz => ?_
    obtain ⟨p, _, rfl⟩ := List.mem_map.mp hz
    refine .tup _ fun y hy => ?_
    simp only [List.mem_cons, List.not_mem_nil, or_false] at hy
    rcases hy with rfl | rfl <;> exact .int _
theorem ps_pn (l : List Gp) : PN 5 (.list (psD l)) := by
  rw [← psos]
  exact os_pn _
theorem nat_min {Q : Nat → Prop} : ∀ n, Q n → ∃ m, Q m ∧ ∀ k, Q k → m ≤ k := by
  intro n
  induction n using Nat.strongRecOn with
  | ind n ih =>
    intro h
    by_cases c : ∃ k, k < n ∧ Q k
    · obtain ⟨k, h1, h2⟩ := c
      exact ih k h1 h2
    · refine ⟨n, h, fun k hk => ?_⟩
      exact Nat.le_of_not_lt fun z => c ⟨k, z, hk⟩
theorem sz_nn (p : Gp) : 0 ≤ szG p := by
  have h1 : 0 ≤ p.1 * p.1 := by
    rw [← Int.natAbs_mul_self (a := p.1)]
    exact Int.natCast_nonneg _
  have h2 : 0 ≤ p.2 * p.2 := by
    rw [← Int.natAbs_mul_self (a := p.2)]
    exact Int.natCast_nonneg _
  show 0 ≤ p.1 * p.1 + p.2 * p.2
  omega
theorem csl_nn : ∀ (r : List Gp) (ss : List (Option Gp)), 0 ≤ (csL r ss).sum
  | [], _ => Int.le_refl 0
  | _ :: _, [] => Int.le_refl 0
  | q :: r, u :: ss => by
    have ih := csl_nn r ss
    have h : 0 ≤ cstG q u := by
      cases u with
      | none => exact Int.le_refl 0
      | some z => exact sz_nn _
    show 0 ≤ cstG q u + (csL r ss).sum
    omega
theorem least_ex {o : List Gp} {ls : List (List Gp)} {s : Nat} (hn : ls ≠ []) : ∃ m, Least o ls s m := by
  have l1 : 0 < ls.length := List.length_pos_iff.mpr hn
  have cn : ∀ p1 t1 n1 p2 t2 n2, 0 ≤ cpG o ls s p1 t1 n1 p2 t2 n2 := fun p1 t1 n1 p2 t2 n2 => csl_nn _ _
  obtain ⟨k, ⟨p1, t1, n1, p2, t2, n2, a1, a2, a3, a4, a5, a6, a7, e⟩, le⟩ := nat_min (Q := fun k => ∃ p1 t1 n1 p2 t2 n2, p1 ≤ s ∧ t1 ≤ 3 ∧ n1 < ls.length ∧ p2 ≤ s ∧ t2 ≤ 3 ∧ n2 < ls.length ∧ ¬ (p2 = p1 ∧ t2 = t1 ∧ n2 = n1) ∧ (k : Int) = cpG o ls s p1 t1 n1 p2 t2 n2) (cpG o ls s 0 0 0 0 1 0).toNat ⟨0, 0, 0, 0, 1, 0, by omega, by omega, l1, by omega, by omega, l1, by omega, Int.toNat_of_nonneg (cn ..)⟩
  refine ⟨(k : Int), ⟨⟨p1, t1, n1, p2, t2, n2, a1, a2, a3, a4, a5, a6, a7, e⟩, fun p1 t1 n1 p2 t2 n2 h1 h2 h3 h4 h5 h6 h7 => ?_⟩⟩
  have := le (cpG o ls s p1 t1 n1 p2 t2 n2).toNat ⟨p1, t1, n1, p2, t2, n2, h1, h2, h3, h4, h5, h6, h7, Int.toNat_of_nonneg (cn ..)⟩
  have := cn p1 t1 n1 p2 t2 n2
  omega
def lsS (d : DT) : Nat → DT
  | 0 => d
  | k + 1 => lnS lw98 4 (lsS d k)
def lsL (d : DT) : Nat → List (List Gp)
  | 0 => []
  | k + 1 => lsL d k ++ [lnG lw98 4 (lsS d k)]
theorem ls_ok {d : DT} (hl : d.2.1.length ≤ 63) : ∀ k, (lsS d k).2.1.length ≤ 63 ∧ (lsL d k).length = k ∧ ∀ ts ∈ lsL d k, LnOk 50 ts
  | 0 => ⟨hl, rfl, fun p hp => absurd hp List.not_mem_nil⟩
  | k + 1 => by
    obtain ⟨h1, h2, h3⟩ := ls_ok hl k
    obtain ⟨a, b⟩ := ln_ok lw98_ok (mm := 4) (by decide) h1
    refine ⟨b, ?_, fun p hp => ?_⟩
    · show (_ ++ [_]).length = _
      rw [List.length_append, h2]
      rfl
    · rcases List.mem_append.mp hp with hp | hp
      · exact h3 p hp
      · rw [List.mem_singleton.mp hp]
        exact a
def ab1 (n : Int) : Int := if n < 0 then -n else n
def mab (p : Gp) : Int := if ab1 p.2 > ab1 p.1 then ab1 p.2 else ab1 p.1
section
variable {P : Program} {w : World} {K : PySem.W.Frag} {mg : Str → Option Value} {base : Heap}
theorem ok_law {f : Addr} {fd : FuncData} (F : Fun K "law" "law" s_law f fd) (T : Txt K mg) : FnOk P w K mg base CX0 8 f fd ["script"] (spLaw K) := by
  have GS := d_law_state (P := P) (w := w) (base := base) T
  have GD := d_law_draw (P := P) (w := w) (base := base) T
  have GKO := d_law_pickO (P := P) (w := w) (base := base) T
  have GL := d_law_line (P := P) (w := w) (base := base) T
  have GA := d_law_arrival (P := P) (w := w) (base := base) T
  have GAp := d_arrival (P := P) (w := w) (base := base) T
  have GH := d_shape (P := P) (w := w) (base := base) T
  have GCp := d_cost (P := P) (w := w) (base := base) T
  have GC := d_law_cost (P := P) (w := w) (base := base) T
  have GE := d_law_shapes (P := P) (w := w) (base := base) T
  have GF := d_find (P := P) (w := w) (base := base) T
  have GFl := d_law_found (P := P) (w := w) (base := base) T
  have GLe := d_law_least (P := P) (w := w) (base := base) T
  have GSe := d_separation (P := P) (w := w) (base := base) T
  refine law_ok F sc_law fun X hX N a ns hF hl => ?_
  obtain ⟨cdv, A, outer, sh, Hh, E, rfl, hr⟩ := hX
  have nd := sc_law.nd
  have hrm : ∀ k ≤ 7, Room k (A.deeper (envOfC "law" (defScope s_law) sh.heap.objs.size f cdv)) := fun k hk => hr.mono hk
  have hr1 := hrm 1 (by decide)
  have hr2 := hrm 2 (by decide)
  have hr3 := hrm 3 (by decide)
  have hr4 := hrm 4 (by decide)
  have hr5 := hrm 5 (by decide)
  have hr6 := hrm 6 (by decide)
  have hu := hu_of hr1
  refine sj_setN (Mc := []) (Mr := []) 1 nd GS hr1 (aj_cons (ej_name 0) aj_nil) rfl ⟨rfl, a, ns, rfl, hl⟩ fun i M' hB => ?_
  obtain ⟨a', ns', p, c, hsc, rfl, rfl, hl2⟩ := hB
  have hl0 : (ns'.map absI).length ≤ 63 := by rw [List.length_map]; exact hl2
  generalize ns'.map absI = cs0 at hl0 ⊢
  generalize seedOf ns' + 1 = s0
  rw [List.append_nil, show Stt p c cs0 s0 = SttD p c (0, cs0, s0) from rfl]
  have lA : ((0, cs0, s0) : DT).2.1.length ≤ 63 := hl0
  generalize ((0, cs0, s0) : DT) = dA at lA ⊢
  -- opening
  refine sj_setN (Mc := SttD p c dA) (Mr := []) 2 nd (d_law_opening98 (P := P) (w := w) (base := base) T (a := p) (c := c) (d0 := dA) lA) hr3 (aj_cons (ej_name 1) aj_nil) (List.append_nil _).symm ⟨rfl, rfl⟩ fun i M' hB => ?_
  obtain ⟨d2, o, rfl, O, lB, rfl⟩ := hB
  rw [List.append_nil]
  clear lA dA
  have o1 : 1 ≤ o.length := List.length_pos_iff.mpr O.ne
  have o64 := O.le
  -- scale
  have mne : o.map mab ≠ [] := fun e => O.ne (List.map_eq_nil_iff.mp e)
  obtain ⟨x1, x2⟩ := maxL_ok mne
  obtain ⟨sc0, sc1⟩ : 0 ≤ maxL (o.map mab) ∧ maxL (o.map mab) ≤ 3000000000 := by
    obtain ⟨q, hq, e⟩ := List.mem_map.mp x1
    rw [← e]
    have qb := O.bd q hq
    have b1 := qb.1
    have b2 := qb.2
    unfold mab ab1
    constructor
    · split <;> split <;> omega
    · split <;> split <;> omega
  refine sj_set 3 (i := dI (maxL (o.map mab))) (M1 := SttD p c d2) nd (ej_maxL (ns := o.map mab) rfl T.b_max (ej_el (ds := (o.map mab).map .int) (M1 := SttD p c d2) (el_compW2 17 18 (ds := psD o) (M1 := SttD p c d2) (fun j => ((o.take j).map mab).map dI) (fun _ => SttD p c d2) rfl nd (by decide) (iw_tup (ej_name 2)) (fun _ _ => trivial) rfl rfl (by rw [psD_len]; omega) (fun j d hd => by
    obtain ⟨q, hq, rfl⟩ := psD_inv hd
    exact ⟨.int q.1, .int q.2, dI (mab q), rfl, by rw [take_snoc hq, List.map_append, List.map_append]; rfl, by rw [List.length_map, List.length_map]; exact List.length_take_le .., fun N' s' Hh C cl fp => ej_max2 (n := ab1 q.1) (m := ab1 q.2) rfl T.b_max (ej_abs (n := q.1) T.b_abs (ej_name 17)) (ej_abs (n := q.2) T.b_abs (ej_name 18))⟩)) (by rw [psD_len, List.take_length, List.map_map (f := PyData.int)]; rfl)) x1 x2) ?_
  generalize maxL (o.map mab) = sc at sc0 sc1 ⊢
  clear x1 x2 mne
  -- sizes
  refine sj_asgN (Mc := SttD p c d2) (Mr := []) (d_law_sizes (P := P) (w := w) (base := base) T (a := p) (c := c) (d0 := d2) lB) hr3 (aj_cons (ej_name 1) aj_nil) (List.append_nil _).symm ⟨rfl, rfl⟩ fun i M' hB => ?_
  obtain ⟨dD, cnt, s, rfl, c1, c8, s40, lD, rfl⟩ := hB
  refine ⟨_, gj_tup (ds := [.int (cnt : Int), .int (s : Int)]) rfl (gs_cons 4 nd (gs_cons 5 nd gs_nil)), ?_⟩
  rw [List.append_nil]
  clear lB d2
  -- lines
  have lk := fun j => ls_ok lD j
  refine sj_setcompR 6 7 (z := (cnt : Int)) (M1 := SttD p c dD) (fun j => (lnsD (lsL dD j)).map It.d) (fun j => SttD p c (lsS dD j)) rfl T.b_range nd (ej_name 4) rfl rfl (by omega) (fun j hj => ⟨.d (lnD (lnG lw98 4 (lsS dD j))), by show (lnsD (lsL dD j ++ [_])).map It.d = _; unfold lnsD; rw [List.map_append, List.map_append]; rfl, by rw [List.length_map, lnsD_len, (lk j).2.1]; exact Nat.le_refl _, fun N' s H C cl fp => ej_m (ej_call GL hr3 (Mc := SttD p c (lsS dD j)) (Mc' := SttD p c (lsS dD (j + 1))) (Mr := []) (aj_cons (ej_name 1) aj_nil) (List.append_nil _).symm ⟨p, c, lsS dD j, rfl, rfl, (lk j).1, rfl, rfl⟩ rfl) (List.append_nil _)⟩) fun q hq => ?_
  rw [Int.toNat_natCast]
  obtain ⟨k1, k2, k3⟩ := lk cnt
  clear lk
  generalize lsS dD cnt = dE at k1 ⊢
  generalize lsL dD cnt = ls0 at k2 k3 ⊢
  clear lD dD
  obtain ⟨x, ex, wx, lF⟩ := trn_nat (n := 3) (by decide) dE k1
  obtain ⟨dF, hF'⟩ : ∃ d, trn 3 dE = d := ⟨_, rfl⟩
  rw [hF'] at ex lF
  refine sj_forR (m := (x : Int)) (M1 := SttD p c dF ++ [(q, (lnsD ls0).map It.d)]) rfl T.b_range (ej_m (ej_is (ej_drawM (d := dE) (many := 3) (Mr := [(q, (lnsD ls0).map It.d)]) GD hr1 (ej_name 1) ej_int (by decide) (by decide) k1) (by rw [hF', ex])) (by rw [hF'])) (by omega) (fun j ρ M => ∃ y7 d ls, ρ = [some (scr K a ns), some (.v (.ref p)), some (.d (opD o)), some (dI sc), some (dI (cnt : Int)), some (dI (s : Int)), some (.v (.ref q)), y7, none, none, none, none, none, none, none, none, none, none, none] ∧ M = SttD p c d ++ [(q, (lnsD ls).map It.d)] ∧ d.2.1.length ≤ 63 ∧ 1 ≤ ls.length ∧ ls.length ≤ 8 ∧ ∀ ts ∈ ls, LnOk 50 ts) ⟨none, dF, ls0, rfl, rfl, lF, by omega, by omega, k3⟩ (fun j ρ M hj hI => ?_) fun ρ M hI => ?_
  · obtain ⟨y7, d, ls, rfl, rfl, ld, l1, l8, k3⟩ := hI
    refine ⟨_, gj_name 7 nd, ?_⟩
    refine sj_nd fun ndm => sj_if (t := decide ((ls.length : Int) < 8)) (M1 := SttD p c d ++ [(q, (lnsD ls).map It.d)]) (tj_lt (n := (ls.length : Int)) (m := 8) (ej_is (ej_lenO (o := q) (is := (lnsD ls).map It.d) T.b_len (ej_name 6) (by simp)) (by rw [List.length_map, lnsD_len])) ej_int) (fun h => ?_) (fun h => sj_nil (sj_nil ⟨_, d, ls, rfl, rfl, ld, l1, l8, k3⟩))
    have h := of_decide_eq_true h
    obtain ⟨n, en, wn, l2⟩ := trn_nat (n := ((ls.length + 1 : Nat) : Int)) (by omega) d ld
    obtain ⟨d2, h2⟩ : ∃ d2, trn ((ls.length + 1 : Nat) : Int) d = d2 := ⟨_, rfl⟩
    rw [h2] at en l2
    have ne0 : lnsD ls ≠ [] := fun e => by
      have := congrArg List.length e
      rw [lnsD_len, List.length_nil] at this
      omega
    obtain ⟨ts, hts, ets⟩ := List.mem_map.mp (pkT_mem (d := d2) ne0)
    have ets2 : lnD ts = pkT d2 (lnsD ls) := ets
    refine sj_insert (p := q) (is := (lnsD ls).map It.d) (is0 := (lnsD ls).map It.d) (n := n) (i := .d (pkT d2 (lnsD ls))) (M1 := SttD p c d2 ++ [(q, (lnsD ls).map It.d)]) (M2 := SttD p c (trn ((lnsD ls).length : Int) d2) ++ [(q, (lnsD ls).map It.d)]) (ej_name 6) (by simp) (ej_m (ej_is (ej_drawM (d := d) (many := ((ls.length + 1 : Nat) : Int)) (Mr := [(q, (lnsD ls).map It.d)]) GD hr1 (ej_name 1) (ej_is (ej_add (n := (ls.length : Int)) (m := 1) (ej_is (ej_lenO (o := q) (is := (lnsD ls).map It.d) T.b_len (ej_name 6) (by simp)) (by rw [List.length_map, lnsD_len])) ej_int) (by rw [Int.natCast_add]; rfl)) (by omega) (by omega) ld) (by rw [h2, en])) (by rw [h2])) (ej_m (ej_call GKO hr2 (Mc := SttD p c d2 ++ [(q, (lnsD ls).map It.d)]) (Mc' := SttD p c (trn ((lnsD ls).length : Int) d2) ++ [(q, (lnsD ls).map It.d)]) (Mr := []) (aj_cons (ej_name 1) (aj_cons (ej_name 6) aj_nil)) (List.append_nil _).symm ⟨p, c, q, d2, lnsD ls, rfl, rfl, ne0, by rw [lnsD_len]; omega, l2, rfl, rfl⟩ rfl) (List.append_nil _)) (by simp) (by rw [List.length_map, lnsD_len]; omega) (by omega) ?_
    have ndm2 : ((SttD p c (trn ((lnsD ls).length : Int) d2) ++ [(q, (lnsD ls).map It.d)]).map Prod.fst).Nodup := ndm
    rw [put_end ndm2, ← ets2]
    have e4 : ((lnsD ls).map It.d).take n ++ [.d (lnD ts)] ++ ((lnsD ls).map It.d).drop n = (lnsD (ls.take n ++ [ts] ++ ls.drop n)).map It.d := by
      unfold lnsD
      simp only [List.map_append, List.map_take, List.map_drop]
      rfl
    rw [e4]
    refine sj_nil (sj_nil ⟨_, _, ls.take n ++ [ts] ++ ls.drop n, rfl, rfl, trn_len _ d2 l2, by rw [List.length_append, List.length_append, List.length_singleton]; omega, by rw [List.length_append, List.length_append, List.length_singleton, List.length_take, List.length_drop]; omega, fun t' ht' => ?_⟩)
    rcases List.mem_append.mp ht' with h | h
    · rcases List.mem_append.mp h with h | h
      · exact k3 t' (List.mem_of_mem_take h)
      · rw [List.mem_singleton.mp h]
        exact k3 ts hts
    · exact k3 t' (List.mem_of_mem_drop h)
  clear lF hF' ex dF k1 dE k3 k2 ls0
  obtain ⟨y7, dF, ls, rfl, rfl, lF, L1, l8, k3⟩ := hI
  have lsn : ls ≠ [] := fun e => by rw [e] at L1; cases L1
  refine sj_frzT (Mb := SttD p c dF) 6 (ds := lnsD ls) rfl hq ?_
  refine sj_set 8 (i := tdE (shT o ls)) (M1 := SttD p c dF) nd (ej_callP GE hr3 (aj_cons (ej_name (i := .d (opD o)) 2) (aj_cons (ej_name (i := .d (.list (lnsD ls))) 6) aj_nil)) ⟨rfl, rfl, 3000000000, 50, o, ls, rfl, O, k3, by decide, by omega, rfl⟩) ?_
  refine sj_own 9 (is := (lnsD ls).map It.d) (M1 := SttD p c dF) nd (el_listL (ds := lnsD ls) T.b_list (ej_name 6)) fun q2 hq2 => ?_
  refine sj_frzT (Mb := SttD p c dF) 9 (ds := lnsD ls) rfl hq2 ?_
  obtain ⟨Lv, hLv, eLt, eLf⟩ : ∃ Lv, LnsD Lv ls ∧ (decide ((trn 3 dF).1 = 0) = true → Lv = .tuple (lnsD ls)) ∧ (decide ((trn 3 dF).1 = 0) = false → Lv = .list (lnsD ls)) := by
    by_cases h : (trn 3 dF).1 = 0
    · exact ⟨_, .inr rfl, (fun _ => rfl), (fun k => by rw [decide_eq_true h] at k; cases k)⟩
    · exact ⟨_, .inl rfl, (fun k => by rw [decide_eq_false h] at k; cases k), (fun _ => rfl)⟩
  have lG := trn_len 3 dF lF
  refine sj_set 10 (i := .d Lv) (M1 := SttD p c (trn 3 dF)) nd (ej_if (t := decide ((trn 3 dF).1 = 0)) (M1 := SttD p c (trn 3 dF)) (tj_eqI (n := (trn 3 dF).1) (m := 0) (ej_drawD GD hr1 (d := dF) (ej_name 1) ej_int (by decide) (by decide) lF) ej_int) (fun h => by rw [eLt h]; exact ej_tupleD T.b_tuple (ej_name 6)) (fun h => by rw [eLf h]; exact ej_name 6)) ?_
  clear eLt eLf
  generalize trn 3 dF = dG at lG ⊢
  obtain ⟨m, least⟩ := least_ex (o := o) (s := s) lsn
  obtain ⟨sm1, sm2⟩ := least_sep O.ne k3 least
  refine sj_if (t := false) (M1 := SttD p c dG) (tj_is (tj_w (wj_and (t := decide ((ls.length : Int) * ((s : Int) + 1) < 9)) (u := false) (tj_lt (n := (ls.length : Int) * ((s : Int) + 1)) (m := 9) (ej_mul (n := (ls.length : Int)) (m := (s : Int) + 1) (ej_is (ej_lenL (ds := lnsD ls) T.b_len (ej_name 6)) (by rw [lnsD_len])) (ej_add (n := (s : Int)) (m := 1) (ej_name 5) ej_int) (.inl ⟨by omega, by omega⟩)) ej_int) (fun _ => wj_and1 (tj_is (tj_neI (n := m) (m := m) (ej_callP GSe hr6 (aj_cons (ej_name (i := .d (opD o)) 2) (aj_cons (ej_name (i := .d Lv) 10) (aj_cons (ej_name (i := dI (s : Int)) 5) aj_nil))) ⟨rfl, rfl, 3000000000, 50, o, ls, s, m, Lv, rfl, hLv, O, k3, by decide, by decide, by decide, by decide, by omega, by omega, sm1, sm2, rfl⟩) (ej_callP GLe hr4 (aj_cons (ej_name (i := .d (opD o)) 2) (aj_cons (ej_name (i := .d (.list (lnsD ls))) 9) (aj_cons (ej_name (i := dI (s : Int)) 5) aj_nil))) ⟨rfl, rfl, 3000000000, 50, o, ls, s, m, rfl, O, k3, by decide, by decide, by decide, by decide, by omega, by omega, least, rfl⟩)) (by rw [decide_eq_true rfl]; rfl))))) (by rw [Bool.and_false])) (fun h => nomatch h) fun _ => sj_nil ?_
  clear sm1 sm2 least m lF dF
  obtain ⟨three, h3⟩ : ∃ c : Nat, c = 3 := ⟨_, rfl⟩
  refine sj_forR (m := (three : Int)) (M1 := SttD p c dG) rfl T.b_range (ej_is ej_int (by rw [h3]; rfl)) (by omega) (fun j ρ M => ∃ y11 y12 y13 y14 y15 y16 d, ρ = [some (scr K a ns), some (.v (.ref p)), some (.d (opD o)), some (dI sc), some (dI (cnt : Int)), some (dI (s : Int)), some (.d (.list (lnsD ls))), y7, some (tdE (shT o ls)), some (.d (.list (lnsD ls))), some (.d Lv), y11, y12, y13, y14, y15, y16, none, none] ∧ M = SttD p c d ∧ d.2.1.length ≤ 63) ⟨none, none, none, none, none, none, dG, rfl, rfl, lG⟩ (fun tn ρ M htn hI => ?_) fun ρ M hI => ?_
  rotate_left
  · obtain ⟨y11, y12, y13, y14, y15, y16, d, rfl, rfl, _⟩ := hI
    exact sj_ret (ej_is (ej_eqD hr.units (d := .list (lnsD ls)) (d' := .list (lnsD ls)) (ej_name 6) (ej_name 9) (.d _) (.d _) ((ln_pn ls).plain) ((ln_pn ls).plain)) (by rw [(ln_pn ls).refl])) rfl
  clear lG dG
  obtain ⟨y11, y12, y13, y14, y15, y16, dG, rfl, rfl, lG⟩ := hI
  refine ⟨_, gj_name 11 nd, ?_⟩
  -- true
  obtain ⟨pl, e1, w1, l1⟩ := trn_nat (n := ((s + 1 : Nat) : Int)) (by omega) dG lG
  obtain ⟨t, e2, w2, l2⟩ := trn_nat (n := 4) (by decide) _ l1
  obtain ⟨n, e3, w3, l3⟩ := trn_nat (n := (ls.length : Int)) (by omega) _ l2
  have hpl : pl ≤ s := by omega
  have ht : t ≤ 3 := by omega
  have hn : n < ls.length := by omega
  obtain ⟨ts, hts⟩ : ∃ ts, ls[n]? = some ts := ⟨_, List.getElem?_eq_getElem hn⟩
  have LO := k3 ts (List.mem_of_getElem? hts)
  refine sj_set 12 (i := .d (gsD pl t n)) (M1 := SttD p c (trn (ls.length : Int) (trn 4 (trn ((s + 1 : Nat) : Int) dG)))) nd (ej_tup (is := [dI (pl : Int), dI (t : Int), dI (n : Int)]) (aj_cons (M1 := SttD p c (trn ((s + 1 : Nat) : Int) dG)) (ej_is (ej_drawD GD hr1 (d := dG) (ej_name 1) (ej_is (ej_add (n := (s : Int)) (m := 1) (ej_name 5) ej_int) (by rw [Int.natCast_add]; rfl)) (by omega) (by omega) lG) (by rw [e1])) (aj_cons (M1 := SttD p c (trn 4 (trn ((s + 1 : Nat) : Int) dG))) (ej_is (ej_drawD GD hr1 (d := trn ((s + 1 : Nat) : Int) dG) (ej_name 1) ej_int (by decide) (by decide) l1) (by rw [e2])) (aj_cons (M1 := SttD p c (trn (ls.length : Int) (trn 4 (trn ((s + 1 : Nat) : Int) dG)))) (ej_is (ej_drawD GD hr1 (d := trn 4 (trn ((s + 1 : Nat) : Int) dG)) (ej_name 1) (ej_is (ej_lenL (ds := lnsD ls) T.b_len (ej_name 9)) (by rw [lnsD_len])) (by omega) (by omega) l2) (by rw [e3])) aj_nil)))) ?_
  generalize trn (ls.length : Int) (trn 4 (trn ((s + 1 : Nat) : Int) dG)) = dH at l3 ⊢
  clear e3 e2 e1 l2 l1 lG w1 w2 w3 dG
  have i0 : ∀ p t n : Nat, atI [PyData.int (p : Int), .int (t : Int), .int (n : Int)] 0 = some (.int (p : Int)) := fun p t n => atI_nat (j := 0) rfl
  have i1 : ∀ p t n : Nat, atI [PyData.int (p : Int), .int (t : Int), .int (n : Int)] 1 = some (.int (t : Int)) := fun p t n => atI_nat (j := 1) rfl
  have i2 : ∀ p t n : Nat, atI [PyData.int (p : Int), .int (t : Int), .int (n : Int)] 2 = some (.int (n : Int)) := fun p t n => atI_nat (j := 2) rfl
  have ctg : ∀ p t n : Nat, cutD [PyData.int (p : Int), .int (t : Int), .int (n : Int)] (some 1) none = ([.inl (t : Int), .inl (n : Int)] : List Key).map kD := fun p t n => cut_from (ds := [PyData.int (p : Int), .int (t : Int), .int (n : Int)]) (n := 1) (by show 1 ≤ 3; decide)
  refine sj_set 13 (i := .d (.list (psD (arrG o ts pl t s)))) (M1 := SttD p c dH) nd (ej_callP GA hr3 (aj_cons (ej_name (i := .d (opD o)) 2) (aj_cons (ej_ixL (ds := lnsD ls) (ej_name 9) (ej_ixT (ds := [PyData.int (pl : Int), .int (t : Int), .int (n : Int)]) (ej_name 12) ej_int (i2 ..)) (lns_at hts)) (aj_cons (i := dI (t : Int)) (ej_ixT (ds := [PyData.int (pl : Int), .int (t : Int), .int (n : Int)]) (ej_name 12) ej_int (i1 ..)) (aj_cons (i := dI (pl : Int)) (ej_ixT (ds := [PyData.int (pl : Int), .int (t : Int), .int (n : Int)]) (ej_name 12) ej_int (i0 ..)) (aj_cons (ej_name (i := dI (s : Int)) 5) aj_nil))))) ⟨rfl, rfl, 3000000000, 50, o, ts, t, pl, s, rfl, ht, O, LO, by decide, hpl, by omega, rfl⟩) ?_
  refine sj_if (t := false) (M1 := SttD p c dH) (tj_w (wj_orF (M1 := SttD p c dH) (tj_is (tj_neD hr.units (d := .list (psD (arrG o ts pl t s))) (d' := .list (psD (arrG o ts pl t s))) (ej_callP GAp hr5 (aj_cons (ej_name (i := .d (opD o)) 2) (aj_cons (ej_name (i := .d Lv) 10) (aj_cons (ej_name (i := dI (s : Int)) 5) (aj_cons (ej_name (i := .d (gsD pl t n)) 12) aj_nil)))) ⟨rfl, rfl, 50, o, ts, Lv, ls, s, pl, t, n, rfl, hLv, hts, ht, O.ne, O.le, LO, by decide, by omega, by omega, rfl⟩) (ej_name 13) (.d _) (.d _) (ps_pn _).plain (ps_pn _).plain) (by rw [(ps_pn _).refl]; rfl)) (wj_or1 (tj_is (tj_neD hr.units (d := .list (psD (shpG o ts t))) (d' := .list (psD (shpG o ts t))) (ej_callP GH hr5 (aj_cons (ej_name (i := .d (opD o)) 2) (aj_cons (ej_ixL (ds := lnsD ls) (ej_name 9) (ej_ixT (ds := [PyData.int (pl : Int), .int (t : Int), .int (n : Int)]) (ej_name 12) ej_int (i2 ..)) (lns_at hts)) (aj_cons (i := dI (t : Int)) (ej_ixT (ds := [PyData.int (pl : Int), .int (t : Int), .int (n : Int)]) (ej_name 12) ej_int (i1 ..)) aj_nil))) ⟨rfl, rfl, 50, o, ts, t, rfl, ht, O.ne, O.le, LO, by decide, rfl⟩) (ej_tget (es := shT o ls) (k := [.inl (t : Int), .inl (n : Int)]) hu (shT_val (by omega) hts) (ej_name 8) (ej_is (ej_slTfrom (ds := [PyData.int (pl : Int), .int (t : Int), .int (n : Int)]) (ej_name 12) ej_int) (by rw [ctg]; rfl))) (.d _) (.d _) (ps_pn _).plain (ps_pn _).plain) (by rw [(ps_pn _).refl]; rfl))))) (fun h => nomatch h) fun _ => sj_nil ?_
  have al := arr_len O.ne LO.ne pl t s
  have ab := arr_bd (A := 3000000000) (B := 50) (by decide) (by decide) O LO pl t s
  generalize arrG o ts pl t s = cl at al ab ⊢
  -- samples
  refine sj_setN (Mc := SttD p c dH) (Mr := []) 14 nd (d_law_samples (P := P) (w := w) (base := base) T (a := p) (c := c) (d0 := dH) (cl := cl) (sc := sc) l3 (by omega) (fun z hz => (ab z hz).mono (by decide)) sc0 sc1) hr3 (aj_cons (ej_name 1) (aj_cons (ej_name (i := .d (.list (psD cl))) 13) (aj_cons (ej_name (i := dI sc) 3) aj_nil))) (List.append_nil _).symm ⟨rfl, rfl⟩ fun i M' hB => ?_
  obtain ⟨dI_, us, rfl, lus1, lus2, bus, l4, rfl⟩ := hB
  rw [List.append_nil]
  refine sj_own 15 (is := (osD us).map It.d) (M1 := SttD p c dI_) nd (el_listL (ds := osD us) T.b_list (ej_name 14)) fun q3 hq3 => ?_
  refine sj_frzT (Mb := SttD p c dI_) 15 (ds := osD us) rfl hq3 ?_
  have hsm : ∀ ts ∈ ls, ∀ t, ∀ q ∈ shpG o ts t, ∀ z, some z ∈ us → sm (gsub q z) := fun ts hts t q hq z hz => (bd_sub (tol_bd (A := 3000000000) (B := 50) (by decide) (by decide) O (k3 ts hts) t q (List.mem_of_mem_take hq)) (bus z hz)).sm (by decide)
  obtain ⟨p3, t3, n3, best⟩ := best_ex (o := o) us s lsn
  refine sj_if (t := false) (M1 := SttD p c dI_) (tj_is (tj_neD hr.units (d := gsD p3 t3 n3) (d' := gsD p3 t3 n3) (ej_callP GF hr6 (aj_cons (ej_name (i := .d (opD o)) 2) (aj_cons (ej_name (i := .d Lv) 10) (aj_cons (ej_name (i := dI (s : Int)) 5) (aj_cons (ej_name (i := .d (.list (osD us))) 15) aj_nil)))) ⟨rfl, rfl, 50, o, Lv, ls, us, s, p3, t3, n3, rfl, hLv, O.ne, O.le, k3, by decide, by omega, by omega, by omega, hsm, best, rfl⟩) (ej_callP GFl hr2 (aj_cons (ej_name (i := tdE (shT o ls)) 8) (aj_cons (ej_name (i := .d (.list (lnsD ls))) 9) (aj_cons (ej_name (i := dI (s : Int)) 5) (aj_cons (ej_name (i := .d (.list (osD us))) 14) aj_nil)))) ⟨rfl, rfl, o, ls, us, s, p3, t3, n3, rfl, O, k3, by omega, by omega, by omega, hsm, best, rfl⟩) (.d _) (.d _) (gs_plain _ _ _) (gs_plain _ _ _)) (by rw [eqv_gs, decide_eq_true ⟨rfl, rfl, rfl⟩]; rfl)) (fun h => nomatch h) fun _ => sj_nil ?_
  -- other
  obtain ⟨p2, e1, w1, l1⟩ := trn_nat (n := ((s + 1 : Nat) : Int)) (by omega) dI_ l4
  obtain ⟨t2, e2, w2, l2⟩ := trn_nat (n := 4) (by decide) _ l1
  obtain ⟨n2, e3, w3, l5⟩ := trn_nat (n := (ls.length : Int)) (by omega) _ l2
  have hp2 : p2 ≤ s := by omega
  have ht2 : t2 ≤ 3 := by omega
  have hn2 : n2 < ls.length := by omega
  obtain ⟨ts2, hts2⟩ : ∃ ts, ls[n2]? = some ts := ⟨_, List.getElem?_eq_getElem hn2⟩
  have LO2 := k3 ts2 (List.mem_of_getElem? hts2)
  have sl2 := shp_len O.ne LO2.ne t2
  refine sj_set 16 (i := .d (gsD p2 t2 n2)) (M1 := SttD p c (trn (ls.length : Int) (trn 4 (trn ((s + 1 : Nat) : Int) dI_)))) nd (ej_tup (is := [dI (p2 : Int), dI (t2 : Int), dI (n2 : Int)]) (aj_cons (M1 := SttD p c (trn ((s + 1 : Nat) : Int) dI_)) (ej_is (ej_drawD GD hr1 (d := dI_) (ej_name 1) (ej_is (ej_add (n := (s : Int)) (m := 1) (ej_name 5) ej_int) (by rw [Int.natCast_add]; rfl)) (by omega) (by omega) l4) (by rw [e1])) (aj_cons (M1 := SttD p c (trn 4 (trn ((s + 1 : Nat) : Int) dI_))) (ej_is (ej_drawD GD hr1 (d := trn ((s + 1 : Nat) : Int) dI_) (ej_name 1) ej_int (by decide) (by decide) l1) (by rw [e2])) (aj_cons (M1 := SttD p c (trn (ls.length : Int) (trn 4 (trn ((s + 1 : Nat) : Int) dI_)))) (ej_is (ej_drawD GD hr1 (d := trn 4 (trn ((s + 1 : Nat) : Int) dI_)) (ej_name 1) (ej_is (ej_lenL (ds := lnsD ls) T.b_len (ej_name 9)) (by rw [lnsD_len])) (by omega) (by omega) l2) (by rw [e3])) aj_nil)))) ?_
  generalize trn (ls.length : Int) (trn 4 (trn ((s + 1 : Nat) : Int) dI_)) = dJ at l5 ⊢
  clear e3 e2 e1 l2 l1 w1 w2 w3
  refine sj_if (t := false) (M1 := SttD p c dJ) (tj_w (wj_orF (M1 := SttD p c dJ) (tj_is (tj_neI (n := (csL (shpG o ts2 t2) (us.drop p2)).sum) (m := (csL (shpG o ts2 t2) (us.drop p2)).sum) (ej_callP GCp hr6 (aj_cons (ej_name (i := .d (opD o)) 2) (aj_cons (ej_name (i := .d Lv) 10) (aj_cons (ej_name (i := .d (gsD p2 t2 n2)) 16) (aj_cons (ej_name (i := .d (.list (osD us))) 15) aj_nil)))) ⟨rfl, rfl, 50, o, ts2, Lv, ls, p2, t2, n2, us, rfl, hLv, hts2, ht2, O.ne, O.le, LO2, by decide, by omega, hsm ts2 (List.mem_of_getElem? hts2) t2, rfl⟩) (ej_callP GC hr1 (aj_cons (i := .d (.list (psD (shpG o ts2 t2)))) (ej_tget (es := shT o ls) (k := [.inl (t2 : Int), .inl (n2 : Int)]) hu (shT_val (by omega) hts2) (ej_name 8) (ej_is (ej_slTfrom (ds := [PyData.int (p2 : Int), .int (t2 : Int), .int (n2 : Int)]) (ej_name 16) ej_int) (by rw [ctg]; rfl))) (aj_cons (ej_name (i := .d (.list (osD us))) 14) (aj_cons (i := dI (p2 : Int)) (ej_ixT (ds := [PyData.int (p2 : Int), .int (t2 : Int), .int (n2 : Int)]) (ej_name 16) ej_int (i0 ..)) aj_nil))) ⟨rfl, rfl, shpG o ts2 t2, p2, us, rfl, by omega, by omega, hsm ts2 (List.mem_of_getElem? hts2) t2, rfl⟩)) (by rw [decide_eq_true rfl]; rfl)) (wj_or1 (tj_is (tj_neD hr.units (d := .list (osD us)) (d' := .list (osD us)) (ej_name 15) (ej_name 14) (.d _) (.d _) (os_pn us).plain (os_pn us).plain) (by rw [(os_pn us).refl]; rfl))))) (fun h => nomatch h) fun _ => sj_nil (sj_nil ⟨_, _, _, _, _, _, dJ, rfl, rfl, l5⟩)
end

theorem all_mk {l : PySem.W.OpenLaw} {w : World} {K : PySem.W.Frag} {h : Heap} {mg : Str → Option Value} {fa : Addr} (X : K.In h) (G : h.Ns mainGlobals mg) (hfa : mg "law" = some (.ref fa))
    {f0 : Addr} {od0 an0 : Option Addr} {sl0 : Array (Option Value)} {oc0 kV0 dc0 pm0 cd0 ct0 : Value}
    (a0 : PySem.W.nsIn K mainGlobals "plus" = some (some (.ref f0))) (l0 : K.lookup f0 = some ⟨oc0, od0, .func (PySem.W.fnOf "plus" "plus" (defArgs s_plus) (defBody s_plus) (defScope s_plus) .none kV0 dc0 pm0 an0 cd0 ct0), sl0⟩) (c0 : PySem.W.codeIn K cd0 "plus" = true) (k0 : PySem.W.keepIn K (.ref f0) = true)
    {f1 : Addr} {od1 an1 : Option Addr} {sl1 : Array (Option Value)} {oc1 kV1 dc1 pm1 cd1 ct1 : Value}
    (a1 : PySem.W.nsIn K mainGlobals "minus" = some (some (.ref f1))) (l1 : K.lookup f1 = some ⟨oc1, od1, .func (PySem.W.fnOf "minus" "minus" (defArgs s_minus) (defBody s_minus) (defScope s_minus) .none kV1 dc1 pm1 an1 cd1 ct1), sl1⟩) (c1 : PySem.W.codeIn K cd1 "minus" = true) (k1 : PySem.W.keepIn K (.ref f1) = true)
    {f2 : Addr} {od2 an2 : Option Addr} {sl2 : Array (Option Value)} {oc2 kV2 dc2 pm2 cd2 ct2 : Value}
    (a2 : PySem.W.nsIn K mainGlobals "times" = some (some (.ref f2))) (l2 : K.lookup f2 = some ⟨oc2, od2, .func (PySem.W.fnOf "times" "times" (defArgs s_times) (defBody s_times) (defScope s_times) .none kV2 dc2 pm2 an2 cd2 ct2), sl2⟩) (c2 : PySem.W.codeIn K cd2 "times" = true) (k2 : PySem.W.keepIn K (.ref f2) = true)
    {f3 : Addr} {od3 an3 : Option Addr} {sl3 : Array (Option Value)} {oc3 kV3 dc3 pm3 cd3 ct3 : Value}
    (a3 : PySem.W.nsIn K mainGlobals "size" = some (some (.ref f3))) (l3 : K.lookup f3 = some ⟨oc3, od3, .func (PySem.W.fnOf "size" "size" (defArgs s_size) (defBody s_size) (defScope s_size) .none kV3 dc3 pm3 an3 cd3 ct3), sl3⟩) (c3 : PySem.W.codeIn K cd3 "size" = true) (k3 : PySem.W.keepIn K (.ref f3) = true)
    {f4 : Addr} {od4 an4 : Option Addr} {sl4 : Array (Option Value)} {oc4 kV4 dc4 pm4 cd4 ct4 : Value}
    (a4 : PySem.W.nsIn K mainGlobals "total" = some (some (.ref f4))) (l4 : K.lookup f4 = some ⟨oc4, od4, .func (PySem.W.fnOf "total" "total" (defArgs s_total) (defBody s_total) (defScope s_total) .none kV4 dc4 pm4 an4 cd4 ct4), sl4⟩) (c4 : PySem.W.codeIn K cd4 "total" = true) (k4 : PySem.W.keepIn K (.ref f4) = true)
    {f5 : Addr} {od5 an5 : Option Addr} {sl5 : Array (Option Value)} {oc5 kV5 dc5 pm5 cd5 ct5 : Value}
    (a5 : PySem.W.nsIn K mainGlobals "smeared" = some (some (.ref f5))) (l5 : K.lookup f5 = some ⟨oc5, od5, .func (PySem.W.fnOf "smeared" "smeared" (defArgs s_smeared) (defBody s_smeared) (defScope s_smeared) .none kV5 dc5 pm5 an5 cd5 ct5), sl5⟩) (c5 : PySem.W.codeIn K cd5 "smeared" = true) (k5 : PySem.W.keepIn K (.ref f5) = true)
    {f6 : Addr} {od6 an6 : Option Addr} {sl6 : Array (Option Value)} {oc6 kV6 dc6 pm6 cd6 ct6 : Value}
    (a6 : PySem.W.nsIn K mainGlobals "sent" = some (some (.ref f6))) (l6 : K.lookup f6 = some ⟨oc6, od6, .func (PySem.W.fnOf "sent" "sent" (defArgs s_sent) (defBody s_sent) (defScope s_sent) .none kV6 dc6 pm6 an6 cd6 ct6), sl6⟩) (c6 : PySem.W.codeIn K cd6 "sent" = true) (k6 : PySem.W.keepIn K (.ref f6) = true)
    {f7 : Addr} {od7 an7 : Option Addr} {sl7 : Array (Option Value)} {oc7 kV7 dc7 pm7 cd7 ct7 : Value}
    (a7 : PySem.W.nsIn K mainGlobals "turned" = some (some (.ref f7))) (l7 : K.lookup f7 = some ⟨oc7, od7, .func (PySem.W.fnOf "turned" "turned" (defArgs s_turned) (defBody s_turned) (defScope s_turned) .none kV7 dc7 pm7 an7 cd7 ct7), sl7⟩) (c7 : PySem.W.codeIn K cd7 "turned" = true) (k7 : PySem.W.keepIn K (.ref f7) = true)
    {f8 : Addr} {od8 an8 : Option Addr} {sl8 : Array (Option Value)} {oc8 kV8 dc8 pm8 cd8 ct8 : Value}
    (a8 : PySem.W.nsIn K mainGlobals "told_by" = some (some (.ref f8))) (l8 : K.lookup f8 = some ⟨oc8, od8, .func (PySem.W.fnOf "told_by" "told_by" (defArgs s_told_by) (defBody s_told_by) (defScope s_told_by) .none kV8 dc8 pm8 an8 cd8 ct8), sl8⟩) (c8 : PySem.W.codeIn K cd8 "told_by" = true) (k8 : PySem.W.keepIn K (.ref f8) = true)
    {f9 : Addr} {od9 an9 : Option Addr} {sl9 : Array (Option Value)} {oc9 kV9 dc9 pm9 cd9 ct9 : Value}
    (a9 : PySem.W.nsIn K mainGlobals "shape" = some (some (.ref f9))) (l9 : K.lookup f9 = some ⟨oc9, od9, .func (PySem.W.fnOf "shape" "shape" (defArgs s_shape) (defBody s_shape) (defScope s_shape) .none kV9 dc9 pm9 an9 cd9 ct9), sl9⟩) (c9 : PySem.W.codeIn K cd9 "shape" = true) (k9 : PySem.W.keepIn K (.ref f9) = true)
    {f10 : Addr} {od10 an10 : Option Addr} {sl10 : Array (Option Value)} {oc10 kV10 dc10 pm10 cd10 ct10 : Value}
    (a10 : PySem.W.nsIn K mainGlobals "arrival" = some (some (.ref f10))) (l10 : K.lookup f10 = some ⟨oc10, od10, .func (PySem.W.fnOf "arrival" "arrival" (defArgs s_arrival) (defBody s_arrival) (defScope s_arrival) .none kV10 dc10 pm10 an10 cd10 ct10), sl10⟩) (c10 : PySem.W.codeIn K cd10 "arrival" = true) (k10 : PySem.W.keepIn K (.ref f10) = true)
    {f11 : Addr} {od11 an11 : Option Addr} {sl11 : Array (Option Value)} {oc11 kV11 dc11 pm11 cd11 ct11 : Value}
    (a11 : PySem.W.nsIn K mainGlobals "cost_at" = some (some (.ref f11))) (l11 : K.lookup f11 = some ⟨oc11, od11, .func (PySem.W.fnOf "cost_at" "cost_at" (defArgs s_cost_at) (defBody s_cost_at) (defScope s_cost_at) .none kV11 dc11 pm11 an11 cd11 ct11), sl11⟩) (c11 : PySem.W.codeIn K cd11 "cost_at" = true) (k11 : PySem.W.keepIn K (.ref f11) = true)
    {f12 : Addr} {od12 an12 : Option Addr} {sl12 : Array (Option Value)} {oc12 kV12 dc12 pm12 cd12 ct12 : Value}
    (a12 : PySem.W.nsIn K mainGlobals "cost" = some (some (.ref f12))) (l12 : K.lookup f12 = some ⟨oc12, od12, .func (PySem.W.fnOf "cost" "cost" (defArgs s_cost) (defBody s_cost) (defScope s_cost) .none kV12 dc12 pm12 an12 cd12 ct12), sl12⟩) (c12 : PySem.W.codeIn K cd12 "cost" = true) (k12 : PySem.W.keepIn K (.ref f12) = true)
    {f13 : Addr} {od13 an13 : Option Addr} {sl13 : Array (Option Value)} {oc13 kV13 dc13 pm13 cd13 ct13 : Value}
    (a13 : PySem.W.nsIn K mainGlobals "find" = some (some (.ref f13))) (l13 : K.lookup f13 = some ⟨oc13, od13, .func (PySem.W.fnOf "find" "find" (defArgs s_find) (defBody s_find) (defScope s_find) .none kV13 dc13 pm13 an13 cd13 ct13), sl13⟩) (c13 : PySem.W.codeIn K cd13 "find" = true) (k13 : PySem.W.keepIn K (.ref f13) = true)
    {f14 : Addr} {od14 an14 : Option Addr} {sl14 : Array (Option Value)} {oc14 kV14 dc14 pm14 cd14 ct14 : Value}
    (a14 : PySem.W.nsIn K mainGlobals "separation" = some (some (.ref f14))) (l14 : K.lookup f14 = some ⟨oc14, od14, .func (PySem.W.fnOf "separation" "separation" (defArgs s_separation) (defBody s_separation) (defScope s_separation) .none kV14 dc14 pm14 an14 cd14 ct14), sl14⟩) (c14 : PySem.W.codeIn K cd14 "separation" = true) (k14 : PySem.W.keepIn K (.ref f14) = true)
    {f15 : Addr} {od15 an15 : Option Addr} {sl15 : Array (Option Value)} {oc15 kV15 dc15 pm15 cd15 ct15 : Value}
    (a15 : PySem.W.nsIn K mainGlobals "least_apart" = some (some (.ref f15))) (l15 : K.lookup f15 = some ⟨oc15, od15, .func (PySem.W.fnOf "least_apart" "least_apart" (defArgs s_least_apart) (defBody s_least_apart) (defScope s_least_apart) .none kV15 dc15 pm15 an15 cd15 ct15), sl15⟩) (c15 : PySem.W.codeIn K cd15 "least_apart" = true) (k15 : PySem.W.keepIn K (.ref f15) = true)
    {f16 : Addr} {od16 an16 : Option Addr} {sl16 : Array (Option Value)} {oc16 kV16 dc16 pm16 cd16 ct16 : Value}
    (a16 : PySem.W.nsIn K mainGlobals "shifted" = some (some (.ref f16))) (l16 : K.lookup f16 = some ⟨oc16, od16, .func (PySem.W.fnOf "shifted" "shifted" (defArgs s_shifted) (defBody s_shifted) (defScope s_shifted) .none kV16 dc16 pm16 an16 cd16 ct16), sl16⟩) (c16 : PySem.W.codeIn K cd16 "shifted" = true) (k16 : PySem.W.keepIn K (.ref f16) = true)
    {f17 : Addr} {od17 an17 : Option Addr} {sl17 : Array (Option Value)} {oc17 kV17 dc17 pm17 cd17 ct17 : Value}
    (a17 : PySem.W.nsIn K mainGlobals "_law_state" = some (some (.ref f17))) (l17 : K.lookup f17 = some ⟨oc17, od17, .func (PySem.W.fnOf "_law_state" "_law_state" (defArgs s_law_state) (defBody s_law_state) (defScope s_law_state) .none kV17 dc17 pm17 an17 cd17 ct17), sl17⟩) (c17 : PySem.W.codeIn K cd17 "_law_state" = true) (k17 : PySem.W.keepIn K (.ref f17) = true)
    {f18 : Addr} {od18 an18 : Option Addr} {sl18 : Array (Option Value)} {oc18 kV18 dc18 pm18 cd18 ct18 : Value}
    (a18 : PySem.W.nsIn K mainGlobals "_law_draw" = some (some (.ref f18))) (l18 : K.lookup f18 = some ⟨oc18, od18, .func (PySem.W.fnOf "_law_draw" "_law_draw" (defArgs s_law_draw) (defBody s_law_draw) (defScope s_law_draw) .none kV18 dc18 pm18 an18 cd18 ct18), sl18⟩) (c18 : PySem.W.codeIn K cd18 "_law_draw" = true) (k18 : PySem.W.keepIn K (.ref f18) = true)
    {f19 : Addr} {od19 an19 : Option Addr} {sl19 : Array (Option Value)} {oc19 kV19 dc19 pm19 cd19 ct19 : Value}
    (a19 : PySem.W.nsIn K mainGlobals "_law_pick" = some (some (.ref f19))) (l19 : K.lookup f19 = some ⟨oc19, od19, .func (PySem.W.fnOf "_law_pick" "_law_pick" (defArgs s_law_pick) (defBody s_law_pick) (defScope s_law_pick) .none kV19 dc19 pm19 an19 cd19 ct19), sl19⟩) (c19 : PySem.W.codeIn K cd19 "_law_pick" = true) (k19 : PySem.W.keepIn K (.ref f19) = true)
    {f20 : Addr} {od20 an20 : Option Addr} {sl20 : Array (Option Value)} {oc20 kV20 dc20 pm20 cd20 ct20 : Value}
    (a20 : PySem.W.nsIn K mainGlobals "_law_point" = some (some (.ref f20))) (l20 : K.lookup f20 = some ⟨oc20, od20, .func (PySem.W.fnOf "_law_point" "_law_point" (defArgs s_law_point) (defBody s_law_point) (defScope s_law_point) .none kV20 dc20 pm20 an20 cd20 ct20), sl20⟩) (c20 : PySem.W.codeIn K cd20 "_law_point" = true) (k20 : PySem.W.keepIn K (.ref f20) = true)
    {f21 : Addr} {od21 an21 : Option Addr} {sl21 : Array (Option Value)} {oc21 kV21 dc21 pm21 cd21 ct21 : Value}
    (a21 : PySem.W.nsIn K mainGlobals "_law_opening" = some (some (.ref f21))) (l21 : K.lookup f21 = some ⟨oc21, od21, .func (PySem.W.fnOf "_law_opening" "_law_opening" (defArgs s_law_opening) (defBody s_law_opening) (defScope s_law_opening) .none kV21 dc21 pm21 an21 cd21 ct21), sl21⟩) (c21 : PySem.W.codeIn K cd21 "_law_opening" = true) (k21 : PySem.W.keepIn K (.ref f21) = true)
    {f22 : Addr} {od22 an22 : Option Addr} {sl22 : Array (Option Value)} {oc22 kV22 dc22 pm22 cd22 ct22 : Value}
    (a22 : PySem.W.nsIn K mainGlobals "_law_line" = some (some (.ref f22))) (l22 : K.lookup f22 = some ⟨oc22, od22, .func (PySem.W.fnOf "_law_line" "_law_line" (defArgs s_law_line) (defBody s_law_line) (defScope s_law_line) .none kV22 dc22 pm22 an22 cd22 ct22), sl22⟩) (c22 : PySem.W.codeIn K cd22 "_law_line" = true) (k22 : PySem.W.keepIn K (.ref f22) = true)
    {f23 : Addr} {od23 an23 : Option Addr} {sl23 : Array (Option Value)} {oc23 kV23 dc23 pm23 cd23 ct23 : Value}
    (a23 : PySem.W.nsIn K mainGlobals "_law_sizes" = some (some (.ref f23))) (l23 : K.lookup f23 = some ⟨oc23, od23, .func (PySem.W.fnOf "_law_sizes" "_law_sizes" (defArgs s_law_sizes) (defBody s_law_sizes) (defScope s_law_sizes) .none kV23 dc23 pm23 an23 cd23 ct23), sl23⟩) (c23 : PySem.W.codeIn K cd23 "_law_sizes" = true) (k23 : PySem.W.keepIn K (.ref f23) = true)
    {f24 : Addr} {od24 an24 : Option Addr} {sl24 : Array (Option Value)} {oc24 kV24 dc24 pm24 cd24 ct24 : Value}
    (a24 : PySem.W.nsIn K mainGlobals "_law_turned" = some (some (.ref f24))) (l24 : K.lookup f24 = some ⟨oc24, od24, .func (PySem.W.fnOf "_law_turned" "_law_turned" (defArgs s_law_turned) (defBody s_law_turned) (defScope s_law_turned) .none kV24 dc24 pm24 an24 cd24 ct24), sl24⟩) (c24 : PySem.W.codeIn K cd24 "_law_turned" = true) (k24 : PySem.W.keepIn K (.ref f24) = true)
    {f25 : Addr} {od25 an25 : Option Addr} {sl25 : Array (Option Value)} {oc25 kV25 dc25 pm25 cd25 ct25 : Value}
    (a25 : PySem.W.nsIn K mainGlobals "_law_whole" = some (some (.ref f25))) (l25 : K.lookup f25 = some ⟨oc25, od25, .func (PySem.W.fnOf "_law_whole" "_law_whole" (defArgs s_law_whole) (defBody s_law_whole) (defScope s_law_whole) .none kV25 dc25 pm25 an25 cd25 ct25), sl25⟩) (c25 : PySem.W.codeIn K cd25 "_law_whole" = true) (k25 : PySem.W.keepIn K (.ref f25) = true)
    {f26 : Addr} {od26 an26 : Option Addr} {sl26 : Array (Option Value)} {oc26 kV26 dc26 pm26 cd26 ct26 : Value}
    (a26 : PySem.W.nsIn K mainGlobals "_law_arrival" = some (some (.ref f26))) (l26 : K.lookup f26 = some ⟨oc26, od26, .func (PySem.W.fnOf "_law_arrival" "_law_arrival" (defArgs s_law_arrival) (defBody s_law_arrival) (defScope s_law_arrival) .none kV26 dc26 pm26 an26 cd26 ct26), sl26⟩) (c26 : PySem.W.codeIn K cd26 "_law_arrival" = true) (k26 : PySem.W.keepIn K (.ref f26) = true)
    {f27 : Addr} {od27 an27 : Option Addr} {sl27 : Array (Option Value)} {oc27 kV27 dc27 pm27 cd27 ct27 : Value}
    (a27 : PySem.W.nsIn K mainGlobals "_law_cost" = some (some (.ref f27))) (l27 : K.lookup f27 = some ⟨oc27, od27, .func (PySem.W.fnOf "_law_cost" "_law_cost" (defArgs s_law_cost) (defBody s_law_cost) (defScope s_law_cost) .none kV27 dc27 pm27 an27 cd27 ct27), sl27⟩) (c27 : PySem.W.codeIn K cd27 "_law_cost" = true) (k27 : PySem.W.keepIn K (.ref f27) = true)
    {f28 : Addr} {od28 an28 : Option Addr} {sl28 : Array (Option Value)} {oc28 kV28 dc28 pm28 cd28 ct28 : Value}
    (a28 : PySem.W.nsIn K mainGlobals "_law_shapes" = some (some (.ref f28))) (l28 : K.lookup f28 = some ⟨oc28, od28, .func (PySem.W.fnOf "_law_shapes" "_law_shapes" (defArgs s_law_shapes) (defBody s_law_shapes) (defScope s_law_shapes) .none kV28 dc28 pm28 an28 cd28 ct28), sl28⟩) (c28 : PySem.W.codeIn K cd28 "_law_shapes" = true) (k28 : PySem.W.keepIn K (.ref f28) = true)
    {f29 : Addr} {od29 an29 : Option Addr} {sl29 : Array (Option Value)} {oc29 kV29 dc29 pm29 cd29 ct29 : Value}
    (a29 : PySem.W.nsIn K mainGlobals "_law_guesses" = some (some (.ref f29))) (l29 : K.lookup f29 = some ⟨oc29, od29, .func (PySem.W.fnOf "_law_guesses" "_law_guesses" (defArgs s_law_guesses) (defBody s_law_guesses) (defScope s_law_guesses) .none kV29 dc29 pm29 an29 cd29 ct29), sl29⟩) (c29 : PySem.W.codeIn K cd29 "_law_guesses" = true) (k29 : PySem.W.keepIn K (.ref f29) = true)
    {f30 : Addr} {od30 an30 : Option Addr} {sl30 : Array (Option Value)} {oc30 kV30 dc30 pm30 cd30 ct30 : Value}
    (a30 : PySem.W.nsIn K mainGlobals "_law_least" = some (some (.ref f30))) (l30 : K.lookup f30 = some ⟨oc30, od30, .func (PySem.W.fnOf "_law_least" "_law_least" (defArgs s_law_least) (defBody s_law_least) (defScope s_law_least) .none kV30 dc30 pm30 an30 cd30 ct30), sl30⟩) (c30 : PySem.W.codeIn K cd30 "_law_least" = true) (k30 : PySem.W.keepIn K (.ref f30) = true)
    {f31 : Addr} {od31 an31 : Option Addr} {sl31 : Array (Option Value)} {oc31 kV31 dc31 pm31 cd31 ct31 : Value}
    (a31 : PySem.W.nsIn K mainGlobals "_law_samples" = some (some (.ref f31))) (l31 : K.lookup f31 = some ⟨oc31, od31, .func (PySem.W.fnOf "_law_samples" "_law_samples" (defArgs s_law_samples) (defBody s_law_samples) (defScope s_law_samples) .none kV31 dc31 pm31 an31 cd31 ct31), sl31⟩) (c31 : PySem.W.codeIn K cd31 "_law_samples" = true) (k31 : PySem.W.keepIn K (.ref f31) = true)
    {f32 : Addr} {od32 an32 : Option Addr} {sl32 : Array (Option Value)} {oc32 kV32 dc32 pm32 cd32 ct32 : Value}
    (a32 : PySem.W.nsIn K mainGlobals "_law_found" = some (some (.ref f32))) (l32 : K.lookup f32 = some ⟨oc32, od32, .func (PySem.W.fnOf "_law_found" "_law_found" (defArgs s_law_found) (defBody s_law_found) (defScope s_law_found) .none kV32 dc32 pm32 an32 cd32 ct32), sl32⟩) (c32 : PySem.W.codeIn K cd32 "_law_found" = true) (k32 : PySem.W.keepIn K (.ref f32) = true)
    {f33 : Addr} {od33 an33 : Option Addr} {sl33 : Array (Option Value)} {oc33 kV33 dc33 pm33 cd33 ct33 : Value}
    (a33 : PySem.W.nsIn K mainGlobals "law" = some (some (.ref f33))) (l33 : K.lookup f33 = some ⟨oc33, od33, .func (PySem.W.fnOf "law" "law" (defArgs s_law) (defBody s_law) (defScope s_law) .none kV33 dc33 pm33 an33 cd33 ct33), sl33⟩) (c33 : PySem.W.codeIn K cd33 "law" = true) (k33 : PySem.W.keepIn K (.ref f33) = true)
    (z_abs : PySem.W.nsIn K mainGlobals "abs" = some none)
    (z_enumerate : PySem.W.nsIn K mainGlobals "enumerate" = some none)
    (z_int : PySem.W.nsIn K mainGlobals "int" = some none)
    (z_len : PySem.W.nsIn K mainGlobals "len" = some none)
    (z_list : PySem.W.nsIn K mainGlobals "list" = some none)
    (z_max : PySem.W.nsIn K mainGlobals "max" = some none)
    (z_min : PySem.W.nsIn K mainGlobals "min" = some none)
    (z_range : PySem.W.nsIn K mainGlobals "range" = some none)
    (z_sum : PySem.W.nsIn K mainGlobals "sum" = some none)
    (z_tuple : PySem.W.nsIn K mainGlobals "tuple" = some none)
    (z_zip : PySem.W.nsIn K mainGlobals "zip" = some none)
    : ∃ fd : FuncData, (∀ (s : Shared) (v : Value), BindsTo s fd ⟨[v], []⟩ [("script", v)]) ∧ ∀ base : Heap, K.In base → base.Ns mainGlobals mg → FnOk l.prog w K mg base CX0 8 fa fd ["script"] (spLaw K) := by
  have e := hfa.symm.trans (PySem.W.mg_of X G a33)
  cases e
  have T : Txt K mg := {
    f_plus := ⟨_, _, fun_mk (st := s_plus) l0 c0 k0, PySem.W.mg_of X G a0, (fun_mk (st := s_plus) l0 c0 k0).binds (ps := ["one", "other"]) fun _ _ _ _ _ _ us hl => match us, hl with | [_, _], _ => rfl⟩
    f_minus := ⟨_, _, fun_mk (st := s_minus) l1 c1 k1, PySem.W.mg_of X G a1, (fun_mk (st := s_minus) l1 c1 k1).binds (ps := ["one", "other"]) fun _ _ _ _ _ _ us hl => match us, hl with | [_, _], _ => rfl⟩
    f_times := ⟨_, _, fun_mk (st := s_times) l2 c2 k2, PySem.W.mg_of X G a2, (fun_mk (st := s_times) l2 c2 k2).binds (ps := ["one", "other"]) fun _ _ _ _ _ _ us hl => match us, hl with | [_, _], _ => rfl⟩
    f_size := ⟨_, _, fun_mk (st := s_size) l3 c3 k3, PySem.W.mg_of X G a3, (fun_mk (st := s_size) l3 c3 k3).binds (ps := ["point"]) fun _ _ _ _ _ _ us hl => match us, hl with | [_], _ => rfl⟩
    f_total := ⟨_, _, fun_mk (st := s_total) l4 c4 k4, PySem.W.mg_of X G a4, (fun_mk (st := s_total) l4 c4 k4).binds (ps := ["points"]) fun _ _ _ _ _ _ us hl => match us, hl with | [_], _ => rfl⟩
    f_smeared := ⟨_, _, fun_mk (st := s_smeared) l5 c5 k5, PySem.W.mg_of X G a5, (fun_mk (st := s_smeared) l5 c5 k5).binds (ps := ["taps", "points"]) fun _ _ _ _ _ _ us hl => match us, hl with | [_, _], _ => rfl⟩
    f_sent := ⟨_, _, fun_mk (st := s_sent) l6 c6 k6, PySem.W.mg_of X G a6, (fun_mk (st := s_sent) l6 c6 k6).binds (ps := ["line", "points"]) fun _ _ _ _ _ _ us hl => match us, hl with | [_, _], _ => rfl⟩
    f_turned := ⟨_, _, fun_mk (st := s_turned) l7 c7 k7, PySem.W.mg_of X G a7, (fun_mk (st := s_turned) l7 c7 k7).binds (ps := ["point", "turn"]) fun _ _ _ _ _ _ us hl => match us, hl with | [_, _], _ => rfl⟩
    f_told_by := ⟨_, _, fun_mk (st := s_told_by) l8 c8 k8, PySem.W.mg_of X G a8, (fun_mk (st := s_told_by) l8 c8 k8).binds (ps := ["opening", "line", "turn"]) fun _ _ _ _ _ _ us hl => match us, hl with | [_, _, _], _ => rfl⟩
    f_shape := ⟨_, _, fun_mk (st := s_shape) l9 c9 k9, PySem.W.mg_of X G a9, (fun_mk (st := s_shape) l9 c9 k9).binds (ps := ["opening", "line", "turn"]) fun _ _ _ _ _ _ us hl => match us, hl with | [_, _, _], _ => rfl⟩
    f_arrival := ⟨_, _, fun_mk (st := s_arrival) l10 c10 k10, PySem.W.mg_of X G a10, (fun_mk (st := s_arrival) l10 c10 k10).binds (ps := ["opening", "lines", "slack", "guess"]) fun _ _ _ _ _ _ us hl => match us, hl with | [_, _, _, _], _ => rfl⟩
    f_cost_at := ⟨_, _, fun_mk (st := s_cost_at) l11 c11 k11, PySem.W.mg_of X G a11, (fun_mk (st := s_cost_at) l11 c11 k11).binds (ps := ["row", "place", "samples"]) fun _ _ _ _ _ _ us hl => match us, hl with | [_, _, _], _ => rfl⟩
    f_cost := ⟨_, _, fun_mk (st := s_cost) l12 c12 k12, PySem.W.mg_of X G a12, (fun_mk (st := s_cost) l12 c12 k12).binds (ps := ["opening", "lines", "guess", "samples"]) fun _ _ _ _ _ _ us hl => match us, hl with | [_, _, _, _], _ => rfl⟩
    f_find := ⟨_, _, fun_mk (st := s_find) l13 c13 k13, PySem.W.mg_of X G a13, (fun_mk (st := s_find) l13 c13 k13).binds (ps := ["opening", "lines", "slack", "samples"]) fun _ _ _ _ _ _ us hl => match us, hl with | [_, _, _, _], _ => rfl⟩
    f_separation := ⟨_, _, fun_mk (st := s_separation) l14 c14 k14, PySem.W.mg_of X G a14, (fun_mk (st := s_separation) l14 c14 k14).binds (ps := ["opening", "lines", "slack"]) fun _ _ _ _ _ _ us hl => match us, hl with | [_, _, _], _ => rfl⟩
    f_least_apart := ⟨_, _, fun_mk (st := s_least_apart) l15 c15 k15, PySem.W.mg_of X G a15, (fun_mk (st := s_least_apart) l15 c15 k15).binds (ps := ["window", "row", "same"]) fun _ _ _ _ _ _ us hl => match us, hl with | [_, _, _], _ => rfl⟩
    f_shifted := ⟨_, _, fun_mk (st := s_shifted) l16 c16 k16, PySem.W.mg_of X G a16, (fun_mk (st := s_shifted) l16 c16 k16).binds (ps := ["samples", "shift", "many"]) fun _ _ _ _ _ _ us hl => match us, hl with | [_, _, _], _ => rfl⟩
    f_law_state := ⟨_, _, fun_mk (st := s_law_state) l17 c17 k17, PySem.W.mg_of X G a17, (fun_mk (st := s_law_state) l17 c17 k17).binds (ps := ["script"]) fun _ _ _ _ _ _ us hl => match us, hl with | [_], _ => rfl⟩
    f_law_draw := ⟨_, _, fun_mk (st := s_law_draw) l18 c18 k18, PySem.W.mg_of X G a18, (fun_mk (st := s_law_draw) l18 c18 k18).binds (ps := ["state", "many"]) fun _ _ _ _ _ _ us hl => match us, hl with | [_, _], _ => rfl⟩
    f_law_pick := ⟨_, _, fun_mk (st := s_law_pick) l19 c19 k19, PySem.W.mg_of X G a19, (fun_mk (st := s_law_pick) l19 c19 k19).binds (ps := ["state", "row"]) fun _ _ _ _ _ _ us hl => match us, hl with | [_, _], _ => rfl⟩
    f_law_point := ⟨_, _, fun_mk (st := s_law_point) l20 c20 k20, PySem.W.mg_of X G a20, (fun_mk (st := s_law_point) l20 c20 k20).binds (ps := ["state", "wide"]) fun _ _ _ _ _ _ us hl => match us, hl with | [_, _], _ => rfl⟩
    f_law_opening := ⟨_, _, fun_mk (st := s_law_opening) l21 c21 k21, PySem.W.mg_of X G a21, (fun_mk (st := s_law_opening) l21 c21 k21).binds (ps := ["state"]) fun _ _ _ _ _ _ us hl => match us, hl with | [_], _ => rfl⟩
    f_law_line := ⟨_, _, fun_mk (st := s_law_line) l22 c22 k22, PySem.W.mg_of X G a22, (fun_mk (st := s_law_line) l22 c22 k22).binds (ps := ["state"]) fun _ _ _ _ _ _ us hl => match us, hl with | [_], _ => rfl⟩
    f_law_sizes := ⟨_, _, fun_mk (st := s_law_sizes) l23 c23 k23, PySem.W.mg_of X G a23, (fun_mk (st := s_law_sizes) l23 c23 k23).binds (ps := ["state"]) fun _ _ _ _ _ _ us hl => match us, hl with | [_], _ => rfl⟩
    f_law_turned := ⟨_, _, fun_mk (st := s_law_turned) l24 c24 k24, PySem.W.mg_of X G a24, (fun_mk (st := s_law_turned) l24 c24 k24).binds (ps := ["point", "turn"]) fun _ _ _ _ _ _ us hl => match us, hl with | [_, _], _ => rfl⟩
    f_law_whole := ⟨_, _, fun_mk (st := s_law_whole) l25 c25 k25, PySem.W.mg_of X G a25, (fun_mk (st := s_law_whole) l25 c25 k25).binds (ps := ["opening", "line", "turn"]) fun _ _ _ _ _ _ us hl => match us, hl with | [_, _, _], _ => rfl⟩
    f_law_arrival := ⟨_, _, fun_mk (st := s_law_arrival) l26 c26 k26, PySem.W.mg_of X G a26, (fun_mk (st := s_law_arrival) l26 c26 k26).binds (ps := ["opening", "line", "turn", "place", "slack"]) fun _ _ _ _ _ _ us hl => match us, hl with | [_, _, _, _, _], _ => rfl⟩
    f_law_cost := ⟨_, _, fun_mk (st := s_law_cost) l27 c27 k27, PySem.W.mg_of X G a27, (fun_mk (st := s_law_cost) l27 c27 k27).binds (ps := ["form", "samples", "place"]) fun _ _ _ _ _ _ us hl => match us, hl with | [_, _, _], _ => rfl⟩
    f_law_shapes := ⟨_, _, fun_mk (st := s_law_shapes) l28 c28 k28, PySem.W.mg_of X G a28, (fun_mk (st := s_law_shapes) l28 c28 k28).binds (ps := ["opening", "lines"]) fun _ _ _ _ _ _ us hl => match us, hl with | [_, _], _ => rfl⟩
    f_law_guesses := ⟨_, _, fun_mk (st := s_law_guesses) l29 c29 k29, PySem.W.mg_of X G a29, (fun_mk (st := s_law_guesses) l29 c29 k29).binds (ps := ["lines", "slack"]) fun _ _ _ _ _ _ us hl => match us, hl with | [_, _], _ => rfl⟩
    f_law_least := ⟨_, _, fun_mk (st := s_law_least) l30 c30 k30, PySem.W.mg_of X G a30, (fun_mk (st := s_law_least) l30 c30 k30).binds (ps := ["opening", "lines", "slack"]) fun _ _ _ _ _ _ us hl => match us, hl with | [_, _, _], _ => rfl⟩
    f_law_samples := ⟨_, _, fun_mk (st := s_law_samples) l31 c31 k31, PySem.W.mg_of X G a31, (fun_mk (st := s_law_samples) l31 c31 k31).binds (ps := ["state", "clear", "scale"]) fun _ _ _ _ _ _ us hl => match us, hl with | [_, _, _], _ => rfl⟩
    f_law_found := ⟨_, _, fun_mk (st := s_law_found) l32 c32 k32, PySem.W.mg_of X G a32, (fun_mk (st := s_law_found) l32 c32 k32).binds (ps := ["shapes", "lines", "slack", "samples"]) fun _ _ _ _ _ _ us hl => match us, hl with | [_, _, _, _], _ => rfl⟩
    f_law := ⟨_, _, fun_mk (st := s_law) l33 c33 k33, PySem.W.mg_of X G a33, (fun_mk (st := s_law) l33 c33 k33).binds (ps := ["script"]) fun _ _ _ _ _ _ us hl => match us, hl with | [_], _ => rfl⟩
    b_abs := PySem.W.mg_none_of X G z_abs
    b_enumerate := PySem.W.mg_none_of X G z_enumerate
    b_int := PySem.W.mg_none_of X G z_int
    b_len := PySem.W.mg_none_of X G z_len
    b_list := PySem.W.mg_none_of X G z_list
    b_max := PySem.W.mg_none_of X G z_max
    b_min := PySem.W.mg_none_of X G z_min
    b_range := PySem.W.mg_none_of X G z_range
    b_sum := PySem.W.mg_none_of X G z_sum
    b_tuple := PySem.W.mg_none_of X G z_tuple
    b_zip := PySem.W.mg_none_of X G z_zip
  }
  have FL := fun_mk (st := s_law) l33 c33 k33
  exact ⟨_, fun s v => .of_eq rfl, fun base _ _ => ok_law FL T⟩
end K98
open PySem PySem.W PyProof.Rows
set_option maxHeartbeats 0 in
theorem PySem.Challenge.cw_heardtrue_k98_openings_of_all_sizes_holds : PySem.Challenge.rw_heardtrue_k98_openings_of_all_sizes.Holds := by
  w_on; o_law; k_head; (case hw => w_witness2)
  k_fill
  refine L2.walk_of (l := PySem.Challenge.rw_heardtrue_k98_openings_of_all_sizes) (n := 63) (k := 8) (x := "script") (CX := fun _ => L2.CX0) (sp := fun w => Kt.spLaw _) rfl (by decide) rfl ⟨rfl, by decide, by decide⟩ (fun w h Y => PySem.W.kIn_of Y) ?F (fun _ _ a ns hl ho hS => ⟨a, ns, rfl, hS, hl, Kt.nz_only ho, fun _ => rfl⟩) (fun _ _ _ _ _ h => h)
  case F =>
    intro w mg fa h KX G hmg
    refine' K98.all_mk KX G hmg ?a0 ?l0 ?c0 ?k0 ?a1 ?l1 ?c1 ?k1 ?a2 ?l2 ?c2 ?k2 ?a3 ?l3 ?c3 ?k3 ?a4 ?l4 ?c4 ?k4 ?a5 ?l5 ?c5 ?k5 ?a6 ?l6 ?c6 ?k6 ?a7 ?l7 ?c7 ?k7 ?a8 ?l8 ?c8 ?k8 ?a9 ?l9 ?c9 ?k9 ?a10 ?l10 ?c10 ?k10 ?a11 ?l11 ?c11 ?k11 ?a12 ?l12 ?c12 ?k12 ?a13 ?l13 ?c13 ?k13 ?a14 ?l14 ?c14 ?k14 ?a15 ?l15 ?c15 ?k15 ?a16 ?l16 ?c16 ?k16 ?a17 ?l17 ?c17 ?k17 ?a18 ?l18 ?c18 ?k18 ?a19 ?l19 ?c19 ?k19 ?a20 ?l20 ?c20 ?k20 ?a21 ?l21 ?c21 ?k21 ?a22 ?l22 ?c22 ?k22 ?a23 ?l23 ?c23 ?k23 ?a24 ?l24 ?c24 ?k24 ?a25 ?l25 ?c25 ?k25 ?a26 ?l26 ?c26 ?k26 ?a27 ?l27 ?c27 ?k27 ?a28 ?l28 ?c28 ?k28 ?a29 ?l29 ?c29 ?k29 ?a30 ?l30 ?c30 ?k30 ?a31 ?l31 ?c31 ?k31 ?a32 ?l32 ?c32 ?k32 ?a33 ?l33 ?c33 ?k33 ?z_abs ?z_enumerate ?z_int ?z_len ?z_list ?z_max ?z_min ?z_range ?z_sum ?z_tuple ?z_zip
    (case a0 => k_is); (case l0 => k_is); (case c0 => k_is); (case k0 => k_is); (case a1 => k_is); (case l1 => k_is); (case c1 => k_is); (case k1 => k_is); (case a2 => k_is); (case l2 => k_is); (case c2 => k_is); (case k2 => k_is); (case a3 => k_is); (case l3 => k_is); (case c3 => k_is); (case k3 => k_is); (case a4 => k_is); (case l4 => k_is); (case c4 => k_is); (case k4 => k_is); (case a5 => k_is); (case l5 => k_is); (case c5 => k_is); (case k5 => k_is); (case a6 => k_is); (case l6 => k_is); (case c6 => k_is); (case k6 => k_is); (case a7 => k_is); (case l7 => k_is); (case c7 => k_is); (case k7 => k_is); (case a8 => k_is); (case l8 => k_is); (case c8 => k_is); (case k8 => k_is); (case a9 => k_is); (case l9 => k_is); (case c9 => k_is); (case k9 => k_is); (case a10 => k_is); (case l10 => k_is); (case c10 => k_is); (case k10 => k_is); (case a11 => k_is); (case l11 => k_is); (case c11 => k_is); (case k11 => k_is); (case a12 => k_is); (case l12 => k_is); (case c12 => k_is); (case k12 => k_is); (case a13 => k_is); (case l13 => k_is); (case c13 => k_is); (case k13 => k_is); (case a14 => k_is); (case l14 => k_is); (case c14 => k_is); (case k14 => k_is); (case a15 => k_is); (case l15 => k_is); (case c15 => k_is); (case k15 => k_is); (case a16 => k_is); (case l16 => k_is); (case c16 => k_is); (case k16 => k_is); (case a17 => k_is); (case l17 => k_is); (case c17 => k_is); (case k17 => k_is); (case a18 => k_is); (case l18 => k_is); (case c18 => k_is); (case k18 => k_is); (case a19 => k_is); (case l19 => k_is); (case c19 => k_is); (case k19 => k_is); (case a20 => k_is); (case l20 => k_is); (case c20 => k_is); (case k20 => k_is); (case a21 => k_is); (case l21 => k_is); (case c21 => k_is); (case k21 => k_is); (case a22 => k_is); (case l22 => k_is); (case c22 => k_is); (case k22 => k_is); (case a23 => k_is); (case l23 => k_is); (case c23 => k_is); (case k23 => k_is); (case a24 => k_is); (case l24 => k_is); (case c24 => k_is); (case k24 => k_is); (case a25 => k_is); (case l25 => k_is); (case c25 => k_is); (case k25 => k_is); (case a26 => k_is); (case l26 => k_is); (case c26 => k_is); (case k26 => k_is); (case a27 => k_is); (case l27 => k_is); (case c27 => k_is); (case k27 => k_is); (case a28 => k_is); (case l28 => k_is); (case c28 => k_is); (case k28 => k_is); (case a29 => k_is); (case l29 => k_is); (case c29 => k_is); (case k29 => k_is); (case a30 => k_is); (case l30 => k_is); (case c30 => k_is); (case k30 => k_is); (case a31 => k_is); (case l31 => k_is); (case c31 => k_is); (case k31 => k_is); (case a32 => k_is); (case l32 => k_is); (case c32 => k_is); (case k32 => k_is); (case a33 => k_is); (case l33 => k_is); (case c33 => k_is); (case k33 => k_is); (case z_abs => k_is); (case z_enumerate => k_is); (case z_int => k_is); (case z_len => k_is); (case z_list => k_is); (case z_max => k_is); (case z_min => k_is); (case z_range => k_is); (case z_sum => k_is); (case z_tuple => k_is); (case z_zip => k_is)

