import PyProof.Rows.All
import Wide.All
import OpenK.AllK
import Wide.FinOn
import HandS.ForMost
import HandS.ForExc
import HandS.Wide
import HandS.Gcd
import HandS.IsInst
import HandS.FStr
import PySem.Challenge.RW_risewords_k00_whole_ratios_and_numbers
set_option Elab.async false
set_option linter.all false
set_option maxRecDepth 100000
set_option maxHeartbeats 8000000
set_option exponentiation.threshold 5000
namespace DL
open PySem L2

/-- the heap without some addresses -/
def msk (O : List Addr) (H : Hp) : Hp := fun b => if b ∈ O then none else H b
theorem msk_some {O : List Addr} {H : Hp} {b : Addr} {o : HO} (h : msk O H b = some o) : b ∉ O ∧ H b = some o := by
  unfold msk at h
  by_cases e : b ∈ O
  · rw [if_pos e] at h; cases h
  · rw [if_neg e] at h; exact ⟨e, h⟩
theorem msk_of {O : List Addr} {H : Hp} {b : Addr} {o : HO} (n : b ∉ O) (h : H b = some o) : msk O H b = some o := by
  unfold msk; rw [if_neg n]; exact h
def Ext (H H' : Hp) : Prop := ∀ b o, H b = some o → H' b = some o
theorem Ext.refl (H : Hp) : Ext H H := fun _ _ h => h
theorem Ext.trans {H H1 H2 : Hp} (a : Ext H H1) (b : Ext H1 H2) : Ext H H2 := fun x o h => b x o (a x o h)
theorem Ext.new {H : Hp} {p : Addr} {o : HO} (h : H p = none) : Ext H (upd H p o) := fun a u e => by
  rw [upd_ne (ne_of_none e h)]; exact e
theorem Ext.rd {H H' : Hp} {a : Addr} {u : HO} (e : Ext H H') (h : Rd H a u) : Rd H' a u := by
  rcases h with h | ⟨o, h⟩
  · exact .inl (e a _ h)
  · exact .inr ⟨o, e a _ h⟩
theorem Ext.l {K : PySem.W.Frag} {H H' : Hp} {a : Addr} {xs : List V} (e : Ext H H') (h : SqL K H a xs) : SqL K H' a xs := by
  rcases h with h | h
  · exact .inl (e.rd h)
  · exact .inr h
theorem Ext.t {K : PySem.W.Frag} {H H' : Hp} {a : Addr} {xs : List V} (e : Ext H H') (h : SqT K H a xs) : SqT K H' a xs := by
  rcases h with h | h
  · exact .inl (e.rd h)
  · exact .inr h
mutual
theorem dp_ext {K : PySem.W.Frag} {H H' : Hp} (e : Ext H H') : ∀ {v : V} {d : PyData}, Dp K H v d → Dp K H' v d
  | _, _, .non => .non
  | _, _, .bl b => .bl b
  | _, _, .int i => .int i
  | _, _, .str x => .str x
  | _, _, .lst h q => .lst (e.l h) (dpa_ext e q)
  | _, _, .tup h q => .tup (e.t h) (dpa_ext e q)
theorem dpa_ext {K : PySem.W.Frag} {H H' : Hp} (e : Ext H H') : ∀ {vs : List V} {ds : List PyData}, DpAll K H vs ds → DpAll K H' vs ds
  | _, _, .nil => .nil
  | _, _, .cons h q => .cons (dp_ext e h) (dpa_ext e q)
end
theorem msk_ext {O : List Addr} {H H' : Hp} (e : Ext H H') : Ext (msk O H) (msk O H') := fun b o h => by
  obtain ⟨n, h⟩ := msk_some h
  exact msk_of n (e b o h)
theorem msk_le {O : List Addr} {H : Hp} : Ext (msk O H) H := fun b o h => (msk_some h).2
theorem dpa_len {K : PySem.W.Frag} {H : Hp} : ∀ {vs : List V} {ds : List PyData}, DpAll K H vs ds → vs.length = ds.length
  | _, _, .nil => rfl
  | _, _, .cons _ q => congrArg (· + 1) (dpa_len q)
theorem dpa_get {K : PySem.W.Frag} {H : Hp} : ∀ {vs : List V} {ds : List PyData} {i : Nat} {d : PyData}, DpAll K H vs ds → ds[i]? = some d → ∃ v, vs[i]? = some v ∧ Dp K H v d
  | _, _, i, d, .nil, h => by simp at h
  | _, _, 0, d, .cons h q, e => by simp at e; subst e; exact ⟨_, rfl, h⟩
  | _, _, i + 1, d, .cons h q, e => by
    obtain ⟨v, a, b⟩ := dpa_get (i := i) (d := d) q (by simpa using e)
    exact ⟨v, by simpa using a, b⟩
theorem dpa_get' {K : PySem.W.Frag} {H : Hp} {vs : List V} {ds : List PyData} {i : Nat} {v : V} (h : DpAll K H vs ds) (e : vs[i]? = some v) : ∃ d, ds[i]? = some d ∧ Dp K H v d := by
  have hl := dpa_len h
  have hi : i < vs.length := (List.getElem?_eq_some_iff.mp e).1
  obtain ⟨d, hd⟩ : ∃ d, ds[i]? = some d := ⟨ds[i]'(by omega), List.getElem?_eq_getElem (by omega)⟩
  obtain ⟨v', a, b⟩ := dpa_get h hd
  rw [e] at a; cases a
  exact ⟨d, hd, b⟩
theorem dpa_append {K : PySem.W.Frag} {H : Hp} : ∀ {vs : List V} {ds : List PyData} {us : List V} {es : List PyData}, DpAll K H vs ds → DpAll K H us es → DpAll K H (vs ++ us) (ds ++ es)
  | _, _, _, _, .nil, r => r
  | _, _, _, _, .cons h q, r => .cons h (dpa_append q r)
theorem dpa_one {K : PySem.W.Frag} {H : Hp} {v : V} {d : PyData} (h : Dp K H v d) : DpAll K H [v] [d] := .cons h .nil
theorem dpa_set {K : PySem.W.Frag} {H : Hp} {v : V} {d : PyData} (h : Dp K H v d) : ∀ {vs : List V} {ds : List PyData} (i : Nat), DpAll K H vs ds → DpAll K H (vs.set i v) (ds.set i d)
  | _, _, _, .nil => .nil
  | _, _, 0, .cons _ q => .cons h q
  | _, _, i + 1, .cons a q => .cons a (dpa_set h i q)
theorem dpa_take {K : PySem.W.Frag} {H : Hp} : ∀ {vs : List V} {ds : List PyData} (n : Nat), DpAll K H vs ds → DpAll K H (vs.take n) (ds.take n)
  | _, _, 0, _ => .nil
  | _, _, _ + 1, .nil => .nil
  | _, _, n + 1, .cons r t => .cons r (dpa_take n t)
theorem dpa_drop {K : PySem.W.Frag} {H : Hp} : ∀ {vs : List V} {ds : List PyData} (n : Nat), DpAll K H vs ds → DpAll K H (vs.drop n) (ds.drop n)
  | _, _, 0, r => r
  | _, _, _ + 1, .nil => .nil
  | _, _, n + 1, .cons _ t => dpa_drop n t
theorem dpa_ints {K : PySem.W.Frag} {H : Hp} : ∀ (ns : List Int), DpAll K H (ns.map V.int) (ns.map PyData.int)
  | [] => .nil
  | n :: r => .cons (.int n) (dpa_ints r)

/-! ### the data of a def's names -/
inductive Ent where
  | val (d : PyData)
  | lst (ds : List PyData)
abbrev Rho := List (Option Ent)

def EntOk (K : PySem.W.Frag) (O : List Addr) (H : Hp) : Option V → Ent → Prop
  | some v, .val d => Dp K (msk O H) v d
  | some (.ref p), .lst ds => p ∈ O ∧ ∃ vs, H p = some (.lst vs) ∧ DpAll K (msk O H) vs ds
  | _, _ => False
structure Envs (K : PySem.W.Frag) (O : List Addr) (σ : L2.St) (ρ : Rho) (H : Hp) : Prop where
  len : σ.length = ρ.length
  ok : ∀ (i : Nat) (x : Option V) (e : Ent), σ[i]? = some x → ρ[i]? = some (some e) → EntOk K O H x e
  al : ∀ b ∈ O, H b ≠ none
  dis : ∀ (i j : Nat) (p : Addr) (ds es : List PyData), σ[i]? = some (some (.ref p)) → ρ[i]? = some (some (.lst ds)) → σ[j]? = some (some (.ref p)) → ρ[j]? = some (some (.lst es)) → i = j
def Owns (σ : L2.St) (ρ : Rho) (p : Addr) : Prop := ∃ (i : Nat) (ds : List PyData), σ[i]? = some (some (.ref p)) ∧ ρ[i]? = some (some (.lst ds))
structure Stp (K : PySem.W.Frag) (n : Nat) (O : List Addr) (σ : L2.St) (ρ : Rho) (H : Hp) (O' : List Addr) (σ' : L2.St) (ρ' : Rho) (H' : Hp) : Prop where
  sub : ∀ b ∈ O, b ∈ O'
  new : ∀ b ∈ O', b ∈ O ∨ H b = none
  le : ∀ b o, ¬ Owns σ ρ b → H b = some o → H' b = some o
  env : Envs K O' σ' ρ' H'
  own : ∀ b, Owns σ' ρ' b → Owns σ ρ b ∨ H b = none
  pin : ∀ (i : Nat) (ds : List PyData), i < n → ρ[i]? = some (some (.lst ds)) → σ'[i]? = σ[i]? ∧ ∃ ds', ρ'[i]? = some (some (.lst ds'))
theorem lst_val {K : PySem.W.Frag} {O : List Addr} {H : Hp} {x : Option V} {ds : List PyData} (h : EntOk K O H x (.lst ds)) : ∃ p, x = some (.ref p) ∧ p ∈ O ∧ ∃ vs, H p = some (.lst vs) ∧ DpAll K (msk O H) vs ds := by
  cases x with
  | none => exact h.elim
  | some v =>
    cases v with
    | ref p => exact ⟨p, rfl, h⟩
    | _ => exact h.elim
theorem Envs.ownO {K : PySem.W.Frag} {O : List Addr} {σ : L2.St} {ρ : Rho} {H : Hp} (E : Envs K O σ ρ H) {b : Addr} (h : Owns σ ρ b) : b ∈ O := by
  obtain ⟨i, ds, h1, h2⟩ := h
  obtain ⟨p, e, hp, _⟩ := lst_val (E.ok i _ _ h1 h2)
  cases e
  exact hp
section
variable {K : PySem.W.Frag} {n : Nat} {O O1 O2 : List Addr} {σ σ1 σ2 : L2.St} {ρ ρ1 ρ2 : Rho} {H H1 H2 : Hp}
theorem Stp.refl (E : Envs K O σ ρ H) : Stp K n O σ ρ H O σ ρ H :=
  ⟨fun _ h => h, fun _ h => .inl h, fun _ _ _ h => h, E, fun _ h => .inl h, fun i ds _ h => ⟨rfl, ds, h⟩⟩
theorem Stp.none_back (S : Stp K n O σ ρ H O1 σ1 ρ1 H1) {b : Addr} (hb : b ∉ O) (h : H1 b = none) (E : Envs K O σ ρ H) : H b = none := by
  cases q : H b with
  | none => rfl
  | some o =>
    rw [S.le b o (fun w => hb (E.ownO w)) q] at h; cases h
theorem Stp.trans (E : Envs K O σ ρ H) (S : Stp K n O σ ρ H O1 σ1 ρ1 H1) (T : Stp K n O1 σ1 ρ1 H1 O2 σ2 ρ2 H2) : Stp K n O σ ρ H O2 σ2 ρ2 H2 where
  sub := fun b h => T.sub b (S.sub b h)
  new := fun b h => by
    rcases T.new b h with h | h
    · exact S.new b h
    · by_cases hb : b ∈ O
      · exact .inl hb
      · exact .inr (S.none_back hb h E)
  le := fun b o nb h => by
    refine T.le b o (fun w => ?_) (S.le b o nb h)
    rcases S.own b w with w | w
    · exact nb w
    · rw [w] at h; cases h
  env := T.env
  own := fun b w => by
    rcases T.own b w with w | w
    · exact S.own b w
    · by_cases hb : b ∈ O
      · exact absurd w (S.env.al b (S.sub b hb))
      · exact .inr (S.none_back hb w E)
  pin := fun i ds hi h => by
    obtain ⟨e1, ds1, h1⟩ := S.pin i ds hi h
    obtain ⟨e2, ds2, h2⟩ := T.pin i ds1 hi h1
    exact ⟨e2.trans e1, ds2, h2⟩
theorem Stp.msk (E : Envs K O σ ρ H) (S : Stp K n O σ ρ H O1 σ1 ρ1 H1) : Ext (msk O H) (msk O1 H1) := fun b o h => by
  obtain ⟨nb, h⟩ := msk_some h
  refine msk_of (fun hb => ?_) (S.le b o (fun w => nb (E.ownO w)) h)
  rcases S.new b hb with q | q
  · exact nb q
  · rw [q] at h; cases h
theorem Stp.dp (E : Envs K O σ ρ H) (S : Stp K n O σ ρ H O1 σ1 ρ1 H1) {v : V} {d : PyData} (h : Dp K (DL.msk O H) v d) : Dp K (DL.msk O1 H1) v d := dp_ext (S.msk E) h
theorem Stp.dpa (E : Envs K O σ ρ H) (S : Stp K n O σ ρ H O1 σ1 ρ1 H1) {v : List V} {d : List PyData} (h : DpAll K (DL.msk O H) v d) : DpAll K (DL.msk O1 H1) v d := dpa_ext (S.msk E) h
/-- the heap only grew -/
theorem Stp.grow (E : Envs K O σ ρ H) (e : Ext H H1) : Stp K n O σ ρ H O σ ρ H1 where
  sub := fun _ h => h
  new := fun _ h => .inl h
  le := fun b o _ h => e b o h
  own := fun _ h => .inl h
  pin := fun i ds _ h => ⟨rfl, ds, h⟩
  env := ⟨E.len, fun i x en h1 h2 => by
    have q := E.ok i x en h1 h2
    cases en with
    | val d =>
      cases x with
      | none => exact q.elim
      | some v => exact dp_ext (msk_ext e) (show Dp K (DL.msk O H) v d from q)
    | lst ds =>
      obtain ⟨p, rfl, hp, vs, hv, hd⟩ := lst_val q
      exact ⟨hp, vs, e p _ hv, dpa_ext (msk_ext e) hd⟩, (fun b hb h => by
    cases q : H b with
    | none => exact E.al b hb q
    | some o => rw [e b o q] at h; cases h), E.dis⟩
end

/-! ### the judgements -/
abbrev PD := PyData → Rho → Prop
def DW (K : PySem.W.Frag) (n : Nat) (te : TE) (ρ : Rho) (Φ : PD) : Prop :=
  ∀ O σ H, Envs K O σ ρ H → ∀ Q : VK, (∀ v d ρ' O' H', Φ d ρ' → Stp K n O σ ρ H O' σ ρ' H' → Dp K (msk O' H') v d → Q v H') → te σ H Q
def DT (K : PySem.W.Frag) (n : Nat) (tt : TT) (ρ : Rho) (Φ : Bool → Rho → Prop) : Prop :=
  ∀ O σ H, Envs K O σ ρ H → ∀ Q : Bool → Hp → Prop, (∀ b ρ' O' H', Φ b ρ' → Stp K n O σ ρ H O' σ ρ' H' → Q b H') → tt σ H Q
def DA (K : PySem.W.Frag) (n : Nat) (ta : TA) (ρ : Rho) (Φ : List PyData → Rho → Prop) : Prop :=
  ∀ O σ H, Envs K O σ ρ H → ∀ Q : List V → Hp → Prop, (∀ vs ds ρ' O' H', Φ ds ρ' → Stp K n O σ ρ H O' σ ρ' H' → DpAll K (msk O' H') vs ds → Q vs H') → ta σ H Q
structure DE where
  nx : Rho → Prop
  rt : PD
  bk : Rho → Prop := fun _ => False
  ct : Rho → Prop := fun _ => False
def DS (K : PySem.W.Frag) (n : Nat) (ts : TS) (ρ : Rho) (F : DE) : Prop :=
  ∀ O σ H, Envs K O σ ρ H → ∀ D : Ends,
    (∀ O' σ' ρ' H', F.nx ρ' → Stp K n O σ ρ H O' σ' ρ' H' → D.nx σ' H') →
    (∀ v d O' σ' ρ' H', F.rt d ρ' → Stp K n O σ ρ H O' σ' ρ' H' → Dp K (msk O' H') v d → D.rt v H') →
    (∀ O' σ' ρ' H', F.bk ρ' → Stp K n O σ ρ H O' σ' ρ' H' → D.bk σ' H') →
    (∀ O' σ' ρ' H', F.ct ρ' → Stp K n O σ ρ H O' σ' ρ' H' → D.ct σ' H') → ts D σ H
/-- an operation on data -/
def RD (r : R2) (K : PySem.W.Frag) (x y : PyData) (Ψ : PyData → Prop) : Prop :=
  ∀ O H vx vy, (∀ b ∈ O, H b ≠ none) → Dp K (msk O H) vx x → Dp K (msk O H) vy y → ∀ Q : VK, (∀ v z H', Ψ z → Ext H H' → Dp K (msk O H') v z → Q v H') → r vx vy H Q
def RU (r : V → Hp → VK → Prop) (K : PySem.W.Frag) (x : PyData) (Ψ : PyData → Prop) : Prop :=
  ∀ O H vx, (∀ b ∈ O, H b ≠ none) → Dp K (msk O H) vx x → ∀ Q : VK, (∀ v z H', Ψ z → Ext H H' → Dp K (msk O H') v z → Q v H') → r vx H Q
def RC (r : List V → Hp → VK → Prop) (K : PySem.W.Frag) (xs : List PyData) (Ψ : PyData → Prop) : Prop :=
  ∀ O H vs, (∀ b ∈ O, H b ≠ none) → DpAll K (msk O H) vs xs → ∀ Q : VK, (∀ v z H', Ψ z → Ext H H' → Dp K (msk O H') v z → Q v H') → r vs H Q
end DL
namespace DL
open PySem L2
section
variable {K : PySem.W.Frag} {n : Nat} {O O1 : List Addr} {σ : L2.St} {ρ ρ1 : Rho} {H H1 : Hp} {ta tb tc te : TE} {tt tu : TT} {Φ : PD} {F : DE}

def NoLst (ρ : Rho) (j : Nat) : Prop := ∀ ds, ρ[j]? ≠ some (some (.lst ds))
theorem stp_set {j : Nat} {v : V} {d : PyData} (E : Envs K O σ ρ H) (h : Dp K (msk O H) v d) (hp : n ≤ j ∨ NoLst ρ j) : Stp K n O σ ρ H O (σ.set j (some v)) (ρ.set j (some (.val d))) H where
  sub := fun _ h => h
  new := fun _ h => .inl h
  le := fun _ _ _ h => h
  env := ⟨by rw [List.length_set, List.length_set, E.len], fun i x e h1 h2 => by
    by_cases hij : j = i
    · subst hij
      have hl : j < ρ.length := by
        have := (List.getElem?_eq_some_iff.mp h2).1
        simpa using this
      rw [List.getElem?_set_self hl] at h2
      rw [List.getElem?_set_self (by rw [E.len]; exact hl)] at h1
      cases h1; cases h2
      exact h
    · rw [List.getElem?_set_ne hij] at h1 h2
      exact E.ok i x e h1 h2, E.al, fun i k p ds es h1 h2 h3 h4 => by
    by_cases hij : j = i
    · subst hij
      have hl : j < ρ.length := by
        have := (List.getElem?_eq_some_iff.mp h2).1
        simpa using this
      rw [List.getElem?_set_self hl] at h2
      cases h2
    · by_cases hjk : j = k
      · subst hjk
        have hl : j < ρ.length := by
          have := (List.getElem?_eq_some_iff.mp h4).1
          simpa using this
        rw [List.getElem?_set_self hl] at h4
        cases h4
      · rw [List.getElem?_set_ne hij] at h1 h2
        rw [List.getElem?_set_ne hjk] at h3 h4
        exact E.dis i k p ds es h1 h2 h3 h4⟩
  own := fun b ⟨i, ds, h1, h2⟩ => by
    by_cases hij : j = i
    · subst hij
      have hl : j < ρ.length := by
        have := (List.getElem?_eq_some_iff.mp h2).1
        simpa using this
      rw [List.getElem?_set_self hl] at h2
      cases h2
    · rw [List.getElem?_set_ne hij] at h1 h2
      exact .inl ⟨i, ds, h1, h2⟩
  pin := fun i ds hi h => by
    have hij : j ≠ i := by
      rintro rfl
      rcases hp with hp | hp
      · omega
      · exact hp ds h
    rw [List.getElem?_set_ne hij, List.getElem?_set_ne hij]
    exact ⟨rfl, ds, h⟩
/-- a slot is forgotten -/
theorem env_drop {j : Nat} {x : Option V} (E : Envs K O σ ρ H) : Envs K O (σ.set j x) (ρ.set j none) H :=
  ⟨by rw [List.length_set, List.length_set, E.len], fun i y e h1 h2 => by
    by_cases hij : j = i
    · subst hij
      have hl : j < ρ.length := by
        have := (List.getElem?_eq_some_iff.mp h2).1
        simpa using this
      rw [List.getElem?_set_self hl] at h2
      cases h2
    · rw [List.getElem?_set_ne hij] at h1 h2
      exact E.ok i y e h1 h2, E.al, fun i k p ds es h1 h2 h3 h4 => by
    by_cases hij : j = i
    · subst hij
      have hl : j < ρ.length := by
        have := (List.getElem?_eq_some_iff.mp h2).1
        simpa using this
      rw [List.getElem?_set_self hl] at h2
      cases h2
    · by_cases hjk : j = k
      · subst hjk
        have hl : j < ρ.length := by
          have := (List.getElem?_eq_some_iff.mp h4).1
          simpa using this
        rw [List.getElem?_set_self hl] at h4
        cases h4
      · rw [List.getElem?_set_ne hij] at h1 h2
        rw [List.getElem?_set_ne hjk] at h3 h4
        exact E.dis i k p ds es h1 h2 h3 h4⟩
theorem env_get {i : Nat} {d : PyData} (E : Envs K O σ ρ H) (h : ρ[i]? = some (some (.val d))) : ∃ v, σ[i]? = some (some v) ∧ Dp K (msk O H) v d := by
  have hl : i < σ.length := by rw [E.len]; exact (List.getElem?_eq_some_iff.mp h).1
  have h1 : σ[i]? = some σ[i] := List.getElem?_eq_getElem hl
  have q := E.ok i _ _ h1 h
  cases e : σ[i] with
  | none => rw [e] at q; exact q.elim
  | some v => rw [e] at q h1; exact ⟨v, h1, q⟩
theorem env_lst {i : Nat} {ds : List PyData} (E : Envs K O σ ρ H) (h : ρ[i]? = some (some (.lst ds))) : ∃ p vs, σ[i]? = some (some (.ref p)) ∧ p ∈ O ∧ H p = some (.lst vs) ∧ DpAll K (msk O H) vs ds := by
  have hl : i < σ.length := by rw [E.len]; exact (List.getElem?_eq_some_iff.mp h).1
  have h1 : σ[i]? = some σ[i] := List.getElem?_eq_getElem hl
  obtain ⟨p, e, hp, vs, q, r⟩ := lst_val (E.ok i _ _ h1 h)
  rw [e] at h1
  exact ⟨p, vs, h1, hp, q, r⟩
/-- an owned list changed -/
theorem stp_write {i : Nat} {p : Addr} {ds es : List PyData} {vs : List V} (E : Envs K O σ ρ H) (h : ρ[i]? = some (some (.lst ds))) (hσ : σ[i]? = some (some (.ref p))) (q : DpAll K (msk O H) vs es) :
    Stp K n O σ ρ H O σ (ρ.set i (some (.lst es))) (upd H p (.lst vs)) := by
  obtain ⟨p', vs0, hσ', hp, hH, hd⟩ := env_lst E h
  rw [hσ] at hσ'; cases hσ'
  have hl : i < ρ.length := (List.getElem?_eq_some_iff.mp h).1
  have em : msk O (upd H p (.lst vs)) = msk O H := by
    funext b
    unfold msk
    by_cases hb : b ∈ O
    · rw [if_pos hb, if_pos hb]
    · rw [if_neg hb, if_neg hb, upd_ne (fun e : b = p => hb (by rw [e]; exact hp))]
  refine ⟨fun _ h => h, fun _ h => .inl h, fun b o nb hb => ?_, ⟨by rw [List.length_set]; exact E.len, fun j x e h1 h2 => ?_, fun b hb => ?_, fun j k r d1 d2 h1 h2 h3 h4 => ?_⟩, fun b ⟨j, d1, h1, h2⟩ => ?_, fun j d1 hj h2 => ?_⟩
  · rw [upd_ne (fun e : b = p => nb ⟨i, ds, by rw [e]; exact hσ, h⟩)]; exact hb
  · by_cases hij : i = j
    · subst hij
      rw [List.getElem?_set_self hl] at h2
      cases h2
      rw [hσ] at h1; cases h1
      exact ⟨hp, vs, upd_same, by rw [em]; exact q⟩
    · rw [List.getElem?_set_ne hij] at h2
      have w := E.ok j x e h1 h2
      cases e with
      | val d =>
        cases x with
        | none => exact w.elim
        | some v => exact (show Dp K (msk O (upd H p (.lst vs))) v d by rw [em]; exact w)
      | lst d2 =>
        obtain ⟨r, rfl, hr, ws, hw, hd2⟩ := lst_val w
        refine ⟨hr, ws, ?_, by rw [em]; exact hd2⟩
        rw [upd_ne (fun e : r = p => hij (E.dis i j p ds d2 hσ h (by rw [← e]; exact h1) h2))]
        exact hw
  · by_cases e : b = p
    · subst e; rw [upd_same]; exact fun z => nomatch z
    · rw [upd_ne e]; exact E.al b hb
  · by_cases hij : i = j
    · subst hij
      by_cases hik : i = k
      · exact hik
      · rw [List.getElem?_set_ne hik] at h4
        rw [hσ] at h1; cases h1
        exact E.dis i k p ds d2 hσ h h3 h4
    · rw [List.getElem?_set_ne hij] at h2
      by_cases hik : i = k
      · subst hik
        rw [hσ] at h3; cases h3
        exact E.dis j i p d1 ds h1 h2 hσ h
      · rw [List.getElem?_set_ne hik] at h4
        exact E.dis j k r d1 d2 h1 h2 h3 h4
  · by_cases hij : i = j
    · subst hij
      exact .inl ⟨i, ds, h1, h⟩
    · rw [List.getElem?_set_ne hij] at h2
      exact .inl ⟨j, d1, h1, h2⟩
  · refine ⟨rfl, ?_⟩
    by_cases hij : i = j
    · subst hij
      exact ⟨es, List.getElem?_set_self hl⟩
    · rw [List.getElem?_set_ne hij]
      exact ⟨d1, h2⟩
/-- a fresh list becomes a name's own -/
theorem stp_own {j : Nat} {p : Addr} {ds : List PyData} {vs : List V} (E : Envs K O σ ρ H) (np : p ∉ O) (hH : H p = some (.lst vs)) (q : DpAll K (msk (p :: O) H) vs ds)
    (nown : ∀ (i : Nat) (es : List PyData), σ[i]? = some (some (.ref p)) → ρ[i]? ≠ some (some (.lst es))) (nval : ∀ (i : Nat) (v : V) (d : PyData), σ[i]? = some (some v) → ρ[i]? = some (some (.val d)) → Dp K (msk (p :: O) H) v d)
    (nlst : ∀ (i : Nat) (r : Addr) (es : List PyData), σ[i]? = some (some (.ref r)) → ρ[i]? = some (some (.lst es)) → ∃ ws, H r = some (.lst ws) ∧ DpAll K (msk (p :: O) H) ws es) :
    Envs K (p :: O) (σ.set j (some (.ref p))) (ρ.set j (some (.lst ds))) H := by
  refine ⟨by rw [List.length_set, List.length_set, E.len], fun i x e h1 h2 => ?_, fun b hb => ?_, fun i k r d1 d2 h1 h2 h3 h4 => ?_⟩
  · by_cases hij : j = i
    · subst hij
      have hl : j < ρ.length := by
        have := (List.getElem?_eq_some_iff.mp h2).1
        simpa using this
      rw [List.getElem?_set_self hl] at h2
      rw [List.getElem?_set_self (by rw [E.len]; exact hl)] at h1
      cases h1; cases h2
      exact ⟨List.mem_cons_self, vs, hH, q⟩
    · rw [List.getElem?_set_ne hij] at h1 h2
      have w := E.ok i x e h1 h2
      cases e with
      | val d =>
        cases x with
        | none => exact w.elim
        | some v => exact nval i v d h1 h2
      | lst es =>
        obtain ⟨r, rfl, hr, _⟩ := lst_val w
        obtain ⟨ws, a, b⟩ := nlst i r es h1 h2
        exact ⟨List.mem_cons_of_mem _ hr, ws, a, b⟩
  · rcases List.mem_cons.mp hb with rfl | hb
    · rw [hH]; exact fun z => nomatch z
    · exact E.al b hb
  · by_cases hij : j = i
    · subst hij
      have hl : j < ρ.length := by
        have := (List.getElem?_eq_some_iff.mp h2).1
        simpa using this
      rw [List.getElem?_set_self (by rw [E.len]; exact hl)] at h1
      cases h1
      by_cases hjk : j = k
      · exact hjk
      · rw [List.getElem?_set_ne hjk] at h3 h4
        exact absurd h4 (nown k d2 h3)
    · rw [List.getElem?_set_ne hij] at h1 h2
      by_cases hjk : j = k
      · subst hjk
        have hl : j < ρ.length := by
          have := (List.getElem?_eq_some_iff.mp h4).1
          simpa using this
        rw [List.getElem?_set_self (by rw [E.len]; exact hl)] at h3
        cases h3
        exact absurd h2 (nown i d1 h1)
      · rw [List.getElem?_set_ne hjk] at h3 h4
        exact E.dis i k r d1 d2 h1 h2 h3 h4

/-! ### expressions -/
theorem dw_var {i : Nat} {d : PyData} (h : ρ[i]? = some (some (.val d))) (k : Φ d ρ) : DW K n (tVar i) ρ Φ := fun O σ H E Q q => by
  obtain ⟨v, h1, h2⟩ := env_get E h
  exact ⟨v, h1, q v d ρ O H k (Stp.refl E) h2⟩
theorem dw_int {i : Int} (k : Φ (.int i) ρ) : DW K n (tC (.int i)) ρ Φ := fun O σ H E Q q => q _ _ ρ O H k (Stp.refl E) (.int i)
theorem dw_bl {i : Bool} (k : Φ (.bool i) ρ) : DW K n (tC (.bl i)) ρ Φ := fun O σ H E Q q => q _ _ ρ O H k (Stp.refl E) (.bl i)
theorem dw_str {i : Str} (k : Φ (.str i) ρ) : DW K n (tC (.str i)) ρ Φ := fun O σ H E Q q => q _ _ ρ O H k (Stp.refl E) (.str i)
theorem dw_non (k : Φ .none ρ) : DW K n (tC .non) ρ Φ := fun O σ H E Q q => q _ _ ρ O H k (Stp.refl E) .non
theorem DW.mono {Ψ : PD} (h : DW K n te ρ Φ) (m : ∀ d ρ', Φ d ρ' → Ψ d ρ') : DW K n te ρ Ψ := fun O σ H E Q q => h O σ H E Q fun v d ρ' O' H' p => q v d ρ' O' H' (m d ρ' p)
theorem dw_op {r : R2} (h : DW K n ta ρ fun x ρ1 => DW K n tb ρ1 fun y ρ2 => RD r K x y fun z => Φ z ρ2) : DW K n (tOp r ta tb) ρ Φ := fun O σ H E Q q =>
  h O σ H E _ fun v x ρ1 O1 H1 hb S1 r1 => hb O1 σ H1 S1.env _ fun u y ρ2 O2 H2 hr S2 r2 => hr O2 H2 v u S2.env.al (S2.dp S1.env r1) r2 Q fun w z H3 hz e r3 =>
    q w z ρ2 O2 H3 hz ((S1.trans E S2).trans E (Stp.grow S2.env e)) r3
theorem dw_un {r : V → Hp → VK → Prop} (h : DW K n ta ρ fun x ρ1 => RU r K x fun z => Φ z ρ1) : DW K n (tUn r ta) ρ Φ := fun O σ H E Q q =>
  h O σ H E _ fun v x ρ1 O1 H1 hr S1 r1 => hr O1 H1 v S1.env.al r1 Q fun w z H3 hz e r3 => q w z ρ1 O1 H3 hz (S1.trans E (Stp.grow S1.env e)) r3
theorem da_nil {Ψ : List PyData → Rho → Prop} (k : Ψ [] ρ) : DA K n tNil ρ Ψ := fun O σ H E Q q => q [] [] ρ O H k (Stp.refl E) .nil
theorem da_cons {tr : TA} {Ψ : List PyData → Rho → Prop} (h : DW K n ta ρ fun x ρ1 => DA K n tr ρ1 fun xs ρ2 => Ψ (x :: xs) ρ2) : DA K n (tCons ta tr) ρ Ψ := fun O σ H E Q q =>
  h O σ H E _ fun v x ρ1 O1 H1 hb S1 r1 => hb O1 σ H1 S1.env _ fun us ys ρ2 O2 H2 hr S2 r2 => q (v :: us) (x :: ys) ρ2 O2 H2 hr (S1.trans E S2) (.cons (S2.dp S1.env r1) r2)
theorem dw_cb {r : List V → Hp → VK → Prop} {t : TA} (h : DA K n t ρ fun xs ρ1 => RC r K xs fun z => Φ z ρ1) : DW K n (tCB r t) ρ Φ := fun O σ H E Q q =>
  h O σ H E _ fun vs xs ρ1 O1 H1 hr S1 r1 => hr O1 H1 vs S1.env.al r1 Q fun w z H3 hz e r3 => q w z ρ1 O1 H3 hz (S1.trans E (Stp.grow S1.env e)) r3
theorem dw_if (h : DT K n tt ρ fun b ρ1 => (b = true → DW K n ta ρ1 Φ) ∧ (b = false → DW K n tb ρ1 Φ)) : DW K n (tIf tt ta tb) ρ Φ := fun O σ H E Q q =>
  h O σ H E _ fun b ρ1 O1 H1 hk S1 => by
    cases b with
    | true => exact hk.1 rfl O1 σ H1 S1.env Q fun v d ρ2 O2 H2 p S2 r => q v d ρ2 O2 H2 p (S1.trans E S2) r
    | false => exact hk.2 rfl O1 σ H1 S1.env Q fun v d ρ2 O2 H2 p S2 r => q v d ρ2 O2 H2 p (S1.trans E S2) r
theorem dp_bl {O : List Addr} {v : V} {b : Bool} (h : Dp K (msk O H) v (.bool b)) : v = .bl b := by cases h; rfl
theorem dp_int {O : List Addr} {v : V} {b : Int} (h : Dp K (msk O H) v (.int b)) : v = .int b := by cases h; rfl
theorem dp_str {O : List Addr} {v : V} {b : Str} (h : Dp K (msk O H) v (.str b)) : v = .str b := by cases h; rfl
theorem dw_andV (h : DW K n ta ρ fun x ρ1 => ∃ c, x = .bool c ∧ (c = true → DW K n tb ρ1 Φ) ∧ (c = false → Φ (.bool false) ρ1)) : DW K n (tAndV ta tb) ρ Φ := fun O σ H E Q q =>
  h O σ H E _ fun v d ρ1 O1 H1 ⟨c, e, h1, h2⟩ S1 r1 => by
    subst e
    refine ⟨c, dp_bl r1, ?_⟩
    cases c with
    | true => exact h1 rfl O1 σ H1 S1.env Q fun v d ρ2 O2 H2 p S2 r => q v d ρ2 O2 H2 p (S1.trans E S2) r
    | false => exact q _ _ ρ1 O1 H1 (h2 rfl) S1 (.bl false)
theorem dw_orV (h : DW K n ta ρ fun x ρ1 => ∃ c, x = .bool c ∧ (c = false → DW K n tb ρ1 Φ) ∧ (c = true → Φ (.bool true) ρ1)) : DW K n (tOrV ta tb) ρ Φ := fun O σ H E Q q =>
  h O σ H E _ fun v d ρ1 O1 H1 ⟨c, e, h1, h2⟩ S1 r1 => by
    subst e
    refine ⟨c, dp_bl r1, ?_⟩
    cases c with
    | false => exact h1 rfl O1 σ H1 S1.env Q fun v d ρ2 O2 H2 p S2 r => q v d ρ2 O2 H2 p (S1.trans E S2) r
    | true => exact q _ _ ρ1 O1 H1 (h2 rfl) S1 (.bl true)
theorem dw_notV (h : DW K n ta ρ fun x ρ1 => ∃ c, x = .bool c ∧ Φ (.bool (!c)) ρ1) : DW K n (tNotV ta) ρ Φ := fun O σ H E Q q =>
  h O σ H E _ fun v d ρ1 O1 H1 ⟨c, e, h1⟩ S1 r1 => by
    subst e
    exact ⟨c, dp_bl r1, q _ _ ρ1 O1 H1 h1 S1 (.bl _)⟩
theorem fresh_no {O : List Addr} {H : Hp} {p : Addr} (al : ∀ b ∈ O, H b ≠ none) (hp : H p = none) : p ∉ O := fun h => al p h hp
theorem dw_tup {t : TA} (h : DA K n t ρ fun xs ρ1 => xs.length ≤ 100000 ∧ Φ (.tuple xs) ρ1) : DW K n (tTup t) ρ Φ := fun O σ H E Q q =>
  h O σ H E _ fun vs xs ρ1 O1 H1 ⟨hl, hk⟩ S1 r1 => ⟨Nat.le_trans (Nat.le_of_eq (dpa_len r1)) (Nat.le_trans hl (by decide)), fun p hp => by
    have np := fresh_no S1.env.al hp
    exact q _ _ ρ1 O1 _ hk (S1.trans E (Stp.grow S1.env (Ext.new hp))) (.tup (SqT.of (msk_of np upd_same)) (dpa_ext (msk_ext (Ext.new hp)) r1))⟩
/-- a < b < c -/
theorem dw_chain {r r' : R2} (h : DW K n ta ρ fun x ρ1 => DW K n tb ρ1 fun y ρ2 => RD r K x y fun z => ∃ k, z = .bool k ∧ (k = true → DW K n tc ρ2 fun w ρ3 => RD r' K y w fun z' => Φ z' ρ3) ∧ (k = false → Φ (.bool false) ρ2)) : DW K n (tChain r r' ta tb tc) ρ Φ := by
  intro O σ H E Q q
  refine h O σ H E _ fun v x ρ1 O1 H1 hb S1 r1 => hb O1 σ H1 S1.env _ fun u y ρ2 O2 H2 hr S2 r2 => hr O2 H2 v u S2.env.al (S2.dp S1.env r1) r2 _ fun w z H3 hz e r3 => ?_
  obtain ⟨k, rfl, ht, hf⟩ := hz
  refine ⟨k, dp_bl r3, ?_⟩
  have S3 := Stp.grow (n := n) S2.env e
  have S123 := (S1.trans E S2).trans E S3
  cases k with
  | true =>
    refine ht rfl O2 σ H3 S3.env _ fun w2 y2 ρ4 O4 H4 hr4 S4 r4 => ?_
    exact hr4 O4 H4 u w2 S4.env.al (S4.dp S3.env (S3.dp S2.env r2)) r4 Q fun v5 z5 H5 hz5 e5 r5 => q v5 z5 ρ4 O4 H5 hz5 ((S123.trans E S4).trans E (Stp.grow S4.env e5)) r5
  | false => exact q _ _ ρ2 O2 H3 (hf rfl) S123 (.bl false)

/-! ### tests -/
theorem dt_test {Ψ : Bool → Rho → Prop} (h : DW K n te ρ fun d ρ1 => ∃ b, d = .bool b ∧ Ψ b ρ1) : DT K n (tTest te) ρ Ψ := fun O σ H E Q q =>
  h O σ H E _ fun v d ρ1 O1 H1 ⟨b, e, hk⟩ S r => by
    subst e
    exact ⟨b, dp_bl r, q b ρ1 O1 H1 hk S⟩
theorem dt_B {Ψ : Bool → Rho → Prop} (h : DW K n te ρ fun d ρ1 => ∃ b, d = .bool b ∧ Ψ b ρ1) : DT K n (tB te) ρ Ψ := fun O σ H E Q q =>
  h O σ H E _ fun v d ρ1 O1 H1 ⟨b, e, hk⟩ S r => by
    subst e
    exact ⟨b, dp_bl r, q b ρ1 O1 H1 hk S⟩
theorem dt_and {Ψ : Bool → Rho → Prop} (h : DT K n tt ρ fun b ρ1 => (b = true → DT K n tu ρ1 Ψ) ∧ (b = false → Ψ false ρ1)) : DT K n (tAnd tt tu) ρ Ψ := fun O σ H E Q q =>
  h O σ H E _ fun b ρ1 O1 H1 ⟨h1, h2⟩ S => by
    cases b with
    | true => exact h1 rfl O1 σ H1 S.env Q fun b ρ2 O2 H2 p S2 => q b ρ2 O2 H2 p (S.trans E S2)
    | false => exact q false ρ1 O1 H1 (h2 rfl) S
theorem dt_or {Ψ : Bool → Rho → Prop} (h : DT K n tt ρ fun b ρ1 => (b = false → DT K n tu ρ1 Ψ) ∧ (b = true → Ψ true ρ1)) : DT K n (tOr tt tu) ρ Ψ := fun O σ H E Q q =>
  h O σ H E _ fun b ρ1 O1 H1 ⟨h1, h2⟩ S => by
    cases b with
    | false => exact h1 rfl O1 σ H1 S.env Q fun b ρ2 O2 H2 p S2 => q b ρ2 O2 H2 p (S.trans E S2)
    | true => exact q true ρ1 O1 H1 (h2 rfl) S
theorem dt_not {Ψ : Bool → Rho → Prop} (h : DT K n tt ρ fun b ρ1 => Ψ (!b) ρ1) : DT K n (tNot tt) ρ Ψ := fun O σ H E Q q =>
  h O σ H E _ fun b ρ1 O1 H1 hk S => q (!b) ρ1 O1 H1 hk S
theorem dt_yes {Ψ : Bool → Rho → Prop} (h : Ψ true ρ) : DT K n tYes ρ Ψ := fun O σ H E Q q => q true ρ O H h (Stp.refl E)
end
end DL
namespace DL
open PySem L2
abbrev PF := List PyData → Rho → Prop
/-- te makes a fresh list -/
def DF (K : PySem.W.Frag) (n : Nat) (te : TE) (ρ : Rho) (Φ : PF) : Prop :=
  ∀ O σ H, Envs K O σ ρ H → ∀ Q : VK, (∀ p vs ds ρ' O' H', Φ ds ρ' → Stp K n O σ ρ H (p :: O') σ ρ' H' → p ∉ O' → ¬ Owns σ ρ' p → H p = none → H' p = some (.lst vs) → DpAll K (msk (p :: O') H') vs ds → Q (.ref p) H') → te σ H Q
def OwnsL (n : Nat) (σ : L2.St) (ρ : Rho) (p : Addr) : Prop := ∃ (i : Nat) (ds : List PyData), n ≤ i ∧ σ[i]? = some (some (.ref p)) ∧ ρ[i]? = some (some (.lst ds))
structure DE2 extends DE where
  rf : PF := fun _ _ => False
def DSx (K : PySem.W.Frag) (n : Nat) (ts : TS) (ρ : Rho) (F : DE2) : Prop :=
  ∀ O σ H, Envs K O σ ρ H → ∀ D : Ends,
    (∀ O' σ' ρ' H', F.nx ρ' → Stp K n O σ ρ H O' σ' ρ' H' → D.nx σ' H') →
    (∀ v d O' σ' ρ' H', F.rt d ρ' → Stp K n O σ ρ H O' σ' ρ' H' → Dp K (msk O' H') v d → D.rt v H') →
    (∀ p vs ds O' σ' ρ' H', F.rf ds ρ' → Stp K n O σ ρ H O' σ' ρ' H' → p ∈ O' → ¬ Owns σ' ρ' p → (H p = none ∨ OwnsL n σ ρ p) → H' p = some (.lst vs) → DpAll K (msk O' H') vs ds → D.rt (.ref p) H') →
    (∀ O' σ' ρ' H', F.bk ρ' → Stp K n O σ ρ H O' σ' ρ' H' → D.bk σ' H') →
    (∀ O' σ' ρ' H', F.ct ρ' → Stp K n O σ ρ H O' σ' ρ' H' → D.ct σ' H') → ts D σ H
section
variable {K : PySem.W.Frag} {n : Nat} {O O1 : List Addr} {σ : L2.St} {ρ ρ1 : Rho} {H H1 : Hp} {ta tb tc te : TE} {tt tu : TT} {Φ : PD} {F : DE2} {ts us : TS} {Φf : PF}
theorem ownsL_back {O1 : List Addr} {σ1 : L2.St} {ρ1 : Rho} {H1 : Hp} {p : Addr} (S : Stp K n O σ ρ H O1 σ1 ρ1 H1) (w : OwnsL n σ1 ρ1 p) : H p = none ∨ OwnsL n σ ρ p := by
  obtain ⟨i, ds, hi, h1, h2⟩ := w
  rcases S.own p ⟨i, ds, h1, h2⟩ with ⟨j, es, h3, h4⟩ | h
  · by_cases hj : j < n
    · obtain ⟨e, ds', h5⟩ := S.pin j es hj h4
      have := S.env.dis j i p ds' ds (e.trans h3) h5 h1 h2
      omega
    · exact .inr ⟨j, es, by omega, h3, h4⟩
  · exact .inl h
theorem ownsL_back2 {O1 : List Addr} {σ1 : L2.St} {ρ1 : Rho} {H1 : Hp} {p : Addr} (E : Envs K O σ ρ H) (S : Stp K n O σ ρ H O1 σ1 ρ1 H1) (w : H1 p = none ∨ OwnsL n σ1 ρ1 p) : H p = none ∨ OwnsL n σ ρ p := by
  rcases w with w | w
  · exact .inl (S.none_back (fun z => S.env.al p (S.sub p z) w) w E)
  · exact ownsL_back S w
theorem env_forget {j : Nat} (E : Envs K O σ ρ H) : Envs K O σ (ρ.set j none) H :=
  ⟨by rw [List.length_set, E.len], fun i y e h1 h2 => by
    by_cases hij : j = i
    · subst hij
      have hl : j < ρ.length := by
        have := (List.getElem?_eq_some_iff.mp h2).1
        simpa using this
      rw [List.getElem?_set_self hl] at h2
      cases h2
    · rw [List.getElem?_set_ne hij] at h2
      exact E.ok i y e h1 h2, E.al, fun i k p ds es h1 h2 h3 h4 => by
    by_cases hij : j = i
    · subst hij
      have hl : j < ρ.length := by
        have := (List.getElem?_eq_some_iff.mp h2).1
        simpa using this
      rw [List.getElem?_set_self hl] at h2
      cases h2
    · by_cases hjk : j = k
      · subst hjk
        have hl : j < ρ.length := by
          have := (List.getElem?_eq_some_iff.mp h4).1
          simpa using this
        rw [List.getElem?_set_self hl] at h4
        cases h4
      · rw [List.getElem?_set_ne hij] at h2
        rw [List.getElem?_set_ne hjk] at h4
        exact E.dis i k p ds es h1 h2 h3 h4⟩
theorem owns_forget {j : Nat} {p : Addr} (w : Owns σ (ρ.set j none) p) : ∃ i ds, i ≠ j ∧ σ[i]? = some (some (.ref p)) ∧ ρ[i]? = some (some (.lst ds)) := by
  obtain ⟨i, ds, h1, h2⟩ := w
  by_cases hij : j = i
  · subst hij
    have hl : j < ρ.length := by
      have := (List.getElem?_eq_some_iff.mp h2).1
      simpa using this
    rw [List.getElem?_set_self hl] at h2
    cases h2
  · rw [List.getElem?_set_ne hij] at h2
    exact ⟨i, ds, fun e => hij e.symm, h1, h2⟩
theorem stp_forget {j : Nat} (E : Envs K O σ ρ H) (hj : n ≤ j) : Stp K n O σ ρ H O σ (ρ.set j none) H where
  sub := fun _ h => h
  new := fun _ h => .inl h
  le := fun _ _ _ h => h
  env := env_forget E
  own := fun b w => by
    obtain ⟨i, ds, _, h1, h2⟩ := owns_forget w
    exact .inl ⟨i, ds, h1, h2⟩
  pin := fun i es hi h => by
    refine ⟨rfl, es, ?_⟩
    rw [List.getElem?_set_ne (by omega)]
    exact h
theorem msk_cons_le {p : Addr} {O : List Addr} {H : Hp} : Ext (msk (p :: O) H) (msk O H) := fun b o h => by
  obtain ⟨nb, h⟩ := msk_some h
  exact msk_of (fun hb => nb (List.mem_cons_of_mem _ hb)) h
theorem env_unown {p : Addr} (E : Envs K (p :: O) σ ρ H) (np : p ∉ O) (no : ¬ Owns σ ρ p) : Envs K O σ ρ H :=
  ⟨E.len, fun i x e h1 h2 => by
    have w := E.ok i x e h1 h2
    cases e with
    | val d =>
      cases x with
      | none => exact w.elim
      | some v => exact dp_ext msk_cons_le (show Dp K (msk (p :: O) H) v d from w)
    | lst ds =>
      obtain ⟨r, rfl, hr, vs, hv, hd⟩ := lst_val w
      refine ⟨?_, vs, hv, dpa_ext msk_cons_le hd⟩
      rcases List.mem_cons.mp hr with rfl | hr
      · exact absurd ⟨i, ds, h1, h2⟩ no
      · exact hr, fun b hb => E.al b (List.mem_cons_of_mem _ hb), E.dis⟩
theorem stp_unown {p : Addr} {σ1 : L2.St} {H1 : Hp} (S : Stp K n O σ ρ H (p :: O1) σ1 ρ1 H1) (np : p ∉ O1) (no : ¬ Owns σ1 ρ1 p) (hp : p ∉ O) : Stp K n O σ ρ H O1 σ1 ρ1 H1 where
  sub := fun b hb => by
    rcases List.mem_cons.mp (S.sub b hb) with rfl | h
    · exact absurd hb hp
    · exact h
  new := fun b hb => S.new b (List.mem_cons_of_mem _ hb)
  le := S.le
  env := env_unown S.env np no
  own := S.own
  pin := S.pin
theorem fresh_notin {p : Addr} (E : Envs K O σ ρ H) (hp : H p = none) : p ∉ O := fun h => E.al p h hp
theorem dw_fresh (h : DF K n te ρ fun ds ρ' => Φ (.list ds) ρ') : DW K n te ρ Φ := fun O σ H E Q q =>
  h O σ H E Q fun p vs ds ρ' O' H' hk S np no hp hH hd => q _ _ ρ' O' H' hk (stp_unown S np no (fresh_notin E hp)) (.lst (SqL.of (msk_of np hH)) (dpa_ext msk_cons_le hd))
/-- at a fresh address nothing else stands -/
theorem fresh_ext {O : List Addr} {H : Hp} {p : Addr} {o : HO} (hp : H p = none) : Ext (msk O H) (msk (p :: O) (upd H p o)) := fun b u h => by
  obtain ⟨nb, h⟩ := msk_some h
  have nbp : b ≠ p := fun e => by rw [e, hp] at h; cases h
  refine msk_of (fun hb => ?_) (by rw [upd_ne nbp]; exact h)
  rcases List.mem_cons.mp hb with e | e
  · exact nbp e
  · exact nb e
theorem not_owned {p : Addr} (E : Envs K O σ ρ H) (hp : H p = none) : ¬ Owns σ ρ p := fun w => E.al p (E.ownO w) hp
theorem stp_alloc {p : Addr} {o : HO} (E : Envs K O σ ρ H) (hp : H p = none) : Stp K n O σ ρ H (p :: O) σ ρ (upd H p o) where
  sub := fun b hb => List.mem_cons_of_mem _ hb
  new := fun b hb => by
    rcases List.mem_cons.mp hb with rfl | hb
    · exact .inr hp
    · exact .inl hb
  le := fun b u _ h => Ext.new hp b u h
  env := ⟨E.len, fun i x e h1 h2 => by
    have w := E.ok i x e h1 h2
    cases e with
    | val d =>
      cases x with
      | none => exact w.elim
      | some v => exact dp_ext (fresh_ext hp) (show Dp K (msk O H) v d from w)
    | lst ds =>
      obtain ⟨r, rfl, hr, vs, hv, hd⟩ := lst_val w
      exact ⟨List.mem_cons_of_mem _ hr, vs, Ext.new hp r _ hv, dpa_ext (fresh_ext hp) hd⟩, fun b hb => by
    by_cases e : b = p
    · rw [e, upd_same]; exact fun z => nomatch z
    · rw [upd_ne e]
      rcases List.mem_cons.mp hb with z | z
      · exact absurd z e
      · exact E.al b z, E.dis⟩
  own := fun _ h => .inl h
  pin := fun i ds _ h => ⟨rfl, ds, h⟩
theorem df_lst {t : TA} {Ψ : PF} (h : DA K n t ρ fun xs ρ1 => xs.length ≤ 100000 ∧ Ψ xs ρ1) : DF K n (tLst t) ρ Ψ := fun O σ H E Q q =>
  h O σ H E _ fun vs xs ρ1 O1 H1 ⟨hl, hk⟩ S1 r1 => ⟨Nat.le_trans (Nat.le_of_eq (dpa_len r1)) (Nat.le_trans hl (by decide)), fun p hp => by
    have np := fresh_no S1.env.al hp
    have np0 : p ∉ O := fun h => np (S1.sub p h)
    exact q p vs xs ρ1 O1 _ hk (S1.trans E (stp_alloc S1.env hp)) np (not_owned S1.env hp) (S1.none_back np0 hp E) upd_same (dpa_ext (fresh_ext hp) r1)⟩

/-! ### what a loop goes over -/
structure Src (K : PySem.W.Frag) (J : It) (O : List Addr) (H : Hp) (ds : List PyData) : Prop where
  go : ∀ O' H' i, Ext (msk O H) (msk O' H') → i < ds.length → J.go i H'
  stop : ∀ O' H' i, Ext (msk O H) (msk O' H') → ds.length ≤ i → J.stop i H'
  yld : ∀ O' H' i x H'' d, Ext (msk O H) (msk O' H') → (∀ b ∈ O', H' b ≠ none) → J.yld i H' x H'' → ds[i]? = some d → Ext H' H'' ∧ Dp K (msk O' H'') x d
def DI (K : PySem.W.Frag) (n : Nat) (wi : TI) (ρ : Rho) (Φ : PF) : Prop :=
  ∀ O σ H, Envs K O σ ρ H → ∀ R : It → Hp → Prop, (∀ J ds ρ' O' H', Φ ds ρ' → Stp K n O σ ρ H O' σ ρ' H' → Src K J O' H' ds → R J H') → wi σ H R
theorem msk_l {O : List Addr} {H : Hp} {a : Addr} {xs : List V} (h : SqL K (msk O H) a xs) : SqL K H a xs := msk_le.l h
theorem msk_t {O : List Addr} {H : Hp} {a : Addr} {xs : List V} (h : SqT K (msk O H) a xs) : SqT K H a xs := msk_le.t h
theorem src_tup {a : Addr} {O : List Addr} {H : Hp} {ds : List PyData} {vs : List V} (h : SqT K (msk O H) a vs) (hd : DpAll K (msk O H) vs ds) : Src K (Itt K a) O H ds := by
  have hl := dpa_len hd
  refine ⟨fun O' H' i e hi => ⟨vs, vs[i]'(by omega), msk_t (e.t h), by simp⟩, fun O' H' i e hi => ⟨vs, msk_t (e.t h), by omega⟩, fun O' H' i x H'' d e al y hx => ?_⟩
  obtain ⟨rfl, y⟩ := y
  have hx' := y vs (msk_t (e.t h))
  obtain ⟨d', h1, h2⟩ := dpa_get' hd hx'
  rw [hx] at h1; cases h1
  exact ⟨Ext.refl _, dp_ext e h2⟩
theorem src_lst {a : Addr} {O : List Addr} {H : Hp} {ds : List PyData} {vs : List V} (h : SqL K (msk O H) a vs) (hd : DpAll K (msk O H) vs ds) : Src K (Itl K a) O H ds := by
  have hl := dpa_len hd
  refine ⟨fun O' H' i e hi => ⟨vs, vs[i]'(by omega), msk_l (e.l h), by simp⟩, fun O' H' i e hi => ⟨vs, msk_l (e.l h), by omega⟩, fun O' H' i x H'' d e al y hx => ?_⟩
  obtain ⟨rfl, y⟩ := y
  have hx' := y vs (msk_l (e.l h))
  obtain ⟨d', h1, h2⟩ := dpa_get' hd hx'
  rw [hx] at h1; cases h1
  exact ⟨Ext.refl _, dp_ext e h2⟩
def rngD (lo : Int) (m : Nat) : List PyData := (List.range m).map fun (i : Nat) => PyData.int (lo + (i : Int))
theorem rngD_get {lo : Int} {m i : Nat} {d : PyData} (h : (rngD lo m)[i]? = some d) : i < m ∧ d = .int (lo + (i : Int)) := by
  unfold rngD at h
  rw [List.getElem?_map] at h
  by_cases hi : i < m
  · rw [List.getElem?_range hi] at h
    exact ⟨hi, (Option.some.inj h).symm⟩
  · rw [List.getElem?_eq_none (by simp; omega)] at h; cases h
theorem rngD_len {lo : Int} {m : Nat} : (rngD lo m).length = m := by unfold rngD; simp
theorem src_rng {lo : Int} {m : Nat} {O : List Addr} {H : Hp} : Src K (Itr lo m) O H (rngD lo m) := by
  refine ⟨fun O' H' i e hi => by rw [rngD_len] at hi; exact hi, fun O' H' i e hi => by rw [rngD_len] at hi; exact hi, fun O' H' i x H'' d e al y hx => ?_⟩
  obtain ⟨rfl, rfl⟩ := y
  obtain ⟨_, rfl⟩ := rngD_get hx
  exact ⟨Ext.refl _, .int _⟩
def enumD (ds : List PyData) : List PyData := ds.zipIdx.map fun (p : PyData × Nat) => PyData.tuple [.int (p.2 : Int), p.1]
theorem enumD_get {ds : List PyData} {i : Nat} {d : PyData} (h : (enumD ds)[i]? = some d) : ∃ x, ds[i]? = some x ∧ d = .tuple [.int (i : Int), x] := by
  unfold enumD at h
  rw [List.getElem?_map, List.getElem?_zipIdx] at h
  cases e : ds[i]? with
  | none => rw [e] at h; simp at h
  | some x => rw [e] at h; simp at h; exact ⟨x, rfl, h.symm⟩
theorem enumD_len {ds : List PyData} : (enumD ds).length = ds.length := by unfold enumD; simp
theorem src_enum {a : Addr} {O : List Addr} {H : Hp} {ds : List PyData} {vs : List V} (h : SqL K (msk O H) a vs) (hd : DpAll K (msk O H) vs ds) : Src K (Ite K a) O H (enumD ds) := by
  have hl := dpa_len hd
  refine ⟨fun O' H' i e hi => ⟨vs, vs[i]'(by rw [enumD_len] at hi; omega), msk_l (e.l h), by simp⟩, fun O' H' i e hi => ⟨vs, msk_l (e.l h), by rw [enumD_len] at hi; omega⟩, fun O' H' i x H'' d e al y hx => ?_⟩
  obtain ⟨T, z, rfl, hT, rfl, y⟩ := y
  obtain ⟨w, h1, rfl⟩ := enumD_get hx
  have hx' := y vs (msk_l (e.l h))
  obtain ⟨d', h2, h3⟩ := dpa_get' hd hx'
  rw [h1] at h2; cases h2
  have nT := fresh_no al hT
  exact ⟨Ext.new hT, .tup (SqT.of (msk_of nT upd_same)) (.cons (.int _) (.cons (dp_ext (msk_ext (Ext.new hT)) (dp_ext e h3)) .nil))⟩
theorem di_tup {Ψ : PF} (h : DW K n te ρ fun d ρ1 => ∃ ds, d = .tuple ds ∧ Ψ ds ρ1) : DI K n (iTup K te) ρ Ψ := fun O σ H E R q =>
  h O σ H E _ fun v d ρ1 O1 H1 ⟨ds, e, hk⟩ S r => by
    subst e
    cases r with
    | tup hq hd => exact ⟨_, rfl, ⟨_, msk_t hq⟩, q _ ds ρ1 O1 H1 hk S (src_tup hq hd)⟩
theorem di_lst {Ψ : PF} (h : DW K n te ρ fun d ρ1 => ∃ ds, d = .list ds ∧ Ψ ds ρ1) : DI K n (iList K te) ρ Ψ := fun O σ H E R q =>
  h O σ H E _ fun v d ρ1 O1 H1 ⟨ds, e, hk⟩ S r => by
    subst e
    cases r with
    | lst hq hd => exact ⟨_, rfl, ⟨_, msk_l hq⟩, q _ ds ρ1 O1 H1 hk S (src_lst hq hd)⟩
theorem di_rng1 {t : TA} {Ψ : PF} (h : DA K n t ρ fun xs ρ1 => ∃ j, xs = [.int j] ∧ (-(2 ^ 62) ≤ j ∧ j < 2 ^ 62) ∧ Ψ (rngD 0 j.toNat) ρ1) : DI K n (iRng1 t) ρ Ψ := fun O σ H E R q =>
  h O σ H E _ fun vs xs ρ1 O1 H1 ⟨j, e, hb, hk⟩ S r => by
    subst e
    cases r with
    | cons r1 r2 => cases r2; cases r1; exact ⟨j, rfl, hb.1, hb.2, q _ _ ρ1 O1 H1 hk S src_rng⟩
theorem di_rng2 {t : TA} {Ψ : PF} (h : DA K n t ρ fun xs ρ1 => ∃ i j, xs = [.int i, .int j] ∧ (-(2 ^ 62) ≤ i ∧ i < 2 ^ 62 ∧ -(2 ^ 62) ≤ j ∧ j < 2 ^ 62) ∧ Ψ (rngD i (j - i).toNat) ρ1) : DI K n (iRng2 t) ρ Ψ := fun O σ H E R q =>
  h O σ H E _ fun vs xs ρ1 O1 H1 ⟨i, j, e, hb, hk⟩ S r => by
    subst e
    cases r with
    | cons r1 r2 => cases r2 with | cons r2 r3 => cases r3; cases r1; cases r2; exact ⟨i, j, rfl, hb, q _ _ ρ1 O1 H1 hk S src_rng⟩
theorem di_enum {t : TA} {Ψ : PF} (h : DA K n t ρ fun xs ρ1 => ∃ ds, xs = [.list ds] ∧ Ψ (enumD ds) ρ1) : DI K n (iEnum K t) ρ Ψ := fun O σ H E R q =>
  h O σ H E _ fun vs xs ρ1 O1 H1 ⟨ds, e, hk⟩ S r => by
    subst e
    cases r with
    | cons r1 r2 => cases r2; cases r1 with | lst hq hd => exact ⟨_, _, rfl, msk_l hq, q _ _ ρ1 O1 H1 hk S (src_enum hq hd)⟩

/-! ### targets -/
def DG (K : PySem.W.Frag) (n : Nat) (g : TG) (ρ : Rho) (d : PyData) (Ψ : Rho → Prop) : Prop :=
  ∀ O σ H v, Envs K O σ ρ H → Dp K (msk O H) v d → ∀ Q : L2.St → Hp → Prop, (∀ σ' ρ', Ψ ρ' → Stp K n O σ ρ H O σ' ρ' H → Q σ' H) → g v σ H Q
def DGs (K : PySem.W.Frag) (n : Nat) (g : TGs) (ρ : Rho) (ds : List PyData) (Ψ : Rho → Prop) : Prop :=
  ∀ O σ H vs, Envs K O σ ρ H → DpAll K (msk O H) vs ds → ∀ Q : L2.St → Hp → Prop, (∀ σ' ρ', Ψ ρ' → Stp K n O σ ρ H O σ' ρ' H → Q σ' H) → g vs σ H Q
theorem dg_name {j : Nat} {d : PyData} {Ψ : Rho → Prop} (hp : n ≤ j ∨ NoLst ρ j) (k : Ψ (ρ.set j (some (.val d)))) : DG K n (gName j) ρ d Ψ := fun O σ H v E r Q q =>
  q _ _ k (stp_set E r hp)
theorem dgs_nil {Ψ : Rho → Prop} (k : Ψ ρ) : DGs K n gNil ρ [] Ψ := fun O σ H vs E r Q q => by
  cases r
  exact ⟨rfl, q _ _ k (Stp.refl E)⟩
theorem dgs_cons {t : TG} {u : TGs} {d : PyData} {ds : List PyData} {Ψ : Rho → Prop} (h : DG K n t ρ d fun ρ1 => DGs K n u ρ1 ds Ψ) : DGs K n (gCons t u) ρ (d :: ds) Ψ := fun O σ H vs E r Q q => by
  cases r with
  | cons r1 r2 =>
    refine ⟨_, _, rfl, h O σ H _ E r1 _ fun σ1 ρ1 h1 S1 => h1 O σ1 H _ S1.env r2 Q fun σ2 ρ2 k S2 => q σ2 ρ2 k (S1.trans E S2)⟩
theorem dg_tup {u : TGs} {m : Nat} {d : PyData} {Ψ : Rho → Prop} (h : ∃ ds, d = .tuple ds ∧ ds.length = m ∧ DGs K n u ρ ds Ψ) : DG K n (gTup K m u) ρ d Ψ := fun O σ H v E r Q q => by
  obtain ⟨ds, rfl, hl, h⟩ := h
  cases r with
  | tup hq hd => exact ⟨_, _, rfl, msk_t hq, (dpa_len hd).trans hl, h O σ H _ E hd Q q⟩

/-! ### statements -/
theorem ds_next (k : F.nx ρ) : DSx K n tNext ρ F := fun O σ H E D h1 _ _ _ _ => h1 O σ ρ H k (Stp.refl E)
theorem ds_seq (h : DSx K n ts ρ { F with nx := fun ρ1 => DSx K n us ρ1 F }) : DSx K n (tSeq ts us) ρ F := fun O σ H E D h1 h2 h3 h4 h5 =>
  h O σ H E { D with nx := us D } (fun O1 σ1 ρ1 H1 k S => k O1 σ1 H1 S.env D (fun O2 σ2 ρ2 H2 k2 S2 => h1 O2 σ2 ρ2 H2 k2 (S.trans E S2)) (fun v d O2 σ2 ρ2 H2 k2 S2 r => h2 v d O2 σ2 ρ2 H2 k2 (S.trans E S2) r)
    (fun p vs ds O2 σ2 ρ2 H2 k2 S2 np no hp => h3 p vs ds O2 σ2 ρ2 H2 k2 (S.trans E S2) np no (ownsL_back2 E S hp)) (fun O2 σ2 ρ2 H2 k2 S2 => h4 O2 σ2 ρ2 H2 k2 (S.trans E S2)) (fun O2 σ2 ρ2 H2 k2 S2 => h5 O2 σ2 ρ2 H2 k2 (S.trans E S2))) h2 h3 h4 h5
theorem ds_ret (h : DW K n te ρ F.rt) : DSx K n (tRet te) ρ F := fun O σ H E D h1 h2 h3 h4 h5 => h O σ H E _ fun v d ρ' O' H' k S r => h2 v d O' σ ρ' H' k S r
theorem ds_retF (h : DF K n te ρ F.rf) : DSx K n (tRet te) ρ F := fun O σ H E D h1 h2 h3 h4 h5 => h O σ H E _ fun p vs ds ρ' O' H' k S np no hp hH r => h3 p vs ds (p :: O') σ ρ' H' k S List.mem_cons_self no (.inl hp) hH r
theorem ds_drop (h : DW K n te ρ fun _ ρ1 => F.nx ρ1) : DSx K n (tDrop te) ρ F := fun O σ H E D h1 h2 h3 h4 h5 => h O σ H E _ fun v d ρ' O' H' k S r => h1 O' σ ρ' H' k S
theorem ds_asg {g : TG} (h : DW K n te ρ fun d ρ1 => DG K n g ρ1 d F.nx) : DSx K n (tAsg te g) ρ F := fun O σ H E D h1 h2 h3 h4 h5 =>
  h O σ H E _ fun v d ρ1 O1 H1 k S r => k O1 σ H1 v S.env r _ fun σ2 ρ2 k2 S2 => h1 O1 σ2 ρ2 H1 k2 (S.trans E S2)
theorem ds_brk (k : F.bk ρ) : DSx K n tBreak ρ F := fun O σ H E D h1 h2 h3 h4 h5 => h4 O σ ρ H k (Stp.refl E)
theorem ds_cont (k : F.ct ρ) : DSx K n tCont ρ F := fun O σ H E D h1 h2 h3 h4 h5 => h5 O σ ρ H k (Stp.refl E)
theorem DSx.after {O1 : List Addr} {σ1 : L2.St} {ρ1 : Rho} {H1 : Hp} (E : Envs K O σ ρ H) (S : Stp K n O σ ρ H O1 σ1 ρ1 H1) (h : DSx K n ts ρ1 F) {D : Ends}
    (h1 : ∀ O' σ' ρ' H', F.nx ρ' → Stp K n O σ ρ H O' σ' ρ' H' → D.nx σ' H')
    (h2 : ∀ v d O' σ' ρ' H', F.rt d ρ' → Stp K n O σ ρ H O' σ' ρ' H' → Dp K (msk O' H') v d → D.rt v H')
    (h3 : ∀ p vs ds O' σ' ρ' H', F.rf ds ρ' → Stp K n O σ ρ H O' σ' ρ' H' → p ∈ O' → ¬ Owns σ' ρ' p → (H p = none ∨ OwnsL n σ ρ p) → H' p = some (.lst vs) → DpAll K (msk O' H') vs ds → D.rt (.ref p) H')
    (h4 : ∀ O' σ' ρ' H', F.bk ρ' → Stp K n O σ ρ H O' σ' ρ' H' → D.bk σ' H')
    (h5 : ∀ O' σ' ρ' H', F.ct ρ' → Stp K n O σ ρ H O' σ' ρ' H' → D.ct σ' H') : ts D σ1 H1 :=
  h O1 σ1 H1 S.env D (fun O2 σ2 ρ2 H2 k2 S2 => h1 O2 σ2 ρ2 H2 k2 (S.trans E S2)) (fun v d O2 σ2 ρ2 H2 k2 S2 r => h2 v d O2 σ2 ρ2 H2 k2 (S.trans E S2) r)
    (fun p vs ds O2 σ2 ρ2 H2 k2 S2 np no hp => h3 p vs ds O2 σ2 ρ2 H2 k2 (S.trans E S2) np no (ownsL_back2 E S hp)) (fun O2 σ2 ρ2 H2 k2 S2 => h4 O2 σ2 ρ2 H2 k2 (S.trans E S2)) (fun O2 σ2 ρ2 H2 k2 S2 => h5 O2 σ2 ρ2 H2 k2 (S.trans E S2))
theorem ds_if (h : DT K n tt ρ fun b ρ1 => (b = true → DSx K n ts ρ1 F) ∧ (b = false → DSx K n us ρ1 F)) : DSx K n (tIfS tt ts us) ρ F := fun O σ H E D h1 h2 h3 h4 h5 =>
  h O σ H E _ fun b ρ1 O1 H1 k S => by
    cases b with
    | true => exact DSx.after E S (k.1 rfl) h1 h2 h3 h4 h5
    | false => exact DSx.after E S (k.2 rfl) h1 h2 h3 h4 h5
/-- a name gets a list that is its own -/
theorem stp_setOwn {j : Nat} {p : Addr} {vs : List V} {ds : List PyData} (S : Stp K n O σ ρ H (p :: O1) σ ρ1 H1) (no : ¬ Owns σ ρ1 p) (hp : H p = none) (hH : H1 p = some (.lst vs)) (hd : DpAll K (msk (p :: O1) H1) vs ds) (hj : n ≤ j) :
    Stp K n O σ ρ H (p :: O1) (σ.set j (some (.ref p))) (ρ1.set j (some (.lst ds))) H1 where
  sub := S.sub
  new := S.new
  le := S.le
  env := ⟨by rw [List.length_set, List.length_set, S.env.len], fun i x e h1 h2 => by
    by_cases hij : j = i
    · subst hij
      have hl : j < ρ1.length := by
        have := (List.getElem?_eq_some_iff.mp h2).1
        simpa using this
      rw [List.getElem?_set_self hl] at h2
      rw [List.getElem?_set_self (by rw [S.env.len]; exact hl)] at h1
      cases h1; cases h2
      exact ⟨List.mem_cons_self, vs, hH, hd⟩
    · rw [List.getElem?_set_ne hij] at h1 h2
      exact S.env.ok i x e h1 h2, S.env.al, fun i k r d1 d2 h1 h2 h3 h4 => by
    by_cases hij : j = i
    · subst hij
      have hl : j < ρ1.length := by
        have := (List.getElem?_eq_some_iff.mp h2).1
        simpa using this
      rw [List.getElem?_set_self (by rw [S.env.len]; exact hl)] at h1
      cases h1
      by_cases hjk : j = k
      · exact hjk
      · rw [List.getElem?_set_ne hjk] at h3 h4
        exact absurd ⟨k, d2, h3, h4⟩ no
    · rw [List.getElem?_set_ne hij] at h1 h2
      by_cases hjk : j = k
      · subst hjk
        have hl : j < ρ1.length := by
          have := (List.getElem?_eq_some_iff.mp h4).1
          simpa using this
        rw [List.getElem?_set_self (by rw [S.env.len]; exact hl)] at h3
        cases h3
        exact absurd ⟨i, d1, h1, h2⟩ no
      · rw [List.getElem?_set_ne hjk] at h3 h4
        exact S.env.dis i k r d1 d2 h1 h2 h3 h4⟩
  own := fun b ⟨i, es, h1, h2⟩ => by
    by_cases hij : j = i
    · subst hij
      have hl : j < ρ1.length := by
        have := (List.getElem?_eq_some_iff.mp h2).1
        simpa using this
      rw [List.getElem?_set_self (by rw [S.env.len]; exact hl)] at h1
      cases h1
      exact .inr hp
    · rw [List.getElem?_set_ne hij] at h1 h2
      exact S.own b ⟨i, es, h1, h2⟩
  pin := fun i es hi h => by
    obtain ⟨e1, ds', h1⟩ := S.pin i es hi h
    have hij : j ≠ i := by omega
    rw [List.getElem?_set_ne hij, List.getElem?_set_ne hij]
    exact ⟨e1, ds', h1⟩
theorem ds_asgF {j : Nat} (h : DF K n te ρ fun ds ρ1 => n ≤ j ∧ F.nx (ρ1.set j (some (.lst ds)))) : DSx K n (tAsg te (gName j)) ρ F := fun O σ H E D h1 h2 h3 h4 h5 =>
  h O σ H E _ fun p vs ds ρ1 O1 H1 ⟨hj, k⟩ S np no hp hH hd => h1 _ _ _ H1 k (stp_setOwn S no hp hH hd hj)
/-- the name's own list is handed back -/
theorem ds_retO {i : Nat} {ds : List PyData} (hi : ρ[i]? = some (some (.lst ds))) (hn : n ≤ i) (k : F.rf ds (ρ.set i none)) : DSx K n (tRet (tVar i)) ρ F := fun O σ H E D h1 h2 h3 h4 h5 => by
  obtain ⟨p, vs, a, b, c, d⟩ := env_lst E hi
  refine ⟨.ref p, a, ?_⟩
  refine h3 p vs ds O σ _ H k (stp_forget E hn) b (fun w => ?_) (.inr ⟨i, ds, hn, a, hi⟩) c d
  obtain ⟨j, es, hj, h6, h7⟩ := owns_forget w
  exact hj (E.dis j i p es ds h6 h7 a hi)
theorem ds_par {i j : Nat} {t : TA} (h : DA K n t ρ fun ds ρ1 => ∃ a b, ds = [a, b] ∧ (n ≤ i ∨ NoLst ρ1 i) ∧ (n ≤ j ∨ NoLst (ρ1.set i (some (.val a))) j) ∧ F.nx ((ρ1.set i (some (.val a))).set j (some (.val b)))) : DSx K n (tPar i j t) ρ F := fun O σ H E D h1 h2 h3 h4 h5 =>
  h O σ H E _ fun vs ds ρ1 O1 H1 ⟨a, b, e, hi, hj, k⟩ S r => by
    subst e
    cases r with
    | cons r1 r2 =>
      cases r2 with
      | cons r2 r3 =>
        cases r3
        have S2 := stp_set (n := n) S.env r1 (j := i) hi
        have S3 := stp_set (n := n) S2.env r2 (j := j) hj
        exact ⟨_, _, rfl, h1 _ _ _ _ k ((S.trans E S2).trans E S3)⟩
/-- name.append(e) on a list of its own -/
theorem ds_app {i : Nat} {ds0 : List PyData} (h0 : ρ[i]? = some (some (.lst ds0))) (h : DW K n te ρ fun d ρ1 => ∃ ds, ρ1[i]? = some (some (.lst ds)) ∧ ds.length < 100000 ∧ F.nx (ρ1.set i (some (.lst (ds ++ [d]))))) :
    DSx K n (tDrop (tBM K "list" rAppend (tVar i) (tCons te tNil))) ρ F := fun O σ H E D h1 h2 h3 h4 h5 => by
  obtain ⟨p, vs0, a, b, c, _⟩ := env_lst E h0
  refine ⟨.ref p, a, .inl ⟨rfl, _, SqL.of c⟩, ?_⟩
  refine h O σ H E _ fun v d ρ1 O1 H1 ⟨ds, hi, hl, k⟩ S r => ?_
  obtain ⟨p', vs, a', b', c', hd⟩ := env_lst S.env hi
  rw [a] at a'; cases a'
  refine ⟨p, vs, v, rfl, rfl, c', Nat.lt_of_lt_of_le (by rw [dpa_len hd]; exact hl) (by decide), ?_⟩
  exact h1 _ _ _ _ k (S.trans E (stp_write S.env hi a (dpa_append hd (dpa_one r))))
/-- name[k] = e on a list of its own -/
theorem ds_setO {i : Nat} {ti : TE} (h : DW K n te ρ fun d ρ1 => (∃ ds0, ρ1[i]? = some (some (.lst ds0))) ∧ DW K n ti ρ1 fun x ρ2 => ∃ (k : Nat) (ds : List PyData), x = .int (k : Int) ∧ ρ2[i]? = some (some (.lst ds)) ∧ k < ds.length ∧ F.nx (ρ2.set i (some (.lst (ds.set k d))))) :
    DSx K n (tAsg te (gSub (tVar i) ti rSetL)) ρ F := fun O σ H E D h1 h2 h3 h4 h5 => by
  refine h O σ H E _ fun v d ρ1 O1 H1 ⟨⟨ds0, hi0⟩, hti⟩ S r => ?_
  obtain ⟨p, vs0, a, b, c, _⟩ := env_lst S.env hi0
  refine ⟨.ref p, a, ?_⟩
  refine hti O1 σ H1 S.env _ fun v2 x ρ2 O2 H2 ⟨k, ds, e, hi, hk, kk⟩ S2 r2 => ?_
  subst e
  obtain ⟨p', vs, a', b', c', hd⟩ := env_lst S2.env hi
  rw [a] at a'; cases a'
  have S02 := S.trans E S2
  refine ⟨p, vs, k, k, rfl, dp_int r2, c', ?_, ?_⟩
  · unfold ixN
    rw [if_pos (Int.natCast_nonneg k), if_pos (by rw [dpa_len hd]; omega)]
    rfl
  · exact h1 _ _ _ _ kk (S02.trans E (stp_write S2.env hi a (dpa_set (S2.dp S.env r) k hd)))

/-! ### loops -/
theorem ds_for {wi : TI} {g : TG} (h : DI K n wi ρ fun ds ρ1 => ∃ J : Nat → Rho → Prop, J 0 ρ1 ∧
      (∀ i d ρ', ds[i]? = some d → J i ρ' → DG K n g ρ' d fun ρ2 => DSx K n ts ρ2 { F with nx := J (i + 1), ct := J (i + 1), bk := F.nx }) ∧ ∀ ρ', J ds.length ρ' → F.nx ρ') :
    DSx K n (tFor wi g ts) ρ F := fun O σ H E D h1 h2 h3 h4 h5 => by
  refine h O σ H E _ fun It ds ρ1 O1 H1 ⟨J, j0, jt, je⟩ S src => ?_
  refine ⟨fun i m σ' H' => m = ds.length - i ∧ i ≤ ds.length ∧ ∃ O' ρ', J i ρ' ∧ Stp K n O1 σ ρ1 H1 O' σ' ρ' H', ⟨ds.length, by simp, Nat.zero_le _, O1, ρ1, j0, Stp.refl S.env⟩, ?_⟩
  rintro i m σ' H' ⟨rfl, hi, O', ρ', jj, S'⟩
  have em := S'.msk S.env
  by_cases hlt : i < ds.length
  · refine .inr ⟨src.go O' H' i em hlt, fun σ2 H2 => ∃ O2 ρ2, J (i + 1) ρ2 ∧ Stp K n O1 σ ρ1 H1 O2 σ2 ρ2 H2, fun σ2 H2 ⟨O2, ρ2, j2, S2⟩ => ⟨ds.length - (i + 1), by omega, rfl, hlt, O2, ρ2, j2, S2⟩, fun x H2 y => ?_⟩
    obtain ⟨d, hd⟩ : ∃ d, ds[i]? = some d := ⟨ds[i], by simp [hlt]⟩
    obtain ⟨e2, r2⟩ := src.yld O' H' i x H2 d em S'.env.al y hd
    have S2 := S'.trans S.env (Stp.grow S'.env e2)
    refine jt i d ρ' hd jj O' σ' H2 x S2.env r2 _ fun σ3 ρ3 hs S3 => ?_
    have S13 := S2.trans S.env S3
    have S03 := S.trans E S13
    exact DSx.after (F := { F with nx := J (i + 1), ct := J (i + 1), bk := F.nx }) (D := { D with nx := fun σ2 H2 => ∃ O2 ρ2, J (i + 1) ρ2 ∧ Stp K n O1 σ ρ1 H1 O2 σ2 ρ2 H2, ct := fun σ2 H2 => ∃ O2 ρ2, J (i + 1) ρ2 ∧ Stp K n O1 σ ρ1 H1 O2 σ2 ρ2 H2, bk := D.nx }) S.env S13 hs
      (fun O4 σ4 ρ4 H4 k4 S4 => ⟨O4, ρ4, k4, S4⟩)
      (fun v d O4 σ4 ρ4 H4 k4 S4 r4 => h2 v d O4 σ4 ρ4 H4 k4 (S.trans E S4) r4)
      (fun p vs ds O4 σ4 ρ4 H4 k4 S4 np no hp => h3 p vs ds O4 σ4 ρ4 H4 k4 (S.trans E S4) np no (ownsL_back2 E S hp))
      (fun O4 σ4 ρ4 H4 k4 S4 => h1 O4 σ4 ρ4 H4 k4 (S.trans E S4))
      (fun O4 σ4 ρ4 H4 k4 S4 => ⟨O4, ρ4, k4, S4⟩)
  · have e : i = ds.length := by omega
    subst e
    exact .inl ⟨src.stop O' H' _ em (Nat.le_refl _), h1 O' σ' ρ' H' (je ρ' jj) (S.trans E S')⟩
theorem ds_while (h : ∃ J : Nat → Rho → Prop, (∃ m, J m ρ) ∧ ∀ m ρ', J m ρ' → DT K n tt ρ' fun b ρ1 => (b = true → DSx K n ts ρ1 { F with nx := fun ρ2 => ∃ m', m' < m ∧ J m' ρ2, ct := fun ρ2 => ∃ m', m' < m ∧ J m' ρ2, bk := F.nx }) ∧ (b = false → F.nx ρ1)) :
    DSx K n (tWhile tt ts) ρ F := fun O σ H E D h1 h2 h3 h4 h5 => by
  obtain ⟨J, ⟨m0, j0⟩, jt⟩ := h
  refine ⟨fun m σ' H' => ∃ O' ρ', J m ρ' ∧ Stp K n O σ ρ H O' σ' ρ' H', ⟨m0, O, ρ, j0, Stp.refl E⟩, ?_⟩
  rintro m σ' H' ⟨O', ρ', jj, S'⟩
  refine jt m ρ' jj O' σ' H' S'.env _ fun b ρ1 O1 H1 ⟨ht, hf⟩ S1 => ?_
  have S01 := S'.trans E S1
  cases b with
  | true =>
    refine iteT ⟨fun σ2 H2 => ∃ m', m' < m ∧ ∃ O2 ρ2, J m' ρ2 ∧ Stp K n O σ ρ H O2 σ2 ρ2 H2, fun σ2 H2 h => h, ?_⟩
    exact DSx.after (F := { F with nx := fun ρ2 => ∃ m', m' < m ∧ J m' ρ2, ct := fun ρ2 => ∃ m', m' < m ∧ J m' ρ2, bk := F.nx }) (D := { D with nx := fun σ2 H2 => ∃ m', m' < m ∧ ∃ O2 ρ2, J m' ρ2 ∧ Stp K n O σ ρ H O2 σ2 ρ2 H2, ct := fun σ2 H2 => ∃ m', m' < m ∧ ∃ O2 ρ2, J m' ρ2 ∧ Stp K n O σ ρ H O2 σ2 ρ2 H2, bk := D.nx }) E S01 (ht rfl)
      (fun O4 σ4 ρ4 H4 ⟨m', hm, k4⟩ S4 => ⟨m', hm, O4, ρ4, k4, S4⟩)
      h2 h3 h1 (fun O4 σ4 ρ4 H4 ⟨m', hm, k4⟩ S4 => ⟨m', hm, O4, ρ4, k4, S4⟩)
  | false => exact iteF (h1 O1 σ' ρ1 H1 (hf rfl) S01)

/-! ### comprehensions -/
theorem env_mem {O2 : List Addr} (E : Envs K O σ ρ H) (h : ∀ b, b ∈ O ↔ b ∈ O2) : Envs K O2 σ ρ H := by
  have em : msk O2 H = msk O H := by
    funext b
    unfold msk
    by_cases hb : b ∈ O
    · rw [if_pos hb, if_pos ((h b).mp hb)]
    · rw [if_neg hb, if_neg (fun z => hb ((h b).mpr z))]
  refine ⟨E.len, fun i x e h1 h2 => ?_, fun b hb => E.al b ((h b).mpr hb), E.dis⟩
  have w := E.ok i x e h1 h2
  cases e with
  | val d =>
    cases x with
    | none => exact w.elim
    | some v => exact (show Dp K (msk O2 H) v d by rw [em]; exact w)
  | lst ds =>
    obtain ⟨r, rfl, hr, vs, hv, hd⟩ := lst_val w
    exact ⟨(h r).mp hr, vs, hv, by rw [em]; exact hd⟩
theorem msk_mem {O O2 : List Addr} {H : Hp} (h : ∀ b, b ∈ O ↔ b ∈ O2) : msk O2 H = msk O H := by
  funext b
  unfold msk
  by_cases hb : b ∈ O
  · rw [if_pos hb, if_pos ((h b).mp hb)]
  · rw [if_neg hb, if_neg (fun z => hb ((h b).mpr z))]
theorem stp_mem {O2 : List Addr} {σ1 : L2.St} {H1 : Hp} (S : Stp K n O σ ρ H O1 σ1 ρ1 H1) (h : ∀ b, b ∈ O1 ↔ b ∈ O2) : Stp K n O σ ρ H O2 σ1 ρ1 H1 :=
  ⟨fun b hb => (h b).mp (S.sub b hb), fun b hb => S.new b ((h b).mpr hb), S.le, env_mem S.env h, S.own, S.pin⟩
/-- an address that no name owns is written -/
theorem stp_writeD {σ1 : L2.St} {H1 : Hp} {D : Addr} {o : HO} (S : Stp K n O σ ρ H O1 σ1 ρ1 H1) (h0 : H D = none) (hD : D ∈ O1) (no : ¬ Owns σ1 ρ1 D) : Stp K n O σ ρ H O1 σ1 ρ1 (upd H1 D o) ∧ msk O1 (upd H1 D o) = msk O1 H1 := by
  have em : msk O1 (upd H1 D o) = msk O1 H1 := by
    funext b
    unfold msk
    by_cases hb : b ∈ O1
    · rw [if_pos hb, if_pos hb]
    · rw [if_neg hb, if_neg hb, upd_ne (fun e : b = D => hb (by rw [e]; exact hD))]
  refine ⟨⟨S.sub, S.new, fun b u nb hb => ?_, ⟨S.env.len, fun i x e h1 h2 => ?_, fun b hb => ?_, S.env.dis⟩, S.own, S.pin⟩, em⟩
  · rw [upd_ne (ne_of_none hb h0)]
    exact S.le b u nb hb
  · have w := S.env.ok i x e h1 h2
    cases e with
    | val d =>
      cases x with
      | none => exact w.elim
      | some v => exact (show Dp K (msk O1 (upd H1 D o)) v d by rw [em]; exact w)
    | lst ds =>
      obtain ⟨r, rfl, hr, vs, hv, hd⟩ := lst_val w
      refine ⟨hr, vs, ?_, by rw [em]; exact hd⟩
      rw [upd_ne (fun e : r = D => no ⟨i, ds, by rw [← e]; exact h1, h2⟩)]
      exact hv
  · by_cases e : b = D
    · rw [e, upd_same]; exact fun z => nomatch z
    · rw [upd_ne e]; exact S.env.al b hb
theorem owns_set {j : Nat} {x : Option V} {y : Option Ent} {p : Addr} (hy : ∀ ds, y ≠ some (.lst ds)) (w : Owns (σ.set j x) (ρ.set j y) p) : Owns σ ρ p := by
  obtain ⟨i, ds, h1, h2⟩ := w
  by_cases hij : j = i
  · subst hij
    have hl : j < ρ.length := by
      have := (List.getElem?_eq_some_iff.mp h2).1
      simpa using this
    rw [List.getElem?_set_self hl] at h2
    exact absurd (Option.some.inj h2) (hy ds)
  · rw [List.getElem?_set_ne hij] at h1 h2
    exact ⟨i, ds, h1, h2⟩
/-- into a turn of a comprehension, and out of it -/
theorem stp_in {j : Nat} {v : V} {d : PyData} (E : Envs K O σ ρ H) (hj : n ≤ j) (h : Dp K (msk O H) v d) : Stp K n O σ ρ H O (σ.set j (some v)) (ρ.set j (some (.val d))) H := stp_set E h (.inl hj)
theorem stp_out {j : Nat} {x : Option V} (E : Envs K O σ ρ H) (hj : n ≤ j) : Stp K n O σ ρ H O (σ.set j x) (ρ.set j none) H where
  sub := fun _ h => h
  new := fun _ h => .inl h
  le := fun _ _ _ h => h
  env := env_drop E
  own := fun b w => .inl (owns_set (fun ds => by simp) w)
  pin := fun i es hi h => by
    have hij : j ≠ i := by omega
    rw [List.getElem?_set_ne hij, List.getElem?_set_ne hij]
    exact ⟨rfl, es, h⟩
theorem set_back {α : Type} (l : List α) (j : Nat) (a b c : α) (h : l[j]? = some c) : ((l.set j a).set j b).set j c = l := by
  rw [List.set_set, List.set_set]
  apply List.ext_getElem?
  intro i
  by_cases hij : j = i
  · subst hij
    have hl := (List.getElem?_eq_some_iff.mp h).1
    rw [List.getElem?_set_self hl, h]
  · rw [List.getElem?_set_ne hij]
theorem df_lc {wi : TI} {j : Nat} (h : DI K n wi ρ fun ds ρ1 => n ≤ j ∧ ds.length ≤ 100000 ∧ ρ1[j]? = some none ∧ ∃ J : Nat → List PyData → Rho → Prop, J 0 [] ρ1 ∧
      (∀ i d out ρ', ds[i]? = some d → J i out ρ' → out.length ≤ i → DT K n tt (ρ'.set j (some (.val d))) fun b ρ2 => (b = true → DW K n te ρ2 fun y ρ3 => J (i + 1) (out ++ [y]) (ρ3.set j none)) ∧ (b = false → J (i + 1) out (ρ2.set j none))) ∧
      ∀ out ρ', J ds.length out ρ' → Φf out ρ') : DF K n (tLc wi (gName j) tt te [j]) ρ Φf := by
  intro O σ H E Q q
  refine h O σ H E _ fun It ds ρ1 O1 H1 ⟨hj, hlen, hρj, J, j0, jt, je⟩ S src => ?_
  intro D hD
  have SD := stp_alloc (n := n) (o := .lst []) S.env hD
  have nD := fresh_notin S.env hD
  have noD := not_owned S.env hD
  have hD0 : H D = none := S.none_back (fun z => nD (S.sub D z)) hD E
  have hjσ : j < σ.length := by rw [S.env.len]; exact (List.getElem?_eq_some_iff.mp hρj).1
  have hjρ : j < ρ1.length := (List.getElem?_eq_some_iff.mp hρj).1
  refine ⟨fun i m H' => m = ds.length - i ∧ i ≤ ds.length ∧ ∃ O' ρ' out vs, J i out ρ' ∧ out.length ≤ i ∧ Stp K n O1 σ ρ1 H1 O' σ ρ' H' ∧ D ∈ O' ∧ ¬ Owns σ ρ' D ∧ H' D = some (.lst vs) ∧ DpAll K (msk O' H') vs out,
    ⟨ds.length, by simp, Nat.zero_le _, D :: O1, ρ1, [], [], j0, Nat.le_refl _, SD, List.mem_cons_self, noD, upd_same, .nil⟩, ?_⟩
  rintro i m H' ⟨rfl, hi, O', ρ', out, vs, jj, hol, S', nO', no', hH', hd'⟩
  have em := S'.msk S.env
  by_cases hlt : i < ds.length
  · refine .inr ⟨src.go _ H' i em hlt, fun H2 => ∃ O2 ρ2 out2 vs2, J (i + 1) out2 ρ2 ∧ out2.length ≤ i + 1 ∧ Stp K n O1 σ ρ1 H1 O2 σ ρ2 H2 ∧ D ∈ O2 ∧ ¬ Owns σ ρ2 D ∧ H2 D = some (.lst vs2) ∧ DpAll K (msk O2 H2) vs2 out2,
      fun H2 ⟨O2, ρ2, out2, vs2, a, b, d, e, f, g, hh⟩ => ⟨ds.length - (i + 1), by omega, rfl, hlt, O2, ρ2, out2, vs2, a, b, d, e, f, g, hh⟩, fun x H2 y => ?_⟩
    obtain ⟨d, hd⟩ : ∃ d, ds[i]? = some d := ⟨ds[i], by simp [hlt]⟩
    obtain ⟨e2, r2⟩ := src.yld _ H' i x H2 d em S'.env.al y hd
    have Sg := Stp.grow (n := n) S'.env e2
    have S2 := S'.trans S.env Sg
    have hσt : (wipe σ [j]).set j (some x) = σ.set j (some x) := by
      show (σ.set j none).set j (some x) = σ.set j (some x)
      exact List.set_set ..
    unfold gName
    rw [hσt]
    refine ⟨by show (σ.set j (some x)).set j none = σ.set j none; rw [List.set_set], ?_⟩
    have Sin := stp_in (n := n) S2.env hj r2
    have noT : ¬ Owns (σ.set j (some x)) (ρ'.set j (some (.val d))) D := fun w => no' (owns_set (fun ds => by simp) w)
    have back : (σ.set j (some x)).set j σ[j] = σ := by
      have := set_back σ j (some x) (some x) σ[j] (List.getElem?_eq_getElem hjσ)
      rwa [List.set_set] at this
    refine jt i d out ρ' hd jj hol _ _ H2 Sin.env _ fun b ρ2 O2 H3 ⟨kt, kf⟩ S3 => ?_
    have S13 := ((S2.trans S.env Sin).trans S.env S3)
    have hD3 : H3 D = some (.lst vs) := S3.le D _ noT (e2 D _ hH')
    have hout3 := S3.dpa Sin.env (Sg.dpa S'.env hd')
    have ho3 := S3.own
    have al3 : D ∈ O2 := S3.sub D nO'
    have no3 : ¬ Owns (σ.set j (some x)) ρ2 D := fun w => by
      rcases S3.own D w with w | w
      · exact noT w
      · exact S2.env.al D nO' w
    cases b with
    | true =>
      refine iteT ?_
      refine kt rfl _ _ H3 S3.env _ fun v yd ρ3 O3 H4 k4 S4 r4 => ?_
      have no4 : ¬ Owns (σ.set j (some x)) ρ3 D := fun w => by
        rcases S4.own D w with w | w
        · exact no3 w
        · exact S3.env.al D al3 w
      have hD4 : H4 D = some (.lst vs) := S4.le D _ no3 hD3
      have S14 := (S13.trans S.env S4).trans S.env (stp_out (n := n) (j := j) (x := σ[j]) S4.env hj)
      rw [back] at S14
      have al4 : D ∈ O3 := S4.sub D al3
      have no5 : ¬ Owns σ (ρ3.set j none) D := fun w => no4 (by
        have := owns_set (σ := σ.set j (some x)) (ρ := ρ3) (j := j) (x := σ[j]) (y := none) (fun ds => by simp) (p := D)
        rw [back] at this
        exact this w)
      have hout4 := S4.dpa S3.env hout3
      refine ⟨vs, hD4, Nat.lt_of_le_of_lt (Nat.le_of_eq (dpa_len hd')) (Nat.lt_of_le_of_lt (Nat.le_trans hol (by omega)) (show (100000 : Nat) < sizeLine by decide)), ?_⟩
      obtain ⟨S15, em5⟩ := stp_writeD (o := .lst (vs ++ [v])) S14 hD al4 no5
      refine ⟨O3, ρ3.set j none, out ++ [yd], vs ++ [v], k4, by simp; omega, S15, al4, no5, upd_same, ?_⟩
      rw [em5]
      exact dpa_append hout4 (dpa_one r4)
    | false =>
      refine iteF ?_
      have S14 := S13.trans S.env (stp_out (n := n) (j := j) (x := σ[j]) S3.env hj)
      rw [back] at S14
      have no5 : ¬ Owns σ (ρ2.set j none) D := fun w => no3 (by
        have := owns_set (σ := σ.set j (some x)) (ρ := ρ2) (j := j) (x := σ[j]) (y := none) (fun ds => by simp) (p := D)
        rw [back] at this
        exact this w)
      exact ⟨O2, ρ2.set j none, out, vs, kf rfl, by omega, S14, al3, no5, hD3, hout3⟩
  · have e : i = ds.length := by omega
    subst e
    refine .inl ⟨src.stop _ H' _ em (Nat.le_refl _), ?_⟩
    have mem : ∀ b, b ∈ O' ↔ b ∈ D :: O'.filter (fun b => decide (b ≠ D)) := fun b => by
      by_cases hb : b = D
      · subst hb; simp [nO']
      · simp [hb]
    refine q D vs out ρ' _ H' (je out ρ' jj) (stp_mem (S.trans E S') mem) (by simp) no' hD0 hH' ?_
    rw [msk_mem mem]
    exact hd'
end
end DL
namespace DL
open PySem L2 PySem.Spec PyProof.Rows
abbrev SpW := List Ent → (PyData → List Ent → Prop) → Prop
abbrev SfW := List Ent → (List PyData → List Ent → Prop) → Prop
/-- a def's promise, on data -/
def spD (K : PySem.W.Frag) (np : Nat) (W : SpW) : Sp := fun vs H Q _ => ∃ O es Φ, vs.length = np ∧ Envs K O (vs.map some) (es.map some) H ∧ W es Φ ∧
  ∀ v d es' O' H', Φ d es' → Stp K np O (vs.map some) (es.map some) H O' (vs.map some) (es'.map some) H' → Dp K (msk O' H') v d → Q v H'
def spF (K : PySem.W.Frag) (np : Nat) (W : SfW) : Sp := fun vs H Q _ => ∃ O es Φ, vs.length = np ∧ Envs K O (vs.map some) (es.map some) H ∧ W es Φ ∧
  ∀ p ws ds es' O' H', Φ ds es' → Stp K np O (vs.map some) (es.map some) H O' (vs.map some) (es'.map some) H' → p ∈ O' → ¬ Owns (vs.map some) (es'.map some) p → H p = none → H' p = some (.lst ws) → DpAll K (msk O' H') ws ds → Q (.ref p) H'
def finE1 (i : Nat) (e : Ent) (ρ : Rho) : Ent := match e with
  | .val d => .val d
  | .lst ds => match ρ[i]? with
    | some (some (.lst ds')) => .lst ds'
    | _ => .lst ds
def finE : Nat → List Ent → Rho → List Ent
  | _, [], _ => []
  | i, e :: r, ρ => finE1 i e ρ :: finE (i + 1) r ρ
theorem finE_len : ∀ (i : Nat) (es : List Ent) (ρ : Rho), (finE i es ρ).length = es.length
  | _, [], _ => rfl
  | i, e :: r, ρ => congrArg (· + 1) (finE_len (i + 1) r ρ)
theorem finE_get : ∀ (i : Nat) (es : List Ent) (ρ : Rho) (j : Nat), (finE i es ρ)[j]? = (es[j]?).map fun e => finE1 (i + j) e ρ
  | _, [], _, j => by simp [finE]
  | i, e :: r, ρ, 0 => by simp [finE]
  | i, e :: r, ρ, j + 1 => by
    have := finE_get (i + 1) r ρ j
    simp only [finE, List.getElem?_cons_succ]
    rw [this]
    have e : i + 1 + j = i + (j + 1) := by omega
    rw [e]
section
variable {K : PySem.W.Frag} {n : Nat} {O O1 : List Addr} {σ : L2.St} {ρ ρ1 : Rho} {H H1 : Hp} {ta tb tc te : TE} {tt tu : TT} {Φ : PD} {F : DE2} {ts us : TS}
theorem map_get {α : Type} {l : List α} {i : Nat} {x : Option α} (h : (l.map some)[i]? = some x) : ∃ y, x = some y ∧ l[i]? = some y := by
  rw [List.getElem?_map] at h
  cases e : l[i]? with
  | none => rw [e] at h; cases h
  | some y => rw [e] at h; exact ⟨y, (Option.some.inj h).symm, rfl⟩
theorem map_of {α : Type} {l : List α} {i : Nat} {y : α} (h : l[i]? = some y) : (l.map some)[i]? = some (some y) := by
  rw [List.getElem?_map, h]; rfl
/-- what a def's body leaves, as its caller sees it -/
theorem stp_fin {np m : Nat} {vs : List V} {es : List Ent} {O' : List Addr} {σ' : L2.St} {ρ' : Rho} {H' : Hp} (E : Envs K O (vs.map some) (es.map some) H) (hl : es.length = np) (hv : vs.length = np)
    (S : Stp K np O (vs.map some ++ List.replicate m none) (es.map some ++ List.replicate m none) H O' σ' ρ' H') : Stp K np O (vs.map some) (es.map some) H O' (vs.map some) ((finE 0 es ρ').map some) H' ∧ ∀ p, Owns (vs.map some) ((finE 0 es ρ').map some) p → Owns σ' ρ' p := by
  have inL : ∀ (i : Nat) (x : Option V), (vs.map some)[i]? = some x → (vs.map some ++ List.replicate m none)[i]? = some x := fun i x h => by
    rw [List.getElem?_append_left (List.getElem?_eq_some_iff.mp h).1]; exact h
  have inE : ∀ (i : Nat) (x : Option Ent), (es.map some)[i]? = some x → (es.map some ++ List.replicate m none)[i]? = some x := fun i x h => by
    rw [List.getElem?_append_left (List.getElem?_eq_some_iff.mp h).1]; exact h
  have outO : ∀ b, Owns (vs.map some ++ List.replicate m none) (es.map some ++ List.replicate m none) b → Owns (vs.map some) (es.map some) b := fun b ⟨i, ds, h1, h2⟩ => by
    by_cases hi : i < (vs.map some).length
    · rw [List.getElem?_append_left hi] at h1
      rw [List.getElem?_append_left (by simp at hi ⊢; omega)] at h2
      exact ⟨i, ds, h1, h2⟩
    · rw [List.getElem?_append_right (by omega)] at h1
      obtain ⟨_, h1⟩ := List.getElem?_eq_some_iff.mp h1
      rw [List.getElem_replicate] at h1
      cases h1
  have E0 : Envs K O (vs.map some ++ List.replicate m none) (es.map some ++ List.replicate m none) H := by
    refine ⟨by simp [hl, hv], fun i x e h1 h2 => ?_, E.al, fun i j p ds es' h1 h2 h3 h4 => ?_⟩
    · by_cases hi : i < (es.map some).length
      · rw [List.getElem?_append_left hi] at h2
        rw [List.getElem?_append_left (by simp at hi ⊢; omega)] at h1
        exact E.ok i x e h1 h2
      · rw [List.getElem?_append_right (by omega)] at h2
        obtain ⟨_, h2⟩ := List.getElem?_eq_some_iff.mp h2
        rw [List.getElem_replicate] at h2
        cases h2
    · have a : ∀ (i : Nat) (ds : List PyData), (es.map some ++ List.replicate m none)[i]? = some (some (.lst ds)) → i < (es.map some).length := fun i ds h => by
        by_cases hi : i < (es.map some).length
        · exact hi
        · rw [List.getElem?_append_right (by omega)] at h
          obtain ⟨_, h⟩ := List.getElem?_eq_some_iff.mp h
          rw [List.getElem_replicate] at h
          cases h
      have hi := a i ds h2
      have hj := a j es' h4
      rw [List.getElem?_append_left (by simp at hi ⊢; omega)] at h1
      rw [List.getElem?_append_left hi] at h2
      rw [List.getElem?_append_left (by simp at hj ⊢; omega)] at h3
      rw [List.getElem?_append_left hj] at h4
      exact E.dis i j p ds es' h1 h2 h3 h4
  -- an entry behind the body
  have ent : ∀ (i : Nat) (v : V) (e : Ent), vs[i]? = some v → (finE 0 es ρ')[i]? = some e → EntOk K O' H' (some v) e ∧ ∀ ds, e = .lst ds → σ'[i]? = some (some v) ∧ ρ'[i]? = some (some (.lst ds)) ∧ ∃ ds0, es[i]? = some (.lst ds0) := fun i v e h1 h2 => by
    rw [finE_get] at h2
    cases he : es[i]? with
    | none => rw [he] at h2; cases h2
    | some e0 =>
      rw [he] at h2
      have h2 : finE1 (0 + i) e0 ρ' = e := Option.some.inj h2
      rw [Nat.zero_add] at h2
      cases e0 with
      | val d =>
        subst h2
        have q := E.ok i _ _ (map_of h1) (map_of he)
        refine ⟨S.dp E0 (show Dp K (msk O H) v d from q), fun ds z => nomatch z⟩
      | lst ds0 =>
        have hi : i < np := by rw [← hl]; exact (List.getElem?_eq_some_iff.mp he).1
        obtain ⟨e1, ds1, e2⟩ := S.pin i ds0 hi (inE i _ (map_of he))
        have e3 : finE1 i (.lst ds0) ρ' = .lst ds1 := by unfold finE1; rw [e2]
        rw [e3] at h2
        subst h2
        have h4 : σ'[i]? = some (some v) := e1.trans (inL i _ (map_of h1))
        exact ⟨S.env.ok i _ _ h4 e2, fun ds z => by cases z; exact ⟨h4, e2, ds0, rfl⟩⟩
  have own' : ∀ p, Owns (vs.map some) ((finE 0 es ρ').map some) p → Owns σ' ρ' p ∧ Owns (vs.map some) (es.map some) p := fun p ⟨i, ds, h1, h2⟩ => by
    obtain ⟨v, e, h1⟩ := map_get h1
    cases e
    obtain ⟨en, e, h2⟩ := map_get h2
    cases e
    obtain ⟨_, h3⟩ := ent i _ _ h1 h2
    obtain ⟨a, b, ds0, c⟩ := h3 ds rfl
    exact ⟨⟨i, ds, a, b⟩, ⟨i, ds0, map_of h1, map_of c⟩⟩
  refine ⟨⟨S.sub, S.new, fun b o nb h => S.le b o (fun w => nb (outO b w)) h, ⟨?_, fun i x e h1 h2 => ?_, S.env.al, fun i j p ds es' h1 h2 h3 h4 => ?_⟩, fun b w => .inl (own' b w).2, fun i ds hi h => ⟨rfl, ?_⟩⟩, fun p w => (own' p w).1⟩
  · rw [List.length_map, List.length_map, finE_len, hv, hl]
  · obtain ⟨v, rfl, g1⟩ := map_get h1
    obtain ⟨en, z, g2⟩ := map_get h2
    cases z
    exact (ent i v e g1 g2).1
  · obtain ⟨v, z, h1⟩ := map_get h1
    cases z
    obtain ⟨en, z, h2⟩ := map_get h2
    cases z
    obtain ⟨v, z, h3⟩ := map_get h3
    cases z
    obtain ⟨en, z, h4⟩ := map_get h4
    cases z
    obtain ⟨a1, a2, _⟩ := (ent i _ _ h1 h2).2 _ rfl
    obtain ⟨a3, a4, _⟩ := (ent j _ _ h3 h4).2 _ rfl
    exact S.env.dis i j p ds es' a1 a2 a3 a4
  · obtain ⟨en, z, h⟩ := map_get h
    cases z
    obtain ⟨_, ds1, e2⟩ := S.pin i ds hi (inE i _ (map_of h))
    refine ⟨ds1, map_of ?_⟩
    rw [finE_get, h]
    show some (finE1 (0 + i) (.lst ds) ρ') = _
    rw [Nat.zero_add]
    unfold finE1
    rw [e2]
theorem env_start {np m : Nat} {vs : List V} {es : List Ent} (E : Envs K O (vs.map some) (es.map some) H) (hl : es.length = np) (hv : vs.length = np) : Envs K O (vs.map some ++ List.replicate m none) (es.map some ++ List.replicate m none) H := by
  refine ⟨by simp [hl, hv], fun i x e h1 h2 => ?_, E.al, fun i j p ds es' h1 h2 h3 h4 => ?_⟩
  · by_cases hi : i < (es.map some).length
    · rw [List.getElem?_append_left hi] at h2
      rw [List.getElem?_append_left (by simp at hi ⊢; omega)] at h1
      exact E.ok i x e h1 h2
    · rw [List.getElem?_append_right (by omega)] at h2
      obtain ⟨_, h2⟩ := List.getElem?_eq_some_iff.mp h2
      rw [List.getElem_replicate] at h2
      cases h2
  · have a : ∀ (i : Nat) (ds : List PyData), (es.map some ++ List.replicate m none)[i]? = some (some (.lst ds)) → i < (es.map some).length := fun i ds h => by
      by_cases hi : i < (es.map some).length
      · exact hi
      · rw [List.getElem?_append_right (by omega)] at h
        obtain ⟨_, h⟩ := List.getElem?_eq_some_iff.mp h
        rw [List.getElem_replicate] at h
        cases h
    have hi := a i ds h2
    have hj := a j es' h4
    rw [List.getElem?_append_left (by simp at hi ⊢; omega)] at h1
    rw [List.getElem?_append_left hi] at h2
    rw [List.getElem?_append_left (by simp at hj ⊢; omega)] at h3
    rw [List.getElem?_append_left hj] at h4
    exact E.dis i j p ds es' h1 h2 h3 h4
end
section
variable {P : Program} {w : World} {K : PySem.W.Frag} {mg : Str → Option Value} {base : Heap}
/-- THE RULE for a def on data -/
theorem fn_data {x qual : Str} {st : Stmt} {f : Addr} {fd : FuncData} {N ps : List Str} {k np : Nat} {W : SpW} (F : Fun K x qual st f fd) (S : FnScope N ps (defScope st)) (hp : ps.length = np)
    (body : ∀ (cdv : Value) (A : Around) (outer : List Env) (s : Shared) (H : Hp) (E : XK), Room k (A.deeper (envOfC qual (defScope st) s.heap.objs.size f cdv)) →
      ∃ t, PSs (cxOf CX0 P w K mg base N qual (defScope st) f cdv A outer s H E).nox (defBody st) t ∧
        ∀ es Φ, W es Φ → es.length = np → DSx K np t (es.map some ++ List.replicate (N.length - np) none) { nx := fun ρ => Φ .none (finE 0 es ρ), rt := fun d ρ => Φ d (finE 0 es ρ) }) :
    FnOk P w K mg base CX0 (k + 1) f fd ps (spD K np W) := by
  refine F.ok S (fun vs H Q E h => ?_) (fun cdv A outer s H vs Q E hr h => ?_)
  · obtain ⟨O, es, Φ, h, _⟩ := h
    omega
  · obtain ⟨O, es, Φ, hv, he, hw, hk⟩ := h
    have hl : es.length = np := by have := he.len; simp at this; omega
    obtain ⟨t, h1, h2⟩ := body cdv A outer s H E hr
    refine ⟨t, h1, ?_⟩
    show t _ (vs.map some ++ List.replicate (N.length - vs.length) none) H
    rw [hv]
    refine h2 es Φ hw hl O _ H (env_start he hl hv) _ (fun O' σ' ρ' H' q S' => ?_) (fun v d O' σ' ρ' H' q S' r => ?_) (fun p ws ds O' σ' ρ' H' q S' => q.elim) (fun O' σ' ρ' H' q S' => q.elim) (fun O' σ' ρ' H' q S' => q.elim)
    · exact hk .non .none _ O' H' q (stp_fin he hl hv S').1 .non
    · exact hk v d _ O' H' q (stp_fin he hl hv S').1 r
theorem fn_dataF {x qual : Str} {st : Stmt} {f : Addr} {fd : FuncData} {N ps : List Str} {k np : Nat} {W : SfW} (F : Fun K x qual st f fd) (S : FnScope N ps (defScope st)) (hp : ps.length = np)
    (body : ∀ (cdv : Value) (A : Around) (outer : List Env) (s : Shared) (H : Hp) (E : XK), Room k (A.deeper (envOfC qual (defScope st) s.heap.objs.size f cdv)) →
      ∃ t, PSs (cxOf CX0 P w K mg base N qual (defScope st) f cdv A outer s H E).nox (defBody st) t ∧
        ∀ es Φ, W es Φ → es.length = np → DSx K np t (es.map some ++ List.replicate (N.length - np) none) { nx := fun _ => False, rt := fun _ _ => False, rf := fun ds ρ => Φ ds (finE 0 es ρ) }) :
    FnOk P w K mg base CX0 (k + 1) f fd ps (spF K np W) := by
  refine F.ok S (fun vs H Q E h => ?_) (fun cdv A outer s H vs Q E hr h => ?_)
  · obtain ⟨O, es, Φ, h, _⟩ := h
    omega
  · obtain ⟨O, es, Φ, hv, he, hw, hk⟩ := h
    have hl : es.length = np := by have := he.len; simp at this; omega
    obtain ⟨t, h1, h2⟩ := body cdv A outer s H E hr
    refine ⟨t, h1, ?_⟩
    show t _ (vs.map some ++ List.replicate (N.length - vs.length) none) H
    rw [hv]
    refine h2 es Φ hw hl O _ H (env_start he hl hv) _ (fun O' σ' ρ' H' q S' => q.elim) (fun v d O' σ' ρ' H' q S' r => q.elim) (fun p ws ds O' σ' ρ' H' q S' hp no h0 hh hd => ?_) (fun O' σ' ρ' H' q S' => q.elim) (fun O' σ' ρ' H' q S' => q.elim)
    obtain ⟨S1, S2⟩ := stp_fin he hl hv S'
    refine hk p ws ds _ O' H' q S1 hp (fun w => no (S2 p w)) ?_ hh hd
    rcases h0 with h0 | ⟨i, ds0, hi, h3, h4⟩
    · exact h0
    · rw [List.getElem?_append_right (by simp; omega)] at h4
      obtain ⟨_, h4⟩ := List.getElem?_eq_some_iff.mp h4
      rw [List.getElem_replicate] at h4
      cases h4
end
section
variable {K : PySem.W.Frag} {n np : Nat} {O O1 : List Addr} {σ : L2.St} {ρ ρ1 : Rho} {H H1 : Hp} {ta tb tc te : TE} {tt tu : TT} {Φ : PD} {F : DE2} {ts us : TS} {W : SpW} {Wf : SfW}
/-- arguments that are all plain data -/
theorem env_args {vs : List V} {ds : List PyData} (al : ∀ b ∈ O, H b ≠ none) (h : DpAll K (msk O H) vs ds) : Envs K O (vs.map some) ((ds.map Ent.val).map some) H := by
  refine ⟨by simp [dpa_len h], fun i x e h1 h2 => ?_, al, fun i j p d1 d2 h1 h2 h3 h4 => ?_⟩
  · obtain ⟨v, rfl, g1⟩ := map_get h1
    obtain ⟨en, z, g2⟩ := map_get h2
    cases z
    rw [List.getElem?_map] at g2
    obtain ⟨d, h3, h4⟩ := dpa_get' h g1
    rw [h3] at g2
    cases g2
    exact h4
  · obtain ⟨en, z, h2⟩ := map_get h2
    cases z
    rw [List.getElem?_map] at h2
    cases e : ds[i]? with
    | none => rw [e] at h2; cases h2
    | some d => rw [e] at h2; cases h2
theorem no_own_vals {vs : List (Option V)} {ds : List PyData} {p : Addr} : ¬ Owns vs ((ds.map Ent.val).map some) p := fun ⟨i, es, h1, h2⟩ => by
  obtain ⟨en, z, h2⟩ := map_get h2
  cases z
  rw [List.getElem?_map] at h2
  cases e : ds[i]? with
  | none => rw [e] at h2; cases h2
  | some d => rw [e] at h2; cases h2
/-- behind a call of plain data -/
theorem stp_called {vs : List V} {ds : List PyData} {es' : List Ent} {O' : List Addr} {H' : Hp} (E : Envs K O1 σ ρ1 H1) (hd : DpAll K (msk O1 H1) vs ds)
    (S : Stp K np O1 (vs.map some) ((ds.map Ent.val).map some) H1 O' (vs.map some) (es'.map some) H') : Stp K n O1 σ ρ1 H1 O' σ ρ1 H' := by
  have ex : Ext H1 H' := fun b o h => S.le b o no_own_vals h
  have em : Ext (msk O1 H1) (msk O' H') := S.msk (env_args E.al hd)
  refine ⟨S.sub, S.new, fun b o _ h => ex b o h, ⟨E.len, fun i x e h1 h2 => ?_, S.env.al, E.dis⟩, fun b h => .inl h, fun i es hi h => ⟨rfl, es, h⟩⟩
  have w := E.ok i x e h1 h2
  cases e with
  | val d =>
    cases x with
    | none => exact w.elim
    | some v => exact dp_ext em (show Dp K (msk O1 H1) v d from w)
  | lst es =>
    obtain ⟨r, rfl, hr, ws, hw, hq⟩ := lst_val w
    exact ⟨S.sub r hr, ws, ex r _ hw, dpa_ext em hq⟩
theorem dw_call {t : TA} {E0 : XK} (h : DA K n t ρ fun ds ρ1 => ds.length = np ∧ W (ds.map Ent.val) fun d _ => Φ d ρ1) : DW K n (tCall (spD K np W) [] E0 t) ρ Φ := fun O σ H E Q q =>
  h O σ H E _ fun vs ds ρ1 O1 H1 ⟨hl, hw⟩ S r => by
    show spD K np W (vs ++ []) H1 Q E0
    rw [List.append_nil]
    refine ⟨O1, ds.map Ent.val, _, (dpa_len r).trans hl, env_args S.env.al r, hw, fun v d es' O' H' k S' rr => ?_⟩
    exact q v d ρ1 O' H' k (S.trans E (stp_called S.env r S')) rr
theorem df_call {t : TA} {E0 : XK} {Ψ : PF} (h : DA K n t ρ fun ds ρ1 => ds.length = np ∧ Wf (ds.map Ent.val) fun d _ => Ψ d ρ1) : DF K n (tCall (spF K np Wf) [] E0 t) ρ Ψ := fun O σ H E Q q =>
  h O σ H E _ fun vs ds ρ1 O1 H1 ⟨hl, hw⟩ S r => by
    show spF K np Wf (vs ++ []) H1 Q E0
    rw [List.append_nil]
    refine ⟨O1, ds.map Ent.val, _, (dpa_len r).trans hl, env_args S.env.al r, hw, fun p ws d es' O' H' k S' hp no h0 hh hd => ?_⟩
    have S2 := stp_called (n := n) S.env r S'
    have mem : ∀ b, b ∈ O' ↔ b ∈ p :: O'.filter (fun b => decide (b ≠ p)) := fun b => by
      by_cases hb : b = p
      · subst hb; simp [hp]
      · simp [hb]
    have h00 : H p = none := S.none_back (fun z => fresh_notin S.env h0 (S.sub p z)) h0 E
    refine q p ws d ρ1 _ H' k (stp_mem (S.trans E S2) mem) (by simp) (fun w => ?_) h00 hh (by rw [msk_mem mem]; exact hd)
    exact S.env.al p (S.env.ownO w) h0
/-- the first argument is a name's own list, which the def may change -/
theorem env_args1 {p : Addr} {us vs : List V} {es ds : List PyData} (al : ∀ b ∈ O, H b ≠ none) (hp : p ∈ O) (hH : H p = some (.lst us)) (hu : DpAll K (msk O H) us es) (h : DpAll K (msk O H) vs ds) :
    Envs K O ((V.ref p :: vs).map some) ((Ent.lst es :: ds.map Ent.val).map some) H := by
  have E := env_args al h
  refine ⟨by simp [dpa_len h], fun i x e h1 h2 => ?_, al, fun i j r d1 d2 h1 h2 h3 h4 => ?_⟩
  · cases i with
    | zero =>
      simp at h1 h2
      subst h1; subst h2
      exact ⟨hp, us, hH, hu⟩
    | succ i => exact E.ok i x e (by simpa using h1) (by simpa using h2)
  · have a : ∀ (i : Nat) (d : List PyData), ((Ent.lst es :: ds.map Ent.val).map some)[i]? = some (some (.lst d)) → i = 0 := fun i d h => by
      cases i with
      | zero => rfl
      | succ i =>
        have h : ((ds.map Ent.val).map some)[i]? = some (some (.lst d)) := by simpa using h
        obtain ⟨en, z, h⟩ := map_get h
        cases z
        rw [List.getElem?_map] at h
        cases e : ds[i]? with
        | none => rw [e] at h; cases h
        | some d => rw [e] at h; cases h
    rw [a i d1 h2, a j d2 h4]
theorem own_args1 {p b : Addr} {vs : List V} {es ds : List PyData} (w : Owns ((V.ref p :: vs).map some) ((Ent.lst es :: ds.map Ent.val).map some) b) : b = p := by
  obtain ⟨i, d, h1, h2⟩ := w
  cases i with
  | zero => simp at h1; exact h1.symm
  | succ i => exact absurd ⟨i, d, by simpa using h1, by simpa using h2⟩ (no_own_vals (vs := vs.map some) (ds := ds) (p := b))
theorem dw_callO {i : Nat} {t : TA} {E0 : XK} {ds0 : List PyData} (h0 : ρ[i]? = some (some (.lst ds0)))
    (h : DA K n t ρ fun ds ρ1 => ds.length + 1 = np ∧ ∃ ds1, ρ1[i]? = some (some (.lst ds1)) ∧ W (.lst ds1 :: ds.map Ent.val) fun d es' => ∀ ds2 r, es' = .lst ds2 :: r → Φ d (ρ1.set i (some (.lst ds2)))) :
    DW K n (tCall (spD K np W) [] E0 (tCons (tVar i) t)) ρ Φ := fun O σ H E Q q => by
  obtain ⟨p, us0, a0, _⟩ := env_lst E h0
  refine ⟨.ref p, a0, ?_⟩
  refine h O σ H E _ fun vs ds ρ1 O1 H1 ⟨hl, ds1, h1, hw⟩ S r => ?_
  obtain ⟨p', us, a, hp, hH, hu⟩ := env_lst S.env h1
  rw [a0] at a; cases a
  have E1 := S.env
  show spD K np W (V.ref p :: (vs ++ [])) H1 Q E0
  rw [List.append_nil]
  refine ⟨O1, _, _, by simp [dpa_len r]; omega, env_args1 E1.al hp hH hu r, hw, fun v d es' O' H' k S' rr => ?_⟩
  obtain ⟨_, ds2, e2⟩ := S'.pin 0 ds1 (by omega) (by simp)
  obtain ⟨en, z, e2⟩ := map_get e2
  cases z
  obtain ⟨rest, rfl⟩ : ∃ rest, es' = .lst ds2 :: rest := by
    cases es' with
    | nil => simp at e2
    | cons x r => simp at e2; exact ⟨r, by rw [e2]⟩
  have em : Ext (msk O1 H1) (msk O' H') := S'.msk (env_args1 E1.al hp hH hu r)
  have hi : i < ρ1.length := (List.getElem?_eq_some_iff.mp h1).1
  have S2 : Stp K n O1 σ ρ1 H1 O' σ (ρ1.set i (some (.lst ds2))) H' := by
    refine ⟨S'.sub, S'.new, fun b o nb h => S'.le b o (fun w => nb ?_) h, ⟨by rw [List.length_set]; exact E1.len, fun j x e g1 g2 => ?_, S'.env.al, fun j k r d1 d2 g1 g2 g3 g4 => ?_⟩, fun b ⟨j, d1, g1, g2⟩ => ?_, fun j d1 hj g2 => ⟨rfl, ?_⟩⟩
    · rw [own_args1 w]
      exact ⟨i, ds1, a0, h1⟩
    · by_cases hij : i = j
      · subst hij
        rw [List.getElem?_set_self hi] at g2
        cases g2
        rw [a0] at g1; cases g1
        exact S'.env.ok 0 _ _ (by simp) (by simp)
      · rw [List.getElem?_set_ne hij] at g2
        have w := E1.ok j x e g1 g2
        cases e with
        | val d =>
          cases x with
          | none => exact w.elim
          | some v => exact dp_ext em (show Dp K (msk O1 H1) v d from w)
        | lst es =>
          obtain ⟨r2, rfl, hr, ws, hw2, hq⟩ := lst_val w
          refine ⟨S'.sub r2 hr, ws, S'.le r2 _ (fun w2 => ?_) hw2, dpa_ext em hq⟩
          have e := own_args1 w2
          subst e
          exact hij (E1.dis i j r2 ds1 es a0 h1 g1 g2)
    · by_cases hij : i = j
      · subst hij
        by_cases hik : i = k
        · exact hik
        · rw [List.getElem?_set_ne hik] at g4
          rw [a0] at g1; cases g1
          exact E1.dis i k p ds1 d2 a0 h1 g3 g4
      · rw [List.getElem?_set_ne hij] at g2
        by_cases hik : i = k
        · subst hik
          rw [a0] at g3; cases g3
          exact E1.dis j i p d1 ds1 g1 g2 a0 h1
        · rw [List.getElem?_set_ne hik] at g4
          exact E1.dis j k r d1 d2 g1 g2 g3 g4
    · by_cases hij : i = j
      · subst hij
        exact .inl ⟨i, ds1, g1, h1⟩
      · rw [List.getElem?_set_ne hij] at g2
        exact .inl ⟨j, d1, g1, g2⟩
    · by_cases hij : i = j
      · subst hij
        exact ⟨ds2, List.getElem?_set_self hi⟩
      · rw [List.getElem?_set_ne hij]
        exact ⟨d1, g2⟩
  exact q v d _ O' H' (k ds2 rest rfl) (S.trans E S2) rr
end
end DL
namespace DL
open PySem L2 PySem.Spec PyProof.Rows
section
variable {K : PySem.W.Frag} {n np : Nat} {O O1 : List Addr} {σ : L2.St} {ρ ρ1 : Rho} {H H1 : Hp} {ta tb tc te : TE} {tt tu : TT} {Φ : PD} {F : DE2} {ts us : TS} {Ψ : PyData → Prop} {x y : PyData}

/-! ### operators on data -/
theorem rd_i0 {g : Int → Int → Int} {i j : Int} (k : Ψ (.int (g i j))) : RD (rI0 fun i j => .int (g i j)) K (.int i) (.int j) Ψ := fun O H vx vy al hx hy Q q => by
  cases hx; cases hy
  exact ⟨i, j, rfl, rfl, q _ _ H k (Ext.refl H) (.int _)⟩
theorem rd_b0 {g : Int → Int → Bool} {i j : Int} (k : Ψ (.bool (g i j))) : RD (rI0 fun i j => .bl (g i j)) K (.int i) (.int j) Ψ := fun O H vx vy al hx hy Q q => by
  cases hx; cases hy
  exact ⟨i, j, rfl, rfl, q _ _ H k (Ext.refl H) (.bl _)⟩
theorem rd_i {C : Int → Int → Prop} {g : Int → Int → Int} {i j : Int} (hc : C i j) (k : Ψ (.int (g i j))) : RD (rI C fun i j => .int (g i j)) K (.int i) (.int j) Ψ := fun O H vx vy al hx hy Q q => by
  cases hx; cases hy
  exact ⟨i, j, rfl, rfl, hc, q _ _ H k (Ext.refl H) (.int _)⟩
theorem ru_i {g : Int → Int} {i : Int} (k : Ψ (.int (g i))) : RU (rU fun i => .int (g i)) K (.int i) Ψ := fun O H vx al hx Q q => by
  cases hx
  exact ⟨i, rfl, q _ _ H k (Ext.refl H) (.int _)⟩
theorem rd_eq0 (hx : SeqAt.shaped x = true) (hy : SeqAt.shaped y = true) (k : Ψ (.bool (PyData.eqv x y))) : RD (rEqD K) K x y Ψ := fun O H vx vy al h1 h2 Q q =>
  ⟨x, y, dp_ext msk_le h1, dp_ext msk_le h2, hx, hy, q _ _ H k (Ext.refl H) (.bl _)⟩
theorem rd_ne0 (hx : SeqAt.shaped x = true) (hy : SeqAt.shaped y = true) (k : Ψ (.bool (!PyData.eqv x y))) : RD (rNeD K) K x y Ψ := fun O H vx vy al h1 h2 Q q =>
  ⟨x, y, dp_ext msk_le h1, dp_ext msk_le h2, hx, hy, q _ _ H k (Ext.refl H) (.bl _)⟩
theorem dpa_atI {vs : List V} {ds : List PyData} {k : Int} {d : PyData} (h : DpAll K H vs ds) (e : atI ds k = some d) : ∃ v, atI vs k = some v ∧ Dp K H v d := by
  unfold atI at e ⊢
  rw [dpa_len h]
  cases q : ixN ds.length k with
  | none => rw [q] at e; cases e
  | some j =>
    rw [q] at e
    exact dpa_get h e
theorem rd_ixL {ds : List PyData} {k : Int} {d : PyData} (e : atI ds k = some d) (kk : Ψ d) : RD (rIx K) K (.list ds) (.int k) Ψ := fun O H vx vy al h1 h2 Q q => by
  cases h2
  cases h1 with
  | lst hq hd =>
    obtain ⟨v, h3, h4⟩ := dpa_atI hd e
    exact .inl ⟨_, _, k, v, rfl, rfl, msk_l hq, h3, q v d H kk (Ext.refl H) h4⟩
theorem rd_ixT {ds : List PyData} {k : Int} {d : PyData} (e : atI ds k = some d) (kk : Ψ d) : RD (rIx K) K (.tuple ds) (.int k) Ψ := fun O H vx vy al h1 h2 Q q => by
  cases h2
  cases h1 with
  | tup hq hd =>
    obtain ⟨v, h3, h4⟩ := dpa_atI hd e
    exact .inr (.inl ⟨_, _, k, v, rfl, rfl, msk_t hq, h3, q v d H kk (Ext.refl H) h4⟩)
theorem rd_ixS {z : Str} {k : Int} {c : Nat} (hz : z.length ≤ 100000) (e : atI z.cps.toList k = some c) (kk : Ψ (.str ⟨#[c]⟩)) : RD (rIx K) K (.str z) (.int k) Ψ := fun O H vx vy al h1 h2 Q q => by
  cases h2
  cases h1
  exact .inr (.inr ⟨z, k, c, rfl, rfl, Nat.le_trans hz (by decide), e, q _ _ H kk (Ext.refl H) (.str _)⟩)

/-! ### built-ins on data -/
theorem rc_int {i : Int} (k : Ψ (.int i)) : RC (fun xs H Q => (∃ i, xs = [.int i] ∧ Q (.int i) H) ∨ ∃ k, xs = [.bl k] ∧ Q (.int (if k then 1 else 0)) H) K [.int i] Ψ := fun O H vs al h Q q => by
  cases h with | cons h r => cases r; cases h; exact .inl ⟨i, rfl, q _ _ H k (Ext.refl H) (.int _)⟩
theorem rc_intB {i : Bool} (k : Ψ (.int (if i then 1 else 0))) : RC (fun xs H Q => (∃ i, xs = [.int i] ∧ Q (.int i) H) ∨ ∃ k, xs = [.bl k] ∧ Q (.int (if k then 1 else 0)) H) K [.bool i] Ψ := fun O H vs al h Q q => by
  cases h with | cons h r => cases r; cases h; exact .inr ⟨i, rfl, q _ _ H k (Ext.refl H) (.int _)⟩
theorem rc_abs {i : Int} (k : Ψ (.int (if i < 0 then -i else i))) : RC (fun xs H Q => ∃ i, xs = [.int i] ∧ Q (.int (if i < 0 then -i else i)) H) K [.int i] Ψ := fun O H vs al h Q q => by
  cases h with | cons h r => cases r; cases h; exact ⟨i, rfl, q _ _ H k (Ext.refl H) (.int _)⟩
theorem rc_max {i j : Int} (k : Ψ (.int (if j > i then j else i))) : RC (fun xs H Q => ∃ i j, xs = [.int i, .int j] ∧ Q (.int (if j > i then j else i)) H) K [.int i, .int j] Ψ := fun O H vs al h Q q => by
  cases h with | cons h r => cases r with | cons h2 r => cases r; cases h; cases h2; exact ⟨i, j, rfl, q _ _ H k (Ext.refl H) (.int _)⟩
theorem rc_min {i j : Int} (k : Ψ (.int (if j < i then j else i))) : RC (fun xs H Q => ∃ i j, xs = [.int i, .int j] ∧ Q (.int (if j < i then j else i)) H) K [.int i, .int j] Ψ := fun O H vs al h Q q => by
  cases h with | cons h r => cases r with | cons h2 r => cases r; cases h; cases h2; exact ⟨i, j, rfl, q _ _ H k (Ext.refl H) (.int _)⟩
theorem rc_str {i : Int} (hi : i.natAbs.log2 < 1920) (k : Ψ (.str (toString i))) : RC (fun xs H Q => ∃ i, xs = [.int i] ∧ i.natAbs.log2 < 1920 ∧ Q (.str (toString i)) H) K [.int i] Ψ := fun O H vs al h Q q => by
  cases h with | cons h r => cases r; cases h; exact ⟨i, rfl, hi, q _ _ H k (Ext.refl H) (.str _)⟩
theorem rc_gcd {i j : Int} (k : Ψ (.int ((Nat.gcd i.natAbs j.natAbs : Nat) : Int))) : RC rGcd K [.int i, .int j] Ψ := fun O H vs al h Q q => by
  cases h with | cons h r => cases r with | cons h2 r => cases r; cases h; cases h2; exact ⟨i, j, rfl, q _ _ H k (Ext.refl H) (.int _)⟩
def rLen (K : PySem.W.Frag) : List V → Hp → VK → Prop := fun xs H Q => ∃ x n, xs = [x] ∧ LenV K x H n ∧ Q (.int n) H
theorem call_lenA {X : Cx} : CallR X (.builtin "len") (rLen X.K) := call_len
theorem rc_lenL {ds : List PyData} (k : Ψ (.int ds.length)) : RC (rLen K) K [.list ds] Ψ := fun O H vs al h Q q => by
  cases h with
  | cons h r =>
    cases r
    cases h with
    | lst hq hd => exact ⟨_, _, rfl, .inl ⟨_, msk_l hq, (dpa_len hd).symm⟩, q _ _ H k (Ext.refl H) (.int _)⟩
theorem rc_lenT {ds : List PyData} (k : Ψ (.int ds.length)) : RC (rLen K) K [.tuple ds] Ψ := fun O H vs al h Q q => by
  cases h with
  | cons h r =>
    cases r
    cases h with
    | tup hq hd => exact ⟨_, _, rfl, .inr ⟨_, msk_t hq, (dpa_len hd).symm⟩, q _ _ H k (Ext.refl H) (.int _)⟩
theorem rc_lenS {z : Str} (hz : z.length ≤ 100000) (k : Ψ (.int z.length)) : RC (rLen K) K [.str z] Ψ := fun O H vs al h Q q => by
  cases h with
  | cons h r =>
    cases r
    cases h
    exact ⟨_, _, rfl, ⟨Nat.le_trans hz (by decide), rfl⟩, q _ _ H k (Ext.refl H) (.int _)⟩
/-- math.comb -/
def rComb : List V → Hp → VK → Prop := fun vs H Q => ∃ a b : Int, vs = [.int a, .int b] ∧ (0 ≤ a ∧ 0 ≤ b ∧ a ≤ 18000) ∧ Q (.int (PySem.W.mcComb a b)) H
theorem cr_comb {X : Cx} : CallR X (.builtin "math.comb") rComb := by
  intro pins s σ H vs us Q I r h
  obtain ⟨a, b, rfl, ⟨h1, h2, h3⟩, q⟩ := h
  obtain ⟨t, u, rfl⟩ := Vals.int2 r
  exact PySem.W.mc_comb h1 h2 (by omega) (.inr h3) fun _ => ⟨.int _, H, I.tok _, ⟨_, rfl⟩, q⟩
theorem rc_comb {i j : Int} (h : 0 ≤ i ∧ 0 ≤ j ∧ i ≤ 18000) (k : Ψ (.int (PySem.W.mcComb i j))) : RC rComb K [.int i, .int j] Ψ := fun O H vs al hh Q q => by
  cases hh with | cons h1 r => cases r with | cons h2 r => cases r; cases h1; cases h2; exact ⟨i, j, rfl, h, q _ _ H k (Ext.refl H) (.int _)⟩

/-! ### isinstance -/
def tyN : PyData → String
  | .none => "NoneType"
  | .bool _ => "bool"
  | .int _ => "int"
  | .str _ => "str"
  | .list _ => "list"
  | .tuple _ => "tuple"
  | .dict _ => "dict"
theorem ty_of {v : V} {d : PyData} {O : List Addr} (h : Dp K (msk O H) v d) : TyX K H v (.type (tyN d)) := by
  cases h with
  | non => exact .base .non
  | bl b => exact .base (.bl b)
  | int i => exact .base (.int i)
  | str s => exact .base (.str s)
  | lst hq _ =>
    rcases msk_l hq with (h | ⟨o, h⟩) | ⟨o, its, n, h, c, _⟩
    · exact .base (.lst h)
    · exact .base (.frz h)
    · exact .kList h c
  | tup hq _ =>
    rcases msk_t hq with (h | ⟨o, h⟩) | ⟨o, its, n, h, c, _⟩
    · exact .base (.tup h)
    · exact .fTuple h
    · exact .kTuple h c
def isT (T : String) (d : PyData) : Option Bool := kitB (tyN d) T
theorem dw_isi {T : String} (h : DW K n te ρ fun d ρ1 => ∃ b, isT T d = some b ∧ Φ (.bool b) ρ1) : DW K n (tCB (rIsi K) (tCons te (tCons (tC (.ty T)) tNil))) ρ Φ := fun O σ H E Q q =>
  h O σ H E _ fun v d ρ1 O1 H1 ⟨b, hb, k⟩ S r => ⟨v, .ty T, _, _, b, rfl, .ty T, ty_of r, kit_ty hb, q _ _ ρ1 O1 H1 k S (.bl b)⟩

/-! ### f-strings -/
theorem dw_fmtI (h : DW K n te ρ fun d ρ1 => ∃ i, d = .int i ∧ i.natAbs.log2 < 1920 ∧ Φ (.str (toString i)) ρ1) : DW K n (tFmt te) ρ Φ := fun O σ H E Q q =>
  h O σ H E _ fun v d ρ1 O1 H1 ⟨i, e, hi, k⟩ S r => by
    subst e
    exact .inr ⟨i, dp_int r, hi, q _ _ ρ1 O1 H1 k S (.str _)⟩
def DJ (K : PySem.W.Frag) (n : Nat) (ts : List TE) (acc : Str) (ρ : Rho) (Ψ : Str → Rho → Prop) : Prop :=
  ∀ O σ H, Envs K O σ ρ H → ∀ Q : Str → Hp → Prop, (∀ z ρ' O' H', Ψ z ρ' → Stp K n O σ ρ H O' σ ρ' H' → Q z H') → tJs ts acc σ H Q
theorem dj_nil {acc : Str} {Ψ : Str → Rho → Prop} (k : Ψ acc ρ) : DJ K n [] acc ρ Ψ := fun O σ H E Q q => q acc ρ O H k (Stp.refl E)
theorem dj_cons {t : TE} {ts : List TE} {acc : Str} {Ψ : Str → Rho → Prop} (h : DW K n t ρ fun d ρ1 => ∃ z, d = .str z ∧ (acc ++ z).length ≤ 100000 ∧ DJ K n ts (acc ++ z) ρ1 Ψ) : DJ K n (t :: ts) acc ρ Ψ := fun O σ H E Q q =>
  h O σ H E _ fun v d ρ1 O1 H1 ⟨z, e, hz, k⟩ S r => by
    subst e
    exact ⟨z, dp_str r, Nat.le_trans hz (by decide), k O1 σ H1 S.env Q fun z2 ρ2 O2 H2 k2 S2 => q z2 ρ2 O2 H2 k2 (S.trans E S2)⟩
def tJoin (ts : List TE) : TE := fun σ H Q => tJs ts Str.empty σ H fun out H1 => Q (.str out) H1
theorem pe_joinedA {X : Cx} {v1 v2 : Expr} {rest : List Expr} {ts : List TE} {pos : Pos} (h : PJ X (v1 :: v2 :: rest) ts) : PE X (.JoinedStr (v1 :: v2 :: rest) pos) (tJoin ts) := pe_joined h
theorem dw_joined {ts : List TE} (h : DJ K n ts Str.empty ρ fun z ρ1 => Φ (.str z) ρ1) : DW K n (tJoin ts) ρ Φ := fun O σ H E Q q => h O σ H E _ fun z ρ1 O1 H1 k S => q _ _ ρ1 O1 H1 k S (.str z)
def rCatS : R2 := fun x y H Q => ∃ i j, x = .str i ∧ y = .str j ∧ i.length + j.length ≤ sizeLine ∧ Q (.str (i ++ j)) H
theorem op_catS {X : Cx} : OpR X (binaryOp .Add) rCatS := op_add_str
theorem rd_catS {i j : Str} (hl : i.length + j.length ≤ 100000) (k : Ψ (.str (i ++ j))) : RD rCatS K (.str i) (.str j) Ψ := fun O H vx vy al h1 h2 Q q => by
  cases h1; cases h2
  exact ⟨i, j, rfl, rfl, Nat.le_trans hl (by decide), q _ _ H k (Ext.refl H) (.str _)⟩

/-! ### a name's own list, read -/
theorem dw_ixO {i : Nat} {ds0 : List PyData} (h0 : ρ[i]? = some (some (.lst ds0))) (h : DW K n tb ρ fun x ρ1 => ∃ k ds d, x = .int k ∧ ρ1[i]? = some (some (.lst ds)) ∧ atI ds k = some d ∧ Φ d ρ1) : DW K n (tOp (rIx K) (tVar i) tb) ρ Φ := fun O σ H E Q q => by
  obtain ⟨p, us0, a0, _⟩ := env_lst E h0
  refine ⟨.ref p, a0, ?_⟩
  refine h O σ H E _ fun v x ρ1 O1 H1 ⟨k, ds, d, e, h1, h2, hk⟩ S r => ?_
  subst e
  obtain ⟨p', us, a, hp, hH, hu⟩ := env_lst S.env h1
  rw [a0] at a; cases a
  obtain ⟨v2, h3, h4⟩ := dpa_atI hu h2
  exact .inl ⟨p, us, k, v2, rfl, dp_int r, SqL.of hH, h3, q v2 d ρ1 O1 H1 hk S h4⟩
theorem dw_lenO {i : Nat} {ds : List PyData} (h0 : ρ[i]? = some (some (.lst ds))) (k : Φ (.int ds.length) ρ) : DW K n (tCB (rLen K) (tCons (tVar i) tNil)) ρ Φ := fun O σ H E Q q => by
  obtain ⟨p, us, a, hp, hH, hu⟩ := env_lst E h0
  exact ⟨.ref p, a, .ref p, _, rfl, .inl ⟨us, SqL.of hH, (dpa_len hu).symm⟩, q _ _ ρ O H k (Stp.refl E) (.int _)⟩
/-- plain data without a list in it does not lean on a list -/
def noLst : PyData → Bool
  | .list _ => false
  | .tuple ds => noLstAll ds
  | _ => true
where noLstAll : List PyData → Bool
  | [] => true
  | d :: r => noLst d && noLstAll r
mutual
theorem dp_noLst {p : Addr} {vs0 : List V} (hp : H p = some (.lst vs0)) : ∀ {v : V} {d : PyData}, noLst d = true → Dp K (msk O H) v d → Dp K (msk (p :: O) H) v d
  | _, _, _, .non => .non
  | _, _, _, .bl b => .bl b
  | _, _, _, .int i => .int i
  | _, _, _, .str x => .str x
  | _, _, h, .lst _ _ => by simp [noLst] at h
  | _, _, h, .tup (a := a) hq hd => by
    refine .tup (xs := _) ?_ (dpa_noLst hp h hd)
    have ne : ∀ u : HO, msk O H a = some u → (∀ xs, u ≠ .lst xs) → msk (p :: O) H a = some u := fun u hu hne => by
      obtain ⟨h1, h2⟩ := msk_some hu
      refine msk_of (fun hm => ?_) h2
      rcases List.mem_cons.mp hm with e | e
      · rw [e, hp] at h2
        exact hne vs0 (Option.some.inj h2).symm
      · exact h1 e
    rcases hq with (h1 | ⟨o, h1⟩) | h1
    · exact .inl (.inl (ne _ h1 (fun xs z => nomatch z)))
    · exact .inl (.inr ⟨o, ne _ h1 (fun xs z => nomatch z)⟩)
    · exact .inr h1
theorem dpa_noLst {p : Addr} {vs0 : List V} (hp : H p = some (.lst vs0)) : ∀ {vs : List V} {ds : List PyData}, noLst.noLstAll ds = true → DpAll K (msk O H) vs ds → DpAll K (msk (p :: O) H) vs ds
  | _, _, _, .nil => .nil
  | _, _, h, .cons a b => by
    have h : (noLst _ && noLst.noLstAll _) = true := h
    rw [Bool.and_eq_true] at h
    exact .cons (dp_noLst hp h.1 a) (dpa_noLst hp h.2 b)
end
/-- the first argument is a name's own list, which the def only reads -/
theorem dw_callB {W : SpW} {i : Nat} {t : TA} {E0 : XK} {ds0 : List PyData} (h0 : ρ[i]? = some (some (.lst ds0)))
    (h : DA K n t ρ fun ds ρ1 => ds.length + 1 = np ∧ ∃ ds1, ρ1[i]? = some (some (.lst ds1)) ∧ W ((.list ds1 :: ds).map Ent.val) fun d _ => noLst d = true ∧ Φ d ρ1) :
    DW K n (tCall (spD K np W) [] E0 (tCons (tVar i) t)) ρ Φ := fun O σ H E Q q => by
  obtain ⟨p, us0, a0, _⟩ := env_lst E h0
  refine ⟨.ref p, a0, ?_⟩
  refine h O σ H E _ fun vs ds ρ1 O1 H1 ⟨hl, ds1, h1, hw⟩ S r => ?_
  obtain ⟨p', us, a, hp, hH, hu⟩ := env_lst S.env h1
  rw [a0] at a; cases a
  have E1 := S.env
  have le1 : Ext (msk O1 H1) (msk (O1.filter fun b => decide (b ≠ p)) H1) := fun b o hb => by
    obtain ⟨nb, hb⟩ := msk_some hb
    exact msk_of (fun z => nb (List.mem_filter.mp z).1) hb
  have npf : p ∉ O1.filter fun b => decide (b ≠ p) := by simp
  have al1 : ∀ b ∈ O1.filter (fun b => decide (b ≠ p)), H1 b ≠ none := fun b hb => E1.al b (List.mem_filter.mp hb).1
  have args : DpAll K (msk (O1.filter fun b => decide (b ≠ p)) H1) (.ref p :: vs) (.list ds1 :: ds) := .cons (.lst (SqL.of (msk_of npf hH)) (dpa_ext le1 hu)) (dpa_ext le1 r)
  show spD K np W (V.ref p :: (vs ++ [])) H1 Q E0
  rw [List.append_nil]
  refine ⟨_, _, _, by simp [dpa_len r]; omega, env_args al1 args, hw, fun v d es' O' H' ⟨hd, k⟩ S' rr => ?_⟩
  have ex : Ext H1 H' := fun b o h => S'.le b o no_own_vals h
  have em : Ext (msk O1 H1) (msk (p :: O') H') := fun b o hb => by
    obtain ⟨nb, hb⟩ := msk_some hb
    refine msk_of (fun hm => ?_) (ex b o hb)
    rcases List.mem_cons.mp hm with e | e
    · exact nb (by rw [e]; exact hp)
    · rcases S'.new b e with z | z
      · exact nb (List.mem_filter.mp z).1
      · rw [z] at hb; cases hb
  have S2 : Stp K n O1 σ ρ1 H1 (p :: O') σ ρ1 H' := by
    refine ⟨fun b hb => ?_, fun b hb => ?_, fun b o _ h => ex b o h, ⟨E1.len, fun j x e g1 g2 => ?_, fun b hb => ?_, E1.dis⟩, fun b h => .inl h, fun j es _ h => ⟨rfl, es, h⟩⟩
    · by_cases e : b = p
      · rw [e]; exact List.mem_cons_self
      · exact List.mem_cons_of_mem _ (S'.sub b (List.mem_filter.mpr ⟨hb, decide_eq_true e⟩))
    · rcases List.mem_cons.mp hb with e | e
      · rw [e]; exact .inl hp
      · rcases S'.new b e with z | z
        · exact .inl (List.mem_filter.mp z).1
        · exact .inr z
    · have w := E1.ok j x e g1 g2
      cases e with
      | val d =>
        cases x with
        | none => exact w.elim
        | some v => exact dp_ext em (show Dp K (msk O1 H1) v d from w)
      | lst es =>
        obtain ⟨r2, rfl, hr, ws, hw2, hq⟩ := lst_val w
        refine ⟨?_, ws, ex r2 _ hw2, dpa_ext em hq⟩
        by_cases e : r2 = p
        · rw [e]; exact List.mem_cons_self
        · exact List.mem_cons_of_mem _ (S'.sub r2 (List.mem_filter.mpr ⟨hr, decide_eq_true e⟩))
    · rcases List.mem_cons.mp hb with e | e
      · rw [e, ex p _ hH]; exact fun z => nomatch z
      · exact S'.env.al b e
  exact q v d ρ1 (p :: O') H' k (S.trans E S2) (dp_noLst (ex p _ hH) hd rr)
end
end DL
namespace DL
open PySem L2 PySem.Spec PyProof.Rows
/-! ### operators of several kinds -/
def rAddA (K : PySem.W.Frag) : R2 := fun x y H Q => (rI0 fun i j => .int (i + j)) x y H Q ∨ (rCatS x y H Q ∨ rCatT K x y H Q)
theorem opA_add {X : Cx} : OpR X (binaryOp .Add) (rAddA X.K) := op_add.or (op_catS.or op_catT)
def CDivA (_ j : Int) : Prop := j ≠ 0 ∧ j.natAbs.log2 < 9000
theorem opA_fdiv {X : Cx} : OpR X (binaryOp .FloorDiv) (rI CDivA fun i j => .int (i.fdiv j)) := opI fun _ _ _ _ _ _ _ hc q => floordiv_int hc.1 q (.inl (PyProof.noPylong_of_log2 hc.2))
def rEqA (K : PySem.W.Frag) : R2 := fun x y H Q => rEqD K x y H Q ∨ rEq x y H Q
def rNeA (K : PySem.W.Frag) : R2 := fun x y H Q => rNeD K x y H Q ∨ rNe x y H Q
theorem opA_eq {X : Cx} (hu : X.A.units + 64 < cLine) : OpR X (compareOp .Eq) (rEqA X.K) := (op_eqD hu).or op_eq
theorem opA_ne {X : Cx} (hu : X.A.units + 64 < cLine) : OpR X (compareOp .NotEq) (rNeA X.K) := (op_neD hu).or op_ne
def CMulA (i j : Int) : Prop := CMulW i j ∨ CMul i j
def rMulA (K : PySem.W.Frag) : R2 := rI CMulA fun i j => .int (i * j)
theorem opA_mul {X : Cx} : OpR X (binaryOp .Mult) (rMulA X.K) := opI fun _ _ _ _ _ _ _ hc q => mul_int q (hc.elim CMulW.ok CMul.ok)
section
variable {K : PySem.W.Frag} {n np : Nat} {O O1 : List Addr} {σ : L2.St} {ρ ρ1 : Rho} {H H1 : Hp} {ta tb tc te : TE} {tt tu : TT} {Φ : PD} {F : DE2} {ts us : TS} {Ψ : PyData → Prop} {x y : PyData}
theorem rd_eq (hx : SeqAt.shaped x = true) (hy : SeqAt.shaped y = true) (k : Ψ (.bool (PyData.eqv x y))) : RD (rEqA K) K x y Ψ := fun O H vx vy al h1 h2 Q q => .inl (rd_eq0 hx hy k O H vx vy al h1 h2 Q q)
theorem rd_ne (hx : SeqAt.shaped x = true) (hy : SeqAt.shaped y = true) (k : Ψ (.bool (!PyData.eqv x y))) : RD (rNeA K) K x y Ψ := fun O H vx vy al h1 h2 Q q => .inl (rd_ne0 hx hy k O H vx vy al h1 h2 Q q)
theorem rd_eqT {x y : Str} (k : Ψ (.bool (decide (x = y)))) : RD (rEqA K) K (.str x) (.str y) Ψ := fun O H vx vy al h1 h2 Q q => by
  cases h1; cases h2
  refine .inr ⟨rfl, ?_⟩
  have e : decide (V.str x = V.str y) = decide (x = y) := by rw [Bool.eq_iff_iff]; simp
  rw [e]
  exact q _ _ H k (Ext.refl H) (.bl _)
theorem rd_neT {x y : Str} (k : Ψ (.bool (!decide (x = y)))) : RD (rNeA K) K (.str x) (.str y) Ψ := fun O H vx vy al h1 h2 Q q => by
  cases h1; cases h2
  refine .inr ⟨rfl, ?_⟩
  have e : decide (V.str x = V.str y) = decide (x = y) := by rw [Bool.eq_iff_iff]; simp
  rw [e]
  exact q _ _ H k (Ext.refl H) (.bl _)
theorem rd_addI {i j : Int} (k : Ψ (.int (i + j))) : RD (rAddA K) K (.int i) (.int j) Ψ := fun O H vx vy al hx hy Q q => .inl (rd_i0 (g := fun i j => i + j) k O H vx vy al hx hy Q q)
theorem rd_addS {i j : Str} (hl : i.length + j.length ≤ 100000) (k : Ψ (.str (i ++ j))) : RD (rAddA K) K (.str i) (.str j) Ψ := fun O H vx vy al hx hy Q q => .inr (.inl (rd_catS hl k O H vx vy al hx hy Q q))
theorem rd_mulS {i j : Int} (h : CMul i j) (k : Ψ (.int (i * j))) : RD (rMulA K) K (.int i) (.int j) Ψ := fun O H vx vy al hx hy Q q => rd_i (g := fun i j => i * j) (C := CMulA) (.inr h) k O H vx vy al hx hy Q q
theorem rd_mulI {i j : Int} (h : CMulW i j) (k : Ψ (.int (i * j))) : RD (rMulA K) K (.int i) (.int j) Ψ := fun O H vx vy al hx hy Q q => rd_i (g := fun i j => i * j) (C := CMulA) (.inl h) k O H vx vy al hx hy Q q
end
/-! ### the text's defs -/
section
variable (P : Program) (w : World) (K : PySem.W.Frag) (mg : Str → Option Value) (base : Heap)
/-- a def that stands at the module's name x -/
structure TD (x : Str) (st : Stmt) (ps : List Str) : Type where
  f : Addr
  fd : FuncData
  F : Fun K x x st f fd
  m : mg x = some (.ref f)
  b : Binds K fd ps []
structure Cal (k : Nat) (x : Str) (ps : List Str) (sp : Sp) : Type where
  f : Addr
  fd : FuncData
  m : mg x = some (.ref f)
  kp : PySem.W.keepIn K (.ref f) = true
  b : Binds K fd ps []
  ok : FnOk P w K mg base CX0 k f fd ps sp
end
section
variable {P : Program} {w : World} {K : PySem.W.Frag} {mg : Str → Option Value} {base : Heap}
def TD.cal {x : Str} {st : Stmt} {ps : List Str} {k : Nat} {sp : Sp} (D : TD K mg x st ps) (h : FnOk P w K mg base CX0 k D.f D.fd ps sp) : Cal P w K mg base k x ps sp := ⟨D.f, D.fd, D.m, D.F.kp, D.b, h⟩
end
/-- a ratio as data; an own promise's form for plain arguments -/
abbrev rat (p : Int × Int) : PyData := .tuple [.int p.1, .int p.2]
end DL
namespace DL
open PySem L2 PySem.Spec PyProof.Rows
theorem kit_ii : kitB "int" "int" = some true := by decide +kernel
theorem kit_bi : kitB "bool" "int" = some true := by decide +kernel
theorem kit_ni : kitB "NoneType" "int" = some false := by decide +kernel
theorem kit_si : kitB "str" "int" = some false := by decide +kernel
theorem kit_li : kitB "list" "int" = some false := by decide +kernel
theorem kit_ti : kitB "tuple" "int" = some false := by decide +kernel
theorem kit_ib : kitB "int" "bool" = some false := by decide +kernel
theorem kit_bb : kitB "bool" "bool" = some true := by decide +kernel
theorem kit_nb : kitB "NoneType" "bool" = some false := by decide +kernel
theorem kit_sb : kitB "str" "bool" = some false := by decide +kernel
theorem kit_lb : kitB "list" "bool" = some false := by decide +kernel
theorem kit_tb : kitB "tuple" "bool" = some false := by decide +kernel
theorem kit_it : kitB "int" "tuple" = some false := by decide +kernel
theorem kit_bt : kitB "bool" "tuple" = some false := by decide +kernel
theorem kit_nt : kitB "NoneType" "tuple" = some false := by decide +kernel
theorem kit_st : kitB "str" "tuple" = some false := by decide +kernel
theorem kit_lt : kitB "list" "tuple" = some false := by decide +kernel
theorem kit_tt : kitB "tuple" "tuple" = some true := by decide +kernel
def isIntD : PyData → Bool
  | .int _ => true
  | _ => false
def isBoolD : PyData → Bool
  | .bool _ => true
  | _ => false
def isTupD : PyData → Bool
  | .tuple _ => true
  | _ => false
/-- plain: no dict at its top -/
def Pl (d : PyData) : Prop := match d with
  | .dict _ => False
  | _ => True
theorem isT_int {d : PyData} (h : Pl d) : isT "int" d = some (isIntD d || isBoolD d) := by
  cases d with
  | dict x => exact h.elim
  | int i => exact kit_ii
  | bool i => exact kit_bi
  | none => exact kit_ni
  | str i => exact kit_si
  | list i => exact kit_li
  | tuple i => exact kit_ti
theorem isT_bool {d : PyData} (h : Pl d) : isT "bool" d = some (isBoolD d) := by
  cases d with
  | dict x => exact h.elim
  | int i => exact kit_ib
  | bool i => exact kit_bb
  | none => exact kit_nb
  | str i => exact kit_sb
  | list i => exact kit_lb
  | tuple i => exact kit_tb
theorem isT_tuple {d : PyData} (h : Pl d) : isT "tuple" d = some (isTupD d) := by
  cases d with
  | dict x => exact h.elim
  | int i => exact kit_it
  | bool i => exact kit_bt
  | none => exact kit_nt
  | str i => exact kit_st
  | list i => exact kit_lt
  | tuple i => exact kit_tt
end DL
namespace DL
open PySem L2 PySem.Spec PyProof.Rows
section
variable {K : PySem.W.Frag} {n : Nat} {ρ : Rho} {te : TE} {tt : TT} {Φ : PD} {F : DE2} {ts us : TS}
theorem dt_bool {Ψ : Bool → Rho → Prop} (b0 : Bool) (h : DT K n tt ρ fun b ρ' => b = b0 ∧ ρ' = ρ) (k : Ψ b0 ρ) : DT K n tt ρ Ψ := fun O σ H E Q q =>
  h O σ H E Q fun b ρ' O' H' ⟨e1, e2⟩ S => by subst e1; subst e2; exact q _ _ O' H' k S
theorem dw_val {d0 : PyData} (h : DW K n te ρ fun d ρ' => d = d0 ∧ ρ' = ρ) (k : Φ d0 ρ) : DW K n te ρ Φ := fun O σ H E Q q =>
  h O σ H E Q fun v d ρ' O' H' ⟨e1, e2⟩ S r => by subst e1; subst e2; exact q _ _ _ O' H' k S r
theorem ds_cut (M : Rho → Prop) (h : DSx K n ts ρ { F with nx := M }) (k : ∀ ρ', M ρ' → F.nx ρ') : DSx K n ts ρ F := fun O σ H E D h1 h2 h3 h4 h5 =>
  h O σ H E D (fun O' σ' ρ' H' m S => h1 O' σ' ρ' H' (k ρ' m) S) h2 h3 h4 h5
end
end DL
namespace DL
open PySem L2 PySem.Spec PyProof.Rows
section
variable {K : PySem.W.Frag} {n : Nat} {ρ : Rho} {Φ : PD}
theorem dw_lst {t : TA} (h : DA K n t ρ fun xs ρ1 => xs.length ≤ 100000 ∧ Φ (.list xs) ρ1) : DW K n (tLst t) ρ Φ := dw_fresh (df_lst h)
end
theorem noLst_val {ρ : Rho} {i : Nat} {d : PyData} (h : ρ[i]? = some (some (.val d))) : NoLst ρ i := fun ds z => by rw [h] at z; cases z
theorem noLst_none {ρ : Rho} {i : Nat} (h : ρ[i]? = some none) : NoLst ρ i := fun ds z => by rw [h] at z; cases z
end DL
namespace DL
open PySem L2 PySem.Spec PyProof.Rows
section
variable {K : PySem.W.Frag} {n : Nat} {ρ : Rho} {te : TE} {Φ : PD} {Ψ : PyData → Prop} {x : PyData}
theorem dw_mid (M : PyData → Prop) (h : DW K n te ρ fun d ρ' => M d ∧ ρ' = ρ) (k : ∀ d, M d → Φ d ρ) : DW K n te ρ Φ := fun O σ H E Q q =>
  h O σ H E Q fun v d ρ' O' H' ⟨m, e⟩ S r => by subst e; exact q v d _ O' H' (k d m) S r
theorem rd_neS (hx : SeqAt.shaped x = true) (he : PyData.eqv x x = true) (k : Ψ (.bool false)) : RD (rNeA K) K x x Ψ := rd_ne hx hx (by rw [he]; exact k)
theorem rd_eqS (hx : SeqAt.shaped x = true) (he : PyData.eqv x x = true) (k : Ψ (.bool true)) : RD (rEqA K) K x x Ψ := rd_eq hx hx (by rw [he]; exact k)
theorem eqv_rat (p : Int × Int) : PyData.eqv (rat p) (rat p) = true := by
  show (p.1 == p.1 && (p.2 == p.2 && true)) = true
  simp
end
end DL
/-! ratios: the mathematics -/
namespace K00
def redI (a b : Int) : Int × Int := let g : Int := ((Nat.gcd a.natAbs b.natAbs : Nat) : Int); let s := if b < 0 then -g else g; (a.fdiv s, b.fdiv s)
def RatP (p : Int × Int) : Prop := 0 < p.2 ∧ Nat.gcd p.1.natAbs p.2.natAbs = 1
def addR (p q : Int × Int) : Int × Int := redI (p.1 * q.2 + q.1 * p.2) (p.2 * q.2)
def mulR (p q : Int × Int) : Int × Int := redI (p.1 * q.1) (p.2 * q.2)
def negR (p : Int × Int) : Int × Int := (-p.1, p.2)
def ovR (p q : Int × Int) : Int × Int := redI (p.1 * q.2) (p.2 * q.1)
theorem red_key {a b s : Int} (ha : s ∣ a) (hb : s ∣ b) (hn : s.natAbs = Nat.gcd a.natAbs b.natAbs) (hs : s ≠ 0) (hp : 0 < b.fdiv s) : a = s * a.fdiv s ∧ b = s * b.fdiv s ∧ RatP (a.fdiv s, b.fdiv s) := by
  have ea : a = s * a.fdiv s := (Int.mul_fdiv_cancel' ha).symm
  have eb : b = s * b.fdiv s := (Int.mul_fdiv_cancel' hb).symm
  refine ⟨ea, eb, hp, ?_⟩
  show Nat.gcd (a.fdiv s).natAbs (b.fdiv s).natAbs = 1
  have h1 : Nat.gcd a.natAbs b.natAbs = s.natAbs * Nat.gcd (a.fdiv s).natAbs (b.fdiv s).natAbs := by
    conv => lhs; rw [ea, eb]
    rw [Int.natAbs_mul, Int.natAbs_mul, Nat.gcd_mul_left]
  rw [← hn] at h1
  have h2 : 0 < s.natAbs := by omega
  exact Nat.eq_of_mul_eq_mul_left h2 (by rw [← h1, Nat.mul_one])
theorem redI_spec {a b : Int} (hb : b ≠ 0) : ∃ s : Int, s ≠ 0 ∧ a = s * (redI a b).1 ∧ b = s * (redI a b).2 ∧ RatP (redI a b) := by
  have hg : 0 < Nat.gcd a.natAbs b.natAbs := Nat.gcd_pos_of_pos_right _ (by omega)
  have da : ((Nat.gcd a.natAbs b.natAbs : Nat) : Int) ∣ a := Int.ofNat_dvd_left.mpr (Nat.gcd_dvd_left _ _)
  have db : ((Nat.gcd a.natAbs b.natAbs : Nat) : Int) ∣ b := Int.ofNat_dvd_left.mpr (Nat.gcd_dvd_right _ _)
  unfold redI
  generalize hG : ((Nat.gcd a.natAbs b.natAbs : Nat) : Int) = G at *
  have hGp : 0 < G := by omega
  have hGn : G.natAbs = Nat.gcd a.natAbs b.natAbs := by omega
  by_cases hneg : b < 0
  · simp only [if_pos hneg]
    have hd : -G ∣ b := Int.neg_dvd.mpr db
    have eb : b = -G * b.fdiv (-G) := (Int.mul_fdiv_cancel' hd).symm
    have hp : 0 < b.fdiv (-G) := by
      rcases Int.lt_or_le 0 (b.fdiv (-G)) with h | h
      · exact h
      · exfalso
        have : 0 ≤ -G * b.fdiv (-G) := Int.mul_nonneg_of_nonpos_of_nonpos (by omega) h
        omega
    obtain ⟨h1, h2, h3⟩ := red_key (Int.neg_dvd.mpr da) hd (by rw [Int.natAbs_neg]; exact hGn) (by omega) hp
    exact ⟨-G, by omega, h1, h2, h3⟩
  · simp only [if_neg hneg]
    have eb : b = G * b.fdiv G := (Int.mul_fdiv_cancel' db).symm
    have hp : 0 < b.fdiv G := by
      rcases Int.lt_or_le 0 (b.fdiv G) with h | h
      · exact h
      · exfalso
        have : G * b.fdiv G ≤ 0 := Int.mul_nonpos_of_nonneg_of_nonpos (by omega) h
        omega
    obtain ⟨h1, h2, h3⟩ := red_key da db hGn (by omega) hp
    exact ⟨G, by omega, h1, h2, h3⟩
/-- a ratio in lowest terms is told by its value -/
theorem rat_uniq {p q : Int × Int} (hp : RatP p) (hq : RatP q) (h : p.1 * q.2 = q.1 * p.2) : p = q := by
  obtain ⟨a, b⟩ := p
  obtain ⟨c, d⟩ := q
  obtain ⟨hb, g1⟩ := hp
  obtain ⟨hd, g2⟩ := hq
  simp only at *
  have e : a.natAbs * d.natAbs = c.natAbs * b.natAbs := by rw [← Int.natAbs_mul, ← Int.natAbs_mul, h]
  have h1 : b.natAbs ∣ d.natAbs := by
    have : b.natAbs ∣ a.natAbs * d.natAbs := by rw [e]; exact Nat.dvd_mul_left _ _
    exact (Nat.Coprime.symm g1).dvd_of_dvd_mul_left this
  have h2 : d.natAbs ∣ b.natAbs := by
    have : d.natAbs ∣ c.natAbs * b.natAbs := by rw [← e]; exact Nat.dvd_mul_left _ _
    exact (Nat.Coprime.symm g2).dvd_of_dvd_mul_left this
  have h3 : b.natAbs = d.natAbs := Nat.dvd_antisymm h1 h2
  have h4 : b = d := by omega
  subst h4
  have h5 : a = c := Int.eq_of_mul_eq_mul_right (by omega) h
  subst h5
  rfl
theorem redI_ratP {a b : Int} (hb : b ≠ 0) : RatP (redI a b) := by
  obtain ⟨s, _, _, _, h⟩ := redI_spec (a := a) hb
  exact h
theorem redI_eq {a b : Int} {p : Int × Int} (hb : b ≠ 0) (hp : RatP p) (h : a * p.2 = p.1 * b) : redI a b = p := by
  obtain ⟨s, hs, h1, h2, h3⟩ := redI_spec (a := a) hb
  refine rat_uniq h3 hp (Int.eq_of_mul_eq_mul_left hs ?_)
  calc s * ((redI a b).1 * p.2) = (s * (redI a b).1) * p.2 := by rw [Int.mul_assoc]
    _ = a * p.2 := by rw [← h1]
    _ = p.1 * b := h
    _ = p.1 * (s * (redI a b).2) := by rw [← h2]
    _ = s * (p.1 * (redI a b).2) := by rw [Int.mul_left_comm]
/-- what a reduced ratio says of its parts -/
theorem redI_cross {a b : Int} (hb : b ≠ 0) : (redI a b).1 * b = a * (redI a b).2 := by
  obtain ⟨s, hs, h1, h2, h3⟩ := redI_spec (a := a) hb
  calc (redI a b).1 * b = (redI a b).1 * (s * (redI a b).2) := by rw [← h2]
    _ = (s * (redI a b).1) * (redI a b).2 := by rw [Int.mul_left_comm, Int.mul_assoc]
    _ = a * (redI a b).2 := by rw [← h1]
theorem redI_le {a b : Int} (hb : b ≠ 0) : (redI a b).1.natAbs ≤ a.natAbs ∧ (redI a b).2.natAbs ≤ b.natAbs := by
  obtain ⟨s, hs, h1, h2, h3⟩ := redI_spec (a := a) hb
  have : 0 < s.natAbs := by omega
  constructor
  · conv => rhs; rw [h1, Int.natAbs_mul]
    exact Nat.le_mul_of_pos_left _ this
  · conv => rhs; rw [h2, Int.natAbs_mul]
    exact Nat.le_mul_of_pos_left _ this
theorem mul_ne {a b : Int} (ha : 0 < a) (hb : 0 < b) : a * b ≠ 0 := by
  have := Int.mul_pos ha hb
  omega
/-- adding, and taking away again -/
theorem add_sub {p q : Int × Int} (hp : RatP p) (hq : RatP q) : addR (addR p q) (negR q) = p := by
  obtain ⟨a, b⟩ := p
  obtain ⟨c, d⟩ := q
  have hb : 0 < b := hp.1
  have hd : 0 < d := hq.1
  have hbd : b * d ≠ 0 := mul_ne hb hd
  have hs := redI_ratP (a := a * d + c * b) hbd
  have cr := redI_cross (a := a * d + c * b) hbd
  have e1 : addR (a, b) (c, d) = redI (a * d + c * b) (b * d) := rfl
  rw [e1]
  generalize redI (a * d + c * b) (b * d) = t at *
  obtain ⟨x, y⟩ := t
  have hy : 0 < y := hs.1
  show redI (x * d + (-c) * y) (y * d) = (a, b)
  refine redI_eq (mul_ne hy hd) hp ?_
  show (x * d + (-c) * y) * b = a * (y * d)
  have cr : x * (b * d) = (a * d + c * b) * y := cr
  have e2 : x * d * b = x * (b * d) := by rw [Int.mul_assoc, Int.mul_comm d b]
  rw [Int.add_mul, e2, cr, Int.add_mul]
  have e3 : -c * y * b = -(c * b * y) := by rw [Int.neg_mul, Int.neg_mul, Int.mul_assoc, Int.mul_comm y b, ← Int.mul_assoc]
  have e4 : a * (y * d) = a * d * y := by rw [Int.mul_comm y d, Int.mul_assoc]
  rw [e3, e4]
  omega
/-- multiplying, and dividing again -/
theorem mul_over {p q : Int × Int} (hp : RatP p) (hq : RatP q) (h0 : q.1 ≠ 0) : ovR (mulR p q) q = p := by
  obtain ⟨a, b⟩ := p
  obtain ⟨c, d⟩ := q
  have hb : 0 < b := hp.1
  have hd : 0 < d := hq.1
  have hc : c ≠ 0 := h0
  have hbd : b * d ≠ 0 := mul_ne hb hd
  have hs := redI_ratP (a := a * c) hbd
  have cr := redI_cross (a := a * c) hbd
  have e1 : mulR (a, b) (c, d) = redI (a * c) (b * d) := rfl
  rw [e1]
  generalize redI (a * c) (b * d) = t at *
  obtain ⟨x, y⟩ := t
  have hy : 0 < y := hs.1
  show redI (x * d) (y * c) = (a, b)
  refine redI_eq (Int.mul_ne_zero (by omega) hc) hp ?_
  show x * d * b = a * (y * c)
  have cr : x * (b * d) = a * c * y := cr
  have e2 : x * d * b = x * (b * d) := by rw [Int.mul_assoc, Int.mul_comm d b]
  rw [e2, cr, Int.mul_assoc, Int.mul_comm c y]
end K00
namespace K00
open PySem L2 PySem.Spec PyProof.Rows DL
local macro_rules | `(tactic| walk_at "d0") => `(tactic| first
  | (with_reducible refine ds_seq ?_) | (with_reducible refine ds_next ?_) | (with_reducible refine ds_ret ?_) | (with_reducible refine ds_drop ?_) | (with_reducible refine ds_setO ?_) | (with_reducible refine ds_asg ?_)
  | ((with_reducible show DW _ _ (tOp (rIx _) (tVar _) (tC (.int _))) _ _); refine dw_ixO rfl (dw_int ⟨_, _, _, rfl, rfl, rfl, ?_⟩))
  | ((with_reducible show DW _ _ (tOp (rIx _) (tVar _) _) _ _); refine dw_ixO rfl ?_)
  | (with_reducible refine dw_lst ?_)
  | (with_reducible refine dw_isi ?_) | (with_reducible refine dw_op ?_) | (with_reducible refine dw_un ?_) | (with_reducible refine dw_int ?_) | (with_reducible refine dw_bl ?_) | (with_reducible refine dw_str ?_) | (with_reducible refine dw_non ?_)
  | ((with_reducible show DW _ _ (tVar _) _ _); refine dw_var rfl ?_)
  | (with_reducible refine dw_andV ?_) | (with_reducible refine dw_orV ?_) | (with_reducible refine dw_notV ?_) | (with_reducible refine dw_tup ?_) | (with_reducible refine dw_chain ?_)
  | (with_reducible refine da_nil ?_) | (with_reducible refine da_cons ?_)
  | (with_reducible refine dt_test ?_) | (with_reducible refine dt_B ?_) | (with_reducible refine dt_and ?_) | (with_reducible refine dt_or ?_) | (with_reducible refine dt_not ?_) | (with_reducible refine dt_yes ?_)
  | ((with_reducible show DW _ _ (tCall _ _ _ (tCons (tVar _) _)) _ _); refine dw_callO rfl ?_)
  | (with_reducible refine dw_call ?_) | (with_reducible refine dw_fresh (df_call ?_)) | (with_reducible refine dw_cb ?_)
  | (with_reducible refine rd_addI ?_) | (with_reducible refine rd_i0 ?_) | (with_reducible refine rd_b0 ?_) | (with_reducible refine ru_i ?_) | (with_reducible refine rc_int ?_) | (with_reducible refine rc_intB ?_) | (with_reducible refine rc_abs ?_) | (with_reducible refine rc_max ?_) | (with_reducible refine rc_min ?_) | (with_reducible refine rc_gcd ?_) | (with_reducible refine rc_lenL ?_) | (with_reducible refine rc_lenT ?_)
  | ((with_reducible show RD (rIx _) _ (.tuple _) _ _); refine rd_ixT rfl ?_) | ((with_reducible show RD (rIx _) _ (.list _) _ _); refine rd_ixL rfl ?_)
  | ((with_reducible refine dg_name ?hj ?_); (case hj => first | exact .inl (by decide) | exact .inr (noLst_val rfl) | exact .inr (noLst_none rfl)))
  | ((with_reducible show ∃ b, PyData.bool _ = PyData.bool b ∧ _); refine ⟨_, rfl, ?_⟩)
  | ((with_reducible show RD (rEqA _) _ (.int _) (.int _) _); refine rd_eq rfl rfl ?_) | ((with_reducible show RD (rNeA _) _ (.int _) (.int _) _); refine rd_ne rfl rfl ?_)
  | ((with_reducible show DW _ _ (tTup _) _ _); refine dw_tup ?_) | ((with_reducible show List.length _ ≤ 100000 ∧ _); refine ⟨Nat.le_of_ble_eq_true rfl, ?_⟩)
  | (((with_reducible show (_ = true → _) ∧ (_ = false → _)); first | (refine ⟨fun _ => ?_, fun z => Bool.noConfusion (show true = false from z)⟩) | (refine ⟨fun z => Bool.noConfusion (show false = true from z), fun _ => ?_⟩)))
  | (((with_reducible show (_ = false → _) ∧ (_ = true → _)); first | (refine ⟨fun _ => ?_, fun z => Bool.noConfusion (show false = true from z)⟩) | (refine ⟨fun z => Bool.noConfusion (show true = false from z), fun _ => ?_⟩)))
  | (with_reducible refine dgs_nil ?_) | (with_reducible refine dgs_cons ?_))
local macro_rules | `(tactic| walk_at "d1") => `(tactic| first | walk_at "d0" | (with_reducible refine ds_if ?_) | (with_reducible refine dw_if ?_))
local macro_rules | `(tactic| walk_at "e") => `(tactic| ((try dsimp only [cxOf, Cx.nox, Cx.wish]); repeat (walk_at "d0")))
local macro_rules | `(tactic| walk_at "d") => `(tactic| ((try dsimp only [cxOf, Cx.nox, Cx.wish]); repeat (walk_at "d1")))

def topS (i : Nat) : Stmt := PySem.Challenge.pw_risewords_k00_whole_ratios_and_numbers.main.body.getD i (.Pass ⟨0, 0, 0, 0⟩)
structure Txt (K : PySem.W.Frag) (mg : Str → Option Value) : Type where
  n_isinstance : mg "isinstance" = none
  n_int : mg "int" = none
  n_bool : mg "bool" = none
  n_tuple : mg "tuple" = none
  n_str : mg "str" = none
  n_len : mg "len" = none
  n_abs : mg "abs" = none
  n_max : mg "max" = none
  n_min : mg "min" = none
  n_range : mg "range" = none
  n_enumerate : mg "enumerate" = none
  f_gcd : mg "gcd" = some (.builtin "math.gcd")
  f_comb : mg "comb" = some (.builtin "math.comb")
  t1 : Tok
  t2 : Tok
  t3 : Tok
  c_LONG : mg "LONG" = some (.int 1000000000000000000000000000000000000000000000000000000000000 t1)
  c_MAX_CHOSEN : mg "MAX_CHOSEN" = some (.int 400 t2)
  c_MAX_BERNOULLI : mg "MAX_BERNOULLI" = some (.int 200 t3)
abbrev s_is_whole : Stmt := topS 2
abbrev N_is_whole : List Str := ["value"]
abbrev P_is_whole : List Str := ["value"]
theorem sc_is_whole : FnScope N_is_whole P_is_whole (defScope s_is_whole) := ⟨rfl, rfl, rfl, by decide +kernel, rfl, by decide +kernel, by decide +kernel⟩
abbrev s_is_exact : Stmt := topS 3
abbrev N_is_exact : List Str := ["value", "top", "bottom"]
abbrev P_is_exact : List Str := ["value"]
theorem sc_is_exact : FnScope N_is_exact P_is_exact (defScope s_is_exact) := ⟨rfl, rfl, rfl, by decide +kernel, rfl, by decide +kernel, by decide +kernel⟩
abbrev s_reduced : Stmt := topS 4
abbrev N_reduced : List Str := ["top", "bottom", "shared"]
abbrev P_reduced : List Str := ["top", "bottom"]
theorem sc_reduced : FnScope N_reduced P_reduced (defScope s_reduced) := ⟨rfl, rfl, rfl, by decide +kernel, rfl, by decide +kernel, by decide +kernel⟩
/-! ### sizes -/
def B (k : Nat) (i : Int) : Prop := i.natAbs < 2 ^ k
theorem B.mono {j k : Nat} {i : Int} (h : B j i) (hk : j ≤ k) : B k i := Nat.lt_of_lt_of_le h (Nat.pow_le_pow_right (by decide) hk)
theorem B.mul {j k : Nat} {a b : Int} (ha : B j a) (hb : B k b) : B (j + k) (a * b) := by
  unfold B at *
  rw [Int.natAbs_mul, Nat.pow_add]
  exact Nat.mul_lt_mul'' ha hb
theorem B.add {k : Nat} {a b : Int} (ha : B k a) (hb : B k b) : B (k + 1) (a + b) := by
  unfold B at *
  rw [Nat.pow_succ]
  have := Int.natAbs_add_le a b
  omega
theorem B.neg {k : Nat} {a : Int} (ha : B k a) : B k (-a) := by unfold B at *; rw [Int.natAbs_neg]; exact ha
theorem B.mw {j k : Nat} {a b : Int} (ha : B j a) (hb : B k b) (h0 : 0 < j := by decide) (h1 : 0 < k := by decide) (h : j + k ≤ 1000000 := by decide) : CMulW a b := wide_mul ha hb h0 h1 h
def RatOk (p : Int × Int) : Prop := RatP p ∧ p.1.natAbs < 10 ^ 60 ∧ p.2.natAbs < 10 ^ 60
theorem B60 {i : Int} (h : i.natAbs < 10 ^ 60) : B 200 i := Nat.lt_of_lt_of_le h (by decide)
section
variable {P : Program} {w : World} {K : PySem.W.Frag} {mg : Str → Option Value} {base : Heap}
def wIsWhole : SpW := fun es Φ => ∃ d, es = [.val d] ∧ Pl d ∧ Φ (.bool (isIntD d)) es
theorem ok_is_whole (T : Txt K mg) (D : TD K mg "is_whole" s_is_whole P_is_whole) : FnOk P w K mg base CX0 1 D.f D.fd P_is_whole (spD K 1 wIsWhole) := by
  refine fn_data D.F sc_is_whole rfl fun cdv A outer s H E hr => ?_
  refine ⟨_, (pss_one (ps_ret (pe_and (pe_callB call_isi rfl T.n_isinstance (by decide +kernel) (pa_cons (pv 0) (pa_cons (pe_bltn (v := .ty "int") (u := .type "int") rfl T.n_int (by decide +kernel) rfl) pa_nil))) (pe_one (pe_not (pe_callB call_isi rfl T.n_isinstance (by decide +kernel) (pa_cons (pv 0) (pa_cons (pe_bltn (v := .ty "bool") (u := .type "bool") rfl T.n_bool (by decide +kernel) rfl) pa_nil)))))))), ?_⟩
  rintro es Φ ⟨d, rfl, hd, k⟩ _
  walk_at "d"
  refine ⟨_, isT_int hd, _, rfl, fun h1 => ?_, fun h1 => ?_⟩
  · walk_at "d"
    refine ⟨_, isT_bool hd, _, rfl, ?_⟩
    have e : (!isBoolD d) = isIntD d := by cases d <;> first | rfl | (simp [isIntD, isBoolD] at h1)
    rw [e]
    exact k
  · have e : isIntD d = false := by cases d <;> first | rfl | (simp [isIntD, isBoolD] at h1)
    rw [e] at k
    exact k
def isExactD : PyData → Bool
  | .tuple [.int t, .int b] => decide (0 < b) && decide (Nat.gcd t.natAbs b.natAbs = 1)
  | _ => false
def wIsExact : SpW := fun es Φ => ∃ d, es = [.val d] ∧ Pl d ∧ (∀ x y, d = .tuple [x, y] → Pl x ∧ Pl y) ∧ Φ (.bool (isExactD d)) es
theorem ok_is_exact (T : Txt K mg) (D : TD K mg "is_exact" s_is_exact P_is_exact) (G_is_whole : Cal P w K mg base 1 "is_whole" P_is_whole (spD K 1 wIsWhole)) : FnOk P w K mg base CX0 2 D.f D.fd P_is_exact (spD K 1 wIsExact) := by
  refine fn_data D.F sc_is_exact rfl fun cdv A outer s H E hr => ?_
  have hu := hr.units
  refine ⟨_, (pss_cons (ps_if (PW.pt (pw_or (pt_not (pt_val (pe_callB call_isi rfl T.n_isinstance (by decide +kernel) (pa_cons (pv 0) (pa_cons (pe_bltn (v := .ty "tuple") (u := .type "tuple") rfl T.n_tuple (by decide +kernel) rfl) pa_nil))))) (pw_or1 (pt_cmpR (opA_ne hu) (pe_callB call_lenA rfl T.n_len (by decide +kernel) (pa_cons (pv 0) pa_nil)) pe_int (nomark _))))) (pss_one (ps_ret pe_bl)) pss_nil) (pss_cons (ps_asg (pv 0) (pg_tup rfl (pgs_cons (pg_name (i := 1) sc_is_exact.nd rfl (Or.inl rfl)) (pgs_cons (pg_name (i := 2) sc_is_exact.nd rfl (Or.inl rfl)) pgs_nil)))) (pss_one (ps_ret (pe_and (pe_call G_is_whole.ok (hr.mono (by decide)) rfl G_is_whole.m G_is_whole.kp G_is_whole.b .nil pass0 (pa_cons (pv 1) pa_nil)) (pe_and (pe_call G_is_whole.ok (hr.mono (by decide)) rfl G_is_whole.m G_is_whole.kp G_is_whole.b .nil pass0 (pa_cons (pv 2) pa_nil)) (pe_and (pe_cmpR op_gt (pv 2) pe_int (nomark _)) (pe_one (pe_cmpR (opA_eq hu) (pe_callBfun cr_gcd rfl T.f_gcd (pa_cons (pv 1) (pa_cons (pv 2) pa_nil))) pe_int (nomark _)))))))))), ?_⟩
  rintro es Φ ⟨d, rfl, hd, hd2, k⟩ _
  walk_at "d"
  refine ⟨_, isT_tuple hd, _, rfl, fun h1 => ?_, fun h1 => ?_⟩
  · cases d with
    | tuple ds =>
      walk_at "d"
      match ds, hd2, k with
      | [x, y], hd2, k =>
        obtain ⟨px, py⟩ := hd2 x y rfl
        walk_at "d"
        refine dg_tup ⟨_, rfl, rfl, ?_⟩
        walk_at "d"
        refine ⟨rfl, _, rfl, px, _, rfl, fun hx => ?_, fun hx => ?_⟩
        · cases x with
          | int t =>
            walk_at "d"
            refine ⟨rfl, _, rfl, py, _, rfl, fun hy => ?_, fun hy => ?_⟩
            · cases y with
              | int b =>
                walk_at "d"
                refine ⟨fun h0 => ?_, fun h0 => ?_⟩
                · walk_at "d"
                  have e : isExactD (.tuple [.int t, .int b]) = (((Nat.gcd t.natAbs b.natAbs : Nat) : Int) == 1) := by
                    show (decide (0 < b) && decide (Nat.gcd t.natAbs b.natAbs = 1)) = _
                    rw [h0, Bool.true_and, Bool.eq_iff_iff]
                    simp
                    omega
                  rw [e] at k
                  exact k
                · have e : isExactD (.tuple [.int t, .int b]) = false := by
                    show (decide (0 < b) && decide (Nat.gcd t.natAbs b.natAbs = 1)) = _
                    rw [h0, Bool.false_and]
                  rw [e] at k
                  exact k
              | _ => exact nomatch hy
            · have e : isExactD (.tuple [.int t, y]) = false := by cases y <;> first | rfl | exact nomatch hy
              rw [e] at k
              exact k
          | _ => exact nomatch hx
        · have e : isExactD (.tuple [x, y]) = false := by cases x <;> first | rfl | exact nomatch hx
          rw [e] at k
          exact k
      | [], _, k =>
        walk_at "d"
        exact k
      | [x], _, k =>
        walk_at "d"
        have e : isExactD (.tuple [x]) = false := by cases x <;> rfl
        rw [e] at k
        exact k
      | x :: y :: z :: r, _, k =>
        refine ⟨fun hc => ?_, fun hc => ?_⟩
        · walk_at "d"
          have e : isExactD (.tuple (x :: y :: z :: r)) = false := by cases x <;> first | rfl | (cases y <;> rfl)
          rw [e] at k
          exact k
        · exfalso
          have hc : (!(((r.length + 1 + 1 + 1 : Nat) : Int) == 2)) = false := hc
          simp at hc
          omega
    | _ => exact nomatch h1
  · walk_at "d"
    have e : isExactD d = false := by cases d <;> first | rfl | exact nomatch h1
    rw [e] at k
    exact k
def wReduced : SpW := fun es Φ => ∃ a b : Int, es = [.val (.int a), .val (.int b)] ∧ b ≠ 0 ∧ B 1000 b ∧ Φ (rat (redI a b)) es
theorem gcd_ok {a b : Int} (hb : b ≠ 0) (h : B 1000 b) : CDivA a ((Nat.gcd a.natAbs b.natAbs : Nat) : Int) ∧ CDivA a (-((Nat.gcd a.natAbs b.natAbs : Nat) : Int)) := by
  have h1 : 0 < Nat.gcd a.natAbs b.natAbs := Nat.gcd_pos_of_pos_right _ (by omega)
  have h2 : Nat.gcd a.natAbs b.natAbs ≤ b.natAbs := Nat.le_of_dvd (by omega) (Nat.gcd_dvd_right _ _)
  have h3 : Nat.gcd a.natAbs b.natAbs < 2 ^ 1000 := Nat.lt_of_le_of_lt h2 h
  have h4 : (Nat.gcd a.natAbs b.natAbs).log2 < 1000 := (Nat.log2_lt (by omega)).mpr h3
  refine ⟨⟨by omega, ?_⟩, ⟨by omega, ?_⟩⟩
  · rw [Int.natAbs_natCast]; omega
  · rw [Int.natAbs_neg, Int.natAbs_natCast]; omega
theorem ok_reduced (T : Txt K mg) (D : TD K mg "reduced" s_reduced P_reduced) : FnOk P w K mg base CX0 1 D.f D.fd P_reduced (spD K 2 wReduced) := by
  refine fn_data D.F sc_reduced rfl fun cdv A outer s H E hr => ?_
  refine ⟨_, (pss_cons (ps_set (i := 2) sc_reduced.nd rfl (Or.inl rfl) (pe_callBfun cr_gcd rfl T.f_gcd (pa_cons (pv 0) (pa_cons (pv 1) pa_nil)))) (pss_cons (ps_if (pt_cmpR op_lt (pv 1) pe_int (nomark _)) (pss_one (ps_set (i := 2) sc_reduced.nd rfl (Or.inl rfl) (pe_un un_neg (pv 2)))) pss_nil) (pss_one (ps_ret (pe_tup (pa_cons (pe_op opA_fdiv (pv 0) (pv 2)) (pa_cons (pe_op opA_fdiv (pv 1) (pv 2)) pa_nil))))))), ?_⟩
  rintro es Φ ⟨a, b, rfl, hb, hB, k⟩ _
  obtain ⟨g1, g2⟩ := gcd_ok (a := a) hb hB
  walk_at "d"
  have g3 : CDivA b ((Nat.gcd a.natAbs b.natAbs : Nat) : Int) := ⟨g1.1, g1.2⟩
  have g4 : CDivA b (-((Nat.gcd a.natAbs b.natAbs : Nat) : Int)) := ⟨g2.1, g2.2⟩
  refine ⟨fun hc => ?_, fun hc => ?_⟩
  · walk_at "d"
    refine rd_i g2 ?_
    walk_at "d"
    refine rd_i g4 ?_
    walk_at "d"
    have e : redI a b = (a.fdiv (-((Nat.gcd a.natAbs b.natAbs : Nat) : Int)), b.fdiv (-((Nat.gcd a.natAbs b.natAbs : Nat) : Int))) := by
      unfold redI
      simp only [if_pos (of_decide_eq_true hc)]
    rw [e] at k
    exact k
  · walk_at "d"
    refine rd_i g1 ?_
    walk_at "d"
    refine rd_i g3 ?_
    walk_at "d"
    have e : redI a b = (a.fdiv ((Nat.gcd a.natAbs b.natAbs : Nat) : Int), b.fdiv ((Nat.gcd a.natAbs b.natAbs : Nat) : Int)) := by
      unfold redI
      simp only [if_neg (of_decide_eq_false hc)]
    rw [e] at k
    exact k
end
end K00
namespace K00
open PySem L2 PySem.Spec PyProof.Rows DL
local macro_rules | `(tactic| walk_at "d0") => `(tactic| first
  | (with_reducible refine ds_seq ?_) | (with_reducible refine ds_next ?_) | (with_reducible refine ds_ret ?_) | (with_reducible refine ds_drop ?_) | (with_reducible refine ds_setO ?_) | (with_reducible refine ds_asg ?_)
  | ((with_reducible show DW _ _ (tOp (rIx _) (tVar _) (tC (.int _))) _ _); refine dw_ixO rfl (dw_int ⟨_, _, _, rfl, rfl, rfl, ?_⟩))
  | ((with_reducible show DW _ _ (tOp (rIx _) (tVar _) _) _ _); refine dw_ixO rfl ?_)
  | (with_reducible refine dw_lst ?_)
  | (with_reducible refine dw_isi ?_) | (with_reducible refine dw_op ?_) | (with_reducible refine dw_un ?_) | (with_reducible refine dw_int ?_) | (with_reducible refine dw_bl ?_) | (with_reducible refine dw_str ?_) | (with_reducible refine dw_non ?_)
  | ((with_reducible show DW _ _ (tVar _) _ _); refine dw_var rfl ?_)
  | (with_reducible refine dw_andV ?_) | (with_reducible refine dw_orV ?_) | (with_reducible refine dw_notV ?_) | (with_reducible refine dw_tup ?_) | (with_reducible refine dw_chain ?_)
  | (with_reducible refine da_nil ?_) | (with_reducible refine da_cons ?_)
  | (with_reducible refine dt_test ?_) | (with_reducible refine dt_B ?_) | (with_reducible refine dt_and ?_) | (with_reducible refine dt_or ?_) | (with_reducible refine dt_not ?_) | (with_reducible refine dt_yes ?_)
  | ((with_reducible show DW _ _ (tCall _ _ _ (tCons (tVar _) _)) _ _); refine dw_callO rfl ?_)
  | (with_reducible refine dw_call ?_) | (with_reducible refine dw_fresh (df_call ?_)) | (with_reducible refine dw_cb ?_)
  | (with_reducible refine rd_addI ?_) | (with_reducible refine rd_i0 ?_) | (with_reducible refine rd_b0 ?_) | (with_reducible refine ru_i ?_) | (with_reducible refine rc_int ?_) | (with_reducible refine rc_intB ?_) | (with_reducible refine rc_abs ?_) | (with_reducible refine rc_max ?_) | (with_reducible refine rc_min ?_) | (with_reducible refine rc_gcd ?_) | (with_reducible refine rc_lenL ?_) | (with_reducible refine rc_lenT ?_)
  | ((with_reducible show RD (rIx _) _ (.tuple _) _ _); refine rd_ixT rfl ?_) | ((with_reducible show RD (rIx _) _ (.list _) _ _); refine rd_ixL rfl ?_)
  | ((with_reducible refine dg_name ?hj ?_); (case hj => first | exact .inl (by decide) | exact .inr (noLst_val rfl) | exact .inr (noLst_none rfl)))
  | ((with_reducible show ∃ b, PyData.bool _ = PyData.bool b ∧ _); refine ⟨_, rfl, ?_⟩)
  | ((with_reducible show RD (rEqA _) _ (.int _) (.int _) _); refine rd_eq rfl rfl ?_) | ((with_reducible show RD (rNeA _) _ (.int _) (.int _) _); refine rd_ne rfl rfl ?_)
  | ((with_reducible show DW _ _ (tTup _) _ _); refine dw_tup ?_) | ((with_reducible show List.length _ ≤ 100000 ∧ _); refine ⟨Nat.le_of_ble_eq_true rfl, ?_⟩)
  | (((with_reducible show (_ = true → _) ∧ (_ = false → _)); first | (refine ⟨fun _ => ?_, fun z => Bool.noConfusion (show true = false from z)⟩) | (refine ⟨fun z => Bool.noConfusion (show false = true from z), fun _ => ?_⟩)))
  | (((with_reducible show (_ = false → _) ∧ (_ = true → _)); first | (refine ⟨fun _ => ?_, fun z => Bool.noConfusion (show false = true from z)⟩) | (refine ⟨fun z => Bool.noConfusion (show true = false from z), fun _ => ?_⟩)))
  | (with_reducible refine dgs_nil ?_) | (with_reducible refine dgs_cons ?_))
local macro_rules | `(tactic| walk_at "d1") => `(tactic| first | walk_at "d0" | (with_reducible refine ds_if ?_) | (with_reducible refine dw_if ?_))
local macro_rules | `(tactic| walk_at "e") => `(tactic| ((try dsimp only [cxOf, Cx.nox, Cx.wish]); repeat (walk_at "d0")))
local macro_rules | `(tactic| walk_at "d") => `(tactic| ((try dsimp only [cxOf, Cx.nox, Cx.wish]); repeat (walk_at "d1")))

abbrev s_added : Stmt := topS 5
abbrev N_added : List Str := ["one", "other"]
abbrev P_added : List Str := ["one", "other"]
theorem sc_added : FnScope N_added P_added (defScope s_added) := ⟨rfl, rfl, rfl, by decide +kernel, rfl, by decide +kernel, by decide +kernel⟩
abbrev s_multiplied : Stmt := topS 6
abbrev N_multiplied : List Str := ["one", "other"]
abbrev P_multiplied : List Str := ["one", "other"]
theorem sc_multiplied : FnScope N_multiplied P_multiplied (defScope s_multiplied) := ⟨rfl, rfl, rfl, by decide +kernel, rfl, by decide +kernel, by decide +kernel⟩
abbrev s_opposite : Stmt := topS 7
abbrev N_opposite : List Str := ["ratio"]
abbrev P_opposite : List Str := ["ratio"]
theorem sc_opposite : FnScope N_opposite P_opposite (defScope s_opposite) := ⟨rfl, rfl, rfl, by decide +kernel, rfl, by decide +kernel, by decide +kernel⟩
abbrev s_need_between : Stmt := topS 14
abbrev N_need_between : List Str := ["number", "low", "high"]
abbrev P_need_between : List Str := ["number", "low", "high"]
theorem sc_need_between : FnScope N_need_between P_need_between (defScope s_need_between) := ⟨rfl, rfl, rfl, by decide +kernel, rfl, by decide +kernel, by decide +kernel⟩
abbrev s_is_integer : Stmt := topS 19
abbrev N_is_integer : List Str := ["value"]
abbrev P_is_integer : List Str := ["value"]
theorem sc_is_integer : FnScope N_is_integer P_is_integer (defScope s_is_integer) := ⟨rfl, rfl, rfl, by decide +kernel, rfl, by decide +kernel, by decide +kernel⟩
abbrev s_is_ratio : Stmt := topS 20
abbrev N_is_ratio : List Str := ["value"]
abbrev P_is_ratio : List Str := ["value"]
theorem sc_is_ratio : FnScope N_is_ratio P_is_ratio (defScope s_is_ratio) := ⟨rfl, rfl, rfl, by decide +kernel, rfl, by decide +kernel, by decide +kernel⟩
abbrev s_need_ratio : Stmt := topS 21
abbrev N_need_ratio : List Str := ["value"]
abbrev P_need_ratio : List Str := ["value"]
theorem sc_need_ratio : FnScope N_need_ratio P_need_ratio (defScope s_need_ratio) := ⟨rfl, rfl, rfl, by decide +kernel, rfl, by decide +kernel, by decide +kernel⟩
abbrev s_need_ratios : Stmt := topS 22
abbrev N_need_ratios : List Str := ["one", "other"]
abbrev P_need_ratios : List Str := ["one", "other"]
theorem sc_need_ratios : FnScope N_need_ratios P_need_ratios (defScope s_need_ratios) := ⟨rfl, rfl, rfl, by decide +kernel, rfl, by decide +kernel, by decide +kernel⟩
abbrev s_lowest : Stmt := topS 23
abbrev N_lowest : List Str := ["top", "bottom"]
abbrev P_lowest : List Str := ["top", "bottom"]
theorem sc_lowest : FnScope N_lowest P_lowest (defScope s_lowest) := ⟨rfl, rfl, rfl, by decide +kernel, rfl, by decide +kernel, by decide +kernel⟩
abbrev s_plus : Stmt := topS 24
abbrev N_plus : List Str := ["one", "other"]
abbrev P_plus : List Str := ["one", "other"]
theorem sc_plus : FnScope N_plus P_plus (defScope s_plus) := ⟨rfl, rfl, rfl, by decide +kernel, rfl, by decide +kernel, by decide +kernel⟩
abbrev s_minus : Stmt := topS 25
abbrev N_minus : List Str := ["one", "other"]
abbrev P_minus : List Str := ["one", "other"]
theorem sc_minus : FnScope N_minus P_minus (defScope s_minus) := ⟨rfl, rfl, rfl, by decide +kernel, rfl, by decide +kernel, by decide +kernel⟩
abbrev s_times : Stmt := topS 26
abbrev N_times : List Str := ["one", "other"]
abbrev P_times : List Str := ["one", "other"]
theorem sc_times : FnScope N_times P_times (defScope s_times) := ⟨rfl, rfl, rfl, by decide +kernel, rfl, by decide +kernel, by decide +kernel⟩
abbrev s_over : Stmt := topS 27
abbrev N_over : List Str := ["one", "other"]
abbrev P_over : List Str := ["one", "other"]
theorem sc_over : FnScope N_over P_over (defScope s_over) := ⟨rfl, rfl, rfl, by decide +kernel, rfl, by decide +kernel, by decide +kernel⟩
abbrev s_compare : Stmt := topS 28
abbrev N_compare : List Str := ["one", "other", "gap"]
abbrev P_compare : List Str := ["one", "other"]
theorem sc_compare : FnScope N_compare P_compare (defScope s_compare) := ⟨rfl, rfl, rfl, by decide +kernel, rfl, by decide +kernel, by decide +kernel⟩
section
variable {P : Program} {w : World} {K : PySem.W.Frag} {mg : Str → Option Value} {base : Heap}
def P4 (k : Nat) (p q : Int × Int) : Prop := B k p.1 ∧ B k p.2 ∧ B k q.1 ∧ B k q.2
def wAdded : SpW := fun es Φ => ∃ p q : Int × Int, es = [.val (rat p), .val (rat q)] ∧ 0 < p.2 ∧ 0 < q.2 ∧ P4 300 p q ∧ Φ (rat (addR p q)) es
theorem ok_added (D : TD K mg "added" s_added P_added) (G_reduced : Cal P w K mg base 1 "reduced" P_reduced (spD K 2 wReduced)) : FnOk P w K mg base CX0 2 D.f D.fd P_added (spD K 2 wAdded) := by
  refine fn_data D.F sc_added rfl fun cdv A outer s H E hr => ?_
  refine ⟨_, (pss_one (ps_ret (pe_call G_reduced.ok (hr.mono (by decide)) rfl G_reduced.m G_reduced.kp G_reduced.b .nil pass0 (pa_cons (pe_op opA_add (pe_op opA_mul (pe_ix ix_seq (pv 0) pe_int (fun _ _ => rfl)) (pe_ix ix_seq (pv 1) pe_int (fun _ _ => rfl))) (pe_op opA_mul (pe_ix ix_seq (pv 1) pe_int (fun _ _ => rfl)) (pe_ix ix_seq (pv 0) pe_int (fun _ _ => rfl)))) (pa_cons (pe_op opA_mul (pe_ix ix_seq (pv 0) pe_int (fun _ _ => rfl)) (pe_ix ix_seq (pv 1) pe_int (fun _ _ => rfl))) pa_nil))))), ?_⟩
  rintro es Φ ⟨p, q, rfl, hp, hq, ⟨b1, b2, b3, b4⟩, k⟩ _
  walk_at "d"
  refine rd_mulI (b1.mw b4) ?_
  walk_at "d"
  refine rd_mulI (b3.mw b2) ?_
  walk_at "d"
  refine rd_mulI (b2.mw b4) ?_
  walk_at "d"
  exact ⟨rfl, _, _, rfl, mul_ne hp hq, (b2.mul b4).mono (by decide), k⟩
def wMultiplied : SpW := fun es Φ => ∃ p q : Int × Int, es = [.val (rat p), .val (rat q)] ∧ 0 < p.2 ∧ 0 < q.2 ∧ P4 300 p q ∧ Φ (rat (mulR p q)) es
theorem ok_multiplied (D : TD K mg "multiplied" s_multiplied P_multiplied) (G_reduced : Cal P w K mg base 1 "reduced" P_reduced (spD K 2 wReduced)) : FnOk P w K mg base CX0 2 D.f D.fd P_multiplied (spD K 2 wMultiplied) := by
  refine fn_data D.F sc_multiplied rfl fun cdv A outer s H E hr => ?_
  refine ⟨_, (pss_one (ps_ret (pe_call G_reduced.ok (hr.mono (by decide)) rfl G_reduced.m G_reduced.kp G_reduced.b .nil pass0 (pa_cons (pe_op opA_mul (pe_ix ix_seq (pv 0) pe_int (fun _ _ => rfl)) (pe_ix ix_seq (pv 1) pe_int (fun _ _ => rfl))) (pa_cons (pe_op opA_mul (pe_ix ix_seq (pv 0) pe_int (fun _ _ => rfl)) (pe_ix ix_seq (pv 1) pe_int (fun _ _ => rfl))) pa_nil))))), ?_⟩
  rintro es Φ ⟨p, q, rfl, hp, hq, ⟨b1, b2, b3, b4⟩, k⟩ _
  walk_at "d"
  refine rd_mulI (b1.mw b3) ?_
  walk_at "d"
  refine rd_mulI (b2.mw b4) ?_
  walk_at "d"
  exact ⟨rfl, _, _, rfl, mul_ne hp hq, (b2.mul b4).mono (by decide), k⟩
def wOpposite : SpW := fun es Φ => ∃ p : Int × Int, es = [.val (rat p)] ∧ Φ (rat (negR p)) es
theorem ok_opposite (D : TD K mg "opposite" s_opposite P_opposite) : FnOk P w K mg base CX0 1 D.f D.fd P_opposite (spD K 1 wOpposite) := by
  refine fn_data D.F sc_opposite rfl fun cdv A outer s H E hr => ?_
  refine ⟨_, (pss_one (ps_ret (pe_tup (pa_cons (pe_un un_neg (pe_ix ix_seq (pv 0) pe_int (fun _ _ => rfl))) (pa_cons (pe_ix ix_seq (pv 0) pe_int (fun _ _ => rfl)) pa_nil))))), ?_⟩
  rintro es Φ ⟨p, rfl, k⟩ _
  walk_at "d"
  exact k
def wNeedBetween : SpW := fun es Φ => ∃ i lo hi : Int, es = [.val (.int i), .val (.int lo), .val (.int hi)] ∧ lo ≤ i ∧ i ≤ hi ∧ Φ .none es
theorem ok_need_between (D : TD K mg "need_between" s_need_between P_need_between) (G_is_whole : Cal P w K mg base 1 "is_whole" P_is_whole (spD K 1 wIsWhole)) : FnOk P w K mg base CX0 2 D.f D.fd P_need_between (spD K 3 wNeedBetween) := by
  refine fn_data D.F sc_need_between rfl fun cdv A outer s H E hr => ?_
  refine ⟨_, (pss_one (ps_if (PW.pt (pw_or (pt_not (pt_val (pe_call G_is_whole.ok (hr.mono (by decide)) rfl G_is_whole.m G_is_whole.kp G_is_whole.b .nil pass0 (pa_cons (pv 0) pa_nil)))) (pw_or (pt_cmpR op_lt (pv 0) (pv 1) (nomark _)) (pw_or1 (pt_cmpR op_gt (pv 0) (pv 2) (nomark _)))))) (pss_one ps_never) pss_nil)), ?_⟩
  rintro es Φ ⟨i, lo, hi, rfl, h1, h2, k⟩ _
  walk_at "d"
  refine ⟨rfl, _, rfl, trivial, _, rfl, ?_⟩
  walk_at "d"
  refine ⟨fun _ => ?_, fun z => absurd (of_decide_eq_true z) (by omega)⟩
  walk_at "d"
  refine ⟨fun z => absurd (of_decide_eq_true z) (by omega), fun _ => ?_⟩
  walk_at "d"
  exact k
def isIntegerD : PyData → Bool
  | .int i => decide (-1000000000000000000000000000000000000000000000000000000000000 < i) && decide (i < 1000000000000000000000000000000000000000000000000000000000000)
  | _ => false
def wIsInteger : SpW := fun es Φ => ∃ d, es = [.val d] ∧ Pl d ∧ Φ (.bool (isIntegerD d)) es
theorem ok_is_integer (T : Txt K mg) (D : TD K mg "is_integer" s_is_integer P_is_integer) (G_is_whole : Cal P w K mg base 1 "is_whole" P_is_whole (spD K 1 wIsWhole)) : FnOk P w K mg base CX0 2 D.f D.fd P_is_integer (spD K 1 wIsInteger) := by
  refine fn_data D.F sc_is_integer rfl fun cdv A outer s H E hr => ?_
  refine ⟨_, (pss_one (ps_ret (pe_and (pe_call G_is_whole.ok (hr.mono (by decide)) rfl G_is_whole.m G_is_whole.kp G_is_whole.b .nil pass0 (pa_cons (pv 0) pa_nil)) (pe_one (pe_chain op_lt op_lt (pe_un un_neg (pe_glob (v := .int 1000000000000000000000000000000000000000000000000000000000000) rfl T.c_LONG ⟨_, rfl⟩)) (pv 0) (pe_glob (v := .int 1000000000000000000000000000000000000000000000000000000000000) rfl T.c_LONG ⟨_, rfl⟩)))))), ?_⟩
  rintro es Φ ⟨d, rfl, hd, k⟩ _
  walk_at "d"
  refine ⟨rfl, _, rfl, hd, _, rfl, fun h => ?_, fun h => ?_⟩
  · cases d with
    | int i =>
      walk_at "d"
      refine ⟨fun h1 => ?_, fun h1 => ?_⟩
      · walk_at "d"
        have e : isIntegerD (.int i) = decide (i < 1000000000000000000000000000000000000000000000000000000000000) := by
          show (decide (-1000000000000000000000000000000000000000000000000000000000000 < i) && _) = _
          rw [h1, Bool.true_and]
        rw [e] at k
        exact k
      · have e : isIntegerD (.int i) = false := by
          show (decide (-1000000000000000000000000000000000000000000000000000000000000 < i) && _) = _
          rw [h1, Bool.false_and]
        rw [e] at k
        exact k
    | _ => exact nomatch h
  · have e : isIntegerD d = false := by cases d <;> first | rfl | exact nomatch h
    rw [e] at k
    exact k
theorem isIntegerD_of {i : Int} (h : i.natAbs < 10 ^ 60) : isIntegerD (.int i) = true := by
  show (decide (-1000000000000000000000000000000000000000000000000000000000000 < i) && decide (i < 1000000000000000000000000000000000000000000000000000000000000)) = true
  rw [Bool.and_eq_true]
  exact ⟨decide_eq_true (by omega), decide_eq_true (by omega)⟩
def isRatioD (d : PyData) : Bool := isExactD d && (match d with
  | .tuple [x, y] => isIntegerD x && isIntegerD y
  | _ => false)
def wIsRatio : SpW := fun es Φ => ∃ d, es = [.val d] ∧ Pl d ∧ (∀ x y, d = .tuple [x, y] → Pl x ∧ Pl y) ∧ Φ (.bool (isRatioD d)) es
theorem exact_is {d : PyData} (h : isExactD d = true) : ∃ t b : Int, d = .tuple [.int t, .int b] := by
  unfold isExactD at h
  split at h
  · exact ⟨_, _, rfl⟩
  · cases h
theorem ok_is_ratio (D : TD K mg "is_ratio" s_is_ratio P_is_ratio) (G_is_exact : Cal P w K mg base 2 "is_exact" P_is_exact (spD K 1 wIsExact)) (G_is_integer : Cal P w K mg base 2 "is_integer" P_is_integer (spD K 1 wIsInteger)) : FnOk P w K mg base CX0 3 D.f D.fd P_is_ratio (spD K 1 wIsRatio) := by
  refine fn_data D.F sc_is_ratio rfl fun cdv A outer s H E hr => ?_
  refine ⟨_, (pss_one (ps_ret (pe_and (pe_call G_is_exact.ok (hr.mono (by decide)) rfl G_is_exact.m G_is_exact.kp G_is_exact.b .nil pass0 (pa_cons (pv 0) pa_nil)) (pe_and (pe_call G_is_integer.ok (hr.mono (by decide)) rfl G_is_integer.m G_is_integer.kp G_is_integer.b .nil pass0 (pa_cons (pe_ix ix_seq (pv 0) pe_int (fun _ _ => rfl)) pa_nil)) (pe_one (pe_call G_is_integer.ok (hr.mono (by decide)) rfl G_is_integer.m G_is_integer.kp G_is_integer.b .nil pass0 (pa_cons (pe_ix ix_seq (pv 0) pe_int (fun _ _ => rfl)) pa_nil))))))), ?_⟩
  rintro es Φ ⟨d, rfl, hd, hd2, k⟩ _
  walk_at "d"
  refine ⟨rfl, _, rfl, hd, hd2, _, rfl, fun h => ?_, fun h => ?_⟩
  · obtain ⟨t, b, rfl⟩ := exact_is h
    unfold isRatioD at k
    rw [h, Bool.true_and] at k
    have k : Φ (.bool (isIntegerD (.int t) && isIntegerD (.int b))) [Ent.val (.tuple [.int t, .int b])] := k
    walk_at "d"
    refine ⟨rfl, _, rfl, trivial, _, rfl, fun h1 => ?_, fun h1 => ?_⟩
    · rw [h1, Bool.true_and] at k
      walk_at "d"
      exact ⟨rfl, _, rfl, trivial, k⟩
    · rw [h1, Bool.false_and] at k
      exact k
  · unfold isRatioD at k
    rw [h, Bool.false_and] at k
    exact k
theorem isRatio_of {p : Int × Int} (h : RatOk p) : isRatioD (rat p) = true := by
  obtain ⟨⟨h1, h2⟩, h3, h4⟩ := h
  unfold isRatioD
  have e1 : isExactD (rat p) = true := by
    show (decide (0 < p.2) && decide (Nat.gcd p.1.natAbs p.2.natAbs = 1)) = true
    rw [Bool.and_eq_true]
    exact ⟨decide_eq_true h1, decide_eq_true h2⟩
  rw [e1, Bool.true_and]
  show (isIntegerD (.int p.1) && isIntegerD (.int p.2)) = true
  rw [isIntegerD_of h3, isIntegerD_of h4]
  rfl
def wNeedRatio : SpW := fun es Φ => ∃ p, es = [.val (rat p)] ∧ RatOk p ∧ Φ .none es
theorem pl_rat {p : Int × Int} : ∀ x y, rat p = .tuple [x, y] → Pl x ∧ Pl y := fun x y e => by
  injection e with e
  injection e with e1 e
  injection e with e2 e
  subst e1; subst e2
  exact ⟨trivial, trivial⟩
theorem ok_need_ratio (D : TD K mg "need_ratio" s_need_ratio P_need_ratio) (G_is_ratio : Cal P w K mg base 3 "is_ratio" P_is_ratio (spD K 1 wIsRatio)) : FnOk P w K mg base CX0 4 D.f D.fd P_need_ratio (spD K 1 wNeedRatio) := by
  refine fn_data D.F sc_need_ratio rfl fun cdv A outer s H E hr => ?_
  refine ⟨_, (pss_one (ps_if (pt_not (pt_val (pe_call G_is_ratio.ok (hr.mono (by decide)) rfl G_is_ratio.m G_is_ratio.kp G_is_ratio.b .nil pass0 (pa_cons (pv 0) pa_nil)))) (pss_one ps_never) pss_nil)), ?_⟩
  rintro es Φ ⟨p, rfl, hp, k⟩ _
  walk_at "d"
  refine ⟨rfl, _, rfl, trivial, pl_rat, _, rfl, ?_⟩
  rw [isRatio_of hp]
  walk_at "d"
  exact k
def wNeedRatios : SpW := fun es Φ => ∃ p q, es = [.val (rat p), .val (rat q)] ∧ RatOk p ∧ RatOk q ∧ Φ .none es
theorem ok_need_ratios (D : TD K mg "need_ratios" s_need_ratios P_need_ratios) (G_need_ratio : Cal P w K mg base 4 "need_ratio" P_need_ratio (spD K 1 wNeedRatio)) : FnOk P w K mg base CX0 5 D.f D.fd P_need_ratios (spD K 2 wNeedRatios) := by
  refine fn_data D.F sc_need_ratios rfl fun cdv A outer s H E hr => ?_
  refine ⟨_, (pss_cons (ps_expr (pe_call G_need_ratio.ok (hr.mono (by decide)) rfl G_need_ratio.m G_need_ratio.kp G_need_ratio.b .nil pass0 (pa_cons (pv 0) pa_nil))) (pss_one (ps_expr (pe_call G_need_ratio.ok (hr.mono (by decide)) rfl G_need_ratio.m G_need_ratio.kp G_need_ratio.b .nil pass0 (pa_cons (pv 1) pa_nil))))), ?_⟩
  rintro es Φ ⟨p, q, rfl, hp, hq, k⟩ _
  walk_at "d"
  refine ⟨rfl, _, rfl, hp, ?_⟩
  walk_at "d"
  refine ⟨rfl, _, rfl, hq, ?_⟩
  exact k
def wLowest : SpW := fun es Φ => ∃ a b : Int, es = [.val (.int a), .val (.int b)] ∧ a.natAbs < 10 ^ 60 ∧ b.natAbs < 10 ^ 60 ∧ b ≠ 0 ∧ Φ (rat (redI a b)) es
theorem ok_lowest (D : TD K mg "lowest" s_lowest P_lowest) (G_is_integer : Cal P w K mg base 2 "is_integer" P_is_integer (spD K 1 wIsInteger)) (G_reduced : Cal P w K mg base 1 "reduced" P_reduced (spD K 2 wReduced)) : FnOk P w K mg base CX0 3 D.f D.fd P_lowest (spD K 2 wLowest) := by
  refine fn_data D.F sc_lowest rfl fun cdv A outer s H E hr => ?_
  have hu := hr.units
  refine ⟨_, (pss_cons (ps_if (pt_not (pt_val (pe_call G_is_integer.ok (hr.mono (by decide)) rfl G_is_integer.m G_is_integer.kp G_is_integer.b .nil pass0 (pa_cons (pv 0) pa_nil)))) (pss_one ps_never) pss_nil) (pss_cons (ps_if (PW.pt (pw_or (pt_not (pt_val (pe_call G_is_integer.ok (hr.mono (by decide)) rfl G_is_integer.m G_is_integer.kp G_is_integer.b .nil pass0 (pa_cons (pv 1) pa_nil)))) (pw_or1 (pt_cmpR (opA_eq hu) (pv 1) pe_int (nomark _))))) (pss_one ps_never) pss_nil) (pss_one (ps_ret (pe_call G_reduced.ok (hr.mono (by decide)) rfl G_reduced.m G_reduced.kp G_reduced.b .nil pass0 (pa_cons (pv 0) (pa_cons (pv 1) pa_nil))))))), ?_⟩
  rintro es Φ ⟨a, b, rfl, ha, hb, h0, k⟩ _
  walk_at "d"
  refine ⟨rfl, _, rfl, trivial, _, rfl, ?_⟩
  rw [isIntegerD_of ha]
  walk_at "d"
  refine ⟨rfl, _, rfl, trivial, _, rfl, ?_⟩
  rw [isIntegerD_of hb]
  walk_at "d"
  refine ⟨fun z => absurd (by simpa [PyData.eqv] using z) h0, fun _ => ?_⟩
  walk_at "d"
  exact ⟨rfl, _, _, rfl, h0, (B60 hb).mono (by decide), k⟩
def wPlus : SpW := fun es Φ => ∃ p q, es = [.val (rat p), .val (rat q)] ∧ RatOk p ∧ RatOk q ∧ Φ (rat (addR p q)) es
theorem RatOk.p4 {p q : Int × Int} (hp : RatOk p) (hq : RatOk q) : P4 300 p q := ⟨(B60 hp.2.1).mono (by decide), (B60 hp.2.2).mono (by decide), (B60 hq.2.1).mono (by decide), (B60 hq.2.2).mono (by decide)⟩
theorem ok_plus (D : TD K mg "plus" s_plus P_plus) (G_need_ratios : Cal P w K mg base 5 "need_ratios" P_need_ratios (spD K 2 wNeedRatios)) (G_added : Cal P w K mg base 2 "added" P_added (spD K 2 wAdded)) : FnOk P w K mg base CX0 6 D.f D.fd P_plus (spD K 2 wPlus) := by
  refine fn_data D.F sc_plus rfl fun cdv A outer s H E hr => ?_
  refine ⟨_, (pss_cons (ps_expr (pe_call G_need_ratios.ok (hr.mono (by decide)) rfl G_need_ratios.m G_need_ratios.kp G_need_ratios.b .nil pass0 (pa_cons (pv 0) (pa_cons (pv 1) pa_nil)))) (pss_one (ps_ret (pe_call G_added.ok (hr.mono (by decide)) rfl G_added.m G_added.kp G_added.b .nil pass0 (pa_cons (pv 0) (pa_cons (pv 1) pa_nil)))))), ?_⟩
  rintro es Φ ⟨p, q, rfl, hp, hq, k⟩ _
  walk_at "d"
  refine ⟨rfl, _, _, rfl, hp, hq, ?_⟩
  walk_at "d"
  exact ⟨rfl, _, _, rfl, hp.1.1, hq.1.1, hp.p4 hq, k⟩
def wMinus : SpW := fun es Φ => ∃ p q, es = [.val (rat p), .val (rat q)] ∧ RatOk p ∧ RatOk q ∧ Φ (rat (addR p (negR q))) es
theorem ok_minus (D : TD K mg "minus" s_minus P_minus) (G_need_ratios : Cal P w K mg base 5 "need_ratios" P_need_ratios (spD K 2 wNeedRatios)) (G_added : Cal P w K mg base 2 "added" P_added (spD K 2 wAdded)) (G_opposite : Cal P w K mg base 1 "opposite" P_opposite (spD K 1 wOpposite)) : FnOk P w K mg base CX0 6 D.f D.fd P_minus (spD K 2 wMinus) := by
  refine fn_data D.F sc_minus rfl fun cdv A outer s H E hr => ?_
  refine ⟨_, (pss_cons (ps_expr (pe_call G_need_ratios.ok (hr.mono (by decide)) rfl G_need_ratios.m G_need_ratios.kp G_need_ratios.b .nil pass0 (pa_cons (pv 0) (pa_cons (pv 1) pa_nil)))) (pss_one (ps_ret (pe_call G_added.ok (hr.mono (by decide)) rfl G_added.m G_added.kp G_added.b .nil pass0 (pa_cons (pv 0) (pa_cons (pe_call G_opposite.ok (hr.mono (by decide)) rfl G_opposite.m G_opposite.kp G_opposite.b .nil pass0 (pa_cons (pv 1) pa_nil)) pa_nil)))))), ?_⟩
  rintro es Φ ⟨p, q, rfl, hp, hq, k⟩ _
  walk_at "d"
  refine ⟨rfl, _, _, rfl, hp, hq, ?_⟩
  walk_at "d"
  refine ⟨rfl, _, rfl, ?_⟩
  walk_at "d"
  have h := hp.p4 hq
  exact ⟨rfl, _, _, rfl, hp.1.1, hq.1.1, ⟨h.1, h.2.1, h.2.2.1.neg, h.2.2.2⟩, k⟩
def wTimes : SpW := fun es Φ => ∃ p q, es = [.val (rat p), .val (rat q)] ∧ RatOk p ∧ RatOk q ∧ Φ (rat (mulR p q)) es
theorem ok_times (D : TD K mg "times" s_times P_times) (G_need_ratios : Cal P w K mg base 5 "need_ratios" P_need_ratios (spD K 2 wNeedRatios)) (G_multiplied : Cal P w K mg base 2 "multiplied" P_multiplied (spD K 2 wMultiplied)) : FnOk P w K mg base CX0 6 D.f D.fd P_times (spD K 2 wTimes) := by
  refine fn_data D.F sc_times rfl fun cdv A outer s H E hr => ?_
  refine ⟨_, (pss_cons (ps_expr (pe_call G_need_ratios.ok (hr.mono (by decide)) rfl G_need_ratios.m G_need_ratios.kp G_need_ratios.b .nil pass0 (pa_cons (pv 0) (pa_cons (pv 1) pa_nil)))) (pss_one (ps_ret (pe_call G_multiplied.ok (hr.mono (by decide)) rfl G_multiplied.m G_multiplied.kp G_multiplied.b .nil pass0 (pa_cons (pv 0) (pa_cons (pv 1) pa_nil)))))), ?_⟩
  rintro es Φ ⟨p, q, rfl, hp, hq, k⟩ _
  walk_at "d"
  refine ⟨rfl, _, _, rfl, hp, hq, ?_⟩
  walk_at "d"
  exact ⟨rfl, _, _, rfl, hp.1.1, hq.1.1, hp.p4 hq, k⟩
def wOver : SpW := fun es Φ => ∃ p q, es = [.val (rat p), .val (rat q)] ∧ RatOk p ∧ RatOk q ∧ q.1 ≠ 0 ∧ Φ (rat (ovR p q)) es
theorem ok_over (D : TD K mg "over" s_over P_over) (G_need_ratios : Cal P w K mg base 5 "need_ratios" P_need_ratios (spD K 2 wNeedRatios)) (G_reduced : Cal P w K mg base 1 "reduced" P_reduced (spD K 2 wReduced)) : FnOk P w K mg base CX0 6 D.f D.fd P_over (spD K 2 wOver) := by
  refine fn_data D.F sc_over rfl fun cdv A outer s H E hr => ?_
  have hu := hr.units
  refine ⟨_, (pss_cons (ps_expr (pe_call G_need_ratios.ok (hr.mono (by decide)) rfl G_need_ratios.m G_need_ratios.kp G_need_ratios.b .nil pass0 (pa_cons (pv 0) (pa_cons (pv 1) pa_nil)))) (pss_cons (ps_if (pt_cmpR (opA_eq hu) (pe_ix ix_seq (pv 1) pe_int (fun _ _ => rfl)) pe_int (nomark _)) (pss_one ps_never) pss_nil) (pss_one (ps_ret (pe_call G_reduced.ok (hr.mono (by decide)) rfl G_reduced.m G_reduced.kp G_reduced.b .nil pass0 (pa_cons (pe_op opA_mul (pe_ix ix_seq (pv 0) pe_int (fun _ _ => rfl)) (pe_ix ix_seq (pv 1) pe_int (fun _ _ => rfl))) (pa_cons (pe_op opA_mul (pe_ix ix_seq (pv 0) pe_int (fun _ _ => rfl)) (pe_ix ix_seq (pv 1) pe_int (fun _ _ => rfl))) pa_nil))))))), ?_⟩
  rintro es Φ ⟨p, q, rfl, hp, hq, h0, k⟩ _
  obtain ⟨b1, b2, b3, b4⟩ := hp.p4 hq
  walk_at "d"
  refine ⟨rfl, _, _, rfl, hp, hq, ?_⟩
  walk_at "d"
  refine ⟨fun z => absurd (by simpa [PyData.eqv] using z) h0, fun _ => ?_⟩
  walk_at "d"
  refine rd_mulI (b1.mw b4) ?_
  walk_at "d"
  refine rd_mulI (b2.mw b3) ?_
  walk_at "d"
  have : p.2 ≠ 0 := by have := hp.1.1; omega
  exact ⟨rfl, _, _, rfl, Int.mul_ne_zero this h0, (b2.mul b3).mono (by decide), k⟩
def cmpR (p q : Int × Int) : Int := if p.1 * q.2 - q.1 * p.2 < 0 then -1 else if p.1 * q.2 - q.1 * p.2 > 0 then 1 else 0
def wCompare : SpW := fun es Φ => ∃ p q, es = [.val (rat p), .val (rat q)] ∧ RatOk p ∧ RatOk q ∧ Φ (.int (cmpR p q)) es
theorem ok_compare (D : TD K mg "compare" s_compare P_compare) (G_need_ratios : Cal P w K mg base 5 "need_ratios" P_need_ratios (spD K 2 wNeedRatios)) : FnOk P w K mg base CX0 6 D.f D.fd P_compare (spD K 2 wCompare) := by
  refine fn_data D.F sc_compare rfl fun cdv A outer s H E hr => ?_
  refine ⟨_, (pss_cons (ps_expr (pe_call G_need_ratios.ok (hr.mono (by decide)) rfl G_need_ratios.m G_need_ratios.kp G_need_ratios.b .nil pass0 (pa_cons (pv 0) (pa_cons (pv 1) pa_nil)))) (pss_cons (ps_set (i := 2) sc_compare.nd rfl (Or.inl rfl) (pe_op op_sub (pe_op opA_mul (pe_ix ix_seq (pv 0) pe_int (fun _ _ => rfl)) (pe_ix ix_seq (pv 1) pe_int (fun _ _ => rfl))) (pe_op opA_mul (pe_ix ix_seq (pv 1) pe_int (fun _ _ => rfl)) (pe_ix ix_seq (pv 0) pe_int (fun _ _ => rfl))))) (pss_cons (ps_if (pt_cmpR op_lt (pv 2) pe_int (nomark _)) (pss_one (ps_ret (pe_un un_neg pe_int))) pss_nil) (pss_one (ps_ret (pe_ifExp (pt_cmpR op_gt (pv 2) pe_int (nomark _)) pe_int pe_int)))))), ?_⟩
  rintro es Φ ⟨p, q, rfl, hp, hq, k⟩ _
  obtain ⟨b1, b2, b3, b4⟩ := hp.p4 hq
  walk_at "d"
  refine ⟨rfl, _, _, rfl, hp, hq, ?_⟩
  walk_at "d"
  refine rd_mulI (b1.mw b4) ?_
  walk_at "d"
  refine rd_mulI (b3.mw b2) ?_
  walk_at "d"
  unfold cmpR at k
  refine ⟨fun h => ?_, fun h => ?_⟩
  · rw [if_pos (of_decide_eq_true h)] at k
    walk_at "d"
    exact k
  · rw [if_neg (of_decide_eq_false h)] at k
    walk_at "d"
    refine ⟨fun h1 => ?_, fun h1 => ?_⟩
    · rw [if_pos (of_decide_eq_true h1)] at k
      walk_at "d"
      exact k
    · rw [if_neg (of_decide_eq_false h1)] at k
      walk_at "d"
      exact k
end
end K00
/-! numbers: binomials, Bernoulli's numbers, by computation -/
namespace K00
open PySem
def bernT : List (Int × Int) := [(1, 1), (-1, 2), (1, 6), (0, 1), (-1, 30), (0, 1), (1, 42), (0, 1), (-1, 30), (0, 1), (5, 66), (0, 1), (-691, 2730), (0, 1), (7, 6), (0, 1), (-3617, 510), (0, 1), (43867, 798), (0, 1), (-174611, 330), (0, 1), (854513, 138), (0, 1), (-236364091, 2730)]
def bT (i : Nat) : Int × Int := bernT.getD i (0, 1)
def nbS (k i : Nat) : Int × Int := redI (PySem.W.mcComb ((k : Int) + 1) (i : Int) * (bT i).1) (bT i).2
def nbT (k : Nat) : Nat → Int × Int
  | 0 => (0, 1)
  | i + 1 => if (bT i).1 = 0 then nbT k i else addR (nbT k i) (nbS k i)
def ok1 (p : Int × Int) : Bool := decide (0 < p.2) && (decide (p.1.natAbs < 2 ^ 300) && decide (p.2.natAbs < 2 ^ 300))
def nbChk (k i : Nat) : Bool := ok1 (bT i) && (ok1 (nbS k i) && (ok1 (nbT k i) && decide ((PySem.W.mcComb ((k : Int) + 1) (i : Int)).natAbs < 2 ^ 300)))
theorem nb_chk : ∀ k : Nat, k < 25 → ∀ i : Nat, i < 25 → i ≤ k → nbChk k i = true := by decide +kernel
def nbFin (k : Nat) : Bool := if 1 < k ∧ k % 2 = 1 then decide (bT k = (0, 1)) else decide (mulR (nbT k k) (-1, (k : Int) + 1) = bT k)
theorem nb_fin : ∀ k : Nat, k < 25 → 1 ≤ k → nbFin k = true := by decide +kernel
/-- the law's own binomials -/
def chM (m : Int) : Nat → Int
  | 0 => 1
  | a + 1 => (chM m a * (m - (a : Int))).fdiv ((a : Int) + 1)
theorem ch_comb : ∀ m : Nat, m < 62 → ∀ f : Nat, f < 66 → f ≤ m + 4 → chM (m : Int) f = PySem.W.mcComb (m : Int) (f : Int) := by decide +kernel
theorem comb_add : ∀ t : Nat, t < 60 → ∀ l : Nat, l < 64 → l < t + 4 → PySem.W.mcComb ((t : Int) + 1) ((l : Int) + 1) = PySem.W.mcComb (t : Int) (l : Int) + PySem.W.mcComb (t : Int) ((l : Int) + 1) := by decide +kernel
theorem comb_sym : ∀ t : Nat, t < 60 → ∀ l : Nat, l < 60 → l ≤ t → PySem.W.mcComb (t : Int) ((t : Int) - (l : Int)) = PySem.W.mcComb (t : Int) (l : Int) := by decide +kernel
/-- the law's own Bernoulli's numbers -/
def lbS (k i : Nat) : Int × Int := mulR (chM ((k : Int) + 1) i, 1) (bT i)
def lbT (k : Nat) : Nat → Int × Int
  | 0 => (0, 1)
  | i + 1 => addR (lbT k i) (lbS k i)
def lbChk (k i : Nat) : Bool := ok1 (bT i) && (ok1 (lbS k i) && (ok1 (lbT k i) && decide ((chM ((k : Int) + 1) i).natAbs < 2 ^ 300)))
theorem lb_chk : ∀ k : Nat, k < 25 → ∀ i : Nat, i < 25 → i ≤ k + 1 → lbChk k i = true := by decide +kernel
theorem lb_fin : ∀ k : Nat, k < 25 → 1 ≤ k → mulR (lbT k k) (redI (-1) ((k : Int) + 1)) = bT k := by decide +kernel
theorem lb_end : ∀ k : Nat, k < 25 → 1 ≤ k → lbT k (k + 1) = (0, 1) := by decide +kernel
end K00
namespace K00
open PySem L2 PySem.Spec PyProof.Rows DL
local macro_rules | `(tactic| walk_at "d0") => `(tactic| first
  | (with_reducible refine ds_seq ?_) | (with_reducible refine ds_next ?_) | (with_reducible refine ds_ret ?_) | (with_reducible refine ds_drop ?_) | (with_reducible refine ds_setO ?_) | (with_reducible refine ds_asg ?_)
  | ((with_reducible show DW _ _ (tOp (rIx _) (tVar _) (tC (.int _))) _ _); refine dw_ixO rfl (dw_int ⟨_, _, _, rfl, rfl, rfl, ?_⟩))
  | ((with_reducible show DW _ _ (tOp (rIx _) (tVar _) _) _ _); refine dw_ixO rfl ?_)
  | (with_reducible refine dw_lst ?_)
  | (with_reducible refine dw_isi ?_) | (with_reducible refine dw_op ?_) | (with_reducible refine dw_un ?_) | (with_reducible refine dw_int ?_) | (with_reducible refine dw_bl ?_) | (with_reducible refine dw_str ?_) | (with_reducible refine dw_non ?_)
  | ((with_reducible show DW _ _ (tVar _) _ _); refine dw_var rfl ?_)
  | (with_reducible refine dw_andV ?_) | (with_reducible refine dw_orV ?_) | (with_reducible refine dw_notV ?_) | (with_reducible refine dw_tup ?_) | (with_reducible refine dw_chain ?_)
  | (with_reducible refine da_nil ?_) | (with_reducible refine da_cons ?_)
  | (with_reducible refine dt_test ?_) | (with_reducible refine dt_B ?_) | (with_reducible refine dt_and ?_) | (with_reducible refine dt_or ?_) | (with_reducible refine dt_not ?_) | (with_reducible refine dt_yes ?_)
  | ((with_reducible show DW _ _ (tCall _ _ _ (tCons (tVar _) _)) _ _); refine dw_callO rfl ?_)
  | (with_reducible refine dw_call ?_) | (with_reducible refine dw_fresh (df_call ?_)) | (with_reducible refine dw_cb ?_)
  | (with_reducible refine rd_addI ?_) | (with_reducible refine rd_i0 ?_) | (with_reducible refine rd_b0 ?_) | (with_reducible refine ru_i ?_) | (with_reducible refine rc_int ?_) | (with_reducible refine rc_intB ?_) | (with_reducible refine rc_abs ?_) | (with_reducible refine rc_max ?_) | (with_reducible refine rc_min ?_) | (with_reducible refine rc_gcd ?_) | (with_reducible refine rc_lenL ?_) | (with_reducible refine rc_lenT ?_)
  | ((with_reducible show RD (rIx _) _ (.tuple _) _ _); refine rd_ixT rfl ?_) | ((with_reducible show RD (rIx _) _ (.list _) _ _); refine rd_ixL rfl ?_)
  | ((with_reducible refine dg_name ?hj ?_); (case hj => first | exact .inl (by decide) | exact .inr (noLst_val rfl) | exact .inr (noLst_none rfl)))
  | ((with_reducible show ∃ b, PyData.bool _ = PyData.bool b ∧ _); refine ⟨_, rfl, ?_⟩)
  | ((with_reducible show RD (rEqA _) _ (.int _) (.int _) _); refine rd_eq rfl rfl ?_) | ((with_reducible show RD (rNeA _) _ (.int _) (.int _) _); refine rd_ne rfl rfl ?_)
  | ((with_reducible show DW _ _ (tTup _) _ _); refine dw_tup ?_) | ((with_reducible show List.length _ ≤ 100000 ∧ _); refine ⟨Nat.le_of_ble_eq_true rfl, ?_⟩)
  | (((with_reducible show (_ = true → _) ∧ (_ = false → _)); first | (refine ⟨fun _ => ?_, fun z => Bool.noConfusion (show true = false from z)⟩) | (refine ⟨fun z => Bool.noConfusion (show false = true from z), fun _ => ?_⟩)))
  | (((with_reducible show (_ = false → _) ∧ (_ = true → _)); first | (refine ⟨fun _ => ?_, fun z => Bool.noConfusion (show false = true from z)⟩) | (refine ⟨fun z => Bool.noConfusion (show true = false from z), fun _ => ?_⟩)))
  | (with_reducible refine dgs_nil ?_) | (with_reducible refine dgs_cons ?_))
local macro_rules | `(tactic| walk_at "d1") => `(tactic| first | walk_at "d0" | (with_reducible refine ds_if ?_) | (with_reducible refine dw_if ?_))
local macro_rules | `(tactic| walk_at "e") => `(tactic| ((try dsimp only [cxOf, Cx.nox, Cx.wish]); repeat (walk_at "d0")))
local macro_rules | `(tactic| walk_at "d") => `(tactic| ((try dsimp only [cxOf, Cx.nox, Cx.wish]); repeat (walk_at "d1")))

abbrev s_ratio_text : Stmt := topS 29
abbrev N_ratio_text : List Str := ["ratio", "top", "bottom"]
abbrev P_ratio_text : List Str := ["ratio"]
theorem sc_ratio_text : FnScope N_ratio_text P_ratio_text (defScope s_ratio_text) := ⟨rfl, rfl, rfl, by decide +kernel, rfl, by decide +kernel, by decide +kernel⟩
abbrev s_binomial : Stmt := topS 30
abbrev N_binomial : List Str := ["top", "low"]
abbrev P_binomial : List Str := ["top", "low"]
theorem sc_binomial : FnScope N_binomial P_binomial (defScope s_binomial) := ⟨rfl, rfl, rfl, by decide +kernel, rfl, by decide +kernel, by decide +kernel⟩
abbrev s_bernoulli : Stmt := topS 31
abbrev N_bernoulli : List Str := ["number", "found"]
abbrev P_bernoulli : List Str := ["number"]
theorem sc_bernoulli : FnScope N_bernoulli P_bernoulli (defScope s_bernoulli) := ⟨rfl, rfl, rfl, by decide +kernel, rfl, by decide +kernel, by decide +kernel⟩
abbrev s__next_bernoulli : Stmt := topS 32
abbrev N__next_bernoulli : List Str := ["found", "index", "total", "low", "ratio"]
abbrev P__next_bernoulli : List Str := ["found"]
theorem sc__next_bernoulli : FnScope N__next_bernoulli P__next_bernoulli (defScope s__next_bernoulli) := ⟨rfl, rfl, rfl, by decide +kernel, rfl, by decide +kernel, by decide +kernel⟩
section
variable {P : Program} {w : World} {K : PySem.W.Frag} {mg : Str → Option Value} {base : Heap}
def textR (p : Int × Int) : Str := if p.2 = 1 then Str.ofString (toString p.1) else Str.ofString (toString p.1) ++ (Str.ofString "/" ++ Str.ofString (toString p.2))
theorem log60 {i : Int} (h : i.natAbs < 10 ^ 60) : i.natAbs.log2 < 1920 := by
  by_cases h0 : i.natAbs = 0
  · rw [h0]; decide
  · exact (Nat.log2_lt h0).mpr (Nat.lt_of_lt_of_le h (by decide))
theorem len60 {i : Int} (h : i.natAbs < 10 ^ 60) : (Str.ofString (toString i)).length ≤ 1921 := PyProof.Rows.int_text_len_1921 (log60 h)
def wRatioText : SpW := fun es Φ => ∃ p, es = [.val (rat p)] ∧ RatOk p ∧ Φ (.str (textR p)) es
theorem str_len_append (a b : Str) : (a ++ b).length = a.length + b.length := by
  show (a.cps ++ b.cps).size = _
  rw [Array.size_append]
  rfl
theorem ok_ratio_text (T : Txt K mg) (D : TD K mg "ratio_text" s_ratio_text P_ratio_text) (G_need_ratio : Cal P w K mg base 4 "need_ratio" P_need_ratio (spD K 1 wNeedRatio)) : FnOk P w K mg base CX0 5 D.f D.fd P_ratio_text (spD K 1 wRatioText) := by
  refine fn_data D.F sc_ratio_text rfl fun cdv A outer s H E hr => ?_
  have hu := hr.units
  refine ⟨_, (pss_cons (ps_expr (pe_call G_need_ratio.ok (hr.mono (by decide)) rfl G_need_ratio.m G_need_ratio.kp G_need_ratio.b .nil pass0 (pa_cons (pv 0) pa_nil))) (pss_cons (ps_asg (pv 0) (pg_tup rfl (pgs_cons (pg_name (i := 1) sc_ratio_text.nd rfl (Or.inl rfl)) (pgs_cons (pg_name (i := 2) sc_ratio_text.nd rfl (Or.inl rfl)) pgs_nil)))) (pss_one (ps_ret (pe_ifExp (pt_cmpR (opA_eq hu) (pv 2) pe_int (nomark _)) (pe_callTy call_str_int rfl T.n_str (by decide +kernel) (pa_cons (pv 1) pa_nil)) (pe_joinedA (PJ.cons (pe_fmt (pv 1)) (PJ.cons pe_str (PJ.cons (pe_fmt (pv 2)) PJ.nil))))))))), ?_⟩
  rintro es Φ ⟨p, rfl, hp, k⟩ _
  walk_at "d"
  refine ⟨rfl, _, rfl, hp, ?_⟩
  walk_at "d"
  refine dg_tup ⟨_, rfl, rfl, ?_⟩
  walk_at "d"
  have l1 := len60 hp.2.1
  have l2 := len60 hp.2.2
  have ls : (Str.ofString "/").length = 1 := by decide +kernel
  refine ⟨fun h => ?_, fun h => ?_⟩
  · have e : textR p = Str.ofString (toString p.1) := by
      unfold textR
      rw [if_pos (by simpa [PyData.eqv] using h)]
    rw [e] at k
    walk_at "d"
    refine rc_str (log60 hp.2.1) ?_
    exact k
  · have e : textR p = Str.ofString (toString p.1) ++ (Str.ofString "/" ++ Str.ofString (toString p.2)) := by
      unfold textR
      rw [if_neg (by simpa [PyData.eqv] using h)]
    rw [e] at k
    refine dw_joined (dj_cons (dw_fmtI ?_))
    walk_at "d"
    refine ⟨_, rfl, log60 hp.2.1, _, rfl, ?_, dj_cons ?_⟩
    · rw [str_len_append]; show 0 + _ ≤ _; omega
    walk_at "d"
    refine ⟨_, rfl, ?_, dj_cons (dw_fmtI ?_)⟩
    · rw [str_len_append, str_len_append, ls]; show 0 + _ + 1 ≤ _; omega
    walk_at "d"
    refine ⟨_, rfl, log60 hp.2.2, _, rfl, ?_, dj_nil ?_⟩
    · rw [str_len_append, str_len_append, str_len_append, ls]; show 0 + _ + 1 + _ ≤ _; omega
    rw [Str.empty_append, Str.append_assoc]
    exact k
def wBinomial : SpW := fun es Φ => ∃ t l : Int, es = [.val (.int t), .val (.int l)] ∧ (0 ≤ t ∧ t ≤ 400) ∧ (0 ≤ l ∧ l ≤ 400) ∧ Φ (.int (PySem.W.mcComb t l)) es
theorem ok_binomial (T : Txt K mg) (D : TD K mg "binomial" s_binomial P_binomial) (G_need_between : Cal P w K mg base 2 "need_between" P_need_between (spD K 3 wNeedBetween)) : FnOk P w K mg base CX0 3 D.f D.fd P_binomial (spD K 2 wBinomial) := by
  refine fn_data D.F sc_binomial rfl fun cdv A outer s H E hr => ?_
  refine ⟨_, (pss_cons (ps_expr (pe_call G_need_between.ok (hr.mono (by decide)) rfl G_need_between.m G_need_between.kp G_need_between.b .nil pass0 (pa_cons (pv 0) (pa_cons pe_int (pa_cons (pe_glob (v := .int 400) rfl T.c_MAX_CHOSEN ⟨_, rfl⟩) pa_nil))))) (pss_cons (ps_expr (pe_call G_need_between.ok (hr.mono (by decide)) rfl G_need_between.m G_need_between.kp G_need_between.b .nil pass0 (pa_cons (pv 1) (pa_cons pe_int (pa_cons (pe_glob (v := .int 400) rfl T.c_MAX_CHOSEN ⟨_, rfl⟩) pa_nil))))) (pss_one (ps_ret (pe_callBfun cr_comb rfl T.f_comb (pa_cons (pv 0) (pa_cons (pv 1) pa_nil))))))), ?_⟩
  rintro es Φ ⟨t, l, rfl, ht, hl, k⟩ _
  walk_at "d"
  refine ⟨rfl, _, _, _, rfl, ht.1, ht.2, ?_⟩
  walk_at "d"
  refine ⟨rfl, _, _, _, rfl, hl.1, hl.2, ?_⟩
  walk_at "d"
  refine rc_comb ⟨ht.1, hl.1, by omega⟩ ?_
  exact k
def bL (k : Nat) : List PyData := (bernT.take k).map rat
theorem bL_len {k : Nat} (h : k ≤ 25) : (bL k).length = k := by
  unfold bL
  rw [List.length_map, List.length_take]
  show min k 25 = k
  omega
theorem bL_get {k i : Nat} (hk : k ≤ 25) (hi : i < k) : (bL k)[i]? = some (rat (bT i)) := by
  unfold bL bT
  rw [List.getElem?_map, List.getElem?_take_of_lt hi, List.getD_eq_getElem?_getD]
  have : i < bernT.length := by show i < 25; omega
  rw [List.getElem?_eq_getElem this]
  rfl
theorem bL_snoc {k : Nat} (hk : k < 25) : bL k ++ [rat (bT k)] = bL (k + 1) := by
  apply List.ext_getElem?
  intro i
  by_cases hi : i < k
  · rw [List.getElem?_append_left (by rw [bL_len (by omega)]; exact hi), bL_get (by omega) hi, bL_get (by omega) (by omega)]
  · rw [List.getElem?_append_right (by rw [bL_len (by omega)]; omega), bL_len (by omega)]
    by_cases e : i = k
    · subst e
      rw [Nat.sub_self, bL_get (by omega) (by omega)]
      rfl
    · rw [List.getElem?_eq_none (by simp; omega), List.getElem?_eq_none (by rw [bL_len (by omega)]; omega)]
structure Ok1 (p : Int × Int) : Prop where
  pos : 0 < p.2
  b1 : B 300 p.1
  b2 : B 300 p.2
theorem ok1_of {p : Int × Int} (h : ok1 p = true) : Ok1 p := by
  unfold ok1 at h
  simp only [Bool.and_eq_true, decide_eq_true_eq] at h
  exact ⟨h.1, h.2.1, h.2.2⟩
theorem nb_facts {k i : Nat} (hk : k < 25) (hi : i ≤ k) : Ok1 (bT i) ∧ Ok1 (nbS k i) ∧ Ok1 (nbT k i) ∧ B 300 (PySem.W.mcComb ((k : Int) + 1) (i : Int)) := by
  have h := nb_chk k hk i (by omega) hi
  unfold nbChk at h
  rw [Bool.and_eq_true, Bool.and_eq_true, Bool.and_eq_true] at h
  exact ⟨ok1_of h.1, ok1_of h.2.1, ok1_of h.2.2.1, by have := h.2.2.2; rw [decide_eq_true_eq] at this; exact this⟩
def wNext : SpW := fun es Φ => ∃ k : Nat, es = [.val (.list (bL k))] ∧ 1 ≤ k ∧ k < 25 ∧ Φ (rat (bT k)) es
theorem ok_next (T : Txt K mg) (D : TD K mg "_next_bernoulli" s__next_bernoulli P__next_bernoulli) (G_reduced : Cal P w K mg base 1 "reduced" P_reduced (spD K 2 wReduced))
    (G_added : Cal P w K mg base 2 "added" P_added (spD K 2 wAdded)) (G_multiplied : Cal P w K mg base 2 "multiplied" P_multiplied (spD K 2 wMultiplied)) : FnOk P w K mg base CX0 3 D.f D.fd P__next_bernoulli (spD K 1 wNext) := by
  refine fn_data D.F sc__next_bernoulli rfl fun cdv A outer s H E hr => ?_
  have hu := hr.units
  refine ⟨_, (pss_cons (ps_set (i := 1) sc__next_bernoulli.nd rfl (Or.inl rfl) (pe_callB call_lenA rfl T.n_len (by decide +kernel) (pa_cons (pv 0) pa_nil))) (pss_cons (ps_if (PW.pt (pw_and (pt_cmpR op_gt (pv 1) pe_int (nomark _)) (pw_and1 (pt_cmpR (opA_eq hu) (pe_op op_modN (pv 1) pe_int) pe_int (nomark _))))) (pss_one (ps_ret (pe_tup (pa_cons pe_int (pa_cons pe_int pa_nil))))) pss_nil) (pss_cons (ps_set (i := 2) sc__next_bernoulli.nd rfl (Or.inl rfl) (pe_tup (pa_cons pe_int (pa_cons pe_int pa_nil)))) (pss_cons (ps_for PassesOwn.never rfl (pi_enum rfl T.n_enumerate (pa_cons (pv 0) pa_nil)) (pg_tup rfl (pgs_cons (pg_name (i := 3) sc__next_bernoulli.nd rfl (Or.inl rfl)) (pgs_cons (pg_name (i := 4) sc__next_bernoulli.nd rfl (Or.inl rfl)) pgs_nil))) (pss_one (ps_if (pt_cmpR (opA_ne hu) (pe_ix ix_seq (pv 4) pe_int (fun _ _ => rfl)) pe_int (nomark _)) (pss_one (ps_set (i := 2) sc__next_bernoulli.nd rfl (Or.inl rfl) (pe_call G_added.ok (hr.mono (by decide)) rfl G_added.m G_added.kp G_added.b .nil pass0 (pa_cons (pv 2) (pa_cons (pe_call G_reduced.ok (hr.mono (by decide)) rfl G_reduced.m G_reduced.kp G_reduced.b .nil pass0 (pa_cons (pe_op opA_mul (pe_callBfun cr_comb rfl T.f_comb (pa_cons (pe_op opA_add (pv 1) pe_int) (pa_cons (pv 3) pa_nil))) (pe_ix ix_seq (pv 4) pe_int (fun _ _ => rfl))) (pa_cons (pe_ix ix_seq (pv 4) pe_int (fun _ _ => rfl)) pa_nil))) pa_nil))))) pss_nil))) (pss_one (ps_ret (pe_call G_multiplied.ok (hr.mono (by decide)) rfl G_multiplied.m G_multiplied.kp G_multiplied.b .nil pass0 (pa_cons (pv 2) (pa_cons (pe_tup (pa_cons (pe_un un_neg pe_int) (pa_cons (pe_op opA_add (pv 1) pe_int) pa_nil))) pa_nil))))))))), ?_⟩
  rintro es Φ ⟨k, rfl, h1, h25, kk⟩ _
  walk_at "e"
  rw [bL_len (by omega)]
  walk_at "e"
  have hf := nb_fin k h25 h1
  unfold nbFin at hf
  -- the odd ones
  refine ds_if ?_
  refine dt_bool (decide (1 < k ∧ k % 2 = 1)) ?_ ⟨fun hb => ?_, fun hb => ?_⟩
  · walk_at "d"
    refine ⟨fun h => ?_, fun h => ?_⟩
    · walk_at "d"
      refine rd_i (by decide) ?_
      walk_at "d"
      refine ⟨?_, rfl⟩
      have h : (1 : Int) < k := of_decide_eq_true h
      have e : ((k : Int).fmod 2 == 1) = decide (k % 2 = 1) := by
        rw [Int.fmod_eq_emod_of_nonneg _ (by decide), Bool.eq_iff_iff]
        simp
        omega
      show ((k : Int).fmod 2 == 1) = _
      rw [e, Bool.eq_iff_iff]
      simp
      omega
    · refine ⟨?_, rfl⟩
      have h : ¬ (1 : Int) < k := of_decide_eq_false h
      exact (decide_eq_false (by omega)).symm
  · have hb := of_decide_eq_true hb
    rw [if_pos hb] at hf
    have e : bT k = (0, 1) := of_decide_eq_true hf
    rw [e] at kk
    walk_at "d"
    exact kk
  · have hb := of_decide_eq_false hb
    rw [if_neg hb] at hf
    have e : mulR (nbT k k) (-1, (k : Int) + 1) = bT k := of_decide_eq_true hf
    walk_at "d"
    refine ds_for (di_enum ?_)
    walk_at "d"
    refine ⟨_, rfl, fun i ρ' => ∃ a b, ρ' = [some (.val (.list (bL k))), some (.val (.int k)), some (.val (rat (nbT k i))), a, b], ⟨_, _, rfl⟩, fun i d ρ' hd ⟨a, b, hρ⟩ => ?_, fun ρ' ⟨a, b, hρ⟩ => ?_⟩
    · obtain ⟨x, hx, rfl⟩ := enumD_get hd
      have hi : i < k := by
        have := (List.getElem?_eq_some_iff.mp hx).1
        rw [bL_len (by omega)] at this
        exact this
      rw [bL_get (by omega) hi] at hx
      cases hx
      subst hρ
      obtain ⟨f1, f2, f3, f4⟩ := nb_facts h25 (Nat.le_of_lt hi)
      refine dg_tup ⟨_, rfl, rfl, ?_⟩
      walk_at "d"
      refine ⟨fun h => ?_, fun h => ?_⟩
      · have h0 : ¬ (bT i).1 = 0 := by simpa [PyData.eqv] using h
        have e2 : nbT k (i + 1) = addR (nbT k i) (nbS k i) := by
          show (if (bT i).1 = 0 then nbT k i else addR (nbT k i) (nbS k i)) = _
          rw [if_neg h0]
        walk_at "d"
        refine rc_comb ⟨by omega, by omega, by omega⟩ ?_
        walk_at "d"
        refine rd_mulI (f4.mw f1.b1) ?_
        walk_at "d"
        refine ⟨rfl, _, _, rfl, by have := f1.pos; omega, f1.b2.mono (by decide), ?_⟩
        walk_at "d"
        refine ⟨rfl, _, _, rfl, f3.pos, f2.pos, ⟨f3.b1, f3.b2, f2.b1, f2.b2⟩, ?_⟩
        walk_at "d"
        rw [e2]
        exact ⟨_, _, rfl⟩
      · have h0 : (bT i).1 = 0 := by simpa [PyData.eqv] using h
        have e2 : nbT k (i + 1) = nbT k i := by
          show (if (bT i).1 = 0 then nbT k i else addR (nbT k i) (nbS k i)) = _
          rw [if_pos h0]
        walk_at "d"
        rw [e2]
        exact ⟨_, _, rfl⟩
    · rw [enumD_len, bL_len (by omega)] at hρ
      subst hρ
      obtain ⟨f1, f2, f3, f4⟩ := nb_facts h25 (Nat.le_refl k)
      walk_at "d"
      have bk : B 300 ((k : Int) + 1) := by
        unfold B
        have : ((k : Int) + 1).natAbs < 30 := by omega
        exact Nat.lt_trans this (by decide)
      refine ⟨rfl, nbT k k, (-1, (k : Int) + 1), rfl, f3.pos, by show (0 : Int) < (k : Int) + 1; omega, ⟨f3.b1, f3.b2, by show B 300 (-1); unfold B; decide, bk⟩, ?_⟩
      rw [e]
      exact kk
def wBernoulli : SpW := fun es Φ => ∃ k : Nat, es = [.val (.int k)] ∧ k < 25 ∧ Φ (rat (bT k)) es
theorem ok_bernoulli (T : Txt K mg) (D : TD K mg "bernoulli" s_bernoulli P_bernoulli) (G_need_between : Cal P w K mg base 2 "need_between" P_need_between (spD K 3 wNeedBetween))
    (G__next_bernoulli : Cal P w K mg base 3 "_next_bernoulli" P__next_bernoulli (spD K 1 wNext)) : FnOk P w K mg base CX0 4 D.f D.fd P_bernoulli (spD K 1 wBernoulli) := by
  refine fn_data D.F sc_bernoulli rfl fun cdv A outer s H E hr => ?_
  refine ⟨_, (pss_cons (ps_expr (pe_call G_need_between.ok (hr.mono (by decide)) rfl G_need_between.m G_need_between.kp G_need_between.b .nil pass0 (pa_cons (pv 0) (pa_cons pe_int (pa_cons (pe_glob (v := .int 200) rfl T.c_MAX_BERNOULLI ⟨_, rfl⟩) pa_nil))))) (pss_cons (ps_set (i := 1) sc_bernoulli.nd rfl (Or.inl rfl) (pe_lst (pa_cons (pe_tup (pa_cons pe_int (pa_cons pe_int pa_nil))) pa_nil))) (pss_cons (ps_while PassesOwn.never (pt_cmpR op_le (pe_callB call_lenA rfl T.n_len (by decide +kernel) (pa_cons (pv 1) pa_nil)) (pv 0) (nomark _)) (pss_one (ps_expr (pe_bm PySem.F.plainAttrs_list PySem.F.slot_list_append PySem.F.type_list_append mt_append (pv 1) (pa_cons (pe_call G__next_bernoulli.ok (hr.mono (by decide)) rfl G__next_bernoulli.m G__next_bernoulli.kp G__next_bernoulli.b .nil pass0 (pa_cons (pv 1) pa_nil)) pa_nil))))) (pss_one (ps_ret (pe_ix ix_seq (pv 1) (pv 0) (fun _ _ => rfl))))))), ?_⟩
  rintro es Φ ⟨k, rfl, h25, kk⟩ _
  walk_at "d"
  refine ⟨rfl, _, _, _, rfl, by omega, by omega, ?_⟩
  refine ds_seq (ds_asgF (df_lst ?_))
  walk_at "d"
  refine ⟨by decide, ?_⟩
  refine ds_seq (ds_while ⟨fun m ρ' => ∃ j, 1 ≤ j ∧ j ≤ k + 1 ∧ m = k + 1 - j ∧ ρ' = [some (.val (.int k)), some (.lst (bL j))], ⟨k, 1, Nat.le_refl _, by omega, by omega, rfl⟩, fun m ρ' ⟨j, j1, j2, hm, hρ⟩ => ?_⟩)
  subst hρ
  refine dt_test (dw_op (dw_lenO rfl ?_))
  rw [bL_len (by omega)]
  walk_at "d"
  refine ⟨fun h => ?_, fun h => ?_⟩
  · have h : (j : Int) ≤ k := of_decide_eq_true h
    refine ds_app rfl (dw_callB rfl (da_nil ⟨rfl, _, rfl, j, rfl, j1, by omega, rfl, _, rfl, ?_, ?_⟩))
    · rw [bL_len (by omega)]; omega
    · rw [bL_snoc (by omega)]
      exact ⟨k + 1 - (j + 1), by omega, j + 1, by omega, by omega, rfl, rfl⟩
  · have h : ¬ (j : Int) ≤ k := of_decide_eq_false h
    have e : j = k + 1 := by omega
    subst e
    refine ds_ret (dw_ixO rfl (dw_var rfl ⟨_, _, rat (bT k), rfl, rfl, ?_, ?_⟩))
    · exact atI_nat (bL_get (by omega) (by omega))
    · exact kk
end
end K00
namespace K00
open PySem L2 PySem.Spec PyProof.Rows DL
local macro_rules | `(tactic| walk_at "d0") => `(tactic| first
  | (with_reducible refine ds_seq ?_) | (with_reducible refine ds_next ?_) | (with_reducible refine ds_ret ?_) | (with_reducible refine ds_drop ?_) | (with_reducible refine ds_setO ?_) | (with_reducible refine ds_asg ?_)
  | ((with_reducible show DW _ _ (tOp (rIx _) (tVar _) (tC (.int _))) _ _); refine dw_ixO rfl (dw_int ⟨_, _, _, rfl, rfl, rfl, ?_⟩))
  | ((with_reducible show DW _ _ (tOp (rIx _) (tVar _) _) _ _); refine dw_ixO rfl ?_)
  | (with_reducible refine dw_lst ?_)
  | (with_reducible refine dw_isi ?_) | (with_reducible refine dw_op ?_) | (with_reducible refine dw_un ?_) | (with_reducible refine dw_int ?_) | (with_reducible refine dw_bl ?_) | (with_reducible refine dw_str ?_) | (with_reducible refine dw_non ?_)
  | ((with_reducible show DW _ _ (tVar _) _ _); refine dw_var rfl ?_)
  | (with_reducible refine dw_andV ?_) | (with_reducible refine dw_orV ?_) | (with_reducible refine dw_notV ?_) | (with_reducible refine dw_tup ?_) | (with_reducible refine dw_chain ?_)
  | (with_reducible refine da_nil ?_) | (with_reducible refine da_cons ?_)
  | (with_reducible refine dt_test ?_) | (with_reducible refine dt_B ?_) | (with_reducible refine dt_and ?_) | (with_reducible refine dt_or ?_) | (with_reducible refine dt_not ?_) | (with_reducible refine dt_yes ?_)
  | ((with_reducible show DW _ _ (tCall _ _ _ (tCons (tVar _) _)) _ _); refine dw_callO rfl ?_)
  | (with_reducible refine dw_call ?_) | (with_reducible refine dw_fresh (df_call ?_)) | (with_reducible refine dw_cb ?_)
  | (with_reducible refine rd_addI ?_) | (with_reducible refine rd_i0 ?_) | (with_reducible refine rd_b0 ?_) | (with_reducible refine ru_i ?_) | (with_reducible refine rc_int ?_) | (with_reducible refine rc_intB ?_) | (with_reducible refine rc_abs ?_) | (with_reducible refine rc_max ?_) | (with_reducible refine rc_min ?_) | (with_reducible refine rc_gcd ?_) | (with_reducible refine rc_lenL ?_) | (with_reducible refine rc_lenT ?_)
  | ((with_reducible show RD (rIx _) _ (.tuple _) _ _); refine rd_ixT rfl ?_) | ((with_reducible show RD (rIx _) _ (.list _) _ _); refine rd_ixL rfl ?_)
  | ((with_reducible refine dg_name ?hj ?_); (case hj => first | exact .inl (by decide) | exact .inr (noLst_val rfl) | exact .inr (noLst_none rfl)))
  | ((with_reducible show ∃ b, PyData.bool _ = PyData.bool b ∧ _); refine ⟨_, rfl, ?_⟩)
  | ((with_reducible show RD (rEqA _) _ (.int _) (.int _) _); refine rd_eq rfl rfl ?_) | ((with_reducible show RD (rNeA _) _ (.int _) (.int _) _); refine rd_ne rfl rfl ?_)
  | ((with_reducible show DW _ _ (tTup _) _ _); refine dw_tup ?_) | ((with_reducible show List.length _ ≤ 100000 ∧ _); refine ⟨Nat.le_of_ble_eq_true rfl, ?_⟩)
  | (((with_reducible show (_ = true → _) ∧ (_ = false → _)); first | (refine ⟨fun _ => ?_, fun z => Bool.noConfusion (show true = false from z)⟩) | (refine ⟨fun z => Bool.noConfusion (show false = true from z), fun _ => ?_⟩)))
  | (((with_reducible show (_ = false → _) ∧ (_ = true → _)); first | (refine ⟨fun _ => ?_, fun z => Bool.noConfusion (show false = true from z)⟩) | (refine ⟨fun z => Bool.noConfusion (show true = false from z), fun _ => ?_⟩)))
  | (with_reducible refine dgs_nil ?_) | (with_reducible refine dgs_cons ?_))
local macro_rules | `(tactic| walk_at "d1") => `(tactic| first | walk_at "d0" | (with_reducible refine ds_if ?_) | (with_reducible refine dw_if ?_))
local macro_rules | `(tactic| walk_at "e") => `(tactic| ((try dsimp only [cxOf, Cx.nox, Cx.wish]); repeat (walk_at "d0")))
local macro_rules | `(tactic| walk_at "d") => `(tactic| ((try dsimp only [cxOf, Cx.nox, Cx.wish]); repeat (walk_at "d1")))

abbrev s__law_dice : Stmt := topS 34
abbrev N__law_dice : List Str := ["_law_script", "_law_spot", "_law_cell", "_law_left"]
abbrev P__law_dice : List Str := ["_law_script", "_law_spot"]
theorem sc__law_dice : FnScope N__law_dice P__law_dice (defScope s__law_dice) := ⟨rfl, rfl, rfl, by decide +kernel, rfl, by decide +kernel, by decide +kernel⟩
abbrev s__law_roll : Stmt := topS 35
abbrev N__law_roll : List Str := ["_law_dice_here", "_law_total", "_law_found", "_law_one", "_law_two"]
abbrev P__law_roll : List Str := ["_law_dice_here", "_law_total"]
theorem sc__law_roll : FnScope N__law_roll P__law_roll (defScope s__law_roll) := ⟨rfl, rfl, rfl, by decide +kernel, rfl, by decide +kernel, by decide +kernel⟩
abbrev s__law_pick : Stmt := topS 36
abbrev N__law_pick : List Str := ["_law_dice_here", "_law_items"]
abbrev P__law_pick : List Str := ["_law_dice_here", "_law_items"]
theorem sc__law_pick : FnScope N__law_pick P__law_pick (defScope s__law_pick) := ⟨rfl, rfl, rfl, by decide +kernel, rfl, by decide +kernel, by decide +kernel⟩
abbrev s__law_near : Stmt := topS 37
abbrev N__law_near : List Str := ["_law_dice_here", "_law_most"]
abbrev P__law_near : List Str := ["_law_dice_here", "_law_most"]
theorem sc__law_near : FnScope N__law_near P__law_near (defScope s__law_near) := ⟨rfl, rfl, rfl, by decide +kernel, rfl, by decide +kernel, by decide +kernel⟩
abbrev s__law_gcd : Stmt := topS 38
abbrev N__law_gcd : List Str := ["_law_one", "_law_other"]
abbrev P__law_gcd : List Str := ["_law_one", "_law_other"]
theorem sc__law_gcd : FnScope N__law_gcd P__law_gcd (defScope s__law_gcd) := ⟨rfl, rfl, rfl, by decide +kernel, rfl, by decide +kernel, by decide +kernel⟩
abbrev s__law_lowest : Stmt := topS 39
abbrev N__law_lowest : List Str := ["_law_top", "_law_bottom", "_law_part"]
abbrev P__law_lowest : List Str := ["_law_top", "_law_bottom"]
theorem sc__law_lowest : FnScope N__law_lowest P__law_lowest (defScope s__law_lowest) := ⟨rfl, rfl, rfl, by decide +kernel, rfl, by decide +kernel, by decide +kernel⟩
abbrev s__law_plus : Stmt := topS 40
abbrev N__law_plus : List Str := ["_law_one", "_law_other"]
abbrev P__law_plus : List Str := ["_law_one", "_law_other"]
theorem sc__law_plus : FnScope N__law_plus P__law_plus (defScope s__law_plus) := ⟨rfl, rfl, rfl, by decide +kernel, rfl, by decide +kernel, by decide +kernel⟩
abbrev s__law_times : Stmt := topS 41
abbrev N__law_times : List Str := ["_law_one", "_law_other"]
abbrev P__law_times : List Str := ["_law_one", "_law_other"]
theorem sc__law_times : FnScope N__law_times P__law_times (defScope s__law_times) := ⟨rfl, rfl, rfl, by decide +kernel, rfl, by decide +kernel, by decide +kernel⟩
abbrev s__law_choose : Stmt := topS 42
abbrev N__law_choose : List Str := ["_law_many", "_law_few", "_law_found", "_law_at"]
abbrev P__law_choose : List Str := ["_law_many", "_law_few"]
theorem sc__law_choose : FnScope N__law_choose P__law_choose (defScope s__law_choose) := ⟨rfl, rfl, rfl, by decide +kernel, rfl, by decide +kernel, by decide +kernel⟩
section
variable {P : Program} {w : World} {K : PySem.W.Frag} {mg : Str → Option Value} {base : Heap}
/-- the dice -/
abbrev dice (l s t : Int) : Ent := .lst [.int l, .int s, .int t]
def wRoll : SpW := fun es Φ => ∃ l s t n, es = [dice l s t, .val (.int n)] ∧ 0 ≤ l ∧ 0 < n ∧ B 1000 n ∧ ∀ r l' t', 0 ≤ r → r < n → 0 ≤ l' → Φ (.int r) [dice l' s t', .val (.int n)]
theorem fm {a n : Int} (h : 0 < n) : 0 ≤ a.fmod n ∧ a.fmod n < n := ⟨Int.fmod_nonneg_of_pos _ h, Int.fmod_lt_of_pos _ h⟩
theorem ok_roll (T : Txt K mg) (D : TD K mg "_law_roll" s__law_roll P__law_roll) : FnOk P w K mg base CX0 1 D.f D.fd P__law_roll (spD K 2 wRoll) := by
  refine fn_data D.F sc__law_roll rfl fun cdv A outer s H E hr => ?_
  refine ⟨_, (pss_cons (ps_if (pt_cmpR op_gt (pe_ix ix_seq (pv 0) pe_int (fun _ _ => rfl)) pe_int (nomark _)) (pss_cons (ps_set (i := 2) sc__law_roll.nd rfl (Or.inl rfl) (pe_op op_modN (pe_callTy call_int1 rfl T.n_int (by decide +kernel) (pa_cons (pe_ix ix_seq (pv 0) pe_int (fun _ _ => rfl)) pa_nil)) (pv 1))) (pss_cons (ps_asg (pe_op opA_fdiv (pe_ix ix_seq (pv 0) pe_int (fun _ _ => rfl)) (pv 1)) (pg_sub (pv 0) pe_int set_list)) (pss_one (ps_ret (pv 2))))) pss_nil) (pss_cons (ps_asg (pe_op opA_add (pe_ix ix_seq (pv 0) pe_int (fun _ _ => rfl)) pe_int) (pg_sub (pv 0) pe_int set_list)) (pss_cons (ps_set (i := 3) sc__law_roll.nd rfl (Or.inl rfl) (pe_op op_modN (pe_callTy call_int1 rfl T.n_int (by decide +kernel) (pa_cons (pe_op opA_add (pe_ix ix_seq (pv 0) pe_int (fun _ _ => rfl)) (pe_op opA_mul pe_int (pe_ix ix_seq (pv 0) pe_int (fun _ _ => rfl)))) pa_nil)) pe_int)) (pss_cons (ps_set (i := 4) sc__law_roll.nd rfl (Or.inl rfl) (pe_op opA_add (pe_op opA_mul (pe_op op_modN (pe_callTy call_int1 rfl T.n_int (by decide +kernel) (pa_cons (pe_op opA_add (pe_op opA_mul (pv 3) (pv 3)) (pe_op opA_mul pe_int (pe_ix ix_seq (pv 0) pe_int (fun _ _ => rfl)))) pa_nil)) pe_int) pe_int) (pv 3))) (pss_one (ps_ret (pe_op op_modN (pe_callTy call_int1 rfl T.n_int (by decide +kernel) (pa_cons (pe_op opA_fdiv (pv 4) pe_int) pa_nil)) (pv 1)))))))), ?_⟩
  rintro es Φ ⟨l, s, t, n, rfl, hl, hn, hB, k⟩ _
  have hn0 : n ≠ 0 := by omega
  have hd : ∀ i, CDivA i n := fun i => ⟨hn0, by
    have : n.natAbs.log2 < 1000 := (Nat.log2_lt (by omega)).mpr hB
    omega⟩
  walk_at "e"
  refine ds_if ?_
  walk_at "e"
  refine ⟨fun h => ?_, fun h => ?_⟩
  · have h : 0 < l := of_decide_eq_true h
    walk_at "e"
    refine rd_i hn0 ?_
    walk_at "e"
    refine rd_i (hd _) ⟨⟨_, rfl⟩, ?_⟩
    walk_at "e"
    refine ⟨0, _, rfl, rfl, by show (0 : Nat) < 3; decide, ?_⟩
    walk_at "e"
    exact k _ _ _ (fm hn).1 (fm hn).2 (Int.fdiv_nonneg hl (by omega))
  · walk_at "e"
    refine ⟨⟨_, rfl⟩, ?_⟩
    walk_at "e"
    refine ⟨2, _, rfl, rfl, by show (2 : Nat) < 3; decide, ?_⟩
    walk_at "e"
    refine rd_mulS (.inl (by decide)) ?_
    walk_at "e"
    refine rd_i (by decide) ?_
    walk_at "e"
    have h1 := fm (a := s + 86028157 * (t + 1)) (n := 2305843009213693669) (by decide)
    refine rd_mulS (.inl ⟨by omega, by omega⟩) ?_
    walk_at "e"
    refine rd_mulS (.inl (by decide)) ?_
    walk_at "e"
    refine rd_i (by decide) ?_
    walk_at "e"
    refine rd_mulS (.inr (by decide)) ?_
    walk_at "e"
    refine rd_i ⟨by decide, by decide⟩ ?_
    walk_at "e"
    refine rd_i hn0 ?_
    exact k _ _ _ (fm hn).1 (fm hn).2 hl
def wPick : SpW := fun es Φ => ∃ (l s t : Int) (ds : List PyData), es = [dice l s t, .val (.list ds)] ∧ 0 ≤ l ∧ 0 < ds.length ∧ ds.length < 1000 ∧ ∀ (i : Nat) (d : PyData) (l' t' : Int), ds[i]? = some d → 0 ≤ l' → Φ d [dice l' s t', .val (.list ds)]
theorem ok_pick (T : Txt K mg) (D : TD K mg "_law_pick" s__law_pick P__law_pick) (G__law_roll : Cal P w K mg base 1 "_law_roll" P__law_roll (spD K 2 wRoll)) : FnOk P w K mg base CX0 2 D.f D.fd P__law_pick (spD K 2 wPick) := by
  refine fn_data D.F sc__law_pick rfl fun cdv A outer s H E hr => ?_
  refine ⟨_, (pss_one (ps_ret (pe_ix ix_seq (pv 1) (pe_call G__law_roll.ok (hr.mono (by decide)) rfl G__law_roll.m G__law_roll.kp G__law_roll.b .nil pass0 (pa_cons (pv 0) (pa_cons (pe_callB call_lenA rfl T.n_len (by decide +kernel) (pa_cons (pv 1) pa_nil)) pa_nil))) (fun _ _ => rfl)))), ?_⟩
  rintro es Φ ⟨l, s, t, ds, rfl, hl, h0, h1, k⟩ _
  walk_at "e"
  refine ⟨rfl, _, rfl, l, s, t, _, rfl, hl, by omega, ?_, ?_⟩
  · unfold B
    have : ((ds.length : Nat) : Int).natAbs < 1000 := by omega
    exact Nat.lt_trans this (by decide)
  · intro r l' t' r0 r1 hl' ds2 rest e
    cases e
    obtain ⟨i, rfl⟩ : ∃ i : Nat, r = (i : Int) := ⟨r.toNat, by omega⟩
    have hi : i < ds.length := by omega
    exact rd_ixL (atI_nat (List.getElem?_eq_getElem hi)) (k i _ l' t' (List.getElem?_eq_getElem hi) hl')
def wNear : SpW := fun es Φ => ∃ l s t m, es = [dice l s t, .val (.int m)] ∧ 0 ≤ l ∧ 0 ≤ m ∧ B 900 m ∧ ∀ r l' t', -m ≤ r → r ≤ m → 0 ≤ l' → Φ (.int r) [dice l' s t', .val (.int m)]
theorem ok_near (T : Txt K mg) (D : TD K mg "_law_near" s__law_near P__law_near) (G__law_roll : Cal P w K mg base 1 "_law_roll" P__law_roll (spD K 2 wRoll)) : FnOk P w K mg base CX0 2 D.f D.fd P__law_near (spD K 2 wNear) := by
  refine fn_data D.F sc__law_near rfl fun cdv A outer s H E hr => ?_
  refine ⟨_, (pss_one (ps_ret (pe_op op_sub (pe_call G__law_roll.ok (hr.mono (by decide)) rfl G__law_roll.m G__law_roll.kp G__law_roll.b .nil pass0 (pa_cons (pv 0) (pa_cons (pe_op opA_add (pe_op opA_mul pe_int (pv 1)) pe_int) pa_nil))) (pv 1)))), ?_⟩
  rintro es Φ ⟨l, s, t, m, rfl, hl, h0, hB, k⟩ _
  walk_at "e"
  refine rd_mulS (.inl (by decide)) ?_
  walk_at "e"
  refine ⟨rfl, _, rfl, l, s, t, _, rfl, hl, by omega, ?_, ?_⟩
  · have b1 : B 901 (2 * m + 1) := by
      unfold B at hB ⊢
      rw [Nat.pow_succ]
      omega
    exact b1.mono (by decide)
  · intro r l' t' r0 r1 hl' ds2 rest e
    cases e
    walk_at "e"
    exact k (r - m) l' t' (by omega) (by omega) hl'
def wGcd : SpW := fun es Φ => ∃ a b : Int, es = [.val (.int a), .val (.int b)] ∧ Φ (.int ((Nat.gcd a.natAbs b.natAbs : Nat) : Int)) es
theorem abs_eq (a : Int) : (if a < 0 then -a else a) = (a.natAbs : Int) := by split <;> omega
theorem ok_gcd (T : Txt K mg) (D : TD K mg "_law_gcd" s__law_gcd P__law_gcd) : FnOk P w K mg base CX0 1 D.f D.fd P__law_gcd (spD K 2 wGcd) := by
  refine fn_data D.F sc__law_gcd rfl fun cdv A outer s H E hr => ?_
  refine ⟨_, (pss_cons (ps_par rfl sc__law_gcd.nd (i := 0) (j := 1) rfl rfl (by decide) rfl rfl (pa_cons (pe_callB call_abs rfl T.n_abs (by decide +kernel) (pa_cons (pv 0) pa_nil)) (pa_cons (pe_callB call_abs rfl T.n_abs (by decide +kernel) (pa_cons (pv 1) pa_nil)) pa_nil)) rfl) (pss_cons (ps_while PassesOwn.never (pt_cmpR op_gt (pv 1) pe_int (nomark _)) (pss_one (ps_par rfl sc__law_gcd.nd (i := 0) (j := 1) rfl rfl (by decide) rfl rfl (pa_cons (pv 1) (pa_cons (pe_op op_modN (pe_callTy call_int1 rfl T.n_int (by decide +kernel) (pa_cons (pv 0) pa_nil)) (pv 1)) pa_nil)) rfl))) (pss_one (ps_ret (pv 0))))), ?_⟩
  rintro es Φ ⟨a, b, rfl, k⟩ _
  walk_at "e"
  refine ds_par ?_
  walk_at "e"
  refine ⟨_, _, rfl, .inr (noLst_val rfl), .inr (noLst_val rfl), ?_⟩
  rw [abs_eq, abs_eq]
  walk_at "e"
  refine ds_while ⟨fun m ρ' => ∃ x y : Nat, Nat.gcd x y = Nat.gcd a.natAbs b.natAbs ∧ m = y ∧ ρ' = [some (.val (.int x)), some (.val (.int y))], ⟨_, _, _, rfl, rfl, rfl⟩, ?_⟩
  rintro m ρ' ⟨x, y, hg, hm, rfl⟩
  walk_at "e"
  refine ⟨fun h => ?_, fun h => ?_⟩
  · have h : (0 : Int) < y := of_decide_eq_true h
    refine ds_par ?_
    walk_at "e"
    refine rd_i (by omega) ?_
    walk_at "e"
    refine ⟨_, _, rfl, .inr (noLst_val rfl), .inr (noLst_val rfl), ?_⟩
    refine ⟨x % y, by rw [hm]; exact Nat.mod_lt _ (by omega), y, x % y, ?_, rfl, ?_⟩
    · rw [← hg, Nat.gcd_comm x y, Nat.gcd_rec y x, Nat.gcd_comm]
    · have e : ((x : Int)).fmod (y : Int) = ((x % y : Nat) : Int) := by
        rw [Int.fmod_eq_emod_of_nonneg _ (by omega)]
        rfl
      rw [e]
      rfl
  · have h : ¬ (0 : Int) < y := of_decide_eq_false h
    have e : y = 0 := by omega
    subst e
    rw [Nat.gcd_zero_right] at hg
    subst hg
    walk_at "e"
    exact k
theorem ok_lawlowest (T : Txt K mg) (D : TD K mg "_law_lowest" s__law_lowest P__law_lowest) (G__law_gcd : Cal P w K mg base 1 "_law_gcd" P__law_gcd (spD K 2 wGcd)) : FnOk P w K mg base CX0 2 D.f D.fd P__law_lowest (spD K 2 wReduced) := by
  refine fn_data D.F sc__law_lowest rfl fun cdv A outer s H E hr => ?_
  refine ⟨_, (pss_cons (ps_set (i := 2) sc__law_lowest.nd rfl (Or.inl rfl) (pe_call G__law_gcd.ok (hr.mono (by decide)) rfl G__law_gcd.m G__law_gcd.kp G__law_gcd.b .nil pass0 (pa_cons (pv 0) (pa_cons (pv 1) pa_nil)))) (pss_cons (ps_set (i := 2) sc__law_lowest.nd rfl (Or.inl rfl) (pe_ifExp (pt_cmpR op_gt (pv 1) pe_int (nomark _)) (pv 2) (pe_op op_sub pe_int (pv 2)))) (pss_one (ps_ret (pe_tup (pa_cons (pe_op opA_fdiv (pv 0) (pv 2)) (pa_cons (pe_op opA_fdiv (pv 1) (pv 2)) pa_nil))))))), ?_⟩
  rintro es Φ ⟨a, b, rfl, hb, hB, k⟩ _
  obtain ⟨g1, g2⟩ := gcd_ok (a := a) hb hB
  have g3 : CDivA b ((Nat.gcd a.natAbs b.natAbs : Nat) : Int) := ⟨g1.1, g1.2⟩
  have g4 : CDivA b (-((Nat.gcd a.natAbs b.natAbs : Nat) : Int)) := ⟨g2.1, g2.2⟩
  walk_at "e"
  refine ⟨rfl, _, _, rfl, ?_⟩
  walk_at "e"
  refine dw_if ?_
  walk_at "e"
  refine ⟨fun hc => ?_, fun hc => ?_⟩
  · have hc : 0 < b := of_decide_eq_true hc
    walk_at "e"
    refine rd_i g1 ?_
    walk_at "e"
    refine rd_i g3 ?_
    walk_at "e"
    have e : redI a b = (a.fdiv ((Nat.gcd a.natAbs b.natAbs : Nat) : Int), b.fdiv ((Nat.gcd a.natAbs b.natAbs : Nat) : Int)) := by
      unfold redI
      simp only [if_neg (show ¬ b < 0 by omega)]
    rw [e] at k
    exact k
  · have hc : ¬ 0 < b := of_decide_eq_false hc
    walk_at "e"
    rw [Int.zero_sub]
    refine rd_i g2 ?_
    walk_at "e"
    refine rd_i g4 ?_
    walk_at "e"
    have e : redI a b = (a.fdiv (-((Nat.gcd a.natAbs b.natAbs : Nat) : Int)), b.fdiv (-((Nat.gcd a.natAbs b.natAbs : Nat) : Int))) := by
      unfold redI
      simp only [if_pos (show b < 0 by omega)]
    rw [e] at k
    exact k
theorem ok_lawplus (D : TD K mg "_law_plus" s__law_plus P__law_plus) (G__law_lowest : Cal P w K mg base 2 "_law_lowest" P__law_lowest (spD K 2 wReduced)) : FnOk P w K mg base CX0 3 D.f D.fd P__law_plus (spD K 2 wAdded) := by
  refine fn_data D.F sc__law_plus rfl fun cdv A outer s H E hr => ?_
  refine ⟨_, (pss_one (ps_ret (pe_call G__law_lowest.ok (hr.mono (by decide)) rfl G__law_lowest.m G__law_lowest.kp G__law_lowest.b .nil pass0 (pa_cons (pe_op opA_add (pe_op opA_mul (pe_ix ix_seq (pv 0) pe_int (fun _ _ => rfl)) (pe_ix ix_seq (pv 1) pe_int (fun _ _ => rfl))) (pe_op opA_mul (pe_ix ix_seq (pv 1) pe_int (fun _ _ => rfl)) (pe_ix ix_seq (pv 0) pe_int (fun _ _ => rfl)))) (pa_cons (pe_op opA_mul (pe_ix ix_seq (pv 0) pe_int (fun _ _ => rfl)) (pe_ix ix_seq (pv 1) pe_int (fun _ _ => rfl))) pa_nil))))), ?_⟩
  rintro es Φ ⟨p, q, rfl, hp, hq, ⟨b1, b2, b3, b4⟩, k⟩ _
  walk_at "d"
  refine rd_mulI (b1.mw b4) ?_
  walk_at "d"
  refine rd_mulI (b3.mw b2) ?_
  walk_at "d"
  refine rd_mulI (b2.mw b4) ?_
  walk_at "d"
  exact ⟨rfl, _, _, rfl, mul_ne hp hq, (b2.mul b4).mono (by decide), k⟩
theorem ok_lawtimes (D : TD K mg "_law_times" s__law_times P__law_times) (G__law_lowest : Cal P w K mg base 2 "_law_lowest" P__law_lowest (spD K 2 wReduced)) : FnOk P w K mg base CX0 3 D.f D.fd P__law_times (spD K 2 wMultiplied) := by
  refine fn_data D.F sc__law_times rfl fun cdv A outer s H E hr => ?_
  refine ⟨_, (pss_one (ps_ret (pe_call G__law_lowest.ok (hr.mono (by decide)) rfl G__law_lowest.m G__law_lowest.kp G__law_lowest.b .nil pass0 (pa_cons (pe_op opA_mul (pe_ix ix_seq (pv 0) pe_int (fun _ _ => rfl)) (pe_ix ix_seq (pv 1) pe_int (fun _ _ => rfl))) (pa_cons (pe_op opA_mul (pe_ix ix_seq (pv 0) pe_int (fun _ _ => rfl)) (pe_ix ix_seq (pv 1) pe_int (fun _ _ => rfl))) pa_nil))))), ?_⟩
  rintro es Φ ⟨p, q, rfl, hp, hq, ⟨b1, b2, b3, b4⟩, k⟩ _
  walk_at "d"
  refine rd_mulI (b1.mw b3) ?_
  walk_at "d"
  refine rd_mulI (b2.mw b4) ?_
  walk_at "d"
  exact ⟨rfl, _, _, rfl, mul_ne hp hq, (b2.mul b4).mono (by decide), k⟩
def wChoose : SpW := fun es Φ => ∃ (m : Int) (f : Nat), es = [.val (.int m), .val (.int f)] ∧ (0 ≤ m ∧ m < 1000) ∧ f < 1000 ∧ Φ (.int (chM m f)) es
theorem ok_choose (T : Txt K mg) (D : TD K mg "_law_choose" s__law_choose P__law_choose) : FnOk P w K mg base CX0 1 D.f D.fd P__law_choose (spD K 2 wChoose) := by
  refine fn_data D.F sc__law_choose rfl fun cdv A outer s H E hr => ?_
  refine ⟨_, (pss_cons (ps_set (i := 2) sc__law_choose.nd rfl (Or.inl rfl) pe_int) (pss_cons (ps_for PassesOwn.never rfl (pi_range1 rfl T.n_range (pa_cons (pv 1) pa_nil)) (pg_name (i := 3) sc__law_choose.nd rfl (Or.inl rfl)) (pss_one (ps_set (i := 2) sc__law_choose.nd rfl (Or.inl rfl) (pe_op opA_fdiv (pe_op opA_mul (pv 2) (pe_op op_sub (pv 0) (pv 3))) (pe_op opA_add (pv 3) pe_int))))) (pss_one (ps_ret (pv 2))))), ?_⟩
  rintro es Φ ⟨m, f, rfl, hm, hf, k⟩ _
  walk_at "e"
  refine ds_for (di_rng1 ?_)
  walk_at "e"
  refine ⟨_, rfl, ⟨by omega, by omega⟩, fun i ρ' => ∃ a, ρ' = [some (.val (.int m)), some (.val (.int f)), some (.val (.int (chM m i))), a], ⟨_, rfl⟩, fun i d ρ' hd ⟨a, hρ⟩ => ?_, fun ρ' ⟨a, hρ⟩ => ?_⟩
  · obtain ⟨hi, rfl⟩ := rngD_get hd
    subst hρ
    walk_at "e"
    refine rd_mulS (.inr ⟨by omega, by omega⟩) ?_
    walk_at "e"
    refine rd_i ⟨by omega, ?_⟩ ?_
    · have : (0 + (i : Int) + 1).natAbs < 2000 := by omega
      have h0 : (0 + (i : Int) + 1).natAbs ≠ 0 := by omega
      have := (Nat.log2_lt h0).mpr (Nat.lt_trans this (show 2000 < 2 ^ 11 by decide))
      omega
    · rw [Int.zero_add]
      walk_at "e"
      exact ⟨_, rfl⟩
  · rw [rngD_len, Int.toNat_natCast] at hρ
    subst hρ
    walk_at "e"
    exact k
end
end K00
namespace K00
open PySem L2 PySem.Spec PyProof.Rows DL
local macro_rules | `(tactic| walk_at "d0") => `(tactic| first
  | (with_reducible refine ds_seq ?_) | (with_reducible refine ds_next ?_) | (with_reducible refine ds_ret ?_) | (with_reducible refine ds_drop ?_) | (with_reducible refine ds_setO ?_) | (with_reducible refine ds_asg ?_)
  | ((with_reducible show DW _ _ (tOp (rIx _) (tVar _) (tC (.int _))) _ _); refine dw_ixO rfl (dw_int ⟨_, _, _, rfl, rfl, rfl, ?_⟩))
  | ((with_reducible show DW _ _ (tOp (rIx _) (tVar _) _) _ _); refine dw_ixO rfl ?_)
  | (with_reducible refine dw_lst ?_)
  | (with_reducible refine dw_isi ?_) | (with_reducible refine dw_op ?_) | (with_reducible refine dw_un ?_) | (with_reducible refine dw_int ?_) | (with_reducible refine dw_bl ?_) | (with_reducible refine dw_str ?_) | (with_reducible refine dw_non ?_)
  | ((with_reducible show DW _ _ (tVar _) _ _); refine dw_var rfl ?_)
  | (with_reducible refine dw_andV ?_) | (with_reducible refine dw_orV ?_) | (with_reducible refine dw_notV ?_) | (with_reducible refine dw_tup ?_) | (with_reducible refine dw_chain ?_)
  | (with_reducible refine da_nil ?_) | (with_reducible refine da_cons ?_)
  | (with_reducible refine dt_test ?_) | (with_reducible refine dt_B ?_) | (with_reducible refine dt_and ?_) | (with_reducible refine dt_or ?_) | (with_reducible refine dt_not ?_) | (with_reducible refine dt_yes ?_)
  | ((with_reducible show DW _ _ (tCall _ _ _ (tCons (tVar _) _)) _ _); refine dw_callO rfl ?_)
  | (with_reducible refine dw_call ?_) | (with_reducible refine dw_fresh (df_call ?_)) | (with_reducible refine dw_cb ?_)
  | (with_reducible refine rd_addI ?_) | (with_reducible refine rd_i0 ?_) | (with_reducible refine rd_b0 ?_) | (with_reducible refine ru_i ?_) | (with_reducible refine rc_int ?_) | (with_reducible refine rc_intB ?_) | (with_reducible refine rc_abs ?_) | (with_reducible refine rc_max ?_) | (with_reducible refine rc_min ?_) | (with_reducible refine rc_gcd ?_) | (with_reducible refine rc_lenL ?_) | (with_reducible refine rc_lenT ?_)
  | ((with_reducible show RD (rIx _) _ (.tuple _) _ _); refine rd_ixT rfl ?_) | ((with_reducible show RD (rIx _) _ (.list _) _ _); refine rd_ixL rfl ?_)
  | ((with_reducible refine dg_name ?hj ?_); (case hj => first | exact .inl (by decide) | exact .inr (noLst_val rfl) | exact .inr (noLst_none rfl)))
  | ((with_reducible show ∃ b, PyData.bool _ = PyData.bool b ∧ _); refine ⟨_, rfl, ?_⟩)
  | ((with_reducible show RD (rEqA _) _ (.int _) (.int _) _); refine rd_eq rfl rfl ?_) | ((with_reducible show RD (rNeA _) _ (.int _) (.int _) _); refine rd_ne rfl rfl ?_)
  | ((with_reducible show DW _ _ (tTup _) _ _); refine dw_tup ?_) | ((with_reducible show List.length _ ≤ 100000 ∧ _); refine ⟨Nat.le_of_ble_eq_true rfl, ?_⟩)
  | (((with_reducible show (_ = true → _) ∧ (_ = false → _)); first | (refine ⟨fun _ => ?_, fun z => Bool.noConfusion (show true = false from z)⟩) | (refine ⟨fun z => Bool.noConfusion (show false = true from z), fun _ => ?_⟩)))
  | (((with_reducible show (_ = false → _) ∧ (_ = true → _)); first | (refine ⟨fun _ => ?_, fun z => Bool.noConfusion (show false = true from z)⟩) | (refine ⟨fun z => Bool.noConfusion (show true = false from z), fun _ => ?_⟩)))
  | (with_reducible refine dgs_nil ?_) | (with_reducible refine dgs_cons ?_))
local macro_rules | `(tactic| walk_at "d1") => `(tactic| first | walk_at "d0" | (with_reducible refine ds_if ?_) | (with_reducible refine dw_if ?_))
local macro_rules | `(tactic| walk_at "e") => `(tactic| ((try dsimp only [cxOf, Cx.nox, Cx.wish]); repeat (walk_at "d0")))
local macro_rules | `(tactic| walk_at "d") => `(tactic| ((try dsimp only [cxOf, Cx.nox, Cx.wish]); repeat (walk_at "d1")))

abbrev s__law_bernoulli : Stmt := topS 43
abbrev N__law_bernoulli : List Str := ["_law_most", "_law_found", "_law_number", "_law_total", "_law_less"]
abbrev P__law_bernoulli : List Str := ["_law_most"]
theorem sc__law_bernoulli : FnScope N__law_bernoulli P__law_bernoulli (defScope s__law_bernoulli) := ⟨rfl, rfl, rfl, by decide +kernel, rfl, by decide +kernel, by decide +kernel⟩
abbrev s__law_ratio_drawn : Stmt := topS 44
abbrev N__law_ratio_drawn : List Str := ["_law_dice_here", "_law_most"]
abbrev P__law_ratio_drawn : List Str := ["_law_dice_here"]
theorem sc__law_ratio_drawn : FnScope N__law_ratio_drawn P__law_ratio_drawn (defScope s__law_ratio_drawn) := ⟨rfl, rfl, rfl, by decide +kernel, rfl, by decide +kernel, by decide +kernel⟩
abbrev s__law_text_of : Stmt := topS 45
abbrev N__law_text_of : List Str := ["_law_ratio"]
abbrev P__law_text_of : List Str := ["_law_ratio"]
theorem sc__law_text_of : FnScope N__law_text_of P__law_text_of (defScope s__law_text_of) := ⟨rfl, rfl, rfl, by decide +kernel, rfl, by decide +kernel, by decide +kernel⟩
section
variable {P : Program} {w : World} {K : PySem.W.Frag} {mg : Str → Option Value} {base : Heap}
theorem lb_facts {k i : Nat} (hk : k < 25) (hi : i < 25) (hik : i ≤ k + 1) : Ok1 (bT i) ∧ Ok1 (lbS k i) ∧ Ok1 (lbT k i) ∧ B 300 (chM ((k : Int) + 1) i) := by
  have h := lb_chk k hk i hi hik
  unfold lbChk at h
  rw [Bool.and_eq_true, Bool.and_eq_true, Bool.and_eq_true] at h
  exact ⟨ok1_of h.1, ok1_of h.2.1, ok1_of h.2.2.1, by have := h.2.2.2; rw [decide_eq_true_eq] at this; exact this⟩
def wLB : SfW := fun es Ψ => ∃ k : Nat, es = [.val (.int k)] ∧ 1 ≤ k ∧ k < 25 ∧ Ψ (bL (k + 1)) es
theorem Bone : B 300 1 := by unfold B; decide
theorem ok_lawbernoulli (T : Txt K mg) (D : TD K mg "_law_bernoulli" s__law_bernoulli P__law_bernoulli) (G__law_lowest : Cal P w K mg base 2 "_law_lowest" P__law_lowest (spD K 2 wReduced))
    (G__law_plus : Cal P w K mg base 3 "_law_plus" P__law_plus (spD K 2 wAdded)) (G__law_times : Cal P w K mg base 3 "_law_times" P__law_times (spD K 2 wMultiplied)) (G__law_choose : Cal P w K mg base 1 "_law_choose" P__law_choose (spD K 2 wChoose)) :
    FnOk P w K mg base CX0 4 D.f D.fd P__law_bernoulli (spF K 1 wLB) := by
  refine fn_dataF D.F sc__law_bernoulli rfl fun cdv A outer s H E hr => ?_
  refine ⟨_, (pss_cons (ps_set (i := 1) sc__law_bernoulli.nd rfl (Or.inl rfl) (pe_lst (pa_cons (pe_tup (pa_cons pe_int (pa_cons pe_int pa_nil))) pa_nil))) (pss_cons (ps_for PassesOwn.never rfl (pi_range2 rfl T.n_range (pa_cons pe_int (pa_cons (pe_op opA_add (pv 0) pe_int) pa_nil))) (pg_name (i := 2) sc__law_bernoulli.nd rfl (Or.inl rfl)) (pss_cons (ps_set (i := 3) sc__law_bernoulli.nd rfl (Or.inl rfl) (pe_tup (pa_cons pe_int (pa_cons pe_int pa_nil)))) (pss_cons (ps_for PassesOwn.never rfl (pi_range1 rfl T.n_range (pa_cons (pv 2) pa_nil)) (pg_name (i := 4) sc__law_bernoulli.nd rfl (Or.inl rfl)) (pss_one (ps_set (i := 3) sc__law_bernoulli.nd rfl (Or.inl rfl) (pe_call G__law_plus.ok (hr.mono (by decide)) rfl G__law_plus.m G__law_plus.kp G__law_plus.b .nil pass0 (pa_cons (pv 3) (pa_cons (pe_call G__law_times.ok (hr.mono (by decide)) rfl G__law_times.m G__law_times.kp G__law_times.b .nil pass0 (pa_cons (pe_tup (pa_cons (pe_call G__law_choose.ok (hr.mono (by decide)) rfl G__law_choose.m G__law_choose.kp G__law_choose.b .nil pass0 (pa_cons (pe_op opA_add (pv 2) pe_int) (pa_cons (pv 4) pa_nil))) (pa_cons pe_int pa_nil))) (pa_cons (pe_ix ix_seq (pv 1) (pv 4) (fun _ _ => rfl)) pa_nil))) pa_nil)))))) (pss_one (ps_expr (pe_bm PySem.F.plainAttrs_list PySem.F.slot_list_append PySem.F.type_list_append mt_append (pv 1) (pa_cons (pe_call G__law_times.ok (hr.mono (by decide)) rfl G__law_times.m G__law_times.kp G__law_times.b .nil pass0 (pa_cons (pv 3) (pa_cons (pe_call G__law_lowest.ok (hr.mono (by decide)) rfl G__law_lowest.m G__law_lowest.kp G__law_lowest.b .nil pass0 (pa_cons (pe_un un_neg pe_int) (pa_cons (pe_op opA_add (pv 2) pe_int) pa_nil))) pa_nil))) pa_nil))))))) (pss_one (ps_ret (pv 1))))), ?_⟩
  rintro es Φ ⟨k, rfl, h1, h25, kk⟩ _
  try dsimp only [cxOf, Cx.nox, Cx.wish]
  refine ds_seq (ds_asgF (df_lst ?_))
  walk_at "e"
  refine ⟨by decide, ?_⟩
  refine ds_seq (ds_for (di_rng2 ?_))
  walk_at "e"
  refine ⟨_, _, rfl, ⟨by omega, by omega, by omega, by omega⟩, fun i ρ' => ∃ a b c, ρ' = [some (.val (.int k)), some (.lst (bL (i + 1))), a, b, c], ⟨_, _, _, rfl⟩, fun i d ρ' hd ⟨a, b, c, hρ⟩ => ?_, fun ρ' ⟨a, b, c, hρ⟩ => ?_⟩
  · obtain ⟨hi, rfl⟩ := rngD_get hd
    have hi : i < k := by omega
    subst hρ
    rw [show ((1 : Int) + (i : Int)) = ((i + 1 : Nat) : Int) by omega]
    walk_at "e"
    refine ds_for (di_rng1 ?_)
    walk_at "e"
    refine ⟨_, rfl, ⟨by omega, by omega⟩, fun j ρ' => ∃ c, ρ' = [some (.val (.int k)), some (.lst (bL (i + 1))), some (.val (.int ((i + 1 : Nat) : Int))), some (.val (rat (lbT (i + 1) j))), c], ⟨_, rfl⟩, fun j d ρ' hd ⟨c, hρ⟩ => ?_, fun ρ' ⟨c, hρ⟩ => ?_⟩
    · obtain ⟨hj, rfl⟩ := rngD_get hd
      have hj : j < i + 1 := by omega
      subst hρ
      obtain ⟨f1, f2, f3, f4⟩ := lb_facts (k := i + 1) (i := j) (by omega) (by omega) (by omega)
      rw [Int.zero_add]
      walk_at "e"
      refine ⟨rfl, ((i + 1 : Nat) : Int) + 1, j, rfl, ⟨by omega, by omega⟩, by omega, ?_⟩
      walk_at "e"
      refine ⟨_, _, rat (bT j), rfl, rfl, ?_, ?_⟩
      · exact atI_nat (bL_get (by omega) hj)
      walk_at "e"
      refine ⟨rfl, (chM (((i + 1 : Nat) : Int) + 1) j, 1), bT j, rfl, by show (0 : Int) < 1; decide, f1.pos, ⟨f4, Bone, f1.b1, f1.b2⟩, ?_⟩
      walk_at "e"
      refine ⟨rfl, _, lbS (i + 1) j, rfl, f3.pos, f2.pos, ⟨f3.b1, f3.b2, f2.b1, f2.b2⟩, ?_⟩
      walk_at "e"
      exact ⟨_, rfl⟩
    · rw [rngD_len, Int.toNat_natCast] at hρ
      subst hρ
      obtain ⟨f1, f2, f3, f4⟩ := lb_facts (k := i + 1) (i := i + 1) (by omega) (by omega) (by omega)
      refine ds_app rfl ?_
      walk_at "e"
      have b2 : B 300 (((i + 1 : Nat) : Int) + 1) := by
        unfold B
        have : (((i + 1 : Nat) : Int) + 1).natAbs < 30 := by omega
        exact Nat.lt_trans this (by decide)
      refine ⟨rfl, _, _, rfl, by omega, b2.mono (by decide), ?_⟩
      walk_at "e"
      have h0 : ((i + 1 : Nat) : Int) + 1 ≠ 0 := by omega
      have q := redI_le (a := -1) h0
      refine ⟨rfl, _, _, rfl, f3.pos, (redI_ratP h0).1, ⟨f3.b1, f3.b2, Nat.lt_of_le_of_lt q.1 (by decide), Nat.lt_of_le_of_lt q.2 b2⟩, _, rfl, ?_, ?_⟩
      · rw [bL_len (by omega)]; omega
      · rw [lb_fin (i + 1) (by omega) (by omega), bL_snoc (by omega)]
        exact ⟨_, _, _, rfl⟩
  · rw [rngD_len] at hρ
    have e : ((k : Int) + 1 - 1).toNat = k := by omega
    rw [e] at hρ
    subst hρ
    refine ds_retO rfl (by decide) ?_
    exact kk
/-- a drawn ratio -/
structure Drawn (p : Int × Int) : Prop where
  ok : RatP p
  top : p.1.natAbs ≤ 10 ^ 20
  bot : p.2.natAbs ≤ 10 ^ 15
def wDrawn : SpW := fun es Φ => ∃ l s t, es = [dice l s t] ∧ 0 ≤ l ∧ ∀ p l' t', Drawn p → 0 ≤ l' → Φ (rat p) [dice l' s t']
theorem ok_drawn (T : Txt K mg) (D : TD K mg "_law_ratio_drawn" s__law_ratio_drawn P__law_ratio_drawn) (G__law_roll : Cal P w K mg base 1 "_law_roll" P__law_roll (spD K 2 wRoll)) (G__law_pick : Cal P w K mg base 2 "_law_pick" P__law_pick (spD K 2 wPick))
    (G__law_near : Cal P w K mg base 2 "_law_near" P__law_near (spD K 2 wNear)) (G__law_lowest : Cal P w K mg base 2 "_law_lowest" P__law_lowest (spD K 2 wReduced)) : FnOk P w K mg base CX0 3 D.f D.fd P__law_ratio_drawn (spD K 1 wDrawn) := by
  refine fn_data D.F sc__law_ratio_drawn rfl fun cdv A outer s H E hr => ?_
  refine ⟨_, (pss_cons (ps_set (i := 1) sc__law_ratio_drawn.nd rfl (Or.inl rfl) (pe_call G__law_pick.ok (hr.mono (by decide)) rfl G__law_pick.m G__law_pick.kp G__law_pick.b .nil pass0 (pa_cons (pv 0) (pa_cons (pe_lst (pa_cons pe_int (pa_cons pe_int (pa_cons pe_int (pa_cons pe_int (pa_cons (pe_op op_pow pe_int pe_int) pa_nil)))))) pa_nil)))) (pss_one (ps_ret (pe_call G__law_lowest.ok (hr.mono (by decide)) rfl G__law_lowest.m G__law_lowest.kp G__law_lowest.b .nil pass0 (pa_cons (pe_call G__law_near.ok (hr.mono (by decide)) rfl G__law_near.m G__law_near.kp G__law_near.b .nil pass0 (pa_cons (pv 0) (pa_cons (pv 1) pa_nil))) (pa_cons (pe_op opA_add pe_int (pe_call G__law_roll.ok (hr.mono (by decide)) rfl G__law_roll.m G__law_roll.kp G__law_roll.b .nil pass0 (pa_cons (pv 0) (pa_cons (pe_call G__law_pick.ok (hr.mono (by decide)) rfl G__law_pick.m G__law_pick.kp G__law_pick.b .nil pass0 (pa_cons (pv 0) (pa_cons (pe_lst (pa_cons pe_int (pa_cons pe_int (pa_cons pe_int (pa_cons pe_int (pa_cons (pe_op op_pow pe_int pe_int) pa_nil)))))) pa_nil))) pa_nil)))) pa_nil)))))), ?_⟩
  rintro es Φ ⟨l, s, t, rfl, hl, k⟩ _
  walk_at "e"
  refine rd_i ⟨by decide, by decide, by decide⟩ ?_
  walk_at "e"
  refine ⟨rfl, _, rfl, l, s, t, _, rfl, hl, by decide, by decide, ?_⟩
  intro i d l1 t1 hd hl1 ds2 rest e
  cases e
  -- the most of the top
  obtain ⟨m, rfl, hm⟩ : ∃ m : Int, d = .int m ∧ (2 ≤ m ∧ m ≤ 10 ^ 20) := by
    match i, hd with
    | 0, hd => exact ⟨2, (Option.some.inj hd).symm, by decide⟩
    | 1, hd => exact ⟨5, (Option.some.inj hd).symm, by decide⟩
    | 2, hd => exact ⟨30, (Option.some.inj hd).symm, by decide⟩
    | 3, hd => exact ⟨30, (Option.some.inj hd).symm, by decide⟩
    | 4, hd => exact ⟨10 ^ 20, (Option.some.inj hd).symm, by decide⟩
    | i + 5, hd => exact nomatch hd
  walk_at "e"
  refine ⟨rfl, _, rfl, l1, s, t1, m, rfl, hl1, by omega, ?_, ?_⟩
  · unfold B
    have : m.natAbs ≤ 10 ^ 20 := by omega
    exact Nat.lt_of_le_of_lt this (by decide)
  intro r l2 t2 r1 r2 hl2 ds2 rest e
  cases e
  walk_at "e"
  refine rd_i ⟨by decide, by decide, by decide⟩ ?_
  walk_at "e"
  refine ⟨rfl, _, rfl, l2, s, t2, _, rfl, hl2, by decide, by decide, ?_⟩
  intro i d l3 t3 hd hl3 ds2 rest e
  cases e
  obtain ⟨n, rfl, hn⟩ : ∃ n : Int, d = .int n ∧ (1 ≤ n ∧ n ≤ 10 ^ 15) := by
    match i, hd with
    | 0, hd => exact ⟨1, (Option.some.inj hd).symm, by decide⟩
    | 1, hd => exact ⟨2, (Option.some.inj hd).symm, by decide⟩
    | 2, hd => exact ⟨6, (Option.some.inj hd).symm, by decide⟩
    | 3, hd => exact ⟨6, (Option.some.inj hd).symm, by decide⟩
    | 4, hd => exact ⟨10 ^ 15, (Option.some.inj hd).symm, by decide⟩
    | i + 5, hd => exact nomatch hd
  walk_at "e"
  refine ⟨rfl, _, rfl, l3, s, t3, n, rfl, hl3, by omega, ?_, ?_⟩
  · unfold B
    have : n.natAbs ≤ 10 ^ 15 := by omega
    exact Nat.lt_of_le_of_lt this (by decide)
  intro b l4 t4 b1 b2 hl4 ds2 rest e
  cases e
  walk_at "e"
  have hb0 : (1 + b) ≠ 0 := by omega
  refine ⟨rfl, r, 1 + b, rfl, hb0, ?_, ?_⟩
  · unfold B
    have : (1 + b).natAbs ≤ 10 ^ 15 := by omega
    exact Nat.lt_of_le_of_lt this (by decide)
  have q := redI_le (a := r) hb0
  exact k (redI r (1 + b)) l4 t4 ⟨redI_ratP hb0, by omega, by omega⟩ hl4
def wTextOf : SpW := fun es Φ => ∃ p, es = [.val (rat p)] ∧ p.1.natAbs < 10 ^ 60 ∧ p.2.natAbs < 10 ^ 60 ∧ Φ (.str (textR p)) es
theorem ok_text_of (T : Txt K mg) (D : TD K mg "_law_text_of" s__law_text_of P__law_text_of) : FnOk P w K mg base CX0 1 D.f D.fd P__law_text_of (spD K 1 wTextOf) := by
  refine fn_data D.F sc__law_text_of rfl fun cdv A outer s H E hr => ?_
  have hu := hr.units
  refine ⟨_, (pss_one (ps_ret (pe_op opA_add (pe_callTy call_str_int rfl T.n_str (by decide +kernel) (pa_cons (pe_ix ix_seq (pv 0) pe_int (fun _ _ => rfl)) pa_nil)) (pe_ifExp (pt_cmpR (opA_eq hu) (pe_ix ix_seq (pv 0) pe_int (fun _ _ => rfl)) pe_int (nomark _)) pe_str (pe_op opA_add pe_str (pe_callTy call_str_int rfl T.n_str (by decide +kernel) (pa_cons (pe_ix ix_seq (pv 0) pe_int (fun _ _ => rfl)) pa_nil))))))), ?_⟩
  rintro es Φ ⟨p, rfl, h1, h2, k⟩ _
  have l1 := len60 h1
  have l2 := len60 h2
  have ls : (Str.ofString "/").length = 1 := by decide +kernel
  walk_at "e"
  refine rc_str (log60 h1) ?_
  walk_at "e"
  refine dw_if ?_
  walk_at "e"
  refine ⟨fun h => ?_, fun h => ?_⟩
  · have e : textR p = Str.ofString (toString p.1) := by
      unfold textR
      rw [if_pos (by simpa [PyData.eqv] using h)]
    rw [e] at k
    walk_at "e"
    refine rd_addS (by have : (Str.ofString "").length = 0 := by decide +kernel
                       omega) ?_
    have e0 : Str.ofString "" = Str.empty := by decide +kernel
    rw [e0, Str.append_empty]
    exact k
  · have e : textR p = Str.ofString (toString p.1) ++ (Str.ofString "/" ++ Str.ofString (toString p.2)) := by
      unfold textR
      rw [if_neg (by simpa [PyData.eqv] using h)]
    rw [e] at k
    walk_at "e"
    refine rc_str (log60 h2) ?_
    refine rd_addS (by rw [ls]; omega) ?_
    refine rd_addS (by rw [str_len_append, ls]; omega) ?_
    exact k
end
end K00
namespace K00
open PySem L2 PySem.Spec PyProof.Rows DL
local macro_rules | `(tactic| walk_at "d0") => `(tactic| first
  | (with_reducible refine ds_seq ?_) | (with_reducible refine ds_next ?_) | (with_reducible refine ds_ret ?_) | (with_reducible refine ds_drop ?_) | (with_reducible refine ds_setO ?_) | (with_reducible refine ds_asg ?_)
  | ((with_reducible show DW _ _ (tOp (rIx _) (tVar _) (tC (.int _))) _ _); refine dw_ixO rfl (dw_int ⟨_, _, _, rfl, rfl, rfl, ?_⟩))
  | ((with_reducible show DW _ _ (tOp (rIx _) (tVar _) _) _ _); refine dw_ixO rfl ?_)
  | (with_reducible refine dw_lst ?_)
  | (with_reducible refine dw_isi ?_) | (with_reducible refine dw_op ?_) | (with_reducible refine dw_un ?_) | (with_reducible refine dw_int ?_) | (with_reducible refine dw_bl ?_) | (with_reducible refine dw_str ?_) | (with_reducible refine dw_non ?_)
  | ((with_reducible show DW _ _ (tVar _) _ _); refine dw_var rfl ?_)
  | (with_reducible refine dw_andV ?_) | (with_reducible refine dw_orV ?_) | (with_reducible refine dw_notV ?_) | (with_reducible refine dw_tup ?_) | (with_reducible refine dw_chain ?_)
  | (with_reducible refine da_nil ?_) | (with_reducible refine da_cons ?_)
  | (with_reducible refine dt_test ?_) | (with_reducible refine dt_B ?_) | (with_reducible refine dt_and ?_) | (with_reducible refine dt_or ?_) | (with_reducible refine dt_not ?_) | (with_reducible refine dt_yes ?_)
  | ((with_reducible show DW _ _ (tCall _ _ _ (tCons (tVar _) _)) _ _); refine dw_callO rfl ?_)
  | (with_reducible refine dw_call ?_) | (with_reducible refine dw_fresh (df_call ?_)) | (with_reducible refine dw_cb ?_)
  | (with_reducible refine rd_addI ?_) | (with_reducible refine rd_i0 ?_) | (with_reducible refine rd_b0 ?_) | (with_reducible refine ru_i ?_) | (with_reducible refine rc_int ?_) | (with_reducible refine rc_intB ?_) | (with_reducible refine rc_abs ?_) | (with_reducible refine rc_max ?_) | (with_reducible refine rc_min ?_) | (with_reducible refine rc_gcd ?_) | (with_reducible refine rc_lenL ?_) | (with_reducible refine rc_lenT ?_)
  | ((with_reducible show RD (rIx _) _ (.tuple _) _ _); refine rd_ixT rfl ?_) | ((with_reducible show RD (rIx _) _ (.list _) _ _); refine rd_ixL rfl ?_)
  | ((with_reducible refine dg_name ?hj ?_); (case hj => first | exact .inl (by decide) | exact .inr (noLst_val rfl) | exact .inr (noLst_none rfl)))
  | ((with_reducible show ∃ b, PyData.bool _ = PyData.bool b ∧ _); refine ⟨_, rfl, ?_⟩)
  | ((with_reducible show RD (rEqA _) _ (.int _) (.int _) _); refine rd_eq rfl rfl ?_) | ((with_reducible show RD (rNeA _) _ (.int _) (.int _) _); refine rd_ne rfl rfl ?_)
  | ((with_reducible show DW _ _ (tTup _) _ _); refine dw_tup ?_) | ((with_reducible show List.length _ ≤ 100000 ∧ _); refine ⟨Nat.le_of_ble_eq_true rfl, ?_⟩)
  | (((with_reducible show (_ = true → _) ∧ (_ = false → _)); first | (refine ⟨fun _ => ?_, fun z => Bool.noConfusion (show true = false from z)⟩) | (refine ⟨fun z => Bool.noConfusion (show false = true from z), fun _ => ?_⟩)))
  | (((with_reducible show (_ = false → _) ∧ (_ = true → _)); first | (refine ⟨fun _ => ?_, fun z => Bool.noConfusion (show false = true from z)⟩) | (refine ⟨fun z => Bool.noConfusion (show true = false from z), fun _ => ?_⟩)))
  | (with_reducible refine dgs_nil ?_) | (with_reducible refine dgs_cons ?_))
local macro_rules | `(tactic| walk_at "d1") => `(tactic| first | walk_at "d0" | (with_reducible refine ds_if ?_) | (with_reducible refine dw_if ?_))
local macro_rules | `(tactic| walk_at "e") => `(tactic| ((try dsimp only [cxOf, Cx.nox, Cx.wish]); repeat (walk_at "d0")))
local macro_rules | `(tactic| walk_at "d") => `(tactic| ((try dsimp only [cxOf, Cx.nox, Cx.wish]); repeat (walk_at "d1")))

abbrev s__law_two_right : Stmt := topS 46
abbrev N__law_two_right : List Str := ["_law_one", "_law_other", "_law_total", "_law_product", "_law_due", "_law_left", "_law_right_here"]
abbrev P__law_two_right : List Str := ["_law_one", "_law_other"]
theorem sc__law_two_right : FnScope N__law_two_right P__law_two_right (defScope s__law_two_right) := ⟨rfl, rfl, rfl, by decide +kernel, rfl, by decide +kernel, by decide +kernel⟩

section
variable {P : Program} {w : World} {K : PySem.W.Frag} {mg : Str → Option Value} {base : Heap}
theorem Drawn.rok {p : Int × Int} (h : Drawn p) : RatOk p := ⟨h.ok, Nat.lt_of_le_of_lt h.top (by decide), Nat.lt_of_le_of_lt h.bot (by decide)⟩
theorem abs_mul_le {a b : Int} {x y : Nat} (ha : a.natAbs ≤ x) (hb : b.natAbs ≤ y) : (a * b).natAbs ≤ x * y := by
  rw [Int.natAbs_mul]
  exact Nat.mul_le_mul ha hb
theorem add_ok {p q : Int × Int} (hp : Drawn p) (hq : Drawn q) : RatOk (addR p q) := by
  have h0 : p.2 * q.2 ≠ 0 := mul_ne hp.ok.1 hq.ok.1
  have qq := redI_le (a := p.1 * q.2 + q.1 * p.2) h0
  have b1 := abs_mul_le hp.top hq.bot
  have b2 := abs_mul_le hq.top hp.bot
  have b3 := abs_mul_le hp.bot hq.bot
  refine ⟨redI_ratP h0, ?_, ?_⟩
  · refine Nat.lt_of_le_of_lt qq.1 ?_
    have := Int.natAbs_add_le (p.1 * q.2) (q.1 * p.2)
    omega
  · exact Nat.lt_of_le_of_lt qq.2 (by omega)
theorem mul_ok {p q : Int × Int} (hp : Drawn p) (hq : Drawn q) : RatOk (mulR p q) := by
  have h0 : p.2 * q.2 ≠ 0 := mul_ne hp.ok.1 hq.ok.1
  have qq := redI_le (a := p.1 * q.1) h0
  have b1 := abs_mul_le hp.top hq.top
  have b3 := abs_mul_le hp.bot hq.bot
  refine ⟨redI_ratP h0, ?_, ?_⟩
  · exact Nat.lt_of_le_of_lt qq.1 (by omega)
  · exact Nat.lt_of_le_of_lt qq.2 (by omega)
theorem eqv_int (i : Int) : PyData.eqv (.int i) (.int i) = true := by
  show (i == i) = true
  simp
theorem cmp_swap (p q : Int × Int) : cmpR q p = 0 - cmpR p q := by
  unfold cmpR
  have e : q.1 * p.2 - p.1 * q.2 = -(p.1 * q.2 - q.1 * p.2) := by omega
  rw [e]
  generalize p.1 * q.2 - q.1 * p.2 = x
  repeat' split
  all_goals omega
theorem cmp_told (p q : Int × Int) : cmpR p q = (if decide (q.1 * p.2 < p.1 * q.2) = true then 1 else 0) - (if decide (p.1 * q.2 < q.1 * p.2) = true then 1 else 0) := by
  unfold cmpR
  simp only [decide_eq_true_eq]
  repeat' split
  all_goals omega
def wTwo : SpW := fun es Φ => ∃ p q, es = [.val (rat p), .val (rat q)] ∧ Drawn p ∧ Drawn q ∧ Φ (.bool true) es
theorem ok_two (T : Txt K mg) (D : TD K mg "_law_two_right" s__law_two_right P__law_two_right)
    (G_is_ratio : Cal P w K mg base 3 "is_ratio" P_is_ratio (spD K 1 wIsRatio)) (G_ratio_text : Cal P w K mg base 5 "ratio_text" P_ratio_text (spD K 1 wRatioText)) (G__law_text_of : Cal P w K mg base 1 "_law_text_of" P__law_text_of (spD K 1 wTextOf))
    (G_compare : Cal P w K mg base 6 "compare" P_compare (spD K 2 wCompare)) (G_over : Cal P w K mg base 6 "over" P_over (spD K 2 wOver)) (G__law_lowest : Cal P w K mg base 2 "_law_lowest" P__law_lowest (spD K 2 wReduced))
    (G_times : Cal P w K mg base 6 "times" P_times (spD K 2 wTimes)) (G_minus : Cal P w K mg base 6 "minus" P_minus (spD K 2 wMinus)) (G_plus : Cal P w K mg base 6 "plus" P_plus (spD K 2 wPlus))
    (G__law_times : Cal P w K mg base 3 "_law_times" P__law_times (spD K 2 wMultiplied)) (G__law_plus : Cal P w K mg base 3 "_law_plus" P__law_plus (spD K 2 wAdded)) : FnOk P w K mg base CX0 7 D.f D.fd P__law_two_right (spD K 2 wTwo) := by
  refine fn_data D.F sc__law_two_right rfl fun cdv A outer s H E hr => ?_
  have hu := hr.units
  refine ⟨_, (pss_cons (ps_par rfl sc__law_two_right.nd (i := 2) (j := 3) rfl rfl (by decide) rfl rfl (pa_cons (pe_call G__law_plus.ok (hr.mono (by decide)) rfl G__law_plus.m G__law_plus.kp G__law_plus.b .nil pass0 (pa_cons (pv 0) (pa_cons (pv 1) pa_nil))) (pa_cons (pe_call G__law_times.ok (hr.mono (by decide)) rfl G__law_times.m G__law_times.kp G__law_times.b .nil pass0 (pa_cons (pv 0) (pa_cons (pv 1) pa_nil))) pa_nil)) rfl) (pss_cons (ps_if (PW.pt (pw_or (pt_cmpR (opA_ne hu) (pe_call G_plus.ok (hr.mono (by decide)) rfl G_plus.m G_plus.kp G_plus.b .nil pass0 (pa_cons (pv 0) (pa_cons (pv 1) pa_nil))) (pv 2) (nomark _)) (pw_or (pt_cmpR (opA_ne hu) (pe_call G_minus.ok (hr.mono (by decide)) rfl G_minus.m G_minus.kp G_minus.b .nil pass0 (pa_cons (pv 2) (pa_cons (pv 1) pa_nil))) (pv 0) (nomark _)) (pw_or1 (pt_cmpR (opA_ne hu) (pe_call G_times.ok (hr.mono (by decide)) rfl G_times.m G_times.kp G_times.b .nil pass0 (pa_cons (pv 0) (pa_cons (pv 1) pa_nil))) (pv 3) (nomark _)))))) (pss_one (ps_ret pe_bl)) pss_nil) (pss_cons (ps_if (pt_cmpR (opA_ne hu) (pe_ix ix_seq (pv 1) pe_int (fun _ _ => rfl)) pe_int (nomark _)) (pss_cons (ps_set (i := 4) sc__law_two_right.nd rfl (Or.inl rfl) (pe_call G__law_lowest.ok (hr.mono (by decide)) rfl G__law_lowest.m G__law_lowest.kp G__law_lowest.b .nil pass0 (pa_cons (pe_op opA_mul (pe_ix ix_seq (pv 0) pe_int (fun _ _ => rfl)) (pe_ix ix_seq (pv 1) pe_int (fun _ _ => rfl))) (pa_cons (pe_op opA_mul (pe_ix ix_seq (pv 0) pe_int (fun _ _ => rfl)) (pe_ix ix_seq (pv 1) pe_int (fun _ _ => rfl))) pa_nil)))) (pss_one (ps_if (PW.pt (pw_or (pt_cmpR (opA_ne hu) (pe_call G_over.ok (hr.mono (by decide)) rfl G_over.m G_over.kp G_over.b .nil pass0 (pa_cons (pv 3) (pa_cons (pv 1) pa_nil))) (pv 0) (nomark _)) (pw_or1 (pt_cmpR (opA_ne hu) (pe_call G_over.ok (hr.mono (by decide)) rfl G_over.m G_over.kp G_over.b .nil pass0 (pa_cons (pv 0) (pa_cons (pv 1) pa_nil))) (pv 4) (nomark _))))) (pss_one (ps_ret pe_bl)) pss_nil))) pss_nil) (pss_cons (ps_par rfl sc__law_two_right.nd (i := 5) (j := 6) rfl rfl (by decide) rfl rfl (pa_cons (pe_op opA_mul (pe_ix ix_seq (pv 0) pe_int (fun _ _ => rfl)) (pe_ix ix_seq (pv 1) pe_int (fun _ _ => rfl))) (pa_cons (pe_op opA_mul (pe_ix ix_seq (pv 1) pe_int (fun _ _ => rfl)) (pe_ix ix_seq (pv 0) pe_int (fun _ _ => rfl))) pa_nil)) rfl) (pss_cons (ps_if (PW.pt (pw_or (pt_cmpR (opA_ne hu) (pe_call G_compare.ok (hr.mono (by decide)) rfl G_compare.m G_compare.kp G_compare.b .nil pass0 (pa_cons (pv 0) (pa_cons (pv 1) pa_nil))) (pe_op op_sub (pe_callTy call_int1 rfl T.n_int (by decide +kernel) (pa_cons (pe_cmpR op_gt (pv 5) (pv 6) (nomark _)) pa_nil)) (pe_callTy call_int1 rfl T.n_int (by decide +kernel) (pa_cons (pe_cmpR op_lt (pv 5) (pv 6) (nomark _)) pa_nil))) (nomark _)) (pw_or1 (pt_cmpR (opA_ne hu) (pe_call G_compare.ok (hr.mono (by decide)) rfl G_compare.m G_compare.kp G_compare.b .nil pass0 (pa_cons (pv 1) (pa_cons (pv 0) pa_nil))) (pe_op op_sub pe_int (pe_call G_compare.ok (hr.mono (by decide)) rfl G_compare.m G_compare.kp G_compare.b .nil pass0 (pa_cons (pv 0) (pa_cons (pv 1) pa_nil)))) (nomark _))))) (pss_one (ps_ret pe_bl)) pss_nil) (pss_cons (ps_if (PW.pt (pw_or (pt_cmpR (opA_ne hu) (pe_call G_ratio_text.ok (hr.mono (by decide)) rfl G_ratio_text.m G_ratio_text.kp G_ratio_text.b .nil pass0 (pa_cons (pv 0) pa_nil)) (pe_call G__law_text_of.ok (hr.mono (by decide)) rfl G__law_text_of.m G__law_text_of.kp G__law_text_of.b .nil pass0 (pa_cons (pv 0) pa_nil)) (nomark _)) (pw_or1 (pt_cmpR (opA_ne hu) (pe_call G_ratio_text.ok (hr.mono (by decide)) rfl G_ratio_text.m G_ratio_text.kp G_ratio_text.b .nil pass0 (pa_cons (pv 2) pa_nil)) (pe_call G__law_text_of.ok (hr.mono (by decide)) rfl G__law_text_of.m G__law_text_of.kp G__law_text_of.b .nil pass0 (pa_cons (pv 2) pa_nil)) (nomark _))))) (pss_one (ps_ret pe_bl)) pss_nil) (pss_one (ps_ret (pe_call G_is_ratio.ok (hr.mono (by decide)) rfl G_is_ratio.m G_is_ratio.kp G_is_ratio.b .nil pass0 (pa_cons (pv 3) pa_nil)))))))))), ?_⟩
  rintro es Φ ⟨p, q, rfl, hp, hq, k⟩ _
  have rp := hp.rok
  have rq := hq.rok
  have ra := add_ok hp hq
  have rm := mul_ok hp hq
  have p4 := rp.p4 rq
  obtain ⟨b1, b2, b3, b4⟩ := id p4
  have l1 := len60 rp.2.1
  walk_at "e"
  refine ds_par ?_
  walk_at "e"
  refine ⟨rfl, _, _, rfl, hp.ok.1, hq.ok.1, p4, ?_⟩
  walk_at "e"
  refine ⟨rfl, _, _, rfl, hp.ok.1, hq.ok.1, p4, ?_⟩
  walk_at "e"
  refine ⟨_, _, rfl, .inl (by decide), .inl (by decide), ?_⟩
  walk_at "e"
  refine ds_if ?_
  walk_at "e"
  refine ⟨rfl, _, _, rfl, rp, rq, ?_⟩
  walk_at "e"
  refine rd_neS rfl (eqv_rat _) ?_
  walk_at "e"
  refine ⟨rfl, _, _, rfl, ra, rq, ?_⟩
  rw [add_sub hp.ok hq.ok]
  walk_at "e"
  refine rd_neS rfl (eqv_rat _) ?_
  walk_at "e"
  refine ⟨rfl, _, _, rfl, rp, rq, ?_⟩
  walk_at "e"
  refine rd_neS rfl (eqv_rat _) ?_
  walk_at "e"
  -- the quotients
  refine ds_cut (fun ρ' => ρ' = [some (.val (rat p)), some (.val (rat q)), some (.val (rat (addR p q))), some (.val (rat (mulR p q)))] ++ ρ'.drop 4 ∧ ∃ a b c, ρ'.drop 4 = [a, b, c]) ?_ ?_
  · refine ds_if ?_
    walk_at "e"
    refine ⟨fun h => ?_, fun h => ?_⟩
    · have h0 : q.1 ≠ 0 := by simpa [PyData.eqv] using h
      have hne : p.2 ≠ 0 := by have := hp.ok.1; omega
      walk_at "e"
      refine rd_mulI (b1.mw b4) ?_
      walk_at "e"
      refine rd_mulI (b2.mw b3) ?_
      walk_at "e"
      refine ⟨rfl, _, _, rfl, Int.mul_ne_zero hne h0, (b2.mul b3).mono (by decide), ?_⟩
      walk_at "e"
      refine ds_if ?_
      walk_at "e"
      refine ⟨rfl, _, _, rfl, rm, rq, h0, ?_⟩
      rw [mul_over hp.ok hq.ok h0]
      walk_at "e"
      refine rd_neS rfl (eqv_rat _) ?_
      walk_at "e"
      refine ⟨rfl, _, _, rfl, rp, rq, h0, ?_⟩
      walk_at "e"
      refine rd_neS rfl (eqv_rat _) ?_
      walk_at "e"
      exact ⟨rfl, _, _, _, rfl⟩
    · walk_at "e"
      exact ⟨rfl, _, _, _, rfl⟩
  rintro ρ' ⟨e1, a, b, c, e2⟩
  rw [e2] at e1
  subst e1
  walk_at "e"
  refine ds_par ?_
  walk_at "e"
  refine rd_mulI (b1.mw b4) ?_
  walk_at "e"
  refine rd_mulI (b3.mw b2) ?_
  walk_at "e"
  refine ⟨_, _, rfl, .inl (by decide), .inl (by decide), ?_⟩
  walk_at "e"
  refine ds_if ?_
  walk_at "e"
  refine ⟨rfl, _, _, rfl, rp, rq, ?_⟩
  walk_at "e"
  rw [← cmp_told p q, eqv_int]
  walk_at "e"
  refine ⟨rfl, _, _, rfl, rq, rp, ?_⟩
  walk_at "e"
  refine ⟨rfl, _, _, rfl, rp, rq, ?_⟩
  walk_at "e"
  rw [cmp_swap, eqv_int]
  walk_at "e"
  refine ds_if ?_
  walk_at "e"
  refine ⟨rfl, _, rfl, rp, ?_⟩
  walk_at "e"
  refine ⟨rfl, _, rfl, rp.2.1, rp.2.2, ?_⟩
  refine rd_neT ?_
  rw [decide_eq_true rfl]
  walk_at "e"
  refine ⟨rfl, _, rfl, ra, ?_⟩
  walk_at "e"
  refine ⟨rfl, _, rfl, ra.2.1, ra.2.2, ?_⟩
  refine rd_neT ?_
  rw [decide_eq_true rfl]
  walk_at "e"
  refine ⟨rfl, _, rfl, trivial, pl_rat, ?_⟩
  rw [isRatio_of rm]
  exact k
end
end K00
namespace K00
open PySem L2 PySem.Spec PyProof.Rows DL
local macro_rules | `(tactic| walk_at "d0") => `(tactic| first
  | (with_reducible refine ds_seq ?_) | (with_reducible refine ds_next ?_) | (with_reducible refine ds_ret ?_) | (with_reducible refine ds_drop ?_) | (with_reducible refine ds_setO ?_) | (with_reducible refine ds_asg ?_)
  | ((with_reducible show DW _ _ (tOp (rIx _) (tVar _) (tC (.int _))) _ _); refine dw_ixO rfl (dw_int ⟨_, _, _, rfl, rfl, rfl, ?_⟩))
  | ((with_reducible show DW _ _ (tOp (rIx _) (tVar _) _) _ _); refine dw_ixO rfl ?_)
  | (with_reducible refine dw_lst ?_)
  | (with_reducible refine dw_isi ?_) | (with_reducible refine dw_op ?_) | (with_reducible refine dw_un ?_) | (with_reducible refine dw_int ?_) | (with_reducible refine dw_bl ?_) | (with_reducible refine dw_str ?_) | (with_reducible refine dw_non ?_)
  | ((with_reducible show DW _ _ (tVar _) _ _); refine dw_var rfl ?_)
  | (with_reducible refine dw_andV ?_) | (with_reducible refine dw_orV ?_) | (with_reducible refine dw_notV ?_) | (with_reducible refine dw_tup ?_) | (with_reducible refine dw_chain ?_)
  | (with_reducible refine da_nil ?_) | (with_reducible refine da_cons ?_)
  | (with_reducible refine dt_test ?_) | (with_reducible refine dt_B ?_) | (with_reducible refine dt_and ?_) | (with_reducible refine dt_or ?_) | (with_reducible refine dt_not ?_) | (with_reducible refine dt_yes ?_)
  | ((with_reducible show DW _ _ (tCall _ _ _ (tCons (tVar _) _)) _ _); refine dw_callO rfl ?_)
  | (with_reducible refine dw_call ?_) | (with_reducible refine dw_fresh (df_call ?_)) | (with_reducible refine dw_cb ?_)
  | (with_reducible refine rd_addI ?_) | (with_reducible refine rd_i0 ?_) | (with_reducible refine rd_b0 ?_) | (with_reducible refine ru_i ?_) | (with_reducible refine rc_int ?_) | (with_reducible refine rc_intB ?_) | (with_reducible refine rc_abs ?_) | (with_reducible refine rc_max ?_) | (with_reducible refine rc_min ?_) | (with_reducible refine rc_gcd ?_) | (with_reducible refine rc_lenL ?_) | (with_reducible refine rc_lenT ?_)
  | ((with_reducible show RD (rIx _) _ (.tuple _) _ _); refine rd_ixT rfl ?_) | ((with_reducible show RD (rIx _) _ (.list _) _ _); refine rd_ixL rfl ?_)
  | ((with_reducible refine dg_name ?hj ?_); (case hj => first | exact .inl (by decide) | exact .inr (noLst_val rfl) | exact .inr (noLst_none rfl)))
  | ((with_reducible show ∃ b, PyData.bool _ = PyData.bool b ∧ _); refine ⟨_, rfl, ?_⟩)
  | ((with_reducible show RD (rEqA _) _ (.int _) (.int _) _); refine rd_eq rfl rfl ?_) | ((with_reducible show RD (rNeA _) _ (.int _) (.int _) _); refine rd_ne rfl rfl ?_)
  | ((with_reducible show DW _ _ (tTup _) _ _); refine dw_tup ?_) | ((with_reducible show List.length _ ≤ 100000 ∧ _); refine ⟨Nat.le_of_ble_eq_true rfl, ?_⟩)
  | (((with_reducible show (_ = true → _) ∧ (_ = false → _)); first | (refine ⟨fun _ => ?_, fun z => Bool.noConfusion (show true = false from z)⟩) | (refine ⟨fun z => Bool.noConfusion (show false = true from z), fun _ => ?_⟩)))
  | (((with_reducible show (_ = false → _) ∧ (_ = true → _)); first | (refine ⟨fun _ => ?_, fun z => Bool.noConfusion (show false = true from z)⟩) | (refine ⟨fun z => Bool.noConfusion (show true = false from z), fun _ => ?_⟩)))
  | (with_reducible refine dgs_nil ?_) | (with_reducible refine dgs_cons ?_))
local macro_rules | `(tactic| walk_at "d1") => `(tactic| first | walk_at "d0" | (with_reducible refine ds_if ?_) | (with_reducible refine dw_if ?_))
local macro_rules | `(tactic| walk_at "e") => `(tactic| ((try dsimp only [cxOf, Cx.nox, Cx.wish]); repeat (walk_at "d0")))
local macro_rules | `(tactic| walk_at "d") => `(tactic| ((try dsimp only [cxOf, Cx.nox, Cx.wish]); repeat (walk_at "d1")))

abbrev s__law_numbers_right : Stmt := topS 47
abbrev N__law_numbers_right : List Str := ["_law_dice_here", "_law_top", "_law_low", "_law_told", "_law_most", "_law_due", "_law_total", "_law_number", "_law_one"]
abbrev P__law_numbers_right : List Str := ["_law_dice_here"]
theorem sc__law_numbers_right : FnScope N__law_numbers_right P__law_numbers_right (defScope s__law_numbers_right) := ⟨rfl, rfl, rfl, by decide +kernel, rfl, by decide +kernel, by decide +kernel⟩
abbrev s__law_right : Stmt := topS 48
abbrev N__law_right : List Str := ["_law_dice_here", "_law_one", "_law_other", "_law_top", "_law_bottom", "_law_odd", "_law_value"]
abbrev P__law_right : List Str := ["_law_dice_here"]
theorem sc__law_right : FnScope N__law_right P__law_right (defScope s__law_right) := ⟨rfl, rfl, rfl, by decide +kernel, rfl, by decide +kernel, by decide +kernel⟩
section
variable {P : Program} {w : World} {K : PySem.W.Frag} {mg : Str → Option Value} {base : Heap}
theorem bL_shaped : ∀ k : Nat, k < 26 → SeqAt.shaped (.list (bL k)) = true := by decide +kernel
theorem bL_eqv : ∀ k : Nat, k < 26 → PyData.eqv (.list (bL k)) (.list (bL k)) = true := by decide +kernel
def wNumbers : SpW := fun es Φ => ∃ l s t, es = [dice l s t] ∧ 0 ≤ l ∧ ∀ l' t', 0 ≤ l' → Φ (.bool true) [dice l' s t']
theorem Bsmall {n : Int} (h : n.natAbs < 1000000) : B 1000 n := by
  unfold B
  exact Nat.lt_trans h (by decide)
theorem ok_numbers (T : Txt K mg) (D : TD K mg "_law_numbers_right" s__law_numbers_right P__law_numbers_right)
    (G__law_roll : Cal P w K mg base 1 "_law_roll" P__law_roll (spD K 2 wRoll)) (G_binomial : Cal P w K mg base 3 "binomial" P_binomial (spD K 2 wBinomial)) (G__law_choose : Cal P w K mg base 1 "_law_choose" P__law_choose (spD K 2 wChoose))
    (G__law_bernoulli : Cal P w K mg base 4 "_law_bernoulli" P__law_bernoulli (spF K 1 wLB)) (G_bernoulli : Cal P w K mg base 4 "bernoulli" P_bernoulli (spD K 1 wBernoulli))
    (G__law_times : Cal P w K mg base 3 "_law_times" P__law_times (spD K 2 wMultiplied)) (G__law_plus : Cal P w K mg base 3 "_law_plus" P__law_plus (spD K 2 wAdded)) : FnOk P w K mg base CX0 5 D.f D.fd P__law_numbers_right (spD K 1 wNumbers) := by
  refine fn_data D.F sc__law_numbers_right rfl fun cdv A outer s H E hr => ?_
  have hu := hr.units
  refine ⟨_, (pss_cons (ps_set (i := 1) sc__law_numbers_right.nd rfl (Or.inl rfl) (pe_call G__law_roll.ok (hr.mono (by decide)) rfl G__law_roll.m G__law_roll.kp G__law_roll.b .nil pass0 (pa_cons (pv 0) (pa_cons pe_int pa_nil)))) (pss_cons (ps_set (i := 2) sc__law_numbers_right.nd rfl (Or.inl rfl) (pe_call G__law_roll.ok (hr.mono (by decide)) rfl G__law_roll.m G__law_roll.kp G__law_roll.b .nil pass0 (pa_cons (pv 0) (pa_cons (pe_op opA_add (pv 1) pe_int) pa_nil)))) (pss_cons (ps_set (i := 3) sc__law_numbers_right.nd rfl (Or.inl rfl) (pe_call G_binomial.ok (hr.mono (by decide)) rfl G_binomial.m G_binomial.kp G_binomial.b .nil pass0 (pa_cons (pv 1) (pa_cons (pv 2) pa_nil)))) (pss_cons (ps_if (PW.pt (pw_or (pt_cmpR (opA_ne hu) (pv 3) (pe_call G__law_choose.ok (hr.mono (by decide)) rfl G__law_choose.m G__law_choose.kp G__law_choose.b .nil pass0 (pa_cons (pv 1) (pa_cons (pv 2) pa_nil))) (nomark _)) (pw_or1 (pt_cmpR (opA_ne hu) (pe_call G_binomial.ok (hr.mono (by decide)) rfl G_binomial.m G_binomial.kp G_binomial.b .nil pass0 (pa_cons (pe_op opA_add (pv 1) pe_int) (pa_cons (pe_op opA_add (pv 2) pe_int) pa_nil))) (pe_op opA_add (pv 3) (pe_call G_binomial.ok (hr.mono (by decide)) rfl G_binomial.m G_binomial.kp G_binomial.b .nil pass0 (pa_cons (pv 1) (pa_cons (pe_op opA_add (pv 2) pe_int) pa_nil)))) (nomark _))))) (pss_one (ps_ret pe_bl)) pss_nil) (pss_cons (ps_if (PW.pt (pw_and (pt_cmpR op_le (pv 2) (pv 1) (nomark _)) (pw_and1 (pt_cmpR (opA_ne hu) (pe_call G_binomial.ok (hr.mono (by decide)) rfl G_binomial.m G_binomial.kp G_binomial.b .nil pass0 (pa_cons (pv 1) (pa_cons (pe_op op_sub (pv 1) (pv 2)) pa_nil))) (pv 3) (nomark _))))) (pss_one (ps_ret pe_bl)) pss_nil) (pss_cons (ps_set (i := 4) sc__law_numbers_right.nd rfl (Or.inl rfl) (pe_op opA_add pe_int (pe_call G__law_roll.ok (hr.mono (by decide)) rfl G__law_roll.m G__law_roll.kp G__law_roll.b .nil pass0 (pa_cons (pv 0) (pa_cons pe_int pa_nil))))) (pss_cons (ps_par rfl sc__law_numbers_right.nd (i := 5) (j := 6) rfl rfl (by decide) rfl rfl (pa_cons (pe_call G__law_bernoulli.ok (hr.mono (by decide)) rfl G__law_bernoulli.m G__law_bernoulli.kp G__law_bernoulli.b .nil pass0 (pa_cons (pv 4) pa_nil)) (pa_cons (pe_tup (pa_cons pe_int (pa_cons pe_int pa_nil))) pa_nil)) rfl) (pss_cons (ps_if (pt_cmpR (opA_ne hu) (pe_lc (own := [("_law_number", 7)]) (g := gName 7) (tt := tYes) rfl sc__law_numbers_right.nd (pi_range1 rfl T.n_range (pa_cons (pe_op opA_add (pv 4) pe_int) pa_nil)) (blkOk_by (own := [("_law_number", 7)]) (N := N__law_numbers_right) (sc := defScope s__law_numbers_right) (by decide +kernel)) (fun _ _ _ _ _ => pg_name (i := 7) sc__law_numbers_right.nd rfl (Or.inl rfl)) (fun _ _ _ _ _ => pts_nil) (fun _ _ _ _ _ => (pe_call G_bernoulli.ok (hr.mono (by decide)) rfl G_bernoulli.m G_bernoulli.kp G_bernoulli.b .nil pass0 (pa_cons (pv 7) pa_nil)))) (pv 5) (nomark _)) (pss_one (ps_ret pe_bl)) pss_nil) (pss_cons (ps_for PassesOwn.never rfl (pi_enum rfl T.n_enumerate (pa_cons (pv 5) pa_nil)) (pg_tup rfl (pgs_cons (pg_name (i := 7) sc__law_numbers_right.nd rfl (Or.inl rfl)) (pgs_cons (pg_name (i := 8) sc__law_numbers_right.nd rfl (Or.inl rfl)) pgs_nil))) (pss_one (ps_set (i := 6) sc__law_numbers_right.nd rfl (Or.inl rfl) (pe_call G__law_plus.ok (hr.mono (by decide)) rfl G__law_plus.m G__law_plus.kp G__law_plus.b .nil pass0 (pa_cons (pv 6) (pa_cons (pe_call G__law_times.ok (hr.mono (by decide)) rfl G__law_times.m G__law_times.kp G__law_times.b .nil pass0 (pa_cons (pe_tup (pa_cons (pe_call G__law_choose.ok (hr.mono (by decide)) rfl G__law_choose.m G__law_choose.kp G__law_choose.b .nil pass0 (pa_cons (pe_op opA_add (pv 4) pe_int) (pa_cons (pv 7) pa_nil))) (pa_cons pe_int pa_nil))) (pa_cons (pv 8) pa_nil))) pa_nil)))))) (pss_one (ps_ret (pe_cmpR (opA_eq hu) (pv 6) (pe_tup (pa_cons pe_int (pa_cons pe_int pa_nil))) (nomark _))))))))))))), ?_⟩
  rintro es Φ ⟨l, s, t, rfl, hl, kk⟩ _
  walk_at "e"
  refine ⟨rfl, _, rfl, l, s, t, 60, rfl, hl, by decide, Bsmall (by decide), ?_⟩
  intro top l1 t1 p0 p1 hl1 ds2 rest e
  cases e
  obtain ⟨tn, rfl⟩ : ∃ tn : Nat, top = (tn : Int) := ⟨top.toNat, by omega⟩
  walk_at "e"
  refine ⟨rfl, _, rfl, l1, s, t1, (tn : Int) + 4, rfl, hl1, by omega, Bsmall (by omega), ?_⟩
  intro low l2 t2 q0 q1 hl2 ds2 rest e
  cases e
  obtain ⟨ln, rfl⟩ : ∃ ln : Nat, low = (ln : Int) := ⟨low.toNat, by omega⟩
  walk_at "e"
  refine ⟨rfl, _, _, rfl, by omega, by omega, ?_⟩
  walk_at "e"
  refine ds_if ?_
  walk_at "e"
  refine ⟨rfl, (tn : Int), ln, rfl, by omega, by omega, ?_⟩
  rw [ch_comb tn (by omega) ln (by omega) (by omega)]
  walk_at "e"
  rw [eqv_int]
  walk_at "e"
  refine ⟨rfl, _, _, rfl, by omega, by omega, ?_⟩
  walk_at "e"
  refine ⟨rfl, _, _, rfl, by omega, by omega, ?_⟩
  rw [comb_add tn (by omega) ln (by omega) (by omega)]
  walk_at "e"
  rw [eqv_int]
  walk_at "e"
  refine ds_if ?_
  refine dt_bool false ?_ ⟨fun z => (nomatch z), fun _ => ?_⟩
  · walk_at "e"
    refine ⟨fun h => ?_, fun h => ⟨rfl, rfl⟩⟩
    have h : (ln : Int) ≤ tn := of_decide_eq_true h
    walk_at "e"
    refine ⟨rfl, _, _, rfl, by omega, by omega, ?_⟩
    rw [comb_sym tn (by omega) ln (by omega) (by omega)]
    walk_at "e"
    rw [eqv_int]
    exact ⟨rfl, rfl⟩
  walk_at "e"
  refine ⟨rfl, _, rfl, l2, s, t2, 24, rfl, hl2, by decide, Bsmall (by decide), ?_⟩
  intro m0 l3 t3 r0 r1 hl3 ds2 rest e
  cases e
  obtain ⟨k, rfl⟩ : ∃ k : Nat, m0 = (k : Int) := ⟨m0.toNat, by omega⟩
  walk_at "e"
  rw [show ((1 : Int) + (k : Int)) = ((k + 1 : Nat) : Int) by omega]
  generalize hk : k + 1 = M
  have hM : 1 ≤ M ∧ M < 25 := by omega
  refine ds_par ?_
  walk_at "e"
  refine ⟨rfl, M, rfl, hM.1, hM.2, ?_⟩
  walk_at "e"
  refine ⟨_, _, rfl, .inl (by decide), .inl (by decide), ?_⟩
  walk_at "e"
  refine ds_if ?_
  walk_at "e"
  refine dw_fresh (df_lc (di_rng1 ?_))
  walk_at "e"
  refine ⟨_, rfl, ⟨by omega, by omega⟩, by decide, ?_, rfl, fun i out ρ' => out = bL i ∧ ρ' = [some (dice l3 s t3), some (.val (.int tn)), some (.val (.int ln)), some (.val (.int (PySem.W.mcComb tn ln))), some (.val (.int M)), some (.val (.list (bL (M + 1)))), some (.val (rat (0, 1))), none, none], ⟨rfl, rfl⟩, ?_, ?_⟩
  · rw [rngD_len]; omega
  · rintro i d out ρ' hd ⟨rfl, rfl⟩ _
    obtain ⟨hi, rfl⟩ := rngD_get hd
    rw [Int.zero_add]
    walk_at "e"
    refine ⟨rfl, i, rfl, by omega, ?_⟩
    refine ⟨bL_snoc (by omega), rfl⟩
  · rintro out ρ' ⟨rfl, rfl⟩
    rw [rngD_len]
    have e : ((M : Int) + 1).toNat = M + 1 := by omega
    rw [e]
    walk_at "e"
    refine rd_neS (bL_shaped _ (by omega)) (bL_eqv _ (by omega)) ?_
    walk_at "e"
    refine ds_for (di_enum ?_)
    walk_at "e"
    refine ⟨_, rfl, fun i ρ' => ∃ a b, ρ' = [some (dice l3 s t3), some (.val (.int tn)), some (.val (.int ln)), some (.val (.int (PySem.W.mcComb tn ln))), some (.val (.int M)), some (.val (.list (bL (M + 1)))), some (.val (rat (lbT M i))), a, b], ⟨_, _, rfl⟩, fun i d ρ' hd ⟨a, b, hρ⟩ => ?_, fun ρ' ⟨a, b, hρ⟩ => ?_⟩
    · obtain ⟨x, hx, rfl⟩ := enumD_get hd
      have hi : i < M + 1 := by
        have := (List.getElem?_eq_some_iff.mp hx).1
        rw [bL_len (by omega)] at this
        exact this
      rw [bL_get (by omega) hi] at hx
      cases hx
      subst hρ
      obtain ⟨f1, f2, f3, f4⟩ := lb_facts (k := M) (i := i) (by omega) (by omega) (by omega)
      refine dg_tup ⟨_, rfl, rfl, ?_⟩
      walk_at "e"
      refine ⟨rfl, (M : Int) + 1, i, rfl, ⟨by omega, by omega⟩, by omega, ?_⟩
      walk_at "e"
      refine ⟨rfl, (chM ((M : Int) + 1) i, 1), bT i, rfl, by show (0 : Int) < 1; decide, f1.pos, ⟨f4, Bone, f1.b1, f1.b2⟩, ?_⟩
      walk_at "e"
      refine ⟨rfl, _, lbS M i, rfl, f3.pos, f2.pos, ⟨f3.b1, f3.b2, f2.b1, f2.b2⟩, ?_⟩
      walk_at "e"
      exact ⟨_, _, rfl⟩
    · rw [enumD_len, bL_len (by omega), lb_end M (by omega) (by omega)] at hρ
      subst hρ
      walk_at "e"
      refine rd_eqS rfl (eqv_rat (0, 1)) ?_
      exact kk _ _ hl3
def oddL : List PyData := [.tuple [.int 2, .int 4], .tuple [.int 1, .int 0], .tuple [.int 1, .int (-2)], .tuple [.int 0, .int 2], .tuple [.int 1, .int 2, .int 3], .list [.int 1, .int 2], .tuple [.int 1], .str (Str.ofString "1/2"), .none, .int 1, .tuple [.bool true, .int 1], .tuple [.int 1, .bool true], .tuple [.int (10 ^ 60), .int 1]]
theorem odd_all {i : Nat} {d : PyData} (h : oddL[i]? = some d) : Pl d ∧ (∀ x y, d = .tuple [x, y] → Pl x ∧ Pl y) ∧ isRatioD d = false := by
  have key : ∀ d ∈ oddL, Pl d ∧ (∀ x y, d = .tuple [x, y] → Pl x ∧ Pl y) ∧ isRatioD d = false := by
    intro d hd
    simp only [oddL, List.mem_cons, List.not_mem_nil, or_false] at hd
    rcases hd with rfl | rfl | rfl | rfl | rfl | rfl | rfl | rfl | rfl | rfl | rfl | rfl | rfl <;> refine ⟨trivial, fun x y e => ?_, by decide +kernel⟩
    all_goals first | (injection e with e; injection e with e1 e; injection e with e2 e; subst e1; subst e2; exact ⟨trivial, trivial⟩) | (injection e with e; injection e with e1 e; exact nomatch e) | (injection e with e; injection e with e1 e; injection e with e2 e; exact nomatch e) | exact nomatch e
  exact key d (List.mem_of_getElem? h)
end
end K00
namespace K00
open PySem L2 PySem.Spec PyProof.Rows DL
local macro_rules | `(tactic| walk_at "d0") => `(tactic| first
  | (with_reducible refine ds_seq ?_) | (with_reducible refine ds_next ?_) | (with_reducible refine ds_ret ?_) | (with_reducible refine ds_drop ?_) | (with_reducible refine ds_setO ?_) | (with_reducible refine ds_asg ?_)
  | ((with_reducible show DW _ _ (tOp (rIx _) (tVar _) (tC (.int _))) _ _); refine dw_ixO rfl (dw_int ⟨_, _, _, rfl, rfl, rfl, ?_⟩))
  | ((with_reducible show DW _ _ (tOp (rIx _) (tVar _) _) _ _); refine dw_ixO rfl ?_)
  | (with_reducible refine dw_lst ?_)
  | (with_reducible refine dw_isi ?_) | (with_reducible refine dw_op ?_) | (with_reducible refine dw_un ?_) | (with_reducible refine dw_int ?_) | (with_reducible refine dw_bl ?_) | (with_reducible refine dw_str ?_) | (with_reducible refine dw_non ?_)
  | ((with_reducible show DW _ _ (tVar _) _ _); refine dw_var rfl ?_)
  | (with_reducible refine dw_andV ?_) | (with_reducible refine dw_orV ?_) | (with_reducible refine dw_notV ?_) | (with_reducible refine dw_tup ?_) | (with_reducible refine dw_chain ?_)
  | (with_reducible refine da_nil ?_) | (with_reducible refine da_cons ?_)
  | (with_reducible refine dt_test ?_) | (with_reducible refine dt_B ?_) | (with_reducible refine dt_and ?_) | (with_reducible refine dt_or ?_) | (with_reducible refine dt_not ?_) | (with_reducible refine dt_yes ?_)
  | ((with_reducible show DW _ _ (tCall _ _ _ (tCons (tVar _) _)) _ _); refine dw_callO rfl ?_)
  | (with_reducible refine dw_call ?_) | (with_reducible refine dw_fresh (df_call ?_)) | (with_reducible refine dw_cb ?_)
  | (with_reducible refine rd_addI ?_) | (with_reducible refine rd_i0 ?_) | (with_reducible refine rd_b0 ?_) | (with_reducible refine ru_i ?_) | (with_reducible refine rc_int ?_) | (with_reducible refine rc_intB ?_) | (with_reducible refine rc_abs ?_) | (with_reducible refine rc_max ?_) | (with_reducible refine rc_min ?_) | (with_reducible refine rc_gcd ?_) | (with_reducible refine rc_lenL ?_) | (with_reducible refine rc_lenT ?_)
  | ((with_reducible show RD (rIx _) _ (.tuple _) _ _); refine rd_ixT rfl ?_) | ((with_reducible show RD (rIx _) _ (.list _) _ _); refine rd_ixL rfl ?_)
  | ((with_reducible refine dg_name ?hj ?_); (case hj => first | exact .inl (by decide) | exact .inr (noLst_val rfl) | exact .inr (noLst_none rfl)))
  | ((with_reducible show ∃ b, PyData.bool _ = PyData.bool b ∧ _); refine ⟨_, rfl, ?_⟩)
  | ((with_reducible show RD (rEqA _) _ (.int _) (.int _) _); refine rd_eq rfl rfl ?_) | ((with_reducible show RD (rNeA _) _ (.int _) (.int _) _); refine rd_ne rfl rfl ?_)
  | ((with_reducible show DW _ _ (tTup _) _ _); refine dw_tup ?_) | ((with_reducible show List.length _ ≤ 100000 ∧ _); refine ⟨Nat.le_of_ble_eq_true rfl, ?_⟩)
  | (((with_reducible show (_ = true → _) ∧ (_ = false → _)); first | (refine ⟨fun _ => ?_, fun z => Bool.noConfusion (show true = false from z)⟩) | (refine ⟨fun z => Bool.noConfusion (show false = true from z), fun _ => ?_⟩)))
  | (((with_reducible show (_ = false → _) ∧ (_ = true → _)); first | (refine ⟨fun _ => ?_, fun z => Bool.noConfusion (show false = true from z)⟩) | (refine ⟨fun z => Bool.noConfusion (show true = false from z), fun _ => ?_⟩)))
  | (with_reducible refine dgs_nil ?_) | (with_reducible refine dgs_cons ?_))
local macro_rules | `(tactic| walk_at "d1") => `(tactic| first | walk_at "d0" | (with_reducible refine ds_if ?_) | (with_reducible refine dw_if ?_))
local macro_rules | `(tactic| walk_at "e") => `(tactic| ((try dsimp only [cxOf, Cx.nox, Cx.wish]); repeat (walk_at "d0")))
local macro_rules | `(tactic| walk_at "d") => `(tactic| ((try dsimp only [cxOf, Cx.nox, Cx.wish]); repeat (walk_at "d1")))

abbrev s_law : Stmt := topS 49
abbrev N_law : List Str := ["_law_script", "_law_spot", "_law_dice_here", "_law_told", "_law_value"]
abbrev P_law : List Str := ["_law_script"]
theorem sc_law : FnScope N_law P_law (defScope s_law) := ⟨rfl, rfl, rfl, by decide +kernel, rfl, by decide +kernel, by decide +kernel⟩
section
variable {P : Program} {w : World} {K : PySem.W.Frag} {mg : Str → Option Value} {base : Heap}
theorem redI_whole {a b : Int} (hb : 0 < b) : redI (a * b) (0 - b) = (0 - a, 1) := by
  refine redI_eq (by omega) ⟨by show (0 : Int) < 1; decide, by show Nat.gcd (0 - a).natAbs 1 = 1; exact Nat.gcd_one_right _⟩ ?_
  show a * b * 1 = (0 - a) * (0 - b)
  rw [Int.zero_sub, Int.zero_sub, Int.neg_mul_neg, Int.mul_one]
theorem ok_right (T : Txt K mg) (D : TD K mg "_law_right" s__law_right P__law_right)
    (G__law_two_right : Cal P w K mg base 7 "_law_two_right" P__law_two_right (spD K 2 wTwo)) (G_is_ratio : Cal P w K mg base 3 "is_ratio" P_is_ratio (spD K 1 wIsRatio)) (G_lowest : Cal P w K mg base 3 "lowest" P_lowest (spD K 2 wLowest))
    (G__law_lowest : Cal P w K mg base 2 "_law_lowest" P__law_lowest (spD K 2 wReduced)) (G__law_roll : Cal P w K mg base 1 "_law_roll" P__law_roll (spD K 2 wRoll)) (G__law_near : Cal P w K mg base 2 "_law_near" P__law_near (spD K 2 wNear))
    (G__law_ratio_drawn : Cal P w K mg base 3 "_law_ratio_drawn" P__law_ratio_drawn (spD K 1 wDrawn)) : FnOk P w K mg base CX0 8 D.f D.fd P__law_right (spD K 1 wNumbers) := by
  refine fn_data D.F sc__law_right rfl fun cdv A outer s H E hr => ?_
  have hu := hr.units
  refine ⟨_, (pss_cons (ps_par rfl sc__law_right.nd (i := 1) (j := 2) rfl rfl (by decide) rfl rfl (pa_cons (pe_call G__law_ratio_drawn.ok (hr.mono (by decide)) rfl G__law_ratio_drawn.m G__law_ratio_drawn.kp G__law_ratio_drawn.b .nil pass0 (pa_cons (pv 0) pa_nil)) (pa_cons (pe_call G__law_ratio_drawn.ok (hr.mono (by decide)) rfl G__law_ratio_drawn.m G__law_ratio_drawn.kp G__law_ratio_drawn.b .nil pass0 (pa_cons (pv 0) pa_nil)) pa_nil)) rfl) (pss_cons (ps_par rfl sc__law_right.nd (i := 3) (j := 4) rfl rfl (by decide) rfl rfl (pa_cons (pe_call G__law_near.ok (hr.mono (by decide)) rfl G__law_near.m G__law_near.kp G__law_near.b .nil pass0 (pa_cons (pv 0) (pa_cons (pe_op op_pow pe_int pe_int) pa_nil))) (pa_cons (pe_op opA_add pe_int (pe_call G__law_roll.ok (hr.mono (by decide)) rfl G__law_roll.m G__law_roll.kp G__law_roll.b .nil pass0 (pa_cons (pv 0) (pa_cons (pe_op op_pow pe_int pe_int) pa_nil)))) pa_nil)) rfl) (pss_cons (ps_if (PW.pt (pw_or (pt_cmpR (opA_ne hu) (pe_call G_lowest.ok (hr.mono (by decide)) rfl G_lowest.m G_lowest.kp G_lowest.b .nil pass0 (pa_cons (pe_op opA_mul (pv 3) (pv 4)) (pa_cons (pe_op op_sub pe_int (pv 4)) pa_nil))) (pe_tup (pa_cons (pe_op op_sub pe_int (pv 3)) (pa_cons pe_int pa_nil))) (nomark _)) (pw_or1 (pt_cmpR (opA_ne hu) (pe_call G_lowest.ok (hr.mono (by decide)) rfl G_lowest.m G_lowest.kp G_lowest.b .nil pass0 (pa_cons (pv 3) (pa_cons (pv 4) pa_nil))) (pe_call G__law_lowest.ok (hr.mono (by decide)) rfl G__law_lowest.m G__law_lowest.kp G__law_lowest.b .nil pass0 (pa_cons (pv 3) (pa_cons (pv 4) pa_nil))) (nomark _))))) (pss_one (ps_ret pe_bl)) pss_nil) (pss_cons (ps_set (i := 5) sc__law_right.nd rfl (Or.inl rfl) (pe_lst (pa_cons (pe_tup (pa_cons pe_int (pa_cons pe_int pa_nil))) (pa_cons (pe_tup (pa_cons pe_int (pa_cons pe_int pa_nil))) (pa_cons (pe_tup (pa_cons pe_int (pa_cons (pe_un un_neg pe_int) pa_nil))) (pa_cons (pe_tup (pa_cons pe_int (pa_cons pe_int pa_nil))) (pa_cons (pe_tup (pa_cons pe_int (pa_cons pe_int (pa_cons pe_int pa_nil)))) (pa_cons (pe_lst (pa_cons pe_int (pa_cons pe_int pa_nil))) (pa_cons (pe_tup (pa_cons pe_int pa_nil)) (pa_cons pe_str (pa_cons pe_non (pa_cons pe_int (pa_cons (pe_tup (pa_cons pe_bl (pa_cons pe_int pa_nil))) (pa_cons (pe_tup (pa_cons pe_int (pa_cons pe_bl pa_nil))) (pa_cons (pe_tup (pa_cons (pe_op op_pow pe_int pe_int) (pa_cons pe_int pa_nil))) pa_nil))))))))))))))) (pss_cons (ps_if (pt_cmpR (opA_ne hu) (pe_lc (own := [("_law_value", 6)]) (g := gName 6) (tt := _) rfl sc__law_right.nd (pi_list (pv 5)) (blkOk_by (own := [("_law_value", 6)]) (N := N__law_right) (sc := defScope s__law_right) (by decide +kernel)) (fun _ _ _ _ _ => pg_name (i := 6) sc__law_right.nd rfl (Or.inl rfl)) (fun _ _ _ _ _ => (pts_one (pt_val (pe_call G_is_ratio.ok (hr.mono (by decide)) rfl G_is_ratio.m G_is_ratio.kp G_is_ratio.b .nil pass0 (pa_cons (pv 6) pa_nil))))) (fun _ _ _ _ _ => (pv 6))) (pe_lst pa_nil) (nomark _)) (pss_one (ps_ret pe_bl)) pss_nil) (pss_one (ps_ret (pe_and (pe_call G__law_two_right.ok (hr.mono (by decide)) rfl G__law_two_right.m G__law_two_right.kp G__law_two_right.b .nil pass0 (pa_cons (pv 1) (pa_cons (pv 2) pa_nil))) (pe_one (pe_call G__law_two_right.ok (hr.mono (by decide)) rfl G__law_two_right.m G__law_two_right.kp G__law_two_right.b .nil pass0 (pa_cons (pv 2) (pa_cons (pv 2) pa_nil)))))))))))), ?_⟩
  rintro es Φ ⟨l, s, t, rfl, hl, kk⟩ _
  walk_at "e"
  refine ds_par ?_
  walk_at "e"
  refine ⟨rfl, _, rfl, l, s, t, rfl, hl, ?_⟩
  intro p l1 t1 hp hl1 ds2 rest e
  cases e
  walk_at "e"
  refine ⟨rfl, _, rfl, l1, s, t1, rfl, hl1, ?_⟩
  intro q l2 t2 hq hl2 ds2 rest e
  cases e
  walk_at "e"
  refine ⟨_, _, rfl, .inl (by decide), .inl (by decide), ?_⟩
  walk_at "e"
  refine ds_par ?_
  walk_at "e"
  refine rd_i ⟨by decide, by decide, by decide⟩ ?_
  walk_at "e"
  refine ⟨rfl, _, rfl, l2, s, t2, (10 : Int) ^ ((14 : Int)).toNat, rfl, hl2, by decide, by unfold B; decide, ?_⟩
  intro a l3 t3 a1 a2 hl3 ds2 rest e
  cases e
  walk_at "e"
  refine rd_i ⟨by decide, by decide, by decide⟩ ?_
  walk_at "e"
  refine ⟨rfl, _, rfl, l3, s, t3, (10 : Int) ^ ((9 : Int)).toNat, rfl, hl3, by decide, by unfold B; decide, ?_⟩
  intro b0 l4 t4 c1 c2 hl4 ds2 rest e
  cases e
  walk_at "e"
  refine ⟨_, _, rfl, .inl (by decide), .inl (by decide), ?_⟩
  have a1 : -(10 ^ 14) ≤ a := a1
  have a2 : a ≤ 10 ^ 14 := a2
  have c2 : b0 < 10 ^ 9 := c2
  generalize hb : 1 + b0 = b
  have hb1 : 1 ≤ b ∧ b ≤ 10 ^ 9 := by omega
  have hab : (a * b).natAbs ≤ 10 ^ 14 * 10 ^ 9 := abs_mul_le (by omega) (by omega)
  walk_at "e"
  refine ds_if ?_
  walk_at "e"
  refine rd_mulS (.inl ⟨by omega, by omega⟩) ?_
  walk_at "e"
  refine ⟨rfl, a * b, 0 - b, rfl, by omega, by omega, by omega, ?_⟩
  rw [redI_whole (by omega)]
  walk_at "e"
  refine rd_neS rfl (eqv_rat (0 - a, 1)) ?_
  walk_at "e"
  refine ⟨rfl, a, b, rfl, by omega, by omega, by omega, ?_⟩
  walk_at "e"
  refine ⟨rfl, a, b, rfl, by omega, by unfold B; exact Nat.lt_of_le_of_lt (show b.natAbs ≤ 10 ^ 9 by omega) (by decide), ?_⟩
  refine rd_neS rfl (eqv_rat _) ?_
  walk_at "e"
  refine rd_i ⟨by decide, by decide, by decide⟩ ?_
  walk_at "e"
  refine ds_if ?_
  walk_at "e"
  refine dw_fresh (df_lc (di_lst ?_))
  walk_at "e"
  refine ⟨oddL, rfl, by decide, by decide, rfl, fun i out ρ' => out = [] ∧ ρ' = [some (dice l4 s t4), some (.val (rat p)), some (.val (rat q)), some (.val (.int a)), some (.val (.int b)), some (.val (.list oddL)), none], ⟨rfl, rfl⟩, ?_, ?_⟩
  · rintro i d out ρ' hd ⟨rfl, rfl⟩ _
    obtain ⟨h1, h2, h3⟩ := odd_all hd
    walk_at "e"
    refine ⟨rfl, _, rfl, h1, h2, _, rfl, ?_⟩
    rw [h3]
    exact ⟨fun z => (nomatch z), fun _ => ⟨rfl, rfl⟩⟩
  · rintro out ρ' ⟨rfl, rfl⟩
    walk_at "e"
    refine rd_neS rfl rfl ?_
    walk_at "e"
    refine ⟨rfl, _, _, rfl, hp, hq, ?_⟩
    walk_at "e"
    refine ⟨rfl, _, _, rfl, hq, hq, ?_⟩
    exact kk _ _ hl4
def wDice : SfW := fun es Ψ => ∃ (ns : List Int) (i : Nat), es = [.val (.list (ns.map .int)), .val (.int i)] ∧ i < 1000 ∧ ∀ l s, 0 ≤ l → Ψ [.int l, .int s, .int 0] es
theorem ok_dice (T : Txt K mg) (D : TD K mg "_law_dice" s__law_dice P__law_dice) : FnOk P w K mg base CX0 1 D.f D.fd P__law_dice (spF K 2 wDice) := by
  refine fn_dataF D.F sc__law_dice rfl fun cdv A outer s H E hr => ?_
  refine ⟨_, (pss_cons (ps_set (i := 2) sc__law_dice.nd rfl (Or.inl rfl) (pe_ifExp (pt_cmpR op_lt (pv 1) (pe_callB call_lenA rfl T.n_len (by decide +kernel) (pa_cons (pv 0) pa_nil)) (nomark _)) (pe_callTy call_int1 rfl T.n_int (by decide +kernel) (pa_cons (pe_ix ix_seq (pv 0) (pv 1) (fun _ _ => rfl)) pa_nil)) (pe_op opA_add (pe_op opA_mul pe_int (pv 1)) pe_int))) (pss_cons (ps_set (i := 3) sc__law_dice.nd rfl (Or.inl rfl) (pe_op op_modN (pe_callB (call_max2 rfl) rfl T.n_max (by decide +kernel) (pa_cons pe_int (pa_cons (pe_op op_sub (pe_callB call_abs rfl T.n_abs (by decide +kernel) (pa_cons (pv 2) pa_nil)) (pe_op op_pow pe_int pe_int)) pa_nil))) (pe_op opA_mul (pe_op op_pow pe_int pe_int) (pe_op op_pow pe_int pe_int)))) (pss_one (ps_ret (pe_lst (pa_cons (pv 3) (pa_cons (pe_op opA_add (pe_op opA_add (pe_op opA_add (pe_op opA_mul (pe_op op_modN (pe_callB call_abs rfl T.n_abs (by decide +kernel) (pa_cons (pv 2) pa_nil)) pe_int) pe_int) (pe_op opA_mul pe_int (pv 1))) (pe_op opA_mul pe_int (pe_callTy call_int1 rfl T.n_int (by decide +kernel) (pa_cons (pe_cmpR op_lt (pv 2) pe_int (nomark _)) pa_nil)))) pe_int) (pa_cons pe_int pa_nil)))))))), ?_⟩
  rintro es Φ ⟨ns, i, rfl, hi, kk⟩ _
  try dsimp only [cxOf, Cx.nox, Cx.wish]
  refine ds_seq (ds_asg (dw_mid (fun d => ∃ c, d = .int c) ?_ ?_))
  · refine dw_if ?_
    walk_at "e"
    refine ⟨fun h => ?_, fun h => ?_⟩
    · have h : (i : Int) < ((ns.map PyData.int).length : Nat) := of_decide_eq_true h
      rw [List.length_map] at h
      walk_at "e"
      have hx : (ns.map PyData.int)[i]? = some (.int (ns[i]'(by omega))) := by
        rw [List.getElem?_map, List.getElem?_eq_getElem (by omega)]
        rfl
      refine rd_ixL (atI_nat hx) ?_
      walk_at "e"
      exact ⟨⟨_, rfl⟩, rfl⟩
    · walk_at "e"
      refine rd_mulS (.inl (by decide)) ?_
      walk_at "e"
      exact ⟨⟨_, rfl⟩, rfl⟩
  rintro d ⟨c, rfl⟩
  refine dg_name (.inl (by decide)) ?_
  refine ds_seq (ds_asg (dw_mid (fun d => ∃ l, 0 ≤ l ∧ d = .int l) ?_ ?_))
  · walk_at "e"
    refine rd_i ⟨by decide, by decide, by decide⟩ ?_
    walk_at "e"
    refine rd_i ⟨by decide, by decide, by decide⟩ ?_
    walk_at "e"
    refine rd_i ⟨by decide, by decide, by decide⟩ ?_
    walk_at "e"
    refine rd_mulI (by unfold CMulW; decide) ?_
    walk_at "e"
    refine rd_i (by decide) ?_
    exact ⟨⟨_, Int.fmod_nonneg_of_pos _ (by decide), rfl⟩, rfl⟩
  rintro d ⟨l, hl, rfl⟩
  refine dg_name (.inl (by decide)) ?_
  refine ds_retF (df_lst ?_)
  walk_at "e"
  refine rd_i (by decide) ?_
  walk_at "e"
  refine rd_mulS (.inr (by decide)) ?_
  walk_at "e"
  refine rd_mulS (.inl (by decide)) ?_
  walk_at "e"
  refine rd_mulS (.inl (by decide)) ?_
  walk_at "e"
  exact kk _ _ hl
def toldL : List PyData := [.int 0, .int (-10 ^ 60 + 1), .int (10 ^ 60), .bool true, .none, .str (Str.ofString "1"), .tuple [.int 1]]
theorem told_pl {i : Nat} {d : PyData} (h : toldL[i]? = some d) : Pl d := by
  have key : ∀ d ∈ toldL, Pl d := by
    intro d hd
    simp only [toldL, List.mem_cons, List.not_mem_nil, or_false] at hd
    rcases hd with rfl | rfl | rfl | rfl | rfl | rfl | rfl <;> trivial
  exact key d (List.mem_of_getElem? h)
def wLaw : SpW := fun es Φ => ∃ ns : List Int, es = [.val (.list (ns.map .int))] ∧ ns.length ≤ 63 ∧ Φ (.bool true) es
theorem map_isI : (toldL.map fun d => PyData.bool (isIntegerD d)) = [.bool true, .bool true, .bool false, .bool false, .bool false, .bool false, .bool false] := by
  simp only [toldL, List.map]
  have h1 : isIntegerD (.int 0) = true := by decide +kernel
  have h2 : isIntegerD (.int (-10 ^ 60 + 1)) = true := by decide +kernel
  have h3 : isIntegerD (.int (10 ^ 60)) = false := by decide +kernel
  rw [h1, h2, h3]
  rfl
theorem take_snoc {α : Type} {l : List α} {i : Nat} {x : α} (h : l[i]? = some x) : l.take i ++ [x] = l.take (i + 1) := by
  rw [List.take_add_one, h]
  rfl
theorem ok_law (T : Txt K mg) (D : TD K mg "law" s_law P_law) (G_bernoulli : Cal P w K mg base 4 "bernoulli" P_bernoulli (spD K 1 wBernoulli)) (G_binomial : Cal P w K mg base 3 "binomial" P_binomial (spD K 2 wBinomial))
    (G_is_integer : Cal P w K mg base 2 "is_integer" P_is_integer (spD K 1 wIsInteger)) (G__law_numbers_right : Cal P w K mg base 5 "_law_numbers_right" P__law_numbers_right (spD K 1 wNumbers)) (G__law_right : Cal P w K mg base 8 "_law_right" P__law_right (spD K 1 wNumbers))
    (G__law_dice : Cal P w K mg base 1 "_law_dice" P__law_dice (spF K 2 wDice)) : FnOk P w K mg base CX0 9 D.f D.fd P_law (spD K 1 wLaw) := by
  refine fn_data D.F sc_law rfl fun cdv A outer s H E hr => ?_
  have hu := hr.units
  refine ⟨_, (pss_cons (ps_for PassesOwn.never rfl (pi_range1 rfl T.n_range (pa_cons (pe_callB (call_max2 rfl) rfl T.n_max (by decide +kernel) (pa_cons pe_int (pa_cons (pe_callB (call_min2 rfl) rfl T.n_min (by decide +kernel) (pa_cons pe_int (pa_cons (pe_callB call_lenA rfl T.n_len (by decide +kernel) (pa_cons (pv 0) pa_nil)) pa_nil))) pa_nil))) pa_nil)) (pg_name (i := 1) sc_law.nd rfl (Or.inl rfl)) (pss_cons (ps_set (i := 2) sc_law.nd rfl (Or.inl rfl) (pe_call G__law_dice.ok (hr.mono (by decide)) rfl G__law_dice.m G__law_dice.kp G__law_dice.b .nil pass0 (pa_cons (pv 0) (pa_cons (pv 1) pa_nil)))) (pss_one (ps_if (PW.pt (pw_or (pt_not (pt_val (pe_call G__law_right.ok (hr.mono (by decide)) rfl G__law_right.m G__law_right.kp G__law_right.b .nil pass0 (pa_cons (pv 2) pa_nil)))) (pw_or1 (pt_not (pt_val (pe_call G__law_numbers_right.ok (hr.mono (by decide)) rfl G__law_numbers_right.m G__law_numbers_right.kp G__law_numbers_right.b .nil pass0 (pa_cons (pv 2) pa_nil))))))) (pss_one (ps_ret pe_bl)) pss_nil)))) (pss_cons (ps_setLc (i := 3) (own := [("_law_value", 4)]) (g := gName 4) (tt := tYes) rfl sc_law.nd rfl rfl (sw_true rfl rfl rfl (by decide +kernel)) (pi_tup (pe_tup (pa_cons pe_int (pa_cons (pe_op opA_add (pe_un un_neg (pe_op op_pow pe_int pe_int)) pe_int) (pa_cons (pe_op op_pow pe_int pe_int) (pa_cons pe_bl (pa_cons pe_non (pa_cons pe_str (pa_cons (pe_tup (pa_cons pe_int pa_nil)) pa_nil))))))))) (blkOk_by (own := [("_law_value", 4)]) (N := N_law) (sc := defScope s_law) (by decide +kernel)) (fun _ _ _ _ _ => pg_name (i := 4) sc_law.nd rfl (Or.inl rfl)) (fun _ _ _ _ _ => pts_nil) (fun _ _ _ _ _ => (pe_call G_is_integer.ok (hr.mono (by decide)) rfl G_is_integer.m G_is_integer.kp G_is_integer.b .nil pass0 (pa_cons (pv 4) pa_nil)))) (pss_cons (ps_if (pt_cmpR (opA_ne hu) (pv 3) (pe_lst (pa_cons pe_bl (pa_cons pe_bl (pa_cons pe_bl (pa_cons pe_bl (pa_cons pe_bl (pa_cons pe_bl (pa_cons pe_bl pa_nil)))))))) (nomark _)) (pss_one (ps_ret pe_bl)) pss_nil) (pss_one (ps_ret (pe_cmpR (opA_eq hu) (pe_lst (pa_cons (pe_call G_binomial.ok (hr.mono (by decide)) rfl G_binomial.m G_binomial.kp G_binomial.b .nil pass0 (pa_cons pe_int (pa_cons pe_int pa_nil))) (pa_cons (pe_call G_binomial.ok (hr.mono (by decide)) rfl G_binomial.m G_binomial.kp G_binomial.b .nil pass0 (pa_cons pe_int (pa_cons pe_int pa_nil))) (pa_cons (pe_call G_bernoulli.ok (hr.mono (by decide)) rfl G_bernoulli.m G_bernoulli.kp G_bernoulli.b .nil pass0 (pa_cons pe_int pa_nil)) (pa_cons (pe_call G_bernoulli.ok (hr.mono (by decide)) rfl G_bernoulli.m G_bernoulli.kp G_bernoulli.b .nil pass0 (pa_cons pe_int pa_nil)) pa_nil))))) (pe_lst (pa_cons pe_int (pa_cons pe_int (pa_cons (pe_tup (pa_cons (pe_un un_neg pe_int) (pa_cons pe_int pa_nil))) (pa_cons (pe_tup (pa_cons (pe_un un_neg pe_int) (pa_cons pe_int pa_nil))) pa_nil))))) (nomark _))))))), ?_⟩
  rintro es Φ ⟨ns, rfl, hlen, kk⟩ _
  try dsimp only [cxOf, Cx.nox, Cx.wish]
  refine ds_seq (ds_for (di_rng1 ?_))
  walk_at "e"
  generalize hN : (if (if ((List.map PyData.int ns).length : Int) < 6 then ((List.map PyData.int ns).length : Int) else 6) > 1 then (if ((List.map PyData.int ns).length : Int) < 6 then ((List.map PyData.int ns).length : Int) else 6) else 1) = N
  have hN2 : 1 ≤ N ∧ N ≤ 6 := by
    rw [← hN]
    repeat' split
    all_goals omega
  refine ⟨_, rfl, ⟨by omega, by omega⟩, fun i ρ' => ∃ a b, ρ' = [some (.val (.list (ns.map .int))), a, b, none, none], ⟨_, _, rfl⟩, fun i d ρ' hd ⟨a, b, hρ⟩ => ?_, fun ρ' ⟨a, b, hρ⟩ => ?_⟩
  · obtain ⟨hi, rfl⟩ := rngD_get hd
    subst hρ
    rw [Int.zero_add]
    refine dg_name (.inl (by decide)) ?_
    refine ds_seq (ds_asgF (df_call ?_))
    walk_at "e"
    refine ⟨rfl, ns, i, rfl, by omega, fun l s hl => ⟨by decide, ?_⟩⟩
    refine ds_if ?_
    walk_at "e"
    refine ⟨rfl, _, rfl, l, s, 0, rfl, hl, ?_⟩
    intro l1 t1 hl1 ds2 rest e
    cases e
    walk_at "e"
    refine ⟨rfl, _, rfl, l1, s, t1, rfl, hl1, ?_⟩
    intro l2 t2 hl2 ds2 rest e
    cases e
    walk_at "e"
    exact ⟨_, _, rfl⟩
  · subst hρ
    refine ds_seq (ds_asg (dw_fresh (df_lc (di_tup ?_))))
    walk_at "e"
    refine rd_i ⟨by decide, by decide, by decide⟩ ?_
    walk_at "e"
    refine rd_i ⟨by decide, by decide, by decide⟩ ?_
    walk_at "e"
    refine ⟨toldL, rfl, by decide, by decide, rfl, fun i out ρ' => out = (toldL.take i).map (fun d => PyData.bool (isIntegerD d)) ∧ ρ' = [some (.val (.list (ns.map .int))), a, b, none, none], ⟨rfl, rfl⟩, ?_, ?_⟩
    · rintro i d out ρ' hd ⟨rfl, rfl⟩ _
      walk_at "e"
      refine ⟨rfl, _, rfl, told_pl hd, ?_⟩
      refine ⟨?_, rfl⟩
      rw [← take_snoc hd, List.map_append]
      rfl
    · rintro out ρ' ⟨rfl, rfl⟩
      have e : toldL.take toldL.length = toldL := List.take_length
      rw [e, map_isI]
      walk_at "e"
      refine ds_if ?_
      walk_at "e"
      refine rd_neS rfl rfl ?_
      walk_at "e"
      refine ⟨rfl, 6, 2, rfl, by decide, by decide, ?_⟩
      walk_at "e"
      refine ⟨rfl, 2, 3, rfl, by decide, by decide, ?_⟩
      walk_at "e"
      refine ⟨rfl, 12, rfl, by decide, ?_⟩
      walk_at "e"
      refine ⟨rfl, 1, rfl, by decide, ?_⟩
      walk_at "e"
      refine rd_eq (by decide +kernel) (by decide +kernel) ?_
      have e : PyData.eqv (.list [.int (PySem.W.mcComb 6 2), .int (PySem.W.mcComb 2 3), rat (bT 12), rat (bT 1)]) (.list [.int 15, .int 0, .tuple [.int (-691), .int 2730], .tuple [.int (-1), .int 2]]) = true := by decide +kernel
      have kk' := kk
      rw [← e] at kk'
      exact kk'
end
end K00
namespace K00
open PySem L2 PySem.Spec PyProof.Rows DL
theorem all_mk {l : PySem.W.OpenLaw} {w : World} {K : PySem.W.Frag} {h : Heap} {mg : Str → Option Value} {fa : Addr} (X : K.In h) (G : h.Ns mainGlobals mg) (hfa : mg "law" = some (.ref fa))
    {f0 : Addr} {od0 an0 : Option Addr} {sl0 : Array (Option Value)} {oc0 kV0 dc0 pm0 cd0 ct0 : Value}
    {f1 : Addr} {od1 an1 : Option Addr} {sl1 : Array (Option Value)} {oc1 kV1 dc1 pm1 cd1 ct1 : Value}
    {f2 : Addr} {od2 an2 : Option Addr} {sl2 : Array (Option Value)} {oc2 kV2 dc2 pm2 cd2 ct2 : Value}
    {f3 : Addr} {od3 an3 : Option Addr} {sl3 : Array (Option Value)} {oc3 kV3 dc3 pm3 cd3 ct3 : Value}
    {f4 : Addr} {od4 an4 : Option Addr} {sl4 : Array (Option Value)} {oc4 kV4 dc4 pm4 cd4 ct4 : Value}
    {f5 : Addr} {od5 an5 : Option Addr} {sl5 : Array (Option Value)} {oc5 kV5 dc5 pm5 cd5 ct5 : Value}
    {f6 : Addr} {od6 an6 : Option Addr} {sl6 : Array (Option Value)} {oc6 kV6 dc6 pm6 cd6 ct6 : Value}
    {f7 : Addr} {od7 an7 : Option Addr} {sl7 : Array (Option Value)} {oc7 kV7 dc7 pm7 cd7 ct7 : Value}
    {f8 : Addr} {od8 an8 : Option Addr} {sl8 : Array (Option Value)} {oc8 kV8 dc8 pm8 cd8 ct8 : Value}
    {f9 : Addr} {od9 an9 : Option Addr} {sl9 : Array (Option Value)} {oc9 kV9 dc9 pm9 cd9 ct9 : Value}
    {f10 : Addr} {od10 an10 : Option Addr} {sl10 : Array (Option Value)} {oc10 kV10 dc10 pm10 cd10 ct10 : Value}
    {f11 : Addr} {od11 an11 : Option Addr} {sl11 : Array (Option Value)} {oc11 kV11 dc11 pm11 cd11 ct11 : Value}
    {f12 : Addr} {od12 an12 : Option Addr} {sl12 : Array (Option Value)} {oc12 kV12 dc12 pm12 cd12 ct12 : Value}
    {f13 : Addr} {od13 an13 : Option Addr} {sl13 : Array (Option Value)} {oc13 kV13 dc13 pm13 cd13 ct13 : Value}
    {f14 : Addr} {od14 an14 : Option Addr} {sl14 : Array (Option Value)} {oc14 kV14 dc14 pm14 cd14 ct14 : Value}
    {f15 : Addr} {od15 an15 : Option Addr} {sl15 : Array (Option Value)} {oc15 kV15 dc15 pm15 cd15 ct15 : Value}
    {f16 : Addr} {od16 an16 : Option Addr} {sl16 : Array (Option Value)} {oc16 kV16 dc16 pm16 cd16 ct16 : Value}
    {f17 : Addr} {od17 an17 : Option Addr} {sl17 : Array (Option Value)} {oc17 kV17 dc17 pm17 cd17 ct17 : Value}
    {f18 : Addr} {od18 an18 : Option Addr} {sl18 : Array (Option Value)} {oc18 kV18 dc18 pm18 cd18 ct18 : Value}
    {f19 : Addr} {od19 an19 : Option Addr} {sl19 : Array (Option Value)} {oc19 kV19 dc19 pm19 cd19 ct19 : Value}
    {f20 : Addr} {od20 an20 : Option Addr} {sl20 : Array (Option Value)} {oc20 kV20 dc20 pm20 cd20 ct20 : Value}
    {f21 : Addr} {od21 an21 : Option Addr} {sl21 : Array (Option Value)} {oc21 kV21 dc21 pm21 cd21 ct21 : Value}
    {f22 : Addr} {od22 an22 : Option Addr} {sl22 : Array (Option Value)} {oc22 kV22 dc22 pm22 cd22 ct22 : Value}
    {f23 : Addr} {od23 an23 : Option Addr} {sl23 : Array (Option Value)} {oc23 kV23 dc23 pm23 cd23 ct23 : Value}
    {f24 : Addr} {od24 an24 : Option Addr} {sl24 : Array (Option Value)} {oc24 kV24 dc24 pm24 cd24 ct24 : Value}
    {f25 : Addr} {od25 an25 : Option Addr} {sl25 : Array (Option Value)} {oc25 kV25 dc25 pm25 cd25 ct25 : Value}
    {f26 : Addr} {od26 an26 : Option Addr} {sl26 : Array (Option Value)} {oc26 kV26 dc26 pm26 cd26 ct26 : Value}
    {f27 : Addr} {od27 an27 : Option Addr} {sl27 : Array (Option Value)} {oc27 kV27 dc27 pm27 cd27 ct27 : Value}
    {f28 : Addr} {od28 an28 : Option Addr} {sl28 : Array (Option Value)} {oc28 kV28 dc28 pm28 cd28 ct28 : Value}
    {f29 : Addr} {od29 an29 : Option Addr} {sl29 : Array (Option Value)} {oc29 kV29 dc29 pm29 cd29 ct29 : Value}
    {f30 : Addr} {od30 an30 : Option Addr} {sl30 : Array (Option Value)} {oc30 kV30 dc30 pm30 cd30 ct30 : Value}
    {f31 : Addr} {od31 an31 : Option Addr} {sl31 : Array (Option Value)} {oc31 kV31 dc31 pm31 cd31 ct31 : Value}
    {f32 : Addr} {od32 an32 : Option Addr} {sl32 : Array (Option Value)} {oc32 kV32 dc32 pm32 cd32 ct32 : Value}
    {f33 : Addr} {od33 an33 : Option Addr} {sl33 : Array (Option Value)} {oc33 kV33 dc33 pm33 cd33 ct33 : Value}
    {f34 : Addr} {od34 an34 : Option Addr} {sl34 : Array (Option Value)} {oc34 kV34 dc34 pm34 cd34 ct34 : Value}
    {f35 : Addr} {od35 an35 : Option Addr} {sl35 : Array (Option Value)} {oc35 kV35 dc35 pm35 cd35 ct35 : Value}
    {f36 : Addr} {od36 an36 : Option Addr} {sl36 : Array (Option Value)} {oc36 kV36 dc36 pm36 cd36 ct36 : Value}
    {tk0 : Tok}
    {tk1 : Tok}
    {tk2 : Tok}
    (a0 : PySem.W.nsIn K mainGlobals "reduced" = some (some (.ref f0))) (l0 : K.lookup f0 = some ⟨oc0, od0, .func (PySem.W.fnOf "reduced" "reduced" (defArgs s_reduced) (defBody s_reduced) (defScope s_reduced) .none kV0 dc0 pm0 an0 cd0 ct0), sl0⟩) (c0 : PySem.W.codeIn K cd0 "reduced" = true) (k0 : PySem.W.keepIn K (.ref f0) = true)
    (a1 : PySem.W.nsIn K mainGlobals "multiplied" = some (some (.ref f1))) (l1 : K.lookup f1 = some ⟨oc1, od1, .func (PySem.W.fnOf "multiplied" "multiplied" (defArgs s_multiplied) (defBody s_multiplied) (defScope s_multiplied) .none kV1 dc1 pm1 an1 cd1 ct1), sl1⟩) (c1 : PySem.W.codeIn K cd1 "multiplied" = true) (k1 : PySem.W.keepIn K (.ref f1) = true)
    (a2 : PySem.W.nsIn K mainGlobals "added" = some (some (.ref f2))) (l2 : K.lookup f2 = some ⟨oc2, od2, .func (PySem.W.fnOf "added" "added" (defArgs s_added) (defBody s_added) (defScope s_added) .none kV2 dc2 pm2 an2 cd2 ct2), sl2⟩) (c2 : PySem.W.codeIn K cd2 "added" = true) (k2 : PySem.W.keepIn K (.ref f2) = true)
    (a3 : PySem.W.nsIn K mainGlobals "_next_bernoulli" = some (some (.ref f3))) (l3 : K.lookup f3 = some ⟨oc3, od3, .func (PySem.W.fnOf "_next_bernoulli" "_next_bernoulli" (defArgs s__next_bernoulli) (defBody s__next_bernoulli) (defScope s__next_bernoulli) .none kV3 dc3 pm3 an3 cd3 ct3), sl3⟩) (c3 : PySem.W.codeIn K cd3 "_next_bernoulli" = true) (k3 : PySem.W.keepIn K (.ref f3) = true)
    (a4 : PySem.W.nsIn K mainGlobals "is_whole" = some (some (.ref f4))) (l4 : K.lookup f4 = some ⟨oc4, od4, .func (PySem.W.fnOf "is_whole" "is_whole" (defArgs s_is_whole) (defBody s_is_whole) (defScope s_is_whole) .none kV4 dc4 pm4 an4 cd4 ct4), sl4⟩) (c4 : PySem.W.codeIn K cd4 "is_whole" = true) (k4 : PySem.W.keepIn K (.ref f4) = true)
    (a5 : PySem.W.nsIn K mainGlobals "need_between" = some (some (.ref f5))) (l5 : K.lookup f5 = some ⟨oc5, od5, .func (PySem.W.fnOf "need_between" "need_between" (defArgs s_need_between) (defBody s_need_between) (defScope s_need_between) .none kV5 dc5 pm5 an5 cd5 ct5), sl5⟩) (c5 : PySem.W.codeIn K cd5 "need_between" = true) (k5 : PySem.W.keepIn K (.ref f5) = true)
    (a6 : PySem.W.nsIn K mainGlobals "bernoulli" = some (some (.ref f6))) (l6 : K.lookup f6 = some ⟨oc6, od6, .func (PySem.W.fnOf "bernoulli" "bernoulli" (defArgs s_bernoulli) (defBody s_bernoulli) (defScope s_bernoulli) .none kV6 dc6 pm6 an6 cd6 ct6), sl6⟩) (c6 : PySem.W.codeIn K cd6 "bernoulli" = true) (k6 : PySem.W.keepIn K (.ref f6) = true)
    (a7 : PySem.W.nsIn K mainGlobals "binomial" = some (some (.ref f7))) (l7 : K.lookup f7 = some ⟨oc7, od7, .func (PySem.W.fnOf "binomial" "binomial" (defArgs s_binomial) (defBody s_binomial) (defScope s_binomial) .none kV7 dc7 pm7 an7 cd7 ct7), sl7⟩) (c7 : PySem.W.codeIn K cd7 "binomial" = true) (k7 : PySem.W.keepIn K (.ref f7) = true)
    (a8 : PySem.W.nsIn K mainGlobals "is_integer" = some (some (.ref f8))) (l8 : K.lookup f8 = some ⟨oc8, od8, .func (PySem.W.fnOf "is_integer" "is_integer" (defArgs s_is_integer) (defBody s_is_integer) (defScope s_is_integer) .none kV8 dc8 pm8 an8 cd8 ct8), sl8⟩) (c8 : PySem.W.codeIn K cd8 "is_integer" = true) (k8 : PySem.W.keepIn K (.ref f8) = true)
    (a9 : PySem.W.nsIn K mainGlobals "_law_gcd" = some (some (.ref f9))) (l9 : K.lookup f9 = some ⟨oc9, od9, .func (PySem.W.fnOf "_law_gcd" "_law_gcd" (defArgs s__law_gcd) (defBody s__law_gcd) (defScope s__law_gcd) .none kV9 dc9 pm9 an9 cd9 ct9), sl9⟩) (c9 : PySem.W.codeIn K cd9 "_law_gcd" = true) (k9 : PySem.W.keepIn K (.ref f9) = true)
    (a10 : PySem.W.nsIn K mainGlobals "_law_lowest" = some (some (.ref f10))) (l10 : K.lookup f10 = some ⟨oc10, od10, .func (PySem.W.fnOf "_law_lowest" "_law_lowest" (defArgs s__law_lowest) (defBody s__law_lowest) (defScope s__law_lowest) .none kV10 dc10 pm10 an10 cd10 ct10), sl10⟩) (c10 : PySem.W.codeIn K cd10 "_law_lowest" = true) (k10 : PySem.W.keepIn K (.ref f10) = true)
    (a11 : PySem.W.nsIn K mainGlobals "_law_plus" = some (some (.ref f11))) (l11 : K.lookup f11 = some ⟨oc11, od11, .func (PySem.W.fnOf "_law_plus" "_law_plus" (defArgs s__law_plus) (defBody s__law_plus) (defScope s__law_plus) .none kV11 dc11 pm11 an11 cd11 ct11), sl11⟩) (c11 : PySem.W.codeIn K cd11 "_law_plus" = true) (k11 : PySem.W.keepIn K (.ref f11) = true)
    (a12 : PySem.W.nsIn K mainGlobals "_law_times" = some (some (.ref f12))) (l12 : K.lookup f12 = some ⟨oc12, od12, .func (PySem.W.fnOf "_law_times" "_law_times" (defArgs s__law_times) (defBody s__law_times) (defScope s__law_times) .none kV12 dc12 pm12 an12 cd12 ct12), sl12⟩) (c12 : PySem.W.codeIn K cd12 "_law_times" = true) (k12 : PySem.W.keepIn K (.ref f12) = true)
    (a13 : PySem.W.nsIn K mainGlobals "_law_choose" = some (some (.ref f13))) (l13 : K.lookup f13 = some ⟨oc13, od13, .func (PySem.W.fnOf "_law_choose" "_law_choose" (defArgs s__law_choose) (defBody s__law_choose) (defScope s__law_choose) .none kV13 dc13 pm13 an13 cd13 ct13), sl13⟩) (c13 : PySem.W.codeIn K cd13 "_law_choose" = true) (k13 : PySem.W.keepIn K (.ref f13) = true)
    (a14 : PySem.W.nsIn K mainGlobals "_law_bernoulli" = some (some (.ref f14))) (l14 : K.lookup f14 = some ⟨oc14, od14, .func (PySem.W.fnOf "_law_bernoulli" "_law_bernoulli" (defArgs s__law_bernoulli) (defBody s__law_bernoulli) (defScope s__law_bernoulli) .none kV14 dc14 pm14 an14 cd14 ct14), sl14⟩) (c14 : PySem.W.codeIn K cd14 "_law_bernoulli" = true) (k14 : PySem.W.keepIn K (.ref f14) = true)
    (a15 : PySem.W.nsIn K mainGlobals "_law_roll" = some (some (.ref f15))) (l15 : K.lookup f15 = some ⟨oc15, od15, .func (PySem.W.fnOf "_law_roll" "_law_roll" (defArgs s__law_roll) (defBody s__law_roll) (defScope s__law_roll) .none kV15 dc15 pm15 an15 cd15 ct15), sl15⟩) (c15 : PySem.W.codeIn K cd15 "_law_roll" = true) (k15 : PySem.W.keepIn K (.ref f15) = true)
    (a16 : PySem.W.nsIn K mainGlobals "_law_numbers_right" = some (some (.ref f16))) (l16 : K.lookup f16 = some ⟨oc16, od16, .func (PySem.W.fnOf "_law_numbers_right" "_law_numbers_right" (defArgs s__law_numbers_right) (defBody s__law_numbers_right) (defScope s__law_numbers_right) .none kV16 dc16 pm16 an16 cd16 ct16), sl16⟩) (c16 : PySem.W.codeIn K cd16 "_law_numbers_right" = true) (k16 : PySem.W.keepIn K (.ref f16) = true)
    (a17 : PySem.W.nsIn K mainGlobals "is_exact" = some (some (.ref f17))) (l17 : K.lookup f17 = some ⟨oc17, od17, .func (PySem.W.fnOf "is_exact" "is_exact" (defArgs s_is_exact) (defBody s_is_exact) (defScope s_is_exact) .none kV17 dc17 pm17 an17 cd17 ct17), sl17⟩) (c17 : PySem.W.codeIn K cd17 "is_exact" = true) (k17 : PySem.W.keepIn K (.ref f17) = true)
    (a18 : PySem.W.nsIn K mainGlobals "is_ratio" = some (some (.ref f18))) (l18 : K.lookup f18 = some ⟨oc18, od18, .func (PySem.W.fnOf "is_ratio" "is_ratio" (defArgs s_is_ratio) (defBody s_is_ratio) (defScope s_is_ratio) .none kV18 dc18 pm18 an18 cd18 ct18), sl18⟩) (c18 : PySem.W.codeIn K cd18 "is_ratio" = true) (k18 : PySem.W.keepIn K (.ref f18) = true)
    (a19 : PySem.W.nsIn K mainGlobals "need_ratio" = some (some (.ref f19))) (l19 : K.lookup f19 = some ⟨oc19, od19, .func (PySem.W.fnOf "need_ratio" "need_ratio" (defArgs s_need_ratio) (defBody s_need_ratio) (defScope s_need_ratio) .none kV19 dc19 pm19 an19 cd19 ct19), sl19⟩) (c19 : PySem.W.codeIn K cd19 "need_ratio" = true) (k19 : PySem.W.keepIn K (.ref f19) = true)
    (a20 : PySem.W.nsIn K mainGlobals "ratio_text" = some (some (.ref f20))) (l20 : K.lookup f20 = some ⟨oc20, od20, .func (PySem.W.fnOf "ratio_text" "ratio_text" (defArgs s_ratio_text) (defBody s_ratio_text) (defScope s_ratio_text) .none kV20 dc20 pm20 an20 cd20 ct20), sl20⟩) (c20 : PySem.W.codeIn K cd20 "ratio_text" = true) (k20 : PySem.W.keepIn K (.ref f20) = true)
    (a21 : PySem.W.nsIn K mainGlobals "_law_text_of" = some (some (.ref f21))) (l21 : K.lookup f21 = some ⟨oc21, od21, .func (PySem.W.fnOf "_law_text_of" "_law_text_of" (defArgs s__law_text_of) (defBody s__law_text_of) (defScope s__law_text_of) .none kV21 dc21 pm21 an21 cd21 ct21), sl21⟩) (c21 : PySem.W.codeIn K cd21 "_law_text_of" = true) (k21 : PySem.W.keepIn K (.ref f21) = true)
    (a22 : PySem.W.nsIn K mainGlobals "need_ratios" = some (some (.ref f22))) (l22 : K.lookup f22 = some ⟨oc22, od22, .func (PySem.W.fnOf "need_ratios" "need_ratios" (defArgs s_need_ratios) (defBody s_need_ratios) (defScope s_need_ratios) .none kV22 dc22 pm22 an22 cd22 ct22), sl22⟩) (c22 : PySem.W.codeIn K cd22 "need_ratios" = true) (k22 : PySem.W.keepIn K (.ref f22) = true)
    (a23 : PySem.W.nsIn K mainGlobals "compare" = some (some (.ref f23))) (l23 : K.lookup f23 = some ⟨oc23, od23, .func (PySem.W.fnOf "compare" "compare" (defArgs s_compare) (defBody s_compare) (defScope s_compare) .none kV23 dc23 pm23 an23 cd23 ct23), sl23⟩) (c23 : PySem.W.codeIn K cd23 "compare" = true) (k23 : PySem.W.keepIn K (.ref f23) = true)
    (a24 : PySem.W.nsIn K mainGlobals "over" = some (some (.ref f24))) (l24 : K.lookup f24 = some ⟨oc24, od24, .func (PySem.W.fnOf "over" "over" (defArgs s_over) (defBody s_over) (defScope s_over) .none kV24 dc24 pm24 an24 cd24 ct24), sl24⟩) (c24 : PySem.W.codeIn K cd24 "over" = true) (k24 : PySem.W.keepIn K (.ref f24) = true)
    (a25 : PySem.W.nsIn K mainGlobals "times" = some (some (.ref f25))) (l25 : K.lookup f25 = some ⟨oc25, od25, .func (PySem.W.fnOf "times" "times" (defArgs s_times) (defBody s_times) (defScope s_times) .none kV25 dc25 pm25 an25 cd25 ct25), sl25⟩) (c25 : PySem.W.codeIn K cd25 "times" = true) (k25 : PySem.W.keepIn K (.ref f25) = true)
    (a26 : PySem.W.nsIn K mainGlobals "opposite" = some (some (.ref f26))) (l26 : K.lookup f26 = some ⟨oc26, od26, .func (PySem.W.fnOf "opposite" "opposite" (defArgs s_opposite) (defBody s_opposite) (defScope s_opposite) .none kV26 dc26 pm26 an26 cd26 ct26), sl26⟩) (c26 : PySem.W.codeIn K cd26 "opposite" = true) (k26 : PySem.W.keepIn K (.ref f26) = true)
    (a27 : PySem.W.nsIn K mainGlobals "minus" = some (some (.ref f27))) (l27 : K.lookup f27 = some ⟨oc27, od27, .func (PySem.W.fnOf "minus" "minus" (defArgs s_minus) (defBody s_minus) (defScope s_minus) .none kV27 dc27 pm27 an27 cd27 ct27), sl27⟩) (c27 : PySem.W.codeIn K cd27 "minus" = true) (k27 : PySem.W.keepIn K (.ref f27) = true)
    (a28 : PySem.W.nsIn K mainGlobals "plus" = some (some (.ref f28))) (l28 : K.lookup f28 = some ⟨oc28, od28, .func (PySem.W.fnOf "plus" "plus" (defArgs s_plus) (defBody s_plus) (defScope s_plus) .none kV28 dc28 pm28 an28 cd28 ct28), sl28⟩) (c28 : PySem.W.codeIn K cd28 "plus" = true) (k28 : PySem.W.keepIn K (.ref f28) = true)
    (a29 : PySem.W.nsIn K mainGlobals "_law_two_right" = some (some (.ref f29))) (l29 : K.lookup f29 = some ⟨oc29, od29, .func (PySem.W.fnOf "_law_two_right" "_law_two_right" (defArgs s__law_two_right) (defBody s__law_two_right) (defScope s__law_two_right) .none kV29 dc29 pm29 an29 cd29 ct29), sl29⟩) (c29 : PySem.W.codeIn K cd29 "_law_two_right" = true) (k29 : PySem.W.keepIn K (.ref f29) = true)
    (a30 : PySem.W.nsIn K mainGlobals "lowest" = some (some (.ref f30))) (l30 : K.lookup f30 = some ⟨oc30, od30, .func (PySem.W.fnOf "lowest" "lowest" (defArgs s_lowest) (defBody s_lowest) (defScope s_lowest) .none kV30 dc30 pm30 an30 cd30 ct30), sl30⟩) (c30 : PySem.W.codeIn K cd30 "lowest" = true) (k30 : PySem.W.keepIn K (.ref f30) = true)
    (a31 : PySem.W.nsIn K mainGlobals "_law_near" = some (some (.ref f31))) (l31 : K.lookup f31 = some ⟨oc31, od31, .func (PySem.W.fnOf "_law_near" "_law_near" (defArgs s__law_near) (defBody s__law_near) (defScope s__law_near) .none kV31 dc31 pm31 an31 cd31 ct31), sl31⟩) (c31 : PySem.W.codeIn K cd31 "_law_near" = true) (k31 : PySem.W.keepIn K (.ref f31) = true)
    (a32 : PySem.W.nsIn K mainGlobals "_law_pick" = some (some (.ref f32))) (l32 : K.lookup f32 = some ⟨oc32, od32, .func (PySem.W.fnOf "_law_pick" "_law_pick" (defArgs s__law_pick) (defBody s__law_pick) (defScope s__law_pick) .none kV32 dc32 pm32 an32 cd32 ct32), sl32⟩) (c32 : PySem.W.codeIn K cd32 "_law_pick" = true) (k32 : PySem.W.keepIn K (.ref f32) = true)
    (a33 : PySem.W.nsIn K mainGlobals "_law_ratio_drawn" = some (some (.ref f33))) (l33 : K.lookup f33 = some ⟨oc33, od33, .func (PySem.W.fnOf "_law_ratio_drawn" "_law_ratio_drawn" (defArgs s__law_ratio_drawn) (defBody s__law_ratio_drawn) (defScope s__law_ratio_drawn) .none kV33 dc33 pm33 an33 cd33 ct33), sl33⟩) (c33 : PySem.W.codeIn K cd33 "_law_ratio_drawn" = true) (k33 : PySem.W.keepIn K (.ref f33) = true)
    (a34 : PySem.W.nsIn K mainGlobals "_law_right" = some (some (.ref f34))) (l34 : K.lookup f34 = some ⟨oc34, od34, .func (PySem.W.fnOf "_law_right" "_law_right" (defArgs s__law_right) (defBody s__law_right) (defScope s__law_right) .none kV34 dc34 pm34 an34 cd34 ct34), sl34⟩) (c34 : PySem.W.codeIn K cd34 "_law_right" = true) (k34 : PySem.W.keepIn K (.ref f34) = true)
    (a35 : PySem.W.nsIn K mainGlobals "_law_dice" = some (some (.ref f35))) (l35 : K.lookup f35 = some ⟨oc35, od35, .func (PySem.W.fnOf "_law_dice" "_law_dice" (defArgs s__law_dice) (defBody s__law_dice) (defScope s__law_dice) .none kV35 dc35 pm35 an35 cd35 ct35), sl35⟩) (c35 : PySem.W.codeIn K cd35 "_law_dice" = true) (k35 : PySem.W.keepIn K (.ref f35) = true)
    (a36 : PySem.W.nsIn K mainGlobals "law" = some (some (.ref f36))) (l36 : K.lookup f36 = some ⟨oc36, od36, .func (PySem.W.fnOf "law" "law" (defArgs s_law) (defBody s_law) (defScope s_law) .none kV36 dc36 pm36 an36 cd36 ct36), sl36⟩) (c36 : PySem.W.codeIn K cd36 "law" = true) (k36 : PySem.W.keepIn K (.ref f36) = true)
    (z_isinstance : PySem.W.nsIn K mainGlobals "isinstance" = some none)
    (z_int : PySem.W.nsIn K mainGlobals "int" = some none)
    (z_bool : PySem.W.nsIn K mainGlobals "bool" = some none)
    (z_tuple : PySem.W.nsIn K mainGlobals "tuple" = some none)
    (z_str : PySem.W.nsIn K mainGlobals "str" = some none)
    (z_len : PySem.W.nsIn K mainGlobals "len" = some none)
    (z_abs : PySem.W.nsIn K mainGlobals "abs" = some none)
    (z_max : PySem.W.nsIn K mainGlobals "max" = some none)
    (z_min : PySem.W.nsIn K mainGlobals "min" = some none)
    (z_range : PySem.W.nsIn K mainGlobals "range" = some none)
    (z_enumerate : PySem.W.nsIn K mainGlobals "enumerate" = some none)
    (z_gcd : PySem.W.nsIn K mainGlobals "gcd" = some (some (.builtin "math.gcd")))
    (z_comb : PySem.W.nsIn K mainGlobals "comb" = some (some (.builtin "math.comb")))
    (z_LONG : PySem.W.nsIn K mainGlobals "LONG" = some (some (.int 1000000000000000000000000000000000000000000000000000000000000 tk0)))
    (z_MAX_CHOSEN : PySem.W.nsIn K mainGlobals "MAX_CHOSEN" = some (some (.int 400 tk1)))
    (z_MAX_BERNOULLI : PySem.W.nsIn K mainGlobals "MAX_BERNOULLI" = some (some (.int 200 tk2))) :
    ∃ fd : FuncData, (∀ (s : Shared) (v : Value), BindsTo s fd ⟨[v], []⟩ [("_law_script", v)]) ∧ ∀ base : Heap, K.In base → base.Ns mainGlobals mg → FnOk l.prog w K mg base CX0 9 fa fd P_law (spD K 1 wLaw) := by
  have e := hfa.symm.trans (PySem.W.mg_of X G a36)
  cases e
  let T : Txt K mg := { n_isinstance := PySem.W.mg_none_of X G z_isinstance, n_int := PySem.W.mg_none_of X G z_int, n_bool := PySem.W.mg_none_of X G z_bool, n_tuple := PySem.W.mg_none_of X G z_tuple, n_str := PySem.W.mg_none_of X G z_str, n_len := PySem.W.mg_none_of X G z_len, n_abs := PySem.W.mg_none_of X G z_abs, n_max := PySem.W.mg_none_of X G z_max, n_min := PySem.W.mg_none_of X G z_min, n_range := PySem.W.mg_none_of X G z_range, n_enumerate := PySem.W.mg_none_of X G z_enumerate, f_gcd := PySem.W.mg_of X G z_gcd, f_comb := PySem.W.mg_of X G z_comb, t1 := tk0, c_LONG := PySem.W.mg_of X G z_LONG, t2 := tk1, c_MAX_CHOSEN := PySem.W.mg_of X G z_MAX_CHOSEN, t3 := tk2, c_MAX_BERNOULLI := PySem.W.mg_of X G z_MAX_BERNOULLI }
  let D_reduced : TD K mg "reduced" s_reduced P_reduced := ⟨f0, _, fun_mk (st := s_reduced) l0 c0 k0, PySem.W.mg_of X G a0, (fun_mk (st := s_reduced) l0 c0 k0).binds (ps := P_reduced) fun _ _ _ _ _ _ us hl => match us, hl with | [_, _], _ => rfl⟩
  let D_multiplied : TD K mg "multiplied" s_multiplied P_multiplied := ⟨f1, _, fun_mk (st := s_multiplied) l1 c1 k1, PySem.W.mg_of X G a1, (fun_mk (st := s_multiplied) l1 c1 k1).binds (ps := P_multiplied) fun _ _ _ _ _ _ us hl => match us, hl with | [_, _], _ => rfl⟩
  let D_added : TD K mg "added" s_added P_added := ⟨f2, _, fun_mk (st := s_added) l2 c2 k2, PySem.W.mg_of X G a2, (fun_mk (st := s_added) l2 c2 k2).binds (ps := P_added) fun _ _ _ _ _ _ us hl => match us, hl with | [_, _], _ => rfl⟩
  let D__next_bernoulli : TD K mg "_next_bernoulli" s__next_bernoulli P__next_bernoulli := ⟨f3, _, fun_mk (st := s__next_bernoulli) l3 c3 k3, PySem.W.mg_of X G a3, (fun_mk (st := s__next_bernoulli) l3 c3 k3).binds (ps := P__next_bernoulli) fun _ _ _ _ _ _ us hl => match us, hl with | [_], _ => rfl⟩
  let D_is_whole : TD K mg "is_whole" s_is_whole P_is_whole := ⟨f4, _, fun_mk (st := s_is_whole) l4 c4 k4, PySem.W.mg_of X G a4, (fun_mk (st := s_is_whole) l4 c4 k4).binds (ps := P_is_whole) fun _ _ _ _ _ _ us hl => match us, hl with | [_], _ => rfl⟩
  let D_need_between : TD K mg "need_between" s_need_between P_need_between := ⟨f5, _, fun_mk (st := s_need_between) l5 c5 k5, PySem.W.mg_of X G a5, (fun_mk (st := s_need_between) l5 c5 k5).binds (ps := P_need_between) fun _ _ _ _ _ _ us hl => match us, hl with | [_, _, _], _ => rfl⟩
  let D_bernoulli : TD K mg "bernoulli" s_bernoulli P_bernoulli := ⟨f6, _, fun_mk (st := s_bernoulli) l6 c6 k6, PySem.W.mg_of X G a6, (fun_mk (st := s_bernoulli) l6 c6 k6).binds (ps := P_bernoulli) fun _ _ _ _ _ _ us hl => match us, hl with | [_], _ => rfl⟩
  let D_binomial : TD K mg "binomial" s_binomial P_binomial := ⟨f7, _, fun_mk (st := s_binomial) l7 c7 k7, PySem.W.mg_of X G a7, (fun_mk (st := s_binomial) l7 c7 k7).binds (ps := P_binomial) fun _ _ _ _ _ _ us hl => match us, hl with | [_, _], _ => rfl⟩
  let D_is_integer : TD K mg "is_integer" s_is_integer P_is_integer := ⟨f8, _, fun_mk (st := s_is_integer) l8 c8 k8, PySem.W.mg_of X G a8, (fun_mk (st := s_is_integer) l8 c8 k8).binds (ps := P_is_integer) fun _ _ _ _ _ _ us hl => match us, hl with | [_], _ => rfl⟩
  let D__law_gcd : TD K mg "_law_gcd" s__law_gcd P__law_gcd := ⟨f9, _, fun_mk (st := s__law_gcd) l9 c9 k9, PySem.W.mg_of X G a9, (fun_mk (st := s__law_gcd) l9 c9 k9).binds (ps := P__law_gcd) fun _ _ _ _ _ _ us hl => match us, hl with | [_, _], _ => rfl⟩
  let D__law_lowest : TD K mg "_law_lowest" s__law_lowest P__law_lowest := ⟨f10, _, fun_mk (st := s__law_lowest) l10 c10 k10, PySem.W.mg_of X G a10, (fun_mk (st := s__law_lowest) l10 c10 k10).binds (ps := P__law_lowest) fun _ _ _ _ _ _ us hl => match us, hl with | [_, _], _ => rfl⟩
  let D__law_plus : TD K mg "_law_plus" s__law_plus P__law_plus := ⟨f11, _, fun_mk (st := s__law_plus) l11 c11 k11, PySem.W.mg_of X G a11, (fun_mk (st := s__law_plus) l11 c11 k11).binds (ps := P__law_plus) fun _ _ _ _ _ _ us hl => match us, hl with | [_, _], _ => rfl⟩
  let D__law_times : TD K mg "_law_times" s__law_times P__law_times := ⟨f12, _, fun_mk (st := s__law_times) l12 c12 k12, PySem.W.mg_of X G a12, (fun_mk (st := s__law_times) l12 c12 k12).binds (ps := P__law_times) fun _ _ _ _ _ _ us hl => match us, hl with | [_, _], _ => rfl⟩
  let D__law_choose : TD K mg "_law_choose" s__law_choose P__law_choose := ⟨f13, _, fun_mk (st := s__law_choose) l13 c13 k13, PySem.W.mg_of X G a13, (fun_mk (st := s__law_choose) l13 c13 k13).binds (ps := P__law_choose) fun _ _ _ _ _ _ us hl => match us, hl with | [_, _], _ => rfl⟩
  let D__law_bernoulli : TD K mg "_law_bernoulli" s__law_bernoulli P__law_bernoulli := ⟨f14, _, fun_mk (st := s__law_bernoulli) l14 c14 k14, PySem.W.mg_of X G a14, (fun_mk (st := s__law_bernoulli) l14 c14 k14).binds (ps := P__law_bernoulli) fun _ _ _ _ _ _ us hl => match us, hl with | [_], _ => rfl⟩
  let D__law_roll : TD K mg "_law_roll" s__law_roll P__law_roll := ⟨f15, _, fun_mk (st := s__law_roll) l15 c15 k15, PySem.W.mg_of X G a15, (fun_mk (st := s__law_roll) l15 c15 k15).binds (ps := P__law_roll) fun _ _ _ _ _ _ us hl => match us, hl with | [_, _], _ => rfl⟩
  let D__law_numbers_right : TD K mg "_law_numbers_right" s__law_numbers_right P__law_numbers_right := ⟨f16, _, fun_mk (st := s__law_numbers_right) l16 c16 k16, PySem.W.mg_of X G a16, (fun_mk (st := s__law_numbers_right) l16 c16 k16).binds (ps := P__law_numbers_right) fun _ _ _ _ _ _ us hl => match us, hl with | [_], _ => rfl⟩
  let D_is_exact : TD K mg "is_exact" s_is_exact P_is_exact := ⟨f17, _, fun_mk (st := s_is_exact) l17 c17 k17, PySem.W.mg_of X G a17, (fun_mk (st := s_is_exact) l17 c17 k17).binds (ps := P_is_exact) fun _ _ _ _ _ _ us hl => match us, hl with | [_], _ => rfl⟩
  let D_is_ratio : TD K mg "is_ratio" s_is_ratio P_is_ratio := ⟨f18, _, fun_mk (st := s_is_ratio) l18 c18 k18, PySem.W.mg_of X G a18, (fun_mk (st := s_is_ratio) l18 c18 k18).binds (ps := P_is_ratio) fun _ _ _ _ _ _ us hl => match us, hl with | [_], _ => rfl⟩
  let D_need_ratio : TD K mg "need_ratio" s_need_ratio P_need_ratio := ⟨f19, _, fun_mk (st := s_need_ratio) l19 c19 k19, PySem.W.mg_of X G a19, (fun_mk (st := s_need_ratio) l19 c19 k19).binds (ps := P_need_ratio) fun _ _ _ _ _ _ us hl => match us, hl with | [_], _ => rfl⟩
  let D_ratio_text : TD K mg "ratio_text" s_ratio_text P_ratio_text := ⟨f20, _, fun_mk (st := s_ratio_text) l20 c20 k20, PySem.W.mg_of X G a20, (fun_mk (st := s_ratio_text) l20 c20 k20).binds (ps := P_ratio_text) fun _ _ _ _ _ _ us hl => match us, hl with | [_], _ => rfl⟩
  let D__law_text_of : TD K mg "_law_text_of" s__law_text_of P__law_text_of := ⟨f21, _, fun_mk (st := s__law_text_of) l21 c21 k21, PySem.W.mg_of X G a21, (fun_mk (st := s__law_text_of) l21 c21 k21).binds (ps := P__law_text_of) fun _ _ _ _ _ _ us hl => match us, hl with | [_], _ => rfl⟩
  let D_need_ratios : TD K mg "need_ratios" s_need_ratios P_need_ratios := ⟨f22, _, fun_mk (st := s_need_ratios) l22 c22 k22, PySem.W.mg_of X G a22, (fun_mk (st := s_need_ratios) l22 c22 k22).binds (ps := P_need_ratios) fun _ _ _ _ _ _ us hl => match us, hl with | [_, _], _ => rfl⟩
  let D_compare : TD K mg "compare" s_compare P_compare := ⟨f23, _, fun_mk (st := s_compare) l23 c23 k23, PySem.W.mg_of X G a23, (fun_mk (st := s_compare) l23 c23 k23).binds (ps := P_compare) fun _ _ _ _ _ _ us hl => match us, hl with | [_, _], _ => rfl⟩
  let D_over : TD K mg "over" s_over P_over := ⟨f24, _, fun_mk (st := s_over) l24 c24 k24, PySem.W.mg_of X G a24, (fun_mk (st := s_over) l24 c24 k24).binds (ps := P_over) fun _ _ _ _ _ _ us hl => match us, hl with | [_, _], _ => rfl⟩
  let D_times : TD K mg "times" s_times P_times := ⟨f25, _, fun_mk (st := s_times) l25 c25 k25, PySem.W.mg_of X G a25, (fun_mk (st := s_times) l25 c25 k25).binds (ps := P_times) fun _ _ _ _ _ _ us hl => match us, hl with | [_, _], _ => rfl⟩
  let D_opposite : TD K mg "opposite" s_opposite P_opposite := ⟨f26, _, fun_mk (st := s_opposite) l26 c26 k26, PySem.W.mg_of X G a26, (fun_mk (st := s_opposite) l26 c26 k26).binds (ps := P_opposite) fun _ _ _ _ _ _ us hl => match us, hl with | [_], _ => rfl⟩
  let D_minus : TD K mg "minus" s_minus P_minus := ⟨f27, _, fun_mk (st := s_minus) l27 c27 k27, PySem.W.mg_of X G a27, (fun_mk (st := s_minus) l27 c27 k27).binds (ps := P_minus) fun _ _ _ _ _ _ us hl => match us, hl with | [_, _], _ => rfl⟩
  let D_plus : TD K mg "plus" s_plus P_plus := ⟨f28, _, fun_mk (st := s_plus) l28 c28 k28, PySem.W.mg_of X G a28, (fun_mk (st := s_plus) l28 c28 k28).binds (ps := P_plus) fun _ _ _ _ _ _ us hl => match us, hl with | [_, _], _ => rfl⟩
  let D__law_two_right : TD K mg "_law_two_right" s__law_two_right P__law_two_right := ⟨f29, _, fun_mk (st := s__law_two_right) l29 c29 k29, PySem.W.mg_of X G a29, (fun_mk (st := s__law_two_right) l29 c29 k29).binds (ps := P__law_two_right) fun _ _ _ _ _ _ us hl => match us, hl with | [_, _], _ => rfl⟩
  let D_lowest : TD K mg "lowest" s_lowest P_lowest := ⟨f30, _, fun_mk (st := s_lowest) l30 c30 k30, PySem.W.mg_of X G a30, (fun_mk (st := s_lowest) l30 c30 k30).binds (ps := P_lowest) fun _ _ _ _ _ _ us hl => match us, hl with | [_, _], _ => rfl⟩
  let D__law_near : TD K mg "_law_near" s__law_near P__law_near := ⟨f31, _, fun_mk (st := s__law_near) l31 c31 k31, PySem.W.mg_of X G a31, (fun_mk (st := s__law_near) l31 c31 k31).binds (ps := P__law_near) fun _ _ _ _ _ _ us hl => match us, hl with | [_, _], _ => rfl⟩
  let D__law_pick : TD K mg "_law_pick" s__law_pick P__law_pick := ⟨f32, _, fun_mk (st := s__law_pick) l32 c32 k32, PySem.W.mg_of X G a32, (fun_mk (st := s__law_pick) l32 c32 k32).binds (ps := P__law_pick) fun _ _ _ _ _ _ us hl => match us, hl with | [_, _], _ => rfl⟩
  let D__law_ratio_drawn : TD K mg "_law_ratio_drawn" s__law_ratio_drawn P__law_ratio_drawn := ⟨f33, _, fun_mk (st := s__law_ratio_drawn) l33 c33 k33, PySem.W.mg_of X G a33, (fun_mk (st := s__law_ratio_drawn) l33 c33 k33).binds (ps := P__law_ratio_drawn) fun _ _ _ _ _ _ us hl => match us, hl with | [_], _ => rfl⟩
  let D__law_right : TD K mg "_law_right" s__law_right P__law_right := ⟨f34, _, fun_mk (st := s__law_right) l34 c34 k34, PySem.W.mg_of X G a34, (fun_mk (st := s__law_right) l34 c34 k34).binds (ps := P__law_right) fun _ _ _ _ _ _ us hl => match us, hl with | [_], _ => rfl⟩
  let D__law_dice : TD K mg "_law_dice" s__law_dice P__law_dice := ⟨f35, _, fun_mk (st := s__law_dice) l35 c35 k35, PySem.W.mg_of X G a35, (fun_mk (st := s__law_dice) l35 c35 k35).binds (ps := P__law_dice) fun _ _ _ _ _ _ us hl => match us, hl with | [_, _], _ => rfl⟩
  let D_law : TD K mg "law" s_law P_law := ⟨fa, _, fun_mk (st := s_law) l36 c36 k36, PySem.W.mg_of X G a36, (fun_mk (st := s_law) l36 c36 k36).binds (ps := P_law) fun _ _ _ _ _ _ us hl => match us, hl with | [_], _ => rfl⟩
  refine ⟨D_law.fd, fun s v => .of_eq rfl, fun base _ _ => ?_⟩
  let C_reduced := D_reduced.cal (ok_reduced (P := l.prog) (w := w) (base := base) T D_reduced )
  let C_multiplied := D_multiplied.cal (ok_multiplied (P := l.prog) (w := w) (base := base) D_multiplied (G_reduced := C_reduced))
  let C_added := D_added.cal (ok_added (P := l.prog) (w := w) (base := base) D_added (G_reduced := C_reduced))
  let C__next_bernoulli := D__next_bernoulli.cal (ok_next (P := l.prog) (w := w) (base := base) T D__next_bernoulli (G_multiplied := C_multiplied) (G_added := C_added) (G_reduced := C_reduced))
  let C_is_whole := D_is_whole.cal (ok_is_whole (P := l.prog) (w := w) (base := base) T D_is_whole )
  let C_need_between := D_need_between.cal (ok_need_between (P := l.prog) (w := w) (base := base) D_need_between (G_is_whole := C_is_whole))
  let C_bernoulli := D_bernoulli.cal (ok_bernoulli (P := l.prog) (w := w) (base := base) T D_bernoulli (G__next_bernoulli := C__next_bernoulli) (G_need_between := C_need_between))
  let C_binomial := D_binomial.cal (ok_binomial (P := l.prog) (w := w) (base := base) T D_binomial (G_need_between := C_need_between))
  let C_is_integer := D_is_integer.cal (ok_is_integer (P := l.prog) (w := w) (base := base) T D_is_integer (G_is_whole := C_is_whole))
  let C__law_gcd := D__law_gcd.cal (ok_gcd (P := l.prog) (w := w) (base := base) T D__law_gcd )
  let C__law_lowest := D__law_lowest.cal (ok_lawlowest (P := l.prog) (w := w) (base := base) T D__law_lowest (G__law_gcd := C__law_gcd))
  let C__law_plus := D__law_plus.cal (ok_lawplus (P := l.prog) (w := w) (base := base) D__law_plus (G__law_lowest := C__law_lowest))
  let C__law_times := D__law_times.cal (ok_lawtimes (P := l.prog) (w := w) (base := base) D__law_times (G__law_lowest := C__law_lowest))
  let C__law_choose := D__law_choose.cal (ok_choose (P := l.prog) (w := w) (base := base) T D__law_choose )
  let C__law_bernoulli := D__law_bernoulli.cal (ok_lawbernoulli (P := l.prog) (w := w) (base := base) T D__law_bernoulli (G__law_times := C__law_times) (G__law_lowest := C__law_lowest) (G__law_plus := C__law_plus) (G__law_choose := C__law_choose))
  let C__law_roll := D__law_roll.cal (ok_roll (P := l.prog) (w := w) (base := base) T D__law_roll )
  let C__law_numbers_right := D__law_numbers_right.cal (ok_numbers (P := l.prog) (w := w) (base := base) T D__law_numbers_right (G__law_plus := C__law_plus) (G__law_times := C__law_times) (G__law_choose := C__law_choose) (G_bernoulli := C_bernoulli) (G__law_bernoulli := C__law_bernoulli) (G__law_roll := C__law_roll) (G_binomial := C_binomial))
  let C_is_exact := D_is_exact.cal (ok_is_exact (P := l.prog) (w := w) (base := base) T D_is_exact (G_is_whole := C_is_whole))
  let C_is_ratio := D_is_ratio.cal (ok_is_ratio (P := l.prog) (w := w) (base := base) D_is_ratio (G_is_integer := C_is_integer) (G_is_exact := C_is_exact))
  let C_need_ratio := D_need_ratio.cal (ok_need_ratio (P := l.prog) (w := w) (base := base) D_need_ratio (G_is_ratio := C_is_ratio))
  let C_ratio_text := D_ratio_text.cal (ok_ratio_text (P := l.prog) (w := w) (base := base) T D_ratio_text (G_need_ratio := C_need_ratio))
  let C__law_text_of := D__law_text_of.cal (ok_text_of (P := l.prog) (w := w) (base := base) T D__law_text_of )
  let C_need_ratios := D_need_ratios.cal (ok_need_ratios (P := l.prog) (w := w) (base := base) D_need_ratios (G_need_ratio := C_need_ratio))
  let C_compare := D_compare.cal (ok_compare (P := l.prog) (w := w) (base := base) D_compare (G_need_ratios := C_need_ratios))
  let C_over := D_over.cal (ok_over (P := l.prog) (w := w) (base := base) D_over (G_reduced := C_reduced) (G_need_ratios := C_need_ratios))
  let C_times := D_times.cal (ok_times (P := l.prog) (w := w) (base := base) D_times (G_multiplied := C_multiplied) (G_need_ratios := C_need_ratios))
  let C_opposite := D_opposite.cal (ok_opposite (P := l.prog) (w := w) (base := base) D_opposite )
  let C_minus := D_minus.cal (ok_minus (P := l.prog) (w := w) (base := base) D_minus (G_added := C_added) (G_opposite := C_opposite) (G_need_ratios := C_need_ratios))
  let C_plus := D_plus.cal (ok_plus (P := l.prog) (w := w) (base := base) D_plus (G_added := C_added) (G_need_ratios := C_need_ratios))
  let C__law_two_right := D__law_two_right.cal (ok_two (P := l.prog) (w := w) (base := base) T D__law_two_right (G_is_ratio := C_is_ratio) (G_ratio_text := C_ratio_text) (G__law_text_of := C__law_text_of) (G_compare := C_compare) (G_over := C_over) (G__law_lowest := C__law_lowest) (G_times := C_times) (G_minus := C_minus) (G_plus := C_plus) (G__law_times := C__law_times) (G__law_plus := C__law_plus))
  let C_lowest := D_lowest.cal (ok_lowest (P := l.prog) (w := w) (base := base) D_lowest (G_reduced := C_reduced) (G_is_integer := C_is_integer))
  let C__law_near := D__law_near.cal (ok_near (P := l.prog) (w := w) (base := base) T D__law_near (G__law_roll := C__law_roll))
  let C__law_pick := D__law_pick.cal (ok_pick (P := l.prog) (w := w) (base := base) T D__law_pick (G__law_roll := C__law_roll))
  let C__law_ratio_drawn := D__law_ratio_drawn.cal (ok_drawn (P := l.prog) (w := w) (base := base) T D__law_ratio_drawn (G__law_lowest := C__law_lowest) (G__law_roll := C__law_roll) (G__law_pick := C__law_pick) (G__law_near := C__law_near))
  let C__law_right := D__law_right.cal (ok_right (P := l.prog) (w := w) (base := base) T D__law_right (G__law_two_right := C__law_two_right) (G_is_ratio := C_is_ratio) (G_lowest := C_lowest) (G__law_lowest := C__law_lowest) (G__law_roll := C__law_roll) (G__law_near := C__law_near) (G__law_ratio_drawn := C__law_ratio_drawn))
  let C__law_dice := D__law_dice.cal (ok_dice (P := l.prog) (w := w) (base := base) T D__law_dice )
  exact ok_law (P := l.prog) (w := w) (base := base) T D_law (G_bernoulli := C_bernoulli) (G_binomial := C_binomial) (G_is_integer := C_is_integer) (G__law_numbers_right := C__law_numbers_right) (G__law_right := C__law_right) (G__law_dice := C__law_dice)
theorem only_nil {H : Hp} : msk [] H = H := by
  funext b
  unfold msk
  rw [if_neg (by simp)]
theorem walk {l : PySem.W.OpenLaw} {q : Program} {loose : List Str} {XP : (Str → Option Value) → Heap → Prop} {YP : World → Heap → Prop} {d : DefRec} {K : Params → PySem.W.Frag} (hn : l.most = some 63) (hdf : d.params.defaults = [])
    (hY : ∀ (w : World) (h : Heap), YP w h → (K w.params).In h)
    (F : ∀ (w : World) (mg : Str → Option Value) (fa : Addr) (h : Heap), (K w.params).In h → h.Ns mainGlobals mg → mg d.name = some (.ref fa) →
      ∃ fd : FuncData, (∀ (s : Shared) (u : Value), BindsTo s fd ⟨[u], []⟩ [("_law_script", u)]) ∧ ∀ base : Heap, (K w.params).In base → base.Ns mainGlobals mg → FnOk l.prog w (K w.params) mg base CX0 9 fa fd P_law (spD (K w.params) 1 wLaw)) :
    PySem.W.WalkO q loose XP YP l.row.toRowW d [] (fun f vs => PySem.call f vs) :=
  L2.walk_of (n := 63) (k := 9) (x := "_law_script") (CX := fun _ => CX0) (sp := fun w => spD (K w.params) 1 wLaw) hn (by decide) hdf ⟨rfl, by decide, by decide⟩ hY F
    (fun w H a ns hl _ hS => ⟨[], [.val (.list (ns.map .int))], fun d _ => d = .bool true, rfl, env_args (ds := [.list (ns.map .int)]) (fun _ z => nomatch z) (by rw [only_nil]; exact dpa_one (.lst hS (dpa_ints ns))), ⟨ns, rfl, hl, rfl⟩, fun v d es' O' H' e S r => by subst e; exact dp_bl r⟩) fun _ _ _ _ _ z => z
end K00
open PySem PySem.W PyProof.Rows in
set_option maxRecDepth 100000 in
set_option maxHeartbeats 0 in
theorem PySem.Challenge.cw_risewords_k00_whole_ratios_and_numbers_holds : PySem.Challenge.rw_risewords_k00_whole_ratios_and_numbers.Holds := by
  w_on; o_law; k_head; (case hw => w_witness2)
  k_fill
  refine K00.walk (l := PySem.Challenge.rw_risewords_k00_whole_ratios_and_numbers) rfl rfl (fun w h Y => PySem.W.kIn_of Y) ?F
  case F =>
    intro w mg fa h KX G hmg
    refine' K00.all_mk KX G hmg ?a0 ?l0 ?c0 ?k0 ?a1 ?l1 ?c1 ?k1 ?a2 ?l2 ?c2 ?k2 ?a3 ?l3 ?c3 ?k3 ?a4 ?l4 ?c4 ?k4 ?a5 ?l5 ?c5 ?k5 ?a6 ?l6 ?c6 ?k6 ?a7 ?l7 ?c7 ?k7 ?a8 ?l8 ?c8 ?k8 ?a9 ?l9 ?c9 ?k9 ?a10 ?l10 ?c10 ?k10 ?a11 ?l11 ?c11 ?k11 ?a12 ?l12 ?c12 ?k12 ?a13 ?l13 ?c13 ?k13 ?a14 ?l14 ?c14 ?k14 ?a15 ?l15 ?c15 ?k15 ?a16 ?l16 ?c16 ?k16 ?a17 ?l17 ?c17 ?k17 ?a18 ?l18 ?c18 ?k18 ?a19 ?l19 ?c19 ?k19 ?a20 ?l20 ?c20 ?k20 ?a21 ?l21 ?c21 ?k21 ?a22 ?l22 ?c22 ?k22 ?a23 ?l23 ?c23 ?k23 ?a24 ?l24 ?c24 ?k24 ?a25 ?l25 ?c25 ?k25 ?a26 ?l26 ?c26 ?k26 ?a27 ?l27 ?c27 ?k27 ?a28 ?l28 ?c28 ?k28 ?a29 ?l29 ?c29 ?k29 ?a30 ?l30 ?c30 ?k30 ?a31 ?l31 ?c31 ?k31 ?a32 ?l32 ?c32 ?k32 ?a33 ?l33 ?c33 ?k33 ?a34 ?l34 ?c34 ?k34 ?a35 ?l35 ?c35 ?k35 ?a36 ?l36 ?c36 ?k36 ?z_isinstance ?z_int ?z_bool ?z_tuple ?z_str ?z_len ?z_abs ?z_max ?z_min ?z_range ?z_enumerate ?z_gcd ?z_comb ?z_LONG ?z_MAX_CHOSEN ?z_MAX_BERNOULLI
    (case a0 => k_is)
    (case l0 => k_is)
    (case c0 => k_is)
    (case k0 => k_is)
    (case a1 => k_is)
    (case l1 => k_is)
    (case c1 => k_is)
    (case k1 => k_is)
    (case a2 => k_is)
    (case l2 => k_is)
    (case c2 => k_is)
    (case k2 => k_is)
    (case a3 => k_is)
    (case l3 => k_is)
    (case c3 => k_is)
    (case k3 => k_is)
    (case a4 => k_is)
    (case l4 => k_is)
    (case c4 => k_is)
    (case k4 => k_is)
    (case a5 => k_is)
    (case l5 => k_is)
    (case c5 => k_is)
    (case k5 => k_is)
    (case a6 => k_is)
    (case l6 => k_is)
    (case c6 => k_is)
    (case k6 => k_is)
    (case a7 => k_is)
    (case l7 => k_is)
    (case c7 => k_is)
    (case k7 => k_is)
    (case a8 => k_is)
    (case l8 => k_is)
    (case c8 => k_is)
    (case k8 => k_is)
    (case a9 => k_is)
    (case l9 => k_is)
    (case c9 => k_is)
    (case k9 => k_is)
    (case a10 => k_is)
    (case l10 => k_is)
    (case c10 => k_is)
    (case k10 => k_is)
    (case a11 => k_is)
    (case l11 => k_is)
    (case c11 => k_is)
    (case k11 => k_is)
    (case a12 => k_is)
    (case l12 => k_is)
    (case c12 => k_is)
    (case k12 => k_is)
    (case a13 => k_is)
    (case l13 => k_is)
    (case c13 => k_is)
    (case k13 => k_is)
    (case a14 => k_is)
    (case l14 => k_is)
    (case c14 => k_is)
    (case k14 => k_is)
    (case a15 => k_is)
    (case l15 => k_is)
    (case c15 => k_is)
    (case k15 => k_is)
    (case a16 => k_is)
    (case l16 => k_is)
    (case c16 => k_is)
    (case k16 => k_is)
    (case a17 => k_is)
    (case l17 => k_is)
    (case c17 => k_is)
    (case k17 => k_is)
    (case a18 => k_is)
    (case l18 => k_is)
    (case c18 => k_is)
    (case k18 => k_is)
    (case a19 => k_is)
    (case l19 => k_is)
    (case c19 => k_is)
    (case k19 => k_is)
    (case a20 => k_is)
    (case l20 => k_is)
    (case c20 => k_is)
    (case k20 => k_is)
    (case a21 => k_is)
    (case l21 => k_is)
    (case c21 => k_is)
    (case k21 => k_is)
    (case a22 => k_is)
    (case l22 => k_is)
    (case c22 => k_is)
    (case k22 => k_is)
    (case a23 => k_is)
    (case l23 => k_is)
    (case c23 => k_is)
    (case k23 => k_is)
    (case a24 => k_is)
    (case l24 => k_is)
    (case c24 => k_is)
    (case k24 => k_is)
    (case a25 => k_is)
    (case l25 => k_is)
    (case c25 => k_is)
    (case k25 => k_is)
    (case a26 => k_is)
    (case l26 => k_is)
    (case c26 => k_is)
    (case k26 => k_is)
    (case a27 => k_is)
    (case l27 => k_is)
    (case c27 => k_is)
    (case k27 => k_is)
    (case a28 => k_is)
    (case l28 => k_is)
    (case c28 => k_is)
    (case k28 => k_is)
    (case a29 => k_is)
    (case l29 => k_is)
    (case c29 => k_is)
    (case k29 => k_is)
    (case a30 => k_is)
    (case l30 => k_is)
    (case c30 => k_is)
    (case k30 => k_is)
    (case a31 => k_is)
    (case l31 => k_is)
    (case c31 => k_is)
    (case k31 => k_is)
    (case a32 => k_is)
    (case l32 => k_is)
    (case c32 => k_is)
    (case k32 => k_is)
    (case a33 => k_is)
    (case l33 => k_is)
    (case c33 => k_is)
    (case k33 => k_is)
    (case a34 => k_is)
    (case l34 => k_is)
    (case c34 => k_is)
    (case k34 => k_is)
    (case a35 => k_is)
    (case l35 => k_is)
    (case c35 => k_is)
    (case k35 => k_is)
    (case a36 => k_is)
    (case l36 => k_is)
    (case c36 => k_is)
    (case k36 => k_is)
    (case z_isinstance => k_is)
    (case z_int => k_is)
    (case z_bool => k_is)
    (case z_tuple => k_is)
    (case z_str => k_is)
    (case z_len => k_is)
    (case z_abs => k_is)
    (case z_max => k_is)
    (case z_min => k_is)
    (case z_range => k_is)
    (case z_enumerate => k_is)
    (case z_gcd => k_is)
    (case z_comb => k_is)
    (case z_LONG => k_is)
    (case z_MAX_CHOSEN => k_is)
    (case z_MAX_BERNOULLI => k_is)
#print axioms PySem.Challenge.cw_risewords_k00_whole_ratios_and_numbers_holds
