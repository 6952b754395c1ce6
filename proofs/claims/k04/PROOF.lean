import PyProof.Rows.All
import Wide.All
import OpenK.AllK
import Wide.FinOn
import HandS.ForMost
import HandS.ForExc
import HandS.Wide
import HandS.Gcd
import HandS.IsInst
import HandS.FStr
import HandS.TupMul
import HandS.TupAny
import HandS.Text
import HandS.TupLe
import HandS.More
import HandS.Dict
import HandS.StrMore
import HandS.Iter
import PySem.Challenge.RW_risewords_k04_whole_rows_and_words
set_option Elab.async false
set_option linter.all false
set_option maxRecDepth 100000
set_option maxHeartbeats 8000000
set_option exponentiation.threshold 5000
namespace DL
open PySem L2

/-- the heap without some addresses -/
def msk (O : List Addr) (H : Hp) : Hp := fun b => if b ∈ O then none else H b
theorem msk_some {O : List Addr} {H : Hp} {b : Addr} {o : HO} (h : msk O H b = some o) : b ∉ O ∧ H b = some o := by
  unfold msk at h
  by_cases e : b ∈ O
  · rw [if_pos e] at h; cases h
  · rw [if_neg e] at h; exact ⟨e, h⟩
theorem msk_of {O : List Addr} {H : Hp} {b : Addr} {o : HO} (n : b ∉ O) (h : H b = some o) : msk O H b = some o := by
  unfold msk; rw [if_neg n]; exact h
def keyD : Key → PyData
  | .inl i => .int i
  | .inr s => .str s
mutual
inductive DP (K : PySem.W.Frag) (H : Hp) : V → PyData → Prop
  | non : DP K H .non .none
  | bl (b : Bool) : DP K H (.bl b) (.bool b)
  | int (i : Int) : DP K H (.int i) (.int i)
  | str (x : Str) : DP K H (.str x) (.str x)
  | lst {a : Addr} {xs : List V} {ds : List PyData} : SqL K H a xs → DPAll K H xs ds → DP K H (.ref a) (.list ds)
  | tup {a : Addr} {xs : List V} {ds : List PyData} : SqT K H a xs → DPAll K H xs ds → DP K H (.ref a) (.tuple ds)
  | dct {a : Addr} {kvs : List (Key × V)} {ds : List (PyData × PyData)} : Rd H a (.dK kvs) → DPKV K H kvs ds → DP K H (.ref a) (.dict ds)
inductive DPAll (K : PySem.W.Frag) (H : Hp) : List V → List PyData → Prop
  | nil : DPAll K H [] []
  | cons {v : V} {vs : List V} {d : PyData} {ds : List PyData} : DP K H v d → DPAll K H vs ds → DPAll K H (v :: vs) (d :: ds)
inductive DPKV (K : PySem.W.Frag) (H : Hp) : List (Key × V) → List (PyData × PyData) → Prop
  | nil : DPKV K H [] []
  | cons {k : Key} {v : V} {kd : PyData} {kvs : List (Key × V)} {d : PyData} {ds : List (PyData × PyData)} : keyD k = kd → DP K H v d → DPKV K H kvs ds → DPKV K H ((k, v) :: kvs) ((kd, d) :: ds)
end
mutual
theorem dp_old {K : PySem.W.Frag} {H : Hp} : ∀ {v : V} {d : PyData}, PyData.canLay0 d = true → DP K H v d → L2.Dp K H v d
  | _, _, _, .non => .non
  | _, _, _, .bl b => .bl b
  | _, _, _, .int i => .int i
  | _, _, _, .str x => .str x
  | _, _, h, .lst hq hd => .lst hq (dpa_old (by simpa [PyData.canLay0] using h) hd)
  | _, _, h, .tup hq hd => .tup hq (dpa_old (by simpa [PyData.canLay0] using h) hd)
  | _, _, h, .dct _ _ => by simp [PyData.canLay0] at h
theorem dpa_old {K : PySem.W.Frag} {H : Hp} : ∀ {vs : List V} {ds : List PyData}, PyData.canLayAll0 ds = true → DPAll K H vs ds → L2.DpAll K H vs ds
  | _, _, _, .nil => .nil
  | _ :: _, d :: ds, h, .cons a b => by
    have h : (PyData.canLay0 d && PyData.canLayAll0 ds) = true := by simpa [PyData.canLayAll0] using h
    rw [Bool.and_eq_true] at h
    exact .cons (dp_old h.1 a) (dpa_old h.2 b)
end
theorem dp_sh {K : PySem.W.Frag} {H : Hp} {v : V} {d : PyData} (h : SeqAt.shaped d = true) (q : DP K H v d) : L2.Dp K H v d := dp_old (SeqAt.canLay_of_shaped h) q
def Ext (H H' : Hp) : Prop := ∀ b o, H b = some o → H' b = some o
theorem Ext.refl (H : Hp) : Ext H H := fun _ _ h => h
theorem Ext.trans {H H1 H2 : Hp} (a : Ext H H1) (b : Ext H1 H2) : Ext H H2 := fun x o h => b x o (a x o h)
theorem Ext.new {H : Hp} {p : Addr} {o : HO} (h : H p = none) : Ext H (upd H p o) := fun a u e => by
  rw [upd_ne (ne_of_none e h)]; exact e
theorem Ext.rd {H H' : Hp} {a : Addr} {u : HO} (e : Ext H H') (h : Rd H a u) : Rd H' a u := by
  rcases h with h | ⟨o, h⟩
  · exact .inl (e a _ h)
  · exact .inr ⟨o, e a _ h⟩
theorem Ext.l {K : PySem.W.Frag} {H H' : Hp} {a : Addr} {xs : List V} (e : Ext H H') (h : SqL K H a xs) : SqL K H' a xs := by
  rcases h with h | h
  · exact .inl (e.rd h)
  · exact .inr h
theorem Ext.t {K : PySem.W.Frag} {H H' : Hp} {a : Addr} {xs : List V} (e : Ext H H') (h : SqT K H a xs) : SqT K H' a xs := by
  rcases h with h | h
  · exact .inl (e.rd h)
  · exact .inr h
mutual
theorem dp_ext {K : PySem.W.Frag} {H H' : Hp} (e : Ext H H') : ∀ {v : V} {d : PyData}, DP K H v d → DP K H' v d
  | _, _, .non => .non
  | _, _, .bl b => .bl b
  | _, _, .int i => .int i
  | _, _, .str x => .str x
  | _, _, .lst h q => .lst (e.l h) (dpa_ext e q)
  | _, _, .tup h q => .tup (e.t h) (dpa_ext e q)
  | _, _, .dct h q => .dct (e.rd h) (dpk_ext e q)
theorem dpa_ext {K : PySem.W.Frag} {H H' : Hp} (e : Ext H H') : ∀ {vs : List V} {ds : List PyData}, DPAll K H vs ds → DPAll K H' vs ds
  | _, _, .nil => .nil
  | _, _, .cons h q => .cons (dp_ext e h) (dpa_ext e q)
theorem dpk_ext {K : PySem.W.Frag} {H H' : Hp} (e : Ext H H') : ∀ {vs : List (Key × V)} {ds : List (PyData × PyData)}, DPKV K H vs ds → DPKV K H' vs ds
  | _, _, .nil => .nil
  | _, _, .cons k h q => .cons k (dp_ext e h) (dpk_ext e q)
end
theorem msk_ext {O : List Addr} {H H' : Hp} (e : Ext H H') : Ext (msk O H) (msk O H') := fun b o h => by
  obtain ⟨n, h⟩ := msk_some h
  exact msk_of n (e b o h)
theorem msk_le {O : List Addr} {H : Hp} : Ext (msk O H) H := fun b o h => (msk_some h).2
theorem dpa_len {K : PySem.W.Frag} {H : Hp} : ∀ {vs : List V} {ds : List PyData}, DPAll K H vs ds → vs.length = ds.length
  | _, _, .nil => rfl
  | _, _, .cons _ q => congrArg (· + 1) (dpa_len q)
theorem dpa_get {K : PySem.W.Frag} {H : Hp} : ∀ {vs : List V} {ds : List PyData} {i : Nat} {d : PyData}, DPAll K H vs ds → ds[i]? = some d → ∃ v, vs[i]? = some v ∧ DP K H v d
  | _, _, i, d, .nil, h => by simp at h
  | _, _, 0, d, .cons h q, e => by simp at e; subst e; exact ⟨_, rfl, h⟩
  | _, _, i + 1, d, .cons h q, e => by
    obtain ⟨v, a, b⟩ := dpa_get (i := i) (d := d) q (by simpa using e)
    exact ⟨v, by simpa using a, b⟩
theorem dpa_get' {K : PySem.W.Frag} {H : Hp} {vs : List V} {ds : List PyData} {i : Nat} {v : V} (h : DPAll K H vs ds) (e : vs[i]? = some v) : ∃ d, ds[i]? = some d ∧ DP K H v d := by
  have hl := dpa_len h
  have hi : i < vs.length := (List.getElem?_eq_some_iff.mp e).1
  obtain ⟨d, hd⟩ : ∃ d, ds[i]? = some d := ⟨ds[i]'(by omega), List.getElem?_eq_getElem (by omega)⟩
  obtain ⟨v', a, b⟩ := dpa_get h hd
  rw [e] at a; cases a
  exact ⟨d, hd, b⟩
theorem dpa_append {K : PySem.W.Frag} {H : Hp} : ∀ {vs : List V} {ds : List PyData} {us : List V} {es : List PyData}, DPAll K H vs ds → DPAll K H us es → DPAll K H (vs ++ us) (ds ++ es)
  | _, _, _, _, .nil, r => r
  | _, _, _, _, .cons h q, r => .cons h (dpa_append q r)
theorem dpa_one {K : PySem.W.Frag} {H : Hp} {v : V} {d : PyData} (h : DP K H v d) : DPAll K H [v] [d] := .cons h .nil
theorem dpa_set {K : PySem.W.Frag} {H : Hp} {v : V} {d : PyData} (h : DP K H v d) : ∀ {vs : List V} {ds : List PyData} (i : Nat), DPAll K H vs ds → DPAll K H (vs.set i v) (ds.set i d)
  | _, _, _, .nil => .nil
  | _, _, 0, .cons _ q => .cons h q
  | _, _, i + 1, .cons a q => .cons a (dpa_set h i q)
theorem dpa_take {K : PySem.W.Frag} {H : Hp} : ∀ {vs : List V} {ds : List PyData} (n : Nat), DPAll K H vs ds → DPAll K H (vs.take n) (ds.take n)
  | _, _, 0, _ => .nil
  | _, _, _ + 1, .nil => .nil
  | _, _, n + 1, .cons r t => .cons r (dpa_take n t)
theorem dpa_drop {K : PySem.W.Frag} {H : Hp} : ∀ {vs : List V} {ds : List PyData} (n : Nat), DPAll K H vs ds → DPAll K H (vs.drop n) (ds.drop n)
  | _, _, 0, r => r
  | _, _, _ + 1, .nil => .nil
  | _, _, n + 1, .cons _ t => dpa_drop n t
theorem dpa_ints {K : PySem.W.Frag} {H : Hp} : ∀ (ns : List Int), DPAll K H (ns.map V.int) (ns.map PyData.int)
  | [] => .nil
  | n :: r => .cons (.int n) (dpa_ints r)

/-! ### the data of a def's names -/
inductive Ent where
  | val (d : PyData)
  | lst (ds : List PyData)
abbrev Rho := List (Option Ent)

def EntOk (K : PySem.W.Frag) (O : List Addr) (H : Hp) : Option V → Ent → Prop
  | some v, .val d => DP K (msk O H) v d
  | some (.ref p), .lst ds => p ∈ O ∧ ∃ vs, H p = some (.lst vs) ∧ DPAll K (msk O H) vs ds
  | _, _ => False
structure Envs (K : PySem.W.Frag) (O : List Addr) (σ : L2.St) (ρ : Rho) (H : Hp) : Prop where
  len : σ.length = ρ.length
  ok : ∀ (i : Nat) (x : Option V) (e : Ent), σ[i]? = some x → ρ[i]? = some (some e) → EntOk K O H x e
  al : ∀ b ∈ O, H b ≠ none
  dis : ∀ (i j : Nat) (p : Addr) (ds es : List PyData), σ[i]? = some (some (.ref p)) → ρ[i]? = some (some (.lst ds)) → σ[j]? = some (some (.ref p)) → ρ[j]? = some (some (.lst es)) → i = j
def Owns (σ : L2.St) (ρ : Rho) (p : Addr) : Prop := ∃ (i : Nat) (ds : List PyData), σ[i]? = some (some (.ref p)) ∧ ρ[i]? = some (some (.lst ds))
structure Stp (K : PySem.W.Frag) (n : Nat) (O : List Addr) (σ : L2.St) (ρ : Rho) (H : Hp) (O' : List Addr) (σ' : L2.St) (ρ' : Rho) (H' : Hp) : Prop where
  sub : ∀ b ∈ O, b ∈ O'
  new : ∀ b ∈ O', b ∈ O ∨ H b = none
  le : ∀ b o, ¬ Owns σ ρ b → H b = some o → H' b = some o
  env : Envs K O' σ' ρ' H'
  own : ∀ b, Owns σ' ρ' b → Owns σ ρ b ∨ H b = none
  pin : ∀ (i : Nat) (ds : List PyData), i < n → ρ[i]? = some (some (.lst ds)) → σ'[i]? = σ[i]? ∧ ∃ ds', ρ'[i]? = some (some (.lst ds'))
theorem lst_val {K : PySem.W.Frag} {O : List Addr} {H : Hp} {x : Option V} {ds : List PyData} (h : EntOk K O H x (.lst ds)) : ∃ p, x = some (.ref p) ∧ p ∈ O ∧ ∃ vs, H p = some (.lst vs) ∧ DPAll K (msk O H) vs ds := by
  cases x with
  | none => exact h.elim
  | some v =>
    cases v with
    | ref p => exact ⟨p, rfl, h⟩
    | _ => exact h.elim
theorem Envs.ownO {K : PySem.W.Frag} {O : List Addr} {σ : L2.St} {ρ : Rho} {H : Hp} (E : Envs K O σ ρ H) {b : Addr} (h : Owns σ ρ b) : b ∈ O := by
  obtain ⟨i, ds, h1, h2⟩ := h
  obtain ⟨p, e, hp, _⟩ := lst_val (E.ok i _ _ h1 h2)
  cases e
  exact hp
section
variable {K : PySem.W.Frag} {n : Nat} {O O1 O2 : List Addr} {σ σ1 σ2 : L2.St} {ρ ρ1 ρ2 : Rho} {H H1 H2 : Hp}
theorem Stp.refl (E : Envs K O σ ρ H) : Stp K n O σ ρ H O σ ρ H :=
  ⟨fun _ h => h, fun _ h => .inl h, fun _ _ _ h => h, E, fun _ h => .inl h, fun i ds _ h => ⟨rfl, ds, h⟩⟩
theorem Stp.none_back (S : Stp K n O σ ρ H O1 σ1 ρ1 H1) {b : Addr} (hb : b ∉ O) (h : H1 b = none) (E : Envs K O σ ρ H) : H b = none := by
  cases q : H b with
  | none => rfl
  | some o =>
    rw [S.le b o (fun w => hb (E.ownO w)) q] at h; cases h
theorem Stp.trans (E : Envs K O σ ρ H) (S : Stp K n O σ ρ H O1 σ1 ρ1 H1) (T : Stp K n O1 σ1 ρ1 H1 O2 σ2 ρ2 H2) : Stp K n O σ ρ H O2 σ2 ρ2 H2 where
  sub := fun b h => T.sub b (S.sub b h)
  new := fun b h => by
    rcases T.new b h with h | h
    · exact S.new b h
    · by_cases hb : b ∈ O
      · exact .inl hb
      · exact .inr (S.none_back hb h E)
  le := fun b o nb h => by
    refine T.le b o (fun w => ?_) (S.le b o nb h)
    rcases S.own b w with w | w
    · exact nb w
    · rw [w] at h; cases h
  env := T.env
  own := fun b w => by
    rcases T.own b w with w | w
    · exact S.own b w
    · by_cases hb : b ∈ O
      · exact absurd w (S.env.al b (S.sub b hb))
      · exact .inr (S.none_back hb w E)
  pin := fun i ds hi h => by
    obtain ⟨e1, ds1, h1⟩ := S.pin i ds hi h
    obtain ⟨e2, ds2, h2⟩ := T.pin i ds1 hi h1
    exact ⟨e2.trans e1, ds2, h2⟩
theorem Stp.msk (E : Envs K O σ ρ H) (S : Stp K n O σ ρ H O1 σ1 ρ1 H1) : Ext (msk O H) (msk O1 H1) := fun b o h => by
  obtain ⟨nb, h⟩ := msk_some h
  refine msk_of (fun hb => ?_) (S.le b o (fun w => nb (E.ownO w)) h)
  rcases S.new b hb with q | q
  · exact nb q
  · rw [q] at h; cases h
theorem Stp.dp (E : Envs K O σ ρ H) (S : Stp K n O σ ρ H O1 σ1 ρ1 H1) {v : V} {d : PyData} (h : DP K (DL.msk O H) v d) : DP K (DL.msk O1 H1) v d := dp_ext (S.msk E) h
theorem Stp.dpa (E : Envs K O σ ρ H) (S : Stp K n O σ ρ H O1 σ1 ρ1 H1) {v : List V} {d : List PyData} (h : DPAll K (DL.msk O H) v d) : DPAll K (DL.msk O1 H1) v d := dpa_ext (S.msk E) h
/-- the heap only grew -/
theorem Stp.grow (E : Envs K O σ ρ H) (e : Ext H H1) : Stp K n O σ ρ H O σ ρ H1 where
  sub := fun _ h => h
  new := fun _ h => .inl h
  le := fun b o _ h => e b o h
  own := fun _ h => .inl h
  pin := fun i ds _ h => ⟨rfl, ds, h⟩
  env := ⟨E.len, fun i x en h1 h2 => by
    have q := E.ok i x en h1 h2
    cases en with
    | val d =>
      cases x with
      | none => exact q.elim
      | some v => exact dp_ext (msk_ext e) (show DP K (DL.msk O H) v d from q)
    | lst ds =>
      obtain ⟨p, rfl, hp, vs, hv, hd⟩ := lst_val q
      exact ⟨hp, vs, e p _ hv, dpa_ext (msk_ext e) hd⟩, (fun b hb h => by
    cases q : H b with
    | none => exact E.al b hb q
    | some o => rw [e b o q] at h; cases h), E.dis⟩
end

/-! ### the judgements -/
abbrev PD := PyData → Rho → Prop
def DW (K : PySem.W.Frag) (n : Nat) (te : TE) (ρ : Rho) (Φ : PD) : Prop :=
  ∀ O σ H, Envs K O σ ρ H → ∀ Q : VK, (∀ v d ρ' O' H', Φ d ρ' → Stp K n O σ ρ H O' σ ρ' H' → DP K (msk O' H') v d → Q v H') → te σ H Q
def DT (K : PySem.W.Frag) (n : Nat) (tt : TT) (ρ : Rho) (Φ : Bool → Rho → Prop) : Prop :=
  ∀ O σ H, Envs K O σ ρ H → ∀ Q : Bool → Hp → Prop, (∀ b ρ' O' H', Φ b ρ' → Stp K n O σ ρ H O' σ ρ' H' → Q b H') → tt σ H Q
def DA (K : PySem.W.Frag) (n : Nat) (ta : TA) (ρ : Rho) (Φ : List PyData → Rho → Prop) : Prop :=
  ∀ O σ H, Envs K O σ ρ H → ∀ Q : List V → Hp → Prop, (∀ vs ds ρ' O' H', Φ ds ρ' → Stp K n O σ ρ H O' σ ρ' H' → DPAll K (msk O' H') vs ds → Q vs H') → ta σ H Q
structure DE where
  nx : Rho → Prop
  rt : PD
  bk : Rho → Prop := fun _ => False
  ct : Rho → Prop := fun _ => False
def DS (K : PySem.W.Frag) (n : Nat) (ts : TS) (ρ : Rho) (F : DE) : Prop :=
  ∀ O σ H, Envs K O σ ρ H → ∀ D : Ends,
    (∀ O' σ' ρ' H', F.nx ρ' → Stp K n O σ ρ H O' σ' ρ' H' → D.nx σ' H') →
    (∀ v d O' σ' ρ' H', F.rt d ρ' → Stp K n O σ ρ H O' σ' ρ' H' → DP K (msk O' H') v d → D.rt v H') →
    (∀ O' σ' ρ' H', F.bk ρ' → Stp K n O σ ρ H O' σ' ρ' H' → D.bk σ' H') →
    (∀ O' σ' ρ' H', F.ct ρ' → Stp K n O σ ρ H O' σ' ρ' H' → D.ct σ' H') → ts D σ H
/-- an operation on data -/
def RD (r : R2) (K : PySem.W.Frag) (x y : PyData) (Ψ : PyData → Prop) : Prop :=
  ∀ O H vx vy, (∀ b ∈ O, H b ≠ none) → DP K (msk O H) vx x → DP K (msk O H) vy y → ∀ Q : VK, (∀ v z H', Ψ z → Ext H H' → DP K (msk O H') v z → Q v H') → r vx vy H Q
def RU (r : V → Hp → VK → Prop) (K : PySem.W.Frag) (x : PyData) (Ψ : PyData → Prop) : Prop :=
  ∀ O H vx, (∀ b ∈ O, H b ≠ none) → DP K (msk O H) vx x → ∀ Q : VK, (∀ v z H', Ψ z → Ext H H' → DP K (msk O H') v z → Q v H') → r vx H Q
def RC (r : List V → Hp → VK → Prop) (K : PySem.W.Frag) (xs : List PyData) (Ψ : PyData → Prop) : Prop :=
  ∀ O H vs, (∀ b ∈ O, H b ≠ none) → DPAll K (msk O H) vs xs → ∀ Q : VK, (∀ v z H', Ψ z → Ext H H' → DP K (msk O H') v z → Q v H') → r vs H Q
end DL
namespace DL
open PySem L2
section
variable {K : PySem.W.Frag} {n : Nat} {O O1 : List Addr} {σ : L2.St} {ρ ρ1 : Rho} {H H1 : Hp} {ta tb tc te : TE} {tt tu : TT} {Φ : PD} {F : DE}

def NoLst (ρ : Rho) (j : Nat) : Prop := ∀ ds, ρ[j]? ≠ some (some (.lst ds))
theorem stp_set {j : Nat} {v : V} {d : PyData} (E : Envs K O σ ρ H) (h : DP K (msk O H) v d) (hp : n ≤ j ∨ NoLst ρ j) : Stp K n O σ ρ H O (σ.set j (some v)) (ρ.set j (some (.val d))) H where
  sub := fun _ h => h
  new := fun _ h => .inl h
  le := fun _ _ _ h => h
  env := ⟨by rw [List.length_set, List.length_set, E.len], fun i x e h1 h2 => by
    by_cases hij : j = i
    · subst hij
      have hl : j < ρ.length := by
        have := (List.getElem?_eq_some_iff.mp h2).1
        simpa using this
      rw [List.getElem?_set_self hl] at h2
      rw [List.getElem?_set_self (by rw [E.len]; exact hl)] at h1
      cases h1; cases h2
      exact h
    · rw [List.getElem?_set_ne hij] at h1 h2
      exact E.ok i x e h1 h2, E.al, fun i k p ds es h1 h2 h3 h4 => by
    by_cases hij : j = i
    · subst hij
      have hl : j < ρ.length := by
        have := (List.getElem?_eq_some_iff.mp h2).1
        simpa using this
      rw [List.getElem?_set_self hl] at h2
      cases h2
    · by_cases hjk : j = k
      · subst hjk
        have hl : j < ρ.length := by
          have := (List.getElem?_eq_some_iff.mp h4).1
          simpa using this
        rw [List.getElem?_set_self hl] at h4
        cases h4
      · rw [List.getElem?_set_ne hij] at h1 h2
        rw [List.getElem?_set_ne hjk] at h3 h4
        exact E.dis i k p ds es h1 h2 h3 h4⟩
  own := fun b ⟨i, ds, h1, h2⟩ => by
    by_cases hij : j = i
    · subst hij
      have hl : j < ρ.length := by
        have := (List.getElem?_eq_some_iff.mp h2).1
        simpa using this
      rw [List.getElem?_set_self hl] at h2
      cases h2
    · rw [List.getElem?_set_ne hij] at h1 h2
      exact .inl ⟨i, ds, h1, h2⟩
  pin := fun i ds hi h => by
    have hij : j ≠ i := by
      rintro rfl
      rcases hp with hp | hp
      · omega
      · exact hp ds h
    rw [List.getElem?_set_ne hij, List.getElem?_set_ne hij]
    exact ⟨rfl, ds, h⟩
/-- a slot is forgotten -/
theorem env_drop {j : Nat} {x : Option V} (E : Envs K O σ ρ H) : Envs K O (σ.set j x) (ρ.set j none) H :=
  ⟨by rw [List.length_set, List.length_set, E.len], fun i y e h1 h2 => by
    by_cases hij : j = i
    · subst hij
      have hl : j < ρ.length := by
        have := (List.getElem?_eq_some_iff.mp h2).1
        simpa using this
      rw [List.getElem?_set_self hl] at h2
      cases h2
    · rw [List.getElem?_set_ne hij] at h1 h2
      exact E.ok i y e h1 h2, E.al, fun i k p ds es h1 h2 h3 h4 => by
    by_cases hij : j = i
    · subst hij
      have hl : j < ρ.length := by
        have := (List.getElem?_eq_some_iff.mp h2).1
        simpa using this
      rw [List.getElem?_set_self hl] at h2
      cases h2
    · by_cases hjk : j = k
      · subst hjk
        have hl : j < ρ.length := by
          have := (List.getElem?_eq_some_iff.mp h4).1
          simpa using this
        rw [List.getElem?_set_self hl] at h4
        cases h4
      · rw [List.getElem?_set_ne hij] at h1 h2
        rw [List.getElem?_set_ne hjk] at h3 h4
        exact E.dis i k p ds es h1 h2 h3 h4⟩
theorem env_get {i : Nat} {d : PyData} (E : Envs K O σ ρ H) (h : ρ[i]? = some (some (.val d))) : ∃ v, σ[i]? = some (some v) ∧ DP K (msk O H) v d := by
  have hl : i < σ.length := by rw [E.len]; exact (List.getElem?_eq_some_iff.mp h).1
  have h1 : σ[i]? = some σ[i] := List.getElem?_eq_getElem hl
  have q := E.ok i _ _ h1 h
  cases e : σ[i] with
  | none => rw [e] at q; exact q.elim
  | some v => rw [e] at q h1; exact ⟨v, h1, q⟩
theorem env_lst {i : Nat} {ds : List PyData} (E : Envs K O σ ρ H) (h : ρ[i]? = some (some (.lst ds))) : ∃ p vs, σ[i]? = some (some (.ref p)) ∧ p ∈ O ∧ H p = some (.lst vs) ∧ DPAll K (msk O H) vs ds := by
  have hl : i < σ.length := by rw [E.len]; exact (List.getElem?_eq_some_iff.mp h).1
  have h1 : σ[i]? = some σ[i] := List.getElem?_eq_getElem hl
  obtain ⟨p, e, hp, vs, q, r⟩ := lst_val (E.ok i _ _ h1 h)
  rw [e] at h1
  exact ⟨p, vs, h1, hp, q, r⟩
/-- an owned list changed -/
theorem stp_write {i : Nat} {p : Addr} {ds es : List PyData} {vs : List V} (E : Envs K O σ ρ H) (h : ρ[i]? = some (some (.lst ds))) (hσ : σ[i]? = some (some (.ref p))) (q : DPAll K (msk O H) vs es) :
    Stp K n O σ ρ H O σ (ρ.set i (some (.lst es))) (upd H p (.lst vs)) := by
  obtain ⟨p', vs0, hσ', hp, hH, hd⟩ := env_lst E h
  rw [hσ] at hσ'; cases hσ'
  have hl : i < ρ.length := (List.getElem?_eq_some_iff.mp h).1
  have em : msk O (upd H p (.lst vs)) = msk O H := by
    funext b
    unfold msk
    by_cases hb : b ∈ O
    · rw [if_pos hb, if_pos hb]
    · rw [if_neg hb, if_neg hb, upd_ne (fun e : b = p => hb (by rw [e]; exact hp))]
  refine ⟨fun _ h => h, fun _ h => .inl h, fun b o nb hb => ?_, ⟨by rw [List.length_set]; exact E.len, fun j x e h1 h2 => ?_, fun b hb => ?_, fun j k r d1 d2 h1 h2 h3 h4 => ?_⟩, fun b ⟨j, d1, h1, h2⟩ => ?_, fun j d1 hj h2 => ?_⟩
  · rw [upd_ne (fun e : b = p => nb ⟨i, ds, by rw [e]; exact hσ, h⟩)]; exact hb
  · by_cases hij : i = j
    · subst hij
      rw [List.getElem?_set_self hl] at h2
      cases h2
      rw [hσ] at h1; cases h1
      exact ⟨hp, vs, upd_same, by rw [em]; exact q⟩
    · rw [List.getElem?_set_ne hij] at h2
      have w := E.ok j x e h1 h2
      cases e with
      | val d =>
        cases x with
        | none => exact w.elim
        | some v => exact (show DP K (msk O (upd H p (.lst vs))) v d by rw [em]; exact w)
      | lst d2 =>
        obtain ⟨r, rfl, hr, ws, hw, hd2⟩ := lst_val w
        refine ⟨hr, ws, ?_, by rw [em]; exact hd2⟩
        rw [upd_ne (fun e : r = p => hij (E.dis i j p ds d2 hσ h (by rw [← e]; exact h1) h2))]
        exact hw
  · by_cases e : b = p
    · subst e; rw [upd_same]; exact fun z => nomatch z
    · rw [upd_ne e]; exact E.al b hb
  · by_cases hij : i = j
    · subst hij
      by_cases hik : i = k
      · exact hik
      · rw [List.getElem?_set_ne hik] at h4
        rw [hσ] at h1; cases h1
        exact E.dis i k p ds d2 hσ h h3 h4
    · rw [List.getElem?_set_ne hij] at h2
      by_cases hik : i = k
      · subst hik
        rw [hσ] at h3; cases h3
        exact E.dis j i p d1 ds h1 h2 hσ h
      · rw [List.getElem?_set_ne hik] at h4
        exact E.dis j k r d1 d2 h1 h2 h3 h4
  · by_cases hij : i = j
    · subst hij
      exact .inl ⟨i, ds, h1, h⟩
    · rw [List.getElem?_set_ne hij] at h2
      exact .inl ⟨j, d1, h1, h2⟩
  · refine ⟨rfl, ?_⟩
    by_cases hij : i = j
    · subst hij
      exact ⟨es, List.getElem?_set_self hl⟩
    · rw [List.getElem?_set_ne hij]
      exact ⟨d1, h2⟩
/-- a fresh list becomes a name's own -/
theorem stp_own {j : Nat} {p : Addr} {ds : List PyData} {vs : List V} (E : Envs K O σ ρ H) (np : p ∉ O) (hH : H p = some (.lst vs)) (q : DPAll K (msk (p :: O) H) vs ds)
    (nown : ∀ (i : Nat) (es : List PyData), σ[i]? = some (some (.ref p)) → ρ[i]? ≠ some (some (.lst es))) (nval : ∀ (i : Nat) (v : V) (d : PyData), σ[i]? = some (some v) → ρ[i]? = some (some (.val d)) → DP K (msk (p :: O) H) v d)
    (nlst : ∀ (i : Nat) (r : Addr) (es : List PyData), σ[i]? = some (some (.ref r)) → ρ[i]? = some (some (.lst es)) → ∃ ws, H r = some (.lst ws) ∧ DPAll K (msk (p :: O) H) ws es) :
    Envs K (p :: O) (σ.set j (some (.ref p))) (ρ.set j (some (.lst ds))) H := by
  refine ⟨by rw [List.length_set, List.length_set, E.len], fun i x e h1 h2 => ?_, fun b hb => ?_, fun i k r d1 d2 h1 h2 h3 h4 => ?_⟩
  · by_cases hij : j = i
    · subst hij
      have hl : j < ρ.length := by
        have := (List.getElem?_eq_some_iff.mp h2).1
        simpa using this
      rw [List.getElem?_set_self hl] at h2
      rw [List.getElem?_set_self (by rw [E.len]; exact hl)] at h1
      cases h1; cases h2
      exact ⟨List.mem_cons_self, vs, hH, q⟩
    · rw [List.getElem?_set_ne hij] at h1 h2
      have w := E.ok i x e h1 h2
      cases e with
      | val d =>
        cases x with
        | none => exact w.elim
        | some v => exact nval i v d h1 h2
      | lst es =>
        obtain ⟨r, rfl, hr, _⟩ := lst_val w
        obtain ⟨ws, a, b⟩ := nlst i r es h1 h2
        exact ⟨List.mem_cons_of_mem _ hr, ws, a, b⟩
  · rcases List.mem_cons.mp hb with rfl | hb
    · rw [hH]; exact fun z => nomatch z
    · exact E.al b hb
  · by_cases hij : j = i
    · subst hij
      have hl : j < ρ.length := by
        have := (List.getElem?_eq_some_iff.mp h2).1
        simpa using this
      rw [List.getElem?_set_self (by rw [E.len]; exact hl)] at h1
      cases h1
      by_cases hjk : j = k
      · exact hjk
      · rw [List.getElem?_set_ne hjk] at h3 h4
        exact absurd h4 (nown k d2 h3)
    · rw [List.getElem?_set_ne hij] at h1 h2
      by_cases hjk : j = k
      · subst hjk
        have hl : j < ρ.length := by
          have := (List.getElem?_eq_some_iff.mp h4).1
          simpa using this
        rw [List.getElem?_set_self (by rw [E.len]; exact hl)] at h3
        cases h3
        exact absurd h2 (nown i d1 h1)
      · rw [List.getElem?_set_ne hjk] at h3 h4
        exact E.dis i k r d1 d2 h1 h2 h3 h4

/-! ### expressions -/
theorem dw_var {i : Nat} {d : PyData} (h : ρ[i]? = some (some (.val d))) (k : Φ d ρ) : DW K n (tVar i) ρ Φ := fun O σ H E Q q => by
  obtain ⟨v, h1, h2⟩ := env_get E h
  exact ⟨v, h1, q v d ρ O H k (Stp.refl E) h2⟩
theorem dw_int {i : Int} (k : Φ (.int i) ρ) : DW K n (tC (.int i)) ρ Φ := fun O σ H E Q q => q _ _ ρ O H k (Stp.refl E) (.int i)
theorem dw_bl {i : Bool} (k : Φ (.bool i) ρ) : DW K n (tC (.bl i)) ρ Φ := fun O σ H E Q q => q _ _ ρ O H k (Stp.refl E) (.bl i)
theorem dw_str {i : Str} (k : Φ (.str i) ρ) : DW K n (tC (.str i)) ρ Φ := fun O σ H E Q q => q _ _ ρ O H k (Stp.refl E) (.str i)
theorem dw_non (k : Φ .none ρ) : DW K n (tC .non) ρ Φ := fun O σ H E Q q => q _ _ ρ O H k (Stp.refl E) .non
theorem DW.mono {Ψ : PD} (h : DW K n te ρ Φ) (m : ∀ d ρ', Φ d ρ' → Ψ d ρ') : DW K n te ρ Ψ := fun O σ H E Q q => h O σ H E Q fun v d ρ' O' H' p => q v d ρ' O' H' (m d ρ' p)
theorem dw_op {r : R2} (h : DW K n ta ρ fun x ρ1 => DW K n tb ρ1 fun y ρ2 => RD r K x y fun z => Φ z ρ2) : DW K n (tOp r ta tb) ρ Φ := fun O σ H E Q q =>
  h O σ H E _ fun v x ρ1 O1 H1 hb S1 r1 => hb O1 σ H1 S1.env _ fun u y ρ2 O2 H2 hr S2 r2 => hr O2 H2 v u S2.env.al (S2.dp S1.env r1) r2 Q fun w z H3 hz e r3 =>
    q w z ρ2 O2 H3 hz ((S1.trans E S2).trans E (Stp.grow S2.env e)) r3
theorem dw_un {r : V → Hp → VK → Prop} (h : DW K n ta ρ fun x ρ1 => RU r K x fun z => Φ z ρ1) : DW K n (tUn r ta) ρ Φ := fun O σ H E Q q =>
  h O σ H E _ fun v x ρ1 O1 H1 hr S1 r1 => hr O1 H1 v S1.env.al r1 Q fun w z H3 hz e r3 => q w z ρ1 O1 H3 hz (S1.trans E (Stp.grow S1.env e)) r3
theorem da_nil {Ψ : List PyData → Rho → Prop} (k : Ψ [] ρ) : DA K n tNil ρ Ψ := fun O σ H E Q q => q [] [] ρ O H k (Stp.refl E) .nil
theorem da_cons {tr : TA} {Ψ : List PyData → Rho → Prop} (h : DW K n ta ρ fun x ρ1 => DA K n tr ρ1 fun xs ρ2 => Ψ (x :: xs) ρ2) : DA K n (tCons ta tr) ρ Ψ := fun O σ H E Q q =>
  h O σ H E _ fun v x ρ1 O1 H1 hb S1 r1 => hb O1 σ H1 S1.env _ fun us ys ρ2 O2 H2 hr S2 r2 => q (v :: us) (x :: ys) ρ2 O2 H2 hr (S1.trans E S2) (.cons (S2.dp S1.env r1) r2)
theorem dw_cb {r : List V → Hp → VK → Prop} {t : TA} (h : DA K n t ρ fun xs ρ1 => RC r K xs fun z => Φ z ρ1) : DW K n (tCB r t) ρ Φ := fun O σ H E Q q =>
  h O σ H E _ fun vs xs ρ1 O1 H1 hr S1 r1 => hr O1 H1 vs S1.env.al r1 Q fun w z H3 hz e r3 => q w z ρ1 O1 H3 hz (S1.trans E (Stp.grow S1.env e)) r3
theorem dw_if (h : DT K n tt ρ fun b ρ1 => (b = true → DW K n ta ρ1 Φ) ∧ (b = false → DW K n tb ρ1 Φ)) : DW K n (tIf tt ta tb) ρ Φ := fun O σ H E Q q =>
  h O σ H E _ fun b ρ1 O1 H1 hk S1 => by
    cases b with
    | true => exact hk.1 rfl O1 σ H1 S1.env Q fun v d ρ2 O2 H2 p S2 r => q v d ρ2 O2 H2 p (S1.trans E S2) r
    | false => exact hk.2 rfl O1 σ H1 S1.env Q fun v d ρ2 O2 H2 p S2 r => q v d ρ2 O2 H2 p (S1.trans E S2) r
theorem dp_bl {O : List Addr} {v : V} {b : Bool} (h : DP K (msk O H) v (.bool b)) : v = .bl b := by cases h; rfl
theorem dp_int {O : List Addr} {v : V} {b : Int} (h : DP K (msk O H) v (.int b)) : v = .int b := by cases h; rfl
theorem dp_str {O : List Addr} {v : V} {b : Str} (h : DP K (msk O H) v (.str b)) : v = .str b := by cases h; rfl
theorem dw_andV (h : DW K n ta ρ fun x ρ1 => ∃ c, x = .bool c ∧ (c = true → DW K n tb ρ1 Φ) ∧ (c = false → Φ (.bool false) ρ1)) : DW K n (tAndV ta tb) ρ Φ := fun O σ H E Q q =>
  h O σ H E _ fun v d ρ1 O1 H1 ⟨c, e, h1, h2⟩ S1 r1 => by
    subst e
    refine ⟨c, dp_bl r1, ?_⟩
    cases c with
    | true => exact h1 rfl O1 σ H1 S1.env Q fun v d ρ2 O2 H2 p S2 r => q v d ρ2 O2 H2 p (S1.trans E S2) r
    | false => exact q _ _ ρ1 O1 H1 (h2 rfl) S1 (.bl false)
theorem dw_orV (h : DW K n ta ρ fun x ρ1 => ∃ c, x = .bool c ∧ (c = false → DW K n tb ρ1 Φ) ∧ (c = true → Φ (.bool true) ρ1)) : DW K n (tOrV ta tb) ρ Φ := fun O σ H E Q q =>
  h O σ H E _ fun v d ρ1 O1 H1 ⟨c, e, h1, h2⟩ S1 r1 => by
    subst e
    refine ⟨c, dp_bl r1, ?_⟩
    cases c with
    | false => exact h1 rfl O1 σ H1 S1.env Q fun v d ρ2 O2 H2 p S2 r => q v d ρ2 O2 H2 p (S1.trans E S2) r
    | true => exact q _ _ ρ1 O1 H1 (h2 rfl) S1 (.bl true)
theorem dw_notV (h : DW K n ta ρ fun x ρ1 => ∃ c, x = .bool c ∧ Φ (.bool (!c)) ρ1) : DW K n (tNotV ta) ρ Φ := fun O σ H E Q q =>
  h O σ H E _ fun v d ρ1 O1 H1 ⟨c, e, h1⟩ S1 r1 => by
    subst e
    exact ⟨c, dp_bl r1, q _ _ ρ1 O1 H1 h1 S1 (.bl _)⟩
theorem fresh_no {O : List Addr} {H : Hp} {p : Addr} (al : ∀ b ∈ O, H b ≠ none) (hp : H p = none) : p ∉ O := fun h => al p h hp
theorem dw_tup {t : TA} (h : DA K n t ρ fun xs ρ1 => xs.length ≤ 100000 ∧ Φ (.tuple xs) ρ1) : DW K n (tTup t) ρ Φ := fun O σ H E Q q =>
  h O σ H E _ fun vs xs ρ1 O1 H1 ⟨hl, hk⟩ S1 r1 => ⟨Nat.le_trans (Nat.le_of_eq (dpa_len r1)) (Nat.le_trans hl (by decide)), fun p hp => by
    have np := fresh_no S1.env.al hp
    exact q _ _ ρ1 O1 _ hk (S1.trans E (Stp.grow S1.env (Ext.new hp))) (.tup (SqT.of (msk_of np upd_same)) (dpa_ext (msk_ext (Ext.new hp)) r1))⟩
/-- a < b < c -/
theorem dw_chain {r r' : R2} (h : DW K n ta ρ fun x ρ1 => DW K n tb ρ1 fun y ρ2 => RD r K x y fun z => ∃ k, z = .bool k ∧ (k = true → DW K n tc ρ2 fun w ρ3 => RD r' K y w fun z' => Φ z' ρ3) ∧ (k = false → Φ (.bool false) ρ2)) : DW K n (tChain r r' ta tb tc) ρ Φ := by
  intro O σ H E Q q
  refine h O σ H E _ fun v x ρ1 O1 H1 hb S1 r1 => hb O1 σ H1 S1.env _ fun u y ρ2 O2 H2 hr S2 r2 => hr O2 H2 v u S2.env.al (S2.dp S1.env r1) r2 _ fun w z H3 hz e r3 => ?_
  obtain ⟨k, rfl, ht, hf⟩ := hz
  refine ⟨k, dp_bl r3, ?_⟩
  have S3 := Stp.grow (n := n) S2.env e
  have S123 := (S1.trans E S2).trans E S3
  cases k with
  | true =>
    refine ht rfl O2 σ H3 S3.env _ fun w2 y2 ρ4 O4 H4 hr4 S4 r4 => ?_
    exact hr4 O4 H4 u w2 S4.env.al (S4.dp S3.env (S3.dp S2.env r2)) r4 Q fun v5 z5 H5 hz5 e5 r5 => q v5 z5 ρ4 O4 H5 hz5 ((S123.trans E S4).trans E (Stp.grow S4.env e5)) r5
  | false => exact q _ _ ρ2 O2 H3 (hf rfl) S123 (.bl false)

/-! ### tests -/
theorem dt_test {Ψ : Bool → Rho → Prop} (h : DW K n te ρ fun d ρ1 => ∃ b, d = .bool b ∧ Ψ b ρ1) : DT K n (tTest te) ρ Ψ := fun O σ H E Q q =>
  h O σ H E _ fun v d ρ1 O1 H1 ⟨b, e, hk⟩ S r => by
    subst e
    exact ⟨b, dp_bl r, q b ρ1 O1 H1 hk S⟩
theorem dt_B {Ψ : Bool → Rho → Prop} (h : DW K n te ρ fun d ρ1 => ∃ b, d = .bool b ∧ Ψ b ρ1) : DT K n (tB te) ρ Ψ := fun O σ H E Q q =>
  h O σ H E _ fun v d ρ1 O1 H1 ⟨b, e, hk⟩ S r => by
    subst e
    exact ⟨b, dp_bl r, q b ρ1 O1 H1 hk S⟩
theorem dt_and {Ψ : Bool → Rho → Prop} (h : DT K n tt ρ fun b ρ1 => (b = true → DT K n tu ρ1 Ψ) ∧ (b = false → Ψ false ρ1)) : DT K n (tAnd tt tu) ρ Ψ := fun O σ H E Q q =>
  h O σ H E _ fun b ρ1 O1 H1 ⟨h1, h2⟩ S => by
    cases b with
    | true => exact h1 rfl O1 σ H1 S.env Q fun b ρ2 O2 H2 p S2 => q b ρ2 O2 H2 p (S.trans E S2)
    | false => exact q false ρ1 O1 H1 (h2 rfl) S
theorem dt_or {Ψ : Bool → Rho → Prop} (h : DT K n tt ρ fun b ρ1 => (b = false → DT K n tu ρ1 Ψ) ∧ (b = true → Ψ true ρ1)) : DT K n (tOr tt tu) ρ Ψ := fun O σ H E Q q =>
  h O σ H E _ fun b ρ1 O1 H1 ⟨h1, h2⟩ S => by
    cases b with
    | false => exact h1 rfl O1 σ H1 S.env Q fun b ρ2 O2 H2 p S2 => q b ρ2 O2 H2 p (S.trans E S2)
    | true => exact q true ρ1 O1 H1 (h2 rfl) S
theorem dt_not {Ψ : Bool → Rho → Prop} (h : DT K n tt ρ fun b ρ1 => Ψ (!b) ρ1) : DT K n (tNot tt) ρ Ψ := fun O σ H E Q q =>
  h O σ H E _ fun b ρ1 O1 H1 hk S => q (!b) ρ1 O1 H1 hk S
theorem dt_yes {Ψ : Bool → Rho → Prop} (h : Ψ true ρ) : DT K n tYes ρ Ψ := fun O σ H E Q q => q true ρ O H h (Stp.refl E)
end
end DL
namespace DL
open PySem L2
abbrev PF := List PyData → Rho → Prop
/-- te makes a fresh list -/
def DF (K : PySem.W.Frag) (n : Nat) (te : TE) (ρ : Rho) (Φ : PF) : Prop :=
  ∀ O σ H, Envs K O σ ρ H → ∀ Q : VK, (∀ p vs ds ρ' O' H', Φ ds ρ' → Stp K n O σ ρ H (p :: O') σ ρ' H' → p ∉ O' → ¬ Owns σ ρ' p → H p = none → H' p = some (.lst vs) → DPAll K (msk (p :: O') H') vs ds → Q (.ref p) H') → te σ H Q
def OwnsL (n : Nat) (σ : L2.St) (ρ : Rho) (p : Addr) : Prop := ∃ (i : Nat) (ds : List PyData), n ≤ i ∧ σ[i]? = some (some (.ref p)) ∧ ρ[i]? = some (some (.lst ds))
structure DE2 extends DE where
  rf : PF := fun _ _ => False
def DSx (K : PySem.W.Frag) (n : Nat) (ts : TS) (ρ : Rho) (F : DE2) : Prop :=
  ∀ O σ H, Envs K O σ ρ H → ∀ D : Ends,
    (∀ O' σ' ρ' H', F.nx ρ' → Stp K n O σ ρ H O' σ' ρ' H' → D.nx σ' H') →
    (∀ v d O' σ' ρ' H', F.rt d ρ' → Stp K n O σ ρ H O' σ' ρ' H' → DP K (msk O' H') v d → D.rt v H') →
    (∀ p vs ds O' σ' ρ' H', F.rf ds ρ' → Stp K n O σ ρ H O' σ' ρ' H' → p ∈ O' → ¬ Owns σ' ρ' p → (H p = none ∨ OwnsL n σ ρ p) → H' p = some (.lst vs) → DPAll K (msk O' H') vs ds → D.rt (.ref p) H') →
    (∀ O' σ' ρ' H', F.bk ρ' → Stp K n O σ ρ H O' σ' ρ' H' → D.bk σ' H') →
    (∀ O' σ' ρ' H', F.ct ρ' → Stp K n O σ ρ H O' σ' ρ' H' → D.ct σ' H') → ts D σ H
section
variable {K : PySem.W.Frag} {n : Nat} {O O1 : List Addr} {σ : L2.St} {ρ ρ1 : Rho} {H H1 : Hp} {ta tb tc te : TE} {tt tu : TT} {Φ : PD} {F : DE2} {ts us : TS} {Φf : PF}
theorem ownsL_back {O1 : List Addr} {σ1 : L2.St} {ρ1 : Rho} {H1 : Hp} {p : Addr} (S : Stp K n O σ ρ H O1 σ1 ρ1 H1) (w : OwnsL n σ1 ρ1 p) : H p = none ∨ OwnsL n σ ρ p := by
  obtain ⟨i, ds, hi, h1, h2⟩ := w
  rcases S.own p ⟨i, ds, h1, h2⟩ with ⟨j, es, h3, h4⟩ | h
  · by_cases hj : j < n
    · obtain ⟨e, ds', h5⟩ := S.pin j es hj h4
      have := S.env.dis j i p ds' ds (e.trans h3) h5 h1 h2
      omega
    · exact .inr ⟨j, es, by omega, h3, h4⟩
  · exact .inl h
theorem ownsL_back2 {O1 : List Addr} {σ1 : L2.St} {ρ1 : Rho} {H1 : Hp} {p : Addr} (E : Envs K O σ ρ H) (S : Stp K n O σ ρ H O1 σ1 ρ1 H1) (w : H1 p = none ∨ OwnsL n σ1 ρ1 p) : H p = none ∨ OwnsL n σ ρ p := by
  rcases w with w | w
  · exact .inl (S.none_back (fun z => S.env.al p (S.sub p z) w) w E)
  · exact ownsL_back S w
theorem env_forget {j : Nat} (E : Envs K O σ ρ H) : Envs K O σ (ρ.set j none) H :=
  ⟨by rw [List.length_set, E.len], fun i y e h1 h2 => by
    by_cases hij : j = i
    · subst hij
      have hl : j < ρ.length := by
        have := (List.getElem?_eq_some_iff.mp h2).1
        simpa using this
      rw [List.getElem?_set_self hl] at h2
      cases h2
    · rw [List.getElem?_set_ne hij] at h2
      exact E.ok i y e h1 h2, E.al, fun i k p ds es h1 h2 h3 h4 => by
    by_cases hij : j = i
    · subst hij
      have hl : j < ρ.length := by
        have := (List.getElem?_eq_some_iff.mp h2).1
        simpa using this
      rw [List.getElem?_set_self hl] at h2
      cases h2
    · by_cases hjk : j = k
      · subst hjk
        have hl : j < ρ.length := by
          have := (List.getElem?_eq_some_iff.mp h4).1
          simpa using this
        rw [List.getElem?_set_self hl] at h4
        cases h4
      · rw [List.getElem?_set_ne hij] at h2
        rw [List.getElem?_set_ne hjk] at h4
        exact E.dis i k p ds es h1 h2 h3 h4⟩
theorem owns_forget {j : Nat} {p : Addr} (w : Owns σ (ρ.set j none) p) : ∃ i ds, i ≠ j ∧ σ[i]? = some (some (.ref p)) ∧ ρ[i]? = some (some (.lst ds)) := by
  obtain ⟨i, ds, h1, h2⟩ := w
  by_cases hij : j = i
  · subst hij
    have hl : j < ρ.length := by
      have := (List.getElem?_eq_some_iff.mp h2).1
      simpa using this
    rw [List.getElem?_set_self hl] at h2
    cases h2
  · rw [List.getElem?_set_ne hij] at h2
    exact ⟨i, ds, fun e => hij e.symm, h1, h2⟩
theorem stp_forget {j : Nat} (E : Envs K O σ ρ H) (hj : n ≤ j) : Stp K n O σ ρ H O σ (ρ.set j none) H where
  sub := fun _ h => h
  new := fun _ h => .inl h
  le := fun _ _ _ h => h
  env := env_forget E
  own := fun b w => by
    obtain ⟨i, ds, _, h1, h2⟩ := owns_forget w
    exact .inl ⟨i, ds, h1, h2⟩
  pin := fun i es hi h => by
    refine ⟨rfl, es, ?_⟩
    rw [List.getElem?_set_ne (by omega)]
    exact h
theorem msk_cons_le {p : Addr} {O : List Addr} {H : Hp} : Ext (msk (p :: O) H) (msk O H) := fun b o h => by
  obtain ⟨nb, h⟩ := msk_some h
  exact msk_of (fun hb => nb (List.mem_cons_of_mem _ hb)) h
theorem env_unown {p : Addr} (E : Envs K (p :: O) σ ρ H) (np : p ∉ O) (no : ¬ Owns σ ρ p) : Envs K O σ ρ H :=
  ⟨E.len, fun i x e h1 h2 => by
    have w := E.ok i x e h1 h2
    cases e with
    | val d =>
      cases x with
      | none => exact w.elim
      | some v => exact dp_ext msk_cons_le (show DP K (msk (p :: O) H) v d from w)
    | lst ds =>
      obtain ⟨r, rfl, hr, vs, hv, hd⟩ := lst_val w
      refine ⟨?_, vs, hv, dpa_ext msk_cons_le hd⟩
      rcases List.mem_cons.mp hr with rfl | hr
      · exact absurd ⟨i, ds, h1, h2⟩ no
      · exact hr, fun b hb => E.al b (List.mem_cons_of_mem _ hb), E.dis⟩
theorem stp_unown {p : Addr} {σ1 : L2.St} {H1 : Hp} (S : Stp K n O σ ρ H (p :: O1) σ1 ρ1 H1) (np : p ∉ O1) (no : ¬ Owns σ1 ρ1 p) (hp : p ∉ O) : Stp K n O σ ρ H O1 σ1 ρ1 H1 where
  sub := fun b hb => by
    rcases List.mem_cons.mp (S.sub b hb) with rfl | h
    · exact absurd hb hp
    · exact h
  new := fun b hb => S.new b (List.mem_cons_of_mem _ hb)
  le := S.le
  env := env_unown S.env np no
  own := S.own
  pin := S.pin
theorem fresh_notin {p : Addr} (E : Envs K O σ ρ H) (hp : H p = none) : p ∉ O := fun h => E.al p h hp
theorem dw_fresh (h : DF K n te ρ fun ds ρ' => Φ (.list ds) ρ') : DW K n te ρ Φ := fun O σ H E Q q =>
  h O σ H E Q fun p vs ds ρ' O' H' hk S np no hp hH hd => q _ _ ρ' O' H' hk (stp_unown S np no (fresh_notin E hp)) (.lst (SqL.of (msk_of np hH)) (dpa_ext msk_cons_le hd))
/-- at a fresh address nothing else stands -/
theorem fresh_ext {O : List Addr} {H : Hp} {p : Addr} {o : HO} (hp : H p = none) : Ext (msk O H) (msk (p :: O) (upd H p o)) := fun b u h => by
  obtain ⟨nb, h⟩ := msk_some h
  have nbp : b ≠ p := fun e => by rw [e, hp] at h; cases h
  refine msk_of (fun hb => ?_) (by rw [upd_ne nbp]; exact h)
  rcases List.mem_cons.mp hb with e | e
  · exact nbp e
  · exact nb e
theorem not_owned {p : Addr} (E : Envs K O σ ρ H) (hp : H p = none) : ¬ Owns σ ρ p := fun w => E.al p (E.ownO w) hp
theorem stp_alloc {p : Addr} {o : HO} (E : Envs K O σ ρ H) (hp : H p = none) : Stp K n O σ ρ H (p :: O) σ ρ (upd H p o) where
  sub := fun b hb => List.mem_cons_of_mem _ hb
  new := fun b hb => by
    rcases List.mem_cons.mp hb with rfl | hb
    · exact .inr hp
    · exact .inl hb
  le := fun b u _ h => Ext.new hp b u h
  env := ⟨E.len, fun i x e h1 h2 => by
    have w := E.ok i x e h1 h2
    cases e with
    | val d =>
      cases x with
      | none => exact w.elim
      | some v => exact dp_ext (fresh_ext hp) (show DP K (msk O H) v d from w)
    | lst ds =>
      obtain ⟨r, rfl, hr, vs, hv, hd⟩ := lst_val w
      exact ⟨List.mem_cons_of_mem _ hr, vs, Ext.new hp r _ hv, dpa_ext (fresh_ext hp) hd⟩, fun b hb => by
    by_cases e : b = p
    · rw [e, upd_same]; exact fun z => nomatch z
    · rw [upd_ne e]
      rcases List.mem_cons.mp hb with z | z
      · exact absurd z e
      · exact E.al b z, E.dis⟩
  own := fun _ h => .inl h
  pin := fun i ds _ h => ⟨rfl, ds, h⟩
theorem df_lst {t : TA} {Ψ : PF} (h : DA K n t ρ fun xs ρ1 => xs.length ≤ 100000 ∧ Ψ xs ρ1) : DF K n (tLst t) ρ Ψ := fun O σ H E Q q =>
  h O σ H E _ fun vs xs ρ1 O1 H1 ⟨hl, hk⟩ S1 r1 => ⟨Nat.le_trans (Nat.le_of_eq (dpa_len r1)) (Nat.le_trans hl (by decide)), fun p hp => by
    have np := fresh_no S1.env.al hp
    have np0 : p ∉ O := fun h => np (S1.sub p h)
    exact q p vs xs ρ1 O1 _ hk (S1.trans E (stp_alloc S1.env hp)) np (not_owned S1.env hp) (S1.none_back np0 hp E) upd_same (dpa_ext (fresh_ext hp) r1)⟩

/-! ### what a loop goes over -/
structure Src (K : PySem.W.Frag) (J : It) (O : List Addr) (H : Hp) (ds : List PyData) : Prop where
  go : ∀ O' H' i, Ext (msk O H) (msk O' H') → i < ds.length → J.go i H'
  stop : ∀ O' H' i, Ext (msk O H) (msk O' H') → ds.length ≤ i → J.stop i H'
  yld : ∀ O' H' i x H'' d, Ext (msk O H) (msk O' H') → (∀ b ∈ O', H' b ≠ none) → J.yld i H' x H'' → ds[i]? = some d → Ext H' H'' ∧ DP K (msk O' H'') x d
def DI (K : PySem.W.Frag) (n : Nat) (wi : TI) (ρ : Rho) (Φ : PF) : Prop :=
  ∀ O σ H, Envs K O σ ρ H → ∀ R : It → Hp → Prop, (∀ J ds ρ' O' H', Φ ds ρ' → Stp K n O σ ρ H O' σ ρ' H' → Src K J O' H' ds → R J H') → wi σ H R
theorem msk_l {O : List Addr} {H : Hp} {a : Addr} {xs : List V} (h : SqL K (msk O H) a xs) : SqL K H a xs := msk_le.l h
theorem msk_t {O : List Addr} {H : Hp} {a : Addr} {xs : List V} (h : SqT K (msk O H) a xs) : SqT K H a xs := msk_le.t h
theorem src_tup {a : Addr} {O : List Addr} {H : Hp} {ds : List PyData} {vs : List V} (h : SqT K (msk O H) a vs) (hd : DPAll K (msk O H) vs ds) : Src K (Itt K a) O H ds := by
  have hl := dpa_len hd
  refine ⟨fun O' H' i e hi => ⟨vs, vs[i]'(by omega), msk_t (e.t h), by simp⟩, fun O' H' i e hi => ⟨vs, msk_t (e.t h), by omega⟩, fun O' H' i x H'' d e al y hx => ?_⟩
  obtain ⟨rfl, y⟩ := y
  have hx' := y vs (msk_t (e.t h))
  obtain ⟨d', h1, h2⟩ := dpa_get' hd hx'
  rw [hx] at h1; cases h1
  exact ⟨Ext.refl _, dp_ext e h2⟩
theorem src_lst {a : Addr} {O : List Addr} {H : Hp} {ds : List PyData} {vs : List V} (h : SqL K (msk O H) a vs) (hd : DPAll K (msk O H) vs ds) : Src K (Itl K a) O H ds := by
  have hl := dpa_len hd
  refine ⟨fun O' H' i e hi => ⟨vs, vs[i]'(by omega), msk_l (e.l h), by simp⟩, fun O' H' i e hi => ⟨vs, msk_l (e.l h), by omega⟩, fun O' H' i x H'' d e al y hx => ?_⟩
  obtain ⟨rfl, y⟩ := y
  have hx' := y vs (msk_l (e.l h))
  obtain ⟨d', h1, h2⟩ := dpa_get' hd hx'
  rw [hx] at h1; cases h1
  exact ⟨Ext.refl _, dp_ext e h2⟩
def rngD (lo : Int) (m : Nat) : List PyData := (List.range m).map fun (i : Nat) => PyData.int (lo + (i : Int))
theorem rngD_get {lo : Int} {m i : Nat} {d : PyData} (h : (rngD lo m)[i]? = some d) : i < m ∧ d = .int (lo + (i : Int)) := by
  unfold rngD at h
  rw [List.getElem?_map] at h
  by_cases hi : i < m
  · rw [List.getElem?_range hi] at h
    exact ⟨hi, (Option.some.inj h).symm⟩
  · rw [List.getElem?_eq_none (by simp; omega)] at h; cases h
theorem rngD_len {lo : Int} {m : Nat} : (rngD lo m).length = m := by unfold rngD; simp
theorem src_rng {lo : Int} {m : Nat} {O : List Addr} {H : Hp} : Src K (Itr lo m) O H (rngD lo m) := by
  refine ⟨fun O' H' i e hi => by rw [rngD_len] at hi; exact hi, fun O' H' i e hi => by rw [rngD_len] at hi; exact hi, fun O' H' i x H'' d e al y hx => ?_⟩
  obtain ⟨rfl, rfl⟩ := y
  obtain ⟨_, rfl⟩ := rngD_get hx
  exact ⟨Ext.refl _, .int _⟩
def enumD (ds : List PyData) : List PyData := ds.zipIdx.map fun (p : PyData × Nat) => PyData.tuple [.int (p.2 : Int), p.1]
theorem enumD_get {ds : List PyData} {i : Nat} {d : PyData} (h : (enumD ds)[i]? = some d) : ∃ x, ds[i]? = some x ∧ d = .tuple [.int (i : Int), x] := by
  unfold enumD at h
  rw [List.getElem?_map, List.getElem?_zipIdx] at h
  cases e : ds[i]? with
  | none => rw [e] at h; simp at h
  | some x => rw [e] at h; simp at h; exact ⟨x, rfl, h.symm⟩
theorem enumD_len {ds : List PyData} : (enumD ds).length = ds.length := by unfold enumD; simp
theorem src_enum {a : Addr} {O : List Addr} {H : Hp} {ds : List PyData} {vs : List V} (h : SqL K (msk O H) a vs) (hd : DPAll K (msk O H) vs ds) : Src K (Ite K a) O H (enumD ds) := by
  have hl := dpa_len hd
  refine ⟨fun O' H' i e hi => ⟨vs, vs[i]'(by rw [enumD_len] at hi; omega), msk_l (e.l h), by simp⟩, fun O' H' i e hi => ⟨vs, msk_l (e.l h), by rw [enumD_len] at hi; omega⟩, fun O' H' i x H'' d e al y hx => ?_⟩
  obtain ⟨T, z, rfl, hT, rfl, y⟩ := y
  obtain ⟨w, h1, rfl⟩ := enumD_get hx
  have hx' := y vs (msk_l (e.l h))
  obtain ⟨d', h2, h3⟩ := dpa_get' hd hx'
  rw [h1] at h2; cases h2
  have nT := fresh_no al hT
  exact ⟨Ext.new hT, .tup (SqT.of (msk_of nT upd_same)) (.cons (.int _) (.cons (dp_ext (msk_ext (Ext.new hT)) (dp_ext e h3)) .nil))⟩
theorem di_tup {Ψ : PF} (h : DW K n te ρ fun d ρ1 => ∃ ds, d = .tuple ds ∧ Ψ ds ρ1) : DI K n (iTup K te) ρ Ψ := fun O σ H E R q =>
  h O σ H E _ fun v d ρ1 O1 H1 ⟨ds, e, hk⟩ S r => by
    subst e
    cases r with
    | tup hq hd => exact ⟨_, rfl, ⟨_, msk_t hq⟩, q _ ds ρ1 O1 H1 hk S (src_tup hq hd)⟩
theorem di_lst {Ψ : PF} (h : DW K n te ρ fun d ρ1 => ∃ ds, d = .list ds ∧ Ψ ds ρ1) : DI K n (iList K te) ρ Ψ := fun O σ H E R q =>
  h O σ H E _ fun v d ρ1 O1 H1 ⟨ds, e, hk⟩ S r => by
    subst e
    cases r with
    | lst hq hd => exact ⟨_, rfl, ⟨_, msk_l hq⟩, q _ ds ρ1 O1 H1 hk S (src_lst hq hd)⟩
theorem di_rng1 {t : TA} {Ψ : PF} (h : DA K n t ρ fun xs ρ1 => ∃ j, xs = [.int j] ∧ (-(2 ^ 62) ≤ j ∧ j < 2 ^ 62) ∧ Ψ (rngD 0 j.toNat) ρ1) : DI K n (iRng1 t) ρ Ψ := fun O σ H E R q =>
  h O σ H E _ fun vs xs ρ1 O1 H1 ⟨j, e, hb, hk⟩ S r => by
    subst e
    cases r with
    | cons r1 r2 => cases r2; cases r1; exact ⟨j, rfl, hb.1, hb.2, q _ _ ρ1 O1 H1 hk S src_rng⟩
theorem di_rng2 {t : TA} {Ψ : PF} (h : DA K n t ρ fun xs ρ1 => ∃ i j, xs = [.int i, .int j] ∧ (-(2 ^ 62) ≤ i ∧ i < 2 ^ 62 ∧ -(2 ^ 62) ≤ j ∧ j < 2 ^ 62) ∧ Ψ (rngD i (j - i).toNat) ρ1) : DI K n (iRng2 t) ρ Ψ := fun O σ H E R q =>
  h O σ H E _ fun vs xs ρ1 O1 H1 ⟨i, j, e, hb, hk⟩ S r => by
    subst e
    cases r with
    | cons r1 r2 => cases r2 with | cons r2 r3 => cases r3; cases r1; cases r2; exact ⟨i, j, rfl, hb, q _ _ ρ1 O1 H1 hk S src_rng⟩
theorem di_enum {t : TA} {Ψ : PF} (h : DA K n t ρ fun xs ρ1 => ∃ ds, xs = [.list ds] ∧ Ψ (enumD ds) ρ1) : DI K n (iEnum K t) ρ Ψ := fun O σ H E R q =>
  h O σ H E _ fun vs xs ρ1 O1 H1 ⟨ds, e, hk⟩ S r => by
    subst e
    cases r with
    | cons r1 r2 => cases r2; cases r1 with | lst hq hd => exact ⟨_, _, rfl, msk_l hq, q _ _ ρ1 O1 H1 hk S (src_enum hq hd)⟩

/-! ### targets -/
def DG (K : PySem.W.Frag) (n : Nat) (g : TG) (ρ : Rho) (d : PyData) (Ψ : Rho → Prop) : Prop :=
  ∀ O σ H v, Envs K O σ ρ H → DP K (msk O H) v d → ∀ Q : L2.St → Hp → Prop, (∀ σ' ρ', Ψ ρ' → Stp K n O σ ρ H O σ' ρ' H → Q σ' H) → g v σ H Q
def DGs (K : PySem.W.Frag) (n : Nat) (g : TGs) (ρ : Rho) (ds : List PyData) (Ψ : Rho → Prop) : Prop :=
  ∀ O σ H vs, Envs K O σ ρ H → DPAll K (msk O H) vs ds → ∀ Q : L2.St → Hp → Prop, (∀ σ' ρ', Ψ ρ' → Stp K n O σ ρ H O σ' ρ' H → Q σ' H) → g vs σ H Q
theorem dg_name {j : Nat} {d : PyData} {Ψ : Rho → Prop} (hp : n ≤ j ∨ NoLst ρ j) (k : Ψ (ρ.set j (some (.val d)))) : DG K n (gName j) ρ d Ψ := fun O σ H v E r Q q =>
  q _ _ k (stp_set E r hp)
theorem dgs_nil {Ψ : Rho → Prop} (k : Ψ ρ) : DGs K n gNil ρ [] Ψ := fun O σ H vs E r Q q => by
  cases r
  exact ⟨rfl, q _ _ k (Stp.refl E)⟩
theorem dgs_cons {t : TG} {u : TGs} {d : PyData} {ds : List PyData} {Ψ : Rho → Prop} (h : DG K n t ρ d fun ρ1 => DGs K n u ρ1 ds Ψ) : DGs K n (gCons t u) ρ (d :: ds) Ψ := fun O σ H vs E r Q q => by
  cases r with
  | cons r1 r2 =>
    refine ⟨_, _, rfl, h O σ H _ E r1 _ fun σ1 ρ1 h1 S1 => h1 O σ1 H _ S1.env r2 Q fun σ2 ρ2 k S2 => q σ2 ρ2 k (S1.trans E S2)⟩
theorem dg_tup {u : TGs} {m : Nat} {d : PyData} {Ψ : Rho → Prop} (h : ∃ ds, d = .tuple ds ∧ ds.length = m ∧ DGs K n u ρ ds Ψ) : DG K n (gTup K m u) ρ d Ψ := fun O σ H v E r Q q => by
  obtain ⟨ds, rfl, hl, h⟩ := h
  cases r with
  | tup hq hd => exact ⟨_, _, rfl, msk_t hq, (dpa_len hd).trans hl, h O σ H _ E hd Q q⟩

/-! ### statements -/
theorem ds_next (k : F.nx ρ) : DSx K n tNext ρ F := fun O σ H E D h1 _ _ _ _ => h1 O σ ρ H k (Stp.refl E)
theorem ds_seq (h : DSx K n ts ρ { F with nx := fun ρ1 => DSx K n us ρ1 F }) : DSx K n (tSeq ts us) ρ F := fun O σ H E D h1 h2 h3 h4 h5 =>
  h O σ H E { D with nx := us D } (fun O1 σ1 ρ1 H1 k S => k O1 σ1 H1 S.env D (fun O2 σ2 ρ2 H2 k2 S2 => h1 O2 σ2 ρ2 H2 k2 (S.trans E S2)) (fun v d O2 σ2 ρ2 H2 k2 S2 r => h2 v d O2 σ2 ρ2 H2 k2 (S.trans E S2) r)
    (fun p vs ds O2 σ2 ρ2 H2 k2 S2 np no hp => h3 p vs ds O2 σ2 ρ2 H2 k2 (S.trans E S2) np no (ownsL_back2 E S hp)) (fun O2 σ2 ρ2 H2 k2 S2 => h4 O2 σ2 ρ2 H2 k2 (S.trans E S2)) (fun O2 σ2 ρ2 H2 k2 S2 => h5 O2 σ2 ρ2 H2 k2 (S.trans E S2))) h2 h3 h4 h5
theorem ds_ret (h : DW K n te ρ F.rt) : DSx K n (tRet te) ρ F := fun O σ H E D h1 h2 h3 h4 h5 => h O σ H E _ fun v d ρ' O' H' k S r => h2 v d O' σ ρ' H' k S r
theorem ds_retF (h : DF K n te ρ F.rf) : DSx K n (tRet te) ρ F := fun O σ H E D h1 h2 h3 h4 h5 => h O σ H E _ fun p vs ds ρ' O' H' k S np no hp hH r => h3 p vs ds (p :: O') σ ρ' H' k S List.mem_cons_self no (.inl hp) hH r
theorem ds_drop (h : DW K n te ρ fun _ ρ1 => F.nx ρ1) : DSx K n (tDrop te) ρ F := fun O σ H E D h1 h2 h3 h4 h5 => h O σ H E _ fun v d ρ' O' H' k S r => h1 O' σ ρ' H' k S
theorem ds_asg {g : TG} (h : DW K n te ρ fun d ρ1 => DG K n g ρ1 d F.nx) : DSx K n (tAsg te g) ρ F := fun O σ H E D h1 h2 h3 h4 h5 =>
  h O σ H E _ fun v d ρ1 O1 H1 k S r => k O1 σ H1 v S.env r _ fun σ2 ρ2 k2 S2 => h1 O1 σ2 ρ2 H1 k2 (S.trans E S2)
theorem ds_brk (k : F.bk ρ) : DSx K n tBreak ρ F := fun O σ H E D h1 h2 h3 h4 h5 => h4 O σ ρ H k (Stp.refl E)
theorem ds_cont (k : F.ct ρ) : DSx K n tCont ρ F := fun O σ H E D h1 h2 h3 h4 h5 => h5 O σ ρ H k (Stp.refl E)
theorem DSx.after {O1 : List Addr} {σ1 : L2.St} {ρ1 : Rho} {H1 : Hp} (E : Envs K O σ ρ H) (S : Stp K n O σ ρ H O1 σ1 ρ1 H1) (h : DSx K n ts ρ1 F) {D : Ends}
    (h1 : ∀ O' σ' ρ' H', F.nx ρ' → Stp K n O σ ρ H O' σ' ρ' H' → D.nx σ' H')
    (h2 : ∀ v d O' σ' ρ' H', F.rt d ρ' → Stp K n O σ ρ H O' σ' ρ' H' → DP K (msk O' H') v d → D.rt v H')
    (h3 : ∀ p vs ds O' σ' ρ' H', F.rf ds ρ' → Stp K n O σ ρ H O' σ' ρ' H' → p ∈ O' → ¬ Owns σ' ρ' p → (H p = none ∨ OwnsL n σ ρ p) → H' p = some (.lst vs) → DPAll K (msk O' H') vs ds → D.rt (.ref p) H')
    (h4 : ∀ O' σ' ρ' H', F.bk ρ' → Stp K n O σ ρ H O' σ' ρ' H' → D.bk σ' H')
    (h5 : ∀ O' σ' ρ' H', F.ct ρ' → Stp K n O σ ρ H O' σ' ρ' H' → D.ct σ' H') : ts D σ1 H1 :=
  h O1 σ1 H1 S.env D (fun O2 σ2 ρ2 H2 k2 S2 => h1 O2 σ2 ρ2 H2 k2 (S.trans E S2)) (fun v d O2 σ2 ρ2 H2 k2 S2 r => h2 v d O2 σ2 ρ2 H2 k2 (S.trans E S2) r)
    (fun p vs ds O2 σ2 ρ2 H2 k2 S2 np no hp => h3 p vs ds O2 σ2 ρ2 H2 k2 (S.trans E S2) np no (ownsL_back2 E S hp)) (fun O2 σ2 ρ2 H2 k2 S2 => h4 O2 σ2 ρ2 H2 k2 (S.trans E S2)) (fun O2 σ2 ρ2 H2 k2 S2 => h5 O2 σ2 ρ2 H2 k2 (S.trans E S2))
theorem ds_if (h : DT K n tt ρ fun b ρ1 => (b = true → DSx K n ts ρ1 F) ∧ (b = false → DSx K n us ρ1 F)) : DSx K n (tIfS tt ts us) ρ F := fun O σ H E D h1 h2 h3 h4 h5 =>
  h O σ H E _ fun b ρ1 O1 H1 k S => by
    cases b with
    | true => exact DSx.after E S (k.1 rfl) h1 h2 h3 h4 h5
    | false => exact DSx.after E S (k.2 rfl) h1 h2 h3 h4 h5
/-- a name gets a list that is its own -/
theorem stp_setOwn {j : Nat} {p : Addr} {vs : List V} {ds : List PyData} (S : Stp K n O σ ρ H (p :: O1) σ ρ1 H1) (no : ¬ Owns σ ρ1 p) (hp : H p = none) (hH : H1 p = some (.lst vs)) (hd : DPAll K (msk (p :: O1) H1) vs ds) (hj : n ≤ j) :
    Stp K n O σ ρ H (p :: O1) (σ.set j (some (.ref p))) (ρ1.set j (some (.lst ds))) H1 where
  sub := S.sub
  new := S.new
  le := S.le
  env := ⟨by rw [List.length_set, List.length_set, S.env.len], fun i x e h1 h2 => by
    by_cases hij : j = i
    · subst hij
      have hl : j < ρ1.length := by
        have := (List.getElem?_eq_some_iff.mp h2).1
        simpa using this
      rw [List.getElem?_set_self hl] at h2
      rw [List.getElem?_set_self (by rw [S.env.len]; exact hl)] at h1
      cases h1; cases h2
      exact ⟨List.mem_cons_self, vs, hH, hd⟩
    · rw [List.getElem?_set_ne hij] at h1 h2
      exact S.env.ok i x e h1 h2, S.env.al, fun i k r d1 d2 h1 h2 h3 h4 => by
    by_cases hij : j = i
    · subst hij
      have hl : j < ρ1.length := by
        have := (List.getElem?_eq_some_iff.mp h2).1
        simpa using this
      rw [List.getElem?_set_self (by rw [S.env.len]; exact hl)] at h1
      cases h1
      by_cases hjk : j = k
      · exact hjk
      · rw [List.getElem?_set_ne hjk] at h3 h4
        exact absurd ⟨k, d2, h3, h4⟩ no
    · rw [List.getElem?_set_ne hij] at h1 h2
      by_cases hjk : j = k
      · subst hjk
        have hl : j < ρ1.length := by
          have := (List.getElem?_eq_some_iff.mp h4).1
          simpa using this
        rw [List.getElem?_set_self (by rw [S.env.len]; exact hl)] at h3
        cases h3
        exact absurd ⟨i, d1, h1, h2⟩ no
      · rw [List.getElem?_set_ne hjk] at h3 h4
        exact S.env.dis i k r d1 d2 h1 h2 h3 h4⟩
  own := fun b ⟨i, es, h1, h2⟩ => by
    by_cases hij : j = i
    · subst hij
      have hl : j < ρ1.length := by
        have := (List.getElem?_eq_some_iff.mp h2).1
        simpa using this
      rw [List.getElem?_set_self (by rw [S.env.len]; exact hl)] at h1
      cases h1
      exact .inr hp
    · rw [List.getElem?_set_ne hij] at h1 h2
      exact S.own b ⟨i, es, h1, h2⟩
  pin := fun i es hi h => by
    obtain ⟨e1, ds', h1⟩ := S.pin i es hi h
    have hij : j ≠ i := by omega
    rw [List.getElem?_set_ne hij, List.getElem?_set_ne hij]
    exact ⟨e1, ds', h1⟩
theorem ds_asgF {j : Nat} (h : DF K n te ρ fun ds ρ1 => n ≤ j ∧ F.nx (ρ1.set j (some (.lst ds)))) : DSx K n (tAsg te (gName j)) ρ F := fun O σ H E D h1 h2 h3 h4 h5 =>
  h O σ H E _ fun p vs ds ρ1 O1 H1 ⟨hj, k⟩ S np no hp hH hd => h1 _ _ _ H1 k (stp_setOwn S no hp hH hd hj)
/-- the name's own list is handed back -/
theorem ds_retO {i : Nat} {ds : List PyData} (hi : ρ[i]? = some (some (.lst ds))) (hn : n ≤ i) (k : F.rf ds (ρ.set i none)) : DSx K n (tRet (tVar i)) ρ F := fun O σ H E D h1 h2 h3 h4 h5 => by
  obtain ⟨p, vs, a, b, c, d⟩ := env_lst E hi
  refine ⟨.ref p, a, ?_⟩
  refine h3 p vs ds O σ _ H k (stp_forget E hn) b (fun w => ?_) (.inr ⟨i, ds, hn, a, hi⟩) c d
  obtain ⟨j, es, hj, h6, h7⟩ := owns_forget w
  exact hj (E.dis j i p es ds h6 h7 a hi)
theorem ds_par {i j : Nat} {t : TA} (h : DA K n t ρ fun ds ρ1 => ∃ a b, ds = [a, b] ∧ (n ≤ i ∨ NoLst ρ1 i) ∧ (n ≤ j ∨ NoLst (ρ1.set i (some (.val a))) j) ∧ F.nx ((ρ1.set i (some (.val a))).set j (some (.val b)))) : DSx K n (tPar i j t) ρ F := fun O σ H E D h1 h2 h3 h4 h5 =>
  h O σ H E _ fun vs ds ρ1 O1 H1 ⟨a, b, e, hi, hj, k⟩ S r => by
    subst e
    cases r with
    | cons r1 r2 =>
      cases r2 with
      | cons r2 r3 =>
        cases r3
        have S2 := stp_set (n := n) S.env r1 (j := i) hi
        have S3 := stp_set (n := n) S2.env r2 (j := j) hj
        exact ⟨_, _, rfl, h1 _ _ _ _ k ((S.trans E S2).trans E S3)⟩
/-- name.append(e) on a list of its own -/
theorem ds_app {i : Nat} {ds0 : List PyData} (h0 : ρ[i]? = some (some (.lst ds0))) (h : DW K n te ρ fun d ρ1 => ∃ ds, ρ1[i]? = some (some (.lst ds)) ∧ ds.length < 100000 ∧ F.nx (ρ1.set i (some (.lst (ds ++ [d]))))) :
    DSx K n (tDrop (tBM K "list" rAppend (tVar i) (tCons te tNil))) ρ F := fun O σ H E D h1 h2 h3 h4 h5 => by
  obtain ⟨p, vs0, a, b, c, _⟩ := env_lst E h0
  refine ⟨.ref p, a, .inl ⟨rfl, _, SqL.of c⟩, ?_⟩
  refine h O σ H E _ fun v d ρ1 O1 H1 ⟨ds, hi, hl, k⟩ S r => ?_
  obtain ⟨p', vs, a', b', c', hd⟩ := env_lst S.env hi
  rw [a] at a'; cases a'
  refine ⟨p, vs, v, rfl, rfl, c', Nat.lt_of_lt_of_le (by rw [dpa_len hd]; exact hl) (by decide), ?_⟩
  exact h1 _ _ _ _ k (S.trans E (stp_write S.env hi a (dpa_append hd (dpa_one r))))
/-- name[k] = e on a list of its own -/
theorem ds_setO {i : Nat} {ti : TE} (h : DW K n te ρ fun d ρ1 => (∃ ds0, ρ1[i]? = some (some (.lst ds0))) ∧ DW K n ti ρ1 fun x ρ2 => ∃ (k : Nat) (ds : List PyData), x = .int (k : Int) ∧ ρ2[i]? = some (some (.lst ds)) ∧ k < ds.length ∧ F.nx (ρ2.set i (some (.lst (ds.set k d))))) :
    DSx K n (tAsg te (gSub (tVar i) ti rSetL)) ρ F := fun O σ H E D h1 h2 h3 h4 h5 => by
  refine h O σ H E _ fun v d ρ1 O1 H1 ⟨⟨ds0, hi0⟩, hti⟩ S r => ?_
  obtain ⟨p, vs0, a, b, c, _⟩ := env_lst S.env hi0
  refine ⟨.ref p, a, ?_⟩
  refine hti O1 σ H1 S.env _ fun v2 x ρ2 O2 H2 ⟨k, ds, e, hi, hk, kk⟩ S2 r2 => ?_
  subst e
  obtain ⟨p', vs, a', b', c', hd⟩ := env_lst S2.env hi
  rw [a] at a'; cases a'
  have S02 := S.trans E S2
  refine ⟨p, vs, k, k, rfl, dp_int r2, c', ?_, ?_⟩
  · unfold ixN
    rw [if_pos (Int.natCast_nonneg k), if_pos (by rw [dpa_len hd]; omega)]
    rfl
  · exact h1 _ _ _ _ kk (S02.trans E (stp_write S2.env hi a (dpa_set (S2.dp S.env r) k hd)))

/-! ### loops -/
theorem ds_for {wi : TI} {g : TG} (h : DI K n wi ρ fun ds ρ1 => ∃ J : Nat → Rho → Prop, J 0 ρ1 ∧
      (∀ i d ρ', ds[i]? = some d → J i ρ' → DG K n g ρ' d fun ρ2 => DSx K n ts ρ2 { F with nx := J (i + 1), ct := J (i + 1), bk := F.nx }) ∧ ∀ ρ', J ds.length ρ' → F.nx ρ') :
    DSx K n (tFor wi g ts) ρ F := fun O σ H E D h1 h2 h3 h4 h5 => by
  refine h O σ H E _ fun It ds ρ1 O1 H1 ⟨J, j0, jt, je⟩ S src => ?_
  refine ⟨fun i m σ' H' => m = ds.length - i ∧ i ≤ ds.length ∧ ∃ O' ρ', J i ρ' ∧ Stp K n O1 σ ρ1 H1 O' σ' ρ' H', ⟨ds.length, by simp, Nat.zero_le _, O1, ρ1, j0, Stp.refl S.env⟩, ?_⟩
  rintro i m σ' H' ⟨rfl, hi, O', ρ', jj, S'⟩
  have em := S'.msk S.env
  by_cases hlt : i < ds.length
  · refine .inr ⟨src.go O' H' i em hlt, fun σ2 H2 => ∃ O2 ρ2, J (i + 1) ρ2 ∧ Stp K n O1 σ ρ1 H1 O2 σ2 ρ2 H2, fun σ2 H2 ⟨O2, ρ2, j2, S2⟩ => ⟨ds.length - (i + 1), by omega, rfl, hlt, O2, ρ2, j2, S2⟩, fun x H2 y => ?_⟩
    obtain ⟨d, hd⟩ : ∃ d, ds[i]? = some d := ⟨ds[i], by simp [hlt]⟩
    obtain ⟨e2, r2⟩ := src.yld O' H' i x H2 d em S'.env.al y hd
    have S2 := S'.trans S.env (Stp.grow S'.env e2)
    refine jt i d ρ' hd jj O' σ' H2 x S2.env r2 _ fun σ3 ρ3 hs S3 => ?_
    have S13 := S2.trans S.env S3
    have S03 := S.trans E S13
    exact DSx.after (F := { F with nx := J (i + 1), ct := J (i + 1), bk := F.nx }) (D := { D with nx := fun σ2 H2 => ∃ O2 ρ2, J (i + 1) ρ2 ∧ Stp K n O1 σ ρ1 H1 O2 σ2 ρ2 H2, ct := fun σ2 H2 => ∃ O2 ρ2, J (i + 1) ρ2 ∧ Stp K n O1 σ ρ1 H1 O2 σ2 ρ2 H2, bk := D.nx }) S.env S13 hs
      (fun O4 σ4 ρ4 H4 k4 S4 => ⟨O4, ρ4, k4, S4⟩)
      (fun v d O4 σ4 ρ4 H4 k4 S4 r4 => h2 v d O4 σ4 ρ4 H4 k4 (S.trans E S4) r4)
      (fun p vs ds O4 σ4 ρ4 H4 k4 S4 np no hp => h3 p vs ds O4 σ4 ρ4 H4 k4 (S.trans E S4) np no (ownsL_back2 E S hp))
      (fun O4 σ4 ρ4 H4 k4 S4 => h1 O4 σ4 ρ4 H4 k4 (S.trans E S4))
      (fun O4 σ4 ρ4 H4 k4 S4 => ⟨O4, ρ4, k4, S4⟩)
  · have e : i = ds.length := by omega
    subst e
    exact .inl ⟨src.stop O' H' _ em (Nat.le_refl _), h1 O' σ' ρ' H' (je ρ' jj) (S.trans E S')⟩
theorem ds_while (h : ∃ J : Nat → Rho → Prop, (∃ m, J m ρ) ∧ ∀ m ρ', J m ρ' → DT K n tt ρ' fun b ρ1 => (b = true → DSx K n ts ρ1 { F with nx := fun ρ2 => ∃ m', m' < m ∧ J m' ρ2, ct := fun ρ2 => ∃ m', m' < m ∧ J m' ρ2, bk := F.nx }) ∧ (b = false → F.nx ρ1)) :
    DSx K n (tWhile tt ts) ρ F := fun O σ H E D h1 h2 h3 h4 h5 => by
  obtain ⟨J, ⟨m0, j0⟩, jt⟩ := h
  refine ⟨fun m σ' H' => ∃ O' ρ', J m ρ' ∧ Stp K n O σ ρ H O' σ' ρ' H', ⟨m0, O, ρ, j0, Stp.refl E⟩, ?_⟩
  rintro m σ' H' ⟨O', ρ', jj, S'⟩
  refine jt m ρ' jj O' σ' H' S'.env _ fun b ρ1 O1 H1 ⟨ht, hf⟩ S1 => ?_
  have S01 := S'.trans E S1
  cases b with
  | true =>
    refine iteT ⟨fun σ2 H2 => ∃ m', m' < m ∧ ∃ O2 ρ2, J m' ρ2 ∧ Stp K n O σ ρ H O2 σ2 ρ2 H2, fun σ2 H2 h => h, ?_⟩
    exact DSx.after (F := { F with nx := fun ρ2 => ∃ m', m' < m ∧ J m' ρ2, ct := fun ρ2 => ∃ m', m' < m ∧ J m' ρ2, bk := F.nx }) (D := { D with nx := fun σ2 H2 => ∃ m', m' < m ∧ ∃ O2 ρ2, J m' ρ2 ∧ Stp K n O σ ρ H O2 σ2 ρ2 H2, ct := fun σ2 H2 => ∃ m', m' < m ∧ ∃ O2 ρ2, J m' ρ2 ∧ Stp K n O σ ρ H O2 σ2 ρ2 H2, bk := D.nx }) E S01 (ht rfl)
      (fun O4 σ4 ρ4 H4 ⟨m', hm, k4⟩ S4 => ⟨m', hm, O4, ρ4, k4, S4⟩)
      h2 h3 h1 (fun O4 σ4 ρ4 H4 ⟨m', hm, k4⟩ S4 => ⟨m', hm, O4, ρ4, k4, S4⟩)
  | false => exact iteF (h1 O1 σ' ρ1 H1 (hf rfl) S01)

/-! ### comprehensions -/
theorem env_mem {O2 : List Addr} (E : Envs K O σ ρ H) (h : ∀ b, b ∈ O ↔ b ∈ O2) : Envs K O2 σ ρ H := by
  have em : msk O2 H = msk O H := by
    funext b
    unfold msk
    by_cases hb : b ∈ O
    · rw [if_pos hb, if_pos ((h b).mp hb)]
    · rw [if_neg hb, if_neg (fun z => hb ((h b).mpr z))]
  refine ⟨E.len, fun i x e h1 h2 => ?_, fun b hb => E.al b ((h b).mpr hb), E.dis⟩
  have w := E.ok i x e h1 h2
  cases e with
  | val d =>
    cases x with
    | none => exact w.elim
    | some v => exact (show DP K (msk O2 H) v d by rw [em]; exact w)
  | lst ds =>
    obtain ⟨r, rfl, hr, vs, hv, hd⟩ := lst_val w
    exact ⟨(h r).mp hr, vs, hv, by rw [em]; exact hd⟩
theorem msk_mem {O O2 : List Addr} {H : Hp} (h : ∀ b, b ∈ O ↔ b ∈ O2) : msk O2 H = msk O H := by
  funext b
  unfold msk
  by_cases hb : b ∈ O
  · rw [if_pos hb, if_pos ((h b).mp hb)]
  · rw [if_neg hb, if_neg (fun z => hb ((h b).mpr z))]
theorem stp_mem {O2 : List Addr} {σ1 : L2.St} {H1 : Hp} (S : Stp K n O σ ρ H O1 σ1 ρ1 H1) (h : ∀ b, b ∈ O1 ↔ b ∈ O2) : Stp K n O σ ρ H O2 σ1 ρ1 H1 :=
  ⟨fun b hb => (h b).mp (S.sub b hb), fun b hb => S.new b ((h b).mpr hb), S.le, env_mem S.env h, S.own, S.pin⟩
/-- an address that no name owns is written -/
theorem stp_writeD {σ1 : L2.St} {H1 : Hp} {D : Addr} {o : HO} (S : Stp K n O σ ρ H O1 σ1 ρ1 H1) (h0 : H D = none) (hD : D ∈ O1) (no : ¬ Owns σ1 ρ1 D) : Stp K n O σ ρ H O1 σ1 ρ1 (upd H1 D o) ∧ msk O1 (upd H1 D o) = msk O1 H1 := by
  have em : msk O1 (upd H1 D o) = msk O1 H1 := by
    funext b
    unfold msk
    by_cases hb : b ∈ O1
    · rw [if_pos hb, if_pos hb]
    · rw [if_neg hb, if_neg hb, upd_ne (fun e : b = D => hb (by rw [e]; exact hD))]
  refine ⟨⟨S.sub, S.new, fun b u nb hb => ?_, ⟨S.env.len, fun i x e h1 h2 => ?_, fun b hb => ?_, S.env.dis⟩, S.own, S.pin⟩, em⟩
  · rw [upd_ne (ne_of_none hb h0)]
    exact S.le b u nb hb
  · have w := S.env.ok i x e h1 h2
    cases e with
    | val d =>
      cases x with
      | none => exact w.elim
      | some v => exact (show DP K (msk O1 (upd H1 D o)) v d by rw [em]; exact w)
    | lst ds =>
      obtain ⟨r, rfl, hr, vs, hv, hd⟩ := lst_val w
      refine ⟨hr, vs, ?_, by rw [em]; exact hd⟩
      rw [upd_ne (fun e : r = D => no ⟨i, ds, by rw [← e]; exact h1, h2⟩)]
      exact hv
  · by_cases e : b = D
    · rw [e, upd_same]; exact fun z => nomatch z
    · rw [upd_ne e]; exact S.env.al b hb
theorem owns_set {j : Nat} {x : Option V} {y : Option Ent} {p : Addr} (hy : ∀ ds, y ≠ some (.lst ds)) (w : Owns (σ.set j x) (ρ.set j y) p) : Owns σ ρ p := by
  obtain ⟨i, ds, h1, h2⟩ := w
  by_cases hij : j = i
  · subst hij
    have hl : j < ρ.length := by
      have := (List.getElem?_eq_some_iff.mp h2).1
      simpa using this
    rw [List.getElem?_set_self hl] at h2
    exact absurd (Option.some.inj h2) (hy ds)
  · rw [List.getElem?_set_ne hij] at h1 h2
    exact ⟨i, ds, h1, h2⟩
/-- into a turn of a comprehension, and out of it -/
theorem stp_in {j : Nat} {v : V} {d : PyData} (E : Envs K O σ ρ H) (hj : n ≤ j) (h : DP K (msk O H) v d) : Stp K n O σ ρ H O (σ.set j (some v)) (ρ.set j (some (.val d))) H := stp_set E h (.inl hj)
theorem stp_out {j : Nat} {x : Option V} (E : Envs K O σ ρ H) (hj : n ≤ j) : Stp K n O σ ρ H O (σ.set j x) (ρ.set j none) H where
  sub := fun _ h => h
  new := fun _ h => .inl h
  le := fun _ _ _ h => h
  env := env_drop E
  own := fun b w => .inl (owns_set (fun ds => by simp) w)
  pin := fun i es hi h => by
    have hij : j ≠ i := by omega
    rw [List.getElem?_set_ne hij, List.getElem?_set_ne hij]
    exact ⟨rfl, es, h⟩
theorem set_back {α : Type} (l : List α) (j : Nat) (a b c : α) (h : l[j]? = some c) : ((l.set j a).set j b).set j c = l := by
  rw [List.set_set, List.set_set]
  apply List.ext_getElem?
  intro i
  by_cases hij : j = i
  · subst hij
    have hl := (List.getElem?_eq_some_iff.mp h).1
    rw [List.getElem?_set_self hl, h]
  · rw [List.getElem?_set_ne hij]
theorem df_lc {wi : TI} {j : Nat} (h : DI K n wi ρ fun ds ρ1 => n ≤ j ∧ ds.length ≤ 100000 ∧ ρ1[j]? = some none ∧ ∃ J : Nat → List PyData → Rho → Prop, J 0 [] ρ1 ∧
      (∀ i d out ρ', ds[i]? = some d → J i out ρ' → out.length ≤ i → DT K n tt (ρ'.set j (some (.val d))) fun b ρ2 => (b = true → DW K n te ρ2 fun y ρ3 => J (i + 1) (out ++ [y]) (ρ3.set j none)) ∧ (b = false → J (i + 1) out (ρ2.set j none))) ∧
      ∀ out ρ', J ds.length out ρ' → Φf out ρ') : DF K n (tLc wi (gName j) tt te [j]) ρ Φf := by
  intro O σ H E Q q
  refine h O σ H E _ fun It ds ρ1 O1 H1 ⟨hj, hlen, hρj, J, j0, jt, je⟩ S src => ?_
  intro D hD
  have SD := stp_alloc (n := n) (o := .lst []) S.env hD
  have nD := fresh_notin S.env hD
  have noD := not_owned S.env hD
  have hD0 : H D = none := S.none_back (fun z => nD (S.sub D z)) hD E
  have hjσ : j < σ.length := by rw [S.env.len]; exact (List.getElem?_eq_some_iff.mp hρj).1
  have hjρ : j < ρ1.length := (List.getElem?_eq_some_iff.mp hρj).1
  refine ⟨fun i m H' => m = ds.length - i ∧ i ≤ ds.length ∧ ∃ O' ρ' out vs, J i out ρ' ∧ out.length ≤ i ∧ Stp K n O1 σ ρ1 H1 O' σ ρ' H' ∧ D ∈ O' ∧ ¬ Owns σ ρ' D ∧ H' D = some (.lst vs) ∧ DPAll K (msk O' H') vs out,
    ⟨ds.length, by simp, Nat.zero_le _, D :: O1, ρ1, [], [], j0, Nat.le_refl _, SD, List.mem_cons_self, noD, upd_same, .nil⟩, ?_⟩
  rintro i m H' ⟨rfl, hi, O', ρ', out, vs, jj, hol, S', nO', no', hH', hd'⟩
  have em := S'.msk S.env
  by_cases hlt : i < ds.length
  · refine .inr ⟨src.go _ H' i em hlt, fun H2 => ∃ O2 ρ2 out2 vs2, J (i + 1) out2 ρ2 ∧ out2.length ≤ i + 1 ∧ Stp K n O1 σ ρ1 H1 O2 σ ρ2 H2 ∧ D ∈ O2 ∧ ¬ Owns σ ρ2 D ∧ H2 D = some (.lst vs2) ∧ DPAll K (msk O2 H2) vs2 out2,
      fun H2 ⟨O2, ρ2, out2, vs2, a, b, d, e, f, g, hh⟩ => ⟨ds.length - (i + 1), by omega, rfl, hlt, O2, ρ2, out2, vs2, a, b, d, e, f, g, hh⟩, fun x H2 y => ?_⟩
    obtain ⟨d, hd⟩ : ∃ d, ds[i]? = some d := ⟨ds[i], by simp [hlt]⟩
    obtain ⟨e2, r2⟩ := src.yld _ H' i x H2 d em S'.env.al y hd
    have Sg := Stp.grow (n := n) S'.env e2
    have S2 := S'.trans S.env Sg
    have hσt : (wipe σ [j]).set j (some x) = σ.set j (some x) := by
      show (σ.set j none).set j (some x) = σ.set j (some x)
      exact List.set_set ..
    unfold gName
    rw [hσt]
    refine ⟨by show (σ.set j (some x)).set j none = σ.set j none; rw [List.set_set], ?_⟩
    have Sin := stp_in (n := n) S2.env hj r2
    have noT : ¬ Owns (σ.set j (some x)) (ρ'.set j (some (.val d))) D := fun w => no' (owns_set (fun ds => by simp) w)
    have back : (σ.set j (some x)).set j σ[j] = σ := by
      have := set_back σ j (some x) (some x) σ[j] (List.getElem?_eq_getElem hjσ)
      rwa [List.set_set] at this
    refine jt i d out ρ' hd jj hol _ _ H2 Sin.env _ fun b ρ2 O2 H3 ⟨kt, kf⟩ S3 => ?_
    have S13 := ((S2.trans S.env Sin).trans S.env S3)
    have hD3 : H3 D = some (.lst vs) := S3.le D _ noT (e2 D _ hH')
    have hout3 := S3.dpa Sin.env (Sg.dpa S'.env hd')
    have ho3 := S3.own
    have al3 : D ∈ O2 := S3.sub D nO'
    have no3 : ¬ Owns (σ.set j (some x)) ρ2 D := fun w => by
      rcases S3.own D w with w | w
      · exact noT w
      · exact S2.env.al D nO' w
    cases b with
    | true =>
      refine iteT ?_
      refine kt rfl _ _ H3 S3.env _ fun v yd ρ3 O3 H4 k4 S4 r4 => ?_
      have no4 : ¬ Owns (σ.set j (some x)) ρ3 D := fun w => by
        rcases S4.own D w with w | w
        · exact no3 w
        · exact S3.env.al D al3 w
      have hD4 : H4 D = some (.lst vs) := S4.le D _ no3 hD3
      have S14 := (S13.trans S.env S4).trans S.env (stp_out (n := n) (j := j) (x := σ[j]) S4.env hj)
      rw [back] at S14
      have al4 : D ∈ O3 := S4.sub D al3
      have no5 : ¬ Owns σ (ρ3.set j none) D := fun w => no4 (by
        have := owns_set (σ := σ.set j (some x)) (ρ := ρ3) (j := j) (x := σ[j]) (y := none) (fun ds => by simp) (p := D)
        rw [back] at this
        exact this w)
      have hout4 := S4.dpa S3.env hout3
      refine ⟨vs, hD4, Nat.lt_of_le_of_lt (Nat.le_of_eq (dpa_len hd')) (Nat.lt_of_le_of_lt (Nat.le_trans hol (by omega)) (show (100000 : Nat) < sizeLine by decide)), ?_⟩
      obtain ⟨S15, em5⟩ := stp_writeD (o := .lst (vs ++ [v])) S14 hD al4 no5
      refine ⟨O3, ρ3.set j none, out ++ [yd], vs ++ [v], k4, by simp; omega, S15, al4, no5, upd_same, ?_⟩
      rw [em5]
      exact dpa_append hout4 (dpa_one r4)
    | false =>
      refine iteF ?_
      have S14 := S13.trans S.env (stp_out (n := n) (j := j) (x := σ[j]) S3.env hj)
      rw [back] at S14
      have no5 : ¬ Owns σ (ρ2.set j none) D := fun w => no3 (by
        have := owns_set (σ := σ.set j (some x)) (ρ := ρ2) (j := j) (x := σ[j]) (y := none) (fun ds => by simp) (p := D)
        rw [back] at this
        exact this w)
      exact ⟨O2, ρ2.set j none, out, vs, kf rfl, by omega, S14, al3, no5, hD3, hout3⟩
  · have e : i = ds.length := by omega
    subst e
    refine .inl ⟨src.stop _ H' _ em (Nat.le_refl _), ?_⟩
    have mem : ∀ b, b ∈ O' ↔ b ∈ D :: O'.filter (fun b => decide (b ≠ D)) := fun b => by
      by_cases hb : b = D
      · subst hb; simp [nO']
      · simp [hb]
    refine q D vs out ρ' _ H' (je out ρ' jj) (stp_mem (S.trans E S') mem) (by simp) no' hD0 hH' ?_
    rw [msk_mem mem]
    exact hd'
end
end DL
namespace DL
open PySem L2 PySem.Spec PyProof.Rows
abbrev SpW := List Ent → (PyData → List Ent → Prop) → Prop
abbrev SfW := List Ent → (List PyData → List Ent → Prop) → Prop
/-- a def's promise, on data -/
def spD (K : PySem.W.Frag) (np : Nat) (W : SpW) : Sp := fun vs H Q _ => ∃ O es Φ, vs.length = np ∧ Envs K O (vs.map some) (es.map some) H ∧ W es Φ ∧
  ∀ v d es' O' H', Φ d es' → Stp K np O (vs.map some) (es.map some) H O' (vs.map some) (es'.map some) H' → DP K (msk O' H') v d → Q v H'
def spF (K : PySem.W.Frag) (np : Nat) (W : SfW) : Sp := fun vs H Q _ => ∃ O es Φ, vs.length = np ∧ Envs K O (vs.map some) (es.map some) H ∧ W es Φ ∧
  ∀ p ws ds es' O' H', Φ ds es' → Stp K np O (vs.map some) (es.map some) H O' (vs.map some) (es'.map some) H' → p ∈ O' → ¬ Owns (vs.map some) (es'.map some) p → H p = none → H' p = some (.lst ws) → DPAll K (msk O' H') ws ds → Q (.ref p) H'
def finE1 (i : Nat) (e : Ent) (ρ : Rho) : Ent := match e with
  | .val d => .val d
  | .lst ds => match ρ[i]? with
    | some (some (.lst ds')) => .lst ds'
    | _ => .lst ds
def finE : Nat → List Ent → Rho → List Ent
  | _, [], _ => []
  | i, e :: r, ρ => finE1 i e ρ :: finE (i + 1) r ρ
theorem finE_len : ∀ (i : Nat) (es : List Ent) (ρ : Rho), (finE i es ρ).length = es.length
  | _, [], _ => rfl
  | i, e :: r, ρ => congrArg (· + 1) (finE_len (i + 1) r ρ)
theorem finE_get : ∀ (i : Nat) (es : List Ent) (ρ : Rho) (j : Nat), (finE i es ρ)[j]? = (es[j]?).map fun e => finE1 (i + j) e ρ
  | _, [], _, j => by simp [finE]
  | i, e :: r, ρ, 0 => by simp [finE]
  | i, e :: r, ρ, j + 1 => by
    have := finE_get (i + 1) r ρ j
    simp only [finE, List.getElem?_cons_succ]
    rw [this]
    have e : i + 1 + j = i + (j + 1) := by omega
    rw [e]
section
variable {K : PySem.W.Frag} {n : Nat} {O O1 : List Addr} {σ : L2.St} {ρ ρ1 : Rho} {H H1 : Hp} {ta tb tc te : TE} {tt tu : TT} {Φ : PD} {F : DE2} {ts us : TS}
theorem map_get {α : Type} {l : List α} {i : Nat} {x : Option α} (h : (l.map some)[i]? = some x) : ∃ y, x = some y ∧ l[i]? = some y := by
  rw [List.getElem?_map] at h
  cases e : l[i]? with
  | none => rw [e] at h; cases h
  | some y => rw [e] at h; exact ⟨y, (Option.some.inj h).symm, rfl⟩
theorem map_of {α : Type} {l : List α} {i : Nat} {y : α} (h : l[i]? = some y) : (l.map some)[i]? = some (some y) := by
  rw [List.getElem?_map, h]; rfl
/-- what a def's body leaves, as its caller sees it -/
theorem stp_fin {np m : Nat} {vs : List V} {es : List Ent} {O' : List Addr} {σ' : L2.St} {ρ' : Rho} {H' : Hp} (E : Envs K O (vs.map some) (es.map some) H) (hl : es.length = np) (hv : vs.length = np)
    (S : Stp K np O (vs.map some ++ List.replicate m none) (es.map some ++ List.replicate m none) H O' σ' ρ' H') : Stp K np O (vs.map some) (es.map some) H O' (vs.map some) ((finE 0 es ρ').map some) H' ∧ ∀ p, Owns (vs.map some) ((finE 0 es ρ').map some) p → Owns σ' ρ' p := by
  have inL : ∀ (i : Nat) (x : Option V), (vs.map some)[i]? = some x → (vs.map some ++ List.replicate m none)[i]? = some x := fun i x h => by
    rw [List.getElem?_append_left (List.getElem?_eq_some_iff.mp h).1]; exact h
  have inE : ∀ (i : Nat) (x : Option Ent), (es.map some)[i]? = some x → (es.map some ++ List.replicate m none)[i]? = some x := fun i x h => by
    rw [List.getElem?_append_left (List.getElem?_eq_some_iff.mp h).1]; exact h
  have outO : ∀ b, Owns (vs.map some ++ List.replicate m none) (es.map some ++ List.replicate m none) b → Owns (vs.map some) (es.map some) b := fun b ⟨i, ds, h1, h2⟩ => by
    by_cases hi : i < (vs.map some).length
    · rw [List.getElem?_append_left hi] at h1
      rw [List.getElem?_append_left (by simp at hi ⊢; omega)] at h2
      exact ⟨i, ds, h1, h2⟩
    · rw [List.getElem?_append_right (by omega)] at h1
      obtain ⟨_, h1⟩ := List.getElem?_eq_some_iff.mp h1
      rw [List.getElem_replicate] at h1
      cases h1
  have E0 : Envs K O (vs.map some ++ List.replicate m none) (es.map some ++ List.replicate m none) H := by
    refine ⟨by simp [hl, hv], fun i x e h1 h2 => ?_, E.al, fun i j p ds es' h1 h2 h3 h4 => ?_⟩
    · by_cases hi : i < (es.map some).length
      · rw [List.getElem?_append_left hi] at h2
        rw [List.getElem?_append_left (by simp at hi ⊢; omega)] at h1
        exact E.ok i x e h1 h2
      · rw [List.getElem?_append_right (by omega)] at h2
        obtain ⟨_, h2⟩ := List.getElem?_eq_some_iff.mp h2
        rw [List.getElem_replicate] at h2
        cases h2
    · have a : ∀ (i : Nat) (ds : List PyData), (es.map some ++ List.replicate m none)[i]? = some (some (.lst ds)) → i < (es.map some).length := fun i ds h => by
        by_cases hi : i < (es.map some).length
        · exact hi
        · rw [List.getElem?_append_right (by omega)] at h
          obtain ⟨_, h⟩ := List.getElem?_eq_some_iff.mp h
          rw [List.getElem_replicate] at h
          cases h
      have hi := a i ds h2
      have hj := a j es' h4
      rw [List.getElem?_append_left (by simp at hi ⊢; omega)] at h1
      rw [List.getElem?_append_left hi] at h2
      rw [List.getElem?_append_left (by simp at hj ⊢; omega)] at h3
      rw [List.getElem?_append_left hj] at h4
      exact E.dis i j p ds es' h1 h2 h3 h4
  -- an entry behind the body
  have ent : ∀ (i : Nat) (v : V) (e : Ent), vs[i]? = some v → (finE 0 es ρ')[i]? = some e → EntOk K O' H' (some v) e ∧ ∀ ds, e = .lst ds → σ'[i]? = some (some v) ∧ ρ'[i]? = some (some (.lst ds)) ∧ ∃ ds0, es[i]? = some (.lst ds0) := fun i v e h1 h2 => by
    rw [finE_get] at h2
    cases he : es[i]? with
    | none => rw [he] at h2; cases h2
    | some e0 =>
      rw [he] at h2
      have h2 : finE1 (0 + i) e0 ρ' = e := Option.some.inj h2
      rw [Nat.zero_add] at h2
      cases e0 with
      | val d =>
        subst h2
        have q := E.ok i _ _ (map_of h1) (map_of he)
        refine ⟨S.dp E0 (show DP K (msk O H) v d from q), fun ds z => nomatch z⟩
      | lst ds0 =>
        have hi : i < np := by rw [← hl]; exact (List.getElem?_eq_some_iff.mp he).1
        obtain ⟨e1, ds1, e2⟩ := S.pin i ds0 hi (inE i _ (map_of he))
        have e3 : finE1 i (.lst ds0) ρ' = .lst ds1 := by unfold finE1; rw [e2]
        rw [e3] at h2
        subst h2
        have h4 : σ'[i]? = some (some v) := e1.trans (inL i _ (map_of h1))
        exact ⟨S.env.ok i _ _ h4 e2, fun ds z => by cases z; exact ⟨h4, e2, ds0, rfl⟩⟩
  have own' : ∀ p, Owns (vs.map some) ((finE 0 es ρ').map some) p → Owns σ' ρ' p ∧ Owns (vs.map some) (es.map some) p := fun p ⟨i, ds, h1, h2⟩ => by
    obtain ⟨v, e, h1⟩ := map_get h1
    cases e
    obtain ⟨en, e, h2⟩ := map_get h2
    cases e
    obtain ⟨_, h3⟩ := ent i _ _ h1 h2
    obtain ⟨a, b, ds0, c⟩ := h3 ds rfl
    exact ⟨⟨i, ds, a, b⟩, ⟨i, ds0, map_of h1, map_of c⟩⟩
  refine ⟨⟨S.sub, S.new, fun b o nb h => S.le b o (fun w => nb (outO b w)) h, ⟨?_, fun i x e h1 h2 => ?_, S.env.al, fun i j p ds es' h1 h2 h3 h4 => ?_⟩, fun b w => .inl (own' b w).2, fun i ds hi h => ⟨rfl, ?_⟩⟩, fun p w => (own' p w).1⟩
  · rw [List.length_map, List.length_map, finE_len, hv, hl]
  · obtain ⟨v, rfl, g1⟩ := map_get h1
    obtain ⟨en, z, g2⟩ := map_get h2
    cases z
    exact (ent i v e g1 g2).1
  · obtain ⟨v, z, h1⟩ := map_get h1
    cases z
    obtain ⟨en, z, h2⟩ := map_get h2
    cases z
    obtain ⟨v, z, h3⟩ := map_get h3
    cases z
    obtain ⟨en, z, h4⟩ := map_get h4
    cases z
    obtain ⟨a1, a2, _⟩ := (ent i _ _ h1 h2).2 _ rfl
    obtain ⟨a3, a4, _⟩ := (ent j _ _ h3 h4).2 _ rfl
    exact S.env.dis i j p ds es' a1 a2 a3 a4
  · obtain ⟨en, z, h⟩ := map_get h
    cases z
    obtain ⟨_, ds1, e2⟩ := S.pin i ds hi (inE i _ (map_of h))
    refine ⟨ds1, map_of ?_⟩
    rw [finE_get, h]
    show some (finE1 (0 + i) (.lst ds) ρ') = _
    rw [Nat.zero_add]
    unfold finE1
    rw [e2]
theorem env_start {np m : Nat} {vs : List V} {es : List Ent} (E : Envs K O (vs.map some) (es.map some) H) (hl : es.length = np) (hv : vs.length = np) : Envs K O (vs.map some ++ List.replicate m none) (es.map some ++ List.replicate m none) H := by
  refine ⟨by simp [hl, hv], fun i x e h1 h2 => ?_, E.al, fun i j p ds es' h1 h2 h3 h4 => ?_⟩
  · by_cases hi : i < (es.map some).length
    · rw [List.getElem?_append_left hi] at h2
      rw [List.getElem?_append_left (by simp at hi ⊢; omega)] at h1
      exact E.ok i x e h1 h2
    · rw [List.getElem?_append_right (by omega)] at h2
      obtain ⟨_, h2⟩ := List.getElem?_eq_some_iff.mp h2
      rw [List.getElem_replicate] at h2
      cases h2
  · have a : ∀ (i : Nat) (ds : List PyData), (es.map some ++ List.replicate m none)[i]? = some (some (.lst ds)) → i < (es.map some).length := fun i ds h => by
      by_cases hi : i < (es.map some).length
      · exact hi
      · rw [List.getElem?_append_right (by omega)] at h
        obtain ⟨_, h⟩ := List.getElem?_eq_some_iff.mp h
        rw [List.getElem_replicate] at h
        cases h
    have hi := a i ds h2
    have hj := a j es' h4
    rw [List.getElem?_append_left (by simp at hi ⊢; omega)] at h1
    rw [List.getElem?_append_left hi] at h2
    rw [List.getElem?_append_left (by simp at hj ⊢; omega)] at h3
    rw [List.getElem?_append_left hj] at h4
    exact E.dis i j p ds es' h1 h2 h3 h4
end
section
variable {P : Program} {w : World} {K : PySem.W.Frag} {mg : Str → Option Value} {base : Heap}
/-- THE RULE for a def on data -/
theorem fn_data {x qual : Str} {st : Stmt} {f : Addr} {fd : FuncData} {N ps : List Str} {k np : Nat} {W : SpW} (F : Fun K x qual st f fd) (S : FnScope N ps (defScope st)) (hp : ps.length = np)
    (body : ∀ (cdv : Value) (A : Around) (outer : List Env) (s : Shared) (H : Hp) (E : XK), Room k (A.deeper (envOfC qual (defScope st) s.heap.objs.size f cdv)) →
      ∃ t, PSs (cxOf CX0 P w K mg base N qual (defScope st) f cdv A outer s H E).nox (defBody st) t ∧
        ∀ es Φ, W es Φ → es.length = np → DSx K np t (es.map some ++ List.replicate (N.length - np) none) { nx := fun ρ => Φ .none (finE 0 es ρ), rt := fun d ρ => Φ d (finE 0 es ρ) }) :
    FnOk P w K mg base CX0 (k + 1) f fd ps (spD K np W) := by
  refine F.ok S (fun vs H Q E h => ?_) (fun cdv A outer s H vs Q E hr h => ?_)
  · obtain ⟨O, es, Φ, h, _⟩ := h
    omega
  · obtain ⟨O, es, Φ, hv, he, hw, hk⟩ := h
    have hl : es.length = np := by have := he.len; simp at this; omega
    obtain ⟨t, h1, h2⟩ := body cdv A outer s H E hr
    refine ⟨t, h1, ?_⟩
    show t _ (vs.map some ++ List.replicate (N.length - vs.length) none) H
    rw [hv]
    refine h2 es Φ hw hl O _ H (env_start he hl hv) _ (fun O' σ' ρ' H' q S' => ?_) (fun v d O' σ' ρ' H' q S' r => ?_) (fun p ws ds O' σ' ρ' H' q S' => q.elim) (fun O' σ' ρ' H' q S' => q.elim) (fun O' σ' ρ' H' q S' => q.elim)
    · exact hk .non .none _ O' H' q (stp_fin he hl hv S').1 .non
    · exact hk v d _ O' H' q (stp_fin he hl hv S').1 r
theorem fn_dataF {x qual : Str} {st : Stmt} {f : Addr} {fd : FuncData} {N ps : List Str} {k np : Nat} {W : SfW} (F : Fun K x qual st f fd) (S : FnScope N ps (defScope st)) (hp : ps.length = np)
    (body : ∀ (cdv : Value) (A : Around) (outer : List Env) (s : Shared) (H : Hp) (E : XK), Room k (A.deeper (envOfC qual (defScope st) s.heap.objs.size f cdv)) →
      ∃ t, PSs (cxOf CX0 P w K mg base N qual (defScope st) f cdv A outer s H E).nox (defBody st) t ∧
        ∀ es Φ, W es Φ → es.length = np → DSx K np t (es.map some ++ List.replicate (N.length - np) none) { nx := fun _ => False, rt := fun _ _ => False, rf := fun ds ρ => Φ ds (finE 0 es ρ) }) :
    FnOk P w K mg base CX0 (k + 1) f fd ps (spF K np W) := by
  refine F.ok S (fun vs H Q E h => ?_) (fun cdv A outer s H vs Q E hr h => ?_)
  · obtain ⟨O, es, Φ, h, _⟩ := h
    omega
  · obtain ⟨O, es, Φ, hv, he, hw, hk⟩ := h
    have hl : es.length = np := by have := he.len; simp at this; omega
    obtain ⟨t, h1, h2⟩ := body cdv A outer s H E hr
    refine ⟨t, h1, ?_⟩
    show t _ (vs.map some ++ List.replicate (N.length - vs.length) none) H
    rw [hv]
    refine h2 es Φ hw hl O _ H (env_start he hl hv) _ (fun O' σ' ρ' H' q S' => q.elim) (fun v d O' σ' ρ' H' q S' r => q.elim) (fun p ws ds O' σ' ρ' H' q S' hp no h0 hh hd => ?_) (fun O' σ' ρ' H' q S' => q.elim) (fun O' σ' ρ' H' q S' => q.elim)
    obtain ⟨S1, S2⟩ := stp_fin he hl hv S'
    refine hk p ws ds _ O' H' q S1 hp (fun w => no (S2 p w)) ?_ hh hd
    rcases h0 with h0 | ⟨i, ds0, hi, h3, h4⟩
    · exact h0
    · rw [List.getElem?_append_right (by simp; omega)] at h4
      obtain ⟨_, h4⟩ := List.getElem?_eq_some_iff.mp h4
      rw [List.getElem_replicate] at h4
      cases h4
end
section
variable {K : PySem.W.Frag} {n np : Nat} {O O1 : List Addr} {σ : L2.St} {ρ ρ1 : Rho} {H H1 : Hp} {ta tb tc te : TE} {tt tu : TT} {Φ : PD} {F : DE2} {ts us : TS} {W : SpW} {Wf : SfW}
/-- arguments that are all plain data -/
theorem env_args {vs : List V} {ds : List PyData} (al : ∀ b ∈ O, H b ≠ none) (h : DPAll K (msk O H) vs ds) : Envs K O (vs.map some) ((ds.map Ent.val).map some) H := by
  refine ⟨by simp [dpa_len h], fun i x e h1 h2 => ?_, al, fun i j p d1 d2 h1 h2 h3 h4 => ?_⟩
  · obtain ⟨v, rfl, g1⟩ := map_get h1
    obtain ⟨en, z, g2⟩ := map_get h2
    cases z
    rw [List.getElem?_map] at g2
    obtain ⟨d, h3, h4⟩ := dpa_get' h g1
    rw [h3] at g2
    cases g2
    exact h4
  · obtain ⟨en, z, h2⟩ := map_get h2
    cases z
    rw [List.getElem?_map] at h2
    cases e : ds[i]? with
    | none => rw [e] at h2; cases h2
    | some d => rw [e] at h2; cases h2
theorem no_own_vals {vs : List (Option V)} {ds : List PyData} {p : Addr} : ¬ Owns vs ((ds.map Ent.val).map some) p := fun ⟨i, es, h1, h2⟩ => by
  obtain ⟨en, z, h2⟩ := map_get h2
  cases z
  rw [List.getElem?_map] at h2
  cases e : ds[i]? with
  | none => rw [e] at h2; cases h2
  | some d => rw [e] at h2; cases h2
/-- behind a call of plain data -/
theorem stp_called {vs : List V} {ds : List PyData} {es' : List Ent} {O' : List Addr} {H' : Hp} (E : Envs K O1 σ ρ1 H1) (hd : DPAll K (msk O1 H1) vs ds)
    (S : Stp K np O1 (vs.map some) ((ds.map Ent.val).map some) H1 O' (vs.map some) (es'.map some) H') : Stp K n O1 σ ρ1 H1 O' σ ρ1 H' := by
  have ex : Ext H1 H' := fun b o h => S.le b o no_own_vals h
  have em : Ext (msk O1 H1) (msk O' H') := S.msk (env_args E.al hd)
  refine ⟨S.sub, S.new, fun b o _ h => ex b o h, ⟨E.len, fun i x e h1 h2 => ?_, S.env.al, E.dis⟩, fun b h => .inl h, fun i es hi h => ⟨rfl, es, h⟩⟩
  have w := E.ok i x e h1 h2
  cases e with
  | val d =>
    cases x with
    | none => exact w.elim
    | some v => exact dp_ext em (show DP K (msk O1 H1) v d from w)
  | lst es =>
    obtain ⟨r, rfl, hr, ws, hw, hq⟩ := lst_val w
    exact ⟨S.sub r hr, ws, ex r _ hw, dpa_ext em hq⟩
theorem dw_call {t : TA} {E0 : XK} (h : DA K n t ρ fun ds ρ1 => ds.length = np ∧ W (ds.map Ent.val) fun d _ => Φ d ρ1) : DW K n (tCall (spD K np W) [] E0 t) ρ Φ := fun O σ H E Q q =>
  h O σ H E _ fun vs ds ρ1 O1 H1 ⟨hl, hw⟩ S r => by
    show spD K np W (vs ++ []) H1 Q E0
    rw [List.append_nil]
    refine ⟨O1, ds.map Ent.val, _, (dpa_len r).trans hl, env_args S.env.al r, hw, fun v d es' O' H' k S' rr => ?_⟩
    exact q v d ρ1 O' H' k (S.trans E (stp_called S.env r S')) rr
theorem df_call {t : TA} {E0 : XK} {Ψ : PF} (h : DA K n t ρ fun ds ρ1 => ds.length = np ∧ Wf (ds.map Ent.val) fun d _ => Ψ d ρ1) : DF K n (tCall (spF K np Wf) [] E0 t) ρ Ψ := fun O σ H E Q q =>
  h O σ H E _ fun vs ds ρ1 O1 H1 ⟨hl, hw⟩ S r => by
    show spF K np Wf (vs ++ []) H1 Q E0
    rw [List.append_nil]
    refine ⟨O1, ds.map Ent.val, _, (dpa_len r).trans hl, env_args S.env.al r, hw, fun p ws d es' O' H' k S' hp no h0 hh hd => ?_⟩
    have S2 := stp_called (n := n) S.env r S'
    have mem : ∀ b, b ∈ O' ↔ b ∈ p :: O'.filter (fun b => decide (b ≠ p)) := fun b => by
      by_cases hb : b = p
      · subst hb; simp [hp]
      · simp [hb]
    have h00 : H p = none := S.none_back (fun z => fresh_notin S.env h0 (S.sub p z)) h0 E
    refine q p ws d ρ1 _ H' k (stp_mem (S.trans E S2) mem) (by simp) (fun w => ?_) h00 hh (by rw [msk_mem mem]; exact hd)
    exact S.env.al p (S.env.ownO w) h0
/-- the first argument is a name's own list, which the def may change -/
theorem env_args1 {p : Addr} {us vs : List V} {es ds : List PyData} (al : ∀ b ∈ O, H b ≠ none) (hp : p ∈ O) (hH : H p = some (.lst us)) (hu : DPAll K (msk O H) us es) (h : DPAll K (msk O H) vs ds) :
    Envs K O ((V.ref p :: vs).map some) ((Ent.lst es :: ds.map Ent.val).map some) H := by
  have E := env_args al h
  refine ⟨by simp [dpa_len h], fun i x e h1 h2 => ?_, al, fun i j r d1 d2 h1 h2 h3 h4 => ?_⟩
  · cases i with
    | zero =>
      simp at h1 h2
      subst h1; subst h2
      exact ⟨hp, us, hH, hu⟩
    | succ i => exact E.ok i x e (by simpa using h1) (by simpa using h2)
  · have a : ∀ (i : Nat) (d : List PyData), ((Ent.lst es :: ds.map Ent.val).map some)[i]? = some (some (.lst d)) → i = 0 := fun i d h => by
      cases i with
      | zero => rfl
      | succ i =>
        have h : ((ds.map Ent.val).map some)[i]? = some (some (.lst d)) := by simpa using h
        obtain ⟨en, z, h⟩ := map_get h
        cases z
        rw [List.getElem?_map] at h
        cases e : ds[i]? with
        | none => rw [e] at h; cases h
        | some d => rw [e] at h; cases h
    rw [a i d1 h2, a j d2 h4]
theorem own_args1 {p b : Addr} {vs : List V} {es ds : List PyData} (w : Owns ((V.ref p :: vs).map some) ((Ent.lst es :: ds.map Ent.val).map some) b) : b = p := by
  obtain ⟨i, d, h1, h2⟩ := w
  cases i with
  | zero => simp at h1; exact h1.symm
  | succ i => exact absurd ⟨i, d, by simpa using h1, by simpa using h2⟩ (no_own_vals (vs := vs.map some) (ds := ds) (p := b))
theorem dw_callO {i : Nat} {t : TA} {E0 : XK} {ds0 : List PyData} (h0 : ρ[i]? = some (some (.lst ds0)))
    (h : DA K n t ρ fun ds ρ1 => ds.length + 1 = np ∧ ∃ ds1, ρ1[i]? = some (some (.lst ds1)) ∧ W (.lst ds1 :: ds.map Ent.val) fun d es' => ∀ ds2 r, es' = .lst ds2 :: r → Φ d (ρ1.set i (some (.lst ds2)))) :
    DW K n (tCall (spD K np W) [] E0 (tCons (tVar i) t)) ρ Φ := fun O σ H E Q q => by
  obtain ⟨p, us0, a0, _⟩ := env_lst E h0
  refine ⟨.ref p, a0, ?_⟩
  refine h O σ H E _ fun vs ds ρ1 O1 H1 ⟨hl, ds1, h1, hw⟩ S r => ?_
  obtain ⟨p', us, a, hp, hH, hu⟩ := env_lst S.env h1
  rw [a0] at a; cases a
  have E1 := S.env
  show spD K np W (V.ref p :: (vs ++ [])) H1 Q E0
  rw [List.append_nil]
  refine ⟨O1, _, _, by simp [dpa_len r]; omega, env_args1 E1.al hp hH hu r, hw, fun v d es' O' H' k S' rr => ?_⟩
  obtain ⟨_, ds2, e2⟩ := S'.pin 0 ds1 (by omega) (by simp)
  obtain ⟨en, z, e2⟩ := map_get e2
  cases z
  obtain ⟨rest, rfl⟩ : ∃ rest, es' = .lst ds2 :: rest := by
    cases es' with
    | nil => simp at e2
    | cons x r => simp at e2; exact ⟨r, by rw [e2]⟩
  have em : Ext (msk O1 H1) (msk O' H') := S'.msk (env_args1 E1.al hp hH hu r)
  have hi : i < ρ1.length := (List.getElem?_eq_some_iff.mp h1).1
  have S2 : Stp K n O1 σ ρ1 H1 O' σ (ρ1.set i (some (.lst ds2))) H' := by
    refine ⟨S'.sub, S'.new, fun b o nb h => S'.le b o (fun w => nb ?_) h, ⟨by rw [List.length_set]; exact E1.len, fun j x e g1 g2 => ?_, S'.env.al, fun j k r d1 d2 g1 g2 g3 g4 => ?_⟩, fun b ⟨j, d1, g1, g2⟩ => ?_, fun j d1 hj g2 => ⟨rfl, ?_⟩⟩
    · rw [own_args1 w]
      exact ⟨i, ds1, a0, h1⟩
    · by_cases hij : i = j
      · subst hij
        rw [List.getElem?_set_self hi] at g2
        cases g2
        rw [a0] at g1; cases g1
        exact S'.env.ok 0 _ _ (by simp) (by simp)
      · rw [List.getElem?_set_ne hij] at g2
        have w := E1.ok j x e g1 g2
        cases e with
        | val d =>
          cases x with
          | none => exact w.elim
          | some v => exact dp_ext em (show DP K (msk O1 H1) v d from w)
        | lst es =>
          obtain ⟨r2, rfl, hr, ws, hw2, hq⟩ := lst_val w
          refine ⟨S'.sub r2 hr, ws, S'.le r2 _ (fun w2 => ?_) hw2, dpa_ext em hq⟩
          have e := own_args1 w2
          subst e
          exact hij (E1.dis i j r2 ds1 es a0 h1 g1 g2)
    · by_cases hij : i = j
      · subst hij
        by_cases hik : i = k
        · exact hik
        · rw [List.getElem?_set_ne hik] at g4
          rw [a0] at g1; cases g1
          exact E1.dis i k p ds1 d2 a0 h1 g3 g4
      · rw [List.getElem?_set_ne hij] at g2
        by_cases hik : i = k
        · subst hik
          rw [a0] at g3; cases g3
          exact E1.dis j i p d1 ds1 g1 g2 a0 h1
        · rw [List.getElem?_set_ne hik] at g4
          exact E1.dis j k r d1 d2 g1 g2 g3 g4
    · by_cases hij : i = j
      · subst hij
        exact .inl ⟨i, ds1, g1, h1⟩
      · rw [List.getElem?_set_ne hij] at g2
        exact .inl ⟨j, d1, g1, g2⟩
    · by_cases hij : i = j
      · subst hij
        exact ⟨ds2, List.getElem?_set_self hi⟩
      · rw [List.getElem?_set_ne hij]
        exact ⟨d1, g2⟩
  exact q v d _ O' H' (k ds2 rest rfl) (S.trans E S2) rr
end
end DL
namespace DL
open PySem L2 PySem.Spec PyProof.Rows
section
variable {K : PySem.W.Frag} {n np : Nat} {O O1 : List Addr} {σ : L2.St} {ρ ρ1 : Rho} {H H1 : Hp} {ta tb tc te : TE} {tt tu : TT} {Φ : PD} {F : DE2} {ts us : TS} {Ψ : PyData → Prop} {x y : PyData}

/-! ### operators on data -/
theorem rd_i0 {g : Int → Int → Int} {i j : Int} (k : Ψ (.int (g i j))) : RD (rI0 fun i j => .int (g i j)) K (.int i) (.int j) Ψ := fun O H vx vy al hx hy Q q => by
  cases hx; cases hy
  exact ⟨i, j, rfl, rfl, q _ _ H k (Ext.refl H) (.int _)⟩
theorem rd_b0 {g : Int → Int → Bool} {i j : Int} (k : Ψ (.bool (g i j))) : RD (rI0 fun i j => .bl (g i j)) K (.int i) (.int j) Ψ := fun O H vx vy al hx hy Q q => by
  cases hx; cases hy
  exact ⟨i, j, rfl, rfl, q _ _ H k (Ext.refl H) (.bl _)⟩
theorem rd_i {C : Int → Int → Prop} {g : Int → Int → Int} {i j : Int} (hc : C i j) (k : Ψ (.int (g i j))) : RD (rI C fun i j => .int (g i j)) K (.int i) (.int j) Ψ := fun O H vx vy al hx hy Q q => by
  cases hx; cases hy
  exact ⟨i, j, rfl, rfl, hc, q _ _ H k (Ext.refl H) (.int _)⟩
theorem ru_i {g : Int → Int} {i : Int} (k : Ψ (.int (g i))) : RU (rU fun i => .int (g i)) K (.int i) Ψ := fun O H vx al hx Q q => by
  cases hx
  exact ⟨i, rfl, q _ _ H k (Ext.refl H) (.int _)⟩
theorem rd_eq0 (hx : SeqAt.shaped x = true) (hy : SeqAt.shaped y = true) (k : Ψ (.bool (PyData.eqv x y))) : RD (rEqD K) K x y Ψ := fun O H vx vy al h1 h2 Q q =>
  ⟨x, y, dp_sh hx (dp_ext msk_le h1), dp_sh hy (dp_ext msk_le h2), hx, hy, q _ _ H k (Ext.refl H) (.bl _)⟩
theorem rd_ne0 (hx : SeqAt.shaped x = true) (hy : SeqAt.shaped y = true) (k : Ψ (.bool (!PyData.eqv x y))) : RD (rNeD K) K x y Ψ := fun O H vx vy al h1 h2 Q q =>
  ⟨x, y, dp_sh hx (dp_ext msk_le h1), dp_sh hy (dp_ext msk_le h2), hx, hy, q _ _ H k (Ext.refl H) (.bl _)⟩
theorem dpa_atI {vs : List V} {ds : List PyData} {k : Int} {d : PyData} (h : DPAll K H vs ds) (e : atI ds k = some d) : ∃ v, atI vs k = some v ∧ DP K H v d := by
  unfold atI at e ⊢
  rw [dpa_len h]
  cases q : ixN ds.length k with
  | none => rw [q] at e; cases e
  | some j =>
    rw [q] at e
    exact dpa_get h e
theorem rd_ixL {ds : List PyData} {k : Int} {d : PyData} (e : atI ds k = some d) (kk : Ψ d) : RD (rIx K) K (.list ds) (.int k) Ψ := fun O H vx vy al h1 h2 Q q => by
  cases h2
  cases h1 with
  | lst hq hd =>
    obtain ⟨v, h3, h4⟩ := dpa_atI hd e
    exact .inl ⟨_, _, k, v, rfl, rfl, msk_l hq, h3, q v d H kk (Ext.refl H) h4⟩
theorem rd_ixT {ds : List PyData} {k : Int} {d : PyData} (e : atI ds k = some d) (kk : Ψ d) : RD (rIx K) K (.tuple ds) (.int k) Ψ := fun O H vx vy al h1 h2 Q q => by
  cases h2
  cases h1 with
  | tup hq hd =>
    obtain ⟨v, h3, h4⟩ := dpa_atI hd e
    exact .inr (.inl ⟨_, _, k, v, rfl, rfl, msk_t hq, h3, q v d H kk (Ext.refl H) h4⟩)
theorem rd_ixS {z : Str} {k : Int} {c : Nat} (hz : z.length ≤ 100000) (e : atI z.cps.toList k = some c) (kk : Ψ (.str ⟨#[c]⟩)) : RD (rIx K) K (.str z) (.int k) Ψ := fun O H vx vy al h1 h2 Q q => by
  cases h2
  cases h1
  exact .inr (.inr ⟨z, k, c, rfl, rfl, Nat.le_trans hz (by decide), e, q _ _ H kk (Ext.refl H) (.str _)⟩)

/-! ### built-ins on data -/
theorem rc_int {i : Int} (k : Ψ (.int i)) : RC (fun xs H Q => (∃ i, xs = [.int i] ∧ Q (.int i) H) ∨ ∃ k, xs = [.bl k] ∧ Q (.int (if k then 1 else 0)) H) K [.int i] Ψ := fun O H vs al h Q q => by
  cases h with | cons h r => cases r; cases h; exact .inl ⟨i, rfl, q _ _ H k (Ext.refl H) (.int _)⟩
theorem rc_intB {i : Bool} (k : Ψ (.int (if i then 1 else 0))) : RC (fun xs H Q => (∃ i, xs = [.int i] ∧ Q (.int i) H) ∨ ∃ k, xs = [.bl k] ∧ Q (.int (if k then 1 else 0)) H) K [.bool i] Ψ := fun O H vs al h Q q => by
  cases h with | cons h r => cases r; cases h; exact .inr ⟨i, rfl, q _ _ H k (Ext.refl H) (.int _)⟩
theorem rc_abs {i : Int} (k : Ψ (.int (if i < 0 then -i else i))) : RC (fun xs H Q => ∃ i, xs = [.int i] ∧ Q (.int (if i < 0 then -i else i)) H) K [.int i] Ψ := fun O H vs al h Q q => by
  cases h with | cons h r => cases r; cases h; exact ⟨i, rfl, q _ _ H k (Ext.refl H) (.int _)⟩
theorem rc_max {i j : Int} (k : Ψ (.int (if j > i then j else i))) : RC (fun xs H Q => ∃ i j, xs = [.int i, .int j] ∧ Q (.int (if j > i then j else i)) H) K [.int i, .int j] Ψ := fun O H vs al h Q q => by
  cases h with | cons h r => cases r with | cons h2 r => cases r; cases h; cases h2; exact ⟨i, j, rfl, q _ _ H k (Ext.refl H) (.int _)⟩
theorem rc_min {i j : Int} (k : Ψ (.int (if j < i then j else i))) : RC (fun xs H Q => ∃ i j, xs = [.int i, .int j] ∧ Q (.int (if j < i then j else i)) H) K [.int i, .int j] Ψ := fun O H vs al h Q q => by
  cases h with | cons h r => cases r with | cons h2 r => cases r; cases h; cases h2; exact ⟨i, j, rfl, q _ _ H k (Ext.refl H) (.int _)⟩
theorem rc_str {i : Int} (hi : i.natAbs.log2 < 1920) (k : Ψ (.str (toString i))) : RC (fun xs H Q => ∃ i, xs = [.int i] ∧ i.natAbs.log2 < 1920 ∧ Q (.str (toString i)) H) K [.int i] Ψ := fun O H vs al h Q q => by
  cases h with | cons h r => cases r; cases h; exact ⟨i, rfl, hi, q _ _ H k (Ext.refl H) (.str _)⟩
theorem rc_gcd {i j : Int} (k : Ψ (.int ((Nat.gcd i.natAbs j.natAbs : Nat) : Int))) : RC rGcd K [.int i, .int j] Ψ := fun O H vs al h Q q => by
  cases h with | cons h r => cases r with | cons h2 r => cases r; cases h; cases h2; exact ⟨i, j, rfl, q _ _ H k (Ext.refl H) (.int _)⟩
def rLen (K : PySem.W.Frag) : List V → Hp → VK → Prop := fun xs H Q => ∃ x n, xs = [x] ∧ LenV K x H n ∧ Q (.int n) H
theorem call_lenA {X : Cx} : CallR X (.builtin "len") (rLen X.K) := call_len
theorem rc_lenL {ds : List PyData} (k : Ψ (.int ds.length)) : RC (rLen K) K [.list ds] Ψ := fun O H vs al h Q q => by
  cases h with
  | cons h r =>
    cases r
    cases h with
    | lst hq hd => exact ⟨_, _, rfl, .inl ⟨_, msk_l hq, (dpa_len hd).symm⟩, q _ _ H k (Ext.refl H) (.int _)⟩
theorem rc_lenT {ds : List PyData} (k : Ψ (.int ds.length)) : RC (rLen K) K [.tuple ds] Ψ := fun O H vs al h Q q => by
  cases h with
  | cons h r =>
    cases r
    cases h with
    | tup hq hd => exact ⟨_, _, rfl, .inr ⟨_, msk_t hq, (dpa_len hd).symm⟩, q _ _ H k (Ext.refl H) (.int _)⟩
theorem rc_lenS {z : Str} (hz : z.length ≤ 100000) (k : Ψ (.int z.length)) : RC (rLen K) K [.str z] Ψ := fun O H vs al h Q q => by
  cases h with
  | cons h r =>
    cases r
    cases h
    exact ⟨_, _, rfl, ⟨Nat.le_trans hz (by decide), rfl⟩, q _ _ H k (Ext.refl H) (.int _)⟩
/-- math.comb -/
def rComb : List V → Hp → VK → Prop := fun vs H Q => ∃ a b : Int, vs = [.int a, .int b] ∧ (0 ≤ a ∧ 0 ≤ b ∧ a ≤ 18000) ∧ Q (.int (PySem.W.mcComb a b)) H
theorem cr_comb {X : Cx} : CallR X (.builtin "math.comb") rComb := by
  intro pins s σ H vs us Q I r h
  obtain ⟨a, b, rfl, ⟨h1, h2, h3⟩, q⟩ := h
  obtain ⟨t, u, rfl⟩ := Vals.int2 r
  exact PySem.W.mc_comb h1 h2 (by omega) (.inr h3) fun _ => ⟨.int _, H, I.tok _, ⟨_, rfl⟩, q⟩
theorem rc_comb {i j : Int} (h : 0 ≤ i ∧ 0 ≤ j ∧ i ≤ 18000) (k : Ψ (.int (PySem.W.mcComb i j))) : RC rComb K [.int i, .int j] Ψ := fun O H vs al hh Q q => by
  cases hh with | cons h1 r => cases r with | cons h2 r => cases r; cases h1; cases h2; exact ⟨i, j, rfl, h, q _ _ H k (Ext.refl H) (.int _)⟩

/-! ### isinstance -/
def tyN : PyData → String
  | .none => "NoneType"
  | .bool _ => "bool"
  | .int _ => "int"
  | .str _ => "str"
  | .list _ => "list"
  | .tuple _ => "tuple"
  | .dict _ => "dict"
theorem ty_of {v : V} {d : PyData} {O : List Addr} (h : DP K (msk O H) v d) : TyX K H v (.type (tyN d)) := by
  cases h with
  | non => exact .base .non
  | bl b => exact .base (.bl b)
  | int i => exact .base (.int i)
  | str s => exact .base (.str s)
  | lst hq _ =>
    rcases msk_l hq with (h | ⟨o, h⟩) | ⟨o, its, n, h, c, _⟩
    · exact .base (.lst h)
    · exact .base (.frz h)
    · exact .kList h c
  | tup hq _ =>
    rcases msk_t hq with (h | ⟨o, h⟩) | ⟨o, its, n, h, c, _⟩
    · exact .base (.tup h)
    · exact .fTuple h
    · exact .kTuple h c
  | dct hq _ =>
    rcases msk_le.rd hq with h | ⟨o, h⟩
    · exact .base (.dK h)
    · exact .fDict h
def isT (T : String) (d : PyData) : Option Bool := kitB (tyN d) T
theorem dw_isi {T : String} (h : DW K n te ρ fun d ρ1 => ∃ b, isT T d = some b ∧ Φ (.bool b) ρ1) : DW K n (tCB (rIsi K) (tCons te (tCons (tC (.ty T)) tNil))) ρ Φ := fun O σ H E Q q =>
  h O σ H E _ fun v d ρ1 O1 H1 ⟨b, hb, k⟩ S r => ⟨v, .ty T, _, _, b, rfl, .ty T, ty_of r, kit_ty hb, q _ _ ρ1 O1 H1 k S (.bl b)⟩

/-! ### f-strings -/
theorem dw_fmtI (h : DW K n te ρ fun d ρ1 => ∃ i, d = .int i ∧ i.natAbs.log2 < 1920 ∧ Φ (.str (toString i)) ρ1) : DW K n (tFmt te) ρ Φ := fun O σ H E Q q =>
  h O σ H E _ fun v d ρ1 O1 H1 ⟨i, e, hi, k⟩ S r => by
    subst e
    exact .inr ⟨i, dp_int r, hi, q _ _ ρ1 O1 H1 k S (.str _)⟩
def DJ (K : PySem.W.Frag) (n : Nat) (ts : List TE) (acc : Str) (ρ : Rho) (Ψ : Str → Rho → Prop) : Prop :=
  ∀ O σ H, Envs K O σ ρ H → ∀ Q : Str → Hp → Prop, (∀ z ρ' O' H', Ψ z ρ' → Stp K n O σ ρ H O' σ ρ' H' → Q z H') → tJs ts acc σ H Q
theorem dj_nil {acc : Str} {Ψ : Str → Rho → Prop} (k : Ψ acc ρ) : DJ K n [] acc ρ Ψ := fun O σ H E Q q => q acc ρ O H k (Stp.refl E)
theorem dj_cons {t : TE} {ts : List TE} {acc : Str} {Ψ : Str → Rho → Prop} (h : DW K n t ρ fun d ρ1 => ∃ z, d = .str z ∧ (acc ++ z).length ≤ 100000 ∧ DJ K n ts (acc ++ z) ρ1 Ψ) : DJ K n (t :: ts) acc ρ Ψ := fun O σ H E Q q =>
  h O σ H E _ fun v d ρ1 O1 H1 ⟨z, e, hz, k⟩ S r => by
    subst e
    exact ⟨z, dp_str r, Nat.le_trans hz (by decide), k O1 σ H1 S.env Q fun z2 ρ2 O2 H2 k2 S2 => q z2 ρ2 O2 H2 k2 (S.trans E S2)⟩
def tJoin (ts : List TE) : TE := fun σ H Q => tJs ts Str.empty σ H fun out H1 => Q (.str out) H1
theorem pe_joinedA {X : Cx} {v1 v2 : Expr} {rest : List Expr} {ts : List TE} {pos : Pos} (h : PJ X (v1 :: v2 :: rest) ts) : PE X (.JoinedStr (v1 :: v2 :: rest) pos) (tJoin ts) := pe_joined h
theorem dw_joined {ts : List TE} (h : DJ K n ts Str.empty ρ fun z ρ1 => Φ (.str z) ρ1) : DW K n (tJoin ts) ρ Φ := fun O σ H E Q q => h O σ H E _ fun z ρ1 O1 H1 k S => q _ _ ρ1 O1 H1 k S (.str z)
def rCatS : R2 := fun x y H Q => ∃ i j, x = .str i ∧ y = .str j ∧ i.length + j.length ≤ sizeLine ∧ Q (.str (i ++ j)) H
theorem op_catS {X : Cx} : OpR X (binaryOp .Add) rCatS := op_add_str
theorem rd_catS {i j : Str} (hl : i.length + j.length ≤ 100000) (k : Ψ (.str (i ++ j))) : RD rCatS K (.str i) (.str j) Ψ := fun O H vx vy al h1 h2 Q q => by
  cases h1; cases h2
  exact ⟨i, j, rfl, rfl, Nat.le_trans hl (by decide), q _ _ H k (Ext.refl H) (.str _)⟩

/-! ### a name's own list, read -/
theorem dw_ixO {i : Nat} {ds0 : List PyData} (h0 : ρ[i]? = some (some (.lst ds0))) (h : DW K n tb ρ fun x ρ1 => ∃ k ds d, x = .int k ∧ ρ1[i]? = some (some (.lst ds)) ∧ atI ds k = some d ∧ Φ d ρ1) : DW K n (tOp (rIx K) (tVar i) tb) ρ Φ := fun O σ H E Q q => by
  obtain ⟨p, us0, a0, _⟩ := env_lst E h0
  refine ⟨.ref p, a0, ?_⟩
  refine h O σ H E _ fun v x ρ1 O1 H1 ⟨k, ds, d, e, h1, h2, hk⟩ S r => ?_
  subst e
  obtain ⟨p', us, a, hp, hH, hu⟩ := env_lst S.env h1
  rw [a0] at a; cases a
  obtain ⟨v2, h3, h4⟩ := dpa_atI hu h2
  exact .inl ⟨p, us, k, v2, rfl, dp_int r, SqL.of hH, h3, q v2 d ρ1 O1 H1 hk S h4⟩
theorem dw_lenO {i : Nat} {ds : List PyData} (h0 : ρ[i]? = some (some (.lst ds))) (k : Φ (.int ds.length) ρ) : DW K n (tCB (rLen K) (tCons (tVar i) tNil)) ρ Φ := fun O σ H E Q q => by
  obtain ⟨p, us, a, hp, hH, hu⟩ := env_lst E h0
  exact ⟨.ref p, a, .ref p, _, rfl, .inl ⟨us, SqL.of hH, (dpa_len hu).symm⟩, q _ _ ρ O H k (Stp.refl E) (.int _)⟩
/-- plain data without a list in it does not lean on a list -/
def noLst : PyData → Bool
  | .list _ => false
  | .dict _ => false
  | .tuple ds => noLstAll ds
  | _ => true
where noLstAll : List PyData → Bool
  | [] => true
  | d :: r => noLst d && noLstAll r
mutual
theorem dp_noLst {p : Addr} {vs0 : List V} (hp : H p = some (.lst vs0)) : ∀ {v : V} {d : PyData}, noLst d = true → DP K (msk O H) v d → DP K (msk (p :: O) H) v d
  | _, _, _, .non => .non
  | _, _, _, .bl b => .bl b
  | _, _, _, .int i => .int i
  | _, _, _, .str x => .str x
  | _, _, h, .lst _ _ => by simp [noLst] at h
  | _, _, h, .dct _ _ => by simp [noLst] at h
  | _, _, h, .tup (a := a) hq hd => by
    refine .tup (xs := _) ?_ (dpa_noLst hp h hd)
    have ne : ∀ u : HO, msk O H a = some u → (∀ xs, u ≠ .lst xs) → msk (p :: O) H a = some u := fun u hu hne => by
      obtain ⟨h1, h2⟩ := msk_some hu
      refine msk_of (fun hm => ?_) h2
      rcases List.mem_cons.mp hm with e | e
      · rw [e, hp] at h2
        exact hne vs0 (Option.some.inj h2).symm
      · exact h1 e
    rcases hq with (h1 | ⟨o, h1⟩) | h1
    · exact .inl (.inl (ne _ h1 (fun xs z => nomatch z)))
    · exact .inl (.inr ⟨o, ne _ h1 (fun xs z => nomatch z)⟩)
    · exact .inr h1
theorem dpa_noLst {p : Addr} {vs0 : List V} (hp : H p = some (.lst vs0)) : ∀ {vs : List V} {ds : List PyData}, noLst.noLstAll ds = true → DPAll K (msk O H) vs ds → DPAll K (msk (p :: O) H) vs ds
  | _, _, _, .nil => .nil
  | _, _, h, .cons a b => by
    have h : (noLst _ && noLst.noLstAll _) = true := h
    rw [Bool.and_eq_true] at h
    exact .cons (dp_noLst hp h.1 a) (dpa_noLst hp h.2 b)
end
/-- the first argument is a name's own list, which the def only reads -/
theorem dw_callB {W : SpW} {i : Nat} {t : TA} {E0 : XK} {ds0 : List PyData} (h0 : ρ[i]? = some (some (.lst ds0)))
    (h : DA K n t ρ fun ds ρ1 => ds.length + 1 = np ∧ ∃ ds1, ρ1[i]? = some (some (.lst ds1)) ∧ W ((.list ds1 :: ds).map Ent.val) fun d _ => noLst d = true ∧ Φ d ρ1) :
    DW K n (tCall (spD K np W) [] E0 (tCons (tVar i) t)) ρ Φ := fun O σ H E Q q => by
  obtain ⟨p, us0, a0, _⟩ := env_lst E h0
  refine ⟨.ref p, a0, ?_⟩
  refine h O σ H E _ fun vs ds ρ1 O1 H1 ⟨hl, ds1, h1, hw⟩ S r => ?_
  obtain ⟨p', us, a, hp, hH, hu⟩ := env_lst S.env h1
  rw [a0] at a; cases a
  have E1 := S.env
  have le1 : Ext (msk O1 H1) (msk (O1.filter fun b => decide (b ≠ p)) H1) := fun b o hb => by
    obtain ⟨nb, hb⟩ := msk_some hb
    exact msk_of (fun z => nb (List.mem_filter.mp z).1) hb
  have npf : p ∉ O1.filter fun b => decide (b ≠ p) := by simp
  have al1 : ∀ b ∈ O1.filter (fun b => decide (b ≠ p)), H1 b ≠ none := fun b hb => E1.al b (List.mem_filter.mp hb).1
  have args : DPAll K (msk (O1.filter fun b => decide (b ≠ p)) H1) (.ref p :: vs) (.list ds1 :: ds) := .cons (.lst (SqL.of (msk_of npf hH)) (dpa_ext le1 hu)) (dpa_ext le1 r)
  show spD K np W (V.ref p :: (vs ++ [])) H1 Q E0
  rw [List.append_nil]
  refine ⟨_, _, _, by simp [dpa_len r]; omega, env_args al1 args, hw, fun v d es' O' H' ⟨hd, k⟩ S' rr => ?_⟩
  have ex : Ext H1 H' := fun b o h => S'.le b o no_own_vals h
  have em : Ext (msk O1 H1) (msk (p :: O') H') := fun b o hb => by
    obtain ⟨nb, hb⟩ := msk_some hb
    refine msk_of (fun hm => ?_) (ex b o hb)
    rcases List.mem_cons.mp hm with e | e
    · exact nb (by rw [e]; exact hp)
    · rcases S'.new b e with z | z
      · exact nb (List.mem_filter.mp z).1
      · rw [z] at hb; cases hb
  have S2 : Stp K n O1 σ ρ1 H1 (p :: O') σ ρ1 H' := by
    refine ⟨fun b hb => ?_, fun b hb => ?_, fun b o _ h => ex b o h, ⟨E1.len, fun j x e g1 g2 => ?_, fun b hb => ?_, E1.dis⟩, fun b h => .inl h, fun j es _ h => ⟨rfl, es, h⟩⟩
    · by_cases e : b = p
      · rw [e]; exact List.mem_cons_self
      · exact List.mem_cons_of_mem _ (S'.sub b (List.mem_filter.mpr ⟨hb, decide_eq_true e⟩))
    · rcases List.mem_cons.mp hb with e | e
      · rw [e]; exact .inl hp
      · rcases S'.new b e with z | z
        · exact .inl (List.mem_filter.mp z).1
        · exact .inr z
    · have w := E1.ok j x e g1 g2
      cases e with
      | val d =>
        cases x with
        | none => exact w.elim
        | some v => exact dp_ext em (show DP K (msk O1 H1) v d from w)
      | lst es =>
        obtain ⟨r2, rfl, hr, ws, hw2, hq⟩ := lst_val w
        refine ⟨?_, ws, ex r2 _ hw2, dpa_ext em hq⟩
        by_cases e : r2 = p
        · rw [e]; exact List.mem_cons_self
        · exact List.mem_cons_of_mem _ (S'.sub r2 (List.mem_filter.mpr ⟨hr, decide_eq_true e⟩))
    · rcases List.mem_cons.mp hb with e | e
      · rw [e, ex p _ hH]; exact fun z => nomatch z
      · exact S'.env.al b e
  exact q v d ρ1 (p :: O') H' k (S.trans E S2) (dp_noLst (ex p _ hH) hd rr)
end
end DL
namespace DL
open PySem L2 PySem.Spec PyProof.Rows
/-! ### operators of several kinds -/
def rAddA (K : PySem.W.Frag) : R2 := fun x y H Q => (rI0 fun i j => .int (i + j)) x y H Q ∨ (rCatS x y H Q ∨ rCatT K x y H Q)
theorem opA_add {X : Cx} : OpR X (binaryOp .Add) (rAddA X.K) := op_add.or (op_catS.or op_catT)
def CDivA (_ j : Int) : Prop := j ≠ 0 ∧ j.natAbs.log2 < 9000
theorem opA_fdiv {X : Cx} : OpR X (binaryOp .FloorDiv) (rI CDivA fun i j => .int (i.fdiv j)) := opI fun _ _ _ _ _ _ _ hc q => floordiv_int hc.1 q (.inl (PyProof.noPylong_of_log2 hc.2))
def rEqA (K : PySem.W.Frag) : R2 := fun x y H Q => rEqD K x y H Q ∨ rEq x y H Q
def rNeA (K : PySem.W.Frag) : R2 := fun x y H Q => rNeD K x y H Q ∨ rNe x y H Q
theorem opA_eq {X : Cx} (hu : X.A.units + 64 < cLine) : OpR X (compareOp .Eq) (rEqA X.K) := (op_eqD hu).or op_eq
theorem opA_ne {X : Cx} (hu : X.A.units + 64 < cLine) : OpR X (compareOp .NotEq) (rNeA X.K) := (op_neD hu).or op_ne
def CMulA (i j : Int) : Prop := CMulW i j ∨ CMul i j
def rMulA (K : PySem.W.Frag) : R2 := rI CMulA fun i j => .int (i * j)
theorem opA_mul {X : Cx} : OpR X (binaryOp .Mult) (rMulA X.K) := opI fun _ _ _ _ _ _ _ hc q => mul_int q (hc.elim CMulW.ok CMul.ok)
section
variable {K : PySem.W.Frag} {n np : Nat} {O O1 : List Addr} {σ : L2.St} {ρ ρ1 : Rho} {H H1 : Hp} {ta tb tc te : TE} {tt tu : TT} {Φ : PD} {F : DE2} {ts us : TS} {Ψ : PyData → Prop} {x y : PyData}
theorem rd_eq (hx : SeqAt.shaped x = true) (hy : SeqAt.shaped y = true) (k : Ψ (.bool (PyData.eqv x y))) : RD (rEqA K) K x y Ψ := fun O H vx vy al h1 h2 Q q => .inl (rd_eq0 hx hy k O H vx vy al h1 h2 Q q)
theorem rd_ne (hx : SeqAt.shaped x = true) (hy : SeqAt.shaped y = true) (k : Ψ (.bool (!PyData.eqv x y))) : RD (rNeA K) K x y Ψ := fun O H vx vy al h1 h2 Q q => .inl (rd_ne0 hx hy k O H vx vy al h1 h2 Q q)
theorem rd_eqT {x y : Str} (k : Ψ (.bool (decide (x = y)))) : RD (rEqA K) K (.str x) (.str y) Ψ := fun O H vx vy al h1 h2 Q q => by
  cases h1; cases h2
  refine .inr ⟨rfl, ?_⟩
  have e : decide (V.str x = V.str y) = decide (x = y) := by rw [Bool.eq_iff_iff]; simp
  rw [e]
  exact q _ _ H k (Ext.refl H) (.bl _)
theorem rd_neT {x y : Str} (k : Ψ (.bool (!decide (x = y)))) : RD (rNeA K) K (.str x) (.str y) Ψ := fun O H vx vy al h1 h2 Q q => by
  cases h1; cases h2
  refine .inr ⟨rfl, ?_⟩
  have e : decide (V.str x = V.str y) = decide (x = y) := by rw [Bool.eq_iff_iff]; simp
  rw [e]
  exact q _ _ H k (Ext.refl H) (.bl _)
theorem rd_addI {i j : Int} (k : Ψ (.int (i + j))) : RD (rAddA K) K (.int i) (.int j) Ψ := fun O H vx vy al hx hy Q q => .inl (rd_i0 (g := fun i j => i + j) k O H vx vy al hx hy Q q)
theorem rd_addS {i j : Str} (hl : i.length + j.length ≤ 100000) (k : Ψ (.str (i ++ j))) : RD (rAddA K) K (.str i) (.str j) Ψ := fun O H vx vy al hx hy Q q => .inr (.inl (rd_catS hl k O H vx vy al hx hy Q q))
theorem rd_mulS {i j : Int} (h : CMul i j) (k : Ψ (.int (i * j))) : RD (rMulA K) K (.int i) (.int j) Ψ := fun O H vx vy al hx hy Q q => rd_i (g := fun i j => i * j) (C := CMulA) (.inr h) k O H vx vy al hx hy Q q
theorem rd_mulI {i j : Int} (h : CMulW i j) (k : Ψ (.int (i * j))) : RD (rMulA K) K (.int i) (.int j) Ψ := fun O H vx vy al hx hy Q q => rd_i (g := fun i j => i * j) (C := CMulA) (.inl h) k O H vx vy al hx hy Q q
end
/-! ### the text's defs -/
section
variable (P : Program) (w : World) (K : PySem.W.Frag) (mg : Str → Option Value) (base : Heap)
/-- a def that stands at the module's name x -/
structure TD (x : Str) (st : Stmt) (ps : List Str) : Type where
  f : Addr
  fd : FuncData
  F : Fun K x x st f fd
  m : mg x = some (.ref f)
  b : Binds K fd ps []
structure Cal (k : Nat) (x : Str) (ps : List Str) (sp : Sp) : Type where
  f : Addr
  fd : FuncData
  m : mg x = some (.ref f)
  kp : PySem.W.keepIn K (.ref f) = true
  b : Binds K fd ps []
  ok : FnOk P w K mg base CX0 k f fd ps sp
end
section
variable {P : Program} {w : World} {K : PySem.W.Frag} {mg : Str → Option Value} {base : Heap}
def TD.cal {x : Str} {st : Stmt} {ps : List Str} {k : Nat} {sp : Sp} (D : TD K mg x st ps) (h : FnOk P w K mg base CX0 k D.f D.fd ps sp) : Cal P w K mg base k x ps sp := ⟨D.f, D.fd, D.m, D.F.kp, D.b, h⟩
end
/-- a ratio as data; an own promise's form for plain arguments -/
abbrev rat (p : Int × Int) : PyData := .tuple [.int p.1, .int p.2]
end DL
namespace DL
open PySem L2 PySem.Spec PyProof.Rows
theorem kit_ii : kitB "int" "int" = some true := by decide +kernel
theorem kit_bi : kitB "bool" "int" = some true := by decide +kernel
theorem kit_ni : kitB "NoneType" "int" = some false := by decide +kernel
theorem kit_si : kitB "str" "int" = some false := by decide +kernel
theorem kit_li : kitB "list" "int" = some false := by decide +kernel
theorem kit_ti : kitB "tuple" "int" = some false := by decide +kernel
theorem kit_ib : kitB "int" "bool" = some false := by decide +kernel
theorem kit_bb : kitB "bool" "bool" = some true := by decide +kernel
theorem kit_nb : kitB "NoneType" "bool" = some false := by decide +kernel
theorem kit_sb : kitB "str" "bool" = some false := by decide +kernel
theorem kit_lb : kitB "list" "bool" = some false := by decide +kernel
theorem kit_tb : kitB "tuple" "bool" = some false := by decide +kernel
theorem kit_it : kitB "int" "tuple" = some false := by decide +kernel
theorem kit_bt : kitB "bool" "tuple" = some false := by decide +kernel
theorem kit_nt : kitB "NoneType" "tuple" = some false := by decide +kernel
theorem kit_st : kitB "str" "tuple" = some false := by decide +kernel
theorem kit_lt : kitB "list" "tuple" = some false := by decide +kernel
theorem kit_tt : kitB "tuple" "tuple" = some true := by decide +kernel
def isIntD : PyData → Bool
  | .int _ => true
  | _ => false
def isBoolD : PyData → Bool
  | .bool _ => true
  | _ => false
def isTupD : PyData → Bool
  | .tuple _ => true
  | _ => false
/-- plain: no dict at its top -/
def Pl (d : PyData) : Prop := match d with
  | .dict _ => False
  | _ => True
theorem isT_int {d : PyData} (h : Pl d) : isT "int" d = some (isIntD d || isBoolD d) := by
  cases d with
  | dict x => exact h.elim
  | int i => exact kit_ii
  | bool i => exact kit_bi
  | none => exact kit_ni
  | str i => exact kit_si
  | list i => exact kit_li
  | tuple i => exact kit_ti
theorem isT_bool {d : PyData} (h : Pl d) : isT "bool" d = some (isBoolD d) := by
  cases d with
  | dict x => exact h.elim
  | int i => exact kit_ib
  | bool i => exact kit_bb
  | none => exact kit_nb
  | str i => exact kit_sb
  | list i => exact kit_lb
  | tuple i => exact kit_tb
theorem isT_tuple {d : PyData} (h : Pl d) : isT "tuple" d = some (isTupD d) := by
  cases d with
  | dict x => exact h.elim
  | int i => exact kit_it
  | bool i => exact kit_bt
  | none => exact kit_nt
  | str i => exact kit_st
  | list i => exact kit_lt
  | tuple i => exact kit_tt
end DL
namespace DL
open PySem L2 PySem.Spec PyProof.Rows
section
variable {K : PySem.W.Frag} {n : Nat} {ρ : Rho} {te : TE} {tt : TT} {Φ : PD} {F : DE2} {ts us : TS}
theorem dt_bool {Ψ : Bool → Rho → Prop} (b0 : Bool) (h : DT K n tt ρ fun b ρ' => b = b0 ∧ ρ' = ρ) (k : Ψ b0 ρ) : DT K n tt ρ Ψ := fun O σ H E Q q =>
  h O σ H E Q fun b ρ' O' H' ⟨e1, e2⟩ S => by subst e1; subst e2; exact q _ _ O' H' k S
theorem dw_val {d0 : PyData} (h : DW K n te ρ fun d ρ' => d = d0 ∧ ρ' = ρ) (k : Φ d0 ρ) : DW K n te ρ Φ := fun O σ H E Q q =>
  h O σ H E Q fun v d ρ' O' H' ⟨e1, e2⟩ S r => by subst e1; subst e2; exact q _ _ _ O' H' k S r
theorem ds_cut (M : Rho → Prop) (h : DSx K n ts ρ { F with nx := M }) (k : ∀ ρ', M ρ' → F.nx ρ') : DSx K n ts ρ F := fun O σ H E D h1 h2 h3 h4 h5 =>
  h O σ H E D (fun O' σ' ρ' H' m S => h1 O' σ' ρ' H' (k ρ' m) S) h2 h3 h4 h5
end
end DL
namespace DL
open PySem L2 PySem.Spec PyProof.Rows
section
variable {K : PySem.W.Frag} {n : Nat} {ρ : Rho} {Φ : PD}
theorem dw_lst {t : TA} (h : DA K n t ρ fun xs ρ1 => xs.length ≤ 100000 ∧ Φ (.list xs) ρ1) : DW K n (tLst t) ρ Φ := dw_fresh (df_lst h)
end
theorem noLst_val {ρ : Rho} {i : Nat} {d : PyData} (h : ρ[i]? = some (some (.val d))) : NoLst ρ i := fun ds z => by rw [h] at z; cases z
theorem noLst_none {ρ : Rho} {i : Nat} (h : ρ[i]? = some none) : NoLst ρ i := fun ds z => by rw [h] at z; cases z
end DL
namespace DL
open PySem L2 PySem.Spec PyProof.Rows
section
variable {K : PySem.W.Frag} {n : Nat} {ρ : Rho} {te : TE} {Φ : PD} {Ψ : PyData → Prop} {x : PyData}
theorem dw_mid (M : PyData → Prop) (h : DW K n te ρ fun d ρ' => M d ∧ ρ' = ρ) (k : ∀ d, M d → Φ d ρ) : DW K n te ρ Φ := fun O σ H E Q q =>
  h O σ H E Q fun v d ρ' O' H' ⟨m, e⟩ S r => by subst e; exact q v d _ O' H' (k d m) S r
theorem rd_neS (hx : SeqAt.shaped x = true) (he : PyData.eqv x x = true) (k : Ψ (.bool false)) : RD (rNeA K) K x x Ψ := rd_ne hx hx (by rw [he]; exact k)
theorem rd_eqS (hx : SeqAt.shaped x = true) (he : PyData.eqv x x = true) (k : Ψ (.bool true)) : RD (rEqA K) K x x Ψ := rd_eq hx hx (by rw [he]; exact k)
theorem eqv_rat (p : Int × Int) : PyData.eqv (rat p) (rat p) = true := by
  show (p.1 == p.1 && (p.2 == p.2 && true)) = true
  simp
end
end DL
namespace DL
open PySem L2 PySem.Spec PyProof.Rows
/-! ### sum of a tuple -/
def iv : Value → Int
  | .int n _ => n
  | _ => 0
theorem ints_get : ∀ {its : List Value} {ns : List Int} {i : Nat} {v : Value}, IntsAre its ns → its[i]? = some v → ∃ t, v = .int (ns.getD i 0) t
  | _, _, i, v, .nil, h => by simp at h
  | _, _, 0, v, .cons n t r, h => by simp at h; exact ⟨t, by rw [← h]; rfl⟩
  | _, _, i + 1, v, .cons n t r, h => by
    obtain ⟨t', e⟩ := ints_get (i := i) r (by simpa using h)
    exact ⟨t', by rw [e]; rfl⟩
theorem ints_len : ∀ {its : List Value} {ns : List Int}, IntsAre its ns → its.length = ns.length
  | _, _, .nil => rfl
  | _, _, .cons _ _ r => congrArg (· + 1) (ints_len r)
theorem take_succ_sum (ns : List Int) (i : Nat) (h : i < ns.length) : (ns.take (i + 1)).sum = (ns.take i).sum + ns.getD i 0 := by
  induction ns generalizing i with
  | nil => simp at h
  | cons x r ih =>
    cases i with
    | zero => simp
    | succ j => simp only [List.take_succ_cons, List.sum_cons]; rw [ih j (by simpa using h)]; simp [Int.add_assoc]
theorem preSum_take (ns : List Int) : ∀ m, m ≤ ns.length → preSum (fun i => ns.getD i 0) m = (ns.take m).sum
  | 0, _ => rfl
  | m + 1, h => by
    rw [take_succ_sum ns m (by omega), ← preSum_take ns m (by omega)]
    rfl
theorem sumT_raw {prog : Program} {w : World} {A : Around} {E : Value → Shared → Prop} {s : Shared} {t : Addr} {its : List Value} {ns : List Int} {Q : Value → Shared → Prop}
    (hh : A.handled = none) (ht : t < s.heap.objs.size) (hl : IsTup s.heap t its.toArray) (hi : IntsAre its ns)
    (h : ∀ h' tk t', (∀ b o, s.heap.get? b = some o → h'.get? b = some o) → Q (.int ns.sum t') { s with heap := h', toks := tk }) :
    wpAny (model prog w) A (call (.builtin "sum") [.ref t]) Q E s := by
  refine call_sum_walkG (wpAny_pyIter_tuple hl ?_)
  have ne : t ≠ s.heap.objs.size := Nat.ne_of_lt ht
  refine ⟨_, [s.heap.objs.size, t], [s.heap.objs.size], its.toArray.size, _, _, fun i => ns.getD i 0, rfl, Walks.tuple (A := A.in1) hh s.heap.objs.size t ne its.toArray, ?_, ?_, ?_, ?_⟩
  · refine ⟨⟨⟨.type "tuple_iterator", none, .fields #[.ref t, .int 0 0], #[]⟩, by simp [Heap.push, Heap.get?], rfl, rfl⟩, ?_⟩
    obtain ⟨o, h1, h2⟩ := hl
    exact ⟨o, Heap.get?_push_of_some _ h1, h2⟩
  · intro b hb
    show b < (s.heap.objs.push _).size
    rw [Array.size_push]
    have hb : b = s.heap.objs.size ∨ b = t := by simpa using hb
    rcases hb with hb | hb
    · rw [hb]; exact Nat.lt_succ_self _
    · rw [hb]; exact Nat.lt_succ_of_lt ht
  · intro i v hv
    exact ints_get hi (by simpa using hv)
  · intro h' tk t' hk
    have e : preSum (fun i => ns.getD i 0) its.toArray.size = ns.sum := by
      have hs : its.toArray.size = ns.length := by simpa using ints_len hi
      rw [hs, preSum_take ns ns.length (Nat.le_refl _), List.take_length]
    rw [e]
    refine h h' tk t' fun b o q => hk b o ?_ (Heap.get?_push_of_some _ q)
    intro hb
    simp at hb
    subst hb
    unfold Heap.get? at q
    simp at q

def rSumT (K : PySem.W.Frag) : List V → Hp → VK → Prop := fun vs H Q => ∃ (a : Addr) (ns : List Int), vs = [V.ref a] ∧ SqT K H a (ns.map V.int) ∧ Q (.int ns.sum) H
theorem cr_sumT {X : Cx} (hc : X.calm = true) : CallR X (.builtin "sum") (rSumT X.K) := by
  intro pins s σ H vs us Q I r h
  obtain ⟨a, ns, rfl, hs, q⟩ := h
  obtain ⟨its, rv, hl, _⟩ := I.tuple hs
  rw [Vals.ref1 r]
  have ht : a < s.heap.objs.size := by
    obtain ⟨o, h1, _⟩ := hl
    unfold Heap.get? at h1
    refine Nat.lt_of_not_le fun hle => ?_
    have e : s.heap.objs[a]? = none := by simp; omega
    rw [e] at h1
    cases h1
  exact sumT_raw (I.ok.hd hc) ht hl (Vals.ints rv) fun h' tk t' hk => ⟨.int ns.sum, H, I.kept hk, ⟨t', rfl⟩, q⟩
def rReprB : List V → Hp → VK → Prop := fun vs H Q => ∃ b : Bool, vs = [.bl b] ∧ Q (.str (if b = true then Str.ofString "True" else Str.ofString "False")) H
theorem cr_reprB {X : Cx} : CallR X (.builtin "repr") rReprB := by
  intro pins s σ H vs us Q I r h
  obtain ⟨b, rfl, q⟩ := h
  obtain ⟨u, rfl, hu⟩ : ∃ u, us = [u] ∧ RelV (.bl b) u := by
    cases r with
    | cons a t => cases t; exact ⟨_, rfl, a⟩
  cases hu
  exact PySem.P.repr_of_bool ⟨.str _, H, I.tok _, ⟨_, rfl⟩, q⟩
/-! ### the sign times -/
def rMulS : R2 := fun x y H Q => ∃ (z : Str) (k : Int), x = .str z ∧ y = .int k ∧ MulOk z k ∧ Q (.str (Txt.mul z k)) H
theorem op_mulS {X : Cx} : OpR X (binaryOp .Mult) rMulS := by
  intro pins s σ H x y v u Q I rx ry h
  obtain ⟨z, k, rfl, rfl, hm, q⟩ := h
  obtain ⟨t, rfl⟩ := rx
  obtain ⟨t2, rfl⟩ := ry
  exact SB.mul hm fun t' n => ⟨.str _, H, I.tok _, ⟨_, rfl⟩, q⟩
theorem tuple_mul1 (l : Addr) (items : Array Value) (n : Nat) (dd : Option Addr) (sl : Array (Option Value)) (u : Tok) :
    Meets (Builtin.«tuple.__mul__» { pos := [Value.ref l, Value.int 1 u] }) fun x_1 R s =>
      s.heap.get? l = some { cls := Value.type "tuple", dict := dd, data := Data.seq items n, slots := sl } ∧ R (Except.ok (Flow.ret (Value.ref l))) s := by
  refine Meets.of_wp fun prog w A R s h => ?_
  obtain ⟨hl, h⟩ := h
  rw [PySem.W.Fast.te6985627851742102835]
  unfold PySem.W.Fast.tw6985627851742102835 W.Fast.tw8355640936598543841
  refine wpAny_ite_false rfl ?_
  dsimp only
  rw [← W.Fast.te12456147031677567982, ← W.Fast.te17445541508966151043, ← W.Fast.te16091673788111015977, ← W.Fast.te11824705621568448454, ← W.Fast.te6905046200447255374, ← W.Fast.te7107480769894948158]
  cases s with
  | mk hp g d tk os =>
  refine wpAny_bind ?_
  unfold asIndex
  refine wpAny_bind ?_
  refine wpAny_pure ?_
  refine wpAny_pure ?_
  refine wpAny_ite_false rfl ?_
  refine wpAny_bind ?_
  unfold Builtin.Tuple.tupleItemsOf
  refine wpAny_bind ?_
  unfold seqItems?
  refine wpAny_bind ?_
  refine wpAny_load' hl ?_
  refine wpAny_pure ?_
  refine wpAny_pure ?_
  refine wpAny_ite_true (by simp) ?_
  refine wpAny_bind ?_
  unfold Builtin.Tuple.tupleIsExact
  refine wpAny_bind ?_
  unfold typeOf
  refine wpAny_bind ?_
  refine wpAny_load' hl ?_
  refine wpAny_pure ?_
  refine wpAny_pure ?_
  refine wpAny_ite_true (by rfl) ?_
  refine wpAny_bind ?_
  refine wpAny_rule ?_
  unfold ret
  exact wpAny_pure ⟨_, rfl, h⟩
theorem tuple_mul0 (l : Addr) (items : Array Value) (n : Nat) (dd : Option Addr) (sl : Array (Option Value)) (u : Tok) (hn : items.isEmpty = false) :
    Meets (Builtin.«tuple.__mul__» { pos := [Value.ref l, Value.int 0 u] }) fun x_1 R s =>
      s.heap.get? l = some { cls := Value.type "tuple", dict := dd, data := Data.seq items n, slots := sl } ∧
        R (Except.ok (Flow.ret (Value.ref s.heap.objs.size))) { heap := s.heap.push { cls := Value.type "tuple", data := Data.seq #[] }, gens := s.gens, drawn := s.drawn, toks := s.toks, os := s.os } := by
  refine Meets.of_wp fun prog w A R s h => ?_
  obtain ⟨hl, h⟩ := h
  rw [PySem.W.Fast.te6985627851742102835]
  unfold PySem.W.Fast.tw6985627851742102835 W.Fast.tw8355640936598543841
  refine wpAny_ite_false rfl ?_
  dsimp only
  rw [← W.Fast.te12456147031677567982, ← W.Fast.te17445541508966151043, ← W.Fast.te16091673788111015977, ← W.Fast.te11824705621568448454, ← W.Fast.te6905046200447255374, ← W.Fast.te7107480769894948158]
  cases s with
  | mk hp g d tk os =>
  refine wpAny_bind ?_
  unfold asIndex
  refine wpAny_bind ?_
  refine wpAny_pure ?_
  refine wpAny_pure ?_
  refine wpAny_ite_false rfl ?_
  refine wpAny_bind ?_
  unfold Builtin.Tuple.tupleItemsOf
  refine wpAny_bind ?_
  unfold seqItems?
  refine wpAny_bind ?_
  refine wpAny_load' hl ?_
  refine wpAny_pure ?_
  refine wpAny_pure ?_
  refine wpAny_ite_false (by rw [hn]; rfl) ?_
  refine wpAny_ite_true (by simp) ?_
  refine wpAny_bind ?_
  unfold Builtin.Tuple.tupleExact newObj
  refine wpAny_bind ?_
  refine wpAny_alloc' ?_
  refine wpAny_pure ?_
  unfold ret
  exact wpAny_pure ⟨_, rfl, h⟩
theorem op_repT01 {X : Cx} : OpR X (binaryOp .Mult) (fun x y H Q => ∃ l xs, x = .ref l ∧ SqT X.K H l xs ∧ xs ≠ [] ∧ ((y = .int 1 ∧ Q (.ref l) H) ∨ (y = .int 0 ∧ ∀ p, H p = none → Q (.ref p) (upd H p (.tup []))))) := by
  intro pins s σ H x y v u Q I rx ry h
  obtain ⟨l, xs, rfl, hT, hne, h⟩ := h
  cases rx
  obtain ⟨its, r, ⟨w, hw⟩, hs⟩ := I.tuple hT
  obtain ⟨cls, dd, data, sl⟩ := w
  obtain ⟨ho, hc, n, hd⟩ := hw
  cases hc
  cases hd
  have hi : its.toArray.isEmpty = false := by
    cases its with
    | nil => exact absurd (List.eq_nil_of_length_eq_zero (Vals.length r)) hne
    | cons a b => rfl
  rcases h with ⟨rfl, q⟩ | ⟨rfl, q⟩
  · obtain ⟨t, rfl⟩ := ry
    exact wpAny_binaryOp_repeat_ref (of_decide_eq_true rfl) ⟨_, ho, rfl⟩ (fun s' => typeIs_int s' 1 t) noFill_tuple_mul PySem.F.fills_int_mul PySem.F.slot_int_rmul repeat_tuple PySem.F.slot_int_index.lookup
      (call_meets PySem.F.slot_int_rmul (typeIs_int s 1 t) PySem.F.entry_int_rmul (PySem.F.args_int_rmul_2 (.int 1 t) (.ref l)) (int_rmul_tuple 1 t l its.toArray n dd sl) ⟨ho, rfl, ⟨_, ho, rfl⟩,
        call_meets PySem.F.slot_tuple_mul ⟨_, ho, rfl⟩ PySem.F.entry_tuple_mul (PySem.F.args_tuple_mul_2 (.ref l) (.int 1 t)) (tuple_mul1 l its.toArray n dd sl t) ⟨ho, .ref l, H, I, rfl, q⟩⟩)
  · obtain ⟨t, rfl⟩ := ry
    exact wpAny_binaryOp_repeat_ref (of_decide_eq_true rfl) ⟨_, ho, rfl⟩ (fun s' => typeIs_int s' 0 t) noFill_tuple_mul PySem.F.fills_int_mul PySem.F.slot_int_rmul repeat_tuple PySem.F.slot_int_index.lookup
      (call_meets PySem.F.slot_int_rmul (typeIs_int s 0 t) PySem.F.entry_int_rmul (PySem.F.args_int_rmul_2 (.int 0 t) (.ref l)) (int_rmul_tuple 0 t l its.toArray n dd sl) ⟨ho, rfl, ⟨_, ho, rfl⟩,
        call_meets PySem.F.slot_tuple_mul ⟨_, ho, rfl⟩ PySem.F.entry_tuple_mul (PySem.F.args_tuple_mul_2 (.ref l) (.int 0 t)) (tuple_mul0 l its.toArray n dd sl t hi) ⟨ho, .ref s.heap.objs.size, upd H s.heap.objs.size (.tup []),
          I.laid (fun b ob q => Heap.get?_push_of_some _ q) (Nat.le_refl _) ⟨Nat.zero_le _, [], .nil, PyProof.Rows.IsTup.new s.heap _⟩, rfl, q _ (HOk.fresh I.hok (Nat.le_refl _))⟩⟩)

def rRep01 (K : PySem.W.Frag) : R2 := fun x y H Q => ∃ l xs, x = .ref l ∧ SqT K H l xs ∧ xs ≠ [] ∧ ((y = .int 1 ∧ Q (.ref l) H) ∨ (y = .int 0 ∧ ∀ p, H p = none → Q (.ref p) (upd H p (.tup []))))
def rMulB (K : PySem.W.Frag) : R2 := fun x y H Q => rMulA K x y H Q ∨ (rMulS x y H Q ∨ (rRepT K x y H Q ∨ rRep01 K x y H Q))
theorem opB_mul {X : Cx} : OpR X (binaryOp .Mult) (rMulB X.K) := (opA_mul (X := X)).or (op_mulS.or (op_repT.or op_repT01))
def rAddB (K : PySem.W.Frag) : R2 := fun x y H Q => (rI0 fun i j => .int (i + j)) x y H Q ∨ (rCatS x y H Q ∨ rCatA K x y H Q)
theorem opB_add {X : Cx} : OpR X (binaryOp .Add) (rAddB X.K) := op_add.or (op_catS.or op_catA)
section
variable {K : PySem.W.Frag} {n np : Nat} {O O1 : List Addr} {σ : L2.St} {ρ ρ1 : Rho} {H H1 : Hp} {ta tb tc te : TE} {tt tu : TT} {Φ : PD} {F : DE2} {ts us : TS} {Ψ : PyData → Prop} {x y : PyData}
theorem rd_addBI {i j : Int} (k : Ψ (.int (i + j))) : RD (rAddB K) K (.int i) (.int j) Ψ := fun O H vx vy al hx hy Q q => .inl (rd_i0 (g := fun i j => i + j) k O H vx vy al hx hy Q q)
theorem rd_addBS {i j : Str} (hl : i.length + j.length ≤ 100000) (k : Ψ (.str (i ++ j))) : RD (rAddB K) K (.str i) (.str j) Ψ := fun O H vx vy al hx hy Q q => .inr (.inl (rd_catS hl k O H vx vy al hx hy Q q))
theorem al_new {O : List Addr} {H : Hp} {p : Addr} (al : ∀ b ∈ O, H b ≠ none) (hp : H p = none) : p ∉ O := fun h => al p h hp
theorem dp_newT {O : List Addr} {H : Hp} {p : Addr} {vs : List V} {ds : List PyData} (al : ∀ b ∈ O, H b ≠ none) (hp : H p = none) (h : DPAll K (msk O H) vs ds) : DP K (msk O (upd H p (.tup vs))) (.ref p) (.tuple ds) :=
  .tup (.inl (.inl (msk_of (al_new al hp) upd_same))) (dpa_ext (msk_ext (Ext.new hp)) h)
theorem dp_newL {O : List Addr} {H : Hp} {p : Addr} {vs : List V} {ds : List PyData} (al : ∀ b ∈ O, H b ≠ none) (hp : H p = none) (h : DPAll K (msk O H) vs ds) : DP K (msk O (upd H p (.lst vs))) (.ref p) (.list ds) :=
  .lst (.inl (.inl (msk_of (al_new al hp) upd_same))) (dpa_ext (msk_ext (Ext.new hp)) h)
theorem dpa_nilD {vs : List V} (h : DPAll K H vs []) : vs = [] := by cases h; rfl
theorem rd_addBT {xs ys : List PyData} (hl : xs.length + ys.length ≤ 100000) (k : Ψ (.tuple (xs ++ ys))) : RD (rAddB K) K (.tuple xs) (.tuple ys) Ψ := fun O H vx vy al hx hy Q q => by
  cases hx with
  | tup h1 d1 =>
  cases hy with
  | tup h2 d2 =>
  rename_i a us b ws
  have e1 := dpa_len d1
  have e2 := dpa_len d2
  refine .inr (.inr ⟨a, b, us, ws, rfl, rfl, msk_t h1, msk_t h2, Nat.le_trans (by omega) (show 100000 ≤ sizeLine by decide), fun z => ?_, fun z1 z2 => ?_, fun z1 z2 p hp => ?_⟩)
  · subst z
    have : xs = [] := List.eq_nil_of_length_eq_zero (by rw [← e1]; rfl)
    subst this
    exact q _ _ H k (Ext.refl H) (.tup h2 d2)
  · subst z2
    have : ys = [] := List.eq_nil_of_length_eq_zero (by rw [← e2]; rfl)
    subst this
    rw [List.append_nil] at k
    exact q _ _ H k (Ext.refl H) (.tup h1 d1)
  · exact q _ _ _ k (Ext.new hp) (dp_newT al hp (dpa_append d1 d2))
theorem dpa_rep {vs : List V} {ds : List PyData} (h : DPAll K H vs ds) : ∀ k : Nat, DPAll K H (List.replicate k vs).flatten (List.replicate k ds).flatten
  | 0 => .nil
  | k + 1 => by
    simp only [List.replicate_succ, List.flatten_cons]
    exact dpa_append h (dpa_rep h k)
theorem rd_mulBC {i j : Int} (h : CMulA i j) (k : Ψ (.int (i * j))) : RD (rMulB K) K (.int i) (.int j) Ψ := fun O H vx vy al hx hy Q q => .inl (rd_i (g := fun i j => i * j) (C := CMulA) h k O H vx vy al hx hy Q q)
theorem rd_mulBS {z : Str} {j : Int} (h : MulOk z j) (k : Ψ (.str (PySem.Txt.mul z j))) : RD (rMulB K) K (.str z) (.int j) Ψ := fun O H vx vy al hx hy Q q => by
  cases hx; cases hy
  exact .inr (.inl ⟨z, j, rfl, rfl, h, q _ _ H k (Ext.refl H) (.str _)⟩)
theorem rd_mulBT {xs : List PyData} {m : Nat} (hx : xs ≠ []) (hl : xs.length ≤ 1000) (hm : m ≤ 1000) (k : Ψ (.tuple (List.replicate m xs).flatten)) : RD (rMulB K) K (.tuple xs) (.int m) Ψ := fun O H vx vy al h1 h2 Q q => by
  cases h2
  cases h1 with
  | tup h1 d1 =>
  rename_i a us
  have e1 := dpa_len d1
  have hn : us ≠ [] := fun z => by subst z; exact hx (List.eq_nil_of_length_eq_zero e1.symm)
  match m, hm, k with
  | 0, _, k => exact .inr (.inr (.inr ⟨a, us, rfl, msk_t h1, hn, .inr ⟨rfl, fun p hp => q _ _ _ k (Ext.new hp) (dp_newT al hp .nil)⟩⟩))
  | 1, _, k =>
    have e : (List.replicate 1 xs).flatten = xs := by simp
    rw [e] at k
    exact .inr (.inr (.inr ⟨a, us, rfl, msk_t h1, hn, .inl ⟨rfl, q _ _ H k (Ext.refl H) (.tup h1 d1)⟩⟩))
  | m + 2, hm, k =>
    exact .inr (.inr (.inl ⟨a, _, us, rfl, rfl, msk_t h1, hn, by omega, by omega, by omega, fun p hp => q _ _ _ k (Ext.new hp) (dp_newT al hp (dpa_rep d1 _))⟩))
/-! ### built-ins -/
theorem dpa_bools {H : Hp} : ∀ {bs : List Bool} {vs : List V}, DPAll K H vs (bs.map .bool) → vs = bs.map V.bl
  | [], _, h => dpa_nilD h
  | b :: r, _, h => by
    cases h with
    | cons a t => cases a; rw [dpa_bools t]; rfl
theorem dpa_intsB {H : Hp} : ∀ {bs : List Int} {vs : List V}, DPAll K H vs (bs.map .int) → vs = bs.map V.int
  | [], _, h => dpa_nilD h
  | b :: r, _, h => by
    cases h with
    | cons a t => cases a; rw [dpa_intsB t]; rfl
theorem dpa_strsB {H : Hp} : ∀ {bs : List Str} {vs : List V}, DPAll K H vs (bs.map .str) → vs = bs.map V.str
  | [], _, h => dpa_nilD h
  | b :: r, _, h => by
    cases h with
    | cons a t => cases a; rw [dpa_strsB t]; rfl
theorem rc_all {bs : List Bool} (k : Ψ (.bool (bs.all id))) : RC (rAll K) K [.list (bs.map .bool)] Ψ := fun O H vs al h Q q => by
  cases h with
  | cons h r =>
    cases r
    cases h with
    | lst hq hd =>
      have e := dpa_bools hd
      subst e
      exact ⟨_, bs, rfl, msk_l hq, q _ _ H k (Ext.refl H) (.bl _)⟩
theorem rc_sumT {ns : List Int} (k : Ψ (.int ns.sum)) : RC (rSumT K) K [.tuple (ns.map .int)] Ψ := fun O H vs al h Q q => by
  cases h with
  | cons h r =>
    cases r
    cases h with
    | tup hq hd =>
      have e := dpa_intsB hd
      subst e
      exact ⟨_, ns, rfl, msk_t hq, q _ _ H k (Ext.refl H) (.int _)⟩
theorem rc_reprB {b : Bool} (k : Ψ (.str (if b = true then Str.ofString "True" else Str.ofString "False"))) : RC rReprB K [.bool b] Ψ := fun O H vs al h Q q => by
  cases h with
  | cons h r => cases r; cases h; exact ⟨b, rfl, q _ _ H k (Ext.refl H) (.str _)⟩
def rTupOf (K : PySem.W.Frag) : List V → Hp → VK → Prop := fun xs H Q => ∃ p ys, xs = [.ref p] ∧ ((SqL K H p ys ∧ ∀ l, H l = none → Q (.ref l) (upd H l (.tup ys))) ∨ (SqT K H p ys ∧ Q (.ref p) H))
theorem cr_tupOf {X : Cx} : CallR X (.type "tuple") (rTupOf X.K) := call_tuple_of
theorem rc_tupL {ds : List PyData} (k : Ψ (.tuple ds)) : RC (rTupOf K) K [.list ds] Ψ := fun O H vs al h Q q => by
  cases h with
  | cons h r =>
    cases r
    cases h with
    | lst hq hd => exact ⟨_, _, rfl, .inl ⟨msk_l hq, fun l hl => q _ _ _ k (Ext.new hl) (dp_newT al hl hd)⟩⟩
def rLstOf (K : PySem.W.Frag) : List V → Hp → VK → Prop := fun xs H Q => ∃ p ys, xs = [.ref p] ∧ (SqL K H p ys ∨ SqT K H p ys) ∧ ∀ l, H l = none → Q (.ref l) (upd H l (.lst ys))
theorem cr_lstOf {X : Cx} : CallR X (.type "list") (rLstOf X.K) := call_list_of
theorem rc_lstT {ds : List PyData} (k : Ψ (.list ds)) : RC (rLstOf K) K [.tuple ds] Ψ := fun O H vs al h Q q => by
  cases h with
  | cons h r =>
    cases r
    cases h with
    | tup hq hd => exact ⟨_, _, rfl, .inr (msk_t hq), fun l hl => q _ _ _ k (Ext.new hl) (dp_newL al hl hd)⟩
/-- tuple(name) of a list of its own -/
theorem dw_tupO {i : Nat} {ds : List PyData} (h0 : ρ[i]? = some (some (.lst ds))) (k : Φ (.tuple ds) ρ) : DW K n (tCB (rTupOf K) (tCons (tVar i) tNil)) ρ Φ := fun O σ H E Q q => by
  obtain ⟨p, vs, a, b, c, d⟩ := env_lst E h0
  refine ⟨.ref p, a, p, vs, rfl, .inl ⟨SqL.of c, fun l hl => ?_⟩⟩
  exact q _ _ ρ O _ k (Stp.grow E (Ext.new hl)) (dp_newT E.al hl d)
/-- is -/
def rIsBl : R2 := fun x y H Q => ∃ a b, x = .bl a ∧ y = .bl b ∧ Q (.bl (decide (a = b))) H
theorem op_isB {X : Cx} : OpR X (compareOp .Is) rIsBl := op_is_bl
theorem rd_isB {a b : Bool} (k : Ψ (.bool (decide (a = b)))) : RD rIsBl K (.bool a) (.bool b) Ψ := fun O H vx vy al hx hy Q q => by
  cases hx; cases hy
  exact ⟨a, b, rfl, rfl, q _ _ H k (Ext.refl H) (.bl _)⟩
/-- a text in a dict of the text's own -/
def rInK (K : PySem.W.Frag) (d : Addr) : R2 := fun x y H Q => ∃ (z : Str) (r : Option Value), x = .str z ∧ y = .ref d ∧ PySem.W.nsIn K d z = some r ∧ Q (.bl r.isSome) H
theorem op_inK {X : Cx} {d : Addr} {es : Array DictEntry} {m : Nat} (D : KDict X.K X.w d es m) : OpR X (compareOp .In) (rInK X.K d) := op_in_kd D
theorem dw_inK {d : Addr} (h : DW K n ta ρ fun x ρ1 => ∃ z r, x = .str z ∧ PySem.W.nsIn K d z = some r ∧ Φ (.bool r.isSome) ρ1) : DW K n (tOp (rInK K d) ta (tC (.ref d))) ρ Φ := fun O σ H E Q q =>
  h O σ H E _ fun v x ρ1 O1 H1 ⟨z, r, e, h1, k⟩ S r1 => by
    subst e
    cases r1
    exact ⟨z, r, rfl, rfl, h1, q _ _ ρ1 O1 H1 k S (.bl _)⟩
/-! ### texts -/
def lets (z : Str) : List PyData := z.cps.toList.map fun c => .str ⟨#[c]⟩
theorem src_str {z : Str} {O : List Addr} {H : Hp} : Src K (Its z) O H (lets z) := by
  have hl : (lets z).length = z.cps.size := by simp [lets]
  refine ⟨fun O' H' i e hi => ?_, fun O' H' i e hi => ?_, fun O' H' i x H'' d e al y hx => ?_⟩
  · show i < z.cps.size
    omega
  · show z.cps.size ≤ i
    omega
  · obtain ⟨rfl, c, hc, rfl⟩ := y
    have : d = .str ⟨#[c]⟩ := by
      unfold lets at hx
      rw [List.getElem?_map] at hx
      have hc' : z.cps.toList[i]? = some c := by simpa using hc
      rw [hc'] at hx
      simpa using hx.symm
    subst this
    exact ⟨Ext.refl _, .str _⟩
theorem di_str {Ψ : PF} (h : DW K n te ρ fun d ρ1 => ∃ z, d = .str z ∧ Ψ (lets z) ρ1) : DI K n (iStr te) ρ Ψ := fun O σ H E R q =>
  h O σ H E _ fun v d ρ1 O1 H1 ⟨z, e, k⟩ S r => by
    subst e
    exact ⟨z, dp_str r, q _ _ ρ1 O1 H1 k S src_str⟩
def R1 (r : V → List V → Hp → VK → Prop) : R2 := fun x y H Q => r x [y] H Q
theorem dw_m1 {r : V → List V → Hp → VK → Prop} (h : DW K n ta ρ fun x ρ1 => ∃ a, x = .str a ∧ DW K n tb ρ1 fun y ρ2 => RD (R1 r) K x y fun z => Φ z ρ2) : DW K n (tM1 r ta tb) ρ Φ := fun O σ H E Q q =>
  h O σ H E _ fun v x ρ1 O1 H1 ⟨a, e, hb⟩ S1 r1 => by
    subst e
    exact ⟨⟨a, dp_str r1⟩, hb O1 σ H1 S1.env _ fun u y ρ2 O2 H2 hr S2 r2 => hr O2 H2 v u S2.env.al (S2.dp S1.env r1) r2 Q fun w z H3 hz e r3 =>
      q w z ρ2 O2 H3 hz ((S1.trans E S2).trans E (Stp.grow S2.env e)) r3⟩
def rJoin (K : PySem.W.Frag) : V → List V → Hp → VK → Prop := fun x xs H Q => ∃ a p, ∃ ys : List Str, x = .str a ∧ xs = [.ref p] ∧ (SqL K H p (ys.map V.str) ∨ SqT K H p (ys.map V.str)) ∧ (ys.map (·.length)).sum + ys.length * a.length ≤ 16777216 ∧ Q (.str (Txt.join a ys)) H
theorem rd_join {a : Str} {ys : List Str} (hl : (ys.map (·.length)).sum + ys.length * a.length ≤ 16777216) (k : Ψ (.str (Txt.join a ys))) : RD (R1 (rJoin K)) K (.str a) (.list (ys.map .str)) Ψ := fun O H vx vy al hx hy Q q => by
  cases hx
  cases hy with
  | lst hq hd =>
    have e := dpa_strsB hd
    subst e
    exact ⟨a, _, ys, rfl, rfl, .inl (msk_l hq), hl, q _ _ H k (Ext.refl H) (.str _)⟩
def rSplit : V → List V → Hp → VK → Prop := fun x xs H Q => ∃ a b, x = .str a ∧ xs = [.str b] ∧ (b.length == 0) = false ∧ a.length + 2 ≤ sizeLine ∧ rNewStrs (Txt.split a b) H Q
theorem dpa_strs {H : Hp} : ∀ (ys : List Str), DPAll K H (ys.map V.str) (ys.map .str)
  | [] => .nil
  | y :: r => .cons (.str y) (dpa_strs r)
theorem rd_split {a b : Str} (hb : (b.length == 0) = false) (ha : a.length ≤ 100000) (k : Ψ (.list ((Txt.split a b).map .str))) : RD (R1 rSplit) K (.str a) (.str b) Ψ := fun O H vx vy al hx hy Q q => by
  cases hx; cases hy
  exact ⟨a, b, rfl, rfl, hb, Nat.le_trans (Nat.add_le_add_right ha 2) (show 100002 ≤ sizeLine by decide), fun p hp => q _ _ _ k (Ext.new hp) (dp_newL al hp (dpa_strs _))⟩
def rCount : V → List V → Hp → VK → Prop := fun x xs H Q => ∃ a b, x = .str a ∧ xs = [.str b] ∧ Q (.int (Txt.count a b)) H
theorem rd_count {a b : Str} (k : Ψ (.int (Txt.count a b))) : RD (R1 rCount) K (.str a) (.str b) Ψ := fun O H vx vy al hx hy Q q => by
  cases hx; cases hy
  exact ⟨a, b, rfl, rfl, q _ _ H k (Ext.refl H) (.int _)⟩
/-! ### slices -/
def RS (r : V → Option Int → Option Int → Hp → VK → Prop) (lo hi : Option Int) (K : PySem.W.Frag) (x : PyData) (Ψ : PyData → Prop) : Prop := RU (fun x H Q => r x lo hi H Q) K x Ψ
theorem dw_slH {r : V → Option Int → Option Int → Hp → VK → Prop} (h : DW K n ta ρ fun x ρ1 => DW K n tb ρ1 fun y ρ2 => ∃ i, y = .int i ∧ RS r none (some i) K x fun z => Φ z ρ2) : DW K n (tSl r ta tNoPart (tPart tb)) ρ Φ := fun O σ H E Q q =>
  h O σ H E _ fun v x ρ1 O1 H1 hb S1 r1 => hb O1 σ H1 S1.env _ fun u y ρ2 O2 H2 ⟨i, e, hr⟩ S2 r2 => by
    subst e
    exact ⟨i, dp_int r2, hr O2 H2 v S2.env.al (S2.dp S1.env r1) Q fun w z H3 hz e r3 => q w z ρ2 O2 H3 hz ((S1.trans E S2).trans E (Stp.grow S2.env e)) r3⟩
theorem dw_slL {r : V → Option Int → Option Int → Hp → VK → Prop} (h : DW K n ta ρ fun x ρ1 => DW K n tb ρ1 fun y ρ2 => ∃ i, y = .int i ∧ RS r (some i) none K x fun z => Φ z ρ2) : DW K n (tSl r ta (tPart tb) tNoPart) ρ Φ := fun O σ H E Q q =>
  h O σ H E _ fun v x ρ1 O1 H1 hb S1 r1 => hb O1 σ H1 S1.env _ fun u y ρ2 O2 H2 ⟨i, e, hr⟩ S2 r2 => by
    subst e
    exact ⟨i, dp_int r2, hr O2 H2 v S2.env.al (S2.dp S1.env r1) Q fun w z H3 hz e r3 => q w z ρ2 O2 H3 hz ((S1.trans E S2).trans E (Stp.grow S2.env e)) r3⟩
def rSlB (K : PySem.W.Frag) : V → Option Int → Option Int → Hp → VK → Prop := fun x lo hi H Q => rSlA K x lo hi H Q ∨ (rSlL K x lo hi H Q ∨ rSlS x lo hi H Q)
theorem slB {X : Cx} : SlR X (rSlB X.K) := SlR.or sl_tupA (SlR.or sl_list sl_str)
def cutD {α : Type} (xs : List α) (lo hi : Option Int) : List α := (xs.drop (HT.sIx xs.length 0 lo)).take (HT.sIx xs.length xs.length hi - HT.sIx xs.length 0 lo)
theorem dpa_cut {vs : List V} {ds : List PyData} {lo hi : Option Int} (h : DPAll K H vs ds) : DPAll K H (cutV vs lo hi) (cutD ds lo hi) := by
  unfold cutV cutD
  rw [dpa_len h]
  exact dpa_take _ (dpa_drop _ h)
theorem rs_tup {ds : List PyData} {lo hi : Option Int} (k : Ψ (.tuple (cutD ds lo hi))) : RS (rSlB K) lo hi K (.tuple ds) Ψ := fun O H vx al hx Q q => by
  cases hx with
  | tup h d =>
    refine .inl ⟨_, _, rfl, msk_t h, fun z => ?_, fun z p hp => q _ _ _ k (Ext.new hp) (dp_newT al hp (dpa_cut d))⟩
    have e : cutD ds lo hi = ds := by
      unfold cutD
      rw [dpa_len d] at z
      rw [z.1, z.2]
      simp
    rw [e] at k
    exact q _ _ H k (Ext.refl H) (.tup h d)
theorem rs_lst {ds : List PyData} {lo hi : Option Int} (k : Ψ (.list (cutD ds lo hi))) : RS (rSlB K) lo hi K (.list ds) Ψ := fun O H vx al hx Q q => by
  cases hx with
  | lst h d => exact .inr (.inl ⟨_, _, rfl, msk_l h, fun p hp => q _ _ _ k (Ext.new hp) (dp_newL al hp (dpa_cut d))⟩)
theorem rs_str {z : Str} {lo hi : Option Int} (hz : z.length ≤ 100000) (k : Ψ (.str (cutS z lo hi))) : RS (rSlB K) lo hi K (.str z) Ψ := fun O H vx al hx Q q => by
  cases hx
  exact .inr (.inr ⟨z, rfl, Nat.le_trans hz (by decide), q _ _ H k (Ext.refl H) (.str _)⟩)
/-! ### a dict display, a pair of names with a fresh list, a list of its own and a fresh one -/
theorem dw_dnew (k : Φ (.dict []) ρ) : DW K n tDNewK ρ Φ := fun O σ H E Q q p hp =>
  q _ _ ρ O _ k (Stp.grow E (Ext.new hp)) (.dct (.inl (msk_of (al_new E.al hp) upd_same)) .nil)
theorem ds_parF {i j k : Nat} (h : DF K n te ρ fun ds ρ1 => ∃ d, ρ1[k]? = some (some (.val d)) ∧ n ≤ i ∧ n ≤ j ∧ F.nx ((ρ1.set i (some (.lst ds))).set j (some (.val d)))) : DSx K n (tPar i j (tCons te (tCons (tVar k) tNil))) ρ F := fun O σ H E D h1 h2 h3 h4 h5 =>
  h O σ H E _ fun p vs ds ρ1 O1 H1 ⟨d, hk, hi, hj, kk⟩ S np no hp hH hd => by
    obtain ⟨v, a, b⟩ := env_get S.env hk
    have S2 := stp_setOwn S no hp hH hd hi
    have S3 := stp_set (n := n) S2.env b (j := j) (.inl hj)
    exact ⟨v, a, _, _, rfl, h1 _ _ _ _ kk (S2.trans E S3)⟩
theorem df_catO {i : Nat} {Ψ : PF} {ds0 : List PyData} (h0 : ρ[i]? = some (some (.lst ds0))) (h : DF K n tb ρ fun ys ρ1 => ∃ ds, ρ1[i]? = some (some (.lst ds)) ∧ ds.length + ys.length ≤ 100000 ∧ Ψ (ds ++ ys) ρ1) : DF K n (tOp rCat (tVar i) tb) ρ Ψ := fun O σ H E Q q => by
  obtain ⟨a, us0, g1, g2, g3, g4⟩ := env_lst E h0
  refine ⟨.ref a, g1, ?_⟩
  refine h O σ H E _ fun p vs ys ρ1 O1 H1 ⟨ds, hi, hl, kk⟩ S np no hp hH hd => ?_
  obtain ⟨a', us, g1', g2', g3', g4'⟩ := env_lst S.env hi
  rw [g1] at g1'; cases g1'
  refine ⟨a, p, us, vs, rfl, rfl, g3', hH, Nat.le_trans (by rw [dpa_len g4', dpa_len hd]; exact hl) (show 100000 ≤ sizeLine by decide), fun r hr => ?_⟩
  have nr := fresh_notin S.env hr
  have nr0 : r ∉ O := fun z => nr (S.sub r z)
  exact q r (us ++ vs) (ds ++ ys) ρ1 (p :: O1) _ kk (S.trans E (stp_alloc S.env hr)) nr (not_owned S.env hr) (S.none_back nr0 hr E) upd_same (dpa_ext (fresh_ext hr) (dpa_append g4' hd))
theorem kit_dt : kitB "dict" "tuple" = some false := by decide +kernel
theorem kit_is : kitB "int" "str" = some false := by decide +kernel
theorem kit_ss : kitB "str" "str" = some true := by decide +kernel
theorem isT_tupA (d : PyData) : isT "tuple" d = some (isTupD d) := by
  cases d with
  | dict x => exact kit_dt
  | _ => exact isT_tuple trivial
end
end DL
namespace K04
open PySem L2 DL
/-! words and rows: the mathematics -/
def wd (L : List Nat) : Str := ⟨L.toArray⟩
def wordL : List Int → List Nat
  | [] => []
  | e :: r => List.replicate (e - 1).toNat 120 ++ ([121] ++ wordL r)
def Ones (r : List Int) : Prop := ∀ e ∈ r, 1 ≤ e
theorem yS : (Str.ofString "y") = wd [121] := by decide +kernel
theorem xS : (Str.ofString "x") = wd [120] := by decide +kernel
theorem eS : (Str.ofString "") = wd [] := by decide +kernel
theorem tl_wd (L : List Nat) : TL.tl (wd L) = L := by simp [wd]
theorem wd_app (a b : List Nat) : wd a ++ wd b = wd (a ++ b) := by
  apply TL.ext_tl
  rw [TL.tl_append, tl_wd, tl_wd, tl_wd]
theorem wd_inj {a b : List Nat} (h : wd a = wd b) : a = b := by
  have := congrArg TL.tl h
  rwa [tl_wd, tl_wd] at this
theorem len_wd (L : List Nat) : (wd L).length = L.length := by rw [TL.len_tl, tl_wd]
theorem spl_word : ∀ r : List Int, TL.spl [121] 0 [] (wordL r) = (r.map fun e => List.replicate (e - 1).toNat 120) ++ [[]]
  | [] => by
    have := TL.spl_last1 (s := 121) (S := []) (p := []) (acc := []) (by simp)
    simpa [wordL] using this
  | e :: r => by
    have := TL.spl_part1 (s := 121) (S := []) (p := List.replicate (e - 1).toNat 120) (rest := wordL r) (acc := []) (by simp)
    show TL.spl [121] 0 [] (List.replicate (e - 1).toNat 120 ++ ([121] ++ wordL r)) = _
    rw [this, spl_word r]
    simp
theorem split_word (r : List Int) : PySem.Txt.split (wd (wordL r)) (wd [121]) = (r.map fun e => wd (List.replicate (e - 1).toNat 120)) ++ [wd []] := by
  apply TL.map_tl_inj
  rw [TL.split_spl _ _ (by rw [tl_wd]; simp) (TL.kind_ok (by decide +kernel)), tl_wd, tl_wd, spl_word]
  simp [tl_wd, Function.comp_def]
theorem dropLast_app {α : Type} (l : List α) (x : α) : cutD (l ++ [x]) none (some (-1)) = l := by
  unfold cutD
  have h1 : HT.sIx (l ++ [x]).length 0 none = 0 := rfl
  have h2 : HT.sIx (l ++ [x]).length (l ++ [x]).length (some (-1)) = l.length := by
    show (-1 + ((l ++ [x]).length : Int)).toNat = l.length
    simp
    omega
  rw [h1, h2]
  simp
theorem runs_word {r : List Int} (h : Ones r) : (r.map fun e => wd (List.replicate (e - 1).toNat 120)).map (fun z => ((z.length : Nat) : Int) + 1) = r := by
  rw [List.map_map]
  conv => rhs; rw [← List.map_id r]
  apply List.map_congr_left
  intro e he
  have := h e he
  simp [len_wd]
  omega
theorem foldA (k : Nat) : ∀ acc : Array Nat, (List.foldl (fun x1 x2 => x1 ++ x2) acc (List.replicate k #[120])).toList = acc.toList ++ List.replicate k 120 := by
  induction k with
  | zero => intro acc; simp
  | succ k ih => intro acc; rw [List.replicate_succ, List.foldl_cons, ih, List.replicate_succ]; simp
theorem mul_x (n : Int) (h : 0 ≤ n) : PySem.Txt.mul (wd [120]) n = wd (List.replicate n.toNat 120) := by
  unfold PySem.Txt.mul
  by_cases h1 : n < 1
  · have : n = 0 := by omega
    subst this
    rfl
  · rw [if_neg h1]
    by_cases h2 : n = 1
    · subst h2; rfl
    · have e : (n == 1 || (wd [120]).length == 0) = false := by
        rw [len_wd]
        simp [h2]
      rw [if_neg (by rw [e]; simp)]
      apply TL.ext_tl
      rw [tl_wd]
      have := foldA n.toNat #[]
      exact this
theorem foldB : ∀ (l : List Str) (acc : Array Nat), (List.foldl (fun acc p => acc ++ (wd []).cps ++ p.cps) acc l).toList = acc.toList ++ (l.map TL.tl).flatten
  | [], acc => by simp
  | a :: r, acc => by
    rw [List.foldl_cons, foldB r]
    simp [wd]
theorem join_e (l : List Str) : PySem.Txt.join (wd []) l = wd (l.map TL.tl).flatten := by
  apply TL.ext_tl
  rw [tl_wd]
  unfold PySem.Txt.join PySem.Builtin.Str.glued
  cases l with
  | nil => rfl
  | cons a r =>
    have := foldB r a.cps
    simpa using this
theorem join_word {r : List Int} : PySem.Txt.join (wd []) (r.map fun e => wd (List.replicate (e - 1).toNat 120 ++ [121])) = wd (wordL r) := by
  rw [join_e]
  congr 1
  induction r with
  | nil => rfl
  | cons e r ih => simp only [List.map_cons, List.flatten_cons, tl_wd, wordL, ih, List.append_assoc]
theorem len_word : ∀ {r : List Int}, Ones r → ((wordL r).length : Int) = r.sum
  | [], _ => rfl
  | e :: r, h => by
    have h1 := h e List.mem_cons_self
    have h2 := len_word (r := r) fun x hx => h x (List.mem_cons_of_mem _ hx)
    simp only [wordL, List.length_append, List.length_replicate, List.length_cons, List.length_nil, List.sum_cons]
    omega
theorem word_app (a b : List Int) : wordL (a ++ b) = wordL a ++ wordL b := by
  induction a with
  | nil => rfl
  | cons e r ih => simp only [List.cons_append, wordL, ih, List.append_assoc]
theorem word_all : ∀ (r : List Int), ∀ c ∈ wordL r, c = 120 ∨ c = 121
  | [], c, h => by simp [wordL] at h
  | e :: r, c, h => by
    simp only [wordL, List.mem_append, List.mem_replicate, List.mem_singleton] at h
    rcases h with h | h | h
    · exact .inl h.2
    · exact .inr h
    · exact word_all r c h
theorem word_last : ∀ (r : List Int), r ≠ [] → (wordL r).getLast? = some 121
  | [e], _ => by simp [wordL]
  | e :: f :: r, _ => by
    have := word_last (f :: r) (by simp)
    have hn : wordL (f :: r) ≠ [] := fun z => by rw [z] at this; simp at this
    simp only [wordL] at this hn ⊢
    rw [List.getLast?_append, List.getLast?_append, this]
    rfl
theorem word_nil {r : List Int} : wordL r = [] ↔ r = [] := by
  cases r with
  | nil => simp [wordL]
  | cons e r => simp [wordL]
/-- every word of x and y that ends in y is a row's -/
theorem word_of_letters : ∀ (L : List Nat), (∀ c ∈ L, c = 120 ∨ c = 121) → ∀ n : Nat, ∃ r, Ones r ∧ r ≠ [] ∧ List.replicate n 120 ++ (L ++ [121]) = wordL r
  | [], _, n => ⟨[(n : Int) + 1], by intro e he; simp at he; omega, by simp, by simp [wordL]⟩
  | c :: L, h, n => by
    have hL : ∀ c ∈ L, c = 120 ∨ c = 121 := fun x hx => h x (List.mem_cons_of_mem _ hx)
    rcases h c List.mem_cons_self with rfl | rfl
    · obtain ⟨r, h1, h2, h3⟩ := word_of_letters L hL (n + 1)
      refine ⟨r, h1, h2, ?_⟩
      rw [← h3, List.replicate_succ']
      simp
    · obtain ⟨r, h1, h2, h3⟩ := word_of_letters L hL 0
      refine ⟨((n : Int) + 1) :: r, ?_, by simp, ?_⟩
      · intro e he
        rcases List.mem_cons.mp he with rfl | he
        · omega
        · exact h1 e he
      · simp only [wordL]
        rw [← h3]
        simp
theorem cnt_c (c d : Nat) (l : List Nat) : PyProof.Rows.cnt c (d :: l) = (if PySem.Spec.same (.str ⟨#[d]⟩) (.str ⟨#[c]⟩) = true then 1 else 0) + PyProof.Rows.cnt c l := by
  unfold PyProof.Rows.cnt
  rfl
theorem same_x : PySem.Spec.same (.str ⟨#[120]⟩) (.str ⟨#[121]⟩) = false := by decide +kernel
theorem same_y : PySem.Spec.same (.str ⟨#[121]⟩) (.str ⟨#[121]⟩) = true := by decide +kernel
theorem cnt_x (k : Nat) (l : List Nat) : PyProof.Rows.cnt 121 (List.replicate k 120 ++ l) = PyProof.Rows.cnt 121 l := by
  induction k with
  | zero => simp
  | succ k ih => rw [List.replicate_succ, List.cons_append, cnt_c, same_x, ih]; simp
theorem cnt_word : ∀ (r : List Int), PyProof.Rows.cnt 121 (wordL r) = r.length
  | [] => rfl
  | e :: r => by
    show PyProof.Rows.cnt 121 (List.replicate (e - 1).toNat 120 ++ ([121] ++ wordL r)) = _
    rw [cnt_x]
    show PyProof.Rows.cnt 121 (121 :: wordL r) = _
    rw [cnt_c, same_y, cnt_word r]
    simp
    omega
theorem count_word (r : List Int) : PySem.Txt.count (wd (wordL r)) (wd [121]) = r.length := by
  have := PyProof.Rows.count_cnt (wd (wordL r)) 121
  rw [← cnt_word r]
  have e : (wd (wordL r)).cps.toList = wordL r := tl_wd _
  rw [e] at this
  exact this
theorem firm_word {r : List Int} (h : Ones r) : (r = [] ∨ 2 ≤ r.headD 0) ↔ wordL r = [] ∨ (wordL r).head? ≠ some 121 := by
  cases r with
  | nil => simp [wordL]
  | cons e r =>
    have h1 := h e List.mem_cons_self
    simp only [wordL, List.headD_cons]
    by_cases h2 : e = 1
    · subst h2; simp
    · obtain ⟨k, hk⟩ : ∃ k, (e - 1).toNat = k + 1 := ⟨(e - 1).toNat - 1, by omega⟩
      rw [hk, List.replicate_succ]
      simp
      omega
/-- the length of a text of one letter more times -/
theorem ones_app {a b : List Int} (ha : Ones a) (hb : Ones b) : Ones (a ++ b) := by
  intro e he
  rcases List.mem_append.mp he with h | h
  · exact ha e h
  · exact hb e h
theorem ones_len : ∀ {r : List Int}, Ones r → (r.length : Int) ≤ r.sum
  | [], _ => Int.le_refl _
  | e :: r, h => by
    have h1 := h e List.mem_cons_self
    have h2 := ones_len (r := r) fun x hx => h x (List.mem_cons_of_mem _ hx)
    simp only [List.length_cons, List.sum_cons]
    omega
theorem ones_le : ∀ {r : List Int} {e : Int}, Ones r → e ∈ r → e ≤ r.sum
  | x :: r, e, h, he => by
    have h1 := h x List.mem_cons_self
    have hr : Ones r := fun x hx => h x (List.mem_cons_of_mem _ hx)
    have h2 := ones_len hr
    simp only [List.sum_cons]
    rcases List.mem_cons.mp he with rfl | he
    · omega
    · have := ones_le hr he
      omega
/-! what a row is -/
def posD : PyData → Bool
  | .int i => decide (1 ≤ i)
  | _ => false
def toI : PyData → Int
  | .int i => i
  | _ => 0
def isRowD : PyData → Bool
  | .tuple ds => ds.all posD && decide ((ds.map toI).sum ≤ 40)
  | _ => false
abbrev row (r : List Int) : PyData := .tuple (r.map .int)
theorem posD_ints : ∀ {ds : List PyData}, ds.all posD = true → ∃ r, Ones r ∧ ds = r.map PyData.int ∧ ds.map toI = r
  | [], _ => ⟨[], fun _ h => by simp at h, rfl, rfl⟩
  | d :: ds, h => by
    rw [List.all_cons, Bool.and_eq_true] at h
    obtain ⟨r, h1, h2, h3⟩ := posD_ints h.2
    cases d with
    | int i =>
      refine ⟨i :: r, fun e he => ?_, by rw [h2]; rfl, by rw [List.map_cons, h3]; rfl⟩
      rcases List.mem_cons.mp he with rfl | he
      · exact of_decide_eq_true h.1
      · exact h1 e he
    | _ => exact absurd h.1 (by simp [posD])
theorem all_pos : ∀ {r : List Int}, Ones r → (r.map PyData.int).all posD = true
  | [], _ => rfl
  | e :: r, h => by
    rw [List.map_cons, List.all_cons, all_pos (r := r) fun x hx => h x (List.mem_cons_of_mem _ hx)]
    have := h e List.mem_cons_self
    simp [posD, this]
theorem map_toI (r : List Int) : (r.map PyData.int).map toI = r := by
  rw [List.map_map]
  exact List.map_id r
theorem row_is {r : List Int} (h : Ones r) (hs : r.sum ≤ 40) : isRowD (row r) = true := by
  show ((r.map PyData.int).all posD && decide (((r.map PyData.int).map toI).sum ≤ 40)) = true
  rw [all_pos h, map_toI]
  simpa using hs
end K04
namespace K04
open PySem L2 PySem.Spec PyProof.Rows DL
local macro_rules | `(tactic| walk_at "d0") => `(tactic| first
  | (with_reducible refine ds_seq ?_) | (with_reducible refine ds_next ?_) | (with_reducible refine ds_ret ?_) | (with_reducible refine ds_drop ?_) | (with_reducible refine ds_setO ?_) | (with_reducible refine ds_asg ?_)
  | ((with_reducible show DW _ _ (tOp (rIx _) (tVar _) (tC (.int _))) _ _); refine dw_ixO rfl (dw_int ⟨_, _, _, rfl, rfl, rfl, ?_⟩))
  | ((with_reducible show DW _ _ (tOp (rIx _) (tVar _) _) _ _); refine dw_ixO rfl ?_)
  | (with_reducible refine dw_lst ?_)
  | (with_reducible refine dw_isi ?_) | (with_reducible refine dw_op ?_) | (with_reducible refine dw_un ?_) | (with_reducible refine dw_int ?_) | (with_reducible refine dw_bl ?_) | (with_reducible refine dw_str ?_) | (with_reducible refine dw_non ?_)
  | ((with_reducible show DW _ _ (tVar _) _ _); refine dw_var rfl ?_)
  | (with_reducible refine dw_andV ?_) | (with_reducible refine dw_orV ?_) | (with_reducible refine dw_notV ?_) | (with_reducible refine dw_tup ?_) | (with_reducible refine dw_chain ?_)
  | (with_reducible refine da_nil ?_) | (with_reducible refine da_cons ?_)
  | (with_reducible refine dt_test ?_) | (with_reducible refine dt_B ?_) | (with_reducible refine dt_and ?_) | (with_reducible refine dt_or ?_) | (with_reducible refine dt_not ?_) | (with_reducible refine dt_yes ?_)
  | ((with_reducible show DW _ _ (tCall _ _ _ (tCons (tVar _) _)) _ _); refine dw_callO rfl ?_)
  | (with_reducible refine dw_call ?_) | (with_reducible refine dw_fresh (df_call ?_)) | (with_reducible refine dw_cb ?_)
  | (with_reducible refine rd_addBI ?_) | (with_reducible refine rc_tupL ?_) | (with_reducible refine rc_lstT ?_) | (with_reducible refine rc_reprB ?_) | (with_reducible refine rd_isB ?_) | (with_reducible refine rs_tup ?_) | (with_reducible refine rs_lst ?_) | (with_reducible refine dw_slH ?_) | (with_reducible refine dw_slL ?_) | (with_reducible refine dw_dnew ?_) | (with_reducible refine dw_m1 ?_) | (with_reducible refine rd_i0 ?_) | (with_reducible refine rd_b0 ?_) | (with_reducible refine ru_i ?_) | (with_reducible refine rc_int ?_) | (with_reducible refine rc_intB ?_) | (with_reducible refine rc_abs ?_) | (with_reducible refine rc_max ?_) | (with_reducible refine rc_min ?_) | (with_reducible refine rc_gcd ?_) | (with_reducible refine rc_lenL ?_) | (with_reducible refine rc_lenT ?_)
  | ((with_reducible show RD (rIx _) _ (.tuple _) _ _); refine rd_ixT rfl ?_) | ((with_reducible show RD (rIx _) _ (.list _) _ _); refine rd_ixL rfl ?_)
  | ((with_reducible refine dg_name ?hj ?_); (case hj => first | exact .inl (by decide) | exact .inr (noLst_val rfl) | exact .inr (noLst_none rfl)))
  | ((with_reducible show ∃ b, PyData.bool _ = PyData.bool b ∧ _); refine ⟨_, rfl, ?_⟩)
  | ((with_reducible show RD (rEqA _) _ (.int _) (.int _) _); refine rd_eq rfl rfl ?_) | ((with_reducible show RD (rNeA _) _ (.int _) (.int _) _); refine rd_ne rfl rfl ?_)
  | ((with_reducible show DW _ _ (tTup _) _ _); refine dw_tup ?_) | ((with_reducible show List.length _ ≤ 100000 ∧ _); refine ⟨Nat.le_of_ble_eq_true rfl, ?_⟩)
  | (((with_reducible show (_ = true → _) ∧ (_ = false → _)); first | (refine ⟨fun _ => ?_, fun z => Bool.noConfusion (show true = false from z)⟩) | (refine ⟨fun z => Bool.noConfusion (show false = true from z), fun _ => ?_⟩)))
  | (((with_reducible show (_ = false → _) ∧ (_ = true → _)); first | (refine ⟨fun _ => ?_, fun z => Bool.noConfusion (show false = true from z)⟩) | (refine ⟨fun z => Bool.noConfusion (show true = false from z), fun _ => ?_⟩)))
  | (with_reducible refine dgs_nil ?_) | (with_reducible refine dgs_cons ?_))
local macro_rules | `(tactic| walk_at "d1") => `(tactic| first | walk_at "d0" | (with_reducible refine ds_if ?_) | (with_reducible refine dw_if ?_))
local macro_rules | `(tactic| walk_at "e") => `(tactic| ((try dsimp only [cxOf, Cx.nox, Cx.wish]); repeat (walk_at "d0")))
local macro_rules | `(tactic| walk_at "d") => `(tactic| ((try dsimp only [cxOf, Cx.nox, Cx.wish]); repeat (walk_at "d1")))

def topS (i : Nat) : Stmt := PySem.Challenge.pw_risewords_k04_whole_rows_and_words.main.body.getD i (.Pass ⟨0, 0, 0, 0⟩)
structure Txt (w : World) (K : PySem.W.Frag) (mg : Str → Option Value) : Type where
  n_isinstance : mg "isinstance" = none
  n_int : mg "int" = none
  n_bool : mg "bool" = none
  n_tuple : mg "tuple" = none
  n_str : mg "str" = none
  n_len : mg "len" = none
  n_abs : mg "abs" = none
  n_max : mg "max" = none
  n_min : mg "min" = none
  n_range : mg "range" = none
  n_all : mg "all" = none
  n_list : mg "list" = none
  n_repr : mg "repr" = none
  n_sum : mg "sum" = none
  t1 : Tok
  c_MAX_WEIGHT : mg "MAX_WEIGHT" = some (.int 40 t1)
  a_OTHER_LETTER : Addr
  c_OTHER_LETTER : mg "OTHER_LETTER" = some (.ref a_OTHER_LETTER)
  es_OTHER : Array DictEntry
  m_OTHER : Nat
  d_OTHER_LETTER : KDict K w a_OTHER_LETTER es_OTHER m_OTHER
  vx : Value
  vy : Value
  in_x : PySem.W.nsIn K a_OTHER_LETTER "x" = some (some vx)
  in_y : PySem.W.nsIn K a_OTHER_LETTER "y" = some (some vy)
abbrev s_is_whole : Stmt := topS 1
abbrev N_is_whole : List Str := ["value"]
abbrev P_is_whole : List Str := ["value"]
theorem sc_is_whole : FnScope N_is_whole P_is_whole (defScope s_is_whole) := ⟨rfl, rfl, rfl, by decide +kernel, rfl, by decide +kernel, by decide +kernel⟩
abbrev s_is_row : Stmt := topS 9
abbrev N_is_row : List Str := ["value", "entry"]
abbrev P_is_row : List Str := ["value"]
theorem sc_is_row : FnScope N_is_row P_is_row (defScope s_is_row) := ⟨rfl, rfl, rfl, by decide +kernel, rfl, by decide +kernel, by decide +kernel⟩
abbrev s_need_row : Stmt := topS 10
abbrev N_need_row : List Str := ["row"]
abbrev P_need_row : List Str := ["row"]
theorem sc_need_row : FnScope N_need_row P_need_row (defScope s_need_row) := ⟨rfl, rfl, rfl, by decide +kernel, rfl, by decide +kernel, by decide +kernel⟩
abbrev s_weight_of : Stmt := topS 11
abbrev N_weight_of : List Str := ["row"]
abbrev P_weight_of : List Str := ["row"]
theorem sc_weight_of : FnScope N_weight_of P_weight_of (defScope s_weight_of) := ⟨rfl, rfl, rfl, by decide +kernel, rfl, by decide +kernel, by decide +kernel⟩
abbrev s_is_firm : Stmt := topS 12
abbrev N_is_firm : List Str := ["row"]
abbrev P_is_firm : List Str := ["row"]
theorem sc_is_firm : FnScope N_is_firm P_is_firm (defScope s_is_firm) := ⟨rfl, rfl, rfl, by decide +kernel, rfl, by decide +kernel, by decide +kernel⟩
abbrev s_word_of : Stmt := topS 13
abbrev N_word_of : List Str := ["row", "entry"]
abbrev P_word_of : List Str := ["row"]
theorem sc_word_of : FnScope N_word_of P_word_of (defScope s_word_of) := ⟨rfl, rfl, rfl, by decide +kernel, rfl, by decide +kernel, by decide +kernel⟩
abbrev s_is_word : Stmt := topS 14
abbrev N_is_word : List Str := ["value", "most", "letter"]
abbrev P_is_word : List Str := ["value", "most"]
theorem sc_is_word : FnScope N_is_word P_is_word (defScope s_is_word) := ⟨rfl, rfl, rfl, by decide +kernel, rfl, by decide +kernel, by decide +kernel⟩
abbrev s_row_of : Stmt := topS 15
abbrev N_row_of : List Str := ["word", "run"]
abbrev P_row_of : List Str := ["word"]
theorem sc_row_of : FnScope N_row_of P_row_of (defScope s_row_of) := ⟨rfl, rfl, rfl, by decide +kernel, rfl, by decide +kernel, by decide +kernel⟩
abbrev s__law_word : Stmt := topS 20
abbrev N__law_word : List Str := ["_law_row", "_law_entry"]
abbrev P__law_word : List Str := ["_law_row"]
theorem sc__law_word : FnScope N__law_word P__law_word (defScope s__law_word) := ⟨rfl, rfl, rfl, by decide +kernel, rfl, by decide +kernel, by decide +kernel⟩
abbrev s__law_is_integer : Stmt := topS 22
abbrev N__law_is_integer : List Str := ["_law_value"]
abbrev P__law_is_integer : List Str := ["_law_value"]
theorem sc__law_is_integer : FnScope N__law_is_integer P__law_is_integer (defScope s__law_is_integer) := ⟨rfl, rfl, rfl, by decide +kernel, rfl, by decide +kernel, by decide +kernel⟩
abbrev s__law_is_row : Stmt := topS 23
abbrev N__law_is_row : List Str := ["_law_value", "_law_entry"]
abbrev P__law_is_row : List Str := ["_law_value"]
theorem sc__law_is_row : FnScope N__law_is_row P__law_is_row (defScope s__law_is_row) := ⟨rfl, rfl, rfl, by decide +kernel, rfl, by decide +kernel, by decide +kernel⟩
theorem kit_dI : kitB "dict" "int" = some false := by decide +kernel
theorem kit_dB : kitB "dict" "bool" = some false := by decide +kernel
theorem isT_intA (d : PyData) : isT "int" d = some (isIntD d || isBoolD d) := by
  cases d with
  | dict x => exact kit_dI
  | _ => exact isT_int trivial
theorem isT_boolA (d : PyData) : isT "bool" d = some (isBoolD d) := by
  cases d with
  | dict x => exact kit_dB
  | _ => exact isT_bool trivial
theorem take_snoc {α : Type} {l : List α} {i : Nat} {x : α} (h : l[i]? = some x) : l.take i ++ [x] = l.take (i + 1) := by
  rw [List.take_add_one, h]
  rfl
theorem opK_add {X : Cx} {K : PySem.W.Frag} (h : X.K = K) : OpR X (binaryOp .Add) (rAddB K) := by subst h; exact opB_add
theorem opK_mul {X : Cx} {K : PySem.W.Frag} (h : X.K = K) : OpR X (binaryOp .Mult) (rMulB K) := by subst h; exact opB_mul
theorem crK_len {X : Cx} {K : PySem.W.Frag} (h : X.K = K) : CallR X (.builtin "len") (DL.rLen K) := by subst h; exact call_lenA
theorem opK_in {X : Cx} {K : PySem.W.Frag} {w : World} (h : X.K = K) {d : Addr} {es : Array DictEntry} {m : Nat} (D : KDict K w d es m) (hw : X.w = w := by rfl) : OpR X (compareOp .In) (rInK K d) := by subst h; subst hw; exact op_inK D
section
variable {P : Program} {w : World} {K : PySem.W.Frag} {mg : Str → Option Value} {base : Heap}
def wIsWhole : SpW := fun es Φ => ∃ d, es = [.val d] ∧ Φ (.bool (isIntD d)) es
theorem ok_is_whole (T : Txt w K mg) (D : TD K mg "is_whole" s_is_whole P_is_whole) : FnOk P w K mg base CX0 1 D.f D.fd P_is_whole (spD K 1 wIsWhole) := by
  refine fn_data D.F sc_is_whole rfl fun cdv A outer s H E hr => ?_
  refine ⟨_, (pss_one (ps_ret (pe_and (pe_callB call_isi rfl T.n_isinstance (by decide +kernel) (pa_cons (pv 0) (pa_cons (pe_bltn (v := .ty "int") (u := .type "int") rfl T.n_int (by decide +kernel) rfl) pa_nil))) (pe_one (pe_not (pe_callB call_isi rfl T.n_isinstance (by decide +kernel) (pa_cons (pv 0) (pa_cons (pe_bltn (v := .ty "bool") (u := .type "bool") rfl T.n_bool (by decide +kernel) rfl) pa_nil)))))))), ?_⟩
  rintro es Φ ⟨d, rfl, k⟩ _
  walk_at "d"
  refine ⟨_, isT_intA d, _, rfl, fun h1 => ?_, fun h1 => ?_⟩
  · walk_at "d"
    refine ⟨_, isT_boolA d, _, rfl, ?_⟩
    have e : (!isBoolD d) = isIntD d := by cases d <;> first | rfl | (simp [isIntD, isBoolD] at h1)
    rw [e]
    exact k
  · have e : isIntD d = false := by cases d <;> first | rfl | (simp [isIntD, isBoolD] at h1)
    rw [e] at k
    exact k
theorem ok_law_int (T : Txt w K mg) (D : TD K mg "_law_is_integer" s__law_is_integer P__law_is_integer) : FnOk P w K mg base CX0 1 D.f D.fd P__law_is_integer (spD K 1 wIsWhole) := by
  refine fn_data D.F sc__law_is_integer rfl fun cdv A outer s H E hr => ?_
  refine ⟨_, (pss_one (ps_ret (pe_and (pe_callB call_isi rfl T.n_isinstance (by decide +kernel) (pa_cons (pv 0) (pa_cons (pe_bltn (v := .ty "int") (u := .type "int") rfl T.n_int (by decide +kernel) rfl) pa_nil))) (pe_one (pe_not (pe_callB call_isi rfl T.n_isinstance (by decide +kernel) (pa_cons (pv 0) (pa_cons (pe_bltn (v := .ty "bool") (u := .type "bool") rfl T.n_bool (by decide +kernel) rfl) pa_nil)))))))), ?_⟩
  rintro es Φ ⟨d, rfl, k⟩ _
  walk_at "d"
  refine ⟨_, isT_intA d, _, rfl, fun h1 => ?_, fun h1 => ?_⟩
  · walk_at "d"
    refine ⟨_, isT_boolA d, _, rfl, ?_⟩
    have e : (!isBoolD d) = isIntD d := by cases d <;> first | rfl | (simp [isIntD, isBoolD] at h1)
    rw [e]
    exact k
  · have e : isIntD d = false := by cases d <;> first | rfl | (simp [isIntD, isBoolD] at h1)
    rw [e] at k
    exact k
def wIsRow : SpW := fun es Φ => ∃ d, es = [.val d] ∧ (∀ ds, d = .tuple ds → ds.length ≤ 100000) ∧ Φ (.bool (isRowD d)) es
theorem ok_is_row (T : Txt w K mg) (D : TD K mg "is_row" s_is_row P_is_row) (G_is_whole : Cal P w K mg base 1 "is_whole" P_is_whole (spD K 1 wIsWhole)) : FnOk P w K mg base CX0 2 D.f D.fd P_is_row (spD K 1 wIsRow) := by
  refine fn_data D.F sc_is_row rfl fun cdv A outer s H E hr => ?_
  have hu := hr.units
  refine ⟨_, (pss_cons (ps_if (pt_not (pt_val (pe_callB call_isi rfl T.n_isinstance (by decide +kernel) (pa_cons (pv 0) (pa_cons (pe_bltn (v := .ty "tuple") (u := .type "tuple") rfl T.n_tuple (by decide +kernel) rfl) pa_nil))))) (pss_one (ps_ret pe_bl)) pss_nil) (pss_one (ps_ret (pe_and (pe_callB (cr_all rfl) rfl T.n_all (by decide +kernel) (pa_cons (pe_lc (own := [("entry", 1)]) (g := gName 1) (tt := tYes) rfl sc_is_row.nd (pi_tup (pv 0)) (blkOk_by (own := [("entry", 1)]) (N := N_is_row) (sc := defScope s_is_row) (by decide +kernel)) (fun _ _ _ _ _ => pg_name (i := 1) sc_is_row.nd rfl (Or.inl rfl)) (fun _ _ _ _ _ => pts_nil) (fun _ _ _ _ _ => (pe_and (pe_call G_is_whole.ok (hr.mono (by decide)) rfl G_is_whole.m G_is_whole.kp G_is_whole.b .nil pass0 (pa_cons (pv 1) pa_nil)) (pe_one (pe_cmpR op_ge (pv 1) pe_int (nomark _)))))) pa_nil)) (pe_one (pe_cmpR op_le (pe_callB (cr_sumT rfl) rfl T.n_sum (by decide +kernel) (pa_cons (pv 0) pa_nil)) (pe_glob (v := .int 40) rfl T.c_MAX_WEIGHT ⟨_, rfl⟩) (nomark _))))))), ?_⟩
  rintro es Φ ⟨d, rfl, hl, k⟩ _
  walk_at "d"
  refine ⟨_, isT_tupA d, _, rfl, fun h1 => ?_, fun h1 => ?_⟩
  · walk_at "d"
    have e : isRowD d = false := by cases d <;> first | rfl | exact nomatch h1
    rw [e] at k
    exact k
  · cases d with
    | tuple ds =>
      walk_at "d"
      refine dw_fresh (df_lc (di_tup ?_))
      walk_at "e"
      refine ⟨ds, rfl, by decide, hl ds rfl, rfl, fun i out ρ' => out = ((ds.take i).map posD).map PyData.bool ∧ ρ' = [some (.val (.tuple ds)), none], ⟨rfl, rfl⟩, ?_, ?_⟩
      · rintro i d out ρ' hd ⟨rfl, rfl⟩ _
        walk_at "e"
        refine ⟨rfl, d, rfl, _, rfl, fun h2 => ?_, fun h2 => ?_⟩
        · cases d with
          | int j =>
            walk_at "e"
            refine ⟨?_, rfl⟩
            rw [← take_snoc hd, List.map_append, List.map_append]
            rfl
          | _ => exact nomatch h2
        · have e : posD d = false := by cases d <;> first | rfl | exact nomatch h2
          refine ⟨?_, rfl⟩
          rw [← take_snoc hd, List.map_append, List.map_append]
          show _ = _ ++ [PyData.bool (posD d)]
          rw [e]
      · rintro out ρ' ⟨rfl, rfl⟩
        rw [List.take_length]
        walk_at "e"
        refine rc_all ?_
        have e1 : (ds.map posD).all id = ds.all posD := by rw [List.all_map]; rfl
        rw [e1]
        refine ⟨_, rfl, fun h2 => ?_, fun h2 => ?_⟩
        · obtain ⟨r, o1, o2, o3⟩ := posD_ints h2
          subst o2
          walk_at "e"
          refine rc_sumT ?_
          walk_at "e"
          have e : isRowD (row r) = decide (r.sum ≤ 40) := by
            show ((r.map PyData.int).all posD && decide (((r.map PyData.int).map toI).sum ≤ 40)) = _
            rw [h2, map_toI, Bool.true_and]
          rw [e] at k
          exact k
        · have e : isRowD (.tuple ds) = false := by
            show (ds.all posD && _) = false
            rw [h2, Bool.false_and]
          rw [e] at k
          exact k
    | _ => exact nomatch h1
def RowP (r : List Int) : Prop := Ones r ∧ r.sum ≤ 40
theorem RowP.len {r : List Int} (h : RowP r) : r.length ≤ 40 := by
  have := ones_len h.1
  have := h.2
  omega
def wNeedRow : SpW := fun es Φ => ∃ r, es = [.val (row r)] ∧ RowP r ∧ Φ .none es
theorem ok_need_row (T : Txt w K mg) (D : TD K mg "need_row" s_need_row P_need_row) (G_is_row : Cal P w K mg base 2 "is_row" P_is_row (spD K 1 wIsRow)) : FnOk P w K mg base CX0 3 D.f D.fd P_need_row (spD K 1 wNeedRow) := by
  refine fn_data D.F sc_need_row rfl fun cdv A outer s H E hr => ?_
  refine ⟨_, (pss_one (ps_if (pt_not (pt_val (pe_call G_is_row.ok (hr.mono (by decide)) rfl G_is_row.m G_is_row.kp G_is_row.b .nil pass0 (pa_cons (pv 0) pa_nil)))) (pss_one ps_never) pss_nil)), ?_⟩
  rintro es Φ ⟨r, rfl, hr2, k⟩ _
  walk_at "d"
  refine ⟨rfl, _, rfl, fun ds z => ?_, ?_⟩
  · cases z
    rw [List.length_map]
    have := hr2.len
    omega
  · rw [row_is hr2.1 hr2.2]
    walk_at "d"
    exact k
def wWeight : SpW := fun es Φ => ∃ r, es = [.val (row r)] ∧ RowP r ∧ Φ (.int r.sum) es
theorem ok_weight_of (T : Txt w K mg) (D : TD K mg "weight_of" s_weight_of P_weight_of) (G_need_row : Cal P w K mg base 3 "need_row" P_need_row (spD K 1 wNeedRow)) : FnOk P w K mg base CX0 4 D.f D.fd P_weight_of (spD K 1 wWeight) := by
  refine fn_data D.F sc_weight_of rfl fun cdv A outer s H E hr => ?_
  refine ⟨_, (pss_cons (ps_expr (pe_call G_need_row.ok (hr.mono (by decide)) rfl G_need_row.m G_need_row.kp G_need_row.b .nil pass0 (pa_cons (pv 0) pa_nil))) (pss_one (ps_ret (pe_callB (cr_sumT rfl) rfl T.n_sum (by decide +kernel) (pa_cons (pv 0) pa_nil))))), ?_⟩
  rintro es Φ ⟨r, rfl, hr2, k⟩ _
  walk_at "d"
  refine ⟨rfl, _, rfl, hr2, ?_⟩
  walk_at "d"
  refine rc_sumT ?_
  exact k
def firmB (r : List Int) : Bool := decide (r = [] ∨ 2 ≤ r.headD 0)
def wFirm : SpW := fun es Φ => ∃ r, es = [.val (row r)] ∧ RowP r ∧ Φ (.bool (firmB r)) es
theorem sh_ints : ∀ r : List Int, SeqAt.shaped (row r) = true := by
  intro r
  have := PySem.W.ke_shaped_ints r
  simpa [SeqAt.shaped, PyData.canLay0, PyData.depth] using this
theorem ok_is_firm (T : Txt w K mg) (D : TD K mg "is_firm" s_is_firm P_is_firm) (G_need_row : Cal P w K mg base 3 "need_row" P_need_row (spD K 1 wNeedRow)) : FnOk P w K mg base CX0 4 D.f D.fd P_is_firm (spD K 1 wFirm) := by
  refine fn_data D.F sc_is_firm rfl fun cdv A outer s H E hr => ?_
  have hu := hr.units
  refine ⟨_, (pss_cons (ps_expr (pe_call G_need_row.ok (hr.mono (by decide)) rfl G_need_row.m G_need_row.kp G_need_row.b .nil pass0 (pa_cons (pv 0) pa_nil))) (pss_one (ps_ret (pe_or (pe_cmpR (opA_eq hu) (pv 0) (pe_tup pa_nil) (nomark _)) (pe_one (pe_cmpR op_ge (pe_ix ix_seq (pv 0) pe_int (fun _ _ => rfl)) pe_int (nomark _))))))), ?_⟩
  rintro es Φ ⟨r, rfl, hr2, k⟩ _
  walk_at "d"
  refine ⟨rfl, _, rfl, hr2, ?_⟩
  walk_at "d"
  refine rd_eq (sh_ints r) rfl ?_
  cases r with
  | nil =>
    refine ⟨true, rfl, fun z => (nomatch z), fun _ => ?_⟩
    have e : firmB [] = true := rfl
    rw [e] at k
    exact k
  | cons e r =>
    refine ⟨false, rfl, fun _ => ?_, fun z => nomatch z⟩
    walk_at "d"
    refine rd_ixT (atI_nat (show (List.map PyData.int (e :: r))[0]? = some (PyData.int e) from rfl)) ?_
    walk_at "d"
    have e : firmB (e :: r) = decide (2 ≤ e) := by simp [firmB]
    rw [e] at k
    exact k
theorem mulok_n : ∀ n : Nat, n < 101 → MulOk (wd [120]) (n : Int) := by unfold MulOk; decide +kernel
theorem mulok {n : Int} (h0 : 0 ≤ n) (h1 : n ≤ 100) : MulOk (wd [120]) n := by
  obtain ⟨k, rfl⟩ := Int.eq_ofNat_of_zero_le h0
  exact mulok_n k (by omega)
/-- the letters of an entry -/
def unit (e : Int) : Str := wd (List.replicate (e - 1).toNat 120 ++ [121])
theorem unit_len {r : List Int} (h : Ones r) : ((r.map unit).map (·.length)).sum = r.sum.toNat := by
  have key : ∀ r : List Int, Ones r → ((((r.map unit).map (·.length)).sum : Nat) : Int) = r.sum := by
    intro r
    induction r with
    | nil => intro _; rfl
    | cons e r ih =>
      intro h
      have h1 := h e List.mem_cons_self
      have h2 := ih fun x hx => h x (List.mem_cons_of_mem _ hx)
      have h3 : (unit e).length = (e - 1).toNat + 1 := by unfold unit; rw [len_wd]; simp
      simp only [List.map_cons, List.sum_cons]
      rw [Int.natCast_add, h2, h3]
      omega
  have := key r h
  omega
def wWordOf : SpW := fun es Φ => ∃ r, es = [.val (row r)] ∧ RowP r ∧ Φ (.str (wd (wordL r))) es
theorem ok_word_of (T : Txt w K mg) (D : TD K mg "word_of" s_word_of P_word_of) (G_need_row : Cal P w K mg base 3 "need_row" P_need_row (spD K 1 wNeedRow)) : FnOk P w K mg base CX0 4 D.f D.fd P_word_of (spD K 1 wWordOf) := by
  refine fn_data D.F sc_word_of rfl fun cdv A outer s H E hr => ?_
  refine ⟨_, (pss_cons (ps_expr (pe_call G_need_row.ok (hr.mono (by decide)) rfl G_need_row.m G_need_row.kp G_need_row.b .nil pass0 (pa_cons (pv 0) pa_nil))) (pss_one (ps_ret (pe_join pe_str (pe_lc (own := [("entry", 1)]) (g := gName 1) (tt := tYes) rfl sc_word_of.nd (pi_tup (pv 0)) (blkOk_by (own := [("entry", 1)]) (N := N_word_of) (sc := defScope s_word_of) (by decide +kernel)) (fun _ _ _ _ _ => pg_name (i := 1) sc_word_of.nd rfl (Or.inl rfl)) (fun _ _ _ _ _ => pts_nil) (fun _ _ _ _ _ => (pe_op (opK_add (K := K) rfl) (pe_op (opK_mul (K := K) rfl) pe_str (pe_op op_sub (pv 1) pe_int)) pe_str))))))), ?_⟩
  rintro es Φ ⟨r, rfl, hr2, k⟩ _
  walk_at "d"
  refine ⟨rfl, _, rfl, hr2, ?_⟩
  walk_at "d"
  refine ⟨_, rfl, dw_fresh (df_lc (di_tup ?_))⟩
  walk_at "e"
  have hl := hr2.len
  refine ⟨_, rfl, by decide, by rw [List.length_map]; omega, rfl, fun i out ρ' => out = ((r.take i).map unit).map PyData.str ∧ ρ' = [some (.val (row r)), none], ⟨rfl, rfl⟩, ?_, ?_⟩
  · rintro i d out ρ' hd ⟨rfl, rfl⟩ _
    rw [List.getElem?_map] at hd
    obtain ⟨e, he, rfl⟩ : ∃ e, r[i]? = some e ∧ d = .int e := by
      cases hx : r[i]? with
      | none => rw [hx] at hd; exact nomatch hd
      | some e => rw [hx] at hd; cases hd; exact ⟨e, rfl, rfl⟩
    have hm := List.mem_of_getElem? he
    have e1 := hr2.1 e hm
    have e2 := ones_le hr2.1 hm
    have e3 := hr2.2
    walk_at "e"
    rw [xS, yS]
    refine rd_mulBS (mulok (by omega) (by omega)) ?_
    rw [mul_x _ (by omega)]
    walk_at "e"
    refine rd_addBS (by rw [len_wd, len_wd, List.length_replicate]; simp; omega) ?_
    rw [wd_app]
    refine ⟨?_, rfl⟩
    rw [← take_snoc he, List.map_append, List.map_append]
    rfl
  · rintro out ρ' ⟨rfl, rfl⟩
    rw [List.length_map, List.take_length, eS]
    refine rd_join (by rw [unit_len hr2.1, len_wd]; have := hr2.2; simp; omega) ?_
    have e : PySem.Txt.join (wd []) (r.map unit) = wd (wordL r) := join_word
    rw [e]
    exact k
def wLawWord : SpW := wWordOf
theorem ok_law_word (T : Txt w K mg) (D : TD K mg "_law_word" s__law_word P__law_word) : FnOk P w K mg base CX0 1 D.f D.fd P__law_word (spD K 1 wWordOf) := by
  refine fn_data D.F sc__law_word rfl fun cdv A outer s H E hr => ?_
  refine ⟨_, (pss_one (ps_ret (pe_join pe_str (pe_lc (own := [("_law_entry", 1)]) (g := gName 1) (tt := tYes) rfl sc__law_word.nd (pi_tup (pv 0)) (blkOk_by (own := [("_law_entry", 1)]) (N := N__law_word) (sc := defScope s__law_word) (by decide +kernel)) (fun _ _ _ _ _ => pg_name (i := 1) sc__law_word.nd rfl (Or.inl rfl)) (fun _ _ _ _ _ => pts_nil) (fun _ _ _ _ _ => (pe_op (opK_add (K := K) rfl) (pe_op (opK_mul (K := K) rfl) pe_str (pe_op op_sub (pv 1) pe_int)) pe_str)))))), ?_⟩
  rintro es Φ ⟨r, rfl, hr2, k⟩ _
  walk_at "d"
  refine ⟨_, rfl, dw_fresh (df_lc (di_tup ?_))⟩
  walk_at "e"
  have hl := hr2.len
  refine ⟨_, rfl, by decide, by rw [List.length_map]; omega, rfl, fun i out ρ' => out = ((r.take i).map unit).map PyData.str ∧ ρ' = [some (.val (row r)), none], ⟨rfl, rfl⟩, ?_, ?_⟩
  · rintro i d out ρ' hd ⟨rfl, rfl⟩ _
    rw [List.getElem?_map] at hd
    obtain ⟨e, he, rfl⟩ : ∃ e, r[i]? = some e ∧ d = .int e := by
      cases hx : r[i]? with
      | none => rw [hx] at hd; exact nomatch hd
      | some e => rw [hx] at hd; cases hd; exact ⟨e, rfl, rfl⟩
    have hm := List.mem_of_getElem? he
    have e1 := hr2.1 e hm
    have e2 := ones_le hr2.1 hm
    have e3 := hr2.2
    walk_at "e"
    rw [xS, yS]
    refine rd_mulBS (mulok (by omega) (by omega)) ?_
    rw [mul_x _ (by omega)]
    walk_at "e"
    refine rd_addBS (by rw [len_wd, len_wd, List.length_replicate]; simp; omega) ?_
    rw [wd_app]
    refine ⟨?_, rfl⟩
    rw [← take_snoc he, List.map_append, List.map_append]
    rfl
  · rintro out ρ' ⟨rfl, rfl⟩
    rw [List.length_map, List.take_length, eS]
    refine rd_join (by rw [unit_len hr2.1, len_wd]; have := hr2.2; simp; omega) ?_
    have e : PySem.Txt.join (wd []) (r.map unit) = wd (wordL r) := join_word
    rw [e]
    exact k
end
end K04
namespace K04
open PySem L2 PySem.Spec PyProof.Rows DL
local macro_rules | `(tactic| walk_at "d0") => `(tactic| first
  | (with_reducible refine ds_seq ?_) | (with_reducible refine ds_next ?_) | (with_reducible refine ds_ret ?_) | (with_reducible refine ds_drop ?_) | (with_reducible refine ds_setO ?_) | (with_reducible refine ds_asg ?_)
  | ((with_reducible show DW _ _ (tOp (rIx _) (tVar _) (tC (.int _))) _ _); refine dw_ixO rfl (dw_int ⟨_, _, _, rfl, rfl, rfl, ?_⟩))
  | ((with_reducible show DW _ _ (tOp (rIx _) (tVar _) _) _ _); refine dw_ixO rfl ?_)
  | (with_reducible refine dw_lst ?_)
  | (with_reducible refine dw_isi ?_) | (with_reducible refine dw_op ?_) | (with_reducible refine dw_un ?_) | (with_reducible refine dw_int ?_) | (with_reducible refine dw_bl ?_) | (with_reducible refine dw_str ?_) | (with_reducible refine dw_non ?_)
  | ((with_reducible show DW _ _ (tVar _) _ _); refine dw_var rfl ?_)
  | (with_reducible refine dw_andV ?_) | (with_reducible refine dw_orV ?_) | (with_reducible refine dw_notV ?_) | (with_reducible refine dw_tup ?_) | (with_reducible refine dw_chain ?_)
  | (with_reducible refine da_nil ?_) | (with_reducible refine da_cons ?_)
  | (with_reducible refine dt_test ?_) | (with_reducible refine dt_B ?_) | (with_reducible refine dt_and ?_) | (with_reducible refine dt_or ?_) | (with_reducible refine dt_not ?_) | (with_reducible refine dt_yes ?_)
  | ((with_reducible show DW _ _ (tCall _ _ _ (tCons (tVar _) _)) _ _); refine dw_callO rfl ?_)
  | (with_reducible refine dw_call ?_) | (with_reducible refine dw_fresh (df_call ?_)) | (with_reducible refine dw_cb ?_)
  | (with_reducible refine rd_addBI ?_) | (with_reducible refine rc_tupL ?_) | (with_reducible refine rc_lstT ?_) | (with_reducible refine rc_reprB ?_) | (with_reducible refine rd_isB ?_) | (with_reducible refine rs_tup ?_) | (with_reducible refine rs_lst ?_) | (with_reducible refine dw_slH ?_) | (with_reducible refine dw_slL ?_) | (with_reducible refine dw_dnew ?_) | (with_reducible refine dw_m1 ?_) | (with_reducible refine rd_i0 ?_) | (with_reducible refine rd_b0 ?_) | (with_reducible refine ru_i ?_) | (with_reducible refine rc_int ?_) | (with_reducible refine rc_intB ?_) | (with_reducible refine rc_abs ?_) | (with_reducible refine rc_max ?_) | (with_reducible refine rc_min ?_) | (with_reducible refine rc_gcd ?_) | (with_reducible refine rc_lenL ?_) | (with_reducible refine rc_lenT ?_)
  | ((with_reducible show RD (rIx _) _ (.tuple _) _ _); refine rd_ixT rfl ?_) | ((with_reducible show RD (rIx _) _ (.list _) _ _); refine rd_ixL rfl ?_)
  | ((with_reducible refine dg_name ?hj ?_); (case hj => first | exact .inl (by decide) | exact .inr (noLst_val rfl) | exact .inr (noLst_none rfl)))
  | ((with_reducible show ∃ b, PyData.bool _ = PyData.bool b ∧ _); refine ⟨_, rfl, ?_⟩)
  | ((with_reducible show RD (rEqA _) _ (.int _) (.int _) _); refine rd_eq rfl rfl ?_) | ((with_reducible show RD (rNeA _) _ (.int _) (.int _) _); refine rd_ne rfl rfl ?_)
  | ((with_reducible show DW _ _ (tTup _) _ _); refine dw_tup ?_) | ((with_reducible show List.length _ ≤ 100000 ∧ _); refine ⟨Nat.le_of_ble_eq_true rfl, ?_⟩)
  | (((with_reducible show (_ = true → _) ∧ (_ = false → _)); first | (refine ⟨fun _ => ?_, fun z => Bool.noConfusion (show true = false from z)⟩) | (refine ⟨fun z => Bool.noConfusion (show false = true from z), fun _ => ?_⟩)))
  | (((with_reducible show (_ = false → _) ∧ (_ = true → _)); first | (refine ⟨fun _ => ?_, fun z => Bool.noConfusion (show false = true from z)⟩) | (refine ⟨fun z => Bool.noConfusion (show true = false from z), fun _ => ?_⟩)))
  | (with_reducible refine dgs_nil ?_) | (with_reducible refine dgs_cons ?_))
local macro_rules | `(tactic| walk_at "d1") => `(tactic| first | walk_at "d0" | (with_reducible refine ds_if ?_) | (with_reducible refine dw_if ?_))
local macro_rules | `(tactic| walk_at "e") => `(tactic| ((try dsimp only [cxOf, Cx.nox, Cx.wish]); repeat (walk_at "d0")))
local macro_rules | `(tactic| walk_at "d") => `(tactic| ((try dsimp only [cxOf, Cx.nox, Cx.wish]); repeat (walk_at "d1")))

section
variable {P : Program} {w : World} {K : PySem.W.Frag} {mg : Str → Option Value} {base : Heap}
def wRowOf : SpW := fun es Φ => ∃ r, es = [.val (.str (wd (wordL r)))] ∧ RowP r ∧ Φ (row r) es
theorem atI_last (L : List Nat) (h : L ≠ []) : atI L (-1) = L.getLast? := by
  have hp : 0 < L.length := List.length_pos_iff.mpr h
  unfold atI ixN
  rw [if_neg (by decide), if_pos (by omega), List.getLast?_eq_getElem?]
  show L[(-1 + (L.length : Int)).toNat]? = _
  congr 1
  omega
theorem isT_str (z : Str) : isT "str" (.str z) = some true := kit_ss
def wIsWord : SpW := fun es Φ => ∃ r, es = [.val (.str (wd (wordL r))), .val (.int 40)] ∧ RowP r ∧ Φ (.bool true) es
theorem ok_is_word (T : Txt w K mg) (D : TD K mg "is_word" s_is_word P_is_word) : FnOk P w K mg base CX0 1 D.f D.fd P_is_word (spD K 2 wIsWord) := by
  refine fn_data D.F sc_is_word rfl fun cdv A outer s H E hr => ?_
  have hu := hr.units
  refine ⟨_, (pss_one (ps_ret (pe_and (pe_callB call_isi rfl T.n_isinstance (by decide +kernel) (pa_cons (pv 0) (pa_cons (pe_bltn (v := .ty "str") (u := .type "str") rfl T.n_str (by decide +kernel) rfl) pa_nil))) (pe_and (pe_cmpR op_le (pe_callB (crK_len (K := K) rfl) rfl T.n_len (by decide +kernel) (pa_cons (pv 0) pa_nil)) (pv 1) (nomark _)) (pe_one (pe_callB (cr_all rfl) rfl T.n_all (by decide +kernel) (pa_cons (pe_lc (own := [("letter", 2)]) (g := gName 2) (tt := tYes) rfl sc_is_word.nd (pi_str (pv 0)) (blkOk_by (own := [("letter", 2)]) (N := N_is_word) (sc := defScope s_is_word) (by decide +kernel)) (fun _ _ _ _ _ => pg_name (i := 2) sc_is_word.nd rfl (Or.inl rfl)) (fun _ _ _ _ _ => pts_nil) (fun _ _ _ _ _ => (pe_cmpR (opK_in (K := K) rfl T.d_OTHER_LETTER) (pv 2) (pe_glob (v := .ref T.a_OTHER_LETTER) rfl T.c_OTHER_LETTER rfl) rfl))) pa_nil))))))), ?_⟩
  rintro es Φ ⟨r, rfl, hr2, k⟩ _
  have hlen : ((wordL r).length : Int) = r.sum := len_word hr2.1
  have hsum := hr2.2
  walk_at "d"
  refine ⟨_, isT_str _, ?_⟩
  walk_at "d"
  refine rc_lenS (by rw [len_wd]; omega) ?_
  rw [len_wd, hlen]
  walk_at "d"
  refine ⟨fun _ => ?_, fun z => absurd (of_decide_eq_false z) (by omega)⟩
  walk_at "d"
  refine dw_fresh (df_lc (di_str ?_))
  walk_at "e"
  have hll : (lets (wd (wordL r))).length = (wordL r).length := by unfold lets; rw [List.length_map]; exact congrArg List.length (tl_wd _)
  refine ⟨_, rfl, by decide, by rw [hll]; omega, rfl, fun i out ρ' => out = (List.replicate i true).map PyData.bool ∧ ρ' = [some (.val (.str (wd (wordL r)))), some (.val (.int 40)), none], ⟨rfl, rfl⟩, ?_, ?_⟩
  · rintro i d out ρ' hd ⟨rfl, rfl⟩ _
    unfold lets at hd
    rw [List.getElem?_map] at hd
    obtain ⟨c, hc, rfl⟩ : ∃ c, (wd (wordL r)).cps.toList[i]? = some c ∧ d = .str ⟨#[c]⟩ := by
      cases hx : (wd (wordL r)).cps.toList[i]? with
      | none => rw [hx] at hd; exact nomatch hd
      | some e => rw [hx] at hd; cases hd; exact ⟨e, rfl, rfl⟩
    have hm : c ∈ wordL r := by
      have := List.mem_of_getElem? hc
      rwa [show (wd (wordL r)).cps.toList = wordL r from tl_wd _] at this
    refine dt_yes ⟨fun _ => dw_inK ?_, fun z => (nomatch z)⟩
    walk_at "e"
    have key : PySem.W.nsIn K T.a_OTHER_LETTER ⟨#[c]⟩ = some (some T.vx) ∨ PySem.W.nsIn K T.a_OTHER_LETTER ⟨#[c]⟩ = some (some T.vy) := by
      rcases word_all r c hm with rfl | rfl
      · refine .inl ?_
        rw [show (⟨#[120]⟩ : Str) = Str.ofString "x" from xS.symm]
        exact T.in_x
      · refine .inr ?_
        rw [show (⟨#[121]⟩ : Str) = Str.ofString "y" from yS.symm]
        exact T.in_y
    rcases key with key | key
    · refine ⟨_, _, rfl, key, ?_, rfl⟩
      rw [List.replicate_succ', List.map_append]
      rfl
    · refine ⟨_, _, rfl, key, ?_, rfl⟩
      rw [List.replicate_succ', List.map_append]
      rfl
  rintro out ρ' ⟨rfl, rfl⟩
  walk_at "e"
  refine rc_all ?_
  have ea : (List.replicate (lets (wd (wordL r))).length true).all id = true := by simp
  rw [ea]
  walk_at "e"
  exact k
theorem ok_row_of (T : Txt w K mg) (D : TD K mg "row_of" s_row_of P_row_of) (G_is_word : Cal P w K mg base 1 "is_word" P_is_word (spD K 2 wIsWord)) : FnOk P w K mg base CX0 2 D.f D.fd P_row_of (spD K 1 wRowOf) := by
  refine fn_data D.F sc_row_of rfl fun cdv A outer s H E hr => ?_
  have hu := hr.units
  refine ⟨_, (pss_cons (ps_if (PW.pt (pw_or (pt_not (pt_val (pe_call G_is_word.ok (hr.mono (by decide)) rfl G_is_word.m G_is_word.kp G_is_word.b .nil pass0 (pa_cons (pv 0) (pa_cons (pe_glob (v := .int 40) rfl T.c_MAX_WEIGHT ⟨_, rfl⟩) pa_nil))))) (pw_or1 (PW.pt (pw_and (pt_cmpR (opA_ne hu) (pv 0) pe_str (nomark _)) (pw_and1 (pt_cmpR (opA_ne hu) (pe_ix ix_seq (pv 0) (pe_un un_neg pe_int) (fun _ _ => rfl)) pe_str (nomark _)))))))) (pss_one ps_never) pss_nil) (pss_one (ps_ret (pe_callTy cr_tupOf rfl T.n_tuple (by decide +kernel) (pa_cons (pe_lc (own := [("run", 1)]) (g := gName 1) (tt := tYes) rfl sc_row_of.nd (pi_list (pe_slice slB (pe_split (pv 0) pe_str) po_none (po_some (pe_un un_neg pe_int)))) (blkOk_by (own := [("run", 1)]) (N := N_row_of) (sc := defScope s_row_of) (by decide +kernel)) (fun _ _ _ _ _ => pg_name (i := 1) sc_row_of.nd rfl (Or.inl rfl)) (fun _ _ _ _ _ => pts_nil) (fun _ _ _ _ _ => (pe_op (opK_add (K := K) rfl) (pe_callB (crK_len (K := K) rfl) rfl T.n_len (by decide +kernel) (pa_cons (pv 1) pa_nil)) pe_int))) pa_nil))))), ?_⟩
  rintro es Φ ⟨r, rfl, hr2, k⟩ _
  have hlen : ((wordL r).length : Int) = r.sum := len_word hr2.1
  have hsum := hr2.2
  walk_at "d"
  refine ⟨rfl, r, rfl, hr2, ?_⟩
  walk_at "e"
  have goal2 : DW K 1 (tLc (iList K (tSl (DL.rSlB K) (tM1 rSplit (tVar 0) (tC (V.str (Str.ofString "y")))) tNoPart (tPart (tUn (rU fun i => V.int (-i)) (tC (V.int 1)))))) (gName 1) tYes (tOp (rAddB K) (tCB (DL.rLen K) (tCons (tVar 1) tNil)) (tC (V.int 1))) [1])
      [some (.val (.str (wd (wordL r)))), none] fun x ρ1 => DA K 1 tNil ρ1 fun xs ρ2 => RC (rTupOf K) K (x :: xs) fun z => Φ z (finE 0 [Ent.val (PyData.str (wd (wordL r)))] ρ2) := by
    refine dw_fresh (df_lc (di_lst ?_))
    refine dw_slH ?_
    refine dw_m1 ?_
    walk_at "e"
    refine ⟨_, rfl, ?_⟩
    walk_at "e"
    rw [yS]
    refine rd_split rfl (by rw [len_wd]; omega) ?_
    rw [split_word, List.map_append]
    walk_at "e"
    refine ⟨_, rfl, rs_lst ?_⟩
    show ∃ ds, PyData.list (cutD (_ ++ [PyData.str (wd [])]) none (some (-1))) = PyData.list ds ∧ _
    rw [dropLast_app]
    have hl := hr2.len
    refine ⟨_, rfl, by decide, by simp; omega, rfl, fun i out ρ' => out = (r.take i).map PyData.int ∧ ρ' = [some (.val (.str (wd (wordL r)))), none], ⟨rfl, rfl⟩, ?_, ?_⟩
    · rintro i d out ρ' hd ⟨rfl, rfl⟩ _
      rw [List.getElem?_map, List.getElem?_map] at hd
      obtain ⟨e, he, rfl⟩ : ∃ e, r[i]? = some e ∧ d = .str (wd (List.replicate (e - 1).toNat 120)) := by
        cases hx : r[i]? with
        | none => rw [hx] at hd; exact nomatch hd
        | some e => rw [hx] at hd; cases hd; exact ⟨e, rfl, rfl⟩
      have hm := List.mem_of_getElem? he
      have e1 := hr2.1 e hm
      have e2 := ones_le hr2.1 hm
      walk_at "e"
      refine rc_lenS (by rw [len_wd, List.length_replicate]; omega) ?_
      walk_at "e"
      refine ⟨?_, rfl⟩
      rw [← take_snoc he, List.map_append]
      rw [len_wd, List.length_replicate]
      have : (((e - 1).toNat : Nat) : Int) + 1 = e := by omega
      rw [this]
      rfl
    · rintro out ρ' ⟨rfl, rfl⟩
      have e : r.take (List.map PyData.str (List.map (fun e => wd (List.replicate (e - 1).toNat 120)) r)).length = r := by simp
      rw [e]
      walk_at "e"
      exact k
  rw [eS]
  refine rd_neT ?_
  by_cases hn : r = []
  · subst hn
    walk_at "e"
    exact goal2
  · have hw : wordL r ≠ [] := fun z => hn (word_nil.mp z)
    have hd : (!decide (wd (wordL r) = wd [])) = true := by
      have : wd (wordL r) ≠ wd [] := fun z => hw (wd_inj z)
      simp [this]
    rw [hd]
    walk_at "e"
    refine rd_ixS (c := 121) (by rw [len_wd]; omega) ?_ ?_
    · show atI (TL.tl (wd (wordL r))) (-1) = some 121
      rw [tl_wd, ← word_last r hn]
      exact atI_last _ hw
    · walk_at "e"
      refine rd_neT ?_
      have ey : (!decide ((⟨#[121]⟩ : Str) = Str.ofString "y")) = false := by decide +kernel
      rw [ey]
      walk_at "e"
      exact goal2
end
end K04
namespace K04
open PySem L2 PySem.Spec PyProof.Rows DL
local macro_rules | `(tactic| walk_at "d0") => `(tactic| first
  | (with_reducible refine ds_seq ?_) | (with_reducible refine ds_next ?_) | (with_reducible refine ds_ret ?_) | (with_reducible refine ds_drop ?_) | (with_reducible refine ds_setO ?_) | (with_reducible refine ds_asg ?_)
  | ((with_reducible show DW _ _ (tOp (rIx _) (tVar _) (tC (.int _))) _ _); refine dw_ixO rfl (dw_int ⟨_, _, _, rfl, rfl, rfl, ?_⟩))
  | ((with_reducible show DW _ _ (tOp (rIx _) (tVar _) _) _ _); refine dw_ixO rfl ?_)
  | (with_reducible refine dw_lst ?_)
  | (with_reducible refine dw_isi ?_) | (with_reducible refine dw_op ?_) | (with_reducible refine dw_un ?_) | (with_reducible refine dw_int ?_) | (with_reducible refine dw_bl ?_) | (with_reducible refine dw_str ?_) | (with_reducible refine dw_non ?_)
  | ((with_reducible show DW _ _ (tVar _) _ _); refine dw_var rfl ?_)
  | (with_reducible refine dw_andV ?_) | (with_reducible refine dw_orV ?_) | (with_reducible refine dw_notV ?_) | (with_reducible refine dw_tup ?_) | (with_reducible refine dw_chain ?_)
  | (with_reducible refine da_nil ?_) | (with_reducible refine da_cons ?_)
  | (with_reducible refine dt_test ?_) | (with_reducible refine dt_B ?_) | (with_reducible refine dt_and ?_) | (with_reducible refine dt_or ?_) | (with_reducible refine dt_not ?_) | (with_reducible refine dt_yes ?_)
  | ((with_reducible show DW _ _ (tCall _ _ _ (tCons (tVar _) _)) _ _); refine dw_callO rfl ?_)
  | (with_reducible refine dw_call ?_) | (with_reducible refine dw_fresh (df_call ?_)) | (with_reducible refine dw_cb ?_)
  | (with_reducible refine rd_addBI ?_) | (with_reducible refine rc_tupL ?_) | (with_reducible refine rc_lstT ?_) | (with_reducible refine rc_reprB ?_) | (with_reducible refine rd_isB ?_) | (with_reducible refine rs_tup ?_) | (with_reducible refine rs_lst ?_) | (with_reducible refine dw_slH ?_) | (with_reducible refine dw_slL ?_) | (with_reducible refine dw_dnew ?_) | (with_reducible refine dw_m1 ?_) | (with_reducible refine rd_i0 ?_) | (with_reducible refine rd_b0 ?_) | (with_reducible refine ru_i ?_) | (with_reducible refine rc_int ?_) | (with_reducible refine rc_intB ?_) | (with_reducible refine rc_abs ?_) | (with_reducible refine rc_max ?_) | (with_reducible refine rc_min ?_) | (with_reducible refine rc_gcd ?_) | (with_reducible refine rc_lenL ?_) | (with_reducible refine rc_lenT ?_)
  | ((with_reducible show RD (rIx _) _ (.tuple _) _ _); refine rd_ixT rfl ?_) | ((with_reducible show RD (rIx _) _ (.list _) _ _); refine rd_ixL rfl ?_)
  | ((with_reducible refine dg_name ?hj ?_); (case hj => first | exact .inl (by decide) | exact .inr (noLst_val rfl) | exact .inr (noLst_none rfl)))
  | ((with_reducible show ∃ b, PyData.bool _ = PyData.bool b ∧ _); refine ⟨_, rfl, ?_⟩)
  | ((with_reducible show RD (rEqA _) _ (.int _) (.int _) _); refine rd_eq rfl rfl ?_) | ((with_reducible show RD (rNeA _) _ (.int _) (.int _) _); refine rd_ne rfl rfl ?_)
  | ((with_reducible show DW _ _ (tTup _) _ _); refine dw_tup ?_) | ((with_reducible show List.length _ ≤ 100000 ∧ _); refine ⟨Nat.le_of_ble_eq_true rfl, ?_⟩)
  | (((with_reducible show (_ = true → _) ∧ (_ = false → _)); first | (refine ⟨fun _ => ?_, fun z => Bool.noConfusion (show true = false from z)⟩) | (refine ⟨fun z => Bool.noConfusion (show false = true from z), fun _ => ?_⟩)))
  | (((with_reducible show (_ = false → _) ∧ (_ = true → _)); first | (refine ⟨fun _ => ?_, fun z => Bool.noConfusion (show false = true from z)⟩) | (refine ⟨fun z => Bool.noConfusion (show true = false from z), fun _ => ?_⟩)))
  | (with_reducible refine dgs_nil ?_) | (with_reducible refine dgs_cons ?_))
local macro_rules | `(tactic| walk_at "d1") => `(tactic| first | walk_at "d0" | (with_reducible refine ds_if ?_) | (with_reducible refine dw_if ?_))
local macro_rules | `(tactic| walk_at "e") => `(tactic| ((try dsimp only [cxOf, Cx.nox, Cx.wish]); repeat (walk_at "d0")))
local macro_rules | `(tactic| walk_at "d") => `(tactic| ((try dsimp only [cxOf, Cx.nox, Cx.wish]); repeat (walk_at "d1")))

abbrev s__law_dice : Stmt := topS 17
abbrev N__law_dice : List Str := ["_law_script", "_law_spot", "_law_cell", "_law_left"]
abbrev P__law_dice : List Str := ["_law_script", "_law_spot"]
theorem sc__law_dice : FnScope N__law_dice P__law_dice (defScope s__law_dice) := ⟨rfl, rfl, rfl, by decide +kernel, rfl, by decide +kernel, by decide +kernel⟩
abbrev s__law_roll : Stmt := topS 18
abbrev N__law_roll : List Str := ["_law_dice_here", "_law_total", "_law_found", "_law_one", "_law_two"]
abbrev P__law_roll : List Str := ["_law_dice_here", "_law_total"]
theorem sc__law_roll : FnScope N__law_roll P__law_roll (defScope s__law_roll) := ⟨rfl, rfl, rfl, by decide +kernel, rfl, by decide +kernel, by decide +kernel⟩
abbrev s__law_pick : Stmt := topS 19
abbrev N__law_pick : List Str := ["_law_dice_here", "_law_items"]
abbrev P__law_pick : List Str := ["_law_dice_here", "_law_items"]
theorem sc__law_pick : FnScope N__law_pick P__law_pick (defScope s__law_pick) := ⟨rfl, rfl, rfl, by decide +kernel, rfl, by decide +kernel, by decide +kernel⟩
section
variable {P : Program} {w : World} {K : PySem.W.Frag} {mg : Str → Option Value} {base : Heap} {Ψ : PyData → Prop}
def B (k : Nat) (i : Int) : Prop := i.natAbs < 2 ^ k
theorem rdm_S {i j : Int} (h : CMul i j) (k : Ψ (.int (i * j))) : RD (rMulB K) K (.int i) (.int j) Ψ := rd_mulBC (.inr h) k
theorem rdm_I {i j : Int} (h : CMulW i j) (k : Ψ (.int (i * j))) : RD (rMulB K) K (.int i) (.int j) Ψ := rd_mulBC (.inl h) k
/-- the dice -/
abbrev dice (l s t : Int) : Ent := .lst [.int l, .int s, .int t]
def wRoll : SpW := fun es Φ => ∃ l s t n, es = [dice l s t, .val (.int n)] ∧ 0 ≤ l ∧ 0 < n ∧ B 1000 n ∧ ∀ r l' t', 0 ≤ r → r < n → 0 ≤ l' → Φ (.int r) [dice l' s t', .val (.int n)]
theorem fm {a n : Int} (h : 0 < n) : 0 ≤ a.fmod n ∧ a.fmod n < n := ⟨Int.fmod_nonneg_of_pos _ h, Int.fmod_lt_of_pos _ h⟩
theorem ok_roll (T : Txt w K mg) (D : TD K mg "_law_roll" s__law_roll P__law_roll) : FnOk P w K mg base CX0 1 D.f D.fd P__law_roll (spD K 2 wRoll) := by
  refine fn_data D.F sc__law_roll rfl fun cdv A outer s H E hr => ?_
  refine ⟨_, (pss_cons (ps_if (pt_cmpR op_gt (pe_ix ix_seq (pv 0) pe_int (fun _ _ => rfl)) pe_int (nomark _)) (pss_cons (ps_set (i := 2) sc__law_roll.nd rfl (Or.inl rfl) (pe_op op_modN (pe_callTy call_int1 rfl T.n_int (by decide +kernel) (pa_cons (pe_ix ix_seq (pv 0) pe_int (fun _ _ => rfl)) pa_nil)) (pv 1))) (pss_cons (ps_asg (pe_op opA_fdiv (pe_ix ix_seq (pv 0) pe_int (fun _ _ => rfl)) (pv 1)) (pg_sub (pv 0) pe_int set_list)) (pss_one (ps_ret (pv 2))))) pss_nil) (pss_cons (ps_asg (pe_op (opK_add (K := K) rfl) (pe_ix ix_seq (pv 0) pe_int (fun _ _ => rfl)) pe_int) (pg_sub (pv 0) pe_int set_list)) (pss_cons (ps_set (i := 3) sc__law_roll.nd rfl (Or.inl rfl) (pe_op op_modN (pe_callTy call_int1 rfl T.n_int (by decide +kernel) (pa_cons (pe_op (opK_add (K := K) rfl) (pe_ix ix_seq (pv 0) pe_int (fun _ _ => rfl)) (pe_op (opK_mul (K := K) rfl) pe_int (pe_ix ix_seq (pv 0) pe_int (fun _ _ => rfl)))) pa_nil)) pe_int)) (pss_cons (ps_set (i := 4) sc__law_roll.nd rfl (Or.inl rfl) (pe_op (opK_add (K := K) rfl) (pe_op (opK_mul (K := K) rfl) (pe_op op_modN (pe_callTy call_int1 rfl T.n_int (by decide +kernel) (pa_cons (pe_op (opK_add (K := K) rfl) (pe_op (opK_mul (K := K) rfl) (pv 3) (pv 3)) (pe_op (opK_mul (K := K) rfl) pe_int (pe_ix ix_seq (pv 0) pe_int (fun _ _ => rfl)))) pa_nil)) pe_int) pe_int) (pv 3))) (pss_one (ps_ret (pe_op op_modN (pe_callTy call_int1 rfl T.n_int (by decide +kernel) (pa_cons (pe_op opA_fdiv (pv 4) pe_int) pa_nil)) (pv 1)))))))), ?_⟩
  rintro es Φ ⟨l, s, t, n, rfl, hl, hn, hB, k⟩ _
  have hn0 : n ≠ 0 := by omega
  have hd : ∀ i, CDivA i n := fun i => ⟨hn0, by
    have : n.natAbs.log2 < 1000 := (Nat.log2_lt (by omega)).mpr hB
    omega⟩
  walk_at "e"
  refine ds_if ?_
  walk_at "e"
  refine ⟨fun h => ?_, fun h => ?_⟩
  · have h : 0 < l := of_decide_eq_true h
    walk_at "e"
    refine rd_i hn0 ?_
    walk_at "e"
    refine rd_i (hd _) ⟨⟨_, rfl⟩, ?_⟩
    walk_at "e"
    refine ⟨0, _, rfl, rfl, by show (0 : Nat) < 3; decide, ?_⟩
    walk_at "e"
    exact k _ _ _ (fm hn).1 (fm hn).2 (Int.fdiv_nonneg hl (by omega))
  · walk_at "e"
    refine ⟨⟨_, rfl⟩, ?_⟩
    walk_at "e"
    refine ⟨2, _, rfl, rfl, by show (2 : Nat) < 3; decide, ?_⟩
    walk_at "e"
    refine rdm_S (.inl (by decide)) ?_
    walk_at "e"
    refine rd_i (by decide) ?_
    walk_at "e"
    have h1 := fm (a := s + 86028157 * (t + 1)) (n := 2305843009213693669) (by decide)
    refine rdm_S (.inl ⟨by omega, by omega⟩) ?_
    walk_at "e"
    refine rdm_S (.inl (by decide)) ?_
    walk_at "e"
    refine rd_i (by decide) ?_
    walk_at "e"
    refine rdm_S (.inr (by decide)) ?_
    walk_at "e"
    refine rd_i ⟨by decide, by decide⟩ ?_
    walk_at "e"
    refine rd_i hn0 ?_
    exact k _ _ _ (fm hn).1 (fm hn).2 hl
def wPick : SpW := fun es Φ => ∃ (l s t : Int) (ds : List PyData), es = [dice l s t, .val (.list ds)] ∧ 0 ≤ l ∧ 0 < ds.length ∧ ds.length < 1000 ∧ ∀ (i : Nat) (d : PyData) (l' t' : Int), ds[i]? = some d → 0 ≤ l' → Φ d [dice l' s t', .val (.list ds)]
theorem ok_pick (T : Txt w K mg) (D : TD K mg "_law_pick" s__law_pick P__law_pick) (G__law_roll : Cal P w K mg base 1 "_law_roll" P__law_roll (spD K 2 wRoll)) : FnOk P w K mg base CX0 2 D.f D.fd P__law_pick (spD K 2 wPick) := by
  refine fn_data D.F sc__law_pick rfl fun cdv A outer s H E hr => ?_
  refine ⟨_, (pss_one (ps_ret (pe_ix ix_seq (pv 1) (pe_call G__law_roll.ok (hr.mono (by decide)) rfl G__law_roll.m G__law_roll.kp G__law_roll.b .nil pass0 (pa_cons (pv 0) (pa_cons (pe_callB (crK_len (K := K) rfl) rfl T.n_len (by decide +kernel) (pa_cons (pv 1) pa_nil)) pa_nil))) (fun _ _ => rfl)))), ?_⟩
  rintro es Φ ⟨l, s, t, ds, rfl, hl, h0, h1, k⟩ _
  walk_at "e"
  refine ⟨rfl, _, rfl, l, s, t, _, rfl, hl, by omega, ?_, ?_⟩
  · unfold B
    have : ((ds.length : Nat) : Int).natAbs < 1000 := by omega
    exact Nat.lt_trans this (by decide)
  · intro r l' t' r0 r1 hl' ds2 rest e
    cases e
    obtain ⟨i, rfl⟩ : ∃ i : Nat, r = (i : Int) := ⟨r.toNat, by omega⟩
    have hi : i < ds.length := by omega
    exact rd_ixL (atI_nat (List.getElem?_eq_getElem hi)) (k i _ l' t' (List.getElem?_eq_getElem hi) hl')
def wDice : SfW := fun es Ψ => ∃ (ns : List Int) (i : Nat), es = [.val (.list (ns.map .int)), .val (.int i)] ∧ i < 1000 ∧ ∀ l s, 0 ≤ l → Ψ [.int l, .int s, .int 0] es
theorem ok_dice (T : Txt w K mg) (D : TD K mg "_law_dice" s__law_dice P__law_dice) : FnOk P w K mg base CX0 1 D.f D.fd P__law_dice (spF K 2 wDice) := by
  refine fn_dataF D.F sc__law_dice rfl fun cdv A outer s H E hr => ?_
  refine ⟨_, (pss_cons (ps_set (i := 2) sc__law_dice.nd rfl (Or.inl rfl) (pe_ifExp (pt_cmpR op_lt (pv 1) (pe_callB (crK_len (K := K) rfl) rfl T.n_len (by decide +kernel) (pa_cons (pv 0) pa_nil)) (nomark _)) (pe_callTy call_int1 rfl T.n_int (by decide +kernel) (pa_cons (pe_ix ix_seq (pv 0) (pv 1) (fun _ _ => rfl)) pa_nil)) (pe_op (opK_add (K := K) rfl) (pe_op (opK_mul (K := K) rfl) pe_int (pv 1)) pe_int))) (pss_cons (ps_set (i := 3) sc__law_dice.nd rfl (Or.inl rfl) (pe_op op_modN (pe_callB (call_max2 rfl) rfl T.n_max (by decide +kernel) (pa_cons pe_int (pa_cons (pe_op op_sub (pe_callB call_abs rfl T.n_abs (by decide +kernel) (pa_cons (pv 2) pa_nil)) (pe_op op_pow pe_int pe_int)) pa_nil))) (pe_op (opK_mul (K := K) rfl) (pe_op op_pow pe_int pe_int) (pe_op op_pow pe_int pe_int)))) (pss_one (ps_ret (pe_lst (pa_cons (pv 3) (pa_cons (pe_op (opK_add (K := K) rfl) (pe_op (opK_add (K := K) rfl) (pe_op (opK_add (K := K) rfl) (pe_op (opK_mul (K := K) rfl) (pe_op op_modN (pe_callB call_abs rfl T.n_abs (by decide +kernel) (pa_cons (pv 2) pa_nil)) pe_int) pe_int) (pe_op (opK_mul (K := K) rfl) pe_int (pv 1))) (pe_op (opK_mul (K := K) rfl) pe_int (pe_callTy call_int1 rfl T.n_int (by decide +kernel) (pa_cons (pe_cmpR op_lt (pv 2) pe_int (nomark _)) pa_nil)))) pe_int) (pa_cons pe_int pa_nil)))))))), ?_⟩
  rintro es Φ ⟨ns, i, rfl, hi, kk⟩ _
  try dsimp only [cxOf, Cx.nox, Cx.wish]
  refine ds_seq (ds_asg (dw_mid (fun d => ∃ c, d = .int c) ?_ ?_))
  · refine dw_if ?_
    walk_at "e"
    refine ⟨fun h => ?_, fun h => ?_⟩
    · have h : (i : Int) < ((ns.map PyData.int).length : Nat) := of_decide_eq_true h
      rw [List.length_map] at h
      walk_at "e"
      have hx : (ns.map PyData.int)[i]? = some (.int (ns[i]'(by omega))) := by
        rw [List.getElem?_map, List.getElem?_eq_getElem (by omega)]
        rfl
      refine rd_ixL (atI_nat hx) ?_
      walk_at "e"
      exact ⟨⟨_, rfl⟩, rfl⟩
    · walk_at "e"
      refine rdm_S (.inl (by decide)) ?_
      walk_at "e"
      exact ⟨⟨_, rfl⟩, rfl⟩
  rintro d ⟨c, rfl⟩
  refine dg_name (.inl (by decide)) ?_
  refine ds_seq (ds_asg (dw_mid (fun d => ∃ l, 0 ≤ l ∧ d = .int l) ?_ ?_))
  · walk_at "e"
    refine rd_i ⟨by decide, by decide, by decide⟩ ?_
    walk_at "e"
    refine rd_i ⟨by decide, by decide, by decide⟩ ?_
    walk_at "e"
    refine rd_i ⟨by decide, by decide, by decide⟩ ?_
    walk_at "e"
    refine rdm_I (by unfold CMulW; decide) ?_
    walk_at "e"
    refine rd_i (by decide) ?_
    exact ⟨⟨_, Int.fmod_nonneg_of_pos _ (by decide), rfl⟩, rfl⟩
  rintro d ⟨l, hl, rfl⟩
  refine dg_name (.inl (by decide)) ?_
  refine ds_retF (df_lst ?_)
  walk_at "e"
  refine rd_i (by decide) ?_
  walk_at "e"
  refine rdm_S (.inr (by decide)) ?_
  walk_at "e"
  refine rdm_S (.inl (by decide)) ?_
  walk_at "e"
  refine rdm_S (.inl (by decide)) ?_
  walk_at "e"
  exact kk _ _ hl
end
end K04
namespace K04
open PySem L2 PySem.Spec PyProof.Rows DL
local macro_rules | `(tactic| walk_at "d0") => `(tactic| first
  | (with_reducible refine ds_seq ?_) | (with_reducible refine ds_next ?_) | (with_reducible refine ds_ret ?_) | (with_reducible refine ds_drop ?_) | (with_reducible refine ds_setO ?_) | (with_reducible refine ds_asg ?_)
  | ((with_reducible show DW _ _ (tOp (rIx _) (tVar _) (tC (.int _))) _ _); refine dw_ixO rfl (dw_int ⟨_, _, _, rfl, rfl, rfl, ?_⟩))
  | ((with_reducible show DW _ _ (tOp (rIx _) (tVar _) _) _ _); refine dw_ixO rfl ?_)
  | (with_reducible refine dw_lst ?_)
  | (with_reducible refine dw_isi ?_) | (with_reducible refine dw_op ?_) | (with_reducible refine dw_un ?_) | (with_reducible refine dw_int ?_) | (with_reducible refine dw_bl ?_) | (with_reducible refine dw_str ?_) | (with_reducible refine dw_non ?_)
  | ((with_reducible show DW _ _ (tVar _) _ _); refine dw_var rfl ?_)
  | (with_reducible refine dw_andV ?_) | (with_reducible refine dw_orV ?_) | (with_reducible refine dw_notV ?_) | (with_reducible refine dw_tup ?_) | (with_reducible refine dw_chain ?_)
  | (with_reducible refine da_nil ?_) | (with_reducible refine da_cons ?_)
  | (with_reducible refine dt_test ?_) | (with_reducible refine dt_B ?_) | (with_reducible refine dt_and ?_) | (with_reducible refine dt_or ?_) | (with_reducible refine dt_not ?_) | (with_reducible refine dt_yes ?_)
  | ((with_reducible show DW _ _ (tCall _ _ _ (tCons (tVar _) _)) _ _); refine dw_callO rfl ?_)
  | (with_reducible refine dw_call ?_) | (with_reducible refine dw_fresh (df_call ?_)) | (with_reducible refine dw_cb ?_)
  | (with_reducible refine rd_addBI ?_) | (with_reducible refine rc_tupL ?_) | (with_reducible refine rc_lstT ?_) | (with_reducible refine rc_reprB ?_) | (with_reducible refine rd_isB ?_) | (with_reducible refine rs_tup ?_) | (with_reducible refine rs_lst ?_) | (with_reducible refine dw_slH ?_) | (with_reducible refine dw_slL ?_) | (with_reducible refine dw_dnew ?_) | (with_reducible refine dw_m1 ?_) | (with_reducible refine rd_i0 ?_) | (with_reducible refine rd_b0 ?_) | (with_reducible refine ru_i ?_) | (with_reducible refine rc_int ?_) | (with_reducible refine rc_intB ?_) | (with_reducible refine rc_abs ?_) | (with_reducible refine rc_max ?_) | (with_reducible refine rc_min ?_) | (with_reducible refine rc_gcd ?_) | (with_reducible refine rc_lenL ?_) | (with_reducible refine rc_lenT ?_)
  | ((with_reducible show RD (rIx _) _ (.tuple _) _ _); refine rd_ixT rfl ?_) | ((with_reducible show RD (rIx _) _ (.list _) _ _); refine rd_ixL rfl ?_)
  | ((with_reducible refine dg_name ?hj ?_); (case hj => first | exact .inl (by decide) | exact .inr (noLst_val rfl) | exact .inr (noLst_none rfl)))
  | ((with_reducible show ∃ b, PyData.bool _ = PyData.bool b ∧ _); refine ⟨_, rfl, ?_⟩)
  | ((with_reducible show RD (rEqA _) _ (.int _) (.int _) _); refine rd_eq rfl rfl ?_) | ((with_reducible show RD (rNeA _) _ (.int _) (.int _) _); refine rd_ne rfl rfl ?_)
  | ((with_reducible show DW _ _ (tTup _) _ _); refine dw_tup ?_) | ((with_reducible show List.length _ ≤ 100000 ∧ _); refine ⟨Nat.le_of_ble_eq_true rfl, ?_⟩)
  | (((with_reducible show (_ = true → _) ∧ (_ = false → _)); first | (refine ⟨fun _ => ?_, fun z => Bool.noConfusion (show true = false from z)⟩) | (refine ⟨fun z => Bool.noConfusion (show false = true from z), fun _ => ?_⟩)))
  | (((with_reducible show (_ = false → _) ∧ (_ = true → _)); first | (refine ⟨fun _ => ?_, fun z => Bool.noConfusion (show false = true from z)⟩) | (refine ⟨fun z => Bool.noConfusion (show true = false from z), fun _ => ?_⟩)))
  | (with_reducible refine dgs_nil ?_) | (with_reducible refine dgs_cons ?_))
local macro_rules | `(tactic| walk_at "d1") => `(tactic| first | walk_at "d0" | (with_reducible refine ds_if ?_) | (with_reducible refine dw_if ?_))
local macro_rules | `(tactic| walk_at "e") => `(tactic| ((try dsimp only [cxOf, Cx.nox, Cx.wish]); repeat (walk_at "d0")))
local macro_rules | `(tactic| walk_at "d") => `(tactic| ((try dsimp only [cxOf, Cx.nox, Cx.wish]); repeat (walk_at "d1")))

abbrev s__law_row_drawn : Stmt := topS 21
abbrev N__law_row_drawn : List Str := ["_law_dice_here", "_law_weight", "_law_found", "_law_left", "_law_entry"]
abbrev P__law_row_drawn : List Str := ["_law_dice_here", "_law_weight"]
theorem sc__law_row_drawn : FnScope N__law_row_drawn P__law_row_drawn (defScope s__law_row_drawn) := ⟨rfl, rfl, rfl, by decide +kernel, rfl, by decide +kernel, by decide +kernel⟩
abbrev s__law_row_menu : Stmt := topS 24
abbrev N__law_row_menu : List Str := ["_law_dice_here", "_law_way"]
abbrev P__law_row_menu : List Str := ["_law_dice_here"]
theorem sc__law_row_menu : FnScope N__law_row_menu P__law_row_menu (defScope s__law_row_menu) := ⟨rfl, rfl, rfl, by decide +kernel, rfl, by decide +kernel, by decide +kernel⟩
abbrev s__law_row_right : Stmt := topS 25
abbrev N__law_row_right : List Str := ["_law_row", "_law_word_here"]
abbrev P__law_row_right : List Str := ["_law_row"]
theorem sc__law_row_right : FnScope N__law_row_right P__law_row_right (defScope s__law_row_right) := ⟨rfl, rfl, rfl, by decide +kernel, rfl, by decide +kernel, by decide +kernel⟩
section
variable {P : Program} {w : World} {K : PySem.W.Frag} {mg : Str → Option Value} {base : Heap} {Ψ : PyData → Prop}
def elGood (d : PyData) : Prop := d.canLay0 = true ∧ d.depth ≤ 60
def Good (d : PyData) : Prop := ∀ ds, d = .tuple ds → ds.length ≤ 1000 ∧ ∀ e ∈ ds, elGood e
theorem layAll : ∀ {ds : List PyData}, (∀ e ∈ ds, elGood e) → PyData.canLayAll0 ds = true ∧ PyData.depthAll ds ≤ 60
  | [], _ => ⟨rfl, by simp [PyData.depthAll]⟩
  | d :: ds, h => by
    have h1 := h d List.mem_cons_self
    have h2 := layAll (ds := ds) fun e he => h e (List.mem_cons_of_mem _ he)
    refine ⟨?_, ?_⟩
    · show (d.canLay0 && PyData.canLayAll0 ds) = true
      rw [h1.1, h2.1]
      rfl
    · have a := h1.2
      have b := h2.2
      simp only [PyData.depthAll]
      omega
theorem sh_list {ds : List PyData} (h : ∀ e ∈ ds, elGood e) : SeqAt.shaped (.list ds) = true := by
  have := layAll h
  unfold SeqAt.shaped
  show (PyData.canLayAll0 ds && decide (PyData.depth (.list ds) ≤ 64)) = true
  rw [this.1, Bool.true_and]
  refine decide_eq_true ?_
  have e := this.2
  simp only [PyData.depth]
  omega
def badD (d : PyData) : Bool := !posD d
theorem ok_law_is_row (T : Txt w K mg) (D : TD K mg "_law_is_row" s__law_is_row P__law_is_row) (G__law_is_integer : Cal P w K mg base 1 "_law_is_integer" P__law_is_integer (spD K 1 wIsWhole)) : FnOk P w K mg base CX0 2 D.f D.fd P__law_is_row (spD K 1 fun es Φ => ∃ d, es = [.val d] ∧ Good d ∧ Φ (.bool (isRowD d)) es) := by
  refine fn_data D.F sc__law_is_row rfl fun cdv A outer s H E hr => ?_
  have hu := hr.units
  refine ⟨_, (pss_cons (ps_if (PW.pt (pw_or (pt_not (pt_val (pe_callB call_isi rfl T.n_isinstance (by decide +kernel) (pa_cons (pv 0) (pa_cons (pe_bltn (v := .ty "tuple") (u := .type "tuple") rfl T.n_tuple (by decide +kernel) rfl) pa_nil))))) (pw_or1 (pt_cmpR (opA_ne hu) (pe_lc (own := [("_law_entry", 1)]) (g := gName 1) (tt := _) rfl sc__law_is_row.nd (pi_tup (pv 0)) (blkOk_by (own := [("_law_entry", 1)]) (N := N__law_is_row) (sc := defScope s__law_is_row) (by decide +kernel)) (fun _ _ _ _ _ => pg_name (i := 1) sc__law_is_row.nd rfl (Or.inl rfl)) (fun _ _ _ _ _ => (pts_one (PW.pt (pw_or (pt_not (pt_val (pe_call G__law_is_integer.ok (hr.mono (by decide)) rfl G__law_is_integer.m G__law_is_integer.kp G__law_is_integer.b .nil pass0 (pa_cons (pv 1) pa_nil)))) (pw_or1 (pt_cmpR op_lt (pv 1) pe_int (nomark _))))))) (fun _ _ _ _ _ => (pv 1))) (pe_lst pa_nil) (nomark _))))) (pss_one (ps_ret pe_bl)) pss_nil) (pss_one (ps_ret (pe_cmpR op_le (pe_callB (cr_sumT rfl) rfl T.n_sum (by decide +kernel) (pa_cons (pv 0) pa_nil)) pe_int (nomark _))))), ?_⟩
  rintro es Φ ⟨d, rfl, hg, k⟩ _
  walk_at "d"
  refine ⟨_, isT_tupA d, _, rfl, ?_⟩
  cases d with
  | tuple ds =>
    have hg := hg ds rfl
    walk_at "e"
    refine dw_fresh (df_lc (di_tup ?_))
    walk_at "e"
    refine ⟨ds, rfl, by decide, by omega, rfl, fun i out ρ' => out = (ds.take i).filter badD ∧ ρ' = [some (.val (.tuple ds)), none], ⟨rfl, rfl⟩, ?_, ?_⟩
    · rintro i d out ρ' hd ⟨rfl, rfl⟩ _
      have ht : (ds.take (i + 1)).filter badD = (ds.take i).filter badD ++ (if badD d = true then [d] else []) := by
        rw [← take_snoc hd, List.filter_append]
        congr 1
        by_cases hb : badD d = true <;> simp [hb]
      walk_at "e"
      refine ⟨rfl, d, rfl, _, rfl, ?_⟩
      cases hi : isIntD d with
      | false =>
        have hb : badD d = true := by cases d <;> first | rfl | exact nomatch hi
        walk_at "e"
        refine ⟨?_, rfl⟩
        rw [ht, if_pos hb]
      | true =>
        cases d with
        | int j =>
          walk_at "e"
          refine ⟨fun h => ?_, fun h => ?_⟩
          · have hb : badD (.int j) = true := by
              have h : j < 1 := of_decide_eq_true h
              simp [badD, posD]
              omega
            walk_at "e"
            refine ⟨?_, rfl⟩
            rw [ht, if_pos hb]
          · have hb : badD (.int j) = false := by
              have h : ¬ j < 1 := of_decide_eq_false h
              simp [badD, posD]
              omega
            refine ⟨?_, rfl⟩
            rw [ht, hb]
            simp
        | _ => exact nomatch hi
    · rintro out ρ' ⟨rfl, rfl⟩
      rw [List.take_length]
      walk_at "e"
      refine rd_ne (sh_list fun e he => hg.2 e (List.mem_filter.mp he).1) rfl ?_
      cases hf : ds.filter badD with
      | nil =>
        have ha : ds.all posD = true := by
          rw [List.all_eq_true]
          intro x hx
          have := List.filter_eq_nil_iff.mp hf x hx
          simpa [badD] using this
        obtain ⟨r, o1, o2, o3⟩ := posD_ints ha
        subst o2
        walk_at "d"
        refine rc_sumT ?_
        walk_at "d"
        have e : isRowD (row r) = decide (r.sum ≤ 40) := by
          show ((r.map PyData.int).all posD && decide (((r.map PyData.int).map toI).sum ≤ 40)) = _
          rw [ha, map_toI, Bool.true_and]
        rw [e] at k
        exact k
      | cons x xs =>
        have hx : x ∈ ds.filter badD := by rw [hf]; exact List.mem_cons_self
        have ha : ds.all posD = false := by
          rw [List.all_eq_false]
          have := List.mem_filter.mp hx
          exact ⟨x, this.1, by simpa [badD] using this.2⟩
        walk_at "d"
        have e : isRowD (.tuple ds) = false := by
          show (ds.all posD && _) = false
          rw [ha, Bool.false_and]
        rw [e] at k
        exact k
  | _ =>
    walk_at "d"
    exact k
def wDrawn : SpW := fun es Φ => ∃ l s t m, es = [dice l s t, .val (.int m)] ∧ 0 ≤ l ∧ 0 ≤ m ∧ m ≤ 40 ∧ ∀ r l' t', Ones r → r.sum = m → 0 ≤ l' → Φ (row r) [dice l' s t', .val (.int m)]
theorem ok_drawn (T : Txt w K mg) (D : TD K mg "_law_row_drawn" s__law_row_drawn P__law_row_drawn) (G__law_roll : Cal P w K mg base 1 "_law_roll" P__law_roll (spD K 2 wRoll)) (G__law_pick : Cal P w K mg base 2 "_law_pick" P__law_pick (spD K 2 wPick)) : FnOk P w K mg base CX0 3 D.f D.fd P__law_row_drawn (spD K 2 wDrawn) := by
  refine fn_data D.F sc__law_row_drawn rfl fun cdv A outer s H E hr => ?_
  have hu := hr.units
  refine ⟨_, (pss_cons (ps_par rfl sc__law_row_drawn.nd (i := 2) (j := 3) rfl rfl (by decide) rfl rfl (pa_cons (pe_lst pa_nil) (pa_cons (pv 1) pa_nil)) rfl) (pss_cons (ps_while PassesOwn.never (pt_cmpR op_gt (pv 3) pe_int (nomark _)) (pss_cons (ps_set (i := 4) sc__law_row_drawn.nd rfl (Or.inl rfl) (pe_op (opK_add (K := K) rfl) pe_int (pe_call G__law_roll.ok (hr.mono (by decide)) rfl G__law_roll.m G__law_roll.kp G__law_roll.b .nil pass0 (pa_cons (pv 0) (pa_cons (pe_callB (call_min2 rfl) rfl T.n_min (by decide +kernel) (pa_cons (pv 3) (pa_cons (pe_call G__law_pick.ok (hr.mono (by decide)) rfl G__law_pick.m G__law_pick.kp G__law_pick.b .nil pass0 (pa_cons (pv 0) (pa_cons (pe_lst (pa_cons pe_int (pa_cons pe_int (pa_cons pe_int (pa_cons pe_int (pa_cons pe_int pa_nil)))))) pa_nil))) pa_nil))) pa_nil))))) (pss_cons (ps_expr (pe_bm PySem.F.plainAttrs_list PySem.F.slot_list_append PySem.F.type_list_append mt_append (pv 2) (pa_cons (pv 4) pa_nil))) (pss_one (ps_set (i := 3) sc__law_row_drawn.nd rfl (Or.inl rfl) (pe_op op_sub (pv 3) (pv 4))))))) (pss_one (ps_ret (pe_callTy cr_tupOf rfl T.n_tuple (by decide +kernel) (pa_cons (pv 2) pa_nil)))))), ?_⟩
  rintro es Φ ⟨l, s, t, m, rfl, hl, h0, h1, k⟩ _
  try dsimp only [cxOf, Cx.nox, Cx.wish]
  refine ds_seq (ds_parF (df_lst ?_))
  walk_at "e"
  refine ⟨_, rfl, by decide, by decide, ?_⟩
  refine ds_seq (ds_while ⟨fun n ρ' => ∃ (l t : Int) (r : List Int) (x : Option Ent), 0 ≤ l ∧ Ones r ∧ r.sum ≤ m ∧ n = (m - r.sum).toNat ∧ (x = none ∨ ∃ d, x = some (.val d)) ∧ ρ' = [some (dice l s t), some (.val (.int m)), some (.lst (r.map .int)), some (.val (.int (m - r.sum))), x], ⟨_, l, t, [], none, hl, (fun _ h => nomatch h), h0, rfl, .inl rfl, by simp⟩, ?_⟩)
  rintro n ρ' ⟨l, t, r, x, hl, o1, o2, hn, hx, rfl⟩
  walk_at "e"
  refine ⟨fun h => ?_, fun h => ?_⟩
  · have h : 0 < m - r.sum := of_decide_eq_true h
    walk_at "e"
    refine ⟨rfl, _, rfl, l, s, t, _, rfl, hl, by decide, by decide, ?_⟩
    intro i d l1 t1 hd hl1 ds2 rest e
    cases e
    obtain ⟨v, hv, rfl⟩ : ∃ v : Int, 1 ≤ v ∧ d = .int v := by
      have hm := List.mem_of_getElem? hd
      simp only [List.mem_cons, List.not_mem_nil, or_false] at hm
      rcases hm with rfl | rfl | rfl | rfl | rfl <;> exact ⟨_, by decide, rfl⟩
    walk_at "e"
    have hb : 0 < (if v < m - r.sum then v else m - r.sum) ∧ (if v < m - r.sum then v else m - r.sum) ≤ m - r.sum ∧ (if v < m - r.sum then v else m - r.sum) ≤ 40 := by
      have := ones_len o1
      split <;> omega
    generalize (if v < m - r.sum then v else m - r.sum) = N at hb
    refine ⟨rfl, _, rfl, l1, s, t1, N, rfl, hl1, hb.1, ?_, ?_⟩
    · unfold B
      have : N.natAbs < 64 := by omega
      exact Nat.lt_trans this (by decide)
    intro q l2 t2 q0 q1 hl2 ds2 rest e
    cases e
    refine rd_addBI ?_
    refine dg_name (.inl (by decide)) ?_
    refine ds_seq (ds_app rfl ?_)
    walk_at "e"
    have hlen := ones_len o1
    refine ⟨_, rfl, by rw [List.length_map]; omega, ?_⟩
    walk_at "e"
    have o3 : Ones (r ++ [1 + q]) := ones_app o1 (by intro e he; simp at he; omega)
    have es : (r ++ [1 + q]).sum = r.sum + (1 + q) := by simp
    refine ⟨(m - (r ++ [1 + q]).sum).toNat, by rw [es, hn]; omega, l2, t2, r ++ [1 + q], some (.val (.int (1 + q))), hl2, o3, by rw [es]; omega, rfl, .inr ⟨_, rfl⟩, ?_⟩
    rw [es, List.map_append]
    have : m - r.sum - (1 + q) = m - (r.sum + (1 + q)) := by omega
    rw [← this]
    rfl
  · have h : ¬ 0 < m - r.sum := of_decide_eq_false h
    refine ds_ret (dw_tupO rfl ?_)
    exact k r l t o1 (by omega) hl
theorem ones_rep (n : Nat) : Ones (List.replicate n 1) ∧ (List.replicate n (1 : Int)).sum = n := by
  refine ⟨fun e he => ?_, ?_⟩
  · rw [(List.mem_replicate.mp he).2]
    decide
  · induction n with
    | zero => rfl
    | succ n ih => rw [List.replicate_succ, List.sum_cons, ih]; omega
theorem rep_row (n : Nat) : (List.replicate n [PyData.int 1]).flatten = (List.replicate n (1 : Int)).map PyData.int := by
  induction n with
  | zero => rfl
  | succ n ih => rw [List.replicate_succ, List.flatten_cons, ih, List.replicate_succ]; rfl
def wMenu : SpW := fun es Φ => ∃ l s t, es = [dice l s t] ∧ 0 ≤ l ∧ ∀ r l' t', RowP r → 0 ≤ l' → Φ (row r) [dice l' s t']
theorem ok_menu (T : Txt w K mg) (D : TD K mg "_law_row_menu" s__law_row_menu P__law_row_menu) (G__law_roll : Cal P w K mg base 1 "_law_roll" P__law_roll (spD K 2 wRoll)) (G__law_row_drawn : Cal P w K mg base 3 "_law_row_drawn" P__law_row_drawn (spD K 2 wDrawn)) : FnOk P w K mg base CX0 4 D.f D.fd P__law_row_menu (spD K 1 wMenu) := by
  refine fn_data D.F sc__law_row_menu rfl fun cdv A outer s H E hr => ?_
  have hu := hr.units
  refine ⟨_, (pss_cons (ps_set (i := 1) sc__law_row_menu.nd rfl (Or.inl rfl) (pe_call G__law_roll.ok (hr.mono (by decide)) rfl G__law_roll.m G__law_roll.kp G__law_roll.b .nil pass0 (pa_cons (pv 0) (pa_cons pe_int pa_nil)))) (pss_cons (ps_if (pt_cmpR (opA_eq hu) (pv 1) pe_int (nomark _)) (pss_one (ps_ret (pe_op (opK_mul (K := K) rfl) (pe_tup (pa_cons pe_int pa_nil)) (pe_call G__law_roll.ok (hr.mono (by decide)) rfl G__law_roll.m G__law_roll.kp G__law_roll.b .nil pass0 (pa_cons (pv 0) (pa_cons pe_int pa_nil)))))) pss_nil) (pss_one (ps_ret (pe_call G__law_row_drawn.ok (hr.mono (by decide)) rfl G__law_row_drawn.m G__law_row_drawn.kp G__law_row_drawn.b .nil pass0 (pa_cons (pv 0) (pa_cons (pe_call G__law_roll.ok (hr.mono (by decide)) rfl G__law_roll.m G__law_roll.kp G__law_roll.b .nil pass0 (pa_cons (pv 0) (pa_cons (pe_ix ix_seq (pe_lst (pa_cons pe_int (pa_cons pe_int (pa_cons pe_int pa_nil)))) (pe_op op_sub (pv 1) pe_int) (fun _ _ => rfl)) pa_nil))) pa_nil))))))), ?_⟩
  rintro es Φ ⟨l, s, t, rfl, hl, k⟩ _
  walk_at "e"
  refine ⟨rfl, _, rfl, l, s, t, 4, rfl, hl, by decide, by unfold B; decide, ?_⟩
  intro y l1 t1 y0 y1 hl1 ds2 rest e
  cases e
  walk_at "e"
  refine ds_if ?_
  walk_at "e"
  obtain rfl | ⟨j, rfl, hj⟩ : y = 0 ∨ ∃ j : Nat, y = (j : Int) + 1 ∧ j < 3 := by
    by_cases h : y = 0
    · exact .inl h
    · exact .inr ⟨(y - 1).toNat, by omega, by omega⟩
  · walk_at "e"
    refine ⟨rfl, _, rfl, l1, s, t1, 41, rfl, hl1, by decide, by unfold B; decide, ?_⟩
    intro q l2 t2 q0 q1 hl2 ds2 rest e
    cases e
    obtain ⟨n, rfl⟩ := Int.eq_ofNat_of_zero_le q0
    refine rd_mulBT (by simp) (by simp) (by omega) ?_
    rw [rep_row]
    have := ones_rep n
    exact k _ l2 t2 ⟨this.1, by rw [this.2]; omega⟩ hl2
  · have e0 : PyData.eqv (.int ((j : Int) + 1)) (.int 0) = false := by
      show (((j : Int) + 1) == 0) = false
      simp
      omega
    rw [e0]
    walk_at "e"
    have hz : ∃ m : Int, 0 < m ∧ m ≤ 41 ∧ [PyData.int 13, PyData.int 41, PyData.int 8][j]? = some (.int m) := by
      match j, hj with
      | 0, _ => exact ⟨13, by decide, by decide, rfl⟩
      | 1, _ => exact ⟨41, by decide, by decide, rfl⟩
      | 2, _ => exact ⟨8, by decide, by decide, rfl⟩
    obtain ⟨m, m0, m1, hz⟩ := hz
    have ej : ((j : Int) + 1 - 1) = (j : Int) := by omega
    rw [ej]
    refine rd_ixL (atI_nat hz) ?_
    walk_at "e"
    refine ⟨rfl, _, rfl, l1, s, t1, m, rfl, hl1, m0, ?_, ?_⟩
    · unfold B
      have : m.natAbs < 64 := by omega
      exact Nat.lt_trans this (by decide)
    intro q l2 t2 q0 q1 hl2 ds2 rest e
    cases e
    walk_at "e"
    refine ⟨rfl, _, rfl, l2, s, t2, q, rfl, hl2, q0, by omega, ?_⟩
    intro r l3 t3 o1 o2 hl3 ds2 rest e
    cases e
    exact k r l3 t3 ⟨o1, by omega⟩ hl3
end
end K04
namespace K04
open PySem L2 PySem.Spec PyProof.Rows DL
local macro_rules | `(tactic| walk_at "d0") => `(tactic| first
  | (with_reducible refine ds_seq ?_) | (with_reducible refine ds_next ?_) | (with_reducible refine ds_ret ?_) | (with_reducible refine ds_drop ?_) | (with_reducible refine ds_setO ?_) | (with_reducible refine ds_asg ?_)
  | ((with_reducible show DW _ _ (tOp (rIx _) (tVar _) (tC (.int _))) _ _); refine dw_ixO rfl (dw_int ⟨_, _, _, rfl, rfl, rfl, ?_⟩))
  | ((with_reducible show DW _ _ (tOp (rIx _) (tVar _) _) _ _); refine dw_ixO rfl ?_)
  | (with_reducible refine dw_lst ?_)
  | (with_reducible refine dw_isi ?_) | (with_reducible refine dw_op ?_) | (with_reducible refine dw_un ?_) | (with_reducible refine dw_int ?_) | (with_reducible refine dw_bl ?_) | (with_reducible refine dw_str ?_) | (with_reducible refine dw_non ?_)
  | ((with_reducible show DW _ _ (tVar _) _ _); refine dw_var rfl ?_)
  | (with_reducible refine dw_andV ?_) | (with_reducible refine dw_orV ?_) | (with_reducible refine dw_notV ?_) | (with_reducible refine dw_tup ?_) | (with_reducible refine dw_chain ?_)
  | (with_reducible refine da_nil ?_) | (with_reducible refine da_cons ?_)
  | (with_reducible refine dt_test ?_) | (with_reducible refine dt_B ?_) | (with_reducible refine dt_and ?_) | (with_reducible refine dt_or ?_) | (with_reducible refine dt_not ?_) | (with_reducible refine dt_yes ?_)
  | ((with_reducible show DW _ _ (tCall _ _ _ (tCons (tVar _) _)) _ _); refine dw_callO rfl ?_)
  | (with_reducible refine dw_call ?_) | (with_reducible refine dw_fresh (df_call ?_)) | (with_reducible refine dw_cb ?_)
  | (with_reducible refine rd_addBI ?_) | (with_reducible refine rc_tupL ?_) | (with_reducible refine rc_lstT ?_) | (with_reducible refine rc_reprB ?_) | (with_reducible refine rd_isB ?_) | (with_reducible refine rs_tup ?_) | (with_reducible refine rs_lst ?_) | (with_reducible refine dw_slH ?_) | (with_reducible refine dw_slL ?_) | (with_reducible refine dw_dnew ?_) | (with_reducible refine dw_m1 ?_) | (with_reducible refine rd_i0 ?_) | (with_reducible refine rd_b0 ?_) | (with_reducible refine ru_i ?_) | (with_reducible refine rc_int ?_) | (with_reducible refine rc_intB ?_) | (with_reducible refine rc_abs ?_) | (with_reducible refine rc_max ?_) | (with_reducible refine rc_min ?_) | (with_reducible refine rc_gcd ?_) | (with_reducible refine rc_lenL ?_) | (with_reducible refine rc_lenT ?_)
  | ((with_reducible show RD (rIx _) _ (.tuple _) _ _); refine rd_ixT rfl ?_) | ((with_reducible show RD (rIx _) _ (.list _) _ _); refine rd_ixL rfl ?_)
  | ((with_reducible refine dg_name ?hj ?_); (case hj => first | exact .inl (by decide) | exact .inr (noLst_val rfl) | exact .inr (noLst_none rfl)))
  | ((with_reducible show ∃ b, PyData.bool _ = PyData.bool b ∧ _); refine ⟨_, rfl, ?_⟩)
  | ((with_reducible show RD (rEqA _) _ (.int _) (.int _) _); refine rd_eq rfl rfl ?_) | ((with_reducible show RD (rNeA _) _ (.int _) (.int _) _); refine rd_ne rfl rfl ?_)
  | ((with_reducible show DW _ _ (tTup _) _ _); refine dw_tup ?_) | ((with_reducible show List.length _ ≤ 100000 ∧ _); refine ⟨Nat.le_of_ble_eq_true rfl, ?_⟩)
  | (((with_reducible show (_ = true → _) ∧ (_ = false → _)); first | (refine ⟨fun _ => ?_, fun z => Bool.noConfusion (show true = false from z)⟩) | (refine ⟨fun z => Bool.noConfusion (show false = true from z), fun _ => ?_⟩)))
  | (((with_reducible show (_ = false → _) ∧ (_ = true → _)); first | (refine ⟨fun _ => ?_, fun z => Bool.noConfusion (show false = true from z)⟩) | (refine ⟨fun z => Bool.noConfusion (show true = false from z), fun _ => ?_⟩)))
  | (with_reducible refine dgs_nil ?_) | (with_reducible refine dgs_cons ?_))
local macro_rules | `(tactic| walk_at "d1") => `(tactic| first | walk_at "d0" | (with_reducible refine ds_if ?_) | (with_reducible refine dw_if ?_))
local macro_rules | `(tactic| walk_at "e") => `(tactic| ((try dsimp only [cxOf, Cx.nox, Cx.wish]); repeat (walk_at "d0")))
local macro_rules | `(tactic| walk_at "d") => `(tactic| ((try dsimp only [cxOf, Cx.nox, Cx.wish]); repeat (walk_at "d1")))

section
variable {P : Program} {w : World} {K : PySem.W.Frag} {mg : Str → Option Value} {base : Heap} {Ψ : PyData → Prop}
theorem eqv_list : ∀ r : List Int, PyData.eqvAll (r.map PyData.int) (r.map PyData.int) = true
  | [] => rfl
  | e :: r => by
    show (PyData.eqv (.int e) (.int e) && PyData.eqvAll (r.map PyData.int) (r.map PyData.int)) = true
    rw [eqv_list r, Bool.and_true]
    show (e == e) = true
    simp
theorem eqv_row (r : List Int) : PyData.eqv (row r) (row r) = true := eqv_list r
theorem cut1 (L : List Nat) : cutS (wd L) none (some 1) = wd (L.take 1) := by
  unfold cutS
  have e0 : HT.sIx (wd L).length 0 none = 0 := rfl
  have e1 : HT.sIx (wd L).length (wd L).length (some 1) = min 1 L.length := by rw [len_wd]; rfl
  rw [e0, e1]
  show wd (((TL.tl (wd L)).drop 0).take (min 1 L.length - 0)) = _
  rw [tl_wd]
  congr 1
  simp
theorem firm_first {r : List Int} (h : Ones r) : firmB r = !decide (wd ((wordL r).take 1) = wd [121]) := by
  have key := firm_word h
  have e : (wd ((wordL r).take 1) = wd [121]) ↔ (wordL r).head? = some 121 := by
    constructor
    · intro z
      have := wd_inj z
      cases hL : wordL r with
      | nil => rw [hL] at this; simp at this
      | cons c L => rw [hL] at this; simp at this; rw [this]; rfl
    · intro z
      cases hL : wordL r with
      | nil => rw [hL] at z; simp at z
      | cons c L => rw [hL] at z; simp at z; subst z; rfl
  have e2 : (wordL r = [] ∨ (wordL r).head? ≠ some 121) ↔ ¬ (wordL r).head? = some 121 := by
    constructor
    · rintro (z | z)
      · rw [z]; simp
      · exact z
    · exact fun z => .inr z
  unfold firmB
  rw [← decide_not]
  exact decide_eq_decide.mpr (key.trans (e2.trans (not_congr e.symm)))
def wRowRight : SpW := fun es Φ => ∃ r, es = [.val (row r)] ∧ RowP r ∧ Φ (.bool true) es
theorem ok_row_right (T : Txt w K mg) (D : TD K mg "_law_row_right" s__law_row_right P__law_row_right)
    (G_is_row : Cal P w K mg base 2 "is_row" P_is_row (spD K 1 wIsRow)) (G_is_firm : Cal P w K mg base 4 "is_firm" P_is_firm (spD K 1 wFirm)) (G_weight_of : Cal P w K mg base 4 "weight_of" P_weight_of (spD K 1 wWeight))
    (G_row_of : Cal P w K mg base 2 "row_of" P_row_of (spD K 1 wRowOf)) (G_word_of : Cal P w K mg base 4 "word_of" P_word_of (spD K 1 wWordOf)) (G__law_word : Cal P w K mg base 1 "_law_word" P__law_word (spD K 1 wWordOf)) : FnOk P w K mg base CX0 5 D.f D.fd P__law_row_right (spD K 1 wRowRight) := by
  refine fn_data D.F sc__law_row_right rfl fun cdv A outer s H E hr => ?_
  have hu := hr.units
  refine ⟨_, (pss_cons (ps_set (i := 1) sc__law_row_right.nd rfl (Or.inl rfl) (pe_call G__law_word.ok (hr.mono (by decide)) rfl G__law_word.m G__law_word.kp G__law_word.b .nil pass0 (pa_cons (pv 0) pa_nil))) (pss_cons (ps_if (PW.pt (pw_or (pt_cmpR (opA_ne hu) (pe_call G_word_of.ok (hr.mono (by decide)) rfl G_word_of.m G_word_of.kp G_word_of.b .nil pass0 (pa_cons (pv 0) pa_nil)) (pv 1) (nomark _)) (pw_or (pt_cmpR (opA_ne hu) (pe_call G_row_of.ok (hr.mono (by decide)) rfl G_row_of.m G_row_of.kp G_row_of.b .nil pass0 (pa_cons (pv 1) pa_nil)) (pv 0) (nomark _)) (pw_or (pt_cmpR (opA_ne hu) (pe_call G_weight_of.ok (hr.mono (by decide)) rfl G_weight_of.m G_weight_of.kp G_weight_of.b .nil pass0 (pa_cons (pv 0) pa_nil)) (pe_callB (crK_len (K := K) rfl) rfl T.n_len (by decide +kernel) (pa_cons (pv 1) pa_nil)) (nomark _)) (pw_or1 (pt_cmpR (opA_ne hu) (pe_call G_weight_of.ok (hr.mono (by decide)) rfl G_weight_of.m G_weight_of.kp G_weight_of.b .nil pass0 (pa_cons (pv 0) pa_nil)) (pe_callB (cr_sumT rfl) rfl T.n_sum (by decide +kernel) (pa_cons (pv 0) pa_nil)) (nomark _))))))) (pss_one (ps_ret pe_bl)) pss_nil) (pss_one (ps_ret (pe_and (pe_cmpR (opA_eq hu) (pe_callB cr_reprB rfl T.n_repr (by decide +kernel) (pa_cons (pe_call G_is_firm.ok (hr.mono (by decide)) rfl G_is_firm.m G_is_firm.kp G_is_firm.b .nil pass0 (pa_cons (pv 0) pa_nil)) pa_nil)) (pe_callB cr_reprB rfl T.n_repr (by decide +kernel) (pa_cons (pe_cmpR (opA_ne hu) (pe_slice slB (pv 1) po_none (po_some pe_int)) pe_str (nomark _)) pa_nil)) (nomark _)) (pe_one (pe_cmpR op_isB (pe_call G_is_row.ok (hr.mono (by decide)) rfl G_is_row.m G_is_row.kp G_is_row.b .nil pass0 (pa_cons (pv 0) pa_nil)) pe_bl (nomark _)))))))), ?_⟩
  rintro es Φ ⟨r, rfl, hr2, k⟩ _
  have hlen : ((wordL r).length : Int) = r.sum := len_word hr2.1
  have hsum := hr2.2
  walk_at "e"
  refine ⟨rfl, r, rfl, hr2, ?_⟩
  walk_at "e"
  refine ds_if ?_
  walk_at "e"
  refine ⟨rfl, r, rfl, hr2, ?_⟩
  walk_at "e"
  refine rd_neT ?_
  have e1 : (!decide (wd (wordL r) = wd (wordL r))) = false := by simp
  rw [e1]
  walk_at "e"
  refine ⟨rfl, r, rfl, hr2, ?_⟩
  walk_at "e"
  refine rd_neS (sh_ints r) (eqv_row r) ?_
  walk_at "e"
  refine ⟨rfl, r, rfl, hr2, ?_⟩
  walk_at "e"
  refine rc_lenS (by rw [len_wd]; omega) ?_
  rw [len_wd, hlen]
  refine rd_neS rfl (by show (r.sum == r.sum) = true; simp) ?_
  walk_at "e"
  refine ⟨rfl, r, rfl, hr2, ?_⟩
  walk_at "e"
  refine rc_sumT ?_
  refine rd_neS rfl (by show (r.sum == r.sum) = true; simp) ?_
  walk_at "e"
  refine ⟨rfl, r, rfl, hr2, ?_⟩
  walk_at "e"
  refine ⟨_, rfl, rs_str (by rw [len_wd]; omega) ?_⟩
  rw [cut1]
  walk_at "e"
  rw [yS]
  refine rd_neT ?_
  rw [firm_first hr2.1]
  walk_at "e"
  refine rd_eqT ?_
  rw [decide_eq_true rfl]
  walk_at "e"
  refine ⟨rfl, _, rfl, fun ds z => ?_, ?_⟩
  · cases z
    rw [List.length_map]
    have := hr2.len
    omega
  · rw [row_is hr2.1 hr2.2]
    walk_at "e"
    exact k
end
end K04
namespace K04
open PySem L2 PySem.Spec PyProof.Rows DL
local macro_rules | `(tactic| walk_at "d0") => `(tactic| first
  | (with_reducible refine ds_seq ?_) | (with_reducible refine ds_next ?_) | (with_reducible refine ds_ret ?_) | (with_reducible refine ds_drop ?_) | (with_reducible refine ds_setO ?_) | (with_reducible refine ds_asg ?_)
  | ((with_reducible show DW _ _ (tOp (rIx _) (tVar _) (tC (.int _))) _ _); refine dw_ixO rfl (dw_int ⟨_, _, _, rfl, rfl, rfl, ?_⟩))
  | ((with_reducible show DW _ _ (tOp (rIx _) (tVar _) _) _ _); refine dw_ixO rfl ?_)
  | (with_reducible refine dw_lst ?_)
  | (with_reducible refine dw_isi ?_) | (with_reducible refine dw_op ?_) | (with_reducible refine dw_un ?_) | (with_reducible refine dw_int ?_) | (with_reducible refine dw_bl ?_) | (with_reducible refine dw_str ?_) | (with_reducible refine dw_non ?_)
  | ((with_reducible show DW _ _ (tVar _) _ _); refine dw_var rfl ?_)
  | (with_reducible refine dw_andV ?_) | (with_reducible refine dw_orV ?_) | (with_reducible refine dw_notV ?_) | (with_reducible refine dw_tup ?_) | (with_reducible refine dw_chain ?_)
  | (with_reducible refine da_nil ?_) | (with_reducible refine da_cons ?_)
  | (with_reducible refine dt_test ?_) | (with_reducible refine dt_B ?_) | (with_reducible refine dt_and ?_) | (with_reducible refine dt_or ?_) | (with_reducible refine dt_not ?_) | (with_reducible refine dt_yes ?_)
  | ((with_reducible show DW _ _ (tCall _ _ _ (tCons (tVar _) _)) _ _); refine dw_callO rfl ?_)
  | (with_reducible refine dw_call ?_) | (with_reducible refine dw_fresh (df_call ?_)) | (with_reducible refine dw_cb ?_)
  | (with_reducible refine rd_addBI ?_) | (with_reducible refine rc_tupL ?_) | (with_reducible refine rc_lstT ?_) | (with_reducible refine rc_reprB ?_) | (with_reducible refine rd_isB ?_) | (with_reducible refine rs_tup ?_) | (with_reducible refine rs_lst ?_) | (with_reducible refine dw_slH ?_) | (with_reducible refine dw_slL ?_) | (with_reducible refine dw_dnew ?_) | (with_reducible refine dw_m1 ?_) | (with_reducible refine rd_i0 ?_) | (with_reducible refine rd_b0 ?_) | (with_reducible refine ru_i ?_) | (with_reducible refine rc_int ?_) | (with_reducible refine rc_intB ?_) | (with_reducible refine rc_abs ?_) | (with_reducible refine rc_max ?_) | (with_reducible refine rc_min ?_) | (with_reducible refine rc_gcd ?_) | (with_reducible refine rc_lenL ?_) | (with_reducible refine rc_lenT ?_)
  | ((with_reducible show RD (rIx _) _ (.tuple _) _ _); refine rd_ixT rfl ?_) | ((with_reducible show RD (rIx _) _ (.list _) _ _); refine rd_ixL rfl ?_)
  | ((with_reducible refine dg_name ?hj ?_); (case hj => first | exact .inl (by decide) | exact .inr (noLst_val rfl) | exact .inr (noLst_none rfl)))
  | ((with_reducible show ∃ b, PyData.bool _ = PyData.bool b ∧ _); refine ⟨_, rfl, ?_⟩)
  | ((with_reducible show RD (rEqA _) _ (.int _) (.int _) _); refine rd_eq rfl rfl ?_) | ((with_reducible show RD (rNeA _) _ (.int _) (.int _) _); refine rd_ne rfl rfl ?_)
  | ((with_reducible show DW _ _ (tTup _) _ _); refine dw_tup ?_) | ((with_reducible show List.length _ ≤ 100000 ∧ _); refine ⟨Nat.le_of_ble_eq_true rfl, ?_⟩)
  | (((with_reducible show (_ = true → _) ∧ (_ = false → _)); first | (refine ⟨fun _ => ?_, fun z => Bool.noConfusion (show true = false from z)⟩) | (refine ⟨fun z => Bool.noConfusion (show false = true from z), fun _ => ?_⟩)))
  | (((with_reducible show (_ = false → _) ∧ (_ = true → _)); first | (refine ⟨fun _ => ?_, fun z => Bool.noConfusion (show false = true from z)⟩) | (refine ⟨fun z => Bool.noConfusion (show true = false from z), fun _ => ?_⟩)))
  | (with_reducible refine dgs_nil ?_) | (with_reducible refine dgs_cons ?_))
local macro_rules | `(tactic| walk_at "d1") => `(tactic| first | walk_at "d0" | (with_reducible refine ds_if ?_) | (with_reducible refine dw_if ?_))
local macro_rules | `(tactic| walk_at "e") => `(tactic| ((try dsimp only [cxOf, Cx.nox, Cx.wish]); repeat (walk_at "d0")))
local macro_rules | `(tactic| walk_at "d") => `(tactic| ((try dsimp only [cxOf, Cx.nox, Cx.wish]); repeat (walk_at "d1")))

abbrev s__law_near_row : Stmt := topS 26
abbrev N__law_near_row : List Str := ["_law_dice_here", "_law_row", "_law_at", "_law_bad", "_law_found"]
abbrev P__law_near_row : List Str := ["_law_dice_here", "_law_row"]
theorem sc__law_near_row : FnScope N__law_near_row P__law_near_row (defScope s__law_near_row) := ⟨rfl, rfl, rfl, by decide +kernel, rfl, by decide +kernel, by decide +kernel⟩
section
variable {P : Program} {w : World} {K : PySem.W.Frag} {mg : Str → Option Value} {base : Heap} {Ψ : PyData → Prop}
theorem el_int (i : Int) : elGood (.int i) := ⟨rfl, by simp [PyData.depth]⟩
theorem lay_ints (r : List Int) : PyData.canLayAll0 (r.map PyData.int) = true ∧ PyData.depthAll (r.map PyData.int) ≤ 1 := by
  induction r with
  | nil => exact ⟨rfl, by simp [PyData.depthAll]⟩
  | cons e r ih =>
    refine ⟨?_, ?_⟩
    · show (true && PyData.canLayAll0 (r.map PyData.int)) = true
      rw [ih.1]; rfl
    · have := ih.2
      simp only [List.map_cons, PyData.depthAll, PyData.depth]
      omega
theorem el_row (r : List Int) : elGood (row r) := by
  have := lay_ints r
  refine ⟨this.1, ?_⟩
  have h := this.2
  simp only [PyData.depth]
  omega
theorem good_not {d : PyData} (h : isTupD d = false) : Good d := fun ds z => by subst z; exact nomatch h
theorem good_tup {ds : List PyData} (h : ds.length ≤ 1000) (g : ∀ e ∈ ds, elGood e) : Good (.tuple ds) := fun es z => by cases z; exact ⟨h, g⟩
theorem ints_mem {r : List Int} : ∀ e ∈ r.map PyData.int, elGood e := fun e he => by
  obtain ⟨i, _, rfl⟩ := List.mem_map.mp he
  exact el_int i
theorem good_row {r : List Int} (h : r.length ≤ 1000) : Good (row r) := good_tup (by rw [List.length_map]; exact h) ints_mem
theorem cut_mem {α : Type} {xs : List α} {lo hi : Option Int} {x : α} (h : x ∈ DL.cutD xs lo hi) : x ∈ xs := by
  unfold DL.cutD at h
  exact List.mem_of_mem_drop (List.mem_of_mem_take h)
theorem cut_len {α : Type} {xs : List α} {lo hi : Option Int} : (DL.cutD xs lo hi).length ≤ xs.length := by
  unfold DL.cutD
  rw [List.length_take, List.length_drop]
  omega
def wNearRow : SpW := fun es Φ => ∃ l s t r, es = [dice l s t, .val (row r)] ∧ 0 ≤ l ∧ RowP r ∧ ∀ ds l' t', (∀ d ∈ ds, Good d) → ds.length ≤ 100 → 0 ≤ l' → Φ (.list ds) [dice l' s t', .val (row r)]
theorem ok_near_row (T : Txt w K mg) (D : TD K mg "_law_near_row" s__law_near_row P__law_near_row) (G__law_roll : Cal P w K mg base 1 "_law_roll" P__law_roll (spD K 2 wRoll)) (G__law_pick : Cal P w K mg base 2 "_law_pick" P__law_pick (spD K 2 wPick))
    (G_word_of : Cal P w K mg base 4 "word_of" P_word_of (spD K 1 wWordOf)) : FnOk P w K mg base CX0 5 D.f D.fd P__law_near_row (spD K 2 wNearRow) := by
  refine fn_data D.F sc__law_near_row rfl fun cdv A outer s H E hr => ?_
  have hu := hr.units
  refine ⟨_, (pss_cons (ps_par rfl sc__law_near_row.nd (i := 2) (j := 3) rfl rfl (by decide) rfl rfl (pa_cons (pe_call G__law_roll.ok (hr.mono (by decide)) rfl G__law_roll.m G__law_roll.kp G__law_roll.b .nil pass0 (pa_cons (pv 0) (pa_cons (pe_op (opK_add (K := K) rfl) (pe_callB (crK_len (K := K) rfl) rfl T.n_len (by decide +kernel) (pa_cons (pv 1) pa_nil)) pe_int) pa_nil))) (pa_cons (pe_call G__law_pick.ok (hr.mono (by decide)) rfl G__law_pick.m G__law_pick.kp G__law_pick.b .nil pass0 (pa_cons (pv 0) (pa_cons (pe_lst (pa_cons pe_int (pa_cons (pe_un un_neg pe_int) (pa_cons pe_bl (pa_cons pe_non (pa_cons pe_str (pa_cons pe_int (pa_cons (pe_tup (pa_cons pe_int pa_nil)) (pa_cons (pe_op (opK_mul (K := K) rfl) (pe_op op_pow pe_int pe_int) (pe_op op_pow pe_int pe_int)) pa_nil))))))))) pa_nil))) pa_nil)) rfl) (pss_cons (ps_set (i := 4) sc__law_near_row.nd rfl (Or.inl rfl) (pe_lst (pa_cons (pe_op (opK_add (K := K) rfl) (pe_op (opK_add (K := K) rfl) (pe_slice slB (pv 1) po_none (po_some (pv 2))) (pe_tup (pa_cons (pv 3) pa_nil))) (pe_slice slB (pv 1) (po_some (pv 2)) po_none)) (pa_cons (pe_callTy cr_lstOf rfl T.n_list (by decide +kernel) (pa_cons (pv 1) pa_nil)) (pa_cons (pe_call G_word_of.ok (hr.mono (by decide)) rfl G_word_of.m G_word_of.kp G_word_of.b .nil pass0 (pa_cons (pv 1) pa_nil)) (pa_cons pe_non (pa_cons (pe_callB (crK_len (K := K) rfl) rfl T.n_len (by decide +kernel) (pa_cons (pv 1) pa_nil)) (pa_cons (pe_op (opK_add (K := K) rfl) (pv 1) (pe_tup (pa_cons (pe_op op_sub pe_int (pe_callB (cr_sumT rfl) rfl T.n_sum (by decide +kernel) (pa_cons (pv 1) pa_nil))) pa_nil))) (pa_cons (pe_op (opK_add (K := K) rfl) (pv 1) (pe_tup (pa_cons (pe_op op_sub pe_int (pe_callB (cr_sumT rfl) rfl T.n_sum (by decide +kernel) (pa_cons (pv 1) pa_nil))) pa_nil))) pa_nil))))))))) (pss_one (ps_ret (pe_op op_cat (pv 4) (pe_lst (pa_cons pe_dnewK (pa_cons (pe_tup (pa_cons (pv 1) pa_nil)) (pa_cons (pe_slice slB (pv 1) po_none (po_some (pv 2))) (pa_cons (pe_slice slB (pv 1) (po_some (pv 2)) po_none) (pa_cons (pe_op (opK_mul (K := K) rfl) (pe_tup (pa_cons pe_int pa_nil)) pe_int) (pa_cons (pe_op (opK_mul (K := K) rfl) (pe_tup (pa_cons pe_int pa_nil)) pe_int) (pa_cons (pe_tup (pa_cons pe_int pa_nil)) (pa_cons (pe_tup (pa_cons pe_int pa_nil)) (pa_cons (pe_tup (pa_cons (pe_tup pa_nil) pa_nil)) pa_nil))))))))))))))), ?_⟩
  rintro es Φ ⟨l, s, t, r, rfl, hl, hr2, k⟩ _
  have hlen := hr2.len
  try dsimp only [cxOf, Cx.nox, Cx.wish]
  refine ds_seq (ds_par ?_)
  walk_at "e"
  refine ⟨rfl, _, rfl, l, s, t, _, rfl, hl, ?_, ?_, ?_⟩
  · omega
  · unfold B
    have : (((List.map PyData.int r).length : Int) + 1).natAbs < 64 := by rw [List.length_map]; omega
    exact Nat.lt_trans this (by decide)
  intro at_ l1 t1 a0 a1 hl1 ds2 rest e
  cases e
  walk_at "e"
  refine rd_i ⟨by decide, by decide, by decide⟩ ?_
  walk_at "e"
  refine rd_i ⟨by decide, by decide, by decide⟩ ?_
  refine rdm_I (by unfold CMulW; decide) ?_
  walk_at "e"
  refine ⟨rfl, _, rfl, l1, s, t1, _, rfl, hl1, by decide, by decide, ?_⟩
  intro i bad l2 t2 hd hl2 ds2 rest e
  cases e
  have hbad : elGood bad ∧ Good bad := by
    have hm := List.mem_of_getElem? hd
    simp only [List.mem_cons, List.not_mem_nil, or_false] at hm
    rcases hm with rfl | rfl | rfl | rfl | rfl | rfl | rfl | rfl
    · exact ⟨el_int _, good_not rfl⟩
    · exact ⟨el_int _, good_not rfl⟩
    · exact ⟨⟨rfl, by simp [PyData.depth]⟩, good_not rfl⟩
    · exact ⟨⟨rfl, by simp [PyData.depth]⟩, good_not rfl⟩
    · exact ⟨⟨by decide +kernel, by simp [PyData.depth]⟩, good_not rfl⟩
    · exact ⟨el_int _, good_not rfl⟩
    · exact ⟨el_row [1], good_row (r := [1]) (by decide)⟩
    · exact ⟨el_int _, good_not rfl⟩
  walk_at "e"
  refine ⟨_, _, rfl, .inl (by decide), .inl (by decide), ?_⟩
  refine ds_seq (ds_asgF (df_lst ?_))
  walk_at "e"
  have cl : ∀ lo hi, (DL.cutD (List.map PyData.int r) lo hi).length ≤ 40 := fun lo hi => Nat.le_trans cut_len (by rw [List.length_map]; exact hlen)
  have cm : ∀ lo hi, ∀ e ∈ DL.cutD (List.map PyData.int r) lo hi, elGood e := fun lo hi e he => ints_mem e (cut_mem he)
  have rl : (List.map PyData.int r).length ≤ 40 := by rw [List.length_map]; exact hlen
  refine ⟨_, rfl, rs_tup ?_⟩
  walk_at "e"
  refine rd_addBT (by have := cl none (some at_); simp only [List.length_cons, List.length_nil]; omega) ?_
  walk_at "e"
  refine ⟨_, rfl, rs_tup ?_⟩
  refine rd_addBT (by have := cl none (some at_); have := cl (some at_) none; simp only [List.length_append, List.length_cons, List.length_nil]; omega) ?_
  walk_at "e"
  refine ⟨rfl, r, rfl, hr2, ?_⟩
  walk_at "e"
  refine rc_sumT ?_
  walk_at "e"
  refine rd_addBT (by simp only [List.length_cons, List.length_nil]; omega) ?_
  walk_at "e"
  refine rc_sumT ?_
  walk_at "e"
  refine rd_addBT (by simp only [List.length_cons, List.length_nil]; omega) ?_
  walk_at "e"
  refine ⟨by decide, ds_ret ?_⟩
  refine dw_fresh ?_
  refine df_catO (i := 4) rfl ?_
  refine df_lst ?_
  walk_at "e"
  refine ⟨_, rfl, rs_tup ?_⟩
  walk_at "e"
  refine ⟨_, rfl, rs_tup ?_⟩
  walk_at "e"
  refine rd_mulBT (m := 40) (by simp) (by simp) (by decide) ?_
  walk_at "e"
  refine rd_mulBT (m := 41) (by simp) (by simp) (by decide) ?_
  walk_at "e"
  refine ⟨_, rfl, by simp, ?_⟩
  rw [rep_row, rep_row]
  refine k _ l2 t2 ?_ (by simp) hl2
  intro d hd
  simp only [List.cons_append, List.nil_append, List.mem_cons, List.not_mem_nil, or_false] at hd
  rcases hd with rfl | rfl | rfl | rfl | rfl | rfl | rfl | rfl | rfl | rfl | rfl | rfl | rfl | rfl | rfl | rfl
  · refine good_tup (by have := cl none (some at_); have := cl (some at_) none; simp only [List.length_append, List.length_cons, List.length_nil]; omega) fun e he => ?_
    rcases List.mem_append.mp he with he | he
    · rcases List.mem_append.mp he with he | he
      · exact cm _ _ e he
      · have := List.mem_singleton.mp he
        subst this
        exact hbad.1
    · exact cm _ _ e he
  · exact good_not rfl
  · exact good_not rfl
  · exact good_not rfl
  · exact good_not rfl
  · have e : List.map PyData.int r ++ [PyData.int (41 - r.sum)] = List.map PyData.int (r ++ [41 - r.sum]) := by simp
    rw [e]
    exact good_row (by simp; omega)
  · have e : List.map PyData.int r ++ [PyData.int (40 - r.sum)] = List.map PyData.int (r ++ [40 - r.sum]) := by simp
    rw [e]
    exact good_row (by simp; omega)
  · exact good_not rfl
  · exact good_tup (by simp) fun e he => by
      have := List.mem_singleton.mp he
      subst this
      exact el_row r
  · exact good_tup (by have := cl none (some at_); omega) (cm _ _)
  · exact good_tup (by have := cl (some at_) none; omega) (cm _ _)
  · exact good_row (by simp)
  · exact good_row (by simp)
  · exact good_row (r := [40]) (by decide)
  · exact good_row (r := [41]) (by decide)
  · exact good_tup (by simp) fun e he => by
      have := List.mem_singleton.mp he
      subst this
      exact el_row []
end
end K04
namespace K04
open PySem L2 PySem.Spec PyProof.Rows DL
local macro_rules | `(tactic| walk_at "d0") => `(tactic| first
  | (with_reducible refine ds_seq ?_) | (with_reducible refine ds_next ?_) | (with_reducible refine ds_ret ?_) | (with_reducible refine ds_drop ?_) | (with_reducible refine ds_setO ?_) | (with_reducible refine ds_asg ?_)
  | ((with_reducible show DW _ _ (tOp (rIx _) (tVar _) (tC (.int _))) _ _); refine dw_ixO rfl (dw_int ⟨_, _, _, rfl, rfl, rfl, ?_⟩))
  | ((with_reducible show DW _ _ (tOp (rIx _) (tVar _) _) _ _); refine dw_ixO rfl ?_)
  | (with_reducible refine dw_lst ?_)
  | (with_reducible refine dw_isi ?_) | (with_reducible refine dw_op ?_) | (with_reducible refine dw_un ?_) | (with_reducible refine dw_int ?_) | (with_reducible refine dw_bl ?_) | (with_reducible refine dw_str ?_) | (with_reducible refine dw_non ?_)
  | ((with_reducible show DW _ _ (tVar _) _ _); refine dw_var rfl ?_)
  | (with_reducible refine dw_andV ?_) | (with_reducible refine dw_orV ?_) | (with_reducible refine dw_notV ?_) | (with_reducible refine dw_tup ?_) | (with_reducible refine dw_chain ?_)
  | (with_reducible refine da_nil ?_) | (with_reducible refine da_cons ?_)
  | (with_reducible refine dt_test ?_) | (with_reducible refine dt_B ?_) | (with_reducible refine dt_and ?_) | (with_reducible refine dt_or ?_) | (with_reducible refine dt_not ?_) | (with_reducible refine dt_yes ?_)
  | ((with_reducible show DW _ _ (tCall _ _ _ (tCons (tVar _) _)) _ _); refine dw_callO rfl ?_)
  | (with_reducible refine dw_call ?_) | (with_reducible refine dw_fresh (df_call ?_)) | (with_reducible refine dw_cb ?_)
  | (with_reducible refine rd_addBI ?_) | (with_reducible refine rc_tupL ?_) | (with_reducible refine rc_lstT ?_) | (with_reducible refine rc_reprB ?_) | (with_reducible refine rd_isB ?_) | (with_reducible refine rs_tup ?_) | (with_reducible refine rs_lst ?_) | (with_reducible refine dw_slH ?_) | (with_reducible refine dw_slL ?_) | (with_reducible refine dw_dnew ?_) | (with_reducible refine dw_m1 ?_) | (with_reducible refine rd_i0 ?_) | (with_reducible refine rd_b0 ?_) | (with_reducible refine ru_i ?_) | (with_reducible refine rc_int ?_) | (with_reducible refine rc_intB ?_) | (with_reducible refine rc_abs ?_) | (with_reducible refine rc_max ?_) | (with_reducible refine rc_min ?_) | (with_reducible refine rc_gcd ?_) | (with_reducible refine rc_lenL ?_) | (with_reducible refine rc_lenT ?_)
  | ((with_reducible show RD (rIx _) _ (.tuple _) _ _); refine rd_ixT rfl ?_) | ((with_reducible show RD (rIx _) _ (.list _) _ _); refine rd_ixL rfl ?_)
  | ((with_reducible refine dg_name ?hj ?_); (case hj => first | exact .inl (by decide) | exact .inr (noLst_val rfl) | exact .inr (noLst_none rfl)))
  | ((with_reducible show ∃ b, PyData.bool _ = PyData.bool b ∧ _); refine ⟨_, rfl, ?_⟩)
  | ((with_reducible show RD (rEqA _) _ (.int _) (.int _) _); refine rd_eq rfl rfl ?_) | ((with_reducible show RD (rNeA _) _ (.int _) (.int _) _); refine rd_ne rfl rfl ?_)
  | ((with_reducible show DW _ _ (tTup _) _ _); refine dw_tup ?_) | ((with_reducible show List.length _ ≤ 100000 ∧ _); refine ⟨Nat.le_of_ble_eq_true rfl, ?_⟩)
  | (((with_reducible show (_ = true → _) ∧ (_ = false → _)); first | (refine ⟨fun _ => ?_, fun z => Bool.noConfusion (show true = false from z)⟩) | (refine ⟨fun z => Bool.noConfusion (show false = true from z), fun _ => ?_⟩)))
  | (((with_reducible show (_ = false → _) ∧ (_ = true → _)); first | (refine ⟨fun _ => ?_, fun z => Bool.noConfusion (show false = true from z)⟩) | (refine ⟨fun z => Bool.noConfusion (show true = false from z), fun _ => ?_⟩)))
  | (with_reducible refine dgs_nil ?_) | (with_reducible refine dgs_cons ?_))
local macro_rules | `(tactic| walk_at "d1") => `(tactic| first | walk_at "d0" | (with_reducible refine ds_if ?_) | (with_reducible refine dw_if ?_))
local macro_rules | `(tactic| walk_at "e") => `(tactic| ((try dsimp only [cxOf, Cx.nox, Cx.wish]); repeat (walk_at "d0")))
local macro_rules | `(tactic| walk_at "d") => `(tactic| ((try dsimp only [cxOf, Cx.nox, Cx.wish]); repeat (walk_at "d1")))

abbrev s__law_right : Stmt := topS 27
abbrev N__law_right : List Str := ["_law_dice_here", "_law_row", "_law_other", "_law_both", "_law_word_here", "_law_value", "_law_letters", "_law_turn"]
abbrev P__law_right : List Str := ["_law_dice_here"]
theorem sc__law_right : FnScope N__law_right P__law_right (defScope s__law_right) := ⟨rfl, rfl, rfl, by decide +kernel, rfl, by decide +kernel, by decide +kernel⟩
abbrev s_law : Stmt := topS 28
abbrev N_law : List Str := ["_law_script", "_law_spot", "_law_dice_here", "_law_turn", "_law_told"]
abbrev P_law : List Str := ["_law_script"]
theorem sc_law : FnScope N_law P_law (defScope s_law) := ⟨rfl, rfl, rfl, by decide +kernel, rfl, by decide +kernel, by decide +kernel⟩
section
variable {P : Program} {w : World} {K : PySem.W.Frag} {mg : Str → Option Value} {base : Heap} {Ψ : PyData → Prop}
theorem sum_app (a b : List Int) : (a ++ b).sum = a.sum + b.sum := by
  induction a with
  | nil => simp
  | cons e r ih => simp only [List.cons_append, List.sum_cons, ih]; omega
def one (c : Nat) : Str := wd [c]
theorem join_ones (L : List Nat) : PySem.Txt.join (wd []) (L.map one) = wd L := by
  rw [join_e]
  congr 1
  induction L with
  | nil => rfl
  | cons c L ih => rw [List.map_cons, List.map_cons, List.flatten_cons, ih]; simp [one, tl_wd]
theorem ones_lens (L : List Nat) : ((L.map one).map (·.length)).sum = L.length := by
  induction L with
  | nil => rfl
  | cons c L ih => rw [List.map_cons, List.map_cons, List.sum_cons, ih]; simp [one, len_wd]; omega
def wRight : SpW := fun es Φ => ∃ l s t, es = [dice l s t] ∧ 0 ≤ l ∧ ∀ l' t', 0 ≤ l' → Φ (.bool true) [dice l' s t']
theorem ok_right (T : Txt w K mg) (D : TD K mg "_law_right" s__law_right P__law_right)
    (G_row_of : Cal P w K mg base 2 "row_of" P_row_of (spD K 1 wRowOf)) (G_word_of : Cal P w K mg base 4 "word_of" P_word_of (spD K 1 wWordOf)) (G__law_roll : Cal P w K mg base 1 "_law_roll" P__law_roll (spD K 2 wRoll)) (G__law_pick : Cal P w K mg base 2 "_law_pick" P__law_pick (spD K 2 wPick))
    (G__law_near_row : Cal P w K mg base 5 "_law_near_row" P__law_near_row (spD K 2 wNearRow)) (G_is_row : Cal P w K mg base 2 "is_row" P_is_row (spD K 1 wIsRow)) (G__law_is_row : Cal P w K mg base 2 "_law_is_row" P__law_is_row (spD K 1 fun es Φ => ∃ d, es = [.val d] ∧ Good d ∧ Φ (.bool (isRowD d)) es))
    (G__law_row_right : Cal P w K mg base 5 "_law_row_right" P__law_row_right (spD K 1 wRowRight)) (G__law_row_drawn : Cal P w K mg base 3 "_law_row_drawn" P__law_row_drawn (spD K 2 wDrawn)) (G__law_row_menu : Cal P w K mg base 4 "_law_row_menu" P__law_row_menu (spD K 1 wMenu)) : FnOk P w K mg base CX0 6 D.f D.fd P__law_right (spD K 1 wRight) := by
  refine fn_data D.F sc__law_right rfl fun cdv A outer s H E hr => ?_
  have hu := hr.units
  refine ⟨_, (pss_cons (ps_par rfl sc__law_right.nd (i := 1) (j := 2) rfl rfl (by decide) rfl rfl (pa_cons (pe_call G__law_row_menu.ok (hr.mono (by decide)) rfl G__law_row_menu.m G__law_row_menu.kp G__law_row_menu.b .nil pass0 (pa_cons (pv 0) pa_nil)) (pa_cons (pe_call G__law_row_drawn.ok (hr.mono (by decide)) rfl G__law_row_drawn.m G__law_row_drawn.kp G__law_row_drawn.b .nil pass0 (pa_cons (pv 0) (pa_cons (pe_call G__law_roll.ok (hr.mono (by decide)) rfl G__law_roll.m G__law_roll.kp G__law_roll.b .nil pass0 (pa_cons (pv 0) (pa_cons pe_int pa_nil))) pa_nil))) pa_nil)) rfl) (pss_cons (ps_if (PW.pt (pw_or (pt_not (pt_val (pe_call G__law_row_right.ok (hr.mono (by decide)) rfl G__law_row_right.m G__law_row_right.kp G__law_row_right.b .nil pass0 (pa_cons (pv 1) pa_nil)))) (pw_or1 (pt_not (pt_val (pe_call G__law_row_right.ok (hr.mono (by decide)) rfl G__law_row_right.m G__law_row_right.kp G__law_row_right.b .nil pass0 (pa_cons (pv 2) pa_nil))))))) (pss_one (ps_ret pe_bl)) pss_nil) (pss_cons (ps_set (i := 3) sc__law_right.nd rfl (Or.inl rfl) (pe_op (opK_add (K := K) rfl) (pv 1) (pv 2))) (pss_cons (ps_if (pt_cmpR op_le (pe_callB (cr_sumT rfl) rfl T.n_sum (by decide +kernel) (pa_cons (pv 3) pa_nil)) pe_int (nomark _)) (pss_cons (ps_set (i := 4) sc__law_right.nd rfl (Or.inl rfl) (pe_op (opK_add (K := K) rfl) (pe_call G_word_of.ok (hr.mono (by decide)) rfl G_word_of.m G_word_of.kp G_word_of.b .nil pass0 (pa_cons (pv 1) pa_nil)) (pe_call G_word_of.ok (hr.mono (by decide)) rfl G_word_of.m G_word_of.kp G_word_of.b .nil pass0 (pa_cons (pv 2) pa_nil)))) (pss_one (ps_if (PW.pt (pw_or (pt_cmpR (opA_ne hu) (pe_call G_word_of.ok (hr.mono (by decide)) rfl G_word_of.m G_word_of.kp G_word_of.b .nil pass0 (pa_cons (pv 3) pa_nil)) (pv 4) (nomark _)) (pw_or1 (pt_cmpR (opA_ne hu) (pe_call G_row_of.ok (hr.mono (by decide)) rfl G_row_of.m G_row_of.kp G_row_of.b .nil pass0 (pa_cons (pv 4) pa_nil)) (pv 3) (nomark _))))) (pss_one (ps_ret pe_bl)) pss_nil))) pss_nil) (pss_cons (ps_for PassesOwn.never rfl (pi_list (pe_call G__law_near_row.ok (hr.mono (by decide)) rfl G__law_near_row.m G__law_near_row.kp G__law_near_row.b .nil pass0 (pa_cons (pv 0) (pa_cons (pv 1) pa_nil)))) (pg_name (i := 5) sc__law_right.nd rfl (Or.inl rfl)) (pss_one (ps_if (pt_cmpR (opA_ne hu) (pe_callB cr_reprB rfl T.n_repr (by decide +kernel) (pa_cons (pe_call G_is_row.ok (hr.mono (by decide)) rfl G_is_row.m G_is_row.kp G_is_row.b .nil pass0 (pa_cons (pv 5) pa_nil)) pa_nil)) (pe_callB cr_reprB rfl T.n_repr (by decide +kernel) (pa_cons (pe_call G__law_is_row.ok (hr.mono (by decide)) rfl G__law_is_row.m G__law_is_row.kp G__law_is_row.b .nil pass0 (pa_cons (pv 5) pa_nil)) pa_nil)) (nomark _)) (pss_one (ps_ret pe_bl)) pss_nil))) (pss_cons (ps_set (i := 6) sc__law_right.nd rfl (Or.inl rfl) (pe_op (opK_add (K := K) rfl) (pe_join pe_str (pe_lc (own := [("_law_turn", 7)]) (g := gName 7) (tt := tYes) rfl sc__law_right.nd (pi_range1 rfl T.n_range (pa_cons (pe_call G__law_roll.ok (hr.mono (by decide)) rfl G__law_roll.m G__law_roll.kp G__law_roll.b .nil pass0 (pa_cons (pv 0) (pa_cons pe_int pa_nil))) pa_nil)) (blkOk_by (own := [("_law_turn", 7)]) (N := N__law_right) (sc := defScope s__law_right) (by decide +kernel)) (fun _ _ _ _ _ => pg_name (i := 7) sc__law_right.nd rfl (Or.inl rfl)) (fun _ _ _ _ _ => pts_nil) (fun _ _ _ _ _ => (pe_call G__law_pick.ok (hr.mono (by decide)) rfl G__law_pick.m G__law_pick.kp G__law_pick.b .nil pass0 (pa_cons (pv 0) (pa_cons (pe_lst (pa_cons pe_str (pa_cons pe_str pa_nil))) pa_nil)))))) pe_str)) (pss_one (ps_ret (pe_and (pe_cmpR (opA_eq hu) (pe_call G_word_of.ok (hr.mono (by decide)) rfl G_word_of.m G_word_of.kp G_word_of.b .nil pass0 (pa_cons (pe_call G_row_of.ok (hr.mono (by decide)) rfl G_row_of.m G_row_of.kp G_row_of.b .nil pass0 (pa_cons (pv 6) pa_nil)) pa_nil)) (pv 6) (nomark _)) (pe_one (pe_cmpR (opA_eq hu) (pe_callB (crK_len (K := K) rfl) rfl T.n_len (by decide +kernel) (pa_cons (pe_call G_row_of.ok (hr.mono (by decide)) rfl G_row_of.m G_row_of.kp G_row_of.b .nil pass0 (pa_cons (pv 6) pa_nil)) pa_nil)) (pe_m1 PySem.F.slot_str_count PySem.F.type_str_count mt_count (pv 6) pe_str) (nomark _)))))))))))), ?_⟩
  rintro es Φ ⟨l, s, t, rfl, hl, k⟩ _
  try dsimp only [cxOf, Cx.nox, Cx.wish]
  refine ds_seq (ds_par ?_)
  walk_at "e"
  refine ⟨rfl, _, rfl, l, s, t, rfl, hl, ?_⟩
  intro r l1 t1 hr2 hl1 ds2 rest e
  cases e
  walk_at "e"
  refine ⟨rfl, _, rfl, l1, s, t1, 13, rfl, hl1, by decide, by unfold B; decide, ?_⟩
  intro q l2 t2 q0 q1 hl2 ds2 rest e
  cases e
  walk_at "e"
  refine ⟨rfl, _, rfl, l2, s, t2, q, rfl, hl2, q0, by omega, ?_⟩
  intro o l3 t3 o1 o2 hl3 ds2 rest e
  cases e
  have ho2 : RowP o := ⟨o1, by omega⟩
  have lr := hr2.len
  have lo := ho2.len
  walk_at "e"
  refine ⟨_, _, rfl, .inl (by decide), .inl (by decide), ?_⟩
  refine ds_seq (ds_if ?_)
  walk_at "e"
  refine ⟨rfl, r, rfl, hr2, ?_⟩
  walk_at "e"
  refine ⟨rfl, o, rfl, ho2, ?_⟩
  walk_at "e"
  refine rd_addBT (by rw [List.length_map, List.length_map]; omega) ?_
  rw [← List.map_append]
  walk_at "e"
  refine ds_cut (fun ρ' => ∃ x, ρ' = [some (dice l3 s t3), some (.val (row r)), some (.val (row o)), some (.val (row (r ++ o))), x, none, none, none]) ?_ ?_
  · refine ds_if ?_
    walk_at "e"
    refine rc_sumT ?_
    walk_at "e"
    refine ⟨fun h => ?_, fun h => ?_⟩
    · have h : (r ++ o).sum ≤ 40 := of_decide_eq_true h
      have hb : RowP (r ++ o) := ⟨ones_app hr2.1 o1, h⟩
      have hlr : ((wordL r).length : Int) = r.sum := len_word hr2.1
      have hlo : ((wordL o).length : Int) = o.sum := len_word o1
      have h1 := hr2.2
      have h2 := ho2.2
      walk_at "e"
      refine ⟨rfl, r, rfl, hr2, ?_⟩
      walk_at "e"
      refine ⟨rfl, o, rfl, ho2, ?_⟩
      refine rd_addBS (by rw [len_wd, len_wd]; omega) ?_
      rw [wd_app, ← word_app]
      walk_at "e"
      refine ds_if ?_
      walk_at "e"
      refine ⟨rfl, r ++ o, rfl, hb, ?_⟩
      walk_at "e"
      refine rd_neT ?_
      have e1 : (!decide (wd (wordL (r ++ o)) = wd (wordL (r ++ o)))) = false := by simp
      rw [e1]
      walk_at "e"
      refine ⟨rfl, r ++ o, rfl, hb, ?_⟩
      walk_at "e"
      refine rd_neS (sh_ints _) (eqv_row _) ?_
      walk_at "e"
      exact ⟨_, rfl⟩
    · walk_at "e"
      exact ⟨_, rfl⟩
  rintro ρ' ⟨x, rfl⟩
  try dsimp only
  refine ds_seq (ds_for (di_lst ?_))
  walk_at "e"
  refine ⟨rfl, _, rfl, l3, s, t3, r, rfl, hl3, hr2, ?_⟩
  intro ds l4 t4 hds hdl hl4 ds2 rest e
  cases e
  refine ⟨ds, rfl, fun i ρ' => ∃ v, ρ' = [some (dice l4 s t4), some (.val (row r)), some (.val (row o)), some (.val (row (r ++ o))), x, v, none, none], ⟨_, rfl⟩, fun i d ρ' hd ⟨v, hρ⟩ => ?_, fun ρ' ⟨v, hρ⟩ => ?_⟩
  · subst hρ
    have hg := hds d (List.mem_of_getElem? hd)
    refine dg_name (.inl (by decide)) ?_
    refine ds_if ?_
    walk_at "e"
    refine ⟨rfl, d, rfl, fun es z => by have := (hg es z).1; omega, ?_⟩
    walk_at "e"
    refine ⟨rfl, d, rfl, hg, ?_⟩
    walk_at "e"
    refine rd_neT ?_
    rw [decide_eq_true rfl]
    walk_at "e"
    exact ⟨_, rfl⟩
  · subst hρ
    refine ds_seq (ds_asg (dw_op (dw_m1 ?_)))
    walk_at "e"
    refine ⟨_, rfl, dw_fresh (df_lc (di_rng1 ?_))⟩
    walk_at "e"
    refine ⟨rfl, _, rfl, l4, s, t4, 39, rfl, hl4, by decide, by unfold B; decide, ?_⟩
    intro q l5 t5 q0 q1 hl5 ds2 rest e
    cases e
    obtain ⟨m, rfl⟩ := Int.eq_ofNat_of_zero_le q0
    walk_at "e"
    refine ⟨_, rfl, ⟨by omega, by omega⟩, by decide, by rw [rngD_len]; omega, rfl, fun i out ρ' => ∃ (L : List Nat) (l t : Int), L.length = i ∧ (∀ c ∈ L, c = 120 ∨ c = 121) ∧ 0 ≤ l ∧ out = (L.map one).map PyData.str ∧
      ρ' = [some (dice l s t), some (.val (row r)), some (.val (row o)), some (.val (row (r ++ o))), x, v, none, none], ⟨[], l5, t5, rfl, (fun _ h => nomatch h), hl5, rfl, rfl⟩, ?_, ?_⟩
    · rintro i d out ρ' hd ⟨L, l6, t6, hL, hc, hl6, rfl, rfl⟩ _
      walk_at "e"
      refine ⟨rfl, _, rfl, l6, s, t6, _, rfl, hl6, by decide, by decide, ?_⟩
      intro i2 d2 l7 t7 hd2 hl7 ds2 rest e
      cases e
      obtain ⟨c, hc2, rfl⟩ : ∃ c : Nat, (c = 120 ∨ c = 121) ∧ d2 = .str (one c) := by
        have hm := List.mem_of_getElem? hd2
        simp only [List.mem_cons, List.not_mem_nil, or_false] at hm
        rcases hm with rfl | rfl
        · exact ⟨120, .inl rfl, by rw [xS]; rfl⟩
        · exact ⟨121, .inr rfl, by rw [yS]; rfl⟩
      refine ⟨L ++ [c], l7, t7, by simp [hL], ?_, hl7, by simp, rfl⟩
      intro y hy
      rcases List.mem_append.mp hy with hy | hy
      · exact hc y hy
      · rw [List.mem_singleton.mp hy]; exact hc2
    rintro out ρ' ⟨L, l6, t6, hL, hc, hl6, rfl, rfl⟩
    rw [rngD_len] at hL
    have hL2 : L.length < 39 := by omega
    rw [eS]
    refine rd_join (by rw [ones_lens, len_wd]; simp; omega) ?_
    rw [join_ones]
    walk_at "e"
    rw [yS]
    refine rd_addBS (by rw [len_wd, len_wd]; simp; omega) ?_
    rw [wd_app]
    obtain ⟨z, z1, z2, z3⟩ := word_of_letters L hc 0
    have z3 : L ++ [121] = wordL z := by simpa using z3
    rw [z3]
    have hz : RowP z := ⟨z1, by
      have := len_word z1
      rw [← z3] at this
      simp at this
      omega⟩
    have lz := hz.len
    refine dg_name (.inl (by decide)) ?_
    refine ds_ret ?_
    walk_at "e"
    refine ⟨rfl, z, rfl, hz, ?_⟩
    walk_at "e"
    refine ⟨rfl, z, rfl, hz, ?_⟩
    walk_at "e"
    refine rd_eqT ?_
    rw [decide_eq_true rfl]
    walk_at "e"
    refine ⟨rfl, z, rfl, hz, ?_⟩
    walk_at "e"
    refine ⟨_, rfl, ?_⟩
    walk_at "e"
    refine rd_count ?_
    rw [count_word, List.length_map]
    refine rd_eqS rfl (by show (((z.length : Nat) : Int) == ((z.length : Nat) : Int)) = true; simp) ?_
    exact k l6 t6 hl6
def wLaw : SpW := fun es Φ => ∃ ns : List Int, es = [.val (.list (ns.map .int))] ∧ ns.length ≤ 63 ∧ Φ (.bool true) es
theorem s_xyy : Str.ofString "xyy" = wd (wordL [2, 1]) := by decide +kernel
theorem rowP_of {r : List Int} (h : (r.all (fun e => decide (1 ≤ e)) && decide (r.sum ≤ 40)) = true) : RowP r := by
  rw [Bool.and_eq_true] at h
  exact ⟨fun e he => of_decide_eq_true (List.all_eq_true.mp h.1 e he), of_decide_eq_true h.2⟩
theorem told_eq : PyData.eqv (.list [.str (wd (wordL [3, 1])), row [2, 1], .str (wd (wordL [])), row [], .int ([3, 1] : List Int).sum, .bool (firmB [1, 2]), .bool (firmB []), .bool (isRowD (row [2, 0]))])
    (.list [.str (Str.ofString "xxyy"), .tuple [.int 2, .int 1], .str (Str.ofString ""), .tuple [], .int 4, .bool false, .bool true, .bool false]) = true := by decide +kernel
theorem last_eq : PySem.Txt.mul (Str.ofString "x") 39 ++ Str.ofString "y" = wd (wordL [40]) := by decide +kernel
theorem ok_law (T : Txt w K mg) (D : TD K mg "law" s_law P_law) (G_row_of : Cal P w K mg base 2 "row_of" P_row_of (spD K 1 wRowOf)) (G_is_row : Cal P w K mg base 2 "is_row" P_is_row (spD K 1 wIsRow)) (G_is_firm : Cal P w K mg base 4 "is_firm" P_is_firm (spD K 1 wFirm)) (G_weight_of : Cal P w K mg base 4 "weight_of" P_weight_of (spD K 1 wWeight))
    (G_word_of : Cal P w K mg base 4 "word_of" P_word_of (spD K 1 wWordOf)) (G__law_right : Cal P w K mg base 6 "_law_right" P__law_right (spD K 1 wRight)) (G__law_dice : Cal P w K mg base 1 "_law_dice" P__law_dice (spF K 2 wDice)) : FnOk P w K mg base CX0 7 D.f D.fd P_law (spD K 1 wLaw) := by
  refine fn_data D.F sc_law rfl fun cdv A outer s H E hr => ?_
  have hu := hr.units
  refine ⟨_, (pss_cons (ps_for PassesOwn.never rfl (pi_range1 rfl T.n_range (pa_cons (pe_callB (call_max2 rfl) rfl T.n_max (by decide +kernel) (pa_cons pe_int (pa_cons (pe_callB (call_min2 rfl) rfl T.n_min (by decide +kernel) (pa_cons pe_int (pa_cons (pe_callB (crK_len (K := K) rfl) rfl T.n_len (by decide +kernel) (pa_cons (pv 0) pa_nil)) pa_nil))) pa_nil))) pa_nil)) (pg_name (i := 1) sc_law.nd rfl (Or.inl rfl)) (pss_cons (ps_set (i := 2) sc_law.nd rfl (Or.inl rfl) (pe_call G__law_dice.ok (hr.mono (by decide)) rfl G__law_dice.m G__law_dice.kp G__law_dice.b .nil pass0 (pa_cons (pv 0) (pa_cons (pv 1) pa_nil)))) (pss_one (ps_for PassesOwn.never rfl (pi_range1 rfl T.n_range (pa_cons pe_int pa_nil)) (pg_name (i := 3) sc_law.nd rfl (Or.inl rfl)) (pss_one (ps_if (pt_not (pt_val (pe_call G__law_right.ok (hr.mono (by decide)) rfl G__law_right.m G__law_right.kp G__law_right.b .nil pass0 (pa_cons (pv 2) pa_nil)))) (pss_one (ps_ret pe_bl)) pss_nil)))))) (pss_cons (ps_set (i := 4) sc_law.nd rfl (Or.inl rfl) (pe_lst (pa_cons (pe_call G_word_of.ok (hr.mono (by decide)) rfl G_word_of.m G_word_of.kp G_word_of.b .nil pass0 (pa_cons (pe_tup (pa_cons pe_int (pa_cons pe_int pa_nil))) pa_nil)) (pa_cons (pe_call G_row_of.ok (hr.mono (by decide)) rfl G_row_of.m G_row_of.kp G_row_of.b .nil pass0 (pa_cons pe_str pa_nil)) (pa_cons (pe_call G_word_of.ok (hr.mono (by decide)) rfl G_word_of.m G_word_of.kp G_word_of.b .nil pass0 (pa_cons (pe_tup pa_nil) pa_nil)) (pa_cons (pe_call G_row_of.ok (hr.mono (by decide)) rfl G_row_of.m G_row_of.kp G_row_of.b .nil pass0 (pa_cons pe_str pa_nil)) (pa_cons (pe_call G_weight_of.ok (hr.mono (by decide)) rfl G_weight_of.m G_weight_of.kp G_weight_of.b .nil pass0 (pa_cons (pe_tup (pa_cons pe_int (pa_cons pe_int pa_nil))) pa_nil)) (pa_cons (pe_call G_is_firm.ok (hr.mono (by decide)) rfl G_is_firm.m G_is_firm.kp G_is_firm.b .nil pass0 (pa_cons (pe_tup (pa_cons pe_int (pa_cons pe_int pa_nil))) pa_nil)) (pa_cons (pe_call G_is_firm.ok (hr.mono (by decide)) rfl G_is_firm.m G_is_firm.kp G_is_firm.b .nil pass0 (pa_cons (pe_tup pa_nil) pa_nil)) (pa_cons (pe_call G_is_row.ok (hr.mono (by decide)) rfl G_is_row.m G_is_row.kp G_is_row.b .nil pass0 (pa_cons (pe_tup (pa_cons pe_int (pa_cons pe_int pa_nil))) pa_nil)) pa_nil)))))))))) (pss_one (ps_ret (pe_and (pe_cmpR (opA_eq hu) (pv 4) (pe_lst (pa_cons pe_str (pa_cons (pe_tup (pa_cons pe_int (pa_cons pe_int pa_nil))) (pa_cons pe_str (pa_cons (pe_tup pa_nil) (pa_cons pe_int (pa_cons pe_bl (pa_cons pe_bl (pa_cons pe_bl pa_nil))))))))) (nomark _)) (pe_one (pe_cmpR (opA_eq hu) (pe_call G_row_of.ok (hr.mono (by decide)) rfl G_row_of.m G_row_of.kp G_row_of.b .nil pass0 (pa_cons (pe_op (opK_add (K := K) rfl) (pe_op (opK_mul (K := K) rfl) pe_str pe_int) pe_str) pa_nil)) (pe_tup (pa_cons pe_int pa_nil)) (nomark _)))))))), ?_⟩
  rintro es Φ ⟨ns, rfl, hlen, kk⟩ _
  try dsimp only [cxOf, Cx.nox, Cx.wish]
  refine ds_seq (ds_for (di_rng1 ?_))
  walk_at "e"
  generalize hN : (if (if ((List.map PyData.int ns).length : Int) < 4 then ((List.map PyData.int ns).length : Int) else 4) > 1 then (if ((List.map PyData.int ns).length : Int) < 4 then ((List.map PyData.int ns).length : Int) else 4) else 1) = N
  have hN2 : 1 ≤ N ∧ N ≤ 4 := by
    rw [← hN]
    repeat' split
    all_goals omega
  refine ⟨_, rfl, ⟨by omega, by omega⟩, fun i ρ' => ∃ a b c, ρ' = [some (.val (.list (ns.map .int))), a, b, c, none], ⟨_, _, _, rfl⟩, fun i d ρ' hd ⟨a, b, c, hρ⟩ => ?_, fun ρ' ⟨a, b, c, hρ⟩ => ?_⟩
  · obtain ⟨hi, rfl⟩ := rngD_get hd
    subst hρ
    rw [Int.zero_add]
    refine dg_name (.inl (by decide)) ?_
    refine ds_seq (ds_asgF (df_call ?_))
    walk_at "e"
    refine ⟨rfl, ns, i, rfl, by omega, fun l s hl => ⟨by decide, ?_⟩⟩
    refine ds_for (di_rng1 ?_)
    walk_at "e"
    refine ⟨_, rfl, ⟨by decide, by decide⟩, fun j ρ' => ∃ l t c, 0 ≤ l ∧ ρ' = [some (.val (.list (ns.map .int))), some (.val (.int (i : Int))), some (dice l s t), c, none], ⟨l, 0, _, hl, rfl⟩, fun j d ρ' hd ⟨l, t, c, hl, hρ⟩ => ?_, fun ρ' ⟨l, t, c, hl, hρ⟩ => ?_⟩
    · subst hρ
      obtain ⟨hj, rfl⟩ := rngD_get hd
      refine dg_name (.inl (by decide)) ?_
      refine ds_if ?_
      walk_at "e"
      refine ⟨rfl, _, rfl, l, s, t, rfl, hl, ?_⟩
      intro l1 t1 hl1 ds2 rest e
      cases e
      walk_at "e"
      exact ⟨_, _, _, hl1, rfl⟩
    · subst hρ
      exact ⟨_, _, _, rfl⟩
  · subst hρ
    walk_at "e"
    refine ⟨rfl, [3, 1], rfl, rowP_of (by decide), ?_⟩
    walk_at "e"
    rw [s_xyy]
    refine ⟨rfl, [2, 1], rfl, rowP_of (by decide), ?_⟩
    walk_at "e"
    refine ⟨rfl, [], rfl, rowP_of (by decide), ?_⟩
    walk_at "e"
    refine ⟨rfl, [], by rw [eS]; rfl, rowP_of (by decide), ?_⟩
    walk_at "e"
    refine ⟨rfl, [3, 1], rfl, rowP_of (by decide), ?_⟩
    walk_at "e"
    refine ⟨rfl, [1, 2], rfl, rowP_of (by decide), ?_⟩
    walk_at "e"
    refine ⟨rfl, [], rfl, rowP_of (by decide), ?_⟩
    walk_at "e"
    refine ⟨rfl, row [2, 0], rfl, fun ds z => by cases z; decide, ?_⟩
    walk_at "e"
    refine rd_eq (by decide +kernel) (by decide +kernel) ?_
    rw [told_eq]
    walk_at "e"
    refine rd_mulBS (by rw [xS]; exact mulok (by decide) (by decide)) ?_
    walk_at "e"
    refine rd_addBS (by decide +kernel) ?_
    rw [last_eq]
    walk_at "e"
    refine ⟨rfl, [40], rfl, rowP_of (by decide), ?_⟩
    walk_at "e"
    refine rd_eqS rfl (eqv_row [40]) ?_
    exact kk
end
end K04
namespace K04
open PySem L2 PySem.Spec PyProof.Rows DL
theorem all_mk {l : PySem.W.OpenLaw} {w : World} {K : PySem.W.Frag} {h : Heap} {mg : Str → Option Value} {fa : Addr} (X : K.In h) (G : h.Ns mainGlobals mg) (hfa : mg "law" = some (.ref fa))
    {f0 : Addr} {od0 an0 : Option Addr} {sl0 : Array (Option Value)} {oc0 kV0 dc0 pm0 cd0 ct0 : Value}
    {f1 : Addr} {od1 an1 : Option Addr} {sl1 : Array (Option Value)} {oc1 kV1 dc1 pm1 cd1 ct1 : Value}
    {f2 : Addr} {od2 an2 : Option Addr} {sl2 : Array (Option Value)} {oc2 kV2 dc2 pm2 cd2 ct2 : Value}
    {f3 : Addr} {od3 an3 : Option Addr} {sl3 : Array (Option Value)} {oc3 kV3 dc3 pm3 cd3 ct3 : Value}
    {f4 : Addr} {od4 an4 : Option Addr} {sl4 : Array (Option Value)} {oc4 kV4 dc4 pm4 cd4 ct4 : Value}
    {f5 : Addr} {od5 an5 : Option Addr} {sl5 : Array (Option Value)} {oc5 kV5 dc5 pm5 cd5 ct5 : Value}
    {f6 : Addr} {od6 an6 : Option Addr} {sl6 : Array (Option Value)} {oc6 kV6 dc6 pm6 cd6 ct6 : Value}
    {f7 : Addr} {od7 an7 : Option Addr} {sl7 : Array (Option Value)} {oc7 kV7 dc7 pm7 cd7 ct7 : Value}
    {f8 : Addr} {od8 an8 : Option Addr} {sl8 : Array (Option Value)} {oc8 kV8 dc8 pm8 cd8 ct8 : Value}
    {f9 : Addr} {od9 an9 : Option Addr} {sl9 : Array (Option Value)} {oc9 kV9 dc9 pm9 cd9 ct9 : Value}
    {f10 : Addr} {od10 an10 : Option Addr} {sl10 : Array (Option Value)} {oc10 kV10 dc10 pm10 cd10 ct10 : Value}
    {f11 : Addr} {od11 an11 : Option Addr} {sl11 : Array (Option Value)} {oc11 kV11 dc11 pm11 cd11 ct11 : Value}
    {f12 : Addr} {od12 an12 : Option Addr} {sl12 : Array (Option Value)} {oc12 kV12 dc12 pm12 cd12 ct12 : Value}
    {f13 : Addr} {od13 an13 : Option Addr} {sl13 : Array (Option Value)} {oc13 kV13 dc13 pm13 cd13 ct13 : Value}
    {f14 : Addr} {od14 an14 : Option Addr} {sl14 : Array (Option Value)} {oc14 kV14 dc14 pm14 cd14 ct14 : Value}
    {f15 : Addr} {od15 an15 : Option Addr} {sl15 : Array (Option Value)} {oc15 kV15 dc15 pm15 cd15 ct15 : Value}
    {f16 : Addr} {od16 an16 : Option Addr} {sl16 : Array (Option Value)} {oc16 kV16 dc16 pm16 cd16 ct16 : Value}
    {f17 : Addr} {od17 an17 : Option Addr} {sl17 : Array (Option Value)} {oc17 kV17 dc17 pm17 cd17 ct17 : Value}
    {f18 : Addr} {od18 an18 : Option Addr} {sl18 : Array (Option Value)} {oc18 kV18 dc18 pm18 cd18 ct18 : Value}
    {f19 : Addr} {od19 an19 : Option Addr} {sl19 : Array (Option Value)} {oc19 kV19 dc19 pm19 cd19 ct19 : Value}
    {tk0 : Tok}
    {aD : Addr} {esD : Array DictEntry} {mD : Nat} {vxD vyD : Value} (y_g : PySem.W.nsIn K mainGlobals "OTHER_LETTER" = some (some (.ref aD))) (y_at : K.lookup aD = some { cls := Value.type "dict", data := Data.dict esD mD }) (y_lit : PySem.W.KeysLit w.params esD.toList) (y_low : (aD == sysModules) = false) (y_x : PySem.W.nsIn K aD "x" = some (some vxD)) (y_y : PySem.W.nsIn K aD "y" = some (some vyD))
    (a0 : PySem.W.nsIn K mainGlobals "is_word" = some (some (.ref f0))) (l0 : K.lookup f0 = some ⟨oc0, od0, .func (PySem.W.fnOf "is_word" "is_word" (defArgs s_is_word) (defBody s_is_word) (defScope s_is_word) .none kV0 dc0 pm0 an0 cd0 ct0), sl0⟩) (c0 : PySem.W.codeIn K cd0 "is_word" = true) (k0 : PySem.W.keepIn K (.ref f0) = true)
    (a1 : PySem.W.nsIn K mainGlobals "row_of" = some (some (.ref f1))) (l1 : K.lookup f1 = some ⟨oc1, od1, .func (PySem.W.fnOf "row_of" "row_of" (defArgs s_row_of) (defBody s_row_of) (defScope s_row_of) .none kV1 dc1 pm1 an1 cd1 ct1), sl1⟩) (c1 : PySem.W.codeIn K cd1 "row_of" = true) (k1 : PySem.W.keepIn K (.ref f1) = true)
    (a2 : PySem.W.nsIn K mainGlobals "is_whole" = some (some (.ref f2))) (l2 : K.lookup f2 = some ⟨oc2, od2, .func (PySem.W.fnOf "is_whole" "is_whole" (defArgs s_is_whole) (defBody s_is_whole) (defScope s_is_whole) .none kV2 dc2 pm2 an2 cd2 ct2), sl2⟩) (c2 : PySem.W.codeIn K cd2 "is_whole" = true) (k2 : PySem.W.keepIn K (.ref f2) = true)
    (a3 : PySem.W.nsIn K mainGlobals "is_row" = some (some (.ref f3))) (l3 : K.lookup f3 = some ⟨oc3, od3, .func (PySem.W.fnOf "is_row" "is_row" (defArgs s_is_row) (defBody s_is_row) (defScope s_is_row) .none kV3 dc3 pm3 an3 cd3 ct3), sl3⟩) (c3 : PySem.W.codeIn K cd3 "is_row" = true) (k3 : PySem.W.keepIn K (.ref f3) = true)
    (a4 : PySem.W.nsIn K mainGlobals "need_row" = some (some (.ref f4))) (l4 : K.lookup f4 = some ⟨oc4, od4, .func (PySem.W.fnOf "need_row" "need_row" (defArgs s_need_row) (defBody s_need_row) (defScope s_need_row) .none kV4 dc4 pm4 an4 cd4 ct4), sl4⟩) (c4 : PySem.W.codeIn K cd4 "need_row" = true) (k4 : PySem.W.keepIn K (.ref f4) = true)
    (a5 : PySem.W.nsIn K mainGlobals "is_firm" = some (some (.ref f5))) (l5 : K.lookup f5 = some ⟨oc5, od5, .func (PySem.W.fnOf "is_firm" "is_firm" (defArgs s_is_firm) (defBody s_is_firm) (defScope s_is_firm) .none kV5 dc5 pm5 an5 cd5 ct5), sl5⟩) (c5 : PySem.W.codeIn K cd5 "is_firm" = true) (k5 : PySem.W.keepIn K (.ref f5) = true)
    (a6 : PySem.W.nsIn K mainGlobals "weight_of" = some (some (.ref f6))) (l6 : K.lookup f6 = some ⟨oc6, od6, .func (PySem.W.fnOf "weight_of" "weight_of" (defArgs s_weight_of) (defBody s_weight_of) (defScope s_weight_of) .none kV6 dc6 pm6 an6 cd6 ct6), sl6⟩) (c6 : PySem.W.codeIn K cd6 "weight_of" = true) (k6 : PySem.W.keepIn K (.ref f6) = true)
    (a7 : PySem.W.nsIn K mainGlobals "word_of" = some (some (.ref f7))) (l7 : K.lookup f7 = some ⟨oc7, od7, .func (PySem.W.fnOf "word_of" "word_of" (defArgs s_word_of) (defBody s_word_of) (defScope s_word_of) .none kV7 dc7 pm7 an7 cd7 ct7), sl7⟩) (c7 : PySem.W.codeIn K cd7 "word_of" = true) (k7 : PySem.W.keepIn K (.ref f7) = true)
    (a8 : PySem.W.nsIn K mainGlobals "_law_roll" = some (some (.ref f8))) (l8 : K.lookup f8 = some ⟨oc8, od8, .func (PySem.W.fnOf "_law_roll" "_law_roll" (defArgs s__law_roll) (defBody s__law_roll) (defScope s__law_roll) .none kV8 dc8 pm8 an8 cd8 ct8), sl8⟩) (c8 : PySem.W.codeIn K cd8 "_law_roll" = true) (k8 : PySem.W.keepIn K (.ref f8) = true)
    (a9 : PySem.W.nsIn K mainGlobals "_law_pick" = some (some (.ref f9))) (l9 : K.lookup f9 = some ⟨oc9, od9, .func (PySem.W.fnOf "_law_pick" "_law_pick" (defArgs s__law_pick) (defBody s__law_pick) (defScope s__law_pick) .none kV9 dc9 pm9 an9 cd9 ct9), sl9⟩) (c9 : PySem.W.codeIn K cd9 "_law_pick" = true) (k9 : PySem.W.keepIn K (.ref f9) = true)
    (a10 : PySem.W.nsIn K mainGlobals "_law_near_row" = some (some (.ref f10))) (l10 : K.lookup f10 = some ⟨oc10, od10, .func (PySem.W.fnOf "_law_near_row" "_law_near_row" (defArgs s__law_near_row) (defBody s__law_near_row) (defScope s__law_near_row) .none kV10 dc10 pm10 an10 cd10 ct10), sl10⟩) (c10 : PySem.W.codeIn K cd10 "_law_near_row" = true) (k10 : PySem.W.keepIn K (.ref f10) = true)
    (a11 : PySem.W.nsIn K mainGlobals "_law_is_integer" = some (some (.ref f11))) (l11 : K.lookup f11 = some ⟨oc11, od11, .func (PySem.W.fnOf "_law_is_integer" "_law_is_integer" (defArgs s__law_is_integer) (defBody s__law_is_integer) (defScope s__law_is_integer) .none kV11 dc11 pm11 an11 cd11 ct11), sl11⟩) (c11 : PySem.W.codeIn K cd11 "_law_is_integer" = true) (k11 : PySem.W.keepIn K (.ref f11) = true)
    (a12 : PySem.W.nsIn K mainGlobals "_law_is_row" = some (some (.ref f12))) (l12 : K.lookup f12 = some ⟨oc12, od12, .func (PySem.W.fnOf "_law_is_row" "_law_is_row" (defArgs s__law_is_row) (defBody s__law_is_row) (defScope s__law_is_row) .none kV12 dc12 pm12 an12 cd12 ct12), sl12⟩) (c12 : PySem.W.codeIn K cd12 "_law_is_row" = true) (k12 : PySem.W.keepIn K (.ref f12) = true)
    (a13 : PySem.W.nsIn K mainGlobals "_law_word" = some (some (.ref f13))) (l13 : K.lookup f13 = some ⟨oc13, od13, .func (PySem.W.fnOf "_law_word" "_law_word" (defArgs s__law_word) (defBody s__law_word) (defScope s__law_word) .none kV13 dc13 pm13 an13 cd13 ct13), sl13⟩) (c13 : PySem.W.codeIn K cd13 "_law_word" = true) (k13 : PySem.W.keepIn K (.ref f13) = true)
    (a14 : PySem.W.nsIn K mainGlobals "_law_row_right" = some (some (.ref f14))) (l14 : K.lookup f14 = some ⟨oc14, od14, .func (PySem.W.fnOf "_law_row_right" "_law_row_right" (defArgs s__law_row_right) (defBody s__law_row_right) (defScope s__law_row_right) .none kV14 dc14 pm14 an14 cd14 ct14), sl14⟩) (c14 : PySem.W.codeIn K cd14 "_law_row_right" = true) (k14 : PySem.W.keepIn K (.ref f14) = true)
    (a15 : PySem.W.nsIn K mainGlobals "_law_row_drawn" = some (some (.ref f15))) (l15 : K.lookup f15 = some ⟨oc15, od15, .func (PySem.W.fnOf "_law_row_drawn" "_law_row_drawn" (defArgs s__law_row_drawn) (defBody s__law_row_drawn) (defScope s__law_row_drawn) .none kV15 dc15 pm15 an15 cd15 ct15), sl15⟩) (c15 : PySem.W.codeIn K cd15 "_law_row_drawn" = true) (k15 : PySem.W.keepIn K (.ref f15) = true)
    (a16 : PySem.W.nsIn K mainGlobals "_law_row_menu" = some (some (.ref f16))) (l16 : K.lookup f16 = some ⟨oc16, od16, .func (PySem.W.fnOf "_law_row_menu" "_law_row_menu" (defArgs s__law_row_menu) (defBody s__law_row_menu) (defScope s__law_row_menu) .none kV16 dc16 pm16 an16 cd16 ct16), sl16⟩) (c16 : PySem.W.codeIn K cd16 "_law_row_menu" = true) (k16 : PySem.W.keepIn K (.ref f16) = true)
    (a17 : PySem.W.nsIn K mainGlobals "_law_right" = some (some (.ref f17))) (l17 : K.lookup f17 = some ⟨oc17, od17, .func (PySem.W.fnOf "_law_right" "_law_right" (defArgs s__law_right) (defBody s__law_right) (defScope s__law_right) .none kV17 dc17 pm17 an17 cd17 ct17), sl17⟩) (c17 : PySem.W.codeIn K cd17 "_law_right" = true) (k17 : PySem.W.keepIn K (.ref f17) = true)
    (a18 : PySem.W.nsIn K mainGlobals "_law_dice" = some (some (.ref f18))) (l18 : K.lookup f18 = some ⟨oc18, od18, .func (PySem.W.fnOf "_law_dice" "_law_dice" (defArgs s__law_dice) (defBody s__law_dice) (defScope s__law_dice) .none kV18 dc18 pm18 an18 cd18 ct18), sl18⟩) (c18 : PySem.W.codeIn K cd18 "_law_dice" = true) (k18 : PySem.W.keepIn K (.ref f18) = true)
    (a19 : PySem.W.nsIn K mainGlobals "law" = some (some (.ref f19))) (l19 : K.lookup f19 = some ⟨oc19, od19, .func (PySem.W.fnOf "law" "law" (defArgs s_law) (defBody s_law) (defScope s_law) .none kV19 dc19 pm19 an19 cd19 ct19), sl19⟩) (c19 : PySem.W.codeIn K cd19 "law" = true) (k19 : PySem.W.keepIn K (.ref f19) = true)
    (z_isinstance : PySem.W.nsIn K mainGlobals "isinstance" = some none)
    (z_int : PySem.W.nsIn K mainGlobals "int" = some none)
    (z_bool : PySem.W.nsIn K mainGlobals "bool" = some none)
    (z_tuple : PySem.W.nsIn K mainGlobals "tuple" = some none)
    (z_str : PySem.W.nsIn K mainGlobals "str" = some none)
    (z_len : PySem.W.nsIn K mainGlobals "len" = some none)
    (z_abs : PySem.W.nsIn K mainGlobals "abs" = some none)
    (z_max : PySem.W.nsIn K mainGlobals "max" = some none)
    (z_min : PySem.W.nsIn K mainGlobals "min" = some none)
    (z_range : PySem.W.nsIn K mainGlobals "range" = some none)
    (z_all : PySem.W.nsIn K mainGlobals "all" = some none)
    (z_list : PySem.W.nsIn K mainGlobals "list" = some none)
    (z_repr : PySem.W.nsIn K mainGlobals "repr" = some none)
    (z_sum : PySem.W.nsIn K mainGlobals "sum" = some none)
    (z_MAX_WEIGHT : PySem.W.nsIn K mainGlobals "MAX_WEIGHT" = some (some (.int 40 tk0))) :
    ∃ fd : FuncData, (∀ (s : Shared) (v : Value), BindsTo s fd ⟨[v], []⟩ [("_law_script", v)]) ∧ ∀ base : Heap, K.In base → base.Ns mainGlobals mg → FnOk l.prog w K mg base CX0 7 fa fd P_law (spD K 1 wLaw) := by
  have e := hfa.symm.trans (PySem.W.mg_of X G a19)
  cases e
  let T : Txt w K mg := { a_OTHER_LETTER := aD, c_OTHER_LETTER := PySem.W.mg_of X G y_g, es_OTHER := esD, m_OTHER := mD, d_OTHER_LETTER := ⟨y_at, y_lit, y_low⟩, vx := vxD, vy := vyD, in_x := y_x, in_y := y_y,  n_isinstance := PySem.W.mg_none_of X G z_isinstance, n_int := PySem.W.mg_none_of X G z_int, n_bool := PySem.W.mg_none_of X G z_bool, n_tuple := PySem.W.mg_none_of X G z_tuple, n_str := PySem.W.mg_none_of X G z_str, n_len := PySem.W.mg_none_of X G z_len, n_abs := PySem.W.mg_none_of X G z_abs, n_max := PySem.W.mg_none_of X G z_max, n_min := PySem.W.mg_none_of X G z_min, n_range := PySem.W.mg_none_of X G z_range, n_all := PySem.W.mg_none_of X G z_all, n_list := PySem.W.mg_none_of X G z_list, n_repr := PySem.W.mg_none_of X G z_repr, n_sum := PySem.W.mg_none_of X G z_sum, t1 := tk0, c_MAX_WEIGHT := PySem.W.mg_of X G z_MAX_WEIGHT }
  let D_is_word : TD K mg "is_word" s_is_word P_is_word := ⟨f0, _, fun_mk (st := s_is_word) l0 c0 k0, PySem.W.mg_of X G a0, (fun_mk (st := s_is_word) l0 c0 k0).binds (ps := P_is_word) fun _ _ _ _ _ _ us hl => match us, hl with | [_, _], _ => rfl⟩
  let D_row_of : TD K mg "row_of" s_row_of P_row_of := ⟨f1, _, fun_mk (st := s_row_of) l1 c1 k1, PySem.W.mg_of X G a1, (fun_mk (st := s_row_of) l1 c1 k1).binds (ps := P_row_of) fun _ _ _ _ _ _ us hl => match us, hl with | [_], _ => rfl⟩
  let D_is_whole : TD K mg "is_whole" s_is_whole P_is_whole := ⟨f2, _, fun_mk (st := s_is_whole) l2 c2 k2, PySem.W.mg_of X G a2, (fun_mk (st := s_is_whole) l2 c2 k2).binds (ps := P_is_whole) fun _ _ _ _ _ _ us hl => match us, hl with | [_], _ => rfl⟩
  let D_is_row : TD K mg "is_row" s_is_row P_is_row := ⟨f3, _, fun_mk (st := s_is_row) l3 c3 k3, PySem.W.mg_of X G a3, (fun_mk (st := s_is_row) l3 c3 k3).binds (ps := P_is_row) fun _ _ _ _ _ _ us hl => match us, hl with | [_], _ => rfl⟩
  let D_need_row : TD K mg "need_row" s_need_row P_need_row := ⟨f4, _, fun_mk (st := s_need_row) l4 c4 k4, PySem.W.mg_of X G a4, (fun_mk (st := s_need_row) l4 c4 k4).binds (ps := P_need_row) fun _ _ _ _ _ _ us hl => match us, hl with | [_], _ => rfl⟩
  let D_is_firm : TD K mg "is_firm" s_is_firm P_is_firm := ⟨f5, _, fun_mk (st := s_is_firm) l5 c5 k5, PySem.W.mg_of X G a5, (fun_mk (st := s_is_firm) l5 c5 k5).binds (ps := P_is_firm) fun _ _ _ _ _ _ us hl => match us, hl with | [_], _ => rfl⟩
  let D_weight_of : TD K mg "weight_of" s_weight_of P_weight_of := ⟨f6, _, fun_mk (st := s_weight_of) l6 c6 k6, PySem.W.mg_of X G a6, (fun_mk (st := s_weight_of) l6 c6 k6).binds (ps := P_weight_of) fun _ _ _ _ _ _ us hl => match us, hl with | [_], _ => rfl⟩
  let D_word_of : TD K mg "word_of" s_word_of P_word_of := ⟨f7, _, fun_mk (st := s_word_of) l7 c7 k7, PySem.W.mg_of X G a7, (fun_mk (st := s_word_of) l7 c7 k7).binds (ps := P_word_of) fun _ _ _ _ _ _ us hl => match us, hl with | [_], _ => rfl⟩
  let D__law_roll : TD K mg "_law_roll" s__law_roll P__law_roll := ⟨f8, _, fun_mk (st := s__law_roll) l8 c8 k8, PySem.W.mg_of X G a8, (fun_mk (st := s__law_roll) l8 c8 k8).binds (ps := P__law_roll) fun _ _ _ _ _ _ us hl => match us, hl with | [_, _], _ => rfl⟩
  let D__law_pick : TD K mg "_law_pick" s__law_pick P__law_pick := ⟨f9, _, fun_mk (st := s__law_pick) l9 c9 k9, PySem.W.mg_of X G a9, (fun_mk (st := s__law_pick) l9 c9 k9).binds (ps := P__law_pick) fun _ _ _ _ _ _ us hl => match us, hl with | [_, _], _ => rfl⟩
  let D__law_near_row : TD K mg "_law_near_row" s__law_near_row P__law_near_row := ⟨f10, _, fun_mk (st := s__law_near_row) l10 c10 k10, PySem.W.mg_of X G a10, (fun_mk (st := s__law_near_row) l10 c10 k10).binds (ps := P__law_near_row) fun _ _ _ _ _ _ us hl => match us, hl with | [_, _], _ => rfl⟩
  let D__law_is_integer : TD K mg "_law_is_integer" s__law_is_integer P__law_is_integer := ⟨f11, _, fun_mk (st := s__law_is_integer) l11 c11 k11, PySem.W.mg_of X G a11, (fun_mk (st := s__law_is_integer) l11 c11 k11).binds (ps := P__law_is_integer) fun _ _ _ _ _ _ us hl => match us, hl with | [_], _ => rfl⟩
  let D__law_is_row : TD K mg "_law_is_row" s__law_is_row P__law_is_row := ⟨f12, _, fun_mk (st := s__law_is_row) l12 c12 k12, PySem.W.mg_of X G a12, (fun_mk (st := s__law_is_row) l12 c12 k12).binds (ps := P__law_is_row) fun _ _ _ _ _ _ us hl => match us, hl with | [_], _ => rfl⟩
  let D__law_word : TD K mg "_law_word" s__law_word P__law_word := ⟨f13, _, fun_mk (st := s__law_word) l13 c13 k13, PySem.W.mg_of X G a13, (fun_mk (st := s__law_word) l13 c13 k13).binds (ps := P__law_word) fun _ _ _ _ _ _ us hl => match us, hl with | [_], _ => rfl⟩
  let D__law_row_right : TD K mg "_law_row_right" s__law_row_right P__law_row_right := ⟨f14, _, fun_mk (st := s__law_row_right) l14 c14 k14, PySem.W.mg_of X G a14, (fun_mk (st := s__law_row_right) l14 c14 k14).binds (ps := P__law_row_right) fun _ _ _ _ _ _ us hl => match us, hl with | [_], _ => rfl⟩
  let D__law_row_drawn : TD K mg "_law_row_drawn" s__law_row_drawn P__law_row_drawn := ⟨f15, _, fun_mk (st := s__law_row_drawn) l15 c15 k15, PySem.W.mg_of X G a15, (fun_mk (st := s__law_row_drawn) l15 c15 k15).binds (ps := P__law_row_drawn) fun _ _ _ _ _ _ us hl => match us, hl with | [_, _], _ => rfl⟩
  let D__law_row_menu : TD K mg "_law_row_menu" s__law_row_menu P__law_row_menu := ⟨f16, _, fun_mk (st := s__law_row_menu) l16 c16 k16, PySem.W.mg_of X G a16, (fun_mk (st := s__law_row_menu) l16 c16 k16).binds (ps := P__law_row_menu) fun _ _ _ _ _ _ us hl => match us, hl with | [_], _ => rfl⟩
  let D__law_right : TD K mg "_law_right" s__law_right P__law_right := ⟨f17, _, fun_mk (st := s__law_right) l17 c17 k17, PySem.W.mg_of X G a17, (fun_mk (st := s__law_right) l17 c17 k17).binds (ps := P__law_right) fun _ _ _ _ _ _ us hl => match us, hl with | [_], _ => rfl⟩
  let D__law_dice : TD K mg "_law_dice" s__law_dice P__law_dice := ⟨f18, _, fun_mk (st := s__law_dice) l18 c18 k18, PySem.W.mg_of X G a18, (fun_mk (st := s__law_dice) l18 c18 k18).binds (ps := P__law_dice) fun _ _ _ _ _ _ us hl => match us, hl with | [_, _], _ => rfl⟩
  let D_law : TD K mg "law" s_law P_law := ⟨fa, _, fun_mk (st := s_law) l19 c19 k19, PySem.W.mg_of X G a19, (fun_mk (st := s_law) l19 c19 k19).binds (ps := P_law) fun _ _ _ _ _ _ us hl => match us, hl with | [_], _ => rfl⟩
  refine ⟨D_law.fd, fun s v => .of_eq rfl, fun base _ _ => ?_⟩
  let C_is_word := D_is_word.cal (ok_is_word (P := l.prog) (w := w) (base := base) T D_is_word )
  let C_row_of := D_row_of.cal (ok_row_of (P := l.prog) (w := w) (base := base) T D_row_of (G_is_word := C_is_word))
  let C_is_whole := D_is_whole.cal (ok_is_whole (P := l.prog) (w := w) (base := base) T D_is_whole )
  let C_is_row := D_is_row.cal (ok_is_row (P := l.prog) (w := w) (base := base) T D_is_row (G_is_whole := C_is_whole))
  let C_need_row := D_need_row.cal (ok_need_row (P := l.prog) (w := w) (base := base) T D_need_row (G_is_row := C_is_row))
  let C_is_firm := D_is_firm.cal (ok_is_firm (P := l.prog) (w := w) (base := base) T D_is_firm (G_need_row := C_need_row))
  let C_weight_of := D_weight_of.cal (ok_weight_of (P := l.prog) (w := w) (base := base) T D_weight_of (G_need_row := C_need_row))
  let C_word_of := D_word_of.cal (ok_word_of (P := l.prog) (w := w) (base := base) T D_word_of (G_need_row := C_need_row))
  let C__law_roll := D__law_roll.cal (ok_roll (P := l.prog) (w := w) (base := base) T D__law_roll )
  let C__law_pick := D__law_pick.cal (ok_pick (P := l.prog) (w := w) (base := base) T D__law_pick (G__law_roll := C__law_roll))
  let C__law_near_row := D__law_near_row.cal (ok_near_row (P := l.prog) (w := w) (base := base) T D__law_near_row (G_word_of := C_word_of) (G__law_pick := C__law_pick) (G__law_roll := C__law_roll))
  let C__law_is_integer := D__law_is_integer.cal (ok_law_int (P := l.prog) (w := w) (base := base) T D__law_is_integer )
  let C__law_is_row := D__law_is_row.cal (ok_law_is_row (P := l.prog) (w := w) (base := base) T D__law_is_row (G__law_is_integer := C__law_is_integer))
  let C__law_word := D__law_word.cal (ok_law_word (P := l.prog) (w := w) (base := base) T D__law_word )
  let C__law_row_right := D__law_row_right.cal (ok_row_right (P := l.prog) (w := w) (base := base) T D__law_row_right (G_is_row := C_is_row) (G_is_firm := C_is_firm) (G_weight_of := C_weight_of) (G_row_of := C_row_of) (G_word_of := C_word_of) (G__law_word := C__law_word))
  let C__law_row_drawn := D__law_row_drawn.cal (ok_drawn (P := l.prog) (w := w) (base := base) T D__law_row_drawn (G__law_roll := C__law_roll) (G__law_pick := C__law_pick))
  let C__law_row_menu := D__law_row_menu.cal (ok_menu (P := l.prog) (w := w) (base := base) T D__law_row_menu (G__law_row_drawn := C__law_row_drawn) (G__law_roll := C__law_roll))
  let C__law_right := D__law_right.cal (ok_right (P := l.prog) (w := w) (base := base) T D__law_right (G_row_of := C_row_of) (G_word_of := C_word_of) (G__law_roll := C__law_roll) (G__law_pick := C__law_pick) (G__law_near_row := C__law_near_row) (G_is_row := C_is_row) (G__law_is_row := C__law_is_row) (G__law_row_right := C__law_row_right) (G__law_row_drawn := C__law_row_drawn) (G__law_row_menu := C__law_row_menu))
  let C__law_dice := D__law_dice.cal (ok_dice (P := l.prog) (w := w) (base := base) T D__law_dice )
  exact ok_law (P := l.prog) (w := w) (base := base) T D_law (G_row_of := C_row_of) (G_is_row := C_is_row) (G_is_firm := C_is_firm) (G_weight_of := C_weight_of) (G_word_of := C_word_of) (G__law_right := C__law_right) (G__law_dice := C__law_dice)
theorem only_nil {H : Hp} : msk [] H = H := by
  funext b
  unfold msk
  rw [if_neg (by simp)]
theorem walk {l : PySem.W.OpenLaw} {q : Program} {loose : List Str} {XP : (Str → Option Value) → Heap → Prop} {YP : World → Heap → Prop} {d : DefRec} {K : Params → PySem.W.Frag} (hn : l.most = some 63) (hdf : d.params.defaults = [])
    (hY : ∀ (w : World) (h : Heap), YP w h → (K w.params).In h)
    (F : ∀ (w : World) (mg : Str → Option Value) (fa : Addr) (h : Heap), (K w.params).In h → h.Ns mainGlobals mg → mg d.name = some (.ref fa) →
      ∃ fd : FuncData, (∀ (s : Shared) (u : Value), BindsTo s fd ⟨[u], []⟩ [("_law_script", u)]) ∧ ∀ base : Heap, (K w.params).In base → base.Ns mainGlobals mg → FnOk l.prog w (K w.params) mg base CX0 7 fa fd P_law (spD (K w.params) 1 wLaw)) :
    PySem.W.WalkO q loose XP YP l.row.toRowW d [] (fun f vs => PySem.call f vs) :=
  L2.walk_of (n := 63) (k := 7) (x := "_law_script") (CX := fun _ => CX0) (sp := fun w => spD (K w.params) 1 wLaw) hn (by decide) hdf ⟨rfl, by decide, by decide⟩ hY F
    (fun w H a ns hl _ hS => ⟨[], [.val (.list (ns.map .int))], fun d _ => d = .bool true, rfl, env_args (ds := [.list (ns.map .int)]) (fun _ z => nomatch z) (by rw [only_nil]; exact dpa_one (.lst hS (dpa_ints ns))), ⟨ns, rfl, hl, rfl⟩, fun v d es' O' H' e S r => by subst e; exact dp_bl r⟩) fun _ _ _ _ _ z => z
end K04
open PySem PySem.W PyProof.Rows in
set_option maxRecDepth 100000 in
set_option maxHeartbeats 0 in
theorem PySem.Challenge.cw_risewords_k04_whole_rows_and_words_holds : PySem.Challenge.rw_risewords_k04_whole_rows_and_words.Holds := by
  w_on; o_law; k_head; (case hw => w_witness2)
  k_fill
  refine K04.walk (l := PySem.Challenge.rw_risewords_k04_whole_rows_and_words) rfl rfl (fun w h Y => PySem.W.kIn_of Y) ?F
  case F =>
    intro w mg fa h KX G hmg
    refine' K04.all_mk KX G hmg ?y_g ?y_at ?y_lit ?y_low ?y_x ?y_y ?a0 ?l0 ?c0 ?k0 ?a1 ?l1 ?c1 ?k1 ?a2 ?l2 ?c2 ?k2 ?a3 ?l3 ?c3 ?k3 ?a4 ?l4 ?c4 ?k4 ?a5 ?l5 ?c5 ?k5 ?a6 ?l6 ?c6 ?k6 ?a7 ?l7 ?c7 ?k7 ?a8 ?l8 ?c8 ?k8 ?a9 ?l9 ?c9 ?k9 ?a10 ?l10 ?c10 ?k10 ?a11 ?l11 ?c11 ?k11 ?a12 ?l12 ?c12 ?k12 ?a13 ?l13 ?c13 ?k13 ?a14 ?l14 ?c14 ?k14 ?a15 ?l15 ?c15 ?k15 ?a16 ?l16 ?c16 ?k16 ?a17 ?l17 ?c17 ?k17 ?a18 ?l18 ?c18 ?k18 ?a19 ?l19 ?c19 ?k19 ?z_isinstance ?z_int ?z_bool ?z_tuple ?z_str ?z_len ?z_abs ?z_max ?z_min ?z_range ?z_all ?z_list ?z_repr ?z_sum ?z_MAX_WEIGHT
    (case y_g => k_is)
    (case y_at => k_is)
    (case y_low => first | rfl | decide)
    (case y_x => k_is)
    (case y_y => k_is)
    (case y_lit => first | k_is | (exact ⟨⟨_, _, rfl, rfl⟩, ⟨_, _, rfl, rfl⟩, trivial⟩))
    (case a0 => k_is)
    (case l0 => k_is)
    (case c0 => k_is)
    (case k0 => k_is)
    (case a1 => k_is)
    (case l1 => k_is)
    (case c1 => k_is)
    (case k1 => k_is)
    (case a2 => k_is)
    (case l2 => k_is)
    (case c2 => k_is)
    (case k2 => k_is)
    (case a3 => k_is)
    (case l3 => k_is)
    (case c3 => k_is)
    (case k3 => k_is)
    (case a4 => k_is)
    (case l4 => k_is)
    (case c4 => k_is)
    (case k4 => k_is)
    (case a5 => k_is)
    (case l5 => k_is)
    (case c5 => k_is)
    (case k5 => k_is)
    (case a6 => k_is)
    (case l6 => k_is)
    (case c6 => k_is)
    (case k6 => k_is)
    (case a7 => k_is)
    (case l7 => k_is)
    (case c7 => k_is)
    (case k7 => k_is)
    (case a8 => k_is)
    (case l8 => k_is)
    (case c8 => k_is)
    (case k8 => k_is)
    (case a9 => k_is)
    (case l9 => k_is)
    (case c9 => k_is)
    (case k9 => k_is)
    (case a10 => k_is)
    (case l10 => k_is)
    (case c10 => k_is)
    (case k10 => k_is)
    (case a11 => k_is)
    (case l11 => k_is)
    (case c11 => k_is)
    (case k11 => k_is)
    (case a12 => k_is)
    (case l12 => k_is)
    (case c12 => k_is)
    (case k12 => k_is)
    (case a13 => k_is)
    (case l13 => k_is)
    (case c13 => k_is)
    (case k13 => k_is)
    (case a14 => k_is)
    (case l14 => k_is)
    (case c14 => k_is)
    (case k14 => k_is)
    (case a15 => k_is)
    (case l15 => k_is)
    (case c15 => k_is)
    (case k15 => k_is)
    (case a16 => k_is)
    (case l16 => k_is)
    (case c16 => k_is)
    (case k16 => k_is)
    (case a17 => k_is)
    (case l17 => k_is)
    (case c17 => k_is)
    (case k17 => k_is)
    (case a18 => k_is)
    (case l18 => k_is)
    (case c18 => k_is)
    (case k18 => k_is)
    (case a19 => k_is)
    (case l19 => k_is)
    (case c19 => k_is)
    (case k19 => k_is)
    (case z_isinstance => k_is)
    (case z_int => k_is)
    (case z_bool => k_is)
    (case z_tuple => k_is)
    (case z_str => k_is)
    (case z_len => k_is)
    (case z_abs => k_is)
    (case z_max => k_is)
    (case z_min => k_is)
    (case z_range => k_is)
    (case z_all => k_is)
    (case z_list => k_is)
    (case z_repr => k_is)
    (case z_sum => k_is)
    (case z_MAX_WEIGHT => k_is)
#print axioms PySem.Challenge.cw_risewords_k04_whole_rows_and_words_holds
