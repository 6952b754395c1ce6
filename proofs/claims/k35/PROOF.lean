import PyProof.Rows.All
import Wide.All
import OpenK.AllK
import Wide.FinOn
import HandS.ForMost
import HandS.ForExc
import HandS.Wide
import HandS.Gcd
import HandS.IsInst
import HandS.FStr
import HandS.TupMul
import HandS.TupAny
import HandS.Text
import HandS.TupLe
import HandS.More
import HandS.Dict
import HandS.StrMore
import HandS.Iter
import HandS.Small
import HandS.Star
import HandS.Style
import HandS.Zip
import HandS.SortRule
import HandS.TupSets
import HandS.GenYield
import HandS.GenCall
import HandS.GenList
import HandS.Defaults
import HandS.SortInts
import HandS.Conv
import KE.GoesZip
import KE.GoesMore
import PyProof.EnumMake
import PyProof.EnumFor
import PySem.Challenge.RW_risewords_k35_whole_chains_counted_and_j
set_option Elab.async false
set_option linter.all false
set_option maxRecDepth 100000
set_option maxHeartbeats 8000000
set_option exponentiation.threshold 5000
namespace DL
open PySem L2

/-- the heap without some addresses -/
def msk (O : List Addr) (H : Hp) : Hp := fun b => if b ∈ O then none else H b
theorem msk_some {O : List Addr} {H : Hp} {b : Addr} {o : HO} (h : msk O H b = some o) : b ∉ O ∧ H b = some o := by
  unfold msk at h
  by_cases e : b ∈ O
  · rw [if_pos e] at h; cases h
  · rw [if_neg e] at h; exact ⟨e, h⟩
theorem msk_of {O : List Addr} {H : Hp} {b : Addr} {o : HO} (n : b ∉ O) (h : H b = some o) : msk O H b = some o := by
  unfold msk; rw [if_neg n]; exact h
def keyD : Key → PyData
  | .inl i => .int i
  | .inr s => .str s
mutual
inductive DP (K : PySem.W.Frag) (H : Hp) : V → PyData → Prop
  | non : DP K H .non .none
  | bl (b : Bool) : DP K H (.bl b) (.bool b)
  | int (i : Int) : DP K H (.int i) (.int i)
  | str (x : Str) : DP K H (.str x) (.str x)
  | lst {a : Addr} {xs : List V} {ds : List PyData} : SqL K H a xs → DPAll K H xs ds → DP K H (.ref a) (.list ds)
  | tup {a : Addr} {xs : List V} {ds : List PyData} : SqT K H a xs → DPAll K H xs ds → DP K H (.ref a) (.tuple ds)
  | dct {a : Addr} {kvs : List (Key × V)} {ds : List (PyData × PyData)} : Rd H a (.dK kvs) → DPKV K H kvs ds → DP K H (.ref a) (.dict ds)
inductive DPAll (K : PySem.W.Frag) (H : Hp) : List V → List PyData → Prop
  | nil : DPAll K H [] []
  | cons {v : V} {vs : List V} {d : PyData} {ds : List PyData} : DP K H v d → DPAll K H vs ds → DPAll K H (v :: vs) (d :: ds)
inductive DPKV (K : PySem.W.Frag) (H : Hp) : List (Key × V) → List (PyData × PyData) → Prop
  | nil : DPKV K H [] []
  | cons {k : Key} {v : V} {kd : PyData} {kvs : List (Key × V)} {d : PyData} {ds : List (PyData × PyData)} : keyD k = kd → DP K H v d → DPKV K H kvs ds → DPKV K H ((k, v) :: kvs) ((kd, d) :: ds)
end
mutual
theorem dp_old {K : PySem.W.Frag} {H : Hp} : ∀ {v : V} {d : PyData}, PyData.canLay0 d = true → DP K H v d → L2.Dp K H v d
  | _, _, _, .non => .non
  | _, _, _, .bl b => .bl b
  | _, _, _, .int i => .int i
  | _, _, _, .str x => .str x
  | _, _, h, .lst hq hd => .lst hq (dpa_old (by simpa [PyData.canLay0] using h) hd)
  | _, _, h, .tup hq hd => .tup hq (dpa_old (by simpa [PyData.canLay0] using h) hd)
  | _, _, h, .dct _ _ => by simp [PyData.canLay0] at h
theorem dpa_old {K : PySem.W.Frag} {H : Hp} : ∀ {vs : List V} {ds : List PyData}, PyData.canLayAll0 ds = true → DPAll K H vs ds → L2.DpAll K H vs ds
  | _, _, _, .nil => .nil
  | _ :: _, d :: ds, h, .cons a b => by
    have h : (PyData.canLay0 d && PyData.canLayAll0 ds) = true := by simpa [PyData.canLayAll0] using h
    rw [Bool.and_eq_true] at h
    exact .cons (dp_old h.1 a) (dpa_old h.2 b)
end
theorem dp_sh {K : PySem.W.Frag} {H : Hp} {v : V} {d : PyData} (h : SeqAt.shaped d = true) (q : DP K H v d) : L2.Dp K H v d := dp_old (SeqAt.canLay_of_shaped h) q
def Ext (H H' : Hp) : Prop := ∀ b o, H b = some o → H' b = some o
theorem Ext.refl (H : Hp) : Ext H H := fun _ _ h => h
theorem Ext.trans {H H1 H2 : Hp} (a : Ext H H1) (b : Ext H1 H2) : Ext H H2 := fun x o h => b x o (a x o h)
theorem Ext.new {H : Hp} {p : Addr} {o : HO} (h : H p = none) : Ext H (upd H p o) := fun a u e => by
  rw [upd_ne (ne_of_none e h)]; exact e
theorem Ext.rd {H H' : Hp} {a : Addr} {u : HO} (e : Ext H H') (h : Rd H a u) : Rd H' a u := by
  rcases h with h | ⟨o, h⟩
  · exact .inl (e a _ h)
  · exact .inr ⟨o, e a _ h⟩
theorem Ext.l {K : PySem.W.Frag} {H H' : Hp} {a : Addr} {xs : List V} (e : Ext H H') (h : SqL K H a xs) : SqL K H' a xs := by
  rcases h with h | h
  · exact .inl (e.rd h)
  · exact .inr h
theorem Ext.t {K : PySem.W.Frag} {H H' : Hp} {a : Addr} {xs : List V} (e : Ext H H') (h : SqT K H a xs) : SqT K H' a xs := by
  rcases h with h | h
  · exact .inl (e.rd h)
  · exact .inr h
mutual
theorem dp_ext {K : PySem.W.Frag} {H H' : Hp} (e : Ext H H') : ∀ {v : V} {d : PyData}, DP K H v d → DP K H' v d
  | _, _, .non => .non
  | _, _, .bl b => .bl b
  | _, _, .int i => .int i
  | _, _, .str x => .str x
  | _, _, .lst h q => .lst (e.l h) (dpa_ext e q)
  | _, _, .tup h q => .tup (e.t h) (dpa_ext e q)
  | _, _, .dct h q => .dct (e.rd h) (dpk_ext e q)
theorem dpa_ext {K : PySem.W.Frag} {H H' : Hp} (e : Ext H H') : ∀ {vs : List V} {ds : List PyData}, DPAll K H vs ds → DPAll K H' vs ds
  | _, _, .nil => .nil
  | _, _, .cons h q => .cons (dp_ext e h) (dpa_ext e q)
theorem dpk_ext {K : PySem.W.Frag} {H H' : Hp} (e : Ext H H') : ∀ {vs : List (Key × V)} {ds : List (PyData × PyData)}, DPKV K H vs ds → DPKV K H' vs ds
  | _, _, .nil => .nil
  | _, _, .cons k h q => .cons k (dp_ext e h) (dpk_ext e q)
end
theorem msk_ext {O : List Addr} {H H' : Hp} (e : Ext H H') : Ext (msk O H) (msk O H') := fun b o h => by
  obtain ⟨n, h⟩ := msk_some h
  exact msk_of n (e b o h)
theorem msk_le {O : List Addr} {H : Hp} : Ext (msk O H) H := fun b o h => (msk_some h).2
theorem dpa_len {K : PySem.W.Frag} {H : Hp} : ∀ {vs : List V} {ds : List PyData}, DPAll K H vs ds → vs.length = ds.length
  | _, _, .nil => rfl
  | _, _, .cons _ q => congrArg (· + 1) (dpa_len q)
theorem dpa_get {K : PySem.W.Frag} {H : Hp} : ∀ {vs : List V} {ds : List PyData} {i : Nat} {d : PyData}, DPAll K H vs ds → ds[i]? = some d → ∃ v, vs[i]? = some v ∧ DP K H v d
  | _, _, i, d, .nil, h => by simp at h
  | _, _, 0, d, .cons h q, e => by simp at e; subst e; exact ⟨_, rfl, h⟩
  | _, _, i + 1, d, .cons h q, e => by
    obtain ⟨v, a, b⟩ := dpa_get (i := i) (d := d) q (by simpa using e)
    exact ⟨v, by simpa using a, b⟩
theorem dpa_get' {K : PySem.W.Frag} {H : Hp} {vs : List V} {ds : List PyData} {i : Nat} {v : V} (h : DPAll K H vs ds) (e : vs[i]? = some v) : ∃ d, ds[i]? = some d ∧ DP K H v d := by
  have hl := dpa_len h
  have hi : i < vs.length := (List.getElem?_eq_some_iff.mp e).1
  obtain ⟨d, hd⟩ : ∃ d, ds[i]? = some d := ⟨ds[i]'(by omega), List.getElem?_eq_getElem (by omega)⟩
  obtain ⟨v', a, b⟩ := dpa_get h hd
  rw [e] at a; cases a
  exact ⟨d, hd, b⟩
theorem dpa_append {K : PySem.W.Frag} {H : Hp} : ∀ {vs : List V} {ds : List PyData} {us : List V} {es : List PyData}, DPAll K H vs ds → DPAll K H us es → DPAll K H (vs ++ us) (ds ++ es)
  | _, _, _, _, .nil, r => r
  | _, _, _, _, .cons h q, r => .cons h (dpa_append q r)
theorem dpa_one {K : PySem.W.Frag} {H : Hp} {v : V} {d : PyData} (h : DP K H v d) : DPAll K H [v] [d] := .cons h .nil
theorem dpa_set {K : PySem.W.Frag} {H : Hp} {v : V} {d : PyData} (h : DP K H v d) : ∀ {vs : List V} {ds : List PyData} (i : Nat), DPAll K H vs ds → DPAll K H (vs.set i v) (ds.set i d)
  | _, _, _, .nil => .nil
  | _, _, 0, .cons _ q => .cons h q
  | _, _, i + 1, .cons a q => .cons a (dpa_set h i q)
theorem dpa_take {K : PySem.W.Frag} {H : Hp} : ∀ {vs : List V} {ds : List PyData} (n : Nat), DPAll K H vs ds → DPAll K H (vs.take n) (ds.take n)
  | _, _, 0, _ => .nil
  | _, _, _ + 1, .nil => .nil
  | _, _, n + 1, .cons r t => .cons r (dpa_take n t)
theorem dpa_drop {K : PySem.W.Frag} {H : Hp} : ∀ {vs : List V} {ds : List PyData} (n : Nat), DPAll K H vs ds → DPAll K H (vs.drop n) (ds.drop n)
  | _, _, 0, r => r
  | _, _, _ + 1, .nil => .nil
  | _, _, n + 1, .cons _ t => dpa_drop n t
theorem dpa_ints {K : PySem.W.Frag} {H : Hp} : ∀ (ns : List Int), DPAll K H (ns.map V.int) (ns.map PyData.int)
  | [] => .nil
  | n :: r => .cons (.int n) (dpa_ints r)

/-! ### the data of a def's names -/
/-- what a name owns: a list or a dict -/
inductive Own where
  | l (ds : List PyData)
  | d (kvs : List (PyData × PyData))
inductive Ent where
  | val (d : PyData)
  | lst (o : Own)
def HoD (K : PySem.W.Frag) (H : Hp) : HO → Own → Prop
  | .lst vs, .l ds => DPAll K H vs ds
  | .dK kvs, .d ds => DPKV K H kvs ds
  | _, _ => False
theorem ho_ext {K : PySem.W.Frag} {H H' : Hp} (e : Ext H H') {ho : HO} {o : Own} (h : HoD K H ho o) : HoD K H' ho o := by
  cases ho <;> cases o <;> first | exact h.elim | exact dpa_ext e h | exact dpk_ext e h
theorem ho_l {K : PySem.W.Frag} {H : Hp} {ho : HO} {ds : List PyData} (h : HoD K H ho (.l ds)) : ∃ vs, ho = .lst vs ∧ DPAll K H vs ds := by
  cases ho <;> first | exact h.elim | exact ⟨_, rfl, h⟩
theorem ho_d {K : PySem.W.Frag} {H : Hp} {ho : HO} {ds : List (PyData × PyData)} (h : HoD K H ho (.d ds)) : ∃ kvs, ho = .dK kvs ∧ DPKV K H kvs ds := by
  cases ho <;> first | exact h.elim | exact ⟨_, rfl, h⟩
abbrev Rho := List (Option Ent)

def EntOk (K : PySem.W.Frag) (O : List Addr) (H : Hp) : Option V → Ent → Prop
  | some v, .val d => DP K (msk O H) v d
  | some (.ref p), .lst ds => p ∈ O ∧ ∃ vs, H p = some vs ∧ HoD K (msk O H) vs ds
  | _, _ => False
structure Envs (K : PySem.W.Frag) (O : List Addr) (σ : L2.St) (ρ : Rho) (H : Hp) : Prop where
  len : σ.length = ρ.length
  ok : ∀ (i : Nat) (x : Option V) (e : Ent), σ[i]? = some x → ρ[i]? = some (some e) → EntOk K O H x e
  al : ∀ b ∈ O, H b ≠ none
  dis : ∀ (i j : Nat) (p : Addr) (ds es : Own), σ[i]? = some (some (.ref p)) → ρ[i]? = some (some (.lst ds)) → σ[j]? = some (some (.ref p)) → ρ[j]? = some (some (.lst es)) → i = j
def Owns (σ : L2.St) (ρ : Rho) (p : Addr) : Prop := ∃ (i : Nat) (ds : Own), σ[i]? = some (some (.ref p)) ∧ ρ[i]? = some (some (.lst ds))
structure Stp (K : PySem.W.Frag) (n : Nat) (O : List Addr) (σ : L2.St) (ρ : Rho) (H : Hp) (O' : List Addr) (σ' : L2.St) (ρ' : Rho) (H' : Hp) : Prop where
  sub : ∀ b ∈ O, b ∈ O'
  new : ∀ b ∈ O', b ∈ O ∨ H b = none
  le : ∀ b o, ¬ Owns σ ρ b → H b = some o → H' b = some o
  env : Envs K O' σ' ρ' H'
  own : ∀ b, Owns σ' ρ' b → Owns σ ρ b ∨ H b = none
  pin : ∀ (i : Nat) (ds : Own), i < n → ρ[i]? = some (some (.lst ds)) → σ'[i]? = σ[i]? ∧ ∃ ds', ρ'[i]? = some (some (.lst ds'))
theorem lst_val {K : PySem.W.Frag} {O : List Addr} {H : Hp} {x : Option V} {ds : Own} (h : EntOk K O H x (.lst ds)) : ∃ p, x = some (.ref p) ∧ p ∈ O ∧ ∃ vs, H p = some vs ∧ HoD K (msk O H) vs ds := by
  cases x with
  | none => exact h.elim
  | some v =>
    cases v with
    | ref p => exact ⟨p, rfl, h⟩
    | _ => exact h.elim
theorem Envs.ownO {K : PySem.W.Frag} {O : List Addr} {σ : L2.St} {ρ : Rho} {H : Hp} (E : Envs K O σ ρ H) {b : Addr} (h : Owns σ ρ b) : b ∈ O := by
  obtain ⟨i, ds, h1, h2⟩ := h
  obtain ⟨p, e, hp, _⟩ := lst_val (E.ok i _ _ h1 h2)
  cases e
  exact hp
section
variable {K : PySem.W.Frag} {n : Nat} {O O1 O2 : List Addr} {σ σ1 σ2 : L2.St} {ρ ρ1 ρ2 : Rho} {H H1 H2 : Hp}
theorem Stp.refl (E : Envs K O σ ρ H) : Stp K n O σ ρ H O σ ρ H :=
  ⟨fun _ h => h, fun _ h => .inl h, fun _ _ _ h => h, E, fun _ h => .inl h, fun i ds _ h => ⟨rfl, ds, h⟩⟩
theorem Stp.none_back (S : Stp K n O σ ρ H O1 σ1 ρ1 H1) {b : Addr} (hb : b ∉ O) (h : H1 b = none) (E : Envs K O σ ρ H) : H b = none := by
  cases q : H b with
  | none => rfl
  | some o =>
    rw [S.le b o (fun w => hb (E.ownO w)) q] at h; cases h
theorem Stp.trans (E : Envs K O σ ρ H) (S : Stp K n O σ ρ H O1 σ1 ρ1 H1) (T : Stp K n O1 σ1 ρ1 H1 O2 σ2 ρ2 H2) : Stp K n O σ ρ H O2 σ2 ρ2 H2 where
  sub := fun b h => T.sub b (S.sub b h)
  new := fun b h => by
    rcases T.new b h with h | h
    · exact S.new b h
    · by_cases hb : b ∈ O
      · exact .inl hb
      · exact .inr (S.none_back hb h E)
  le := fun b o nb h => by
    refine T.le b o (fun w => ?_) (S.le b o nb h)
    rcases S.own b w with w | w
    · exact nb w
    · rw [w] at h; cases h
  env := T.env
  own := fun b w => by
    rcases T.own b w with w | w
    · exact S.own b w
    · by_cases hb : b ∈ O
      · exact absurd w (S.env.al b (S.sub b hb))
      · exact .inr (S.none_back hb w E)
  pin := fun i ds hi h => by
    obtain ⟨e1, ds1, h1⟩ := S.pin i ds hi h
    obtain ⟨e2, ds2, h2⟩ := T.pin i ds1 hi h1
    exact ⟨e2.trans e1, ds2, h2⟩
theorem Stp.msk (E : Envs K O σ ρ H) (S : Stp K n O σ ρ H O1 σ1 ρ1 H1) : Ext (msk O H) (msk O1 H1) := fun b o h => by
  obtain ⟨nb, h⟩ := msk_some h
  refine msk_of (fun hb => ?_) (S.le b o (fun w => nb (E.ownO w)) h)
  rcases S.new b hb with q | q
  · exact nb q
  · rw [q] at h; cases h
theorem Stp.dp (E : Envs K O σ ρ H) (S : Stp K n O σ ρ H O1 σ1 ρ1 H1) {v : V} {d : PyData} (h : DP K (DL.msk O H) v d) : DP K (DL.msk O1 H1) v d := dp_ext (S.msk E) h
theorem Stp.dpa (E : Envs K O σ ρ H) (S : Stp K n O σ ρ H O1 σ1 ρ1 H1) {v : List V} {d : List PyData} (h : DPAll K (DL.msk O H) v d) : DPAll K (DL.msk O1 H1) v d := dpa_ext (S.msk E) h
/-- the heap only grew -/
theorem Stp.grow (E : Envs K O σ ρ H) (e : Ext H H1) : Stp K n O σ ρ H O σ ρ H1 where
  sub := fun _ h => h
  new := fun _ h => .inl h
  le := fun b o _ h => e b o h
  own := fun _ h => .inl h
  pin := fun i ds _ h => ⟨rfl, ds, h⟩
  env := ⟨E.len, fun i x en h1 h2 => by
    have q := E.ok i x en h1 h2
    cases en with
    | val d =>
      cases x with
      | none => exact q.elim
      | some v => exact dp_ext (msk_ext e) (show DP K (DL.msk O H) v d from q)
    | lst ds =>
      obtain ⟨p, rfl, hp, vs, hv, hd⟩ := lst_val q
      exact ⟨hp, vs, e p _ hv, ho_ext (msk_ext e) hd⟩, (fun b hb h => by
    cases q : H b with
    | none => exact E.al b hb q
    | some o => rw [e b o q] at h; cases h), E.dis⟩
end

/-! ### the judgements -/
abbrev PD := PyData → Rho → Prop
def DW (K : PySem.W.Frag) (n : Nat) (te : TE) (ρ : Rho) (Φ : PD) : Prop :=
  ∀ O σ H, Envs K O σ ρ H → ∀ Q : VK, (∀ v d ρ' O' H', Φ d ρ' → Stp K n O σ ρ H O' σ ρ' H' → DP K (msk O' H') v d → Q v H') → te σ H Q
def DT (K : PySem.W.Frag) (n : Nat) (tt : TT) (ρ : Rho) (Φ : Bool → Rho → Prop) : Prop :=
  ∀ O σ H, Envs K O σ ρ H → ∀ Q : Bool → Hp → Prop, (∀ b ρ' O' H', Φ b ρ' → Stp K n O σ ρ H O' σ ρ' H' → Q b H') → tt σ H Q
def DA (K : PySem.W.Frag) (n : Nat) (ta : TA) (ρ : Rho) (Φ : List PyData → Rho → Prop) : Prop :=
  ∀ O σ H, Envs K O σ ρ H → ∀ Q : List V → Hp → Prop, (∀ vs ds ρ' O' H', Φ ds ρ' → Stp K n O σ ρ H O' σ ρ' H' → DPAll K (msk O' H') vs ds → Q vs H') → ta σ H Q
structure DE where
  nx : Rho → Prop
  rt : PD
  bk : Rho → Prop := fun _ => False
  ct : Rho → Prop := fun _ => False
def DS (K : PySem.W.Frag) (n : Nat) (ts : TS) (ρ : Rho) (F : DE) : Prop :=
  ∀ O σ H, Envs K O σ ρ H → ∀ D : Ends,
    (∀ O' σ' ρ' H', F.nx ρ' → Stp K n O σ ρ H O' σ' ρ' H' → D.nx σ' H') →
    (∀ v d O' σ' ρ' H', F.rt d ρ' → Stp K n O σ ρ H O' σ' ρ' H' → DP K (msk O' H') v d → D.rt v H') →
    (∀ O' σ' ρ' H', F.bk ρ' → Stp K n O σ ρ H O' σ' ρ' H' → D.bk σ' H') →
    (∀ O' σ' ρ' H', F.ct ρ' → Stp K n O σ ρ H O' σ' ρ' H' → D.ct σ' H') → ts D σ H
/-- an operation on data -/
def RD (r : R2) (K : PySem.W.Frag) (x y : PyData) (Ψ : PyData → Prop) : Prop :=
  ∀ O H vx vy, (∀ b ∈ O, H b ≠ none) → DP K (msk O H) vx x → DP K (msk O H) vy y → ∀ Q : VK, (∀ v z H', Ψ z → Ext H H' → DP K (msk O H') v z → Q v H') → r vx vy H Q
def RU (r : V → Hp → VK → Prop) (K : PySem.W.Frag) (x : PyData) (Ψ : PyData → Prop) : Prop :=
  ∀ O H vx, (∀ b ∈ O, H b ≠ none) → DP K (msk O H) vx x → ∀ Q : VK, (∀ v z H', Ψ z → Ext H H' → DP K (msk O H') v z → Q v H') → r vx H Q
def RC (r : List V → Hp → VK → Prop) (K : PySem.W.Frag) (xs : List PyData) (Ψ : PyData → Prop) : Prop :=
  ∀ O H vs, (∀ b ∈ O, H b ≠ none) → DPAll K (msk O H) vs xs → ∀ Q : VK, (∀ v z H', Ψ z → Ext H H' → DP K (msk O H') v z → Q v H') → r vs H Q
end DL
namespace DL
open PySem L2
section
variable {K : PySem.W.Frag} {n : Nat} {O O1 : List Addr} {σ : L2.St} {ρ ρ1 : Rho} {H H1 : Hp} {ta tb tc te : TE} {tt tu : TT} {Φ : PD} {F : DE}

def NoLst (ρ : Rho) (j : Nat) : Prop := ∀ ds, ρ[j]? ≠ some (some (.lst ds))
theorem stp_set {j : Nat} {v : V} {d : PyData} (E : Envs K O σ ρ H) (h : DP K (msk O H) v d) (hp : n ≤ j ∨ NoLst ρ j) : Stp K n O σ ρ H O (σ.set j (some v)) (ρ.set j (some (.val d))) H where
  sub := fun _ h => h
  new := fun _ h => .inl h
  le := fun _ _ _ h => h
  env := ⟨by rw [List.length_set, List.length_set, E.len], fun i x e h1 h2 => by
    by_cases hij : j = i
    · subst hij
      have hl : j < ρ.length := by
        have := (List.getElem?_eq_some_iff.mp h2).1
        simpa using this
      rw [List.getElem?_set_self hl] at h2
      rw [List.getElem?_set_self (by rw [E.len]; exact hl)] at h1
      cases h1; cases h2
      exact h
    · rw [List.getElem?_set_ne hij] at h1 h2
      exact E.ok i x e h1 h2, E.al, fun i k p ds es h1 h2 h3 h4 => by
    by_cases hij : j = i
    · subst hij
      have hl : j < ρ.length := by
        have := (List.getElem?_eq_some_iff.mp h2).1
        simpa using this
      rw [List.getElem?_set_self hl] at h2
      cases h2
    · by_cases hjk : j = k
      · subst hjk
        have hl : j < ρ.length := by
          have := (List.getElem?_eq_some_iff.mp h4).1
          simpa using this
        rw [List.getElem?_set_self hl] at h4
        cases h4
      · rw [List.getElem?_set_ne hij] at h1 h2
        rw [List.getElem?_set_ne hjk] at h3 h4
        exact E.dis i k p ds es h1 h2 h3 h4⟩
  own := fun b ⟨i, ds, h1, h2⟩ => by
    by_cases hij : j = i
    · subst hij
      have hl : j < ρ.length := by
        have := (List.getElem?_eq_some_iff.mp h2).1
        simpa using this
      rw [List.getElem?_set_self hl] at h2
      cases h2
    · rw [List.getElem?_set_ne hij] at h1 h2
      exact .inl ⟨i, ds, h1, h2⟩
  pin := fun i ds hi h => by
    have hij : j ≠ i := by
      rintro rfl
      rcases hp with hp | hp
      · omega
      · exact hp ds h
    rw [List.getElem?_set_ne hij, List.getElem?_set_ne hij]
    exact ⟨rfl, ds, h⟩
/-- a slot is forgotten -/
theorem env_drop {j : Nat} {x : Option V} (E : Envs K O σ ρ H) : Envs K O (σ.set j x) (ρ.set j none) H :=
  ⟨by rw [List.length_set, List.length_set, E.len], fun i y e h1 h2 => by
    by_cases hij : j = i
    · subst hij
      have hl : j < ρ.length := by
        have := (List.getElem?_eq_some_iff.mp h2).1
        simpa using this
      rw [List.getElem?_set_self hl] at h2
      cases h2
    · rw [List.getElem?_set_ne hij] at h1 h2
      exact E.ok i y e h1 h2, E.al, fun i k p ds es h1 h2 h3 h4 => by
    by_cases hij : j = i
    · subst hij
      have hl : j < ρ.length := by
        have := (List.getElem?_eq_some_iff.mp h2).1
        simpa using this
      rw [List.getElem?_set_self hl] at h2
      cases h2
    · by_cases hjk : j = k
      · subst hjk
        have hl : j < ρ.length := by
          have := (List.getElem?_eq_some_iff.mp h4).1
          simpa using this
        rw [List.getElem?_set_self hl] at h4
        cases h4
      · rw [List.getElem?_set_ne hij] at h1 h2
        rw [List.getElem?_set_ne hjk] at h3 h4
        exact E.dis i k p ds es h1 h2 h3 h4⟩
theorem env_get {i : Nat} {d : PyData} (E : Envs K O σ ρ H) (h : ρ[i]? = some (some (.val d))) : ∃ v, σ[i]? = some (some v) ∧ DP K (msk O H) v d := by
  have hl : i < σ.length := by rw [E.len]; exact (List.getElem?_eq_some_iff.mp h).1
  have h1 : σ[i]? = some σ[i] := List.getElem?_eq_getElem hl
  have q := E.ok i _ _ h1 h
  cases e : σ[i] with
  | none => rw [e] at q; exact q.elim
  | some v => rw [e] at q h1; exact ⟨v, h1, q⟩
theorem env_own {i : Nat} {ds : Own} (E : Envs K O σ ρ H) (h : ρ[i]? = some (some (.lst ds))) : ∃ p vs, σ[i]? = some (some (.ref p)) ∧ p ∈ O ∧ H p = some vs ∧ HoD K (msk O H) vs ds := by
  have hl : i < σ.length := by rw [E.len]; exact (List.getElem?_eq_some_iff.mp h).1
  have h1 : σ[i]? = some σ[i] := List.getElem?_eq_getElem hl
  obtain ⟨p, e, hp, vs, q, r⟩ := lst_val (E.ok i _ _ h1 h)
  rw [e] at h1
  exact ⟨p, vs, h1, hp, q, r⟩
theorem env_lst {i : Nat} {ds : List PyData} (E : Envs K O σ ρ H) (h : ρ[i]? = some (some (.lst (.l ds)))) : ∃ p vs, σ[i]? = some (some (.ref p)) ∧ p ∈ O ∧ H p = some (.lst vs) ∧ DPAll K (msk O H) vs ds := by
  obtain ⟨p, ho, a, b, c, d⟩ := env_own E h
  obtain ⟨vs, rfl, d⟩ := ho_l d
  exact ⟨p, vs, a, b, c, d⟩
theorem env_dct {i : Nat} {ds : List (PyData × PyData)} (E : Envs K O σ ρ H) (h : ρ[i]? = some (some (.lst (.d ds)))) : ∃ p vs, σ[i]? = some (some (.ref p)) ∧ p ∈ O ∧ H p = some (.dK vs) ∧ DPKV K (msk O H) vs ds := by
  obtain ⟨p, ho, a, b, c, d⟩ := env_own E h
  obtain ⟨vs, rfl, d⟩ := ho_d d
  exact ⟨p, vs, a, b, c, d⟩
/-- an owned list or dict changed -/
theorem stp_writeW {i : Nat} {p : Addr} {ds es : Own} {vs : HO} (E : Envs K O σ ρ H) (h : ρ[i]? = some (some (.lst ds))) (hσ : σ[i]? = some (some (.ref p))) (q : HoD K (msk O H) vs es) :
    Stp K n O σ ρ H O σ (ρ.set i (some (.lst es))) (upd H p vs) := by
  obtain ⟨p', vs0, hσ', hp, hH, hd⟩ := env_own E h
  rw [hσ] at hσ'; cases hσ'
  have hl : i < ρ.length := (List.getElem?_eq_some_iff.mp h).1
  have em : msk O (upd H p vs) = msk O H := by
    funext b
    unfold msk
    by_cases hb : b ∈ O
    · rw [if_pos hb, if_pos hb]
    · rw [if_neg hb, if_neg hb, upd_ne (fun e : b = p => hb (by rw [e]; exact hp))]
  refine ⟨fun _ h => h, fun _ h => .inl h, fun b o nb hb => ?_, ⟨by rw [List.length_set]; exact E.len, fun j x e h1 h2 => ?_, fun b hb => ?_, fun j k r d1 d2 h1 h2 h3 h4 => ?_⟩, fun b ⟨j, d1, h1, h2⟩ => ?_, fun j d1 hj h2 => ?_⟩
  · rw [upd_ne (fun e : b = p => nb ⟨i, ds, by rw [e]; exact hσ, h⟩)]; exact hb
  · by_cases hij : i = j
    · subst hij
      rw [List.getElem?_set_self hl] at h2
      cases h2
      rw [hσ] at h1; cases h1
      exact ⟨hp, vs, upd_same, by rw [em]; exact q⟩
    · rw [List.getElem?_set_ne hij] at h2
      have w := E.ok j x e h1 h2
      cases e with
      | val d =>
        cases x with
        | none => exact w.elim
        | some v => exact (show DP K (msk O (upd H p vs)) v d by rw [em]; exact w)
      | lst d2 =>
        obtain ⟨r, rfl, hr, ws, hw, hd2⟩ := lst_val w
        refine ⟨hr, ws, ?_, by rw [em]; exact hd2⟩
        rw [upd_ne (fun e : r = p => hij (E.dis i j p ds d2 hσ h (by rw [← e]; exact h1) h2))]
        exact hw
  · by_cases e : b = p
    · subst e; rw [upd_same]; exact fun z => nomatch z
    · rw [upd_ne e]; exact E.al b hb
  · by_cases hij : i = j
    · subst hij
      by_cases hik : i = k
      · exact hik
      · rw [List.getElem?_set_ne hik] at h4
        rw [hσ] at h1; cases h1
        exact E.dis i k p ds d2 hσ h h3 h4
    · rw [List.getElem?_set_ne hij] at h2
      by_cases hik : i = k
      · subst hik
        rw [hσ] at h3; cases h3
        exact E.dis j i p d1 ds h1 h2 hσ h
      · rw [List.getElem?_set_ne hik] at h4
        exact E.dis j k r d1 d2 h1 h2 h3 h4
  · by_cases hij : i = j
    · subst hij
      exact .inl ⟨i, ds, h1, h⟩
    · rw [List.getElem?_set_ne hij] at h2
      exact .inl ⟨j, d1, h1, h2⟩
  · refine ⟨rfl, ?_⟩
    by_cases hij : i = j
    · subst hij
      exact ⟨es, List.getElem?_set_self hl⟩
    · rw [List.getElem?_set_ne hij]
      exact ⟨d1, h2⟩
theorem stp_write {i : Nat} {p : Addr} {ds es : List PyData} {vs : List V} (E : Envs K O σ ρ H) (h : ρ[i]? = some (some (.lst (.l ds)))) (hσ : σ[i]? = some (some (.ref p))) (q : DPAll K (msk O H) vs es) :
    Stp K n O σ ρ H O σ (ρ.set i (some (.lst (.l es)))) (upd H p (.lst vs)) := stp_writeW E h hσ (show HoD K (msk O H) (.lst vs) (.l es) from q)
/-- a fresh list becomes a name's own -/
theorem stp_own {j : Nat} {p : Addr} {ds : Own} {vs : HO} (E : Envs K O σ ρ H) (np : p ∉ O) (hH : H p = some vs) (q : HoD K (msk (p :: O) H) vs ds)
    (nown : ∀ (i : Nat) (es : Own), σ[i]? = some (some (.ref p)) → ρ[i]? ≠ some (some (.lst es))) (nval : ∀ (i : Nat) (v : V) (d : PyData), σ[i]? = some (some v) → ρ[i]? = some (some (.val d)) → DP K (msk (p :: O) H) v d)
    (nlst : ∀ (i : Nat) (r : Addr) (es : Own), σ[i]? = some (some (.ref r)) → ρ[i]? = some (some (.lst es)) → ∃ ws, H r = some ws ∧ HoD K (msk (p :: O) H) ws es) :
    Envs K (p :: O) (σ.set j (some (.ref p))) (ρ.set j (some (.lst ds))) H := by
  refine ⟨by rw [List.length_set, List.length_set, E.len], fun i x e h1 h2 => ?_, fun b hb => ?_, fun i k r d1 d2 h1 h2 h3 h4 => ?_⟩
  · by_cases hij : j = i
    · subst hij
      have hl : j < ρ.length := by
        have := (List.getElem?_eq_some_iff.mp h2).1
        simpa using this
      rw [List.getElem?_set_self hl] at h2
      rw [List.getElem?_set_self (by rw [E.len]; exact hl)] at h1
      cases h1; cases h2
      exact ⟨List.mem_cons_self, vs, hH, q⟩
    · rw [List.getElem?_set_ne hij] at h1 h2
      have w := E.ok i x e h1 h2
      cases e with
      | val d =>
        cases x with
        | none => exact w.elim
        | some v => exact nval i v d h1 h2
      | lst es =>
        obtain ⟨r, rfl, hr, _⟩ := lst_val w
        obtain ⟨ws, a, b⟩ := nlst i r es h1 h2
        exact ⟨List.mem_cons_of_mem _ hr, ws, a, b⟩
  · rcases List.mem_cons.mp hb with rfl | hb
    · rw [hH]; exact fun z => nomatch z
    · exact E.al b hb
  · by_cases hij : j = i
    · subst hij
      have hl : j < ρ.length := by
        have := (List.getElem?_eq_some_iff.mp h2).1
        simpa using this
      rw [List.getElem?_set_self (by rw [E.len]; exact hl)] at h1
      cases h1
      by_cases hjk : j = k
      · exact hjk
      · rw [List.getElem?_set_ne hjk] at h3 h4
        exact absurd h4 (nown k d2 h3)
    · rw [List.getElem?_set_ne hij] at h1 h2
      by_cases hjk : j = k
      · subst hjk
        have hl : j < ρ.length := by
          have := (List.getElem?_eq_some_iff.mp h4).1
          simpa using this
        rw [List.getElem?_set_self (by rw [E.len]; exact hl)] at h3
        cases h3
        exact absurd h2 (nown i d1 h1)
      · rw [List.getElem?_set_ne hjk] at h3 h4
        exact E.dis i k r d1 d2 h1 h2 h3 h4

/-! ### expressions -/
theorem dw_var {i : Nat} {d : PyData} (h : ρ[i]? = some (some (.val d))) (k : Φ d ρ) : DW K n (tVar i) ρ Φ := fun O σ H E Q q => by
  obtain ⟨v, h1, h2⟩ := env_get E h
  exact ⟨v, h1, q v d ρ O H k (Stp.refl E) h2⟩
theorem dw_int {i : Int} (k : Φ (.int i) ρ) : DW K n (tC (.int i)) ρ Φ := fun O σ H E Q q => q _ _ ρ O H k (Stp.refl E) (.int i)
theorem dw_bl {i : Bool} (k : Φ (.bool i) ρ) : DW K n (tC (.bl i)) ρ Φ := fun O σ H E Q q => q _ _ ρ O H k (Stp.refl E) (.bl i)
theorem dw_str {i : Str} (k : Φ (.str i) ρ) : DW K n (tC (.str i)) ρ Φ := fun O σ H E Q q => q _ _ ρ O H k (Stp.refl E) (.str i)
theorem dw_non (k : Φ .none ρ) : DW K n (tC .non) ρ Φ := fun O σ H E Q q => q _ _ ρ O H k (Stp.refl E) .non
theorem DW.mono {Ψ : PD} (h : DW K n te ρ Φ) (m : ∀ d ρ', Φ d ρ' → Ψ d ρ') : DW K n te ρ Ψ := fun O σ H E Q q => h O σ H E Q fun v d ρ' O' H' p => q v d ρ' O' H' (m d ρ' p)
theorem dw_op {r : R2} (h : DW K n ta ρ fun x ρ1 => DW K n tb ρ1 fun y ρ2 => RD r K x y fun z => Φ z ρ2) : DW K n (tOp r ta tb) ρ Φ := fun O σ H E Q q =>
  h O σ H E _ fun v x ρ1 O1 H1 hb S1 r1 => hb O1 σ H1 S1.env _ fun u y ρ2 O2 H2 hr S2 r2 => hr O2 H2 v u S2.env.al (S2.dp S1.env r1) r2 Q fun w z H3 hz e r3 =>
    q w z ρ2 O2 H3 hz ((S1.trans E S2).trans E (Stp.grow S2.env e)) r3
theorem dw_un {r : V → Hp → VK → Prop} (h : DW K n ta ρ fun x ρ1 => RU r K x fun z => Φ z ρ1) : DW K n (tUn r ta) ρ Φ := fun O σ H E Q q =>
  h O σ H E _ fun v x ρ1 O1 H1 hr S1 r1 => hr O1 H1 v S1.env.al r1 Q fun w z H3 hz e r3 => q w z ρ1 O1 H3 hz (S1.trans E (Stp.grow S1.env e)) r3
theorem da_nil {Ψ : List PyData → Rho → Prop} (k : Ψ [] ρ) : DA K n tNil ρ Ψ := fun O σ H E Q q => q [] [] ρ O H k (Stp.refl E) .nil
theorem da_cons {tr : TA} {Ψ : List PyData → Rho → Prop} (h : DW K n ta ρ fun x ρ1 => DA K n tr ρ1 fun xs ρ2 => Ψ (x :: xs) ρ2) : DA K n (tCons ta tr) ρ Ψ := fun O σ H E Q q =>
  h O σ H E _ fun v x ρ1 O1 H1 hb S1 r1 => hb O1 σ H1 S1.env _ fun us ys ρ2 O2 H2 hr S2 r2 => q (v :: us) (x :: ys) ρ2 O2 H2 hr (S1.trans E S2) (.cons (S2.dp S1.env r1) r2)
theorem dw_cb {r : List V → Hp → VK → Prop} {t : TA} (h : DA K n t ρ fun xs ρ1 => RC r K xs fun z => Φ z ρ1) : DW K n (tCB r t) ρ Φ := fun O σ H E Q q =>
  h O σ H E _ fun vs xs ρ1 O1 H1 hr S1 r1 => hr O1 H1 vs S1.env.al r1 Q fun w z H3 hz e r3 => q w z ρ1 O1 H3 hz (S1.trans E (Stp.grow S1.env e)) r3
theorem dw_if (h : DT K n tt ρ fun b ρ1 => (b = true → DW K n ta ρ1 Φ) ∧ (b = false → DW K n tb ρ1 Φ)) : DW K n (tIf tt ta tb) ρ Φ := fun O σ H E Q q =>
  h O σ H E _ fun b ρ1 O1 H1 hk S1 => by
    cases b with
    | true => exact hk.1 rfl O1 σ H1 S1.env Q fun v d ρ2 O2 H2 p S2 r => q v d ρ2 O2 H2 p (S1.trans E S2) r
    | false => exact hk.2 rfl O1 σ H1 S1.env Q fun v d ρ2 O2 H2 p S2 r => q v d ρ2 O2 H2 p (S1.trans E S2) r
theorem dp_bl {O : List Addr} {v : V} {b : Bool} (h : DP K (msk O H) v (.bool b)) : v = .bl b := by cases h; rfl
theorem dp_int {O : List Addr} {v : V} {b : Int} (h : DP K (msk O H) v (.int b)) : v = .int b := by cases h; rfl
theorem dp_str {O : List Addr} {v : V} {b : Str} (h : DP K (msk O H) v (.str b)) : v = .str b := by cases h; rfl
theorem dw_andV (h : DW K n ta ρ fun x ρ1 => ∃ c, x = .bool c ∧ (c = true → DW K n tb ρ1 Φ) ∧ (c = false → Φ (.bool false) ρ1)) : DW K n (tAndV ta tb) ρ Φ := fun O σ H E Q q =>
  h O σ H E _ fun v d ρ1 O1 H1 ⟨c, e, h1, h2⟩ S1 r1 => by
    subst e
    refine ⟨c, dp_bl r1, ?_⟩
    cases c with
    | true => exact h1 rfl O1 σ H1 S1.env Q fun v d ρ2 O2 H2 p S2 r => q v d ρ2 O2 H2 p (S1.trans E S2) r
    | false => exact q _ _ ρ1 O1 H1 (h2 rfl) S1 (.bl false)
theorem dw_orV (h : DW K n ta ρ fun x ρ1 => ∃ c, x = .bool c ∧ (c = false → DW K n tb ρ1 Φ) ∧ (c = true → Φ (.bool true) ρ1)) : DW K n (tOrV ta tb) ρ Φ := fun O σ H E Q q =>
  h O σ H E _ fun v d ρ1 O1 H1 ⟨c, e, h1, h2⟩ S1 r1 => by
    subst e
    refine ⟨c, dp_bl r1, ?_⟩
    cases c with
    | false => exact h1 rfl O1 σ H1 S1.env Q fun v d ρ2 O2 H2 p S2 r => q v d ρ2 O2 H2 p (S1.trans E S2) r
    | true => exact q _ _ ρ1 O1 H1 (h2 rfl) S1 (.bl true)
theorem dw_notV (h : DW K n ta ρ fun x ρ1 => ∃ c, x = .bool c ∧ Φ (.bool (!c)) ρ1) : DW K n (tNotV ta) ρ Φ := fun O σ H E Q q =>
  h O σ H E _ fun v d ρ1 O1 H1 ⟨c, e, h1⟩ S1 r1 => by
    subst e
    exact ⟨c, dp_bl r1, q _ _ ρ1 O1 H1 h1 S1 (.bl _)⟩
theorem fresh_no {O : List Addr} {H : Hp} {p : Addr} (al : ∀ b ∈ O, H b ≠ none) (hp : H p = none) : p ∉ O := fun h => al p h hp
theorem dw_tup {t : TA} (h : DA K n t ρ fun xs ρ1 => xs.length ≤ 100000 ∧ Φ (.tuple xs) ρ1) : DW K n (tTup t) ρ Φ := fun O σ H E Q q =>
  h O σ H E _ fun vs xs ρ1 O1 H1 ⟨hl, hk⟩ S1 r1 => ⟨Nat.le_trans (Nat.le_of_eq (dpa_len r1)) (Nat.le_trans hl (by decide)), fun p hp => by
    have np := fresh_no S1.env.al hp
    exact q _ _ ρ1 O1 _ hk (S1.trans E (Stp.grow S1.env (Ext.new hp))) (.tup (SqT.of (msk_of np upd_same)) (dpa_ext (msk_ext (Ext.new hp)) r1))⟩
/-- a < b < c -/
theorem dw_chain {r r' : R2} (h : DW K n ta ρ fun x ρ1 => DW K n tb ρ1 fun y ρ2 => RD r K x y fun z => ∃ k, z = .bool k ∧ (k = true → DW K n tc ρ2 fun w ρ3 => RD r' K y w fun z' => Φ z' ρ3) ∧ (k = false → Φ (.bool false) ρ2)) : DW K n (tChain r r' ta tb tc) ρ Φ := by
  intro O σ H E Q q
  refine h O σ H E _ fun v x ρ1 O1 H1 hb S1 r1 => hb O1 σ H1 S1.env _ fun u y ρ2 O2 H2 hr S2 r2 => hr O2 H2 v u S2.env.al (S2.dp S1.env r1) r2 _ fun w z H3 hz e r3 => ?_
  obtain ⟨k, rfl, ht, hf⟩ := hz
  refine ⟨k, dp_bl r3, ?_⟩
  have S3 := Stp.grow (n := n) S2.env e
  have S123 := (S1.trans E S2).trans E S3
  cases k with
  | true =>
    refine ht rfl O2 σ H3 S3.env _ fun w2 y2 ρ4 O4 H4 hr4 S4 r4 => ?_
    exact hr4 O4 H4 u w2 S4.env.al (S4.dp S3.env (S3.dp S2.env r2)) r4 Q fun v5 z5 H5 hz5 e5 r5 => q v5 z5 ρ4 O4 H5 hz5 ((S123.trans E S4).trans E (Stp.grow S4.env e5)) r5
  | false => exact q _ _ ρ2 O2 H3 (hf rfl) S123 (.bl false)

/-! ### tests -/
theorem dt_test {Ψ : Bool → Rho → Prop} (h : DW K n te ρ fun d ρ1 => ∃ b, d = .bool b ∧ Ψ b ρ1) : DT K n (tTest te) ρ Ψ := fun O σ H E Q q =>
  h O σ H E _ fun v d ρ1 O1 H1 ⟨b, e, hk⟩ S r => by
    subst e
    exact ⟨b, dp_bl r, q b ρ1 O1 H1 hk S⟩
theorem dt_B {Ψ : Bool → Rho → Prop} (h : DW K n te ρ fun d ρ1 => ∃ b, d = .bool b ∧ Ψ b ρ1) : DT K n (tB te) ρ Ψ := fun O σ H E Q q =>
  h O σ H E _ fun v d ρ1 O1 H1 ⟨b, e, hk⟩ S r => by
    subst e
    exact ⟨b, dp_bl r, q b ρ1 O1 H1 hk S⟩
theorem dt_and {Ψ : Bool → Rho → Prop} (h : DT K n tt ρ fun b ρ1 => (b = true → DT K n tu ρ1 Ψ) ∧ (b = false → Ψ false ρ1)) : DT K n (tAnd tt tu) ρ Ψ := fun O σ H E Q q =>
  h O σ H E _ fun b ρ1 O1 H1 ⟨h1, h2⟩ S => by
    cases b with
    | true => exact h1 rfl O1 σ H1 S.env Q fun b ρ2 O2 H2 p S2 => q b ρ2 O2 H2 p (S.trans E S2)
    | false => exact q false ρ1 O1 H1 (h2 rfl) S
theorem dt_or {Ψ : Bool → Rho → Prop} (h : DT K n tt ρ fun b ρ1 => (b = false → DT K n tu ρ1 Ψ) ∧ (b = true → Ψ true ρ1)) : DT K n (tOr tt tu) ρ Ψ := fun O σ H E Q q =>
  h O σ H E _ fun b ρ1 O1 H1 ⟨h1, h2⟩ S => by
    cases b with
    | false => exact h1 rfl O1 σ H1 S.env Q fun b ρ2 O2 H2 p S2 => q b ρ2 O2 H2 p (S.trans E S2)
    | true => exact q true ρ1 O1 H1 (h2 rfl) S
theorem dt_not {Ψ : Bool → Rho → Prop} (h : DT K n tt ρ fun b ρ1 => Ψ (!b) ρ1) : DT K n (tNot tt) ρ Ψ := fun O σ H E Q q =>
  h O σ H E _ fun b ρ1 O1 H1 hk S => q (!b) ρ1 O1 H1 hk S
theorem dt_yes {Ψ : Bool → Rho → Prop} (h : Ψ true ρ) : DT K n tYes ρ Ψ := fun O σ H E Q q => q true ρ O H h (Stp.refl E)
end
end DL
namespace DL
open PySem L2
abbrev PF := Own → Rho → Prop
abbrev PL := List PyData → Rho → Prop
def ownD : Own → PyData
  | .l ds => .list ds
  | .d ds => .dict ds
theorem dp_own {K : PySem.W.Frag} {H : Hp} {p : Addr} {ho : HO} {o : Own} (h : H p = some ho) (q : HoD K H ho o) : DP K H (.ref p) (ownD o) := by
  cases o with
  | l ds => obtain ⟨vs, rfl, q⟩ := ho_l q; exact .lst (.inl (.inl h)) q
  | d ds => obtain ⟨vs, rfl, q⟩ := ho_d q; exact .dct (.inl h) q
/-- te makes a fresh list -/
def DF (K : PySem.W.Frag) (n : Nat) (te : TE) (ρ : Rho) (Φ : PF) : Prop :=
  ∀ O σ H, Envs K O σ ρ H → ∀ Q : VK, (∀ p vs ds ρ' O' H', Φ ds ρ' → Stp K n O σ ρ H (p :: O') σ ρ' H' → p ∉ O' → ¬ Owns σ ρ' p → H p = none → H' p = some vs → HoD K (msk (p :: O') H') vs ds → Q (.ref p) H') → te σ H Q
def OwnsL (n : Nat) (σ : L2.St) (ρ : Rho) (p : Addr) : Prop := ∃ (i : Nat) (ds : Own), n ≤ i ∧ σ[i]? = some (some (.ref p)) ∧ ρ[i]? = some (some (.lst ds))
structure DE2 extends DE where
  rf : PF := fun _ _ => False
def DSx (K : PySem.W.Frag) (n : Nat) (ts : TS) (ρ : Rho) (F : DE2) : Prop :=
  ∀ O σ H, Envs K O σ ρ H → ∀ D : Ends,
    (∀ O' σ' ρ' H', F.nx ρ' → Stp K n O σ ρ H O' σ' ρ' H' → D.nx σ' H') →
    (∀ v d O' σ' ρ' H', F.rt d ρ' → Stp K n O σ ρ H O' σ' ρ' H' → DP K (msk O' H') v d → D.rt v H') →
    (∀ p vs ds O' σ' ρ' H', F.rf ds ρ' → Stp K n O σ ρ H O' σ' ρ' H' → p ∈ O' → ¬ Owns σ' ρ' p → (H p = none ∨ OwnsL n σ ρ p) → H' p = some vs → HoD K (msk O' H') vs ds → D.rt (.ref p) H') →
    (∀ O' σ' ρ' H', F.bk ρ' → Stp K n O σ ρ H O' σ' ρ' H' → D.bk σ' H') →
    (∀ O' σ' ρ' H', F.ct ρ' → Stp K n O σ ρ H O' σ' ρ' H' → D.ct σ' H') → ts D σ H
section
variable {K : PySem.W.Frag} {n : Nat} {O O1 : List Addr} {σ : L2.St} {ρ ρ1 : Rho} {H H1 : Hp} {ta tb tc te : TE} {tt tu : TT} {Φ : PD} {F : DE2} {ts us : TS} {Φf : PF}
theorem ownsL_back {O1 : List Addr} {σ1 : L2.St} {ρ1 : Rho} {H1 : Hp} {p : Addr} (S : Stp K n O σ ρ H O1 σ1 ρ1 H1) (w : OwnsL n σ1 ρ1 p) : H p = none ∨ OwnsL n σ ρ p := by
  obtain ⟨i, ds, hi, h1, h2⟩ := w
  rcases S.own p ⟨i, ds, h1, h2⟩ with ⟨j, es, h3, h4⟩ | h
  · by_cases hj : j < n
    · obtain ⟨e, ds', h5⟩ := S.pin j es hj h4
      have := S.env.dis j i p ds' ds (e.trans h3) h5 h1 h2
      omega
    · exact .inr ⟨j, es, by omega, h3, h4⟩
  · exact .inl h
theorem ownsL_back2 {O1 : List Addr} {σ1 : L2.St} {ρ1 : Rho} {H1 : Hp} {p : Addr} (E : Envs K O σ ρ H) (S : Stp K n O σ ρ H O1 σ1 ρ1 H1) (w : H1 p = none ∨ OwnsL n σ1 ρ1 p) : H p = none ∨ OwnsL n σ ρ p := by
  rcases w with w | w
  · exact .inl (S.none_back (fun z => S.env.al p (S.sub p z) w) w E)
  · exact ownsL_back S w
theorem env_forget {j : Nat} (E : Envs K O σ ρ H) : Envs K O σ (ρ.set j none) H :=
  ⟨by rw [List.length_set, E.len], fun i y e h1 h2 => by
    by_cases hij : j = i
    · subst hij
      have hl : j < ρ.length := by
        have := (List.getElem?_eq_some_iff.mp h2).1
        simpa using this
      rw [List.getElem?_set_self hl] at h2
      cases h2
    · rw [List.getElem?_set_ne hij] at h2
      exact E.ok i y e h1 h2, E.al, fun i k p ds es h1 h2 h3 h4 => by
    by_cases hij : j = i
    · subst hij
      have hl : j < ρ.length := by
        have := (List.getElem?_eq_some_iff.mp h2).1
        simpa using this
      rw [List.getElem?_set_self hl] at h2
      cases h2
    · by_cases hjk : j = k
      · subst hjk
        have hl : j < ρ.length := by
          have := (List.getElem?_eq_some_iff.mp h4).1
          simpa using this
        rw [List.getElem?_set_self hl] at h4
        cases h4
      · rw [List.getElem?_set_ne hij] at h2
        rw [List.getElem?_set_ne hjk] at h4
        exact E.dis i k p ds es h1 h2 h3 h4⟩
theorem owns_forget {j : Nat} {p : Addr} (w : Owns σ (ρ.set j none) p) : ∃ i ds, i ≠ j ∧ σ[i]? = some (some (.ref p)) ∧ ρ[i]? = some (some (.lst ds)) := by
  obtain ⟨i, ds, h1, h2⟩ := w
  by_cases hij : j = i
  · subst hij
    have hl : j < ρ.length := by
      have := (List.getElem?_eq_some_iff.mp h2).1
      simpa using this
    rw [List.getElem?_set_self hl] at h2
    cases h2
  · rw [List.getElem?_set_ne hij] at h2
    exact ⟨i, ds, fun e => hij e.symm, h1, h2⟩
theorem stp_forget {j : Nat} (E : Envs K O σ ρ H) (hj : n ≤ j) : Stp K n O σ ρ H O σ (ρ.set j none) H where
  sub := fun _ h => h
  new := fun _ h => .inl h
  le := fun _ _ _ h => h
  env := env_forget E
  own := fun b w => by
    obtain ⟨i, ds, _, h1, h2⟩ := owns_forget w
    exact .inl ⟨i, ds, h1, h2⟩
  pin := fun i es hi h => by
    refine ⟨rfl, es, ?_⟩
    rw [List.getElem?_set_ne (by omega)]
    exact h
theorem msk_cons_le {p : Addr} {O : List Addr} {H : Hp} : Ext (msk (p :: O) H) (msk O H) := fun b o h => by
  obtain ⟨nb, h⟩ := msk_some h
  exact msk_of (fun hb => nb (List.mem_cons_of_mem _ hb)) h
theorem env_unown {p : Addr} (E : Envs K (p :: O) σ ρ H) (np : p ∉ O) (no : ¬ Owns σ ρ p) : Envs K O σ ρ H :=
  ⟨E.len, fun i x e h1 h2 => by
    have w := E.ok i x e h1 h2
    cases e with
    | val d =>
      cases x with
      | none => exact w.elim
      | some v => exact dp_ext msk_cons_le (show DP K (msk (p :: O) H) v d from w)
    | lst ds =>
      obtain ⟨r, rfl, hr, vs, hv, hd⟩ := lst_val w
      refine ⟨?_, vs, hv, ho_ext msk_cons_le hd⟩
      rcases List.mem_cons.mp hr with rfl | hr
      · exact absurd ⟨i, ds, h1, h2⟩ no
      · exact hr, fun b hb => E.al b (List.mem_cons_of_mem _ hb), E.dis⟩
theorem stp_unown {p : Addr} {σ1 : L2.St} {H1 : Hp} (S : Stp K n O σ ρ H (p :: O1) σ1 ρ1 H1) (np : p ∉ O1) (no : ¬ Owns σ1 ρ1 p) (hp : p ∉ O) : Stp K n O σ ρ H O1 σ1 ρ1 H1 where
  sub := fun b hb => by
    rcases List.mem_cons.mp (S.sub b hb) with rfl | h
    · exact absurd hb hp
    · exact h
  new := fun b hb => S.new b (List.mem_cons_of_mem _ hb)
  le := S.le
  env := env_unown S.env np no
  own := S.own
  pin := S.pin
theorem fresh_notin {p : Addr} (E : Envs K O σ ρ H) (hp : H p = none) : p ∉ O := fun h => E.al p h hp
theorem dw_fresh (h : DF K n te ρ fun o ρ' => Φ (ownD o) ρ') : DW K n te ρ Φ := fun O σ H E Q q =>
  h O σ H E Q fun p vs ds ρ' O' H' hk S np no hp hH hd => q _ _ ρ' O' H' hk (stp_unown S np no (fresh_notin E hp)) (dp_own (msk_of np hH) (ho_ext msk_cons_le hd))

theorem fresh_ext {O : List Addr} {H : Hp} {p : Addr} {o : HO} (hp : H p = none) : Ext (msk O H) (msk (p :: O) (upd H p o)) := fun b u h => by
  obtain ⟨nb, h⟩ := msk_some h
  have nbp : b ≠ p := fun e => by rw [e, hp] at h; cases h
  refine msk_of (fun hb => ?_) (by rw [upd_ne nbp]; exact h)
  rcases List.mem_cons.mp hb with e | e
  · exact nbp e
  · exact nb e
theorem not_owned {p : Addr} (E : Envs K O σ ρ H) (hp : H p = none) : ¬ Owns σ ρ p := fun w => E.al p (E.ownO w) hp
theorem stp_alloc {p : Addr} {o : HO} (E : Envs K O σ ρ H) (hp : H p = none) : Stp K n O σ ρ H (p :: O) σ ρ (upd H p o) where
  sub := fun b hb => List.mem_cons_of_mem _ hb
  new := fun b hb => by
    rcases List.mem_cons.mp hb with rfl | hb
    · exact .inr hp
    · exact .inl hb
  le := fun b u _ h => Ext.new hp b u h
  env := ⟨E.len, fun i x e h1 h2 => by
    have w := E.ok i x e h1 h2
    cases e with
    | val d =>
      cases x with
      | none => exact w.elim
      | some v => exact dp_ext (fresh_ext hp) (show DP K (msk O H) v d from w)
    | lst ds =>
      obtain ⟨r, rfl, hr, vs, hv, hd⟩ := lst_val w
      exact ⟨List.mem_cons_of_mem _ hr, vs, Ext.new hp r _ hv, ho_ext (fresh_ext hp) hd⟩, fun b hb => by
    by_cases e : b = p
    · rw [e, upd_same]; exact fun z => nomatch z
    · rw [upd_ne e]
      rcases List.mem_cons.mp hb with z | z
      · exact absurd z e
      · exact E.al b z, E.dis⟩
  own := fun _ h => .inl h
  pin := fun i ds _ h => ⟨rfl, ds, h⟩
theorem df_lst {t : TA} {Ψ : PF} (h : DA K n t ρ fun xs ρ1 => xs.length ≤ 100000 ∧ Ψ (.l xs) ρ1) : DF K n (tLst t) ρ Ψ := fun O σ H E Q q =>
  h O σ H E _ fun vs xs ρ1 O1 H1 ⟨hl, hk⟩ S1 r1 => ⟨Nat.le_trans (Nat.le_of_eq (dpa_len r1)) (Nat.le_trans hl (by decide)), fun p hp => by
    have np := fresh_no S1.env.al hp
    have np0 : p ∉ O := fun h => np (S1.sub p h)
    exact q p (.lst vs) (.l xs) ρ1 O1 _ hk (S1.trans E (stp_alloc S1.env hp)) np (not_owned S1.env hp) (S1.none_back np0 hp E) upd_same (dpa_ext (fresh_ext hp) r1)⟩

/-! ### what a loop goes over -/
structure Src (K : PySem.W.Frag) (J : It) (O : List Addr) (H : Hp) (ds : List PyData) : Prop where
  go : ∀ O' H' i, Ext (msk O H) (msk O' H') → i < ds.length → J.go i H'
  stop : ∀ O' H' i, Ext (msk O H) (msk O' H') → ds.length ≤ i → J.stop i H'
  yld : ∀ O' H' i x H'' d, Ext (msk O H) (msk O' H') → (∀ b ∈ O', H' b ≠ none) → J.yld i H' x H'' → ds[i]? = some d → Ext H' H'' ∧ DP K (msk O' H'') x d
def DI (K : PySem.W.Frag) (n : Nat) (wi : TI) (ρ : Rho) (Φ : PL) : Prop :=
  ∀ O σ H, Envs K O σ ρ H → ∀ R : It → Hp → Prop, (∀ J ds ρ' O' H', Φ ds ρ' → Stp K n O σ ρ H O' σ ρ' H' → Src K J O' H' ds → R J H') → wi σ H R
theorem msk_l {O : List Addr} {H : Hp} {a : Addr} {xs : List V} (h : SqL K (msk O H) a xs) : SqL K H a xs := msk_le.l h
theorem msk_t {O : List Addr} {H : Hp} {a : Addr} {xs : List V} (h : SqT K (msk O H) a xs) : SqT K H a xs := msk_le.t h
theorem src_tup {a : Addr} {O : List Addr} {H : Hp} {ds : List PyData} {vs : List V} (h : SqT K (msk O H) a vs) (hd : DPAll K (msk O H) vs ds) : Src K (Itt K a) O H ds := by
  have hl := dpa_len hd
  refine ⟨fun O' H' i e hi => ⟨vs, vs[i]'(by omega), msk_t (e.t h), by simp⟩, fun O' H' i e hi => ⟨vs, msk_t (e.t h), by omega⟩, fun O' H' i x H'' d e al y hx => ?_⟩
  obtain ⟨rfl, y⟩ := y
  have hx' := y vs (msk_t (e.t h))
  obtain ⟨d', h1, h2⟩ := dpa_get' hd hx'
  rw [hx] at h1; cases h1
  exact ⟨Ext.refl _, dp_ext e h2⟩
theorem src_lst {a : Addr} {O : List Addr} {H : Hp} {ds : List PyData} {vs : List V} (h : SqL K (msk O H) a vs) (hd : DPAll K (msk O H) vs ds) : Src K (Itl K a) O H ds := by
  have hl := dpa_len hd
  refine ⟨fun O' H' i e hi => ⟨vs, vs[i]'(by omega), msk_l (e.l h), by simp⟩, fun O' H' i e hi => ⟨vs, msk_l (e.l h), by omega⟩, fun O' H' i x H'' d e al y hx => ?_⟩
  obtain ⟨rfl, y⟩ := y
  have hx' := y vs (msk_l (e.l h))
  obtain ⟨d', h1, h2⟩ := dpa_get' hd hx'
  rw [hx] at h1; cases h1
  exact ⟨Ext.refl _, dp_ext e h2⟩
def rngD (lo : Int) (m : Nat) : List PyData := (List.range m).map fun (i : Nat) => PyData.int (lo + (i : Int))
theorem rngD_get {lo : Int} {m i : Nat} {d : PyData} (h : (rngD lo m)[i]? = some d) : i < m ∧ d = .int (lo + (i : Int)) := by
  unfold rngD at h
  rw [List.getElem?_map] at h
  by_cases hi : i < m
  · rw [List.getElem?_range hi] at h
    exact ⟨hi, (Option.some.inj h).symm⟩
  · rw [List.getElem?_eq_none (by simp; omega)] at h; cases h
theorem rngD_len {lo : Int} {m : Nat} : (rngD lo m).length = m := by unfold rngD; simp
theorem src_rng {lo : Int} {m : Nat} {O : List Addr} {H : Hp} : Src K (Itr lo m) O H (rngD lo m) := by
  refine ⟨fun O' H' i e hi => by rw [rngD_len] at hi; exact hi, fun O' H' i e hi => by rw [rngD_len] at hi; exact hi, fun O' H' i x H'' d e al y hx => ?_⟩
  obtain ⟨rfl, rfl⟩ := y
  obtain ⟨_, rfl⟩ := rngD_get hx
  exact ⟨Ext.refl _, .int _⟩
def enumD (ds : List PyData) : List PyData := ds.zipIdx.map fun (p : PyData × Nat) => PyData.tuple [.int (p.2 : Int), p.1]
theorem enumD_get {ds : List PyData} {i : Nat} {d : PyData} (h : (enumD ds)[i]? = some d) : ∃ x, ds[i]? = some x ∧ d = .tuple [.int (i : Int), x] := by
  unfold enumD at h
  rw [List.getElem?_map, List.getElem?_zipIdx] at h
  cases e : ds[i]? with
  | none => rw [e] at h; simp at h
  | some x => rw [e] at h; simp at h; exact ⟨x, rfl, h.symm⟩
theorem enumD_len {ds : List PyData} : (enumD ds).length = ds.length := by unfold enumD; simp
theorem src_enum {a : Addr} {O : List Addr} {H : Hp} {ds : List PyData} {vs : List V} (h : SqL K (msk O H) a vs) (hd : DPAll K (msk O H) vs ds) : Src K (Ite K a) O H (enumD ds) := by
  have hl := dpa_len hd
  refine ⟨fun O' H' i e hi => ⟨vs, vs[i]'(by rw [enumD_len] at hi; omega), msk_l (e.l h), by simp⟩, fun O' H' i e hi => ⟨vs, msk_l (e.l h), by rw [enumD_len] at hi; omega⟩, fun O' H' i x H'' d e al y hx => ?_⟩
  obtain ⟨T, z, rfl, hT, rfl, y⟩ := y
  obtain ⟨w, h1, rfl⟩ := enumD_get hx
  have hx' := y vs (msk_l (e.l h))
  obtain ⟨d', h2, h3⟩ := dpa_get' hd hx'
  rw [h1] at h2; cases h2
  have nT := fresh_no al hT
  exact ⟨Ext.new hT, .tup (SqT.of (msk_of nT upd_same)) (.cons (.int _) (.cons (dp_ext (msk_ext (Ext.new hT)) (dp_ext e h3)) .nil))⟩
theorem di_tup {Ψ : PL} (h : DW K n te ρ fun d ρ1 => ∃ ds, d = .tuple ds ∧ Ψ ds ρ1) : DI K n (iTup K te) ρ Ψ := fun O σ H E R q =>
  h O σ H E _ fun v d ρ1 O1 H1 ⟨ds, e, hk⟩ S r => by
    subst e
    cases r with
    | tup hq hd => exact ⟨_, rfl, ⟨_, msk_t hq⟩, q _ ds ρ1 O1 H1 hk S (src_tup hq hd)⟩
theorem di_lst {Ψ : PL} (h : DW K n te ρ fun d ρ1 => ∃ ds, d = .list ds ∧ Ψ ds ρ1) : DI K n (iList K te) ρ Ψ := fun O σ H E R q =>
  h O σ H E _ fun v d ρ1 O1 H1 ⟨ds, e, hk⟩ S r => by
    subst e
    cases r with
    | lst hq hd => exact ⟨_, rfl, ⟨_, msk_l hq⟩, q _ ds ρ1 O1 H1 hk S (src_lst hq hd)⟩
theorem di_rng1 {t : TA} {Ψ : PL} (h : DA K n t ρ fun xs ρ1 => ∃ j, xs = [.int j] ∧ (-(2 ^ 62) ≤ j ∧ j < 2 ^ 62) ∧ Ψ (rngD 0 j.toNat) ρ1) : DI K n (iRng1 t) ρ Ψ := fun O σ H E R q =>
  h O σ H E _ fun vs xs ρ1 O1 H1 ⟨j, e, hb, hk⟩ S r => by
    subst e
    cases r with
    | cons r1 r2 => cases r2; cases r1; exact ⟨j, rfl, hb.1, hb.2, q _ _ ρ1 O1 H1 hk S src_rng⟩
theorem di_rng2 {t : TA} {Ψ : PL} (h : DA K n t ρ fun xs ρ1 => ∃ i j, xs = [.int i, .int j] ∧ (-(2 ^ 62) ≤ i ∧ i < 2 ^ 62 ∧ -(2 ^ 62) ≤ j ∧ j < 2 ^ 62) ∧ Ψ (rngD i (j - i).toNat) ρ1) : DI K n (iRng2 t) ρ Ψ := fun O σ H E R q =>
  h O σ H E _ fun vs xs ρ1 O1 H1 ⟨i, j, e, hb, hk⟩ S r => by
    subst e
    cases r with
    | cons r1 r2 => cases r2 with | cons r2 r3 => cases r3; cases r1; cases r2; exact ⟨i, j, rfl, hb, q _ _ ρ1 O1 H1 hk S src_rng⟩
theorem di_enum {t : TA} {Ψ : PL} (h : DA K n t ρ fun xs ρ1 => ∃ ds, xs = [.list ds] ∧ Ψ (enumD ds) ρ1) : DI K n (iEnum K t) ρ Ψ := fun O σ H E R q =>
  h O σ H E _ fun vs xs ρ1 O1 H1 ⟨ds, e, hk⟩ S r => by
    subst e
    cases r with
    | cons r1 r2 => cases r2; cases r1 with | lst hq hd => exact ⟨_, _, rfl, msk_l hq, q _ _ ρ1 O1 H1 hk S (src_enum hq hd)⟩

/-! ### targets -/
def DG (K : PySem.W.Frag) (n : Nat) (g : TG) (ρ : Rho) (d : PyData) (Ψ : Rho → Prop) : Prop :=
  ∀ O σ H v, Envs K O σ ρ H → DP K (msk O H) v d → ∀ Q : L2.St → Hp → Prop, (∀ σ' ρ', Ψ ρ' → Stp K n O σ ρ H O σ' ρ' H → Q σ' H) → g v σ H Q
def DGs (K : PySem.W.Frag) (n : Nat) (g : TGs) (ρ : Rho) (ds : List PyData) (Ψ : Rho → Prop) : Prop :=
  ∀ O σ H vs, Envs K O σ ρ H → DPAll K (msk O H) vs ds → ∀ Q : L2.St → Hp → Prop, (∀ σ' ρ', Ψ ρ' → Stp K n O σ ρ H O σ' ρ' H → Q σ' H) → g vs σ H Q
theorem dg_name {j : Nat} {d : PyData} {Ψ : Rho → Prop} (hp : n ≤ j ∨ NoLst ρ j) (k : Ψ (ρ.set j (some (.val d)))) : DG K n (gName j) ρ d Ψ := fun O σ H v E r Q q =>
  q _ _ k (stp_set E r hp)
theorem dgs_nil {Ψ : Rho → Prop} (k : Ψ ρ) : DGs K n gNil ρ [] Ψ := fun O σ H vs E r Q q => by
  cases r
  exact ⟨rfl, q _ _ k (Stp.refl E)⟩
theorem dgs_cons {t : TG} {u : TGs} {d : PyData} {ds : List PyData} {Ψ : Rho → Prop} (h : DG K n t ρ d fun ρ1 => DGs K n u ρ1 ds Ψ) : DGs K n (gCons t u) ρ (d :: ds) Ψ := fun O σ H vs E r Q q => by
  cases r with
  | cons r1 r2 =>
    refine ⟨_, _, rfl, h O σ H _ E r1 _ fun σ1 ρ1 h1 S1 => h1 O σ1 H _ S1.env r2 Q fun σ2 ρ2 k S2 => q σ2 ρ2 k (S1.trans E S2)⟩
theorem dg_tup {u : TGs} {m : Nat} {d : PyData} {Ψ : Rho → Prop} (h : ∃ ds, d = .tuple ds ∧ ds.length = m ∧ DGs K n u ρ ds Ψ) : DG K n (gTup K m u) ρ d Ψ := fun O σ H v E r Q q => by
  obtain ⟨ds, rfl, hl, h⟩ := h
  cases r with
  | tup hq hd => exact ⟨_, _, rfl, msk_t hq, (dpa_len hd).trans hl, h O σ H _ E hd Q q⟩

/-! ### statements -/
theorem ds_next (k : F.nx ρ) : DSx K n tNext ρ F := fun O σ H E D h1 _ _ _ _ => h1 O σ ρ H k (Stp.refl E)
theorem ds_seq (h : DSx K n ts ρ { F with nx := fun ρ1 => DSx K n us ρ1 F }) : DSx K n (tSeq ts us) ρ F := fun O σ H E D h1 h2 h3 h4 h5 =>
  h O σ H E { D with nx := us D } (fun O1 σ1 ρ1 H1 k S => k O1 σ1 H1 S.env D (fun O2 σ2 ρ2 H2 k2 S2 => h1 O2 σ2 ρ2 H2 k2 (S.trans E S2)) (fun v d O2 σ2 ρ2 H2 k2 S2 r => h2 v d O2 σ2 ρ2 H2 k2 (S.trans E S2) r)
    (fun p vs ds O2 σ2 ρ2 H2 k2 S2 np no hp => h3 p vs ds O2 σ2 ρ2 H2 k2 (S.trans E S2) np no (ownsL_back2 E S hp)) (fun O2 σ2 ρ2 H2 k2 S2 => h4 O2 σ2 ρ2 H2 k2 (S.trans E S2)) (fun O2 σ2 ρ2 H2 k2 S2 => h5 O2 σ2 ρ2 H2 k2 (S.trans E S2))) h2 h3 h4 h5
theorem ds_ret (h : DW K n te ρ F.rt) : DSx K n (tRet te) ρ F := fun O σ H E D h1 h2 h3 h4 h5 => h O σ H E _ fun v d ρ' O' H' k S r => h2 v d O' σ ρ' H' k S r
theorem ds_retF (h : DF K n te ρ F.rf) : DSx K n (tRet te) ρ F := fun O σ H E D h1 h2 h3 h4 h5 => h O σ H E _ fun p vs ds ρ' O' H' k S np no hp hH r => h3 p vs ds (p :: O') σ ρ' H' k S List.mem_cons_self no (.inl hp) hH r
theorem ds_drop (h : DW K n te ρ fun _ ρ1 => F.nx ρ1) : DSx K n (tDrop te) ρ F := fun O σ H E D h1 h2 h3 h4 h5 => h O σ H E _ fun v d ρ' O' H' k S r => h1 O' σ ρ' H' k S
theorem ds_asg {g : TG} (h : DW K n te ρ fun d ρ1 => DG K n g ρ1 d F.nx) : DSx K n (tAsg te g) ρ F := fun O σ H E D h1 h2 h3 h4 h5 =>
  h O σ H E _ fun v d ρ1 O1 H1 k S r => k O1 σ H1 v S.env r _ fun σ2 ρ2 k2 S2 => h1 O1 σ2 ρ2 H1 k2 (S.trans E S2)
theorem ds_brk (k : F.bk ρ) : DSx K n tBreak ρ F := fun O σ H E D h1 h2 h3 h4 h5 => h4 O σ ρ H k (Stp.refl E)
theorem ds_cont (k : F.ct ρ) : DSx K n tCont ρ F := fun O σ H E D h1 h2 h3 h4 h5 => h5 O σ ρ H k (Stp.refl E)
theorem DSx.after {O1 : List Addr} {σ1 : L2.St} {ρ1 : Rho} {H1 : Hp} (E : Envs K O σ ρ H) (S : Stp K n O σ ρ H O1 σ1 ρ1 H1) (h : DSx K n ts ρ1 F) {D : Ends}
    (h1 : ∀ O' σ' ρ' H', F.nx ρ' → Stp K n O σ ρ H O' σ' ρ' H' → D.nx σ' H')
    (h2 : ∀ v d O' σ' ρ' H', F.rt d ρ' → Stp K n O σ ρ H O' σ' ρ' H' → DP K (msk O' H') v d → D.rt v H')
    (h3 : ∀ p vs ds O' σ' ρ' H', F.rf ds ρ' → Stp K n O σ ρ H O' σ' ρ' H' → p ∈ O' → ¬ Owns σ' ρ' p → (H p = none ∨ OwnsL n σ ρ p) → H' p = some vs → HoD K (msk O' H') vs ds → D.rt (.ref p) H')
    (h4 : ∀ O' σ' ρ' H', F.bk ρ' → Stp K n O σ ρ H O' σ' ρ' H' → D.bk σ' H')
    (h5 : ∀ O' σ' ρ' H', F.ct ρ' → Stp K n O σ ρ H O' σ' ρ' H' → D.ct σ' H') : ts D σ1 H1 :=
  h O1 σ1 H1 S.env D (fun O2 σ2 ρ2 H2 k2 S2 => h1 O2 σ2 ρ2 H2 k2 (S.trans E S2)) (fun v d O2 σ2 ρ2 H2 k2 S2 r => h2 v d O2 σ2 ρ2 H2 k2 (S.trans E S2) r)
    (fun p vs ds O2 σ2 ρ2 H2 k2 S2 np no hp => h3 p vs ds O2 σ2 ρ2 H2 k2 (S.trans E S2) np no (ownsL_back2 E S hp)) (fun O2 σ2 ρ2 H2 k2 S2 => h4 O2 σ2 ρ2 H2 k2 (S.trans E S2)) (fun O2 σ2 ρ2 H2 k2 S2 => h5 O2 σ2 ρ2 H2 k2 (S.trans E S2))
theorem ds_if (h : DT K n tt ρ fun b ρ1 => (b = true → DSx K n ts ρ1 F) ∧ (b = false → DSx K n us ρ1 F)) : DSx K n (tIfS tt ts us) ρ F := fun O σ H E D h1 h2 h3 h4 h5 =>
  h O σ H E _ fun b ρ1 O1 H1 k S => by
    cases b with
    | true => exact DSx.after E S (k.1 rfl) h1 h2 h3 h4 h5
    | false => exact DSx.after E S (k.2 rfl) h1 h2 h3 h4 h5
/-- a name gets a list that is its own -/
theorem stp_setOwn {j : Nat} {p : Addr} {vs : HO} {ds : Own} (S : Stp K n O σ ρ H (p :: O1) σ ρ1 H1) (no : ¬ Owns σ ρ1 p) (hp : H p = none) (hH : H1 p = some vs) (hd : HoD K (msk (p :: O1) H1) vs ds) (hj : n ≤ j) :
    Stp K n O σ ρ H (p :: O1) (σ.set j (some (.ref p))) (ρ1.set j (some (.lst ds))) H1 where
  sub := S.sub
  new := S.new
  le := S.le
  env := ⟨by rw [List.length_set, List.length_set, S.env.len], fun i x e h1 h2 => by
    by_cases hij : j = i
    · subst hij
      have hl : j < ρ1.length := by
        have := (List.getElem?_eq_some_iff.mp h2).1
        simpa using this
      rw [List.getElem?_set_self hl] at h2
      rw [List.getElem?_set_self (by rw [S.env.len]; exact hl)] at h1
      cases h1; cases h2
      exact ⟨List.mem_cons_self, vs, hH, hd⟩
    · rw [List.getElem?_set_ne hij] at h1 h2
      exact S.env.ok i x e h1 h2, S.env.al, fun i k r d1 d2 h1 h2 h3 h4 => by
    by_cases hij : j = i
    · subst hij
      have hl : j < ρ1.length := by
        have := (List.getElem?_eq_some_iff.mp h2).1
        simpa using this
      rw [List.getElem?_set_self (by rw [S.env.len]; exact hl)] at h1
      cases h1
      by_cases hjk : j = k
      · exact hjk
      · rw [List.getElem?_set_ne hjk] at h3 h4
        exact absurd ⟨k, d2, h3, h4⟩ no
    · rw [List.getElem?_set_ne hij] at h1 h2
      by_cases hjk : j = k
      · subst hjk
        have hl : j < ρ1.length := by
          have := (List.getElem?_eq_some_iff.mp h4).1
          simpa using this
        rw [List.getElem?_set_self (by rw [S.env.len]; exact hl)] at h3
        cases h3
        exact absurd ⟨i, d1, h1, h2⟩ no
      · rw [List.getElem?_set_ne hjk] at h3 h4
        exact S.env.dis i k r d1 d2 h1 h2 h3 h4⟩
  own := fun b ⟨i, es, h1, h2⟩ => by
    by_cases hij : j = i
    · subst hij
      have hl : j < ρ1.length := by
        have := (List.getElem?_eq_some_iff.mp h2).1
        simpa using this
      rw [List.getElem?_set_self (by rw [S.env.len]; exact hl)] at h1
      cases h1
      exact .inr hp
    · rw [List.getElem?_set_ne hij] at h1 h2
      exact S.own b ⟨i, es, h1, h2⟩
  pin := fun i es hi h => by
    obtain ⟨e1, ds', h1⟩ := S.pin i es hi h
    have hij : j ≠ i := by omega
    rw [List.getElem?_set_ne hij, List.getElem?_set_ne hij]
    exact ⟨e1, ds', h1⟩
theorem ds_asgF {j : Nat} (h : DF K n te ρ fun ds ρ1 => n ≤ j ∧ F.nx (ρ1.set j (some (.lst ds)))) : DSx K n (tAsg te (gName j)) ρ F := fun O σ H E D h1 h2 h3 h4 h5 =>
  h O σ H E _ fun p vs ds ρ1 O1 H1 ⟨hj, k⟩ S np no hp hH hd => h1 _ _ _ H1 k (stp_setOwn S no hp hH hd hj)
/-- the name's own list is handed back -/
theorem ds_retO {i : Nat} {ds : Own} (hi : ρ[i]? = some (some (.lst ds))) (hn : n ≤ i) (k : F.rf ds (ρ.set i none)) : DSx K n (tRet (tVar i)) ρ F := fun O σ H E D h1 h2 h3 h4 h5 => by
  obtain ⟨p, vs, a, b, c, d⟩ := env_own E hi
  refine ⟨.ref p, a, ?_⟩
  refine h3 p vs ds O σ _ H k (stp_forget E hn) b (fun w => ?_) (.inr ⟨i, ds, hn, a, hi⟩) c d
  obtain ⟨j, es, hj, h6, h7⟩ := owns_forget w
  exact hj (E.dis j i p es ds h6 h7 a hi)
theorem ds_par {i j : Nat} {t : TA} (h : DA K n t ρ fun ds ρ1 => ∃ a b, ds = [a, b] ∧ (n ≤ i ∨ NoLst ρ1 i) ∧ (n ≤ j ∨ NoLst (ρ1.set i (some (.val a))) j) ∧ F.nx ((ρ1.set i (some (.val a))).set j (some (.val b)))) : DSx K n (tPar i j t) ρ F := fun O σ H E D h1 h2 h3 h4 h5 =>
  h O σ H E _ fun vs ds ρ1 O1 H1 ⟨a, b, e, hi, hj, k⟩ S r => by
    subst e
    cases r with
    | cons r1 r2 =>
      cases r2 with
      | cons r2 r3 =>
        cases r3
        have S2 := stp_set (n := n) S.env r1 (j := i) hi
        have S3 := stp_set (n := n) S2.env r2 (j := j) hj
        exact ⟨_, _, rfl, h1 _ _ _ _ k ((S.trans E S2).trans E S3)⟩
/-- name.append(e) on a list of its own -/
theorem ds_app {i : Nat} {ds0 : List PyData} (h0 : ρ[i]? = some (some (.lst (.l ds0)))) (h : DW K n te ρ fun d ρ1 => ∃ ds, ρ1[i]? = some (some (.lst (.l ds))) ∧ ds.length < 100000 ∧ F.nx (ρ1.set i (some (.lst (.l (ds ++ [d])))))) :
    DSx K n (tDrop (tBM K "list" rAppend (tVar i) (tCons te tNil))) ρ F := fun O σ H E D h1 h2 h3 h4 h5 => by
  obtain ⟨p, vs0, a, b, c, _⟩ := env_lst E h0
  refine ⟨.ref p, a, .inl ⟨rfl, _, SqL.of c⟩, ?_⟩
  refine h O σ H E _ fun v d ρ1 O1 H1 ⟨ds, hi, hl, k⟩ S r => ?_
  obtain ⟨p', vs, a', b', c', hd⟩ := env_lst S.env hi
  rw [a] at a'; cases a'
  refine ⟨p, vs, v, rfl, rfl, c', Nat.lt_of_lt_of_le (by rw [dpa_len hd]; exact hl) (by decide), ?_⟩
  exact h1 _ _ _ _ k (S.trans E (stp_write S.env hi a (dpa_append hd (dpa_one r))))
/-- name[k] = e on a list of its own -/
theorem ds_setO {i : Nat} {ti : TE} (h : DW K n te ρ fun d ρ1 => (∃ ds0, ρ1[i]? = some (some (.lst (.l ds0)))) ∧ DW K n ti ρ1 fun x ρ2 => ∃ (k : Nat) (ds : List PyData), x = .int (k : Int) ∧ ρ2[i]? = some (some (.lst (.l ds))) ∧ k < ds.length ∧ F.nx (ρ2.set i (some (.lst (.l (ds.set k d)))))) :
    DSx K n (tAsg te (gSub (tVar i) ti rSetL)) ρ F := fun O σ H E D h1 h2 h3 h4 h5 => by
  refine h O σ H E _ fun v d ρ1 O1 H1 ⟨⟨ds0, hi0⟩, hti⟩ S r => ?_
  obtain ⟨p, vs0, a, b, c, _⟩ := env_lst S.env hi0
  refine ⟨.ref p, a, ?_⟩
  refine hti O1 σ H1 S.env _ fun v2 x ρ2 O2 H2 ⟨k, ds, e, hi, hk, kk⟩ S2 r2 => ?_
  subst e
  obtain ⟨p', vs, a', b', c', hd⟩ := env_lst S2.env hi
  rw [a] at a'; cases a'
  have S02 := S.trans E S2
  refine ⟨p, vs, k, k, rfl, dp_int r2, c', ?_, ?_⟩
  · unfold ixN
    rw [if_pos (Int.natCast_nonneg k), if_pos (by rw [dpa_len hd]; omega)]
    rfl
  · exact h1 _ _ _ _ kk (S02.trans E (stp_write S2.env hi a (dpa_set (S2.dp S.env r) k hd)))

/-! ### loops -/
theorem ds_for {wi : TI} {g : TG} (h : DI K n wi ρ fun ds ρ1 => ∃ J : Nat → Rho → Prop, J 0 ρ1 ∧
      (∀ i d ρ', ds[i]? = some d → J i ρ' → DG K n g ρ' d fun ρ2 => DSx K n ts ρ2 { F with nx := J (i + 1), ct := J (i + 1), bk := F.nx }) ∧ ∀ ρ', J ds.length ρ' → F.nx ρ') :
    DSx K n (tFor wi g ts) ρ F := fun O σ H E D h1 h2 h3 h4 h5 => by
  refine h O σ H E _ fun It ds ρ1 O1 H1 ⟨J, j0, jt, je⟩ S src => ?_
  refine ⟨fun i m σ' H' => m = ds.length - i ∧ i ≤ ds.length ∧ ∃ O' ρ', J i ρ' ∧ Stp K n O1 σ ρ1 H1 O' σ' ρ' H', ⟨ds.length, by simp, Nat.zero_le _, O1, ρ1, j0, Stp.refl S.env⟩, ?_⟩
  rintro i m σ' H' ⟨rfl, hi, O', ρ', jj, S'⟩
  have em := S'.msk S.env
  by_cases hlt : i < ds.length
  · refine .inr ⟨src.go O' H' i em hlt, fun σ2 H2 => ∃ O2 ρ2, J (i + 1) ρ2 ∧ Stp K n O1 σ ρ1 H1 O2 σ2 ρ2 H2, fun σ2 H2 ⟨O2, ρ2, j2, S2⟩ => ⟨ds.length - (i + 1), by omega, rfl, hlt, O2, ρ2, j2, S2⟩, fun x H2 y => ?_⟩
    obtain ⟨d, hd⟩ : ∃ d, ds[i]? = some d := ⟨ds[i], by simp [hlt]⟩
    obtain ⟨e2, r2⟩ := src.yld O' H' i x H2 d em S'.env.al y hd
    have S2 := S'.trans S.env (Stp.grow S'.env e2)
    refine jt i d ρ' hd jj O' σ' H2 x S2.env r2 _ fun σ3 ρ3 hs S3 => ?_
    have S13 := S2.trans S.env S3
    have S03 := S.trans E S13
    exact DSx.after (F := { F with nx := J (i + 1), ct := J (i + 1), bk := F.nx }) (D := { D with nx := fun σ2 H2 => ∃ O2 ρ2, J (i + 1) ρ2 ∧ Stp K n O1 σ ρ1 H1 O2 σ2 ρ2 H2, ct := fun σ2 H2 => ∃ O2 ρ2, J (i + 1) ρ2 ∧ Stp K n O1 σ ρ1 H1 O2 σ2 ρ2 H2, bk := D.nx }) S.env S13 hs
      (fun O4 σ4 ρ4 H4 k4 S4 => ⟨O4, ρ4, k4, S4⟩)
      (fun v d O4 σ4 ρ4 H4 k4 S4 r4 => h2 v d O4 σ4 ρ4 H4 k4 (S.trans E S4) r4)
      (fun p vs ds O4 σ4 ρ4 H4 k4 S4 np no hp => h3 p vs ds O4 σ4 ρ4 H4 k4 (S.trans E S4) np no (ownsL_back2 E S hp))
      (fun O4 σ4 ρ4 H4 k4 S4 => h1 O4 σ4 ρ4 H4 k4 (S.trans E S4))
      (fun O4 σ4 ρ4 H4 k4 S4 => ⟨O4, ρ4, k4, S4⟩)
  · have e : i = ds.length := by omega
    subst e
    exact .inl ⟨src.stop O' H' _ em (Nat.le_refl _), h1 O' σ' ρ' H' (je ρ' jj) (S.trans E S')⟩
theorem ds_while (h : ∃ J : Nat → Rho → Prop, (∃ m, J m ρ) ∧ ∀ m ρ', J m ρ' → DT K n tt ρ' fun b ρ1 => (b = true → DSx K n ts ρ1 { F with nx := fun ρ2 => ∃ m', m' < m ∧ J m' ρ2, ct := fun ρ2 => ∃ m', m' < m ∧ J m' ρ2, bk := F.nx }) ∧ (b = false → F.nx ρ1)) :
    DSx K n (tWhile tt ts) ρ F := fun O σ H E D h1 h2 h3 h4 h5 => by
  obtain ⟨J, ⟨m0, j0⟩, jt⟩ := h
  refine ⟨fun m σ' H' => ∃ O' ρ', J m ρ' ∧ Stp K n O σ ρ H O' σ' ρ' H', ⟨m0, O, ρ, j0, Stp.refl E⟩, ?_⟩
  rintro m σ' H' ⟨O', ρ', jj, S'⟩
  refine jt m ρ' jj O' σ' H' S'.env _ fun b ρ1 O1 H1 ⟨ht, hf⟩ S1 => ?_
  have S01 := S'.trans E S1
  cases b with
  | true =>
    refine iteT ⟨fun σ2 H2 => ∃ m', m' < m ∧ ∃ O2 ρ2, J m' ρ2 ∧ Stp K n O σ ρ H O2 σ2 ρ2 H2, fun σ2 H2 h => h, ?_⟩
    exact DSx.after (F := { F with nx := fun ρ2 => ∃ m', m' < m ∧ J m' ρ2, ct := fun ρ2 => ∃ m', m' < m ∧ J m' ρ2, bk := F.nx }) (D := { D with nx := fun σ2 H2 => ∃ m', m' < m ∧ ∃ O2 ρ2, J m' ρ2 ∧ Stp K n O σ ρ H O2 σ2 ρ2 H2, ct := fun σ2 H2 => ∃ m', m' < m ∧ ∃ O2 ρ2, J m' ρ2 ∧ Stp K n O σ ρ H O2 σ2 ρ2 H2, bk := D.nx }) E S01 (ht rfl)
      (fun O4 σ4 ρ4 H4 ⟨m', hm, k4⟩ S4 => ⟨m', hm, O4, ρ4, k4, S4⟩)
      h2 h3 h1 (fun O4 σ4 ρ4 H4 ⟨m', hm, k4⟩ S4 => ⟨m', hm, O4, ρ4, k4, S4⟩)
  | false => exact iteF (h1 O1 σ' ρ1 H1 (hf rfl) S01)

/-! ### comprehensions -/
theorem env_mem {O2 : List Addr} (E : Envs K O σ ρ H) (h : ∀ b, b ∈ O ↔ b ∈ O2) : Envs K O2 σ ρ H := by
  have em : msk O2 H = msk O H := by
    funext b
    unfold msk
    by_cases hb : b ∈ O
    · rw [if_pos hb, if_pos ((h b).mp hb)]
    · rw [if_neg hb, if_neg (fun z => hb ((h b).mpr z))]
  refine ⟨E.len, fun i x e h1 h2 => ?_, fun b hb => E.al b ((h b).mpr hb), E.dis⟩
  have w := E.ok i x e h1 h2
  cases e with
  | val d =>
    cases x with
    | none => exact w.elim
    | some v => exact (show DP K (msk O2 H) v d by rw [em]; exact w)
  | lst ds =>
    obtain ⟨r, rfl, hr, vs, hv, hd⟩ := lst_val w
    exact ⟨(h r).mp hr, vs, hv, by rw [em]; exact hd⟩
theorem msk_mem {O O2 : List Addr} {H : Hp} (h : ∀ b, b ∈ O ↔ b ∈ O2) : msk O2 H = msk O H := by
  funext b
  unfold msk
  by_cases hb : b ∈ O
  · rw [if_pos hb, if_pos ((h b).mp hb)]
  · rw [if_neg hb, if_neg (fun z => hb ((h b).mpr z))]
theorem stp_mem {O2 : List Addr} {σ1 : L2.St} {H1 : Hp} (S : Stp K n O σ ρ H O1 σ1 ρ1 H1) (h : ∀ b, b ∈ O1 ↔ b ∈ O2) : Stp K n O σ ρ H O2 σ1 ρ1 H1 :=
  ⟨fun b hb => (h b).mp (S.sub b hb), fun b hb => S.new b ((h b).mpr hb), S.le, env_mem S.env h, S.own, S.pin⟩
/-- an address that no name owns is written -/
theorem stp_writeD {σ1 : L2.St} {H1 : Hp} {D : Addr} {o : HO} (S : Stp K n O σ ρ H O1 σ1 ρ1 H1) (h0 : H D = none) (hD : D ∈ O1) (no : ¬ Owns σ1 ρ1 D) : Stp K n O σ ρ H O1 σ1 ρ1 (upd H1 D o) ∧ msk O1 (upd H1 D o) = msk O1 H1 := by
  have em : msk O1 (upd H1 D o) = msk O1 H1 := by
    funext b
    unfold msk
    by_cases hb : b ∈ O1
    · rw [if_pos hb, if_pos hb]
    · rw [if_neg hb, if_neg hb, upd_ne (fun e : b = D => hb (by rw [e]; exact hD))]
  refine ⟨⟨S.sub, S.new, fun b u nb hb => ?_, ⟨S.env.len, fun i x e h1 h2 => ?_, fun b hb => ?_, S.env.dis⟩, S.own, S.pin⟩, em⟩
  · rw [upd_ne (ne_of_none hb h0)]
    exact S.le b u nb hb
  · have w := S.env.ok i x e h1 h2
    cases e with
    | val d =>
      cases x with
      | none => exact w.elim
      | some v => exact (show DP K (msk O1 (upd H1 D o)) v d by rw [em]; exact w)
    | lst ds =>
      obtain ⟨r, rfl, hr, vs, hv, hd⟩ := lst_val w
      refine ⟨hr, vs, ?_, by rw [em]; exact hd⟩
      rw [upd_ne (fun e : r = D => no ⟨i, ds, by rw [← e]; exact h1, h2⟩)]
      exact hv
  · by_cases e : b = D
    · rw [e, upd_same]; exact fun z => nomatch z
    · rw [upd_ne e]; exact S.env.al b hb
theorem owns_set {j : Nat} {x : Option V} {y : Option Ent} {p : Addr} (hy : ∀ ds, y ≠ some (.lst ds)) (w : Owns (σ.set j x) (ρ.set j y) p) : Owns σ ρ p := by
  obtain ⟨i, ds, h1, h2⟩ := w
  by_cases hij : j = i
  · subst hij
    have hl : j < ρ.length := by
      have := (List.getElem?_eq_some_iff.mp h2).1
      simpa using this
    rw [List.getElem?_set_self hl] at h2
    exact absurd (Option.some.inj h2) (hy ds)
  · rw [List.getElem?_set_ne hij] at h1 h2
    exact ⟨i, ds, h1, h2⟩
/-- into a turn of a comprehension, and out of it -/
theorem stp_in {j : Nat} {v : V} {d : PyData} (E : Envs K O σ ρ H) (hj : n ≤ j) (h : DP K (msk O H) v d) : Stp K n O σ ρ H O (σ.set j (some v)) (ρ.set j (some (.val d))) H := stp_set E h (.inl hj)
theorem stp_out {j : Nat} {x : Option V} (E : Envs K O σ ρ H) (hj : n ≤ j) : Stp K n O σ ρ H O (σ.set j x) (ρ.set j none) H where
  sub := fun _ h => h
  new := fun _ h => .inl h
  le := fun _ _ _ h => h
  env := env_drop E
  own := fun b w => .inl (owns_set (fun ds => by simp) w)
  pin := fun i es hi h => by
    have hij : j ≠ i := by omega
    rw [List.getElem?_set_ne hij, List.getElem?_set_ne hij]
    exact ⟨rfl, es, h⟩
theorem set_back {α : Type} (l : List α) (j : Nat) (a b c : α) (h : l[j]? = some c) : ((l.set j a).set j b).set j c = l := by
  rw [List.set_set, List.set_set]
  apply List.ext_getElem?
  intro i
  by_cases hij : j = i
  · subst hij
    have hl := (List.getElem?_eq_some_iff.mp h).1
    rw [List.getElem?_set_self hl, h]
  · rw [List.getElem?_set_ne hij]
theorem df_lc {wi : TI} {j : Nat} (h : DI K n wi ρ fun ds ρ1 => n ≤ j ∧ ds.length ≤ 100000 ∧ ρ1[j]? = some none ∧ ∃ J : Nat → List PyData → Rho → Prop, J 0 [] ρ1 ∧
      (∀ i d out ρ', ds[i]? = some d → J i out ρ' → out.length ≤ i → DT K n tt (ρ'.set j (some (.val d))) fun b ρ2 => (b = true → DW K n te ρ2 fun y ρ3 => J (i + 1) (out ++ [y]) (ρ3.set j none)) ∧ (b = false → J (i + 1) out (ρ2.set j none))) ∧
      ∀ out ρ', J ds.length out ρ' → Φf (.l out) ρ') : DF K n (tLc wi (gName j) tt te [j]) ρ Φf := by
  intro O σ H E Q q
  refine h O σ H E _ fun It ds ρ1 O1 H1 ⟨hj, hlen, hρj, J, j0, jt, je⟩ S src => ?_
  intro D hD
  have SD := stp_alloc (n := n) (o := .lst []) S.env hD
  have nD := fresh_notin S.env hD
  have noD := not_owned S.env hD
  have hD0 : H D = none := S.none_back (fun z => nD (S.sub D z)) hD E
  have hjσ : j < σ.length := by rw [S.env.len]; exact (List.getElem?_eq_some_iff.mp hρj).1
  have hjρ : j < ρ1.length := (List.getElem?_eq_some_iff.mp hρj).1
  refine ⟨fun i m H' => m = ds.length - i ∧ i ≤ ds.length ∧ ∃ O' ρ' out vs, J i out ρ' ∧ out.length ≤ i ∧ Stp K n O1 σ ρ1 H1 O' σ ρ' H' ∧ D ∈ O' ∧ ¬ Owns σ ρ' D ∧ H' D = some (.lst vs) ∧ DPAll K (msk O' H') vs out,
    ⟨ds.length, by simp, Nat.zero_le _, D :: O1, ρ1, [], [], j0, Nat.le_refl _, SD, List.mem_cons_self, noD, upd_same, .nil⟩, ?_⟩
  rintro i m H' ⟨rfl, hi, O', ρ', out, vs, jj, hol, S', nO', no', hH', hd'⟩
  have em := S'.msk S.env
  by_cases hlt : i < ds.length
  · refine .inr ⟨src.go _ H' i em hlt, fun H2 => ∃ O2 ρ2 out2 vs2, J (i + 1) out2 ρ2 ∧ out2.length ≤ i + 1 ∧ Stp K n O1 σ ρ1 H1 O2 σ ρ2 H2 ∧ D ∈ O2 ∧ ¬ Owns σ ρ2 D ∧ H2 D = some (.lst vs2) ∧ DPAll K (msk O2 H2) vs2 out2,
      fun H2 ⟨O2, ρ2, out2, vs2, a, b, d, e, f, g, hh⟩ => ⟨ds.length - (i + 1), by omega, rfl, hlt, O2, ρ2, out2, vs2, a, b, d, e, f, g, hh⟩, fun x H2 y => ?_⟩
    obtain ⟨d, hd⟩ : ∃ d, ds[i]? = some d := ⟨ds[i], by simp [hlt]⟩
    obtain ⟨e2, r2⟩ := src.yld _ H' i x H2 d em S'.env.al y hd
    have Sg := Stp.grow (n := n) S'.env e2
    have S2 := S'.trans S.env Sg
    have hσt : (wipe σ [j]).set j (some x) = σ.set j (some x) := by
      show (σ.set j none).set j (some x) = σ.set j (some x)
      exact List.set_set ..
    unfold gName
    rw [hσt]
    refine ⟨by show (σ.set j (some x)).set j none = σ.set j none; rw [List.set_set], ?_⟩
    have Sin := stp_in (n := n) S2.env hj r2
    have noT : ¬ Owns (σ.set j (some x)) (ρ'.set j (some (.val d))) D := fun w => no' (owns_set (fun ds => by simp) w)
    have back : (σ.set j (some x)).set j σ[j] = σ := by
      have := set_back σ j (some x) (some x) σ[j] (List.getElem?_eq_getElem hjσ)
      rwa [List.set_set] at this
    refine jt i d out ρ' hd jj hol _ _ H2 Sin.env _ fun b ρ2 O2 H3 ⟨kt, kf⟩ S3 => ?_
    have S13 := ((S2.trans S.env Sin).trans S.env S3)
    have hD3 : H3 D = some (.lst vs) := S3.le D _ noT (e2 D _ hH')
    have hout3 := S3.dpa Sin.env (Sg.dpa S'.env hd')
    have ho3 := S3.own
    have al3 : D ∈ O2 := S3.sub D nO'
    have no3 : ¬ Owns (σ.set j (some x)) ρ2 D := fun w => by
      rcases S3.own D w with w | w
      · exact noT w
      · exact S2.env.al D nO' w
    cases b with
    | true =>
      refine iteT ?_
      refine kt rfl _ _ H3 S3.env _ fun v yd ρ3 O3 H4 k4 S4 r4 => ?_
      have no4 : ¬ Owns (σ.set j (some x)) ρ3 D := fun w => by
        rcases S4.own D w with w | w
        · exact no3 w
        · exact S3.env.al D al3 w
      have hD4 : H4 D = some (.lst vs) := S4.le D _ no3 hD3
      have S14 := (S13.trans S.env S4).trans S.env (stp_out (n := n) (j := j) (x := σ[j]) S4.env hj)
      rw [back] at S14
      have al4 : D ∈ O3 := S4.sub D al3
      have no5 : ¬ Owns σ (ρ3.set j none) D := fun w => no4 (by
        have := owns_set (σ := σ.set j (some x)) (ρ := ρ3) (j := j) (x := σ[j]) (y := none) (fun ds => by simp) (p := D)
        rw [back] at this
        exact this w)
      have hout4 := S4.dpa S3.env hout3
      refine ⟨vs, hD4, Nat.lt_of_le_of_lt (Nat.le_of_eq (dpa_len hd')) (Nat.lt_of_le_of_lt (Nat.le_trans hol (by omega)) (show (100000 : Nat) < sizeLine by decide)), ?_⟩
      obtain ⟨S15, em5⟩ := stp_writeD (o := .lst (vs ++ [v])) S14 hD al4 no5
      refine ⟨O3, ρ3.set j none, out ++ [yd], vs ++ [v], k4, by simp; omega, S15, al4, no5, upd_same, ?_⟩
      rw [em5]
      exact dpa_append hout4 (dpa_one r4)
    | false =>
      refine iteF ?_
      have S14 := S13.trans S.env (stp_out (n := n) (j := j) (x := σ[j]) S3.env hj)
      rw [back] at S14
      have no5 : ¬ Owns σ (ρ2.set j none) D := fun w => no3 (by
        have := owns_set (σ := σ.set j (some x)) (ρ := ρ2) (j := j) (x := σ[j]) (y := none) (fun ds => by simp) (p := D)
        rw [back] at this
        exact this w)
      exact ⟨O2, ρ2.set j none, out, vs, kf rfl, by omega, S14, al3, no5, hD3, hout3⟩
  · have e : i = ds.length := by omega
    subst e
    refine .inl ⟨src.stop _ H' _ em (Nat.le_refl _), ?_⟩
    have mem : ∀ b, b ∈ O' ↔ b ∈ D :: O'.filter (fun b => decide (b ≠ D)) := fun b => by
      by_cases hb : b = D
      · subst hb; simp [nO']
      · simp [hb]
    refine q D (.lst vs) (.l out) ρ' _ H' (je out ρ' jj) (stp_mem (S.trans E S') mem) (by simp) no' hD0 hH' ?_
    rw [msk_mem mem]
    exact hd'
end
end DL
namespace DL
open PySem L2 PySem.Spec PyProof.Rows
abbrev SpW := List Ent → (PyData → List Ent → Prop) → Prop
abbrev SfW := List Ent → (Own → List Ent → Prop) → Prop
/-- a def's promise, on data -/
def spD (K : PySem.W.Frag) (np : Nat) (W : SpW) : Sp := fun vs H Q _ => ∃ O es Φ, vs.length = np ∧ Envs K O (vs.map some) (es.map some) H ∧ W es Φ ∧
  ∀ v d es' O' H', Φ d es' → Stp K np O (vs.map some) (es.map some) H O' (vs.map some) (es'.map some) H' → DP K (msk O' H') v d → Q v H'
def spF (K : PySem.W.Frag) (np : Nat) (W : SfW) : Sp := fun vs H Q _ => ∃ O es Φ, vs.length = np ∧ Envs K O (vs.map some) (es.map some) H ∧ W es Φ ∧
  ∀ p ws ds es' O' H', Φ ds es' → Stp K np O (vs.map some) (es.map some) H O' (vs.map some) (es'.map some) H' → p ∈ O' → ¬ Owns (vs.map some) (es'.map some) p → H p = none → H' p = some ws → HoD K (msk O' H') ws ds → Q (.ref p) H'
def finE1 (i : Nat) (e : Ent) (ρ : Rho) : Ent := match e with
  | .val d => .val d
  | .lst ds => match ρ[i]? with
    | some (some (.lst ds')) => .lst ds'
    | _ => .lst ds
def finE : Nat → List Ent → Rho → List Ent
  | _, [], _ => []
  | i, e :: r, ρ => finE1 i e ρ :: finE (i + 1) r ρ
theorem finE_len : ∀ (i : Nat) (es : List Ent) (ρ : Rho), (finE i es ρ).length = es.length
  | _, [], _ => rfl
  | i, e :: r, ρ => congrArg (· + 1) (finE_len (i + 1) r ρ)
theorem finE_get : ∀ (i : Nat) (es : List Ent) (ρ : Rho) (j : Nat), (finE i es ρ)[j]? = (es[j]?).map fun e => finE1 (i + j) e ρ
  | _, [], _, j => by simp [finE]
  | i, e :: r, ρ, 0 => by simp [finE]
  | i, e :: r, ρ, j + 1 => by
    have := finE_get (i + 1) r ρ j
    simp only [finE, List.getElem?_cons_succ]
    rw [this]
    have e : i + 1 + j = i + (j + 1) := by omega
    rw [e]
section
variable {K : PySem.W.Frag} {n : Nat} {O O1 : List Addr} {σ : L2.St} {ρ ρ1 : Rho} {H H1 : Hp} {ta tb tc te : TE} {tt tu : TT} {Φ : PD} {F : DE2} {ts us : TS}
theorem map_get {α : Type} {l : List α} {i : Nat} {x : Option α} (h : (l.map some)[i]? = some x) : ∃ y, x = some y ∧ l[i]? = some y := by
  rw [List.getElem?_map] at h
  cases e : l[i]? with
  | none => rw [e] at h; cases h
  | some y => rw [e] at h; exact ⟨y, (Option.some.inj h).symm, rfl⟩
theorem map_of {α : Type} {l : List α} {i : Nat} {y : α} (h : l[i]? = some y) : (l.map some)[i]? = some (some y) := by
  rw [List.getElem?_map, h]; rfl
/-- what a def's body leaves, as its caller sees it -/
theorem stp_fin {np m : Nat} {vs : List V} {es : List Ent} {O' : List Addr} {σ' : L2.St} {ρ' : Rho} {H' : Hp} (E : Envs K O (vs.map some) (es.map some) H) (hl : es.length = np) (hv : vs.length = np)
    (S : Stp K np O (vs.map some ++ List.replicate m none) (es.map some ++ List.replicate m none) H O' σ' ρ' H') : Stp K np O (vs.map some) (es.map some) H O' (vs.map some) ((finE 0 es ρ').map some) H' ∧ ∀ p, Owns (vs.map some) ((finE 0 es ρ').map some) p → Owns σ' ρ' p := by
  have inL : ∀ (i : Nat) (x : Option V), (vs.map some)[i]? = some x → (vs.map some ++ List.replicate m none)[i]? = some x := fun i x h => by
    rw [List.getElem?_append_left (List.getElem?_eq_some_iff.mp h).1]; exact h
  have inE : ∀ (i : Nat) (x : Option Ent), (es.map some)[i]? = some x → (es.map some ++ List.replicate m none)[i]? = some x := fun i x h => by
    rw [List.getElem?_append_left (List.getElem?_eq_some_iff.mp h).1]; exact h
  have outO : ∀ b, Owns (vs.map some ++ List.replicate m none) (es.map some ++ List.replicate m none) b → Owns (vs.map some) (es.map some) b := fun b ⟨i, ds, h1, h2⟩ => by
    by_cases hi : i < (vs.map some).length
    · rw [List.getElem?_append_left hi] at h1
      rw [List.getElem?_append_left (by simp at hi ⊢; omega)] at h2
      exact ⟨i, ds, h1, h2⟩
    · rw [List.getElem?_append_right (by omega)] at h1
      obtain ⟨_, h1⟩ := List.getElem?_eq_some_iff.mp h1
      rw [List.getElem_replicate] at h1
      cases h1
  have E0 : Envs K O (vs.map some ++ List.replicate m none) (es.map some ++ List.replicate m none) H := by
    refine ⟨by simp [hl, hv], fun i x e h1 h2 => ?_, E.al, fun i j p ds es' h1 h2 h3 h4 => ?_⟩
    · by_cases hi : i < (es.map some).length
      · rw [List.getElem?_append_left hi] at h2
        rw [List.getElem?_append_left (by simp at hi ⊢; omega)] at h1
        exact E.ok i x e h1 h2
      · rw [List.getElem?_append_right (by omega)] at h2
        obtain ⟨_, h2⟩ := List.getElem?_eq_some_iff.mp h2
        rw [List.getElem_replicate] at h2
        cases h2
    · have a : ∀ (i : Nat) (ds : Own), (es.map some ++ List.replicate m none)[i]? = some (some (.lst ds)) → i < (es.map some).length := fun i ds h => by
        by_cases hi : i < (es.map some).length
        · exact hi
        · rw [List.getElem?_append_right (by omega)] at h
          obtain ⟨_, h⟩ := List.getElem?_eq_some_iff.mp h
          rw [List.getElem_replicate] at h
          cases h
      have hi := a i ds h2
      have hj := a j es' h4
      rw [List.getElem?_append_left (by simp at hi ⊢; omega)] at h1
      rw [List.getElem?_append_left hi] at h2
      rw [List.getElem?_append_left (by simp at hj ⊢; omega)] at h3
      rw [List.getElem?_append_left hj] at h4
      exact E.dis i j p ds es' h1 h2 h3 h4
  -- an entry behind the body
  have ent : ∀ (i : Nat) (v : V) (e : Ent), vs[i]? = some v → (finE 0 es ρ')[i]? = some e → EntOk K O' H' (some v) e ∧ ∀ ds, e = .lst ds → σ'[i]? = some (some v) ∧ ρ'[i]? = some (some (.lst ds)) ∧ ∃ ds0, es[i]? = some (.lst ds0) := fun i v e h1 h2 => by
    rw [finE_get] at h2
    cases he : es[i]? with
    | none => rw [he] at h2; cases h2
    | some e0 =>
      rw [he] at h2
      have h2 : finE1 (0 + i) e0 ρ' = e := Option.some.inj h2
      rw [Nat.zero_add] at h2
      cases e0 with
      | val d =>
        subst h2
        have q := E.ok i _ _ (map_of h1) (map_of he)
        refine ⟨S.dp E0 (show DP K (msk O H) v d from q), fun ds z => nomatch z⟩
      | lst ds0 =>
        have hi : i < np := by rw [← hl]; exact (List.getElem?_eq_some_iff.mp he).1
        obtain ⟨e1, ds1, e2⟩ := S.pin i ds0 hi (inE i _ (map_of he))
        have e3 : finE1 i (.lst ds0) ρ' = .lst ds1 := by unfold finE1; rw [e2]
        rw [e3] at h2
        subst h2
        have h4 : σ'[i]? = some (some v) := e1.trans (inL i _ (map_of h1))
        exact ⟨S.env.ok i _ _ h4 e2, fun ds z => by cases z; exact ⟨h4, e2, ds0, rfl⟩⟩
  have own' : ∀ p, Owns (vs.map some) ((finE 0 es ρ').map some) p → Owns σ' ρ' p ∧ Owns (vs.map some) (es.map some) p := fun p ⟨i, ds, h1, h2⟩ => by
    obtain ⟨v, e, h1⟩ := map_get h1
    cases e
    obtain ⟨en, e, h2⟩ := map_get h2
    cases e
    obtain ⟨_, h3⟩ := ent i _ _ h1 h2
    obtain ⟨a, b, ds0, c⟩ := h3 ds rfl
    exact ⟨⟨i, ds, a, b⟩, ⟨i, ds0, map_of h1, map_of c⟩⟩
  refine ⟨⟨S.sub, S.new, fun b o nb h => S.le b o (fun w => nb (outO b w)) h, ⟨?_, fun i x e h1 h2 => ?_, S.env.al, fun i j p ds es' h1 h2 h3 h4 => ?_⟩, fun b w => .inl (own' b w).2, fun i ds hi h => ⟨rfl, ?_⟩⟩, fun p w => (own' p w).1⟩
  · rw [List.length_map, List.length_map, finE_len, hv, hl]
  · obtain ⟨v, rfl, g1⟩ := map_get h1
    obtain ⟨en, z, g2⟩ := map_get h2
    cases z
    exact (ent i v e g1 g2).1
  · obtain ⟨v, z, h1⟩ := map_get h1
    cases z
    obtain ⟨en, z, h2⟩ := map_get h2
    cases z
    obtain ⟨v, z, h3⟩ := map_get h3
    cases z
    obtain ⟨en, z, h4⟩ := map_get h4
    cases z
    obtain ⟨a1, a2, _⟩ := (ent i _ _ h1 h2).2 _ rfl
    obtain ⟨a3, a4, _⟩ := (ent j _ _ h3 h4).2 _ rfl
    exact S.env.dis i j p ds es' a1 a2 a3 a4
  · obtain ⟨en, z, h⟩ := map_get h
    cases z
    obtain ⟨_, ds1, e2⟩ := S.pin i ds hi (inE i _ (map_of h))
    refine ⟨ds1, map_of ?_⟩
    rw [finE_get, h]
    show some (finE1 (0 + i) (.lst ds) ρ') = _
    rw [Nat.zero_add]
    unfold finE1
    rw [e2]
theorem env_start {np m : Nat} {vs : List V} {es : List Ent} (E : Envs K O (vs.map some) (es.map some) H) (hl : es.length = np) (hv : vs.length = np) : Envs K O (vs.map some ++ List.replicate m none) (es.map some ++ List.replicate m none) H := by
  refine ⟨by simp [hl, hv], fun i x e h1 h2 => ?_, E.al, fun i j p ds es' h1 h2 h3 h4 => ?_⟩
  · by_cases hi : i < (es.map some).length
    · rw [List.getElem?_append_left hi] at h2
      rw [List.getElem?_append_left (by simp at hi ⊢; omega)] at h1
      exact E.ok i x e h1 h2
    · rw [List.getElem?_append_right (by omega)] at h2
      obtain ⟨_, h2⟩ := List.getElem?_eq_some_iff.mp h2
      rw [List.getElem_replicate] at h2
      cases h2
  · have a : ∀ (i : Nat) (ds : Own), (es.map some ++ List.replicate m none)[i]? = some (some (.lst ds)) → i < (es.map some).length := fun i ds h => by
      by_cases hi : i < (es.map some).length
      · exact hi
      · rw [List.getElem?_append_right (by omega)] at h
        obtain ⟨_, h⟩ := List.getElem?_eq_some_iff.mp h
        rw [List.getElem_replicate] at h
        cases h
    have hi := a i ds h2
    have hj := a j es' h4
    rw [List.getElem?_append_left (by simp at hi ⊢; omega)] at h1
    rw [List.getElem?_append_left hi] at h2
    rw [List.getElem?_append_left (by simp at hj ⊢; omega)] at h3
    rw [List.getElem?_append_left hj] at h4
    exact E.dis i j p ds es' h1 h2 h3 h4
end
section
variable {P : Program} {w : World} {K : PySem.W.Frag} {mg : Str → Option Value} {base : Heap}
/-- THE RULE for a def on data -/
theorem fn_data {x qual : Str} {st : Stmt} {f : Addr} {fd : FuncData} {N ps : List Str} {k np : Nat} {W : SpW} (F : Fun K x qual st f fd) (S : FnScope N ps (defScope st)) (hp : ps.length = np)
    (body : ∀ (cdv : Value) (A : Around) (outer : List Env) (s : Shared) (H : Hp) (E : XK), Room k (A.deeper (envOfC qual (defScope st) s.heap.objs.size f cdv)) →
      ∃ t, PSs (cxOf CX0 P w K mg base N qual (defScope st) f cdv A outer s H E).nox (defBody st) t ∧
        ∀ es Φ, W es Φ → es.length = np → DSx K np t (es.map some ++ List.replicate (N.length - np) none) { nx := fun ρ => Φ .none (finE 0 es ρ), rt := fun d ρ => Φ d (finE 0 es ρ) }) :
    FnOk P w K mg base CX0 (k + 1) f fd ps (spD K np W) := by
  refine F.ok S (fun vs H Q E h => ?_) (fun cdv A outer s H vs Q E hr h => ?_)
  · obtain ⟨O, es, Φ, h, _⟩ := h
    omega
  · obtain ⟨O, es, Φ, hv, he, hw, hk⟩ := h
    have hl : es.length = np := by have := he.len; simp at this; omega
    obtain ⟨t, h1, h2⟩ := body cdv A outer s H E hr
    refine ⟨t, h1, ?_⟩
    show t _ (vs.map some ++ List.replicate (N.length - vs.length) none) H
    rw [hv]
    refine h2 es Φ hw hl O _ H (env_start he hl hv) _ (fun O' σ' ρ' H' q S' => ?_) (fun v d O' σ' ρ' H' q S' r => ?_) (fun p ws ds O' σ' ρ' H' q S' => q.elim) (fun O' σ' ρ' H' q S' => q.elim) (fun O' σ' ρ' H' q S' => q.elim)
    · exact hk .non .none _ O' H' q (stp_fin he hl hv S').1 .non
    · exact hk v d _ O' H' q (stp_fin he hl hv S').1 r
theorem fn_dataF {x qual : Str} {st : Stmt} {f : Addr} {fd : FuncData} {N ps : List Str} {k np : Nat} {W : SfW} (F : Fun K x qual st f fd) (S : FnScope N ps (defScope st)) (hp : ps.length = np)
    (body : ∀ (cdv : Value) (A : Around) (outer : List Env) (s : Shared) (H : Hp) (E : XK), Room k (A.deeper (envOfC qual (defScope st) s.heap.objs.size f cdv)) →
      ∃ t, PSs (cxOf CX0 P w K mg base N qual (defScope st) f cdv A outer s H E).nox (defBody st) t ∧
        ∀ es Φ, W es Φ → es.length = np → DSx K np t (es.map some ++ List.replicate (N.length - np) none) { nx := fun _ => False, rt := fun _ _ => False, rf := fun ds ρ => Φ ds (finE 0 es ρ) }) :
    FnOk P w K mg base CX0 (k + 1) f fd ps (spF K np W) := by
  refine F.ok S (fun vs H Q E h => ?_) (fun cdv A outer s H vs Q E hr h => ?_)
  · obtain ⟨O, es, Φ, h, _⟩ := h
    omega
  · obtain ⟨O, es, Φ, hv, he, hw, hk⟩ := h
    have hl : es.length = np := by have := he.len; simp at this; omega
    obtain ⟨t, h1, h2⟩ := body cdv A outer s H E hr
    refine ⟨t, h1, ?_⟩
    show t _ (vs.map some ++ List.replicate (N.length - vs.length) none) H
    rw [hv]
    refine h2 es Φ hw hl O _ H (env_start he hl hv) _ (fun O' σ' ρ' H' q S' => q.elim) (fun v d O' σ' ρ' H' q S' r => q.elim) (fun p ws ds O' σ' ρ' H' q S' hp no h0 hh hd => ?_) (fun O' σ' ρ' H' q S' => q.elim) (fun O' σ' ρ' H' q S' => q.elim)
    obtain ⟨S1, S2⟩ := stp_fin he hl hv S'
    refine hk p ws ds _ O' H' q S1 hp (fun w => no (S2 p w)) ?_ hh hd
    rcases h0 with h0 | ⟨i, ds0, hi, h3, h4⟩
    · exact h0
    · rw [List.getElem?_append_right (by simp; omega)] at h4
      obtain ⟨_, h4⟩ := List.getElem?_eq_some_iff.mp h4
      rw [List.getElem_replicate] at h4
      cases h4
end
section
variable {K : PySem.W.Frag} {n np : Nat} {O O1 : List Addr} {σ : L2.St} {ρ ρ1 : Rho} {H H1 : Hp} {ta tb tc te : TE} {tt tu : TT} {Φ : PD} {F : DE2} {ts us : TS} {W : SpW} {Wf : SfW}
/-- arguments that are all plain data -/
theorem env_args {vs : List V} {ds : List PyData} (al : ∀ b ∈ O, H b ≠ none) (h : DPAll K (msk O H) vs ds) : Envs K O (vs.map some) ((ds.map Ent.val).map some) H := by
  refine ⟨by simp [dpa_len h], fun i x e h1 h2 => ?_, al, fun i j p d1 d2 h1 h2 h3 h4 => ?_⟩
  · obtain ⟨v, rfl, g1⟩ := map_get h1
    obtain ⟨en, z, g2⟩ := map_get h2
    cases z
    rw [List.getElem?_map] at g2
    obtain ⟨d, h3, h4⟩ := dpa_get' h g1
    rw [h3] at g2
    cases g2
    exact h4
  · obtain ⟨en, z, h2⟩ := map_get h2
    cases z
    rw [List.getElem?_map] at h2
    cases e : ds[i]? with
    | none => rw [e] at h2; cases h2
    | some d => rw [e] at h2; cases h2
theorem no_own_vals {vs : List (Option V)} {ds : List PyData} {p : Addr} : ¬ Owns vs ((ds.map Ent.val).map some) p := fun ⟨i, es, h1, h2⟩ => by
  obtain ⟨en, z, h2⟩ := map_get h2
  cases z
  rw [List.getElem?_map] at h2
  cases e : ds[i]? with
  | none => rw [e] at h2; cases h2
  | some d => rw [e] at h2; cases h2
/-- behind a call of plain data -/
theorem stp_called {vs : List V} {ds : List PyData} {es' : List Ent} {O' : List Addr} {H' : Hp} (E : Envs K O1 σ ρ1 H1) (hd : DPAll K (msk O1 H1) vs ds)
    (S : Stp K np O1 (vs.map some) ((ds.map Ent.val).map some) H1 O' (vs.map some) (es'.map some) H') : Stp K n O1 σ ρ1 H1 O' σ ρ1 H' := by
  have ex : Ext H1 H' := fun b o h => S.le b o no_own_vals h
  have em : Ext (msk O1 H1) (msk O' H') := S.msk (env_args E.al hd)
  refine ⟨S.sub, S.new, fun b o _ h => ex b o h, ⟨E.len, fun i x e h1 h2 => ?_, S.env.al, E.dis⟩, fun b h => .inl h, fun i es hi h => ⟨rfl, es, h⟩⟩
  have w := E.ok i x e h1 h2
  cases e with
  | val d =>
    cases x with
    | none => exact w.elim
    | some v => exact dp_ext em (show DP K (msk O1 H1) v d from w)
  | lst es =>
    obtain ⟨r, rfl, hr, ws, hw, hq⟩ := lst_val w
    exact ⟨S.sub r hr, ws, ex r _ hw, ho_ext em hq⟩
theorem dw_call {t : TA} {E0 : XK} (h : DA K n t ρ fun ds ρ1 => ds.length = np ∧ W (ds.map Ent.val) fun d _ => Φ d ρ1) : DW K n (tCall (spD K np W) [] E0 t) ρ Φ := fun O σ H E Q q =>
  h O σ H E _ fun vs ds ρ1 O1 H1 ⟨hl, hw⟩ S r => by
    show spD K np W (vs ++ []) H1 Q E0
    rw [List.append_nil]
    refine ⟨O1, ds.map Ent.val, _, (dpa_len r).trans hl, env_args S.env.al r, hw, fun v d es' O' H' k S' rr => ?_⟩
    exact q v d ρ1 O' H' k (S.trans E (stp_called S.env r S')) rr
theorem df_call {t : TA} {E0 : XK} {Ψ : PF} (h : DA K n t ρ fun ds ρ1 => ds.length = np ∧ Wf (ds.map Ent.val) fun d _ => Ψ d ρ1) : DF K n (tCall (spF K np Wf) [] E0 t) ρ Ψ := fun O σ H E Q q =>
  h O σ H E _ fun vs ds ρ1 O1 H1 ⟨hl, hw⟩ S r => by
    show spF K np Wf (vs ++ []) H1 Q E0
    rw [List.append_nil]
    refine ⟨O1, ds.map Ent.val, _, (dpa_len r).trans hl, env_args S.env.al r, hw, fun p ws d es' O' H' k S' hp no h0 hh hd => ?_⟩
    have S2 := stp_called (n := n) S.env r S'
    have mem : ∀ b, b ∈ O' ↔ b ∈ p :: O'.filter (fun b => decide (b ≠ p)) := fun b => by
      by_cases hb : b = p
      · subst hb; simp [hp]
      · simp [hb]
    have h00 : H p = none := S.none_back (fun z => fresh_notin S.env h0 (S.sub p z)) h0 E
    refine q p ws d ρ1 _ H' k (stp_mem (S.trans E S2) mem) (by simp) (fun w => ?_) h00 hh (by rw [msk_mem mem]; exact hd)
    exact S.env.al p (S.env.ownO w) h0
/-- the first argument is a name's own list, which the def may change -/
theorem env_args1 {p : Addr} {us : HO} {vs : List V} {es : Own} {ds : List PyData} (al : ∀ b ∈ O, H b ≠ none) (hp : p ∈ O) (hH : H p = some us) (hu : HoD K (msk O H) us es) (h : DPAll K (msk O H) vs ds) :
    Envs K O ((V.ref p :: vs).map some) ((Ent.lst es :: ds.map Ent.val).map some) H := by
  have E := env_args al h
  refine ⟨by simp [dpa_len h], fun i x e h1 h2 => ?_, al, fun i j r d1 d2 h1 h2 h3 h4 => ?_⟩
  · cases i with
    | zero =>
      simp at h1 h2
      subst h1; subst h2
      exact ⟨hp, us, hH, hu⟩
    | succ i => exact E.ok i x e (by simpa using h1) (by simpa using h2)
  · have a : ∀ (i : Nat) (d : Own), ((Ent.lst es :: ds.map Ent.val).map some)[i]? = some (some (.lst d)) → i = 0 := fun i d h => by
      cases i with
      | zero => rfl
      | succ i =>
        have h : ((ds.map Ent.val).map some)[i]? = some (some (.lst d)) := by simpa using h
        obtain ⟨en, z, h⟩ := map_get h
        cases z
        rw [List.getElem?_map] at h
        cases e : ds[i]? with
        | none => rw [e] at h; cases h
        | some d => rw [e] at h; cases h
    rw [a i d1 h2, a j d2 h4]
theorem own_args1 {p b : Addr} {vs : List V} {es : Own} {ds : List PyData} (w : Owns ((V.ref p :: vs).map some) ((Ent.lst es :: ds.map Ent.val).map some) b) : b = p := by
  obtain ⟨i, d, h1, h2⟩ := w
  cases i with
  | zero => simp at h1; exact h1.symm
  | succ i => exact absurd ⟨i, d, by simpa using h1, by simpa using h2⟩ (no_own_vals (vs := vs.map some) (ds := ds) (p := b))
theorem dw_callO {i : Nat} {t : TA} {E0 : XK} {ds0 : Own} (h0 : ρ[i]? = some (some (.lst ds0)))
    (h : DA K n t ρ fun ds ρ1 => ds.length + 1 = np ∧ ∃ ds1, ρ1[i]? = some (some (.lst ds1)) ∧ W (.lst ds1 :: ds.map Ent.val) fun d es' => ∀ ds2 r, es' = .lst ds2 :: r → Φ d (ρ1.set i (some (.lst ds2)))) :
    DW K n (tCall (spD K np W) [] E0 (tCons (tVar i) t)) ρ Φ := fun O σ H E Q q => by
  obtain ⟨p, us0, a0, _⟩ := env_own E h0
  refine ⟨.ref p, a0, ?_⟩
  refine h O σ H E _ fun vs ds ρ1 O1 H1 ⟨hl, ds1, h1, hw⟩ S r => ?_
  obtain ⟨p', us, a, hp, hH, hu⟩ := env_own S.env h1
  rw [a0] at a; cases a
  have E1 := S.env
  show spD K np W (V.ref p :: (vs ++ [])) H1 Q E0
  rw [List.append_nil]
  refine ⟨O1, _, _, by simp [dpa_len r]; omega, env_args1 E1.al hp hH hu r, hw, fun v d es' O' H' k S' rr => ?_⟩
  obtain ⟨_, ds2, e2⟩ := S'.pin 0 ds1 (by omega) (by simp)
  obtain ⟨en, z, e2⟩ := map_get e2
  cases z
  obtain ⟨rest, rfl⟩ : ∃ rest, es' = .lst ds2 :: rest := by
    cases es' with
    | nil => simp at e2
    | cons x r => simp at e2; exact ⟨r, by rw [e2]⟩
  have em : Ext (msk O1 H1) (msk O' H') := S'.msk (env_args1 E1.al hp hH hu r)
  have hi : i < ρ1.length := (List.getElem?_eq_some_iff.mp h1).1
  have S2 : Stp K n O1 σ ρ1 H1 O' σ (ρ1.set i (some (.lst ds2))) H' := by
    refine ⟨S'.sub, S'.new, fun b o nb h => S'.le b o (fun w => nb ?_) h, ⟨by rw [List.length_set]; exact E1.len, fun j x e g1 g2 => ?_, S'.env.al, fun j k r d1 d2 g1 g2 g3 g4 => ?_⟩, fun b ⟨j, d1, g1, g2⟩ => ?_, fun j d1 hj g2 => ⟨rfl, ?_⟩⟩
    · rw [own_args1 w]
      exact ⟨i, ds1, a0, h1⟩
    · by_cases hij : i = j
      · subst hij
        rw [List.getElem?_set_self hi] at g2
        cases g2
        rw [a0] at g1; cases g1
        exact S'.env.ok 0 _ _ (by simp) (by simp)
      · rw [List.getElem?_set_ne hij] at g2
        have w := E1.ok j x e g1 g2
        cases e with
        | val d =>
          cases x with
          | none => exact w.elim
          | some v => exact dp_ext em (show DP K (msk O1 H1) v d from w)
        | lst es =>
          obtain ⟨r2, rfl, hr, ws, hw2, hq⟩ := lst_val w
          refine ⟨S'.sub r2 hr, ws, S'.le r2 _ (fun w2 => ?_) hw2, ho_ext em hq⟩
          have e := own_args1 w2
          subst e
          exact hij (E1.dis i j r2 ds1 es a0 h1 g1 g2)
    · by_cases hij : i = j
      · subst hij
        by_cases hik : i = k
        · exact hik
        · rw [List.getElem?_set_ne hik] at g4
          rw [a0] at g1; cases g1
          exact E1.dis i k p ds1 d2 a0 h1 g3 g4
      · rw [List.getElem?_set_ne hij] at g2
        by_cases hik : i = k
        · subst hik
          rw [a0] at g3; cases g3
          exact E1.dis j i p d1 ds1 g1 g2 a0 h1
        · rw [List.getElem?_set_ne hik] at g4
          exact E1.dis j k r d1 d2 g1 g2 g3 g4
    · by_cases hij : i = j
      · subst hij
        exact .inl ⟨i, ds1, g1, h1⟩
      · rw [List.getElem?_set_ne hij] at g2
        exact .inl ⟨j, d1, g1, g2⟩
    · by_cases hij : i = j
      · subst hij
        exact ⟨ds2, List.getElem?_set_self hi⟩
      · rw [List.getElem?_set_ne hij]
        exact ⟨d1, g2⟩
  exact q v d _ O' H' (k ds2 rest rfl) (S.trans E S2) rr
end
end DL
namespace DL
open PySem L2 PySem.Spec PyProof.Rows
section
variable {K : PySem.W.Frag} {n np : Nat} {O O1 : List Addr} {σ : L2.St} {ρ ρ1 : Rho} {H H1 : Hp} {ta tb tc te : TE} {tt tu : TT} {Φ : PD} {F : DE2} {ts us : TS} {Ψ : PyData → Prop} {x y : PyData}

/-! ### operators on data -/
theorem rd_i0 {g : Int → Int → Int} {i j : Int} (k : Ψ (.int (g i j))) : RD (rI0 fun i j => .int (g i j)) K (.int i) (.int j) Ψ := fun O H vx vy al hx hy Q q => by
  cases hx; cases hy
  exact ⟨i, j, rfl, rfl, q _ _ H k (Ext.refl H) (.int _)⟩
theorem rd_b0 {g : Int → Int → Bool} {i j : Int} (k : Ψ (.bool (g i j))) : RD (rI0 fun i j => .bl (g i j)) K (.int i) (.int j) Ψ := fun O H vx vy al hx hy Q q => by
  cases hx; cases hy
  exact ⟨i, j, rfl, rfl, q _ _ H k (Ext.refl H) (.bl _)⟩
theorem rd_i {C : Int → Int → Prop} {g : Int → Int → Int} {i j : Int} (hc : C i j) (k : Ψ (.int (g i j))) : RD (rI C fun i j => .int (g i j)) K (.int i) (.int j) Ψ := fun O H vx vy al hx hy Q q => by
  cases hx; cases hy
  exact ⟨i, j, rfl, rfl, hc, q _ _ H k (Ext.refl H) (.int _)⟩
theorem ru_i {g : Int → Int} {i : Int} (k : Ψ (.int (g i))) : RU (rU fun i => .int (g i)) K (.int i) Ψ := fun O H vx al hx Q q => by
  cases hx
  exact ⟨i, rfl, q _ _ H k (Ext.refl H) (.int _)⟩
theorem rd_eq0 (hx : SeqAt.shaped x = true) (hy : SeqAt.shaped y = true) (k : Ψ (.bool (PyData.eqv x y))) : RD (rEqD K) K x y Ψ := fun O H vx vy al h1 h2 Q q =>
  ⟨x, y, dp_sh hx (dp_ext msk_le h1), dp_sh hy (dp_ext msk_le h2), hx, hy, q _ _ H k (Ext.refl H) (.bl _)⟩
theorem rd_ne0 (hx : SeqAt.shaped x = true) (hy : SeqAt.shaped y = true) (k : Ψ (.bool (!PyData.eqv x y))) : RD (rNeD K) K x y Ψ := fun O H vx vy al h1 h2 Q q =>
  ⟨x, y, dp_sh hx (dp_ext msk_le h1), dp_sh hy (dp_ext msk_le h2), hx, hy, q _ _ H k (Ext.refl H) (.bl _)⟩
theorem dpa_atI {vs : List V} {ds : List PyData} {k : Int} {d : PyData} (h : DPAll K H vs ds) (e : atI ds k = some d) : ∃ v, atI vs k = some v ∧ DP K H v d := by
  unfold atI at e ⊢
  rw [dpa_len h]
  cases q : ixN ds.length k with
  | none => rw [q] at e; cases e
  | some j =>
    rw [q] at e
    exact dpa_get h e
theorem rd_ixL {ds : List PyData} {k : Int} {d : PyData} (e : atI ds k = some d) (kk : Ψ d) : RD (rIx K) K (.list ds) (.int k) Ψ := fun O H vx vy al h1 h2 Q q => by
  cases h2
  cases h1 with
  | lst hq hd =>
    obtain ⟨v, h3, h4⟩ := dpa_atI hd e
    exact .inl ⟨_, _, k, v, rfl, rfl, msk_l hq, h3, q v d H kk (Ext.refl H) h4⟩
theorem rd_ixT {ds : List PyData} {k : Int} {d : PyData} (e : atI ds k = some d) (kk : Ψ d) : RD (rIx K) K (.tuple ds) (.int k) Ψ := fun O H vx vy al h1 h2 Q q => by
  cases h2
  cases h1 with
  | tup hq hd =>
    obtain ⟨v, h3, h4⟩ := dpa_atI hd e
    exact .inr (.inl ⟨_, _, k, v, rfl, rfl, msk_t hq, h3, q v d H kk (Ext.refl H) h4⟩)
theorem rd_ixS {z : Str} {k : Int} {c : Nat} (hz : z.length ≤ 100000) (e : atI z.cps.toList k = some c) (kk : Ψ (.str ⟨#[c]⟩)) : RD (rIx K) K (.str z) (.int k) Ψ := fun O H vx vy al h1 h2 Q q => by
  cases h2
  cases h1
  exact .inr (.inr ⟨z, k, c, rfl, rfl, Nat.le_trans hz (by decide), e, q _ _ H kk (Ext.refl H) (.str _)⟩)

/-! ### built-ins on data -/
theorem rc_int {i : Int} (k : Ψ (.int i)) : RC (fun xs H Q => (∃ i, xs = [.int i] ∧ Q (.int i) H) ∨ ∃ k, xs = [.bl k] ∧ Q (.int (if k then 1 else 0)) H) K [.int i] Ψ := fun O H vs al h Q q => by
  cases h with | cons h r => cases r; cases h; exact .inl ⟨i, rfl, q _ _ H k (Ext.refl H) (.int _)⟩
theorem rc_intB {i : Bool} (k : Ψ (.int (if i then 1 else 0))) : RC (fun xs H Q => (∃ i, xs = [.int i] ∧ Q (.int i) H) ∨ ∃ k, xs = [.bl k] ∧ Q (.int (if k then 1 else 0)) H) K [.bool i] Ψ := fun O H vs al h Q q => by
  cases h with | cons h r => cases r; cases h; exact .inr ⟨i, rfl, q _ _ H k (Ext.refl H) (.int _)⟩
theorem rc_abs {i : Int} (k : Ψ (.int (if i < 0 then -i else i))) : RC (fun xs H Q => ∃ i, xs = [.int i] ∧ Q (.int (if i < 0 then -i else i)) H) K [.int i] Ψ := fun O H vs al h Q q => by
  cases h with | cons h r => cases r; cases h; exact ⟨i, rfl, q _ _ H k (Ext.refl H) (.int _)⟩
theorem rc_max {i j : Int} (k : Ψ (.int (if j > i then j else i))) : RC (fun xs H Q => ∃ i j, xs = [.int i, .int j] ∧ Q (.int (if j > i then j else i)) H) K [.int i, .int j] Ψ := fun O H vs al h Q q => by
  cases h with | cons h r => cases r with | cons h2 r => cases r; cases h; cases h2; exact ⟨i, j, rfl, q _ _ H k (Ext.refl H) (.int _)⟩
theorem rc_min {i j : Int} (k : Ψ (.int (if j < i then j else i))) : RC (fun xs H Q => ∃ i j, xs = [.int i, .int j] ∧ Q (.int (if j < i then j else i)) H) K [.int i, .int j] Ψ := fun O H vs al h Q q => by
  cases h with | cons h r => cases r with | cons h2 r => cases r; cases h; cases h2; exact ⟨i, j, rfl, q _ _ H k (Ext.refl H) (.int _)⟩
theorem rc_str {i : Int} (hi : i.natAbs.log2 < 1920) (k : Ψ (.str (toString i))) : RC (fun xs H Q => ∃ i, xs = [.int i] ∧ i.natAbs.log2 < 1920 ∧ Q (.str (toString i)) H) K [.int i] Ψ := fun O H vs al h Q q => by
  cases h with | cons h r => cases r; cases h; exact ⟨i, rfl, hi, q _ _ H k (Ext.refl H) (.str _)⟩
theorem rc_gcd {i j : Int} (k : Ψ (.int ((Nat.gcd i.natAbs j.natAbs : Nat) : Int))) : RC rGcd K [.int i, .int j] Ψ := fun O H vs al h Q q => by
  cases h with | cons h r => cases r with | cons h2 r => cases r; cases h; cases h2; exact ⟨i, j, rfl, q _ _ H k (Ext.refl H) (.int _)⟩
def rLen (K : PySem.W.Frag) : List V → Hp → VK → Prop := fun xs H Q => ∃ x n, xs = [x] ∧ LenV K x H n ∧ Q (.int n) H
theorem call_lenA {X : Cx} : CallR X (.builtin "len") (rLen X.K) := call_len
theorem rc_lenL {ds : List PyData} (k : Ψ (.int ds.length)) : RC (rLen K) K [.list ds] Ψ := fun O H vs al h Q q => by
  cases h with
  | cons h r =>
    cases r
    cases h with
    | lst hq hd => exact ⟨_, _, rfl, .inl ⟨_, msk_l hq, (dpa_len hd).symm⟩, q _ _ H k (Ext.refl H) (.int _)⟩
theorem rc_lenT {ds : List PyData} (k : Ψ (.int ds.length)) : RC (rLen K) K [.tuple ds] Ψ := fun O H vs al h Q q => by
  cases h with
  | cons h r =>
    cases r
    cases h with
    | tup hq hd => exact ⟨_, _, rfl, .inr ⟨_, msk_t hq, (dpa_len hd).symm⟩, q _ _ H k (Ext.refl H) (.int _)⟩
theorem rc_lenS {z : Str} (hz : z.length ≤ 100000) (k : Ψ (.int z.length)) : RC (rLen K) K [.str z] Ψ := fun O H vs al h Q q => by
  cases h with
  | cons h r =>
    cases r
    cases h
    exact ⟨_, _, rfl, ⟨Nat.le_trans hz (by decide), rfl⟩, q _ _ H k (Ext.refl H) (.int _)⟩
/-- math.comb -/
def rComb : List V → Hp → VK → Prop := fun vs H Q => ∃ a b : Int, vs = [.int a, .int b] ∧ (0 ≤ a ∧ 0 ≤ b ∧ a ≤ 18000) ∧ Q (.int (PySem.W.mcComb a b)) H
theorem cr_comb {X : Cx} : CallR X (.builtin "math.comb") rComb := by
  intro pins s σ H vs us Q I r h
  obtain ⟨a, b, rfl, ⟨h1, h2, h3⟩, q⟩ := h
  obtain ⟨t, u, rfl⟩ := Vals.int2 r
  exact PySem.W.mc_comb h1 h2 (by omega) (.inr h3) fun _ => ⟨.int _, H, I.tok _, ⟨_, rfl⟩, q⟩
theorem rc_comb {i j : Int} (h : 0 ≤ i ∧ 0 ≤ j ∧ i ≤ 18000) (k : Ψ (.int (PySem.W.mcComb i j))) : RC rComb K [.int i, .int j] Ψ := fun O H vs al hh Q q => by
  cases hh with | cons h1 r => cases r with | cons h2 r => cases r; cases h1; cases h2; exact ⟨i, j, rfl, h, q _ _ H k (Ext.refl H) (.int _)⟩

/-! ### isinstance -/
def tyN : PyData → String
  | .none => "NoneType"
  | .bool _ => "bool"
  | .int _ => "int"
  | .str _ => "str"
  | .list _ => "list"
  | .tuple _ => "tuple"
  | .dict _ => "dict"
theorem ty_of {v : V} {d : PyData} {O : List Addr} (h : DP K (msk O H) v d) : TyX K H v (.type (tyN d)) := by
  cases h with
  | non => exact .base .non
  | bl b => exact .base (.bl b)
  | int i => exact .base (.int i)
  | str s => exact .base (.str s)
  | lst hq _ =>
    rcases msk_l hq with (h | ⟨o, h⟩) | ⟨o, its, n, h, c, _⟩
    · exact .base (.lst h)
    · exact .base (.frz h)
    · exact .kList h c
  | tup hq _ =>
    rcases msk_t hq with (h | ⟨o, h⟩) | ⟨o, its, n, h, c, _⟩
    · exact .base (.tup h)
    · exact .fTuple h
    · exact .kTuple h c
  | dct hq _ =>
    rcases msk_le.rd hq with h | ⟨o, h⟩
    · exact .base (.dK h)
    · exact .fDict h
def isT (T : String) (d : PyData) : Option Bool := kitB (tyN d) T
theorem dw_isi {T : String} (h : DW K n te ρ fun d ρ1 => ∃ b, isT T d = some b ∧ Φ (.bool b) ρ1) : DW K n (tCB (rIsi K) (tCons te (tCons (tC (.ty T)) tNil))) ρ Φ := fun O σ H E Q q =>
  h O σ H E _ fun v d ρ1 O1 H1 ⟨b, hb, k⟩ S r => ⟨v, .ty T, _, _, b, rfl, .ty T, ty_of r, kit_ty hb, q _ _ ρ1 O1 H1 k S (.bl b)⟩

/-! ### f-strings -/
theorem dw_fmtI (h : DW K n te ρ fun d ρ1 => ∃ i, d = .int i ∧ i.natAbs.log2 < 1920 ∧ Φ (.str (toString i)) ρ1) : DW K n (tFmt te) ρ Φ := fun O σ H E Q q =>
  h O σ H E _ fun v d ρ1 O1 H1 ⟨i, e, hi, k⟩ S r => by
    subst e
    exact .inr ⟨i, dp_int r, hi, q _ _ ρ1 O1 H1 k S (.str _)⟩
def DJ (K : PySem.W.Frag) (n : Nat) (ts : List TE) (acc : Str) (ρ : Rho) (Ψ : Str → Rho → Prop) : Prop :=
  ∀ O σ H, Envs K O σ ρ H → ∀ Q : Str → Hp → Prop, (∀ z ρ' O' H', Ψ z ρ' → Stp K n O σ ρ H O' σ ρ' H' → Q z H') → tJs ts acc σ H Q
theorem dj_nil {acc : Str} {Ψ : Str → Rho → Prop} (k : Ψ acc ρ) : DJ K n [] acc ρ Ψ := fun O σ H E Q q => q acc ρ O H k (Stp.refl E)
theorem dj_cons {t : TE} {ts : List TE} {acc : Str} {Ψ : Str → Rho → Prop} (h : DW K n t ρ fun d ρ1 => ∃ z, d = .str z ∧ (acc ++ z).length ≤ 100000 ∧ DJ K n ts (acc ++ z) ρ1 Ψ) : DJ K n (t :: ts) acc ρ Ψ := fun O σ H E Q q =>
  h O σ H E _ fun v d ρ1 O1 H1 ⟨z, e, hz, k⟩ S r => by
    subst e
    exact ⟨z, dp_str r, Nat.le_trans hz (by decide), k O1 σ H1 S.env Q fun z2 ρ2 O2 H2 k2 S2 => q z2 ρ2 O2 H2 k2 (S.trans E S2)⟩
def tJoin (ts : List TE) : TE := fun σ H Q => tJs ts Str.empty σ H fun out H1 => Q (.str out) H1
theorem pe_joinedA {X : Cx} {v1 v2 : Expr} {rest : List Expr} {ts : List TE} {pos : Pos} (h : PJ X (v1 :: v2 :: rest) ts) : PE X (.JoinedStr (v1 :: v2 :: rest) pos) (tJoin ts) := pe_joined h
theorem dw_joined {ts : List TE} (h : DJ K n ts Str.empty ρ fun z ρ1 => Φ (.str z) ρ1) : DW K n (tJoin ts) ρ Φ := fun O σ H E Q q => h O σ H E _ fun z ρ1 O1 H1 k S => q _ _ ρ1 O1 H1 k S (.str z)
def rCatS : R2 := fun x y H Q => ∃ i j, x = .str i ∧ y = .str j ∧ i.length + j.length ≤ sizeLine ∧ Q (.str (i ++ j)) H
theorem op_catS {X : Cx} : OpR X (binaryOp .Add) rCatS := op_add_str
theorem rd_catS {i j : Str} (hl : i.length + j.length ≤ 100000) (k : Ψ (.str (i ++ j))) : RD rCatS K (.str i) (.str j) Ψ := fun O H vx vy al h1 h2 Q q => by
  cases h1; cases h2
  exact ⟨i, j, rfl, rfl, Nat.le_trans hl (by decide), q _ _ H k (Ext.refl H) (.str _)⟩

/-! ### a name's own list, read -/
theorem dw_ixO {i : Nat} {ds0 : List PyData} (h0 : ρ[i]? = some (some (.lst (.l ds0)))) (h : DW K n tb ρ fun x ρ1 => ∃ k ds d, x = .int k ∧ ρ1[i]? = some (some (.lst (.l ds))) ∧ atI ds k = some d ∧ Φ d ρ1) : DW K n (tOp (rIx K) (tVar i) tb) ρ Φ := fun O σ H E Q q => by
  obtain ⟨p, us0, a0, _⟩ := env_lst E h0
  refine ⟨.ref p, a0, ?_⟩
  refine h O σ H E _ fun v x ρ1 O1 H1 ⟨k, ds, d, e, h1, h2, hk⟩ S r => ?_
  subst e
  obtain ⟨p', us, a, hp, hH, hu⟩ := env_lst S.env h1
  rw [a0] at a; cases a
  obtain ⟨v2, h3, h4⟩ := dpa_atI hu h2
  exact .inl ⟨p, us, k, v2, rfl, dp_int r, SqL.of hH, h3, q v2 d ρ1 O1 H1 hk S h4⟩
theorem dw_lenO {i : Nat} {ds : List PyData} (h0 : ρ[i]? = some (some (.lst (.l ds)))) (k : Φ (.int ds.length) ρ) : DW K n (tCB (rLen K) (tCons (tVar i) tNil)) ρ Φ := fun O σ H E Q q => by
  obtain ⟨p, us, a, hp, hH, hu⟩ := env_lst E h0
  exact ⟨.ref p, a, .ref p, _, rfl, .inl ⟨us, SqL.of hH, (dpa_len hu).symm⟩, q _ _ ρ O H k (Stp.refl E) (.int _)⟩
/-- plain data without a list in it does not lean on a list -/
def noLst : PyData → Bool
  | .list _ => false
  | .dict _ => false
  | .tuple ds => noLstAll ds
  | _ => true
where noLstAll : List PyData → Bool
  | [] => true
  | d :: r => noLst d && noLstAll r
mutual
theorem dp_noLst {p : Addr} {vs0 : List V} (hp : H p = some (.lst vs0)) : ∀ {v : V} {d : PyData}, noLst d = true → DP K (msk O H) v d → DP K (msk (p :: O) H) v d
  | _, _, _, .non => .non
  | _, _, _, .bl b => .bl b
  | _, _, _, .int i => .int i
  | _, _, _, .str x => .str x
  | _, _, h, .lst _ _ => by simp [noLst] at h
  | _, _, h, .dct _ _ => by simp [noLst] at h
  | _, _, h, .tup (a := a) hq hd => by
    refine .tup (xs := _) ?_ (dpa_noLst hp h hd)
    have ne : ∀ u : HO, msk O H a = some u → (∀ xs, u ≠ .lst xs) → msk (p :: O) H a = some u := fun u hu hne => by
      obtain ⟨h1, h2⟩ := msk_some hu
      refine msk_of (fun hm => ?_) h2
      rcases List.mem_cons.mp hm with e | e
      · rw [e, hp] at h2
        exact hne vs0 (Option.some.inj h2).symm
      · exact h1 e
    rcases hq with (h1 | ⟨o, h1⟩) | h1
    · exact .inl (.inl (ne _ h1 (fun xs z => nomatch z)))
    · exact .inl (.inr ⟨o, ne _ h1 (fun xs z => nomatch z)⟩)
    · exact .inr h1
theorem dpa_noLst {p : Addr} {vs0 : List V} (hp : H p = some (.lst vs0)) : ∀ {vs : List V} {ds : List PyData}, noLst.noLstAll ds = true → DPAll K (msk O H) vs ds → DPAll K (msk (p :: O) H) vs ds
  | _, _, _, .nil => .nil
  | _, _, h, .cons a b => by
    have h : (noLst _ && noLst.noLstAll _) = true := h
    rw [Bool.and_eq_true] at h
    exact .cons (dp_noLst hp h.1 a) (dpa_noLst hp h.2 b)
end
/-- the first argument is a name's own list, which the def only reads -/
theorem dw_callB {W : SpW} {i : Nat} {t : TA} {E0 : XK} {ds0 : List PyData} (h0 : ρ[i]? = some (some (.lst (.l ds0))))
    (h : DA K n t ρ fun ds ρ1 => ds.length + 1 = np ∧ ∃ ds1, ρ1[i]? = some (some (.lst (.l ds1))) ∧ W ((.list ds1 :: ds).map Ent.val) fun d _ => noLst d = true ∧ Φ d ρ1) :
    DW K n (tCall (spD K np W) [] E0 (tCons (tVar i) t)) ρ Φ := fun O σ H E Q q => by
  obtain ⟨p, us0, a0, _⟩ := env_lst E h0
  refine ⟨.ref p, a0, ?_⟩
  refine h O σ H E _ fun vs ds ρ1 O1 H1 ⟨hl, ds1, h1, hw⟩ S r => ?_
  obtain ⟨p', us, a, hp, hH, hu⟩ := env_lst S.env h1
  rw [a0] at a; cases a
  have E1 := S.env
  have le1 : Ext (msk O1 H1) (msk (O1.filter fun b => decide (b ≠ p)) H1) := fun b o hb => by
    obtain ⟨nb, hb⟩ := msk_some hb
    exact msk_of (fun z => nb (List.mem_filter.mp z).1) hb
  have npf : p ∉ O1.filter fun b => decide (b ≠ p) := by simp
  have al1 : ∀ b ∈ O1.filter (fun b => decide (b ≠ p)), H1 b ≠ none := fun b hb => E1.al b (List.mem_filter.mp hb).1
  have args : DPAll K (msk (O1.filter fun b => decide (b ≠ p)) H1) (.ref p :: vs) (.list ds1 :: ds) := .cons (.lst (SqL.of (msk_of npf hH)) (dpa_ext le1 hu)) (dpa_ext le1 r)
  show spD K np W (V.ref p :: (vs ++ [])) H1 Q E0
  rw [List.append_nil]
  refine ⟨_, _, _, by simp [dpa_len r]; omega, env_args al1 args, hw, fun v d es' O' H' ⟨hd, k⟩ S' rr => ?_⟩
  have ex : Ext H1 H' := fun b o h => S'.le b o no_own_vals h
  have em : Ext (msk O1 H1) (msk (p :: O') H') := fun b o hb => by
    obtain ⟨nb, hb⟩ := msk_some hb
    refine msk_of (fun hm => ?_) (ex b o hb)
    rcases List.mem_cons.mp hm with e | e
    · exact nb (by rw [e]; exact hp)
    · rcases S'.new b e with z | z
      · exact nb (List.mem_filter.mp z).1
      · rw [z] at hb; cases hb
  have S2 : Stp K n O1 σ ρ1 H1 (p :: O') σ ρ1 H' := by
    refine ⟨fun b hb => ?_, fun b hb => ?_, fun b o _ h => ex b o h, ⟨E1.len, fun j x e g1 g2 => ?_, fun b hb => ?_, E1.dis⟩, fun b h => .inl h, fun j es _ h => ⟨rfl, es, h⟩⟩
    · by_cases e : b = p
      · rw [e]; exact List.mem_cons_self
      · exact List.mem_cons_of_mem _ (S'.sub b (List.mem_filter.mpr ⟨hb, decide_eq_true e⟩))
    · rcases List.mem_cons.mp hb with e | e
      · rw [e]; exact .inl hp
      · rcases S'.new b e with z | z
        · exact .inl (List.mem_filter.mp z).1
        · exact .inr z
    · have w := E1.ok j x e g1 g2
      cases e with
      | val d =>
        cases x with
        | none => exact w.elim
        | some v => exact dp_ext em (show DP K (msk O1 H1) v d from w)
      | lst es =>
        obtain ⟨r2, rfl, hr, ws, hw2, hq⟩ := lst_val w
        refine ⟨?_, ws, ex r2 _ hw2, ho_ext em hq⟩
        by_cases e : r2 = p
        · rw [e]; exact List.mem_cons_self
        · exact List.mem_cons_of_mem _ (S'.sub r2 (List.mem_filter.mpr ⟨hr, decide_eq_true e⟩))
    · rcases List.mem_cons.mp hb with e | e
      · rw [e, ex p _ hH]; exact fun z => nomatch z
      · exact S'.env.al b e
  exact q v d ρ1 (p :: O') H' k (S.trans E S2) (dp_noLst (ex p _ hH) hd rr)
end
end DL
namespace DL
open PySem L2 PySem.Spec PyProof.Rows
/-! ### operators of several kinds -/
def rAddA (K : PySem.W.Frag) : R2 := fun x y H Q => (rI0 fun i j => .int (i + j)) x y H Q ∨ (rCatS x y H Q ∨ rCatT K x y H Q)
theorem opA_add {X : Cx} : OpR X (binaryOp .Add) (rAddA X.K) := op_add.or (op_catS.or op_catT)
def CDivA (_ j : Int) : Prop := j ≠ 0 ∧ j.natAbs.log2 < 9000
theorem opA_fdiv {X : Cx} : OpR X (binaryOp .FloorDiv) (rI CDivA fun i j => .int (i.fdiv j)) := opI fun _ _ _ _ _ _ _ hc q => floordiv_int hc.1 q (.inl (PyProof.noPylong_of_log2 hc.2))
def rEqA (K : PySem.W.Frag) : R2 := fun x y H Q => rEqD K x y H Q ∨ rEq x y H Q
def rNeA (K : PySem.W.Frag) : R2 := fun x y H Q => rNeD K x y H Q ∨ rNe x y H Q
theorem opA_eq {X : Cx} (hu : X.A.units + 64 < cLine) : OpR X (compareOp .Eq) (rEqA X.K) := (op_eqD hu).or op_eq
theorem opA_ne {X : Cx} (hu : X.A.units + 64 < cLine) : OpR X (compareOp .NotEq) (rNeA X.K) := (op_neD hu).or op_ne
def CMulA (i j : Int) : Prop := CMulW i j ∨ CMul i j
def rMulA (K : PySem.W.Frag) : R2 := rI CMulA fun i j => .int (i * j)
theorem opA_mul {X : Cx} : OpR X (binaryOp .Mult) (rMulA X.K) := opI fun _ _ _ _ _ _ _ hc q => mul_int q (hc.elim CMulW.ok CMul.ok)
section
variable {K : PySem.W.Frag} {n np : Nat} {O O1 : List Addr} {σ : L2.St} {ρ ρ1 : Rho} {H H1 : Hp} {ta tb tc te : TE} {tt tu : TT} {Φ : PD} {F : DE2} {ts us : TS} {Ψ : PyData → Prop} {x y : PyData}
theorem rd_eq (hx : SeqAt.shaped x = true) (hy : SeqAt.shaped y = true) (k : Ψ (.bool (PyData.eqv x y))) : RD (rEqA K) K x y Ψ := fun O H vx vy al h1 h2 Q q => .inl (rd_eq0 hx hy k O H vx vy al h1 h2 Q q)
theorem rd_ne (hx : SeqAt.shaped x = true) (hy : SeqAt.shaped y = true) (k : Ψ (.bool (!PyData.eqv x y))) : RD (rNeA K) K x y Ψ := fun O H vx vy al h1 h2 Q q => .inl (rd_ne0 hx hy k O H vx vy al h1 h2 Q q)
theorem rd_eqT {x y : Str} (k : Ψ (.bool (decide (x = y)))) : RD (rEqA K) K (.str x) (.str y) Ψ := fun O H vx vy al h1 h2 Q q => by
  cases h1; cases h2
  refine .inr ⟨rfl, ?_⟩
  have e : decide (V.str x = V.str y) = decide (x = y) := by rw [Bool.eq_iff_iff]; simp
  rw [e]
  exact q _ _ H k (Ext.refl H) (.bl _)
theorem rd_neT {x y : Str} (k : Ψ (.bool (!decide (x = y)))) : RD (rNeA K) K (.str x) (.str y) Ψ := fun O H vx vy al h1 h2 Q q => by
  cases h1; cases h2
  refine .inr ⟨rfl, ?_⟩
  have e : decide (V.str x = V.str y) = decide (x = y) := by rw [Bool.eq_iff_iff]; simp
  rw [e]
  exact q _ _ H k (Ext.refl H) (.bl _)
theorem rd_addI {i j : Int} (k : Ψ (.int (i + j))) : RD (rAddA K) K (.int i) (.int j) Ψ := fun O H vx vy al hx hy Q q => .inl (rd_i0 (g := fun i j => i + j) k O H vx vy al hx hy Q q)
theorem rd_addS {i j : Str} (hl : i.length + j.length ≤ 100000) (k : Ψ (.str (i ++ j))) : RD (rAddA K) K (.str i) (.str j) Ψ := fun O H vx vy al hx hy Q q => .inr (.inl (rd_catS hl k O H vx vy al hx hy Q q))
theorem rd_mulS {i j : Int} (h : CMul i j) (k : Ψ (.int (i * j))) : RD (rMulA K) K (.int i) (.int j) Ψ := fun O H vx vy al hx hy Q q => rd_i (g := fun i j => i * j) (C := CMulA) (.inr h) k O H vx vy al hx hy Q q
theorem rd_mulI {i j : Int} (h : CMulW i j) (k : Ψ (.int (i * j))) : RD (rMulA K) K (.int i) (.int j) Ψ := fun O H vx vy al hx hy Q q => rd_i (g := fun i j => i * j) (C := CMulA) (.inl h) k O H vx vy al hx hy Q q
end
/-! ### the text's defs -/
section
variable (P : Program) (w : World) (K : PySem.W.Frag) (mg : Str → Option Value) (base : Heap)
/-- a def that stands at the module's name x -/
structure TD (x : Str) (st : Stmt) (ps : List Str) : Type where
  f : Addr
  fd : FuncData
  F : Fun K x x st f fd
  m : mg x = some (.ref f)
  b : Binds K fd ps []
structure Cal (k : Nat) (x : Str) (ps : List Str) (sp : Sp) : Type where
  f : Addr
  fd : FuncData
  m : mg x = some (.ref f)
  kp : PySem.W.keepIn K (.ref f) = true
  b : Binds K fd ps []
  ok : FnOk P w K mg base CX0 k f fd ps sp
end
section
variable {P : Program} {w : World} {K : PySem.W.Frag} {mg : Str → Option Value} {base : Heap}
def TD.cal {x : Str} {st : Stmt} {ps : List Str} {k : Nat} {sp : Sp} (D : TD K mg x st ps) (h : FnOk P w K mg base CX0 k D.f D.fd ps sp) : Cal P w K mg base k x ps sp := ⟨D.f, D.fd, D.m, D.F.kp, D.b, h⟩
end
/-- a ratio as data; an own promise's form for plain arguments -/
abbrev rat (p : Int × Int) : PyData := .tuple [.int p.1, .int p.2]
end DL
namespace DL
open PySem L2 PySem.Spec PyProof.Rows
theorem kit_ii : kitB "int" "int" = some true := by decide +kernel
theorem kit_bi : kitB "bool" "int" = some true := by decide +kernel
theorem kit_ni : kitB "NoneType" "int" = some false := by decide +kernel
theorem kit_si : kitB "str" "int" = some false := by decide +kernel
theorem kit_li : kitB "list" "int" = some false := by decide +kernel
theorem kit_ti : kitB "tuple" "int" = some false := by decide +kernel
theorem kit_ib : kitB "int" "bool" = some false := by decide +kernel
theorem kit_bb : kitB "bool" "bool" = some true := by decide +kernel
theorem kit_nb : kitB "NoneType" "bool" = some false := by decide +kernel
theorem kit_sb : kitB "str" "bool" = some false := by decide +kernel
theorem kit_lb : kitB "list" "bool" = some false := by decide +kernel
theorem kit_tb : kitB "tuple" "bool" = some false := by decide +kernel
theorem kit_it : kitB "int" "tuple" = some false := by decide +kernel
theorem kit_bt : kitB "bool" "tuple" = some false := by decide +kernel
theorem kit_nt : kitB "NoneType" "tuple" = some false := by decide +kernel
theorem kit_st : kitB "str" "tuple" = some false := by decide +kernel
theorem kit_lt : kitB "list" "tuple" = some false := by decide +kernel
theorem kit_tt : kitB "tuple" "tuple" = some true := by decide +kernel
def isIntD : PyData → Bool
  | .int _ => true
  | _ => false
def isBoolD : PyData → Bool
  | .bool _ => true
  | _ => false
def isTupD : PyData → Bool
  | .tuple _ => true
  | _ => false
/-- plain: no dict at its top -/
def Pl (d : PyData) : Prop := match d with
  | .dict _ => False
  | _ => True
theorem isT_int {d : PyData} (h : Pl d) : isT "int" d = some (isIntD d || isBoolD d) := by
  cases d with
  | dict x => exact h.elim
  | int i => exact kit_ii
  | bool i => exact kit_bi
  | none => exact kit_ni
  | str i => exact kit_si
  | list i => exact kit_li
  | tuple i => exact kit_ti
theorem isT_bool {d : PyData} (h : Pl d) : isT "bool" d = some (isBoolD d) := by
  cases d with
  | dict x => exact h.elim
  | int i => exact kit_ib
  | bool i => exact kit_bb
  | none => exact kit_nb
  | str i => exact kit_sb
  | list i => exact kit_lb
  | tuple i => exact kit_tb
theorem isT_tuple {d : PyData} (h : Pl d) : isT "tuple" d = some (isTupD d) := by
  cases d with
  | dict x => exact h.elim
  | int i => exact kit_it
  | bool i => exact kit_bt
  | none => exact kit_nt
  | str i => exact kit_st
  | list i => exact kit_lt
  | tuple i => exact kit_tt
end DL
namespace DL
open PySem L2 PySem.Spec PyProof.Rows
section
variable {K : PySem.W.Frag} {n : Nat} {ρ : Rho} {te : TE} {tt : TT} {Φ : PD} {F : DE2} {ts us : TS}
theorem dt_bool {Ψ : Bool → Rho → Prop} (b0 : Bool) (h : DT K n tt ρ fun b ρ' => b = b0 ∧ ρ' = ρ) (k : Ψ b0 ρ) : DT K n tt ρ Ψ := fun O σ H E Q q =>
  h O σ H E Q fun b ρ' O' H' ⟨e1, e2⟩ S => by subst e1; subst e2; exact q _ _ O' H' k S
theorem dw_val {d0 : PyData} (h : DW K n te ρ fun d ρ' => d = d0 ∧ ρ' = ρ) (k : Φ d0 ρ) : DW K n te ρ Φ := fun O σ H E Q q =>
  h O σ H E Q fun v d ρ' O' H' ⟨e1, e2⟩ S r => by subst e1; subst e2; exact q _ _ _ O' H' k S r
theorem ds_cut (M : Rho → Prop) (h : DSx K n ts ρ { F with nx := M }) (k : ∀ ρ', M ρ' → F.nx ρ') : DSx K n ts ρ F := fun O σ H E D h1 h2 h3 h4 h5 =>
  h O σ H E D (fun O' σ' ρ' H' m S => h1 O' σ' ρ' H' (k ρ' m) S) h2 h3 h4 h5
end
end DL
namespace DL
open PySem L2 PySem.Spec PyProof.Rows
section
variable {K : PySem.W.Frag} {n : Nat} {ρ : Rho} {Φ : PD}
theorem dw_lst {t : TA} (h : DA K n t ρ fun xs ρ1 => xs.length ≤ 100000 ∧ Φ (.list xs) ρ1) : DW K n (tLst t) ρ Φ := dw_fresh (df_lst h)
end
theorem noLst_val {ρ : Rho} {i : Nat} {d : PyData} (h : ρ[i]? = some (some (.val d))) : NoLst ρ i := fun ds z => by rw [h] at z; cases z
theorem noLst_none {ρ : Rho} {i : Nat} (h : ρ[i]? = some none) : NoLst ρ i := fun ds z => by rw [h] at z; cases z
end DL
namespace DL
open PySem L2 PySem.Spec PyProof.Rows
section
variable {K : PySem.W.Frag} {n : Nat} {ρ : Rho} {te : TE} {Φ : PD} {Ψ : PyData → Prop} {x : PyData}
theorem dw_mid (M : PyData → Prop) (h : DW K n te ρ fun d ρ' => M d ∧ ρ' = ρ) (k : ∀ d, M d → Φ d ρ) : DW K n te ρ Φ := fun O σ H E Q q =>
  h O σ H E Q fun v d ρ' O' H' ⟨m, e⟩ S r => by subst e; exact q v d _ O' H' (k d m) S r
theorem rd_neS (hx : SeqAt.shaped x = true) (he : PyData.eqv x x = true) (k : Ψ (.bool false)) : RD (rNeA K) K x x Ψ := rd_ne hx hx (by rw [he]; exact k)
theorem rd_eqS (hx : SeqAt.shaped x = true) (he : PyData.eqv x x = true) (k : Ψ (.bool true)) : RD (rEqA K) K x x Ψ := rd_eq hx hx (by rw [he]; exact k)
theorem eqv_rat (p : Int × Int) : PyData.eqv (rat p) (rat p) = true := by
  show (p.1 == p.1 && (p.2 == p.2 && true)) = true
  simp
end
end DL
namespace DL
open PySem L2 PySem.Spec PyProof.Rows
/-! ### sum of a tuple -/
def iv : Value → Int
  | .int n _ => n
  | _ => 0
theorem ints_get : ∀ {its : List Value} {ns : List Int} {i : Nat} {v : Value}, IntsAre its ns → its[i]? = some v → ∃ t, v = .int (ns.getD i 0) t
  | _, _, i, v, .nil, h => by simp at h
  | _, _, 0, v, .cons n t r, h => by simp at h; exact ⟨t, by rw [← h]; rfl⟩
  | _, _, i + 1, v, .cons n t r, h => by
    obtain ⟨t', e⟩ := ints_get (i := i) r (by simpa using h)
    exact ⟨t', by rw [e]; rfl⟩
theorem ints_len : ∀ {its : List Value} {ns : List Int}, IntsAre its ns → its.length = ns.length
  | _, _, .nil => rfl
  | _, _, .cons _ _ r => congrArg (· + 1) (ints_len r)
theorem take_succ_sum (ns : List Int) (i : Nat) (h : i < ns.length) : (ns.take (i + 1)).sum = (ns.take i).sum + ns.getD i 0 := by
  induction ns generalizing i with
  | nil => simp at h
  | cons x r ih =>
    cases i with
    | zero => simp
    | succ j => simp only [List.take_succ_cons, List.sum_cons]; rw [ih j (by simpa using h)]; simp [Int.add_assoc]
theorem preSum_take (ns : List Int) : ∀ m, m ≤ ns.length → preSum (fun i => ns.getD i 0) m = (ns.take m).sum
  | 0, _ => rfl
  | m + 1, h => by
    rw [take_succ_sum ns m (by omega), ← preSum_take ns m (by omega)]
    rfl
theorem sumT_raw {prog : Program} {w : World} {A : Around} {E : Value → Shared → Prop} {s : Shared} {t : Addr} {its : List Value} {ns : List Int} {Q : Value → Shared → Prop}
    (hh : A.handled = none) (ht : t < s.heap.objs.size) (hl : IsTup s.heap t its.toArray) (hi : IntsAre its ns)
    (h : ∀ h' tk t', (∀ b o, s.heap.get? b = some o → h'.get? b = some o) → Q (.int ns.sum t') { s with heap := h', toks := tk }) :
    wpAny (model prog w) A (call (.builtin "sum") [.ref t]) Q E s := by
  refine call_sum_walkG (wpAny_pyIter_tuple hl ?_)
  have ne : t ≠ s.heap.objs.size := Nat.ne_of_lt ht
  refine ⟨_, [s.heap.objs.size, t], [s.heap.objs.size], its.toArray.size, _, _, fun i => ns.getD i 0, rfl, Walks.tuple (A := A.in1) hh s.heap.objs.size t ne its.toArray, ?_, ?_, ?_, ?_⟩
  · refine ⟨⟨⟨.type "tuple_iterator", none, .fields #[.ref t, .int 0 0], #[]⟩, by simp [Heap.push, Heap.get?], rfl, rfl⟩, ?_⟩
    obtain ⟨o, h1, h2⟩ := hl
    exact ⟨o, Heap.get?_push_of_some _ h1, h2⟩
  · intro b hb
    show b < (s.heap.objs.push _).size
    rw [Array.size_push]
    have hb : b = s.heap.objs.size ∨ b = t := by simpa using hb
    rcases hb with hb | hb
    · rw [hb]; exact Nat.lt_succ_self _
    · rw [hb]; exact Nat.lt_succ_of_lt ht
  · intro i v hv
    exact ints_get hi (by simpa using hv)
  · intro h' tk t' hk
    have e : preSum (fun i => ns.getD i 0) its.toArray.size = ns.sum := by
      have hs : its.toArray.size = ns.length := by simpa using ints_len hi
      rw [hs, preSum_take ns ns.length (Nat.le_refl _), List.take_length]
    rw [e]
    refine h h' tk t' fun b o q => hk b o ?_ (Heap.get?_push_of_some _ q)
    intro hb
    simp at hb
    subst hb
    unfold Heap.get? at q
    simp at q

def rSumT (K : PySem.W.Frag) : List V → Hp → VK → Prop := fun vs H Q => ∃ (a : Addr) (ns : List Int), vs = [V.ref a] ∧ SqT K H a (ns.map V.int) ∧ Q (.int ns.sum) H
theorem cr_sumT {X : Cx} (hc : X.calm = true) : CallR X (.builtin "sum") (rSumT X.K) := by
  intro pins s σ H vs us Q I r h
  obtain ⟨a, ns, rfl, hs, q⟩ := h
  obtain ⟨its, rv, hl, _⟩ := I.tuple hs
  rw [Vals.ref1 r]
  have ht : a < s.heap.objs.size := by
    obtain ⟨o, h1, _⟩ := hl
    unfold Heap.get? at h1
    refine Nat.lt_of_not_le fun hle => ?_
    have e : s.heap.objs[a]? = none := by simp; omega
    rw [e] at h1
    cases h1
  exact sumT_raw (I.ok.hd hc) ht hl (Vals.ints rv) fun h' tk t' hk => ⟨.int ns.sum, H, I.kept hk, ⟨t', rfl⟩, q⟩
def rReprB : List V → Hp → VK → Prop := fun vs H Q => ∃ b : Bool, vs = [.bl b] ∧ Q (.str (if b = true then Str.ofString "True" else Str.ofString "False")) H
theorem cr_reprB {X : Cx} : CallR X (.builtin "repr") rReprB := by
  intro pins s σ H vs us Q I r h
  obtain ⟨b, rfl, q⟩ := h
  obtain ⟨u, rfl, hu⟩ : ∃ u, us = [u] ∧ RelV (.bl b) u := by
    cases r with
    | cons a t => cases t; exact ⟨_, rfl, a⟩
  cases hu
  exact PySem.P.repr_of_bool ⟨.str _, H, I.tok _, ⟨_, rfl⟩, q⟩
/-! ### the sign times -/
def rMulS : R2 := fun x y H Q => ∃ (z : Str) (k : Int), x = .str z ∧ y = .int k ∧ MulOk z k ∧ Q (.str (Txt.mul z k)) H
theorem op_mulS {X : Cx} : OpR X (binaryOp .Mult) rMulS := by
  intro pins s σ H x y v u Q I rx ry h
  obtain ⟨z, k, rfl, rfl, hm, q⟩ := h
  obtain ⟨t, rfl⟩ := rx
  obtain ⟨t2, rfl⟩ := ry
  exact SB.mul hm fun t' n => ⟨.str _, H, I.tok _, ⟨_, rfl⟩, q⟩
theorem tuple_mul1 (l : Addr) (items : Array Value) (n : Nat) (dd : Option Addr) (sl : Array (Option Value)) (u : Tok) :
    Meets (Builtin.«tuple.__mul__» { pos := [Value.ref l, Value.int 1 u] }) fun x_1 R s =>
      s.heap.get? l = some { cls := Value.type "tuple", dict := dd, data := Data.seq items n, slots := sl } ∧ R (Except.ok (Flow.ret (Value.ref l))) s := by
  refine Meets.of_wp fun prog w A R s h => ?_
  obtain ⟨hl, h⟩ := h
  rw [PySem.W.Fast.te6985627851742102835]
  unfold PySem.W.Fast.tw6985627851742102835 W.Fast.tw8355640936598543841
  refine wpAny_ite_false rfl ?_
  dsimp only
  rw [← W.Fast.te12456147031677567982, ← W.Fast.te17445541508966151043, ← W.Fast.te16091673788111015977, ← W.Fast.te11824705621568448454, ← W.Fast.te6905046200447255374, ← W.Fast.te7107480769894948158]
  cases s with
  | mk hp g d tk os =>
  refine wpAny_bind ?_
  unfold asIndex
  refine wpAny_bind ?_
  refine wpAny_pure ?_
  refine wpAny_pure ?_
  refine wpAny_ite_false rfl ?_
  refine wpAny_bind ?_
  unfold Builtin.Tuple.tupleItemsOf
  refine wpAny_bind ?_
  unfold seqItems?
  refine wpAny_bind ?_
  refine wpAny_load' hl ?_
  refine wpAny_pure ?_
  refine wpAny_pure ?_
  refine wpAny_ite_true (by simp) ?_
  refine wpAny_bind ?_
  unfold Builtin.Tuple.tupleIsExact
  refine wpAny_bind ?_
  unfold typeOf
  refine wpAny_bind ?_
  refine wpAny_load' hl ?_
  refine wpAny_pure ?_
  refine wpAny_pure ?_
  refine wpAny_ite_true (by rfl) ?_
  refine wpAny_bind ?_
  refine wpAny_rule ?_
  unfold ret
  exact wpAny_pure ⟨_, rfl, h⟩
theorem tuple_mul0 (l : Addr) (items : Array Value) (n : Nat) (dd : Option Addr) (sl : Array (Option Value)) (u : Tok) (hn : items.isEmpty = false) :
    Meets (Builtin.«tuple.__mul__» { pos := [Value.ref l, Value.int 0 u] }) fun x_1 R s =>
      s.heap.get? l = some { cls := Value.type "tuple", dict := dd, data := Data.seq items n, slots := sl } ∧
        R (Except.ok (Flow.ret (Value.ref s.heap.objs.size))) { heap := s.heap.push { cls := Value.type "tuple", data := Data.seq #[] }, gens := s.gens, drawn := s.drawn, toks := s.toks, os := s.os } := by
  refine Meets.of_wp fun prog w A R s h => ?_
  obtain ⟨hl, h⟩ := h
  rw [PySem.W.Fast.te6985627851742102835]
  unfold PySem.W.Fast.tw6985627851742102835 W.Fast.tw8355640936598543841
  refine wpAny_ite_false rfl ?_
  dsimp only
  rw [← W.Fast.te12456147031677567982, ← W.Fast.te17445541508966151043, ← W.Fast.te16091673788111015977, ← W.Fast.te11824705621568448454, ← W.Fast.te6905046200447255374, ← W.Fast.te7107480769894948158]
  cases s with
  | mk hp g d tk os =>
  refine wpAny_bind ?_
  unfold asIndex
  refine wpAny_bind ?_
  refine wpAny_pure ?_
  refine wpAny_pure ?_
  refine wpAny_ite_false rfl ?_
  refine wpAny_bind ?_
  unfold Builtin.Tuple.tupleItemsOf
  refine wpAny_bind ?_
  unfold seqItems?
  refine wpAny_bind ?_
  refine wpAny_load' hl ?_
  refine wpAny_pure ?_
  refine wpAny_pure ?_
  refine wpAny_ite_false (by rw [hn]; rfl) ?_
  refine wpAny_ite_true (by simp) ?_
  refine wpAny_bind ?_
  unfold Builtin.Tuple.tupleExact newObj
  refine wpAny_bind ?_
  refine wpAny_alloc' ?_
  refine wpAny_pure ?_
  unfold ret
  exact wpAny_pure ⟨_, rfl, h⟩
theorem op_repT01 {X : Cx} : OpR X (binaryOp .Mult) (fun x y H Q => ∃ l xs, x = .ref l ∧ SqT X.K H l xs ∧ xs ≠ [] ∧ ((y = .int 1 ∧ Q (.ref l) H) ∨ (y = .int 0 ∧ ∀ p, H p = none → Q (.ref p) (upd H p (.tup []))))) := by
  intro pins s σ H x y v u Q I rx ry h
  obtain ⟨l, xs, rfl, hT, hne, h⟩ := h
  cases rx
  obtain ⟨its, r, ⟨w, hw⟩, hs⟩ := I.tuple hT
  obtain ⟨cls, dd, data, sl⟩ := w
  obtain ⟨ho, hc, n, hd⟩ := hw
  cases hc
  cases hd
  have hi : its.toArray.isEmpty = false := by
    cases its with
    | nil => exact absurd (List.eq_nil_of_length_eq_zero (Vals.length r)) hne
    | cons a b => rfl
  rcases h with ⟨rfl, q⟩ | ⟨rfl, q⟩
  · obtain ⟨t, rfl⟩ := ry
    exact wpAny_binaryOp_repeat_ref (of_decide_eq_true rfl) ⟨_, ho, rfl⟩ (fun s' => typeIs_int s' 1 t) noFill_tuple_mul PySem.F.fills_int_mul PySem.F.slot_int_rmul repeat_tuple PySem.F.slot_int_index.lookup
      (call_meets PySem.F.slot_int_rmul (typeIs_int s 1 t) PySem.F.entry_int_rmul (PySem.F.args_int_rmul_2 (.int 1 t) (.ref l)) (int_rmul_tuple 1 t l its.toArray n dd sl) ⟨ho, rfl, ⟨_, ho, rfl⟩,
        call_meets PySem.F.slot_tuple_mul ⟨_, ho, rfl⟩ PySem.F.entry_tuple_mul (PySem.F.args_tuple_mul_2 (.ref l) (.int 1 t)) (tuple_mul1 l its.toArray n dd sl t) ⟨ho, .ref l, H, I, rfl, q⟩⟩)
  · obtain ⟨t, rfl⟩ := ry
    exact wpAny_binaryOp_repeat_ref (of_decide_eq_true rfl) ⟨_, ho, rfl⟩ (fun s' => typeIs_int s' 0 t) noFill_tuple_mul PySem.F.fills_int_mul PySem.F.slot_int_rmul repeat_tuple PySem.F.slot_int_index.lookup
      (call_meets PySem.F.slot_int_rmul (typeIs_int s 0 t) PySem.F.entry_int_rmul (PySem.F.args_int_rmul_2 (.int 0 t) (.ref l)) (int_rmul_tuple 0 t l its.toArray n dd sl) ⟨ho, rfl, ⟨_, ho, rfl⟩,
        call_meets PySem.F.slot_tuple_mul ⟨_, ho, rfl⟩ PySem.F.entry_tuple_mul (PySem.F.args_tuple_mul_2 (.ref l) (.int 0 t)) (tuple_mul0 l its.toArray n dd sl t hi) ⟨ho, .ref s.heap.objs.size, upd H s.heap.objs.size (.tup []),
          I.laid (fun b ob q => Heap.get?_push_of_some _ q) (Nat.le_refl _) ⟨Nat.zero_le _, [], .nil, PyProof.Rows.IsTup.new s.heap _⟩, rfl, q _ (HOk.fresh I.hok (Nat.le_refl _))⟩⟩)

def rRep01 (K : PySem.W.Frag) : R2 := fun x y H Q => ∃ l xs, x = .ref l ∧ SqT K H l xs ∧ xs ≠ [] ∧ ((y = .int 1 ∧ Q (.ref l) H) ∨ (y = .int 0 ∧ ∀ p, H p = none → Q (.ref p) (upd H p (.tup []))))
def rMulB (K : PySem.W.Frag) : R2 := fun x y H Q => rMulA K x y H Q ∨ (rMulS x y H Q ∨ (rRepT K x y H Q ∨ rRep01 K x y H Q))
theorem opB_mul {X : Cx} : OpR X (binaryOp .Mult) (rMulB X.K) := (opA_mul (X := X)).or (op_mulS.or (op_repT.or op_repT01))
def rAddB (K : PySem.W.Frag) : R2 := fun x y H Q => (rI0 fun i j => .int (i + j)) x y H Q ∨ (rCatS x y H Q ∨ rCatA K x y H Q)
theorem opB_add {X : Cx} : OpR X (binaryOp .Add) (rAddB X.K) := op_add.or (op_catS.or op_catA)
section
variable {K : PySem.W.Frag} {n np : Nat} {O O1 : List Addr} {σ : L2.St} {ρ ρ1 : Rho} {H H1 : Hp} {ta tb tc te : TE} {tt tu : TT} {Φ : PD} {F : DE2} {ts us : TS} {Ψ : PyData → Prop} {x y : PyData}
theorem rd_addBI {i j : Int} (k : Ψ (.int (i + j))) : RD (rAddB K) K (.int i) (.int j) Ψ := fun O H vx vy al hx hy Q q => .inl (rd_i0 (g := fun i j => i + j) k O H vx vy al hx hy Q q)
theorem rd_addBS {i j : Str} (hl : i.length + j.length ≤ 100000) (k : Ψ (.str (i ++ j))) : RD (rAddB K) K (.str i) (.str j) Ψ := fun O H vx vy al hx hy Q q => .inr (.inl (rd_catS hl k O H vx vy al hx hy Q q))
theorem al_new {O : List Addr} {H : Hp} {p : Addr} (al : ∀ b ∈ O, H b ≠ none) (hp : H p = none) : p ∉ O := fun h => al p h hp
theorem dp_newT {O : List Addr} {H : Hp} {p : Addr} {vs : List V} {ds : List PyData} (al : ∀ b ∈ O, H b ≠ none) (hp : H p = none) (h : DPAll K (msk O H) vs ds) : DP K (msk O (upd H p (.tup vs))) (.ref p) (.tuple ds) :=
  .tup (.inl (.inl (msk_of (al_new al hp) upd_same))) (dpa_ext (msk_ext (Ext.new hp)) h)
theorem dp_newL {O : List Addr} {H : Hp} {p : Addr} {vs : List V} {ds : List PyData} (al : ∀ b ∈ O, H b ≠ none) (hp : H p = none) (h : DPAll K (msk O H) vs ds) : DP K (msk O (upd H p (.lst vs))) (.ref p) (.list ds) :=
  .lst (.inl (.inl (msk_of (al_new al hp) upd_same))) (dpa_ext (msk_ext (Ext.new hp)) h)
theorem dpa_nilD {vs : List V} (h : DPAll K H vs []) : vs = [] := by cases h; rfl
theorem rd_addBT {xs ys : List PyData} (hl : xs.length + ys.length ≤ 100000) (k : Ψ (.tuple (xs ++ ys))) : RD (rAddB K) K (.tuple xs) (.tuple ys) Ψ := fun O H vx vy al hx hy Q q => by
  cases hx with
  | tup h1 d1 =>
  cases hy with
  | tup h2 d2 =>
  rename_i a us b ws
  have e1 := dpa_len d1
  have e2 := dpa_len d2
  refine .inr (.inr ⟨a, b, us, ws, rfl, rfl, msk_t h1, msk_t h2, Nat.le_trans (by omega) (show 100000 ≤ sizeLine by decide), fun z => ?_, fun z1 z2 => ?_, fun z1 z2 p hp => ?_⟩)
  · subst z
    have : xs = [] := List.eq_nil_of_length_eq_zero (by rw [← e1]; rfl)
    subst this
    exact q _ _ H k (Ext.refl H) (.tup h2 d2)
  · subst z2
    have : ys = [] := List.eq_nil_of_length_eq_zero (by rw [← e2]; rfl)
    subst this
    rw [List.append_nil] at k
    exact q _ _ H k (Ext.refl H) (.tup h1 d1)
  · exact q _ _ _ k (Ext.new hp) (dp_newT al hp (dpa_append d1 d2))
theorem dpa_rep {vs : List V} {ds : List PyData} (h : DPAll K H vs ds) : ∀ k : Nat, DPAll K H (List.replicate k vs).flatten (List.replicate k ds).flatten
  | 0 => .nil
  | k + 1 => by
    simp only [List.replicate_succ, List.flatten_cons]
    exact dpa_append h (dpa_rep h k)
theorem rd_mulBC {i j : Int} (h : CMulA i j) (k : Ψ (.int (i * j))) : RD (rMulB K) K (.int i) (.int j) Ψ := fun O H vx vy al hx hy Q q => .inl (rd_i (g := fun i j => i * j) (C := CMulA) h k O H vx vy al hx hy Q q)
theorem rd_mulBS {z : Str} {j : Int} (h : MulOk z j) (k : Ψ (.str (PySem.Txt.mul z j))) : RD (rMulB K) K (.str z) (.int j) Ψ := fun O H vx vy al hx hy Q q => by
  cases hx; cases hy
  exact .inr (.inl ⟨z, j, rfl, rfl, h, q _ _ H k (Ext.refl H) (.str _)⟩)
theorem rd_mulBT {xs : List PyData} {m : Nat} (hx : xs ≠ []) (hl : xs.length ≤ 1000) (hm : m ≤ 1000) (k : Ψ (.tuple (List.replicate m xs).flatten)) : RD (rMulB K) K (.tuple xs) (.int m) Ψ := fun O H vx vy al h1 h2 Q q => by
  cases h2
  cases h1 with
  | tup h1 d1 =>
  rename_i a us
  have e1 := dpa_len d1
  have hn : us ≠ [] := fun z => by subst z; exact hx (List.eq_nil_of_length_eq_zero e1.symm)
  match m, hm, k with
  | 0, _, k => exact .inr (.inr (.inr ⟨a, us, rfl, msk_t h1, hn, .inr ⟨rfl, fun p hp => q _ _ _ k (Ext.new hp) (dp_newT al hp .nil)⟩⟩))
  | 1, _, k =>
    have e : (List.replicate 1 xs).flatten = xs := by simp
    rw [e] at k
    exact .inr (.inr (.inr ⟨a, us, rfl, msk_t h1, hn, .inl ⟨rfl, q _ _ H k (Ext.refl H) (.tup h1 d1)⟩⟩))
  | m + 2, hm, k =>
    exact .inr (.inr (.inl ⟨a, _, us, rfl, rfl, msk_t h1, hn, by omega, by omega, by omega, fun p hp => q _ _ _ k (Ext.new hp) (dp_newT al hp (dpa_rep d1 _))⟩))
/-! ### built-ins -/
theorem dpa_bools {H : Hp} : ∀ {bs : List Bool} {vs : List V}, DPAll K H vs (bs.map .bool) → vs = bs.map V.bl
  | [], _, h => dpa_nilD h
  | b :: r, _, h => by
    cases h with
    | cons a t => cases a; rw [dpa_bools t]; rfl
theorem dpa_intsB {H : Hp} : ∀ {bs : List Int} {vs : List V}, DPAll K H vs (bs.map .int) → vs = bs.map V.int
  | [], _, h => dpa_nilD h
  | b :: r, _, h => by
    cases h with
    | cons a t => cases a; rw [dpa_intsB t]; rfl
theorem dpa_strsB {H : Hp} : ∀ {bs : List Str} {vs : List V}, DPAll K H vs (bs.map .str) → vs = bs.map V.str
  | [], _, h => dpa_nilD h
  | b :: r, _, h => by
    cases h with
    | cons a t => cases a; rw [dpa_strsB t]; rfl
theorem rc_all {bs : List Bool} (k : Ψ (.bool (bs.all id))) : RC (rAll K) K [.list (bs.map .bool)] Ψ := fun O H vs al h Q q => by
  cases h with
  | cons h r =>
    cases r
    cases h with
    | lst hq hd =>
      have e := dpa_bools hd
      subst e
      exact ⟨_, bs, rfl, msk_l hq, q _ _ H k (Ext.refl H) (.bl _)⟩
theorem rc_sumT {ns : List Int} (k : Ψ (.int ns.sum)) : RC (rSumT K) K [.tuple (ns.map .int)] Ψ := fun O H vs al h Q q => by
  cases h with
  | cons h r =>
    cases r
    cases h with
    | tup hq hd =>
      have e := dpa_intsB hd
      subst e
      exact ⟨_, ns, rfl, msk_t hq, q _ _ H k (Ext.refl H) (.int _)⟩
theorem rc_reprB {b : Bool} (k : Ψ (.str (if b = true then Str.ofString "True" else Str.ofString "False"))) : RC rReprB K [.bool b] Ψ := fun O H vs al h Q q => by
  cases h with
  | cons h r => cases r; cases h; exact ⟨b, rfl, q _ _ H k (Ext.refl H) (.str _)⟩
def rTupOf (K : PySem.W.Frag) : List V → Hp → VK → Prop := fun xs H Q => ∃ p ys, xs = [.ref p] ∧ ((SqL K H p ys ∧ ∀ l, H l = none → Q (.ref l) (upd H l (.tup ys))) ∨ (SqT K H p ys ∧ Q (.ref p) H))
theorem cr_tupOf {X : Cx} : CallR X (.type "tuple") (rTupOf X.K) := call_tuple_of
theorem rc_tupL {ds : List PyData} (k : Ψ (.tuple ds)) : RC (rTupOf K) K [.list ds] Ψ := fun O H vs al h Q q => by
  cases h with
  | cons h r =>
    cases r
    cases h with
    | lst hq hd => exact ⟨_, _, rfl, .inl ⟨msk_l hq, fun l hl => q _ _ _ k (Ext.new hl) (dp_newT al hl hd)⟩⟩
def rLstOf (K : PySem.W.Frag) : List V → Hp → VK → Prop := fun xs H Q => ∃ p ys, xs = [.ref p] ∧ (SqL K H p ys ∨ SqT K H p ys) ∧ ∀ l, H l = none → Q (.ref l) (upd H l (.lst ys))
theorem cr_lstOf {X : Cx} : CallR X (.type "list") (rLstOf X.K) := call_list_of
theorem rc_lstT {ds : List PyData} (k : Ψ (.list ds)) : RC (rLstOf K) K [.tuple ds] Ψ := fun O H vs al h Q q => by
  cases h with
  | cons h r =>
    cases r
    cases h with
    | tup hq hd => exact ⟨_, _, rfl, .inr (msk_t hq), fun l hl => q _ _ _ k (Ext.new hl) (dp_newL al hl hd)⟩
/-- tuple(name) of a list of its own -/
theorem dw_tupO {i : Nat} {ds : List PyData} (h0 : ρ[i]? = some (some (.lst (.l ds)))) (k : Φ (.tuple ds) ρ) : DW K n (tCB (rTupOf K) (tCons (tVar i) tNil)) ρ Φ := fun O σ H E Q q => by
  obtain ⟨p, vs, a, b, c, d⟩ := env_lst E h0
  refine ⟨.ref p, a, p, vs, rfl, .inl ⟨SqL.of c, fun l hl => ?_⟩⟩
  exact q _ _ ρ O _ k (Stp.grow E (Ext.new hl)) (dp_newT E.al hl d)
/-- is -/
def rIsBl : R2 := fun x y H Q => ∃ a b, x = .bl a ∧ y = .bl b ∧ Q (.bl (decide (a = b))) H
theorem op_isB {X : Cx} : OpR X (compareOp .Is) rIsBl := op_is_bl
theorem rd_isB {a b : Bool} (k : Ψ (.bool (decide (a = b)))) : RD rIsBl K (.bool a) (.bool b) Ψ := fun O H vx vy al hx hy Q q => by
  cases hx; cases hy
  exact ⟨a, b, rfl, rfl, q _ _ H k (Ext.refl H) (.bl _)⟩
/-- a text in a dict of the text's own -/
def rInK (K : PySem.W.Frag) (d : Addr) : R2 := fun x y H Q => ∃ (z : Str) (r : Option Value), x = .str z ∧ y = .ref d ∧ PySem.W.nsIn K d z = some r ∧ Q (.bl r.isSome) H
theorem op_inK {X : Cx} {d : Addr} {es : Array DictEntry} {m : Nat} (D : KDict X.K X.w d es m) : OpR X (compareOp .In) (rInK X.K d) := op_in_kd D
theorem dw_inK {d : Addr} (h : DW K n ta ρ fun x ρ1 => ∃ z r, x = .str z ∧ PySem.W.nsIn K d z = some r ∧ Φ (.bool r.isSome) ρ1) : DW K n (tOp (rInK K d) ta (tC (.ref d))) ρ Φ := fun O σ H E Q q =>
  h O σ H E _ fun v x ρ1 O1 H1 ⟨z, r, e, h1, k⟩ S r1 => by
    subst e
    cases r1
    exact ⟨z, r, rfl, rfl, h1, q _ _ ρ1 O1 H1 k S (.bl _)⟩
/-! ### texts -/
def lets (z : Str) : List PyData := z.cps.toList.map fun c => .str ⟨#[c]⟩
theorem src_str {z : Str} {O : List Addr} {H : Hp} : Src K (Its z) O H (lets z) := by
  have hl : (lets z).length = z.cps.size := by simp [lets]
  refine ⟨fun O' H' i e hi => ?_, fun O' H' i e hi => ?_, fun O' H' i x H'' d e al y hx => ?_⟩
  · show i < z.cps.size
    omega
  · show z.cps.size ≤ i
    omega
  · obtain ⟨rfl, c, hc, rfl⟩ := y
    have : d = .str ⟨#[c]⟩ := by
      unfold lets at hx
      rw [List.getElem?_map] at hx
      have hc' : z.cps.toList[i]? = some c := by simpa using hc
      rw [hc'] at hx
      simpa using hx.symm
    subst this
    exact ⟨Ext.refl _, .str _⟩
theorem di_str {Ψ : PL} (h : DW K n te ρ fun d ρ1 => ∃ z, d = .str z ∧ Ψ (lets z) ρ1) : DI K n (iStr te) ρ Ψ := fun O σ H E R q =>
  h O σ H E _ fun v d ρ1 O1 H1 ⟨z, e, k⟩ S r => by
    subst e
    exact ⟨z, dp_str r, q _ _ ρ1 O1 H1 k S src_str⟩
def R1 (r : V → List V → Hp → VK → Prop) : R2 := fun x y H Q => r x [y] H Q
theorem dw_m1 {r : V → List V → Hp → VK → Prop} (h : DW K n ta ρ fun x ρ1 => ∃ a, x = .str a ∧ DW K n tb ρ1 fun y ρ2 => RD (R1 r) K x y fun z => Φ z ρ2) : DW K n (tM1 r ta tb) ρ Φ := fun O σ H E Q q =>
  h O σ H E _ fun v x ρ1 O1 H1 ⟨a, e, hb⟩ S1 r1 => by
    subst e
    exact ⟨⟨a, dp_str r1⟩, hb O1 σ H1 S1.env _ fun u y ρ2 O2 H2 hr S2 r2 => hr O2 H2 v u S2.env.al (S2.dp S1.env r1) r2 Q fun w z H3 hz e r3 =>
      q w z ρ2 O2 H3 hz ((S1.trans E S2).trans E (Stp.grow S2.env e)) r3⟩
def rJoin (K : PySem.W.Frag) : V → List V → Hp → VK → Prop := fun x xs H Q => ∃ a p, ∃ ys : List Str, x = .str a ∧ xs = [.ref p] ∧ (SqL K H p (ys.map V.str) ∨ SqT K H p (ys.map V.str)) ∧ (ys.map (·.length)).sum + ys.length * a.length ≤ 16777216 ∧ Q (.str (Txt.join a ys)) H
theorem rd_join {a : Str} {ys : List Str} (hl : (ys.map (·.length)).sum + ys.length * a.length ≤ 16777216) (k : Ψ (.str (Txt.join a ys))) : RD (R1 (rJoin K)) K (.str a) (.list (ys.map .str)) Ψ := fun O H vx vy al hx hy Q q => by
  cases hx
  cases hy with
  | lst hq hd =>
    have e := dpa_strsB hd
    subst e
    exact ⟨a, _, ys, rfl, rfl, .inl (msk_l hq), hl, q _ _ H k (Ext.refl H) (.str _)⟩
def rSplit : V → List V → Hp → VK → Prop := fun x xs H Q => ∃ a b, x = .str a ∧ xs = [.str b] ∧ (b.length == 0) = false ∧ a.length + 2 ≤ sizeLine ∧ rNewStrs (Txt.split a b) H Q
theorem dpa_strs {H : Hp} : ∀ (ys : List Str), DPAll K H (ys.map V.str) (ys.map .str)
  | [] => .nil
  | y :: r => .cons (.str y) (dpa_strs r)
theorem rd_split {a b : Str} (hb : (b.length == 0) = false) (ha : a.length ≤ 100000) (k : Ψ (.list ((Txt.split a b).map .str))) : RD (R1 rSplit) K (.str a) (.str b) Ψ := fun O H vx vy al hx hy Q q => by
  cases hx; cases hy
  exact ⟨a, b, rfl, rfl, hb, Nat.le_trans (Nat.add_le_add_right ha 2) (show 100002 ≤ sizeLine by decide), fun p hp => q _ _ _ k (Ext.new hp) (dp_newL al hp (dpa_strs _))⟩
def rCount : V → List V → Hp → VK → Prop := fun x xs H Q => ∃ a b, x = .str a ∧ xs = [.str b] ∧ Q (.int (Txt.count a b)) H
theorem rd_count {a b : Str} (k : Ψ (.int (Txt.count a b))) : RD (R1 rCount) K (.str a) (.str b) Ψ := fun O H vx vy al hx hy Q q => by
  cases hx; cases hy
  exact ⟨a, b, rfl, rfl, q _ _ H k (Ext.refl H) (.int _)⟩
/-! ### slices -/
def RS (r : V → Option Int → Option Int → Hp → VK → Prop) (lo hi : Option Int) (K : PySem.W.Frag) (x : PyData) (Ψ : PyData → Prop) : Prop := RU (fun x H Q => r x lo hi H Q) K x Ψ
theorem dw_slH {r : V → Option Int → Option Int → Hp → VK → Prop} (h : DW K n ta ρ fun x ρ1 => DW K n tb ρ1 fun y ρ2 => ∃ i, y = .int i ∧ RS r none (some i) K x fun z => Φ z ρ2) : DW K n (tSl r ta tNoPart (tPart tb)) ρ Φ := fun O σ H E Q q =>
  h O σ H E _ fun v x ρ1 O1 H1 hb S1 r1 => hb O1 σ H1 S1.env _ fun u y ρ2 O2 H2 ⟨i, e, hr⟩ S2 r2 => by
    subst e
    exact ⟨i, dp_int r2, hr O2 H2 v S2.env.al (S2.dp S1.env r1) Q fun w z H3 hz e r3 => q w z ρ2 O2 H3 hz ((S1.trans E S2).trans E (Stp.grow S2.env e)) r3⟩
theorem dw_slL {r : V → Option Int → Option Int → Hp → VK → Prop} (h : DW K n ta ρ fun x ρ1 => DW K n tb ρ1 fun y ρ2 => ∃ i, y = .int i ∧ RS r (some i) none K x fun z => Φ z ρ2) : DW K n (tSl r ta (tPart tb) tNoPart) ρ Φ := fun O σ H E Q q =>
  h O σ H E _ fun v x ρ1 O1 H1 hb S1 r1 => hb O1 σ H1 S1.env _ fun u y ρ2 O2 H2 ⟨i, e, hr⟩ S2 r2 => by
    subst e
    exact ⟨i, dp_int r2, hr O2 H2 v S2.env.al (S2.dp S1.env r1) Q fun w z H3 hz e r3 => q w z ρ2 O2 H3 hz ((S1.trans E S2).trans E (Stp.grow S2.env e)) r3⟩
def rSlB (K : PySem.W.Frag) : V → Option Int → Option Int → Hp → VK → Prop := fun x lo hi H Q => rSlA K x lo hi H Q ∨ (rSlL K x lo hi H Q ∨ rSlS x lo hi H Q)
theorem slB {X : Cx} : SlR X (rSlB X.K) := SlR.or sl_tupA (SlR.or sl_list sl_str)
def cutD {α : Type} (xs : List α) (lo hi : Option Int) : List α := (xs.drop (HT.sIx xs.length 0 lo)).take (HT.sIx xs.length xs.length hi - HT.sIx xs.length 0 lo)
theorem dpa_cut {vs : List V} {ds : List PyData} {lo hi : Option Int} (h : DPAll K H vs ds) : DPAll K H (cutV vs lo hi) (cutD ds lo hi) := by
  unfold cutV cutD
  rw [dpa_len h]
  exact dpa_take _ (dpa_drop _ h)
theorem rs_tup {ds : List PyData} {lo hi : Option Int} (k : Ψ (.tuple (cutD ds lo hi))) : RS (rSlB K) lo hi K (.tuple ds) Ψ := fun O H vx al hx Q q => by
  cases hx with
  | tup h d =>
    refine .inl ⟨_, _, rfl, msk_t h, fun z => ?_, fun z p hp => q _ _ _ k (Ext.new hp) (dp_newT al hp (dpa_cut d))⟩
    have e : cutD ds lo hi = ds := by
      unfold cutD
      rw [dpa_len d] at z
      rw [z.1, z.2]
      simp
    rw [e] at k
    exact q _ _ H k (Ext.refl H) (.tup h d)
theorem rs_lst {ds : List PyData} {lo hi : Option Int} (k : Ψ (.list (cutD ds lo hi))) : RS (rSlB K) lo hi K (.list ds) Ψ := fun O H vx al hx Q q => by
  cases hx with
  | lst h d => exact .inr (.inl ⟨_, _, rfl, msk_l h, fun p hp => q _ _ _ k (Ext.new hp) (dp_newL al hp (dpa_cut d))⟩)
theorem rs_str {z : Str} {lo hi : Option Int} (hz : z.length ≤ 100000) (k : Ψ (.str (cutS z lo hi))) : RS (rSlB K) lo hi K (.str z) Ψ := fun O H vx al hx Q q => by
  cases hx
  exact .inr (.inr ⟨z, rfl, Nat.le_trans hz (by decide), q _ _ H k (Ext.refl H) (.str _)⟩)
/-! ### a dict display, a pair of names with a fresh list, a list of its own and a fresh one -/
theorem dw_dnew (k : Φ (.dict []) ρ) : DW K n tDNewK ρ Φ := fun O σ H E Q q p hp =>
  q _ _ ρ O _ k (Stp.grow E (Ext.new hp)) (.dct (.inl (msk_of (al_new E.al hp) upd_same)) .nil)
theorem ds_parF {i j k : Nat} (h : DF K n te ρ fun ds ρ1 => ∃ d, ρ1[k]? = some (some (.val d)) ∧ n ≤ i ∧ n ≤ j ∧ F.nx ((ρ1.set i (some (.lst ds))).set j (some (.val d)))) : DSx K n (tPar i j (tCons te (tCons (tVar k) tNil))) ρ F := fun O σ H E D h1 h2 h3 h4 h5 =>
  h O σ H E _ fun p vs ds ρ1 O1 H1 ⟨d, hk, hi, hj, kk⟩ S np no hp hH hd => by
    obtain ⟨v, a, b⟩ := env_get S.env hk
    have S2 := stp_setOwn S no hp hH hd hi
    have S3 := stp_set (n := n) S2.env b (j := j) (.inl hj)
    exact ⟨v, a, _, _, rfl, h1 _ _ _ _ kk (S2.trans E S3)⟩
theorem df_catO {i : Nat} {Ψ : PF} {ds0 : List PyData} (h0 : ρ[i]? = some (some (.lst (.l ds0)))) (h : DF K n tb ρ fun o ρ1 => ∃ ys ds, o = .l ys ∧ ρ1[i]? = some (some (.lst (.l ds))) ∧ ds.length + ys.length ≤ 100000 ∧ Ψ (.l (ds ++ ys)) ρ1) : DF K n (tOp rCat (tVar i) tb) ρ Ψ := fun O σ H E Q q => by
  obtain ⟨a, us0, g1, g2, g3, g4⟩ := env_lst E h0
  refine ⟨.ref a, g1, ?_⟩
  refine h O σ H E _ fun p vs o ρ1 O1 H1 ⟨ys, ds, eo, hi, hl, kk⟩ S np no hp hH hd => ?_
  subst eo
  obtain ⟨vs, rfl, hd⟩ := ho_l hd
  obtain ⟨a', us, g1', g2', g3', g4'⟩ := env_lst S.env hi
  rw [g1] at g1'; cases g1'
  refine ⟨a, p, us, vs, rfl, rfl, g3', hH, Nat.le_trans (by rw [dpa_len g4', dpa_len hd]; exact hl) (show 100000 ≤ sizeLine by decide), fun r hr => ?_⟩
  have nr := fresh_notin S.env hr
  have nr0 : r ∉ O := fun z => nr (S.sub r z)
  exact q r (.lst (us ++ vs)) (.l (ds ++ ys)) ρ1 (p :: O1) _ kk (S.trans E (stp_alloc S.env hr)) nr (not_owned S.env hr) (S.none_back nr0 hr E) upd_same (dpa_ext (fresh_ext hr) (dpa_append g4' hd))
theorem kit_dt : kitB "dict" "tuple" = some false := by decide +kernel
theorem kit_is : kitB "int" "str" = some false := by decide +kernel
theorem kit_ss : kitB "str" "str" = some true := by decide +kernel
theorem isT_tupA (d : PyData) : isT "tuple" d = some (isTupD d) := by
  cases d with
  | dict x => exact kit_dt
  | _ => exact isT_tuple trivial
end
end DL
namespace DL
open PySem L2 PySem.Spec PyProof.Rows StX
section
variable {K : PySem.W.Frag} {n np : Nat} {O O1 : List Addr} {σ : L2.St} {ρ ρ1 : Rho} {H H1 : Hp} {ta tb tc te : TE} {tt tu : TT} {Φ : PD} {F : DE2} {ts us : TS} {Ψ : PyData → Prop} {x y : PyData} {Φf : PF}
/-! ### zip of two lists -/
def zipD (xs ys : List PyData) : List PyData := List.zipWith (fun a b => .tuple [a, b]) xs ys
theorem zipD_len {xs ys : List PyData} : (zipD xs ys).length = min xs.length ys.length := by unfold zipD; simp
theorem zipD_get {xs ys : List PyData} {i : Nat} {d : PyData} (h : (zipD xs ys)[i]? = some d) : ∃ a b, xs[i]? = some a ∧ ys[i]? = some b ∧ d = .tuple [a, b] := by
  unfold zipD at h
  rw [List.getElem?_zipWith] at h
  cases h1 : xs[i]? with
  | none => rw [h1] at h; exact nomatch h
  | some a =>
    cases h2 : ys[i]? with
    | none => rw [h1, h2] at h; exact nomatch h
    | some b => rw [h1, h2] at h; cases h; exact ⟨a, b, rfl, rfl, rfl⟩
theorem src_zip {a b : Addr} {xs ys : List PyData} {us vs : List V} (h1 : SqL K (msk O H) a us) (d1 : DPAll K (msk O H) us xs) (h2 : SqL K (msk O H) b vs) (d2 : DPAll K (msk O H) vs ys) : Src K (Itz K a b) O H (zipD xs ys) := by
  have l1 := dpa_len d1
  have l2 := dpa_len d2
  refine ⟨fun O' H' i e hi => ?_, fun O' H' i e hi => ?_, fun O' H' i x H'' d e al y hx => ?_⟩
  · rw [zipD_len] at hi
    exact ⟨us, vs, us[i]'(by omega), vs[i]'(by omega), msk_l (e.l h1), msk_l (e.l h2), by simp, by simp⟩
  · rw [zipD_len] at hi
    exact ⟨us, vs, msk_l (e.l h1), msk_l (e.l h2), by omega⟩
  · obtain ⟨T, x1, x2, rfl, hT, rfl, g1, g2⟩ := y
    obtain ⟨p, q, e1, e2, rfl⟩ := zipD_get hx
    obtain ⟨p', e1', r1⟩ := dpa_get' d1 (g1 us (msk_l (e.l h1)))
    obtain ⟨q', e2', r2⟩ := dpa_get' d2 (g2 vs (msk_l (e.l h2)))
    rw [e1] at e1'; cases e1'
    rw [e2] at e2'; cases e2'
    refine ⟨Ext.new hT, dp_newT al hT ?_⟩
    exact .cons (dp_ext e r1) (.cons (dp_ext e r2) .nil)
theorem di_zip {t : TA} {Ψ : PL} (h : DA K n t ρ fun zs ρ1 => ∃ xs ys, zs = [.list xs, .list ys] ∧ Ψ (zipD xs ys) ρ1) : DI K n (iZip K t) ρ Ψ := fun O σ H E R q =>
  h O σ H E _ fun vs zs ρ1 O1 H1 ⟨xs, ys, e, k⟩ S r => by
    subst e
    cases r with
    | cons r1 r2 =>
      cases r2 with
      | cons r2 r3 =>
        cases r3
        cases r1 with
        | lst q1 d1 =>
          cases r2 with
          | lst q2 d2 => exact ⟨_, _, _, _, rfl, msk_l q1, msk_l q2, q _ _ ρ1 O1 H1 k S (src_zip q1 d1 q2 d2)⟩
/-! ### displays with a star -/
theorem da_star {tr : TA} {Ψ : List PyData → Rho → Prop} (h : DW K n ta ρ fun x ρ1 => ∃ xs, (x = .list xs ∨ x = .tuple xs) ∧ DA K n tr ρ1 fun ys ρ2 => Ψ (xs ++ ys) ρ2) : DA K n (tStar K ta tr) ρ Ψ := fun O σ H E Q q =>
  h O σ H E _ fun v x ρ1 O1 H1 ⟨xs, ex, hb⟩ S1 r1 => by
    rcases ex with rfl | rfl
    · cases r1 with
      | lst hq hd => exact ⟨_, _, rfl, .inr (msk_l hq), hb O1 σ H1 S1.env _ fun us ys ρ2 O2 H2 hr S2 r2 => q _ _ ρ2 O2 H2 hr (S1.trans E S2) (dpa_append (S2.dpa S1.env hd) r2)⟩
    · cases r1 with
      | tup hq hd => exact ⟨_, _, rfl, .inl (msk_t hq), hb O1 σ H1 S1.env _ fun us ys ρ2 O2 H2 hr S2 r2 => q _ _ ρ2 O2 H2 hr (S1.trans E S2) (dpa_append (S2.dpa S1.env hd) r2)⟩
/-! ### own dicts -/
theorem df_dnew {Ψ : PF} (k : Ψ (.d []) ρ) : DF K n tDNewK ρ Ψ := fun O σ H E Q q p hp => by
  have np := fresh_no E.al hp
  exact q p (.dK []) (.d []) ρ O _ k (stp_alloc E hp) np (not_owned E hp) hp upd_same .nil
/-- a key that is a number -/
def isKey (i : Int) : PyData → Bool
  | .int j => decide (j = i)
  | _ => false
def putI (kvs : List (PyData × PyData)) (i : Int) (d : PyData) : List (PyData × PyData) :=
  if (kvs.any fun kv => isKey i kv.1) = true then kvs.map fun kv => if isKey i kv.1 = true then (kv.1, d) else kv else kvs ++ [(.int i, d)]
def hasI (kvs : List (PyData × PyData)) (i : Int) : Bool := kvs.any fun kv => isKey i kv.1
theorem key_is {k : Key} {i : Int} : isKey i (keyD k) = decide (k = .inl i) := by
  cases k with
  | inl j => simp [isKey, keyD]
  | inr z => simp [isKey, keyD]
theorem dpk_any {i : Int} : ∀ {kvs : List (Key × V)} {ds : List (PyData × PyData)}, DPKV K H kvs ds → (kvs.any fun kv => decide (kv.1 = .inl i)) = hasI ds i
  | _, _, .nil => rfl
  | _, _, .cons e h r => by
    subst e
    unfold hasI
    rw [List.any_cons, List.any_cons, key_is]
    have := dpk_any (i := i) r
    unfold hasI at this
    rw [this]
theorem dpk_len : ∀ {kvs : List (Key × V)} {ds : List (PyData × PyData)}, DPKV K H kvs ds → kvs.length = ds.length
  | _, _, .nil => rfl
  | _, _, .cons _ _ r => congrArg (· + 1) (dpk_len r)
theorem dpk_app : ∀ {kvs us : List (Key × V)} {ds es : List (PyData × PyData)}, DPKV K H kvs ds → DPKV K H us es → DPKV K H (kvs ++ us) (ds ++ es)
  | _, _, _, _, .nil, q => q
  | _, _, _, _, .cons e h r, q => .cons e h (dpk_app r q)
theorem dpk_map {i : Int} {v : V} {d : PyData} (hv : DP K H v d) : ∀ {kvs : List (Key × V)} {ds : List (PyData × PyData)}, DPKV K H kvs ds → DPKV K H (kvs.map fun kv => if kv.1 = .inl i then (kv.1, v) else kv) (ds.map fun kv => if isKey i kv.1 = true then (kv.1, d) else kv)
  | _, _, .nil => .nil
  | (k, u) :: kvs, _, .cons e h r => by
    subst e
    simp only [List.map_cons]
    by_cases hk : k = .inl i
    · have : isKey i (keyD k) = true := by rw [key_is]; exact decide_eq_true hk
      rw [if_pos hk, if_pos this]
      exact .cons rfl hv (dpk_map hv r)
    · have : ¬ isKey i (keyD k) = true := by rw [key_is]; simpa using hk
      rw [if_neg hk, if_neg this]
      exact .cons rfl h (dpk_map hv r)
theorem dpk_put {i : Int} {v : V} {d : PyData} (hv : DP K H v d) {kvs : List (Key × V)} {ds : List (PyData × PyData)} (h : DPKV K H kvs ds) : DPKV K H (putK kvs (.inl i) v) (putI ds i d) := by
  unfold putK putI
  rw [dpk_any h]
  unfold hasI
  split
  · exact dpk_map hv h
  · exact dpk_app h (.cons rfl hv .nil)
theorem find_any {α : Type} (p : α → Bool) : ∀ l : List α, (l.find? p).isSome = l.any p
  | [] => rfl
  | x :: r => by
    rw [List.find?_cons, List.any_cons, ← find_any p r]
    cases p x <;> rfl
theorem val_some {i : Int} {kvs : List (Key × V)} {ds : List (PyData × PyData)} (h : DPKV K H kvs ds) : (valV kvs (.inl i)).isSome = hasI ds i := by
  rw [← dpk_any h]
  unfold valV
  rw [Option.isSome_map]
  exact find_any _ _
/-- name[k] = e on a dict of its own, the key a number -/
theorem ds_putO {i : Nat} {ti : TE} (h : DW K n te ρ fun d ρ1 => (∃ ds0, ρ1[i]? = some (some (.lst (.d ds0)))) ∧ DW K n ti ρ1 fun x ρ2 => ∃ (k : Int) (ds : List (PyData × PyData)), x = .int k ∧ ρ2[i]? = some (some (.lst (.d ds))) ∧ ds.length < 100000 ∧ F.nx (ρ2.set i (some (.lst (.d (putI ds k d)))))) :
    DSx K n (tAsg te (gSub (tVar i) ti rSetD)) ρ F := fun O σ H E D h1 h2 h3 h4 h5 => by
  refine h O σ H E _ fun v d ρ1 O1 H1 ⟨⟨ds0, hi0⟩, hti⟩ S r => ?_
  obtain ⟨p, vs0, a, b, c, _⟩ := env_dct S.env hi0
  refine ⟨.ref p, a, ?_⟩
  refine hti O1 σ H1 S.env _ fun v2 x ρ2 O2 H2 ⟨k, ds, e, hi, hk, kk⟩ S2 r2 => ?_
  subst e
  obtain ⟨p', vs, a', b', c', hd⟩ := env_dct S2.env hi
  rw [a] at a'; cases a'
  refine ⟨p, upd H2 p (.dK (putK vs (.inl k) v)), rfl, .inl ⟨vs, .inl k, c', dp_int r2, Nat.lt_of_lt_of_le (by rw [dpk_len hd]; exact hk) (show 100000 ≤ sizeLine by decide), rfl⟩, ?_⟩
  exact h1 _ _ _ _ kk ((S.trans E S2).trans E (stp_writeW (vs := .dK (putK vs (.inl k) v)) (es := .d (putI ds k d)) S2.env hi a (dpk_put (S2.dp S.env r) hd)))
/-- k not in name, a dict of its own -/
theorem dw_notinO {i : Nat} {ty : TE} (h : DW K n ty ρ fun y ρ1 => ∃ (k : Int) (ds : List (PyData × PyData)), y = .int k ∧ ρ1[i]? = some (some (.lst (.d ds))) ∧ Φ (.bool (!hasI ds k)) ρ1) : DW K n (tDNotIn ty (tVar i)) ρ Φ := fun O σ H E Q q =>
  h O σ H E _ fun v y ρ1 O1 H1 ⟨k, ds, e, hi, kk⟩ S r => by
    subst e
    obtain ⟨p, vs, a, b, c, hd⟩ := env_dct S.env hi
    refine ⟨.ref p, a, p, valV vs (.inl k), rfl, .inl ⟨vs, .inl k, .inl c, dp_int r, rfl⟩, ?_⟩
    rw [val_some hd]
    exact q _ _ ρ1 O1 H1 kk S (.bl _)
/-- an item of a dict of the text's own -/
theorem dw_ixK {d : Addr} {wd : World} (h : DW K n tb ρ fun x ρ1 => ∃ z v y, x = .str z ∧ KDct K wd d z v ∧ (∀ O H, DP K (msk O H) v y) ∧ Φ y ρ1) : DW K n (tOp (rIxD K wd) (tC (.ref d)) tb) ρ Φ := fun O σ H E Q q =>
  h O σ H E _ fun v x ρ1 O1 H1 ⟨z, u, y, e, hk, hy, k⟩ S r => by
    subst e
    exact ⟨d, z, u, rfl, dp_str r, hk, q _ _ ρ1 O1 H1 k S (hy _ _)⟩
end
end DL
namespace DL
open PySem L2
theorem set2_wipe {α : Type} (s : List α) {j l : Nat} (hjl : j ≠ l) (a b c d : α) : (((s.set j a).set l b).set j c).set l d = (s.set j c).set l d := by
  apply List.ext_getElem?
  intro i
  simp only [List.getElem?_set]
  by_cases h1 : l = i
  · subst h1; simp
  · by_cases h2 : j = i
    · subst h2; simp [h1, Ne.symm hjl]
    · simp [h1, h2]
theorem set2_back {α : Type} (s : List α) {j l : Nat} (hjl : j ≠ l) (a b c d : α) (h1 : s[j]? = some c) (h2 : s[l]? = some d) : (((s.set j a).set l b).set j c).set l d = s := by
  rw [set2_wipe s hjl]
  have e1 : s.set j c = s := by
    have := set_back s j c c c h1
    rwa [List.set_set, List.set_set] at this
  rw [e1]
  have := set_back s l d d d h2
  rwa [List.set_set, List.set_set] at this
section
variable {K : PySem.W.Frag} {n : Nat} {O O1 : List Addr} {σ : L2.St} {ρ ρ1 : Rho} {H H1 : Hp} {ta tb tc te : TE} {tt tu : TT} {Φ : PD} {F : DE2} {ts us : TS} {Φf : PF}
/-- a comprehension whose target is a pair of names -/
theorem df_lc2 {wi : TI} {j l : Nat} (hjl : j ≠ l) (h : DI K n wi ρ fun ds ρ1 => n ≤ j ∧ n ≤ l ∧ ds.length ≤ 100000 ∧ ρ1[j]? = some none ∧ ρ1[l]? = some none ∧ ∃ J : Nat → List PyData → Rho → Prop, J 0 [] ρ1 ∧
      (∀ i d out ρ', ds[i]? = some d → J i out ρ' → out.length ≤ i → ∃ d1 d2, d = .tuple [d1, d2] ∧ DT K n tt ((ρ'.set j (some (.val d1))).set l (some (.val d2))) fun b ρ2 => (b = true → DW K n te ρ2 fun y ρ3 => J (i + 1) (out ++ [y]) ((ρ3.set j none).set l none)) ∧ (b = false → J (i + 1) out ((ρ2.set j none).set l none))) ∧
      ∀ out ρ', J ds.length out ρ' → Φf (.l out) ρ') : DF K n (tLc wi (gTup K 2 (gCons (gName j) (gCons (gName l) gNil))) tt te [j, l]) ρ Φf := by
  intro O σ H E Q q
  refine h O σ H E _ fun It ds ρ1 O1 H1 ⟨hj, hl, hlen, hρj, hρl, J, j0, jt, je⟩ S src => ?_
  intro D hD
  have SD := stp_alloc (n := n) (o := .lst []) S.env hD
  have nD := fresh_notin S.env hD
  have noD := not_owned S.env hD
  have hD0 : H D = none := S.none_back (fun z => nD (S.sub D z)) hD E
  have hjσ : j < σ.length := by rw [S.env.len]; exact (List.getElem?_eq_some_iff.mp hρj).1
  have hlσ : l < σ.length := by rw [S.env.len]; exact (List.getElem?_eq_some_iff.mp hρl).1
  refine ⟨fun i m H' => m = ds.length - i ∧ i ≤ ds.length ∧ ∃ O' ρ' out vs, J i out ρ' ∧ out.length ≤ i ∧ Stp K n O1 σ ρ1 H1 O' σ ρ' H' ∧ D ∈ O' ∧ ¬ Owns σ ρ' D ∧ H' D = some (.lst vs) ∧ DPAll K (msk O' H') vs out,
    ⟨ds.length, by simp, Nat.zero_le _, D :: O1, ρ1, [], [], j0, Nat.le_refl _, SD, List.mem_cons_self, noD, upd_same, .nil⟩, ?_⟩
  rintro i m H' ⟨rfl, hi, O', ρ', out, vs, jj, hol, S', nO', no', hH', hd'⟩
  have em := S'.msk S.env
  by_cases hlt : i < ds.length
  · refine .inr ⟨src.go _ H' i em hlt, fun H2 => ∃ O2 ρ2 out2 vs2, J (i + 1) out2 ρ2 ∧ out2.length ≤ i + 1 ∧ Stp K n O1 σ ρ1 H1 O2 σ ρ2 H2 ∧ D ∈ O2 ∧ ¬ Owns σ ρ2 D ∧ H2 D = some (.lst vs2) ∧ DPAll K (msk O2 H2) vs2 out2,
      fun H2 ⟨O2, ρ2, out2, vs2, a, b, d, e, f, g, hh⟩ => ⟨ds.length - (i + 1), by omega, rfl, hlt, O2, ρ2, out2, vs2, a, b, d, e, f, g, hh⟩, fun x H2 y => ?_⟩
    obtain ⟨d, hd⟩ : ∃ d, ds[i]? = some d := ⟨ds[i], by simp [hlt]⟩
    obtain ⟨e2, r2⟩ := src.yld _ H' i x H2 d em S'.env.al y hd
    obtain ⟨d1, d2, rfl, jt⟩ := jt i d out ρ' hd jj hol
    have Sg := Stp.grow (n := n) S'.env e2
    have S2 := S'.trans S.env Sg
    cases r2 with
    | tup hq hdd =>
    cases hdd with
    | cons r21 hdd =>
    cases hdd with
    | cons r22 hdd =>
    cases hdd
    rename_i a x1 x2
    refine ⟨_, _, rfl, msk_t hq, rfl, x1, _, rfl, x2, _, rfl, rfl, ?_⟩
    have wp : ∀ s : L2.St, wipe s [j, l] = (s.set j none).set l none := fun s => by
      show (s.set l none).set j none = _
      exact List.set_comm _ _ (Ne.symm hjl)
    have hσt : ((wipe σ [j, l]).set j (some x1)).set l (some x2) = (σ.set j (some x1)).set l (some x2) := by
      rw [wp]
      exact set2_wipe σ hjl none none _ _
    rw [hσt]
    refine ⟨?_, ?_⟩
    · rw [wp, wp]
      exact set2_wipe σ hjl _ _ _ _
    have Sin1 := stp_in (n := n) S2.env hj r21
    have Sin2 := stp_in (n := n) Sin1.env hl r22
    have Sin := Sin1.trans S2.env Sin2
    have noT : ¬ Owns ((σ.set j (some x1)).set l (some x2)) ((ρ'.set j (some (.val d1))).set l (some (.val d2))) D := fun w => no' (owns_set (fun ds => by simp) (owns_set (fun ds => by simp) w))
    have back : (((σ.set j (some x1)).set l (some x2)).set j σ[j]).set l σ[l] = σ := set2_back σ hjl _ _ _ _ (List.getElem?_eq_getElem hjσ) (List.getElem?_eq_getElem hlσ)
    refine jt _ _ H2 Sin.env _ fun b ρ2 O2 H3 ⟨kt, kf⟩ S3 => ?_
    have S13 := ((S2.trans S.env Sin).trans S.env S3)
    have hD3 : H3 D = some (.lst vs) := S3.le D _ noT (e2 D _ hH')
    have hout3 := S3.dpa Sin.env (Sg.dpa S'.env hd')
    have al3 : D ∈ O2 := S3.sub D nO'
    have no3 : ¬ Owns ((σ.set j (some x1)).set l (some x2)) ρ2 D := fun w => by
      rcases S3.own D w with w | w
      · exact noT w
      · exact S2.env.al D nO' w
    have out2 : ∀ {O3 : List Addr} {ρ3 : Rho} {H4 : Hp}, Stp K n O1 σ ρ1 H1 O3 ((σ.set j (some x1)).set l (some x2)) ρ3 H4 → ¬ Owns ((σ.set j (some x1)).set l (some x2)) ρ3 D →
        Stp K n O1 σ ρ1 H1 O3 σ ((ρ3.set j none).set l none) H4 ∧ ¬ Owns σ ((ρ3.set j none).set l none) D := fun S4 no4 => by
      have T1 := stp_out (n := n) (j := j) (x := σ[j]) S4.env hj
      have T2 := stp_out (n := n) (j := l) (x := σ[l]) T1.env hl
      have T := (S4.trans S.env T1).trans S.env T2
      rw [back] at T
      refine ⟨T, fun w => no4 ?_⟩
      have w1 := owns_set (σ := ((σ.set j (some x1)).set l (some x2)).set j σ[j]) (ρ := _) (j := l) (x := σ[l]) (y := none) (fun ds => by simp) (p := D) (by rw [back]; exact w)
      exact owns_set (fun ds => by simp) w1
    cases b with
    | true =>
      refine iteT ?_
      refine kt rfl _ _ H3 S3.env _ fun v yd ρ3 O3 H4 k4 S4 r4 => ?_
      have no4 : ¬ Owns ((σ.set j (some x1)).set l (some x2)) ρ3 D := fun w => by
        rcases S4.own D w with w | w
        · exact no3 w
        · exact S3.env.al D al3 w
      have hD4 : H4 D = some (.lst vs) := S4.le D _ no3 hD3
      obtain ⟨S14, no5⟩ := out2 (S13.trans S.env S4) no4
      have al4 : D ∈ O3 := S4.sub D al3
      have hout4 := S4.dpa S3.env hout3
      refine ⟨vs, hD4, Nat.lt_of_le_of_lt (Nat.le_of_eq (dpa_len hd')) (Nat.lt_of_le_of_lt (Nat.le_trans hol (by omega)) (show (100000 : Nat) < PySem.sizeLine by decide)), ?_⟩
      obtain ⟨S15, em5⟩ := stp_writeD (o := .lst (vs ++ [v])) S14 hD al4 no5
      refine ⟨O3, _, out ++ [yd], vs ++ [v], k4, by simp; omega, S15, al4, no5, upd_same, ?_⟩
      rw [em5]
      exact dpa_append hout4 (dpa_one r4)
    | false =>
      refine iteF ?_
      obtain ⟨S14, no5⟩ := out2 S13 no3
      exact ⟨O2, _, out, vs, kf rfl, by omega, S14, al3, no5, hD3, hout3⟩
  · have e : i = ds.length := by omega
    subst e
    refine .inl ⟨src.stop _ H' _ em (Nat.le_refl _), ?_⟩
    have mem : ∀ b, b ∈ O' ↔ b ∈ D :: O'.filter (fun b => decide (b ≠ D)) := fun b => by
      by_cases hb : b = D
      · subst hb; simp [nO']
      · simp [hb]
    refine q D (.lst vs) (.l out) ρ' _ H' (je out ρ' jj) (stp_mem (S.trans E S') mem) (by simp) no' hD0 hH' ?_
    rw [msk_mem mem]
    exact hd'
end
end DL
namespace DL
open PySem L2 PySem.Spec PyProof.Rows
/-- what x[::-1] asks of x -/
def RvR (X : Cx) (r : V → Hp → VK → Prop) : Prop :=
  ∀ (pins : List (Addr × Obj)) (s : Shared) (σ : L2.St) (H : Hp) (x : V) (v : Value) (t : Tok) (sl : Addr) (Q : VK), L2.Inv X pins σ H s → RelV x v →
    s.heap.IsSliceOf sl .none .none (.int (-1) t) → r x H Q →
    ∃ T id, typeLookup (.type T) (Str.ofString "__getitem__") = pure (some (.builtin id)) ∧ s.TypeIs v T ∧ wpAny (model X.prog X.w) X.A (getItem v (.ref sl)) (EP X pins σ Q) X.xe s
theorem RvR.or {X : Cx} {r r' : V → Hp → VK → Prop} (h : RvR X r) (h' : RvR X r') : RvR X fun x H Q => r x H Q ∨ r' x H Q := fun pins s σ H x v t sl Q I rv hs q => q.elim (h pins s σ H x v t sl Q I rv hs) (h' pins s σ H x v t sl Q I rv hs)
theorem pe_revA {X : Cx} {e : PySem.Expr} {te : TE} {k : Nat} {p1 p2 p3 pos : Pos} {r : V → Hp → VK → Prop} (hr : RvR X r) (he : PE X e te) :
    PE X (e.Subscript (.Slice none none (some (.UnaryOp .USub (.Constant (.int 1) k p1) p2)) p3) pos) (tUn r te) := by
  refine ⟨fun pins s σ H Q I h => ?_⟩
  refine PyProof.Rows.Subscript_ (thn (he.run pins s σ H _ I h) fun v s1 ⟨x, H1, I1, r1, q1⟩ => ?_)
  refine wpAny_Slice (thn (po_none.run pins s1 σ H1 (fun o H2 => o = none ∧ H2 = H1) I1 ⟨rfl, rfl⟩) fun vl s2 ⟨o, H2, I2, pl, eo, e2⟩ => ?_)
  subst eo; subst e2
  refine thn (po_none.run pins s2 σ H2 (fun o H3 => o = none ∧ H3 = H2) I2 ⟨rfl, rfl⟩) fun vu s3 ⟨o, H3, I3, pu, eo, e3⟩ => ?_
  subst eo; subst e3
  have hst : PO X (some (.UnaryOp .USub (.Constant (.int 1) k p1) p2)) _ := po_some (pe_un un_neg pe_int)
  refine thn (hst.run pins s3 σ H3 (fun o H4 => o = some (-1) ∧ H4 = H3) I3 ⟨1, rfl, -1, rfl, rfl, rfl⟩) fun vs s4 ⟨o, H4, I4, ps, eo, e4⟩ => ?_
  subst eo; subst e4
  cases pl
  cases pu
  cases ps with
  | int i t =>
  have I5 := I4.kept (t' := s4.toks) fun b ob q => Heap.get?_push_of_some { cls := Value.type "slice", data := Data.fields #[.none, .none, .int (-1) t] } q
  obtain ⟨T, id, h1, h2, h3⟩ := hr pins _ σ H4 x v t s4.heap.objs.size Q I5 r1 (Heap.IsSliceOf.new s4.1 _ _ _) q1
  exact PyProof.Rows.tail_any (ops := [v, .ref s4.heap.objs.size]) h2 h1 h3 rfl
/-- texts -/
def rRevS : V → Hp → VK → Prop := fun x H Q => ∃ z, x = .str z ∧ z.length ≤ sizeLine ∧ Q (.str ⟨z.cps.toList.reverse.toArray⟩) H
theorem fm_all : ∀ M : List Nat, (List.range M.length).filterMap (fun k => M[k]?) = M
  | [] => rfl
  | x :: r => by
    rw [List.length_cons, List.range_succ_eq_map, List.filterMap_cons]
    simp only [List.getElem?_cons_zero, List.filterMap_map]
    congr 1
    have := fm_all r
    refine Eq.trans ?_ this
    congr 1
theorem fm_congr {α β : Type} {f g : α → Option β} : ∀ {l : List α}, (∀ x ∈ l, f x = g x) → l.filterMap f = l.filterMap g
  | [], _ => rfl
  | x :: r, h => by
    rw [List.filterMap_cons, List.filterMap_cons, h x List.mem_cons_self, fm_congr fun y hy => h y (List.mem_cons_of_mem _ hy)]
theorem rev_pick (z : Str) : (List.filterMap (fun i => z.cps[i]?) (Builtin.Str.strSliceIndices none none (-1) z.length)) = z.cps.toList.reverse := by
  rw [PyProof.Rows.picked_rev]
  rw [List.filterMap_map]
  have hl : z.length = z.cps.toList.reverse.length := by rw [List.length_reverse]; exact (Array.length_toList ..).symm
  conv => rhs; rw [← fm_all z.cps.toList.reverse]
  rw [← hl]
  apply fm_congr
  intro k hk
  have hk : k < z.length := List.mem_range.mp hk
  show z.cps[z.length - 1 - k]? = z.cps.toList.reverse[k]?
  have hs : z.length = z.cps.toList.length := (Array.length_toList ..).symm
  rw [List.getElem?_reverse (by rw [← hs]; exact hk), ← hs]
  simp
theorem rv_str {X : Cx} : RvR X rRevS := by
  intro pins s σ H x v t sl Q I r hs h
  obtain ⟨z, rfl, hz, q⟩ := h
  obtain ⟨tk, rfl⟩ := r
  refine ⟨"str", "str.__getitem__", PySem.F.slot_str_getitem.lookup, rfl, ?_⟩
  obtain ⟨o, h1, h2, h3⟩ := hs
  refine wpAny_getItem_str_slice (l := none) (u := none) (st := some (-1, t)) ⟨o, h1, h2, h3⟩ rfl ?_
  have e : sliceMade z tk none none (some (-1, t)) = Made.str ⟨z.cps.toList.reverse.toArray⟩ := by
    unfold sliceMade
    rw [if_neg (by simp)]
    show Made.str ⟨(List.filterMap (fun i => z.cps[i]?) (Builtin.Str.strSliceIndices none none (-1) z.length)).toArray⟩ = _
    rw [rev_pick]
  rw [e, Made.post.eq_3]
  refine ⟨?_, .str _, H, I.tok _, ⟨_, rfl⟩, q⟩
  show (z.cps.toList.reverse.toArray).size ≤ sizeLine
  have hz : z.cps.size ≤ sizeLine := hz
  simpa using hz
end DL
namespace DL
open PySem L2 PySem.Spec PyProof.Rows
theorem adj_rev (n : Nat) : Builtin.Slice.sliceAdjust none none (-1) (n : Int) = ((n : Int) - 1, -1) := by
  unfold Builtin.Slice.sliceAdjust
  simp
theorem places_rev (n : Nat) : Builtin.Slice.slicePlaces ((n : Int) - 1) (-1) (-1) = n := by
  unfold Builtin.Slice.slicePlaces
  rw [if_neg (by decide), show (- -1 : Int) = 1 from rfl, Int.ediv_one]
  split <;> omega
theorem sliceApplied_rev {prog : Program} {w : World} {A : Around} {E : Value → Shared → Prop} {s : Shared} {sl : Addr} {n : Nat} {u : Tok} {Q : Int × Int × Nat → Shared → Prop}
    (hs : s.heap.IsSliceOf sl .none .none (.int (-1) u)) (h : Q ((n : Int) - 1, -1, n) s) : wpAny (model prog w) A (Builtin.Slice.sliceApplied (.ref sl) (pure (n : Int))) Q E s := by
  obtain ⟨os, hos, hcs, hds⟩ := hs
  unfold Builtin.Slice.sliceApplied
  refine wpAny_bind ?_
  unfold Builtin.Slice.sliceFields
  refine wpAny_bind (wpAny_field hos hds rfl ?_)
  refine wpAny_bind (wpAny_field hos hds rfl ?_)
  refine wpAny_bind (wpAny_field hos hds rfl ?_)
  refine wpAny_pure ?_
  refine wpAny_bind (PyProof.Rows.slicePart_int ?_)
  dsimp only
  rw [if_neg (by decide)]
  refine wpAny_bind (PyProof.Rows.slicePart_none ?_)
  refine wpAny_bind (PyProof.Rows.slicePart_none ?_)
  refine wpAny_bind (wpAny_pure ?_)
  have e : Builtin.Slice.sliceAdjust none none ((some (-1 : Int)).getD 1) (n : Int) = ((n : Int) - 1, -1) := adj_rev n
  rw [e]
  dsimp only
  have e2 : Builtin.Slice.slicePlaces ((n : Int) - 1) (-1) ((some (-1 : Int)).getD 1) = n := places_rev n
  rw [e2]
  exact wpAny_pure h
theorem fmV_all : ∀ M : List Value, (List.range M.length).filterMap (fun k => M[k]?) = M
  | [] => rfl
  | x :: r => by
    rw [List.length_cons, List.range_succ_eq_map, List.filterMap_cons]
    simp only [List.getElem?_cons_zero, List.filterMap_map]
    congr 1
    have := fmV_all r
    refine Eq.trans ?_ this
    congr 1
theorem pick_rev (items : Array Value) : (List.filterMap (fun (k : Nat) => items[((items.size : Int) - 1 + (k : Int) * -1).toNat]?) (List.range items.size)) = items.toList.reverse := by
  have hl : items.size = items.toList.reverse.length := by rw [List.length_reverse]; exact (Array.length_toList ..).symm
  conv => rhs; rw [← fmV_all items.toList.reverse]
  rw [← hl]
  apply fm_congr
  intro k hk
  have hk : k < items.size := List.mem_range.mp hk
  have hs : items.size = items.toList.length := (Array.length_toList ..).symm
  rw [List.getElem?_reverse (by rw [← hs]; exact hk), ← hs]
  have e : ((items.size : Int) - 1 + (k : Int) * -1).toNat = items.size - 1 - k := by omega
  rw [e]
  simp
theorem getItem_tuple_rev {prog : Program} {w : World} {A : Around} {E : Value → Shared → Prop} {s : Shared} {t sl : Addr} {u : Tok} {items : Array Value} {Q : Value → Shared → Prop}
    (ht : IsTup s.heap t items) (hs : s.heap.IsSliceOf sl .none .none (.int (-1) u)) (hsz : items.size ≤ sizeLine)
    (h : Q (.ref s.heap.objs.size) { heap := s.heap.push { cls := Value.type "tuple", data := Data.seq items.toList.reverse.toArray }, gens := s.gens, drawn := s.drawn, toks := s.toks, os := s.os }) :
    wpAny (model prog w) A (getItem (.ref t) (.ref sl)) Q E s := by
  have hT : s.TypeIs (.ref sl) "slice" := by
    obtain ⟨o, h1, h2, _⟩ := hs
    exact ⟨o, h1, h2⟩
  unfold getItem
  refine wpAny_holding (wpAny_bind (wpAny_sequenceKey (IsTup.typeIs ht) (by decide) (wpAny_bind (wpAny_callSpecial?_slot (IsTup.typeIs ht) slot_tuple_getitem (wpAny_call_entry slot_tuple_getitem (IsTup.typeIs ht) entry_tuple_getitem ?_ (args_tuple_getitem (.ref t) (.ref sl)))))))
  unfold Builtin.«tuple.__getitem__»
  refine wpAny_bind ?_
  refine wpAny_pure ?_
  refine wpAny_bind (tupleItemsOf_ ht ?_)
  refine wpAny_bind (wpAny_typeOf hT ?_)
  refine wpAny_ite_true (by decide) ?_
  refine wpAny_bind (sliceApplied_rev hs ?_)
  dsimp only
  refine wpAny_ite_false (by simp) ?_
  rw [pick_rev]
  unfold Builtin.Tuple.tupleExact
  exact wpAny_bind (wpAny_newObj_type (wpAny_pure ⟨_, rfl, wpAny_pure h⟩) (by show (items.toList.reverse.toArray).size ≤ sizeLine; simpa using hsz))
/-- tuples and lists -/
def rRevT (K : PySem.W.Frag) : V → Hp → VK → Prop := fun x H Q => ∃ a xs, x = .ref a ∧ SqT K H a xs ∧ ∀ p, H p = none → Q (.ref p) (upd H p (.tup xs.reverse))
def rRevL (K : PySem.W.Frag) : V → Hp → VK → Prop := fun x H Q => ∃ a xs, x = .ref a ∧ SqL K H a xs ∧ ∀ p, H p = none → Q (.ref p) (upd H p (.lst xs.reverse))
theorem rv_tup {X : Cx} : RvR X (rRevT X.K) := by
  intro pins s σ H x v t sl Q I r hs h
  obtain ⟨a, xs, rfl, hT, q⟩ := h
  cases r
  obtain ⟨its, rv, hi, hz⟩ := I.tuple hT
  have hlen := Vals.length rv
  refine ⟨"tuple", "tuple.__getitem__", slot_tuple_getitem.lookup, IsTup.typeIs hi, ?_⟩
  refine getItem_tuple_rev hi hs (by simpa [← hlen] using hz) ?_
  exact ⟨.ref s.heap.objs.size, upd H s.heap.objs.size (.tup xs.reverse), I.laid (fun b ob q => Heap.get?_push_of_some _ q) (Nat.le_refl _) ⟨by rw [List.length_reverse]; exact hz, its.reverse, Vals.reverse rv, IsTup.new s.heap _⟩, rfl, q _ (HOk.fresh I.hok (Nat.le_refl _))⟩
theorem rv_lst {X : Cx} : RvR X (rRevL X.K) := by
  intro pins s σ H x v t sl Q I r hs h
  obtain ⟨a, xs, rfl, hT, q⟩ := h
  cases r
  obtain ⟨its, rv, hi, hz⟩ := I.list hT
  have hlen := Vals.length rv
  refine ⟨"list", "list.__getitem__", slot_list_getitem.lookup, Heap.IsList.typeIs (PlainL.isList hi), ?_⟩
  refine wpAny_getItem_list_slice (PlainL.isList hi) hs .none .none (.int (-1) t) (by decide) ?_ (by simpa [← hlen] using hz)
  rw [PySem.W.krv_pick]
  exact ⟨.ref s.heap.objs.size, upd H s.heap.objs.size (.lst xs.reverse), I.laid (fun b ob q => Heap.get?_push_of_some _ q) (Nat.le_refl _) ⟨by rw [List.length_reverse]; exact hz, its.reverse, 0, Vals.reverse rv, Heap.get?_push_size s.heap rfl⟩, rfl, q _ (HOk.fresh I.hok (Nat.le_refl _))⟩
def rRevB (K : PySem.W.Frag) : V → Hp → VK → Prop := fun x H Q => rRevT K x H Q ∨ (rRevL K x H Q ∨ rRevS x H Q)
theorem rvB {X : Cx} : RvR X (rRevB X.K) := RvR.or rv_tup (RvR.or rv_lst rv_str)
section
variable {K : PySem.W.Frag} {Ψ : PyData → Prop} {O : List Addr} {H : Hp}
theorem dpa_rev : ∀ {vs : List V} {ds : List PyData}, DPAll K H vs ds → DPAll K H vs.reverse ds.reverse
  | _, _, .nil => .nil
  | _, _, .cons h r => by
    rw [List.reverse_cons, List.reverse_cons]
    exact dpa_append (dpa_rev r) (.cons h .nil)
theorem ru_revT {ds : List PyData} (k : Ψ (.tuple ds.reverse)) : RU (rRevB K) K (.tuple ds) Ψ := fun O H vx al hx Q q => by
  cases hx with
  | tup h d => exact .inl ⟨_, _, rfl, msk_t h, fun p hp => q _ _ _ k (Ext.new hp) (dp_newT al hp (dpa_rev d))⟩
theorem ru_revL {ds : List PyData} (k : Ψ (.list ds.reverse)) : RU (rRevB K) K (.list ds) Ψ := fun O H vx al hx Q q => by
  cases hx with
  | lst h d => exact .inr (.inl ⟨_, _, rfl, msk_l h, fun p hp => q _ _ _ k (Ext.new hp) (dp_newL al hp (dpa_rev d))⟩)
theorem ru_revS {z : Str} (hz : z.length ≤ 100000) (k : Ψ (.str ⟨z.cps.toList.reverse.toArray⟩)) : RU (rRevB K) K (.str z) Ψ := fun O H vx al hx Q q => by
  cases hx
  exact .inr (.inr ⟨z, rfl, Nat.le_trans hz (by decide), q _ _ H k (Ext.refl H) (.str _)⟩)
end
end DL
/-! ### the order of rows -/
namespace DL
open PySem L2 PySem.Spec PyProof.Rows
def lexI : List Int → List Int → Bool
  | [], [] => false
  | [], _ :: _ => true
  | _ :: _, [] => false
  | a :: x, b :: y => if a = b then lexI x y else decide (a < b)
theorem lexI_c (a b : Int) (x y : List Int) : lexI (a :: x) (b :: y) = if a = b then lexI x y else decide (a < b) := rfl
theorem lexI_irr : ∀ x : List Int, lexI x x = false
  | [] => rfl
  | a :: x => by rw [lexI_c, if_pos rfl]; exact lexI_irr x
theorem lexI_as : ∀ x y : List Int, lexI x y = true → lexI y x = false
  | [], [], _ => rfl
  | [], _ :: _, _ => rfl
  | _ :: _, [], h => nomatch h
  | a :: x, b :: y, h => by
    rw [lexI_c] at h ⊢
    by_cases e : a = b
    · rw [if_pos e] at h
      rw [if_pos e.symm]
      exact lexI_as x y h
    · rw [if_neg e] at h
      rw [if_neg (Ne.symm e)]
      have := of_decide_eq_true h
      exact decide_eq_false (by omega)
theorem lexI_tr : ∀ x y z : List Int, lexI y x = false → lexI z y = false → lexI z x = false
  | x, y, [], h1, h2 => by
    cases x with
    | nil => rfl
    | cons a x =>
      cases y with
      | nil => exact h1
      | cons b y => exact nomatch h2
  | [], _, _ :: _, _, _ => rfl
  | a :: x, [], c :: z, h1, _ => nomatch h1
  | a :: x, b :: y, c :: z, h1, h2 => by
    rw [lexI_c] at h1 h2 ⊢
    by_cases e1 : b = a
    · by_cases e2 : c = b
      · rw [if_pos e1] at h1
        rw [if_pos e2] at h2
        rw [if_pos (e2.trans e1)]
        exact lexI_tr x y z h1 h2
      · rw [if_neg e2] at h2
        subst e1
        rw [if_neg e2]
        exact h2
    · rw [if_neg e1] at h1
      have h1 := of_decide_eq_false h1
      by_cases e2 : c = b
      · subst e2
        rw [if_neg e1]
        exact decide_eq_false h1
      · rw [if_neg e2] at h2
        have h2 := of_decide_eq_false h2
        rw [if_neg (by omega)]
        exact decide_eq_false (by omega)
theorem lexI_tot : ∀ x y : List Int, lexI x y = false → lexI y x = false → x = y
  | [], [], _, _ => rfl
  | [], _ :: _, h, _ => nomatch h
  | _ :: _, [], _, h => nomatch h
  | a :: x, b :: y, h1, h2 => by
    rw [lexI_c] at h1 h2
    by_cases e : a = b
    · rw [if_pos e] at h1
      rw [if_pos e.symm] at h2
      rw [e, lexI_tot x y h1 h2]
    · rw [if_neg e] at h1
      rw [if_neg (Ne.symm e)] at h2
      have h1 := of_decide_eq_false h1
      have h2 := of_decide_eq_false h2
      omega
theorem swoI {α : Type} (k : α → List Int) : SrtO.Swo (fun u v => lexI (k u) (k v)) := ⟨fun x y => lexI_as _ _, fun x y z => lexI_tr _ _ _⟩
/-- sorted rows -/
abbrev Asc (l : List (List Int)) : Prop := l.Pairwise fun x y => lexI y x = false
theorem asc_uniq : ∀ {l m : List (List Int)}, Asc l → Asc m → l.Perm m → l = m
  | [], m, _, _, h => (List.Perm.eq_nil h.symm).symm
  | x :: l, [], _, _, h => absurd h.length_eq (by simp)
  | x :: l, y :: m, hl, hm, h => by
    have a := List.pairwise_cons.mp hl
    have b := List.pairwise_cons.mp hm
    have e : x = y := by
      rcases List.mem_cons.mp (h.mem_iff.mp (List.mem_cons_self (a := x) (l := l))) with e | hx
      · exact e
      · rcases List.mem_cons.mp (h.mem_iff.mpr (List.mem_cons_self (a := y) (l := m))) with e | hy
        · exact e.symm
        · exact lexI_tot x y (b.1 x hx) (a.1 y hy)
    subst e
    rw [asc_uniq a.2 b.2 h.cons_inv]
def ascB : List (List Int) → Bool
  | [] => true
  | [_] => true
  | x :: y :: l => !lexI y x && ascB (y :: l)
theorem ascB_ok : ∀ {l : List (List Int)}, ascB l = true → Asc l
  | [], _ => List.Pairwise.nil
  | [x], _ => List.pairwise_singleton _ _
  | x :: y :: l, h => by
    have h : (!lexI y x && ascB (y :: l)) = true := h
    rw [Bool.and_eq_true, Bool.not_eq_true'] at h
    have ih := ascB_ok h.2
    refine List.pairwise_cons.mpr ⟨fun z hz => ?_, ih⟩
    rcases List.mem_cons.mp hz with rfl | hz
    · exact h.1
    · exact lexI_tr _ _ _ h.1 ((List.pairwise_cons.mp ih).1 z hz)
/-! ### as the sort asks it -/
def lexZ : List Int → List Int → Bool → Bool
  | a :: x, b :: y, f => if a = b then lexZ x y f else decide (a < b)
  | _, _, f => f
theorem lexZ_I : ∀ x y : List Int, lexZ x y (decide (x.length < y.length)) = lexI x y
  | [], [] => rfl
  | [], _ :: _ => by simp [lexZ, lexI]
  | _ :: _, [] => by simp [lexZ, lexI]
  | a :: x, b :: y => by
    have ih := lexZ_I x y
    have e : decide ((a :: x).length < (b :: y).length) = decide (x.length < y.length) := by simp
    rw [e, lexI_c, ← ih]
    rfl
section
variable {prog : Program} {w : World} {A : Around} {E : Value → Shared → Prop} {s : Shared}
theorem lex_run {Q : Bool → Shared → Prop} {b fin : Bool} : ∀ {us vs : List Value} {x y : List Int} (i : Nat), IntsAre us x → IntsAre vs y → Q (lexZ x y fin) s → PySem.W.KatLex prog w A b fin Q (us.zip vs) i s
  | _, _, _, _, i, .nil, _, h => PySem.W.kat_nil h
  | _, _, _, _, i, .cons _ _ _, .nil, h => PySem.W.kat_nil h
  | _, _, _, _, i, .cons (vs := us) (ns := x) n1 t1 r1, .cons (vs := vs) (ns := y) n2 t2 r2, h => by
    show PySem.W.KatLex prog w A b fin Q ((Value.int n1 t1, Value.int n2 t2) :: us.zip vs) i s
    refine PySem.W.kat_cons (wpAny_eqBool_int ?_)
    have hz : lexZ (n1 :: x) (n2 :: y) fin = if n1 = n2 then lexZ x y fin else decide (n1 < n2) := rfl
    rw [hz] at h
    by_cases e : n1 = n2
    · rw [if_pos e] at h
      rw [show (n1 == n2) = true from beq_iff_eq.mpr e]
      exact PySem.W.kat_yes (lex_run (i + 1) r1 r2 h)
    · rw [if_neg e] at h
      rw [show (n1 == n2) = false from beq_eq_false_iff_ne.mpr e]
      exact PySem.W.kat_no (TS.oneLt_ints _ h)
theorem cmpI {vs : List Value} {k : Value → List Int} (hk : ∀ u ∈ vs, TS.TupInts s.heap u (k u)) : SrtO.Cmp prog w A s (tuples' true) (fun p => p.1 ∈ vs) (SrtO.lt2 fun u v => lexI (k u) (k v)) := by
  intro p q m1 m2
  obtain ⟨a1, xs1, e1, ⟨o1, g1, c1, n1, d1⟩, i1⟩ := hk _ m1
  obtain ⟨a2, xs2, e2, ⟨o2, g2, c2, n2, d2⟩, i2⟩ := hk _ m2
  show wpAny (model prog w) A (keyLt' (tuples' true) p.1 q.1) (fun r s' => s' = s ∧ r = lexI (k p.1) (k q.1)) (fun _ _ => False) s
  generalize k p.1 = x at i1 ⊢
  generalize k q.1 = y at i2 ⊢
  rw [e1, e2]
  refine PySem.W.kat_lt g1 d1 g2 d2 (lex_run 0 i1 i2 ⟨rfl, ?_⟩)
  have l1 := ints_len i1
  have l2 := ints_len i2
  have z : decide (xs1.size < xs2.size) = decide (x.length < y.length) := by
    rw [← l1, ← l2]
    simp
  rw [z]
  exact lexZ_I x y
theorem firstsI {h : Heap} : ∀ vs : List Value, (∀ u ∈ vs, ∃ ns, TS.TupInts h u ns ∧ ns ≠ []) → ∃ fs, PySem.W.KatTups h vs fs ∧ fs.length = vs.length ∧ ∀ f ∈ fs, ∃ n t, f = Value.int n t
  | [], _ => ⟨[], PySem.W.KatTups.nil, rfl, fun f hf => nomatch hf⟩
  | u :: vs, hx => by
    obtain ⟨fs, r1, r2, r3⟩ := firstsI vs fun z hz => hx z (List.mem_cons_of_mem _ hz)
    obtain ⟨ns, ⟨a, xs, rfl, ⟨o, ho, hc, n, hd⟩, is⟩, hne⟩ := hx u List.mem_cons_self
    obtain ⟨m, t, hf⟩ : ∃ m t, xs[0]? = some (Value.int m t) := by
      cases hL : xs.toList with
      | nil =>
        rw [hL] at is
        cases is
        exact absurd rfl hne
      | cons v L =>
        rw [hL] at is
        have h0 : xs.toList[0]? = some v := by rw [hL]; rfl
        cases is with
        | cons m t _ => exact ⟨m, t, by simpa using h0⟩
    refine ⟨.int m t :: fs, PySem.W.KatTups.cons ho hc hd hf r1, congrArg (· + 1) r2, fun f hm => ?_⟩
    rcases List.mem_cons.mp hm with e | hm
    · exact ⟨m, t, e⟩
    · exact r3 f hm
theorem sortI_raw {l : Addr} {vs : List Value} {k : Value → List Int} {Q : Value → Shared → Prop} (hl : s.heap.IsList l vs.toArray) (hz : vs.length ≤ sizeLine) (hk : ∀ u ∈ vs, TS.TupInts s.heap u (k u)) (hne : 2 ≤ vs.length → ∀ u ∈ vs, k u ≠ [])
    (h : ∀ out : List Value, SrtO.Srtd (fun u v => lexI (k u) (k v)) out → out.Perm vs → Q (.ref (s.heap.objs.size + 1)) { s with heap := PyProof.Rows.sortedAll s.heap vs out.toArray }) :
    wpAny (model prog w) A (call (.builtin "sorted") [.ref l]) Q E s := by
  refine SrtO.sorted_ord (swoI k) hl hz (fun h2 h₁ a ha kk => ?_) fun out hs hb => h out hs hb.perm
  intro h' keep
  have tup : ∀ u ∈ vs, TS.TupInts h' u (k u) := fun u hu => (hk u hu).keeps fun b o e c => by
    obtain ⟨n1, n2⟩ := kk b o e
    exact keep b o n1 n2
  obtain ⟨fs, f1, f2, f3⟩ := firstsI vs fun u hu => ⟨k u, tup u hu, hne h2 u hu⟩
  refine ⟨tuples' true, fun Q E hq => ?_, cmpI (s := { s with heap := h' }) tup⟩
  have e : (Value.type "int" != Value.type "tuple") = true := by decide +kernel
  rw [← e] at hq
  exact PySem.W.kat_kind (T := .type "int") f1 (by rw [f2]; omega) (fun f hm => by
    obtain ⟨n, t, rfl⟩ := f3 f hm
    exact PySem.W.Looks.of_pure rfl) rfl hq
end
/-! ### as a rule -/
def TupsI (K : PySem.W.Frag) (H : Hp) : List V → List (List Int) → Prop
  | [], [] => True
  | x :: xs, r :: rs => TupI K H x r ∧ TupsI K H xs rs
  | _, _ => False
def rSortTI (K : PySem.W.Frag) : List V → Hp → VK → Prop := fun vs H Q => ∃ (a : Addr) (xs : List V) (rs : List (List Int)), vs = [V.ref a] ∧ SqL K H a xs ∧ TupsI K H xs rs ∧ (2 ≤ rs.length → ∀ r ∈ rs, r ≠ []) ∧
  ∀ ys rs' p, ys.length = rs'.length → (ys.zip rs').Perm (xs.zip rs) → Asc rs' → H p = none → Q (.ref p) (upd H p (.lst ys))
theorem tupsI_len {K : PySem.W.Frag} {H : Hp} : ∀ {xs : List V} {rs : List (List Int)}, TupsI K H xs rs → xs.length = rs.length
  | [], [], _ => rfl
  | _ :: _, _ :: _, h => congrArg (· + 1) (tupsI_len h.2)
theorem tupsI_mem {K : PySem.W.Frag} {H : Hp} : ∀ {xs : List V} {rs : List (List Int)}, TupsI K H xs rs → ∀ x ∈ xs, ∃ r ∈ rs, TupI K H x r
  | x :: xs, r :: rs, h, y, hy => by
    rcases List.mem_cons.mp hy with rfl | hy
    · exact ⟨r, List.mem_cons_self, h.1⟩
    · obtain ⟨r', h1, h2⟩ := tupsI_mem h.2 y hy
      exact ⟨r', List.mem_cons_of_mem _ h1, h2⟩
theorem zip_same {α β γ : Type} (f : α → β) (g : α → γ) : ∀ l : List α, (l.map f).zip (l.map g) = l.map fun a => (f a, g a)
  | [] => rfl
  | a :: l => by rw [List.map_cons, List.map_cons, List.zip_cons_cons, zip_same f g l]; rfl
theorem tupsI_eq {K : PySem.W.Frag} {H : Hp} {g : V → List Int} : ∀ {xs : List V} {rs : List (List Int)}, TupsI K H xs rs → (∀ x r, TupI K H x r → r = g x) → rs = xs.map g
  | [], [], _, _ => rfl
  | x :: xs, r :: rs, h, hg => by
    rw [List.map_cons, ← hg x r h.1, ← tupsI_eq h.2 hg]
theorem cr_sortTI {X : Cx} : CallR X (.builtin "sorted") (rSortTI X.K) := by
  intro pins s σ H vs us Q I r h
  obtain ⟨a, xs, rs, rfl, hs, hx, hne, q⟩ := h
  obtain ⟨its, rv, hl, hz⟩ := I.list hs
  rw [Vals.ref1 r]
  have tl := tupsI_len hx
  obtain ⟨e1, e2⟩ := bkV_refs rv fun x m => by
    obtain ⟨ns, _, t, e, _⟩ := tupsI_mem hx x m
    exact ⟨t, e⟩
  let g : V → List Int := fun x => match x with
    | .ref t => TS.intsOf s.heap (.ref t)
    | _ => []
  have hg : ∀ x r, TupI X.K H x r → r = g x := fun x r ⟨t, e, ht⟩ => by
    subst e
    exact ((tupI_raw I ht).ints).symm
  have ers := tupsI_eq hx hg
  have hk : ∀ u ∈ its, TS.TupInts s.heap u (g (bkV u)) ∧ ∃ r ∈ rs, TupI X.K H (bkV u) r := fun u hu => by
    obtain ⟨t, rfl⟩ := e2 u hu
    obtain ⟨ns, hm, t', e, ht⟩ := tupsI_mem hx (.ref t) (by rw [e1]; exact List.mem_map.mpr ⟨_, hu, rfl⟩)
    cases e
    have := hg _ _ ⟨t, rfl, ht⟩
    refine ⟨?_, ns, hm, t, rfl, ht⟩
    show TS.TupInts s.heap (.ref t) (g (.ref t))
    rw [← this]
    exact tupI_raw I ht
  have hil := rv.length
  refine sortI_raw (k := fun u => g (bkV u)) hl.isList (by rw [← hil]; exact hz) (fun u hu => (hk u hu).1) (fun h2 u hu => ?_) fun out hs2 hp => ?_
  · obtain ⟨r, hm, ht⟩ := (hk u hu).2
    rw [← hg _ _ ht]
    exact hne (by omega) r hm
  · obtain ⟨ep, he'⟩ := PyProof.Rows.sortedAll_at s.heap its out.toArray
    have h3 : ∀ u ∈ out, ∃ b, u = Value.ref b := fun u hu => e2 u (hp.mem_iff.mp hu)
    have hp2 : (out.map bkV).Perm xs := by
      rw [e1]
      exact hp.map bkV
    refine ⟨.ref _, upd H (s.heap.objs.size + 1) (.lst (out.map bkV)), I.laid (t' := s.toks) (fun _ _ e => PyProof.Rows.sortedAll_old e) (Nat.le_succ _) ⟨by rw [hp2.length_eq]; exact hz, out, ep, bkV_vals h3, he'⟩, rfl, q (out.map bkV) (out.map fun u => g (bkV u)) _ (by rw [List.length_map, List.length_map]) ?_ (List.pairwise_map.mpr hs2) (I.hok.fresh (Nat.le_succ _))⟩
    rw [ers, e1, List.map_map, zip_same, zip_same]
    exact hp.map _
/-! ### on data -/
section
variable {K : PySem.W.Frag} {O : List Addr} {H : Hp} {Ψ : PyData → Prop}
theorem tupsI_dp : ∀ {xs : List V} {rs : List (List Int)}, DPAll K (msk O H) xs (rs.map fun r => .tuple (r.map .int)) → TupsI K H xs rs
  | _, [], .nil => trivial
  | _, r :: rs, .cons h t => by
    refine ⟨?_, tupsI_dp t⟩
    cases h with
    | tup hq hd =>
      have e := dpa_intsB hd
      subst e
      exact ⟨_, rfl, msk_t hq⟩
theorem dpa_zip : ∀ {xs : List V} {rs : List (List Int)}, DPAll K H xs (rs.map fun r => .tuple (r.map .int)) → ∀ p ∈ xs.zip rs, DP K H p.1 (.tuple (p.2.map .int))
  | _, [], .nil, p, h => nomatch h
  | x :: xs, r :: rs, .cons a t, p, h => by
    rcases List.mem_cons.mp h with rfl | h
    · exact a
    · exact dpa_zip t p h
theorem dpa_unzip : ∀ {xs : List V} {rs : List (List Int)}, xs.length = rs.length → (∀ p ∈ xs.zip rs, DP K H p.1 (.tuple (p.2.map .int))) → DPAll K H xs (rs.map fun r => .tuple (r.map .int))
  | [], [], _, _ => .nil
  | x :: xs, r :: rs, e, h => .cons (h (x, r) List.mem_cons_self) (dpa_unzip (Nat.succ.inj e) fun p hp => h p (List.mem_cons_of_mem _ hp))
theorem zip_snd {α β : Type} : ∀ {xs : List α} {rs : List β}, xs.length = rs.length → (xs.zip rs).map (·.2) = rs
  | [], [], _ => rfl
  | x :: xs, r :: rs, e => by rw [List.zip_cons_cons, List.map_cons, zip_snd (Nat.succ.inj e)]
/-- what a sort makes of rows -/
theorem sortTI_dp {xs ys : List V} {rs rs' : List (List Int)} (h : DPAll K H xs (rs.map fun r => .tuple (r.map .int))) (el : ys.length = rs'.length) (hp : (ys.zip rs').Perm (xs.zip rs)) : DPAll K H ys (rs'.map fun r => .tuple (r.map .int)) ∧ rs'.Perm rs := by
  refine ⟨dpa_unzip el fun p hm => dpa_zip h p (hp.mem_iff.mp hm), ?_⟩
  have l := dpa_len h
  rw [List.length_map] at l
  have := hp.map (·.2)
  rwa [zip_snd el, zip_snd l] at this
theorem rc_sortTI {rs : List (List Int)} (hne : 2 ≤ rs.length → ∀ r ∈ rs, r ≠ []) (k : ∀ rs' : List (List Int), Asc rs' → rs'.Perm rs → Ψ (.list (rs'.map fun r => .tuple (r.map .int)))) : RC (rSortTI K) K [.list (rs.map fun r => .tuple (r.map .int))] Ψ := fun O H vs al h Q q => by
  cases h with
  | cons h r =>
    cases r
    cases h with
    | lst hq hd =>
      refine ⟨_, _, rs, rfl, msk_l hq, tupsI_dp hd, hne, fun ys rs' p el hp ha hn => ?_⟩
      obtain ⟨d1, d2⟩ := sortTI_dp hd el hp
      exact q _ _ _ (k rs' ha d2) (Ext.new hn) (dp_newL al hn d1)
/-- sorted(name) of a list of its own -/
theorem dw_sortO {n : Nat} {ρ : Rho} {Φ : PD} {i : Nat} {rs : List (List Int)} (h0 : ρ[i]? = some (some (.lst (.l (rs.map fun r => .tuple (r.map .int)))))) (hne : 2 ≤ rs.length → ∀ r ∈ rs, r ≠ []) (k : ∀ rs' : List (List Int), Asc rs' → rs'.Perm rs → Φ (.list (rs'.map fun r => .tuple (r.map .int))) ρ) :
    DW K n (tCB (rSortTI K) (tCons (tVar i) tNil)) ρ Φ := fun O σ H E Q q => by
  obtain ⟨p, vs, a, b, c, d⟩ := env_lst E h0
  refine ⟨.ref p, a, p, vs, rs, rfl, SqL.of c, tupsI_dp d, hne, fun ys rs' p' el hp ha hn => ?_⟩
  obtain ⟨d1, d2⟩ := sortTI_dp d el hp
  exact q _ _ ρ O _ (k rs' ha d2) (Stp.grow E (Ext.new hn)) (dp_newL E.al hn d1)
end
end DL
/-! ### yield from a list -/
namespace DL
open PySem L2 PySem.Spec PyProof.Rows GenW
section
variable {prog : Program} {w : World} {A : Around} {E : Value → Shared → Prop} {s : Shared}
theorem nextL_item {j q : Addr} {i : Nat} {us : Array Value} {u : Value} {Q : Option Value → Shared → Prop} (hj : s.heap.IsListIter j q i) (hq : s.heap.IsList q us) (hu : us[i]? = some u)
    (k : ∀ h', h'.IsListIter j q (i + 1) → Heap.SameBut j s.heap h' → Q (some u) { s with heap := h' }) : wpAny (model prog w) A (callSpecial? (.ref j) "__next__") Q E s := by
  obtain ⟨o1, g1, c1, d1⟩ := id hj
  obtain ⟨o2, g2, _, n2, d2⟩ := hq
  have ty := hj.typeIs
  refine wpAny_callSpecial?_slot (name := Str.ofString "__next__") ty slot_listiter_next ?_
  refine wpAny_call_entry slot_listiter_next ty entry_listiter_next ?_ (args_listiter_next (.ref j))
  show wpAny _ _ (field (.ref j) 0 >>= _) _ _ s
  refine wpAny_bind (wpAny_field g1 d1 (x := .ref q) rfl ?_)
  show wpAny _ _ (if (Value.ref q == Value.none) = true then _ else _) _ _ s
  have ne : ¬ ((Value.ref q == Value.none) = true) := Bool.false_ne_true
  rw [if_neg ne]
  show wpAny _ _ (field (.ref j) 1 >>= _) _ _ s
  refine wpAny_bind (wpAny_field g1 d1 (x := .int i 0) rfl ?_)
  show wpAny _ _ (seqItems? (.ref q) >>= _) _ _ s
  refine wpAny_bind (wpAny_seqItems g2 d2 ?_)
  simp only [Int.toNat_natCast, hu]
  refine wpAny_bind (wpAny_setField g1 d1 (by simp) ?_)
  refine wpAny_pure ⟨u, rfl, k _ ⟨_, Heap.get?_update_self _ g1 (Obj.isFreed_of_fields (Obj.data_mapFields d1 _)), (Obj.cls_mapFields ..).trans c1, ?_⟩ (Heap.SameBut.update ..)⟩
  rw [Obj.data_mapFields d1]
  simp [rawInt]
theorem nextL_end {j q : Addr} {i : Nat} {us : Array Value} {Q : Option Value → Shared → Prop} (hA : A.handled = none) (hj : s.heap.IsListIter j q i) (hq : s.heap.IsList q us) (hu : us[i]? = none)
    (k : ∀ e h', StopX e h' → Heap.ExtBut j s.heap h' → E e { s with heap := h' }) : wpAny (model prog w) A (callSpecial? (.ref j) "__next__") Q E s := by
  obtain ⟨o1, g1, c1, d1⟩ := id hj
  obtain ⟨o2, g2, _, n2, d2⟩ := hq
  have ty := hj.typeIs
  refine wpAny_callSpecial?_slot (name := Str.ofString "__next__") ty slot_listiter_next ?_
  refine wpAny_call_entry slot_listiter_next ty entry_listiter_next ?_ (args_listiter_next (.ref j))
  show wpAny _ _ (field (.ref j) 0 >>= _) _ _ s
  refine wpAny_bind (wpAny_field g1 d1 (x := .ref q) rfl ?_)
  show wpAny _ _ (if (Value.ref q == Value.none) = true then _ else _) _ _ s
  have ne : ¬ ((Value.ref q == Value.none) = true) := Bool.false_ne_true
  rw [if_neg ne]
  show wpAny _ _ (field (.ref j) 1 >>= _) _ _ s
  refine wpAny_bind (wpAny_field g1 d1 (x := .int i 0) rfl ?_)
  show wpAny _ _ (seqItems? (.ref q) >>= _) _ _ s
  refine wpAny_bind (wpAny_seqItems g2 d2 ?_)
  simp only [Int.toNat_natCast, hu]
  refine wpAny_bind (wpAny_rule (wpAny_bind (wpAny_setField g1 d1 (by simp) ?_)))
  show wpAny _ _ (newExc (.type "StopIteration") [] >>= _) _ _ _
  refine wpAny_bind ?_
  simp only [newExc, newTuple]
  refine wpAny_bind (wpAny_newObj_type ?_ (by size_fits))
  have fa : firstArgMember (.type "StopIteration") [] = pure Value.none := by first | rfl | (simp only [firstArgMember]; rfl)
  refine wpAny_bind (wpAny_of_eq fa ?_)
  refine wpAny_newObj_type ?_ (by size_fits)
  simp only [raiseNew]
  refine wpAny_bind (wpAny_handled ?_)
  have hn : A.in1.handled = none := hA
  first | rw [hn] | rw [hA]
  refine wpAny_bind (wpAny_pure (wpAny_throw (k _ _ ⟨_, _, _, rfl, Heap.get?_push_size _ rfl, rfl, rfl, ?_⟩ (((Heap.SameBut.update ..).extBut.push _).push _))))
  first | rfl | kernel_rfl
end
def tYfL (te : TE) : TYf := fun σ H Q => te σ H fun x H1 => ∃ a xs, x = .ref a ∧ H1 a = some (.lst xs) ∧ Q xs H1
theorem close_li : typeLookup (.type "list_iterator") "close" = pure none := by
  rw [typeLookup_type, builtinLookup_eq_fast]
  kernel_rfl
theorem yf_lst {X : Cx} {e : PySem.Expr} {te : TE} (he : PE X e te) : YfE X e (tYfL te) := by
  refine ⟨fun pins s σ H Q I h => ?_⟩
  refine thn (he.run pins s σ H _ I h) fun v s1 ⟨x, H1, I1, rx, a, xs, ex, ha, hq⟩ => ?_
  subst ex
  cases rx
  obtain ⟨its, rits, pl, hz⟩ := I1.list (SqL.of ha)
  have hL : s1.heap.IsList a its.toArray := pl.isList
  refine ⟨"list", hL.typeIs, by decide, wpAny_pyIter_list hL ?_⟩
  have old : ∀ b o, s1.heap.get? b = some o → b ≠ s1.heap.objs.size := fun b o eb => Nat.ne_of_lt (Heap.lt_size eb)
  have keep : ∀ b o, s1.heap.get? b = some o → (s1.heap.push { cls := .type "list_iterator", data := .fields #[.ref a, .int 0 0] }).get? b = some o := fun b o eb => Heap.get?_push_of_some _ eb
  have hLa : ∀ h' : Heap, (∀ o, s1.heap.get? a = some o → h'.get? a = some o) → h'.IsList a its.toArray := fun h' hk => hL.at hk
  have nea : a ≠ s1.heap.objs.size := by
    obtain ⟨o, g, _⟩ := hL
    exact old a o g
  refine ⟨s1.heap.objs.size, H1, xs, fun i h => h.IsListIter s1.heap.objs.size a i ∧ h.IsList a its.toArray, rfl, I1.kept (t' := s1.toks) keep, .inr I1.sz, Nat.ne_of_gt I1.lt, ?_, I1.hok.fresh (Nat.le_refl _), ?_, ?_, ?_, hq⟩
  · intro y c hy
    obtain ⟨_, o, g, _⟩ := I1.cell y c hy
    exact old c o g
  · intro p hp
    exact old p.1 _ (I1.pin p hp).1
  · exact ⟨⟨_, Heap.get?_push_size _ rfl, rfl, rfl⟩, hLa _ fun o g => keep a o g⟩
  · refine ⟨⟨"list_iterator", fun i h q => ?_, close_li, by decide⟩, fun i h h' q hk => ?_, fun A' i x s2 Q' E' hA hx q hQ => ?_, fun A' s2 Q' E' hA q hE => ?_⟩
    · obtain ⟨⟨o, g, c, _⟩, _⟩ := q
      exact ⟨o, g, c⟩
    · obtain ⟨⟨o, g, r⟩, q2⟩ := q
      refine ⟨⟨o, hk _ o (.inl rfl) g, r⟩, q2.at fun o2 g2 => hk _ o2 (.inr ?_) g2⟩
      rw [ha]
      exact fun z => nomatch z
    · obtain ⟨q1, q2⟩ := q
      obtain ⟨u, hu, ru⟩ := rits.get hx
      refine nextL_item q1 q2 (u := u) (by simpa using hu) fun h' q3 sb => hQ u h' s2.toks ru ⟨q3, q2.at fun o g => sb.extBut a o nea g⟩ fun b o hb eb => sb.extBut b o hb eb
    · obtain ⟨q1, q2⟩ := q
      have hlen := rits.length
      have hnone : its.toArray[xs.length]? = none := by simp; omega
      exact nextL_end hA q1 q2 hnone fun e h' hS hk => hE e h' s2.toks hS fun b o hb eb => hk b o hb eb
/-! ### generators on data -/
abbrev SgW := List Ent → (List PyData → Prop) → Prop
def spGD (K : PySem.W.Frag) (np : Nat) (W : SgW) : SpG := fun vs H Q _ => ∃ O es Φ, vs.length = np ∧ Envs K O (vs.map some) (es.map some) H ∧ W es Φ ∧
  ∀ (out : List V) (ds : List PyData) (es' : List Ent) (O' : List Addr) (H' : Hp), Φ ds → Stp K np O (vs.map some) (es.map some) H O' (vs.map some) (es'.map some) H' → DPAll K (msk O' H') out ds → Q out H'
section
variable {P : Program} {w : World} {K : PySem.W.Frag} {mg : Str → Option Value} {base : Heap}
/-- THE RULE for: check; yield from a new list -/
theorem gfn_data {x qual : Str} {st : Stmt} {f : Addr} {fd : FuncData} {N ps : List Str} {k np : Nat} {W : SgW} (F : Fun K x qual st f fd) (S : GScope N ps (defScope st)) (hp : ps.length = np)
    (body : ∀ (cdv : Value) (A : Around) (outer : List Env) (s : Shared) (H : Hp) (E : XK) (pn : List (Addr × Obj)), Room k (A.deeper (envOfC qual (defScope st) s.heap.objs.size f cdv)) →
      ∃ ts te, GSs (gcxOf P w K mg base N qual (defScope st) f cdv A outer s H E pn) (defBody st) (tGThen (tPlain ts) (tGThen (tGFrom (tYfL te)) tG0)) ∧
        ∀ es Φ, W es Φ → es.length = np → DSx K np ts (es.map some ++ List.replicate (N.length - np) none) { nx := fun ρ => DF K np te ρ fun o ρ' => ∃ ds, o = .l ds ∧ ds.length ≤ 100000 ∧ Φ ds, rt := fun _ _ => False }) :
    GFn P w K mg base (k + 1) f fd ps (spGD K np W) := by
  obtain ⟨oc, od, kV, doc, pm, an, cdv, ct, osl, rfl, lk, hcd⟩ := F.ex
  refine gfn_of lk hcd S (fun vs H Q E h => ?_) fun A outer s H vs Q E pn hr h => ?_
  · obtain ⟨O, es, Φ, h, _⟩ := h
    omega
  · obtain ⟨O, es, Φ, hv, he, hw, hk⟩ := h
    have hl : es.length = np := by have := he.len; simp at this; omega
    obtain ⟨ts, te, h1, h2⟩ := body cdv A outer s H E pn hr
    refine ⟨_, h1, ?_⟩
    show ts _ (vs.map some ++ List.replicate (N.length - vs.length) none) H
    rw [hv]
    refine h2 es Φ hw hl O _ H (env_start he hl hv) _ (fun O' σ' ρ' H' q S' => ?_) (fun v d O' σ' ρ' H' q S' r => q.elim) (fun p ws ds O' σ' ρ' H' q S' => q.elim) (fun O' σ' ρ' H' q S' => q.elim) (fun O' σ' ρ' H' q S' => q.elim)
    show te σ' H' _
    refine q O' σ' H' S'.env _ fun p ho o ρ2 O2 H2 ⟨ds, eo, hlen, kk⟩ S2 np no h0 hH hd => ?_
    subst eo
    obtain ⟨xs, rfl, hd⟩ := ho_l hd
    refine ⟨p, xs, rfl, hH, ?_, ?_⟩
    · simp only [List.length_nil, Nat.zero_add]
      rw [dpa_len hd]
      exact Nat.le_trans hlen (by decide)
    · have S3 := S'.trans (env_start he hl hv) S2
      obtain ⟨S4, _⟩ := stp_fin he hl hv S3
      rw [List.nil_append]
      exact hk xs ds _ _ _ kk S4 hd
end
section
variable {K : PySem.W.Frag} {n np : Nat} {ρ : Rho} {Φ : PD} {W : SgW}
/-- list(g(..)) -/
theorem dw_listG {t : TA} {E0 : XK} (h : DA K n t ρ fun ds ρ1 => ds.length = np ∧ W (ds.map Ent.val) fun out => Φ (.list out) ρ1) : DW K n (tListG (tCallG (spGD K np W) [] E0 t)) ρ Φ := fun O σ H E Q q =>
  h O σ H E _ fun vs ds ρ1 O1 H1 ⟨hl, hw⟩ S r => by
    show spGD K np W (vs ++ []) H1 _ E0
    rw [List.append_nil]
    refine ⟨O1, ds.map Ent.val, _, (dpa_len r).trans hl, env_args S.env.al r, hw, fun out out' es' O' H' k S' rr p hp => ?_⟩
    have S2 := S.trans E (stp_called S.env r S')
    exact q _ _ ρ1 O' _ k (S2.trans E (Stp.grow S2.env (Ext.new hp))) (dp_newL S2.env.al hp rr)
end
theorem passF {P : Program} {w : World} {X : Cx} : Passes (CX P w) X E0 := fun _ _ _ _ _ _ _ h => by
  obtain ⟨_, _, _, _, _, _, _, _, _, _, _, _, hE⟩ := h
  exact hE.elim
theorem noStop0 {K : PySem.W.Frag} : NoStop K E0 := fun _ _ _ h => h.elim
end DL
namespace DL
open PySem L2 PySem.Spec PyProof.Rows
section
variable {K : PySem.W.Frag} {n np : Nat} {O O1 : List Addr} {σ : L2.St} {ρ ρ1 : Rho} {H H1 : Hp} {ta tb tc te : TE} {tt tu : TT} {Φ : PD} {F : DE2} {ts us : TS} {Ψ : PyData → Prop} {x y : PyData} {Φf : PF}
/-! ### name.pop() -/
theorem dpa_snoc : ∀ {ds : List PyData} {d : PyData} {vs : List V}, DPAll K H vs (ds ++ [d]) → ∃ us v, vs = us ++ [v] ∧ DPAll K H us ds ∧ DP K H v d
  | [], d, _, .cons h .nil => ⟨[], _, rfl, .nil, h⟩
  | e :: ds, d, _, .cons h t => by
    obtain ⟨us, v, rfl, h1, h2⟩ := dpa_snoc (ds := ds) t
    exact ⟨_ :: us, v, rfl, .cons h h1, h2⟩
theorem dw_popO {i : Nat} {ds : List PyData} {d : PyData} (h0 : ρ[i]? = some (some (.lst (.l (ds ++ [d]))))) (k : Φ d (ρ.set i (some (.lst (.l ds))))) : DW K n (tBM0 K "list" rPop (tVar i)) ρ Φ := fun O σ H E Q q => by
  obtain ⟨p, vs, a, b, c, hd⟩ := env_lst E h0
  obtain ⟨us, v, rfl, h1, h2⟩ := dpa_snoc hd
  refine ⟨.ref p, a, .inl ⟨rfl, _, SqL.of c⟩, p, _, v, rfl, rfl, c, by simp, ?_⟩
  rw [List.dropLast_concat]
  have S := stp_write (n := n) (vs := us) E h0 a h1
  exact q v d _ O _ k S (S.dp E h2)
/-! ### truth -/
def tTru (K : PySem.W.Frag) (ta : TE) : TT := fun σ H Q => ta σ H fun x H' => ∃ k, TruV K x H' k ∧ Q k H'
theorem pt_tru {X : Cx} {K : PySem.W.Frag} {a : PySem.Expr} {ta : TE} (hK : X.K = K) (ha : PE X a ta) (he : ∀ whole, isTrue a X.env whole = (do let v ← whole; standAt a.pos; holding [v] (truthy v))) : PT X a (tTru K ta) := by
  subst hK
  exact pt_truth ha he
theorem dt_truO {i : Nat} {ds : List PyData} {Ψ : Bool → Rho → Prop} (h0 : ρ[i]? = some (some (.lst (.l ds)))) (k : Ψ (!ds.isEmpty) ρ) : DT K n (tTru K (tVar i)) ρ Ψ := fun O σ H E Q q => by
  obtain ⟨p, vs, a, b, c, hd⟩ := env_lst E h0
  refine ⟨.ref p, a, _, .inl ⟨vs, SqL.of c, rfl⟩, ?_⟩
  have e : (!vs.isEmpty) = !ds.isEmpty := by cases hd <;> rfl
  rw [e]
  exact q _ ρ O H k (Stp.refl E)
theorem dt_truL {Ψ : Bool → Rho → Prop} (h : DW K n ta ρ fun d ρ1 => ∃ ds, d = .list ds ∧ Ψ (!ds.isEmpty) ρ1) : DT K n (tTru K ta) ρ Ψ := fun O σ H E Q q =>
  h O σ H E _ fun v d ρ1 O1 H1 ⟨ds, e, k⟩ S r => by
    subst e
    cases r with
    | lst hq hd =>
      refine ⟨_, .inl ⟨_, msk_l hq, rfl⟩, ?_⟩
      have e : ∀ {vs : List V}, DPAll K (msk O1 H1) vs ds → (!vs.isEmpty) = !ds.isEmpty := fun hd => by cases hd <;> rfl
      rw [e hd]
      exact q _ ρ1 O1 H1 k S
theorem dt_truI {Ψ : Bool → Rho → Prop} (h : DW K n ta ρ fun d ρ1 => ∃ i : Int, d = .int i ∧ Ψ (i != 0) ρ1) : DT K n (tTru K ta) ρ Ψ := fun O σ H E Q q =>
  h O σ H E _ fun v d ρ1 O1 H1 ⟨i, e, k⟩ S r => by
    subst e
    cases r
    exact ⟨_, rfl, q _ ρ1 O1 H1 k S⟩
/-! ### name += e -/
theorem ds_aug {i : Nat} {f : Int → Int → Int} {a : Int} (h0 : ρ[i]? = some (some (.val (.int a)))) (h : DW K n te ρ fun y ρ1 => ∃ b, y = .int b ∧ (n ≤ i ∨ NoLst ρ1 i) ∧ F.nx (ρ1.set i (some (.val (.int (f a b)))))) : DSx K n (tAug i te (ipI f)) ρ F := fun O σ H E D h1 h2 h3 h4 h5 => by
  obtain ⟨v, g1, g2⟩ := env_get E h0
  have gv := dp_int g2
  subst gv
  refine ⟨_, g1, ?_⟩
  refine h O σ H E _ fun u y ρ1 O1 H1 ⟨b, e, hi, k⟩ S r => ?_
  subst e
  have gu := dp_int r
  subst gu
  exact ⟨a, b, rfl, rfl, h1 _ _ _ _ k (S.trans E (stp_set S.env (.int _) hi))⟩
/-! ### the order of texts -/
def rLtS : R2 := fun x y H Q => ∃ i j, x = .str i ∧ y = .str j ∧ Q (.bl (decide (i.cps.toList < j.cps.toList))) H
def rLeS : R2 := fun x y H Q => ∃ i j, x = .str i ∧ y = .str j ∧ Q (.bl (!decide (j.cps.toList < i.cps.toList))) H
theorem op_ltS {X : Cx} : OpR X (compareOp .Lt) rLtS := op_lt_str
theorem op_leS {X : Cx} : OpR X (compareOp .LtE) rLeS := op_le_str
theorem rd_ltS {i j : Str} (k : Ψ (.bool (decide (i.cps.toList < j.cps.toList)))) : RD rLtS K (.str i) (.str j) Ψ := fun O H vx vy al hx hy Q q => by
  cases hx; cases hy
  exact ⟨i, j, rfl, rfl, q _ _ H k (Ext.refl H) (.bl _)⟩
theorem rd_leS {i j : Str} (k : Ψ (.bool (!decide (j.cps.toList < i.cps.toList)))) : RD rLeS K (.str i) (.str j) Ψ := fun O H vx vy al hx hy Q q => by
  cases hx; cases hy
  exact ⟨i, j, rfl, rfl, q _ _ H k (Ext.refl H) (.bl _)⟩
/-! ### sum -/
def rSumB (K : PySem.W.Frag) : List V → Hp → VK → Prop := fun xs H Q => rSum K xs H Q ∨ DL.rSumT K xs H Q
theorem cr_sumB {X : Cx} {K : PySem.W.Frag} (hK : X.K = K) (hc : X.calm = true) : CallR X (.builtin "sum") (rSumB K) := by subst hK; exact CallR.or (cr_sum hc) (cr_sumT hc)
theorem rc_sumL {ns : List Int} (k : Ψ (.int ns.sum)) : RC (rSumB K) K [.list (ns.map .int)] Ψ := fun O H vs al h Q q => by
  cases h with
  | cons h r =>
    cases r
    cases h with
    | lst hq hd =>
      have e := dpa_intsB hd
      subst e
      exact .inl ⟨_, ns, rfl, msk_l hq, q _ _ H k (Ext.refl H) (.int _)⟩
theorem rc_sumU {ns : List Int} (k : Ψ (.int ns.sum)) : RC (rSumB K) K [.tuple (ns.map .int)] Ψ := fun O H vs al h Q q => .inr (rc_sumT k O H vs al h Q q)
/-! ### range with a step -/
def rngC (lo c : Int) (m : Nat) : List PyData := (List.range m).map fun (i : Nat) => PyData.int (lo + (i : Int) * c)
theorem rngC_get {lo c : Int} {m i : Nat} {d : PyData} (h : (rngC lo c m)[i]? = some d) : i < m ∧ d = .int (lo + (i : Int) * c) := by
  unfold rngC at h
  rw [List.getElem?_map] at h
  by_cases hi : i < m
  · rw [List.getElem?_range hi] at h
    exact ⟨hi, (Option.some.inj h).symm⟩
  · rw [List.getElem?_eq_none (by simp; omega)] at h; cases h
theorem rngC_len {lo c : Int} {m : Nat} : (rngC lo c m).length = m := by unfold rngC; simp
theorem src_rngC {lo c : Int} {m : Nat} {O : List Addr} {H : Hp} : Src K (Itc lo c m) O H (rngC lo c m) := by
  refine ⟨fun O' H' i e hi => by rw [rngC_len] at hi; exact hi, fun O' H' i e hi => by rw [rngC_len] at hi; exact hi, fun O' H' i x H'' d e al y hx => ?_⟩
  obtain ⟨rfl, rfl⟩ := y
  obtain ⟨_, rfl⟩ := rngC_get hx
  exact ⟨Ext.refl _, .int _⟩
/-- range(i, j, -1) -/
theorem di_down {t : TA} {Ψ : PL} (h : DA K n t ρ fun xs ρ1 => ∃ i j, xs = [.int i, .int j, .int (-1)] ∧ (-(2 ^ 62) ≤ i ∧ i < 2 ^ 62 ∧ -(2 ^ 62) ≤ j ∧ j < 2 ^ 62) ∧ Ψ (rngC i (-1) (i - j).toNat) ρ1) : DI K n (iRng3 t) ρ Ψ := fun O σ H E R q =>
  h O σ H E _ fun vs xs ρ1 O1 H1 ⟨i, j, e, hb, hk⟩ S r => by
    subst e
    cases r with
    | cons r1 r2 => cases r2 with | cons r2 r3 => cases r3 with | cons r3 r4 => cases r4; cases r1; cases r2; cases r3; exact ⟨i, j, -1, _, rfl, RgC.neg hb.1 hb.2.1 hb.2.2.1 hb.2.2.2, q _ _ ρ1 O1 H1 hk S src_rngC⟩
/-! ### lists: fresh + fresh, fresh * int -/
theorem df_catFF {Ψ : PF} (h : DF K n ta ρ fun o1 ρ1 => DF K n tb ρ1 fun o2 ρ2 => ∃ xs ys, o1 = .l xs ∧ o2 = .l ys ∧ xs.length + ys.length ≤ 100000 ∧ Ψ (.l (xs ++ ys)) ρ2) : DF K n (tOp rCat ta tb) ρ Ψ := fun O σ H E Q q =>
  h O σ H E _ fun p vs o1 ρ1 O1 H1 hb S np no hp hH hd =>
    hb (p :: O1) σ H1 S.env _ fun p2 vs2 o2 ρ2 O2 H2 ⟨xs, ys, e1, e2, hl, kk⟩ S2 np2 no2 hp2 hH2 hd2 => by
      subst e1; subst e2
      obtain ⟨us, rfl, hd⟩ := ho_l hd
      obtain ⟨ws, rfl, hd2⟩ := ho_l hd2
      have hH3 := S2.le p _ no hH
      have hd3 := S2.dpa S.env hd
      refine ⟨p, p2, us, ws, rfl, rfl, hH3, hH2, Nat.le_trans (by rw [dpa_len hd, dpa_len hd2]; exact hl) (show 100000 ≤ sizeLine by decide), fun r hr => ?_⟩
      have S12 := S.trans E S2
      have nr := fresh_notin S2.env hr
      have nr0 : r ∉ O := fun z => nr (S12.sub r z)
      exact q r (.lst (us ++ ws)) (.l (xs ++ ys)) ρ2 (p2 :: O2) _ kk (S12.trans E (stp_alloc S2.env hr)) nr (not_owned S2.env hr) (S12.none_back nr0 hr E) upd_same (dpa_ext (fresh_ext hr) (dpa_append hd3 hd2))
theorem df_repF {Ψ : PF} (h : DF K n ta ρ fun o1 ρ1 => DW K n tb ρ1 fun y ρ2 => ∃ (xs : List PyData) (m : Nat), o1 = .l xs ∧ y = .int m ∧ m ≤ 1000 ∧ xs.length ≤ 100 ∧ Ψ (.l (List.replicate m xs).flatten) ρ2) : DF K n (tOp rRep ta tb) ρ Ψ := fun O σ H E Q q =>
  h O σ H E _ fun p vs o1 ρ1 O1 H1 hb S np no hp hH hd =>
    hb (p :: O1) σ H1 S.env _ fun v2 y ρ2 O2 H2 ⟨xs, m, e1, e2, hm, hx, kk⟩ S2 r2 => by
      subst e1; subst e2
      obtain ⟨us, rfl, hd⟩ := ho_l hd
      have gv := dp_int r2
      subst gv
      have hH3 := S2.le p _ no hH
      have hd3 := S2.dpa S.env hd
      have hle : us.length * m ≤ 100000 := by
        rw [dpa_len hd]
        exact Nat.le_trans (Nat.mul_le_mul hx hm) (by decide)
      refine ⟨p, m, us, rfl, rfl, hH3, by omega, by omega, by rw [Int.toNat_natCast]; exact Nat.le_trans hle (show 100000 ≤ sizeLine by decide), fun r hr => ?_⟩
      rw [Int.toNat_natCast]
      have S12 := S.trans E S2
      have nr := fresh_notin S2.env hr
      have nr0 : r ∉ O := fun z => nr (S12.sub r z)
      exact q r (.lst (List.replicate m us).flatten) (.l (List.replicate m xs).flatten) ρ2 O2 _ kk (S12.trans E (stp_alloc S2.env hr)) nr (not_owned S2.env hr) (S12.none_back nr0 hr E) upd_same (dpa_ext (fresh_ext hr) (dpa_rep hd3 m))
/-! ### a comprehension over a list of the def's own -/
theorem df_lcO {i j : Nat} {ds : List PyData} (hij : i ≠ j) (h0 : ρ[i]? = some (some (.lst (.l ds)))) (h : n ≤ j ∧ ds.length ≤ 100000 ∧ ρ[j]? = some none ∧ ∃ J : Nat → List PyData → Rho → Prop, J 0 [] ρ ∧ (∀ k out ρ', J k out ρ' → ρ'[i]? = some (some (.lst (.l ds)))) ∧
      (∀ k d out ρ', ds[k]? = some d → J k out ρ' → out.length ≤ k → DT K n tt (ρ'.set j (some (.val d))) fun b ρ2 => (b = true → DW K n te ρ2 fun y ρ3 => J (k + 1) (out ++ [y]) (ρ3.set j none)) ∧ (b = false → J (k + 1) out (ρ2.set j none))) ∧
      ∀ out ρ', J ds.length out ρ' → Φf (.l out) ρ') : DF K n (tLc (iList K (tVar i)) (gName j) tt te [j]) ρ Φf := by
  intro O σ H E Q q
  obtain ⟨hj, hlen, hρj, J, j0, jk, jt, je⟩ := h
  obtain ⟨p, vs0, hσi, hpO, hHp, hd0⟩ := env_lst E h0
  refine ⟨.ref p, hσi, p, rfl, ⟨_, SqL.of hHp⟩, ?_⟩
  intro D hD
  have SD := stp_alloc (n := n) (o := .lst []) E hD
  have nD := fresh_notin E hD
  have noD := not_owned E hD
  have hjσ : j < σ.length := by rw [E.len]; exact (List.getElem?_eq_some_iff.mp hρj).1
  refine ⟨fun k m H' => m = ds.length - k ∧ k ≤ ds.length ∧ ∃ O' ρ' out vs, J k out ρ' ∧ out.length ≤ k ∧ Stp K n O σ ρ H O' σ ρ' H' ∧ D ∈ O' ∧ ¬ Owns σ ρ' D ∧ H' D = some (.lst vs) ∧ DPAll K (msk O' H') vs out,
    ⟨ds.length, by simp, Nat.zero_le _, D :: O, ρ, [], [], j0, Nat.le_refl _, SD, List.mem_cons_self, noD, upd_same, .nil⟩, ?_⟩
  rintro k m H' ⟨rfl, hi, O', ρ', out, vs, jj, hol, S', nO', no', hH', hd'⟩
  have hown := jk k out ρ' jj
  obtain ⟨p', us, hσ', hpO', hHp', hdu⟩ := env_lst S'.env hown
  rw [hσi] at hσ'; cases hσ'
  have hul := dpa_len hdu
  by_cases hlt : k < ds.length
  · refine .inr ⟨⟨us, us[k]'(by omega), SqL.of hHp', by simp⟩, fun H2 => ∃ O2 ρ2 out2 vs2, J (k + 1) out2 ρ2 ∧ out2.length ≤ k + 1 ∧ Stp K n O σ ρ H O2 σ ρ2 H2 ∧ D ∈ O2 ∧ ¬ Owns σ ρ2 D ∧ H2 D = some (.lst vs2) ∧ DPAll K (msk O2 H2) vs2 out2,
      fun H2 ⟨O2, ρ2, out2, vs2, a, b, d, e, f, g, hh⟩ => ⟨ds.length - (k + 1), by omega, rfl, hlt, O2, ρ2, out2, vs2, a, b, d, e, f, g, hh⟩, fun x H2 y => ?_⟩
    obtain ⟨d, hd⟩ : ∃ d, ds[k]? = some d := ⟨ds[k], by simp [hlt]⟩
    obtain ⟨eH, y⟩ := y
    subst eH
    have hx := y us (SqL.of hHp')
    obtain ⟨d', g1, r2⟩ := dpa_get' hdu hx
    rw [hd] at g1; cases g1
    have hσt : (wipe σ [j]).set j (some x) = σ.set j (some x) := by
      show (σ.set j none).set j (some x) = σ.set j (some x)
      exact List.set_set ..
    unfold gName
    rw [hσt]
    refine ⟨by show (σ.set j (some x)).set j none = σ.set j none; rw [List.set_set], ?_⟩
    have Sin := stp_in (n := n) S'.env hj r2
    have noT : ¬ Owns (σ.set j (some x)) (ρ'.set j (some (.val d))) D := fun w => no' (owns_set (fun ds => by simp) w)
    have back : (σ.set j (some x)).set j σ[j] = σ := by
      have := set_back σ j (some x) (some x) σ[j] (List.getElem?_eq_getElem hjσ)
      rwa [List.set_set] at this
    refine jt k d out ρ' hd jj hol _ _ _ Sin.env _ fun b ρ2 O2 H3 ⟨kt, kf⟩ S3 => ?_
    have S13 := ((S'.trans E Sin).trans E S3)
    have hD3 : H3 D = some (.lst vs) := S3.le D _ noT hH'
    have hout3 := S3.dpa Sin.env hd'
    have al3 : D ∈ O2 := S3.sub D nO'
    have no3 : ¬ Owns (σ.set j (some x)) ρ2 D := fun w => by
      rcases S3.own D w with w | w
      · exact noT w
      · exact S'.env.al D nO' w
    cases b with
    | true =>
      refine iteT ?_
      refine kt rfl _ _ H3 S3.env _ fun v yd ρ3 O3 H4 k4 S4 r4 => ?_
      have no4 : ¬ Owns (σ.set j (some x)) ρ3 D := fun w => by
        rcases S4.own D w with w | w
        · exact no3 w
        · exact S3.env.al D al3 w
      have hD4 : H4 D = some (.lst vs) := S4.le D _ no3 hD3
      have S14 := (S13.trans E S4).trans E (stp_out (n := n) (j := j) (x := σ[j]) S4.env hj)
      rw [back] at S14
      have al4 : D ∈ O3 := S4.sub D al3
      have no5 : ¬ Owns σ (ρ3.set j none) D := fun w => no4 (by
        have := owns_set (σ := σ.set j (some x)) (ρ := ρ3) (j := j) (x := σ[j]) (y := none) (fun ds => by simp) (p := D)
        rw [back] at this
        exact this w)
      have hout4 := S4.dpa S3.env hout3
      refine ⟨vs, hD4, Nat.lt_of_le_of_lt (Nat.le_of_eq (dpa_len hd')) (Nat.lt_of_le_of_lt (Nat.le_trans hol (by omega)) (show (100000 : Nat) < sizeLine by decide)), ?_⟩
      obtain ⟨S15, em5⟩ := stp_writeD (o := .lst (vs ++ [v])) S14 hD al4 no5
      refine ⟨O3, ρ3.set j none, out ++ [yd], vs ++ [v], k4, by simp; omega, S15, al4, no5, upd_same, ?_⟩
      rw [em5]
      exact dpa_append hout4 (dpa_one r4)
    | false =>
      refine iteF ?_
      have S14 := S13.trans E (stp_out (n := n) (j := j) (x := σ[j]) S3.env hj)
      rw [back] at S14
      have no5 : ¬ Owns σ (ρ2.set j none) D := fun w => no3 (by
        have := owns_set (σ := σ.set j (some x)) (ρ := ρ2) (j := j) (x := σ[j]) (y := none) (fun ds => by simp) (p := D)
        rw [back] at this
        exact this w)
      exact ⟨O2, ρ2.set j none, out, vs, kf rfl, by omega, S14, al3, no5, hD3, hout3⟩
  · have e : k = ds.length := by omega
    subst e
    refine .inl ⟨⟨us, SqL.of hHp', by omega⟩, ?_⟩
    have mem : ∀ b, b ∈ O' ↔ b ∈ D :: O'.filter (fun b => decide (b ≠ D)) := fun b => by
      by_cases hb : b = D
      · subst hb; simp [nO']
      · simp [hb]
    refine q D (.lst vs) (.l out) ρ' _ H' (je out ρ' jj) (stp_mem S' mem) (by simp) no' hD hH' ?_
    rw [msk_mem mem]
    exact hd'
end
end DL
/-! ### for in a generator -/
namespace DL
open PySem L2 PySem.Spec PyProof.Rows GenW
def tGFor (wi : TI) (g : TG) (tb : TGn) : TGn := fun D ys σ H => wi σ H fun J H1 => ∃ W : Nat → Nat → List V → L2.St → Hp → Prop, (∃ m, W 0 m ys σ H1) ∧ ∀ i m ys σ H, W i m ys σ H →
  (J.stop i H ∧ D.nx ys σ H) ∨ (J.go i H ∧ ∃ N : List V → L2.St → Hp → Prop, (∀ zs τ T, N zs τ T → ∃ m', m' < m ∧ W (i + 1) m' zs τ T) ∧ ∀ x T, J.yld i H x T → g x σ T fun τ U => tb { D with nx := N, ct := N, bk := D.nx } ys τ U)
theorem gs_for {X : Cx} {tg iter : PySem.Expr} {body : List Stmt} {wi : TI} {g : TG} {tb : TGn} {pos : Pos} (hp : PassesOwn (model X.prog X.w) X.A X.env X.xe) (hc : X.calm = true) (hi : PI X tg iter wi) (hg : PG X tg g) (hb : GSs X body tb)
    (hs : ∀ x, foldedSetIterable iter X.env x = pure x := by intro _; rfl) : GS X (.For tg iter body [] pos) (tGFor wi g tb) := by
  refine ⟨fun A S ip R n ys s₀ c fs KK JJ gd lv s σ H D gc hn k hI ht => ?_⟩
  rw [exec_For]
  obtain ⟨acc, cc, r, I⟩ := hI
  refine seg_bind_wrap (wpAny_standAt ?_)
  refine seg_bind_wrap ?_
  rw [gc.over]
  refine wpAny_mono (hi.run _ s σ H _ I ht) (fun v s1 h1 => ?_) fun x s' hx => k.exc n s₀ x s' hx
  refine seg_bind_wrap (wpAny_of_eq (hs v) ?_)
  refine seg_bind_wrap (wpAny_standAt ?_)
  refine seg_bind_wrap (wpAny_holding ?_)
  rw [gc.over]
  refine wpAny_mono h1 (fun itv s2 h2 => ?_) fun x s' hx => k.exc n s₀ x s' hx
  obtain ⟨it, fp, tn, J, H2, rfl, I2, T, st2, f2, W, ⟨m0, w0⟩, turn⟩ := h2
  have fpS : ∀ b ∈ fp, b ≠ S := fun b hb z => (f2 b hb).2.2.2.2.2 (S, lstObj acc cc) (List.mem_append_right _ List.mem_cons_self) z.symm
  have stayF : ∀ {T' : Hp} {a2 : Array Value} {c2 : Nat}, (∀ b ∈ fp, T' b = none) → ∀ b ∈ fp, FpOk X ((S, lstObj a2 c2) :: ip) T' b := fun {T' a2 c2} hn b hb => by
    obtain ⟨_, y1, y2, y3, y4, y5⟩ := f2 b hb
    refine ⟨hn b hb, y1, y2, y3, y4, fun p hp => ?_⟩
    rcases List.mem_append.mp hp with zl | zr
    · exact y5 p (List.mem_append_left _ zl)
    · rcases List.mem_cons.mp zr with z | z
      · rw [z]; exact (fpS b hb).symm
      · exact y5 p (List.mem_append_right _ (List.mem_cons_of_mem _ z))
  refine seg_call fun p => ?_
  have gl := fun (kk : Result → Sem PySem.Fin) => gc_loop (k := kk) (c' := .forLoop tg (.ref it) body [] X.env) (l := lv []) (kp := []) (p := p) gc rfl rfl
  have loop : ∀ (m i n : Nat) (ys : List V) (s₀ s : Shared) (σ : L2.St) (H : Hp), n + ys.length = sizeLine → W i m ys σ H → GI X S ip ys σ H s → tn i s.heap → (∀ b ∈ fp, H b = none) →
      Seg (model X.prog X.w) A R (GY X S) n s₀ (.forLoop tg (.ref it) body [] X.env) ((model X.prog X.w).den (.forLoop tg (.ref it) body [] X.env))
        (.ret (fun r => ((match r with | .ok f => (.pure f : Sem Flow) | .error e => .raise e).onRaise (cameBack X.env)).wrap KK JJ gd lv) none (gd false) (lv []) c p [] :: fs) s := by
    intro m
    induction m using Nat.strongRecOn with
    | ind m ih =>
      intro i n ys s₀ s σ H hn w hI hst hfr
      have ee : ∀ (n : Nat) (s₀ : Shared) (x : Value) (s' : Shared), X.xe x s' → Seg (model X.prog X.w) A R (GY X S) n s₀ (.forLoop tg (.ref it) body [] X.env)
          ((do noteFrame x X.env; theTreesLotGoes x : Sem Unit).bind fun _ => .raise x)
          (.ret (fun r => ((match r with | .ok f => (.pure f : Sem Flow) | .error e => .raise e).onRaise (cameBack X.env)).wrap KK JJ gd lv) none (gd false) (lv []) c p [] :: fs) s' := fun n s₀ x s' hx => by
        rw [Sem.bind_eq_wrap]
        refine seg_wrap ?_
        rw [(gl _).over]
        refine wpAny_bind (wpAny_mono (hp x s' hx) (fun _ sB hcB => wpAny_theTreesLotGoes ?_) fun y sB hcB => ?_)
        · exact seg_leaf (.error x) (seg_cameBack gc k hcB)
        · exact seg_leaf (.error y) (seg_cameBack gc k hcB)
      obtain ⟨acc, cc, r, I⟩ := hI
      show Seg _ A R _ n s₀ _ ((forTurn tg (.ref it) body [] X.env).onRaise (fun x => do noteFrame x X.env; theTreesLotGoes x)) _ s
      rw [Sem.onRaise_eq_wrap]
      unfold forTurn
      refine seg_bind_wrap (wpAny_standAt ?_)
      refine seg_bind_wrap (wpAny_onRaise ?_)
      rw [(gl _).over]
      rcases turn i m ys σ H w with ⟨stop, qn⟩ | ⟨go, N, hN, step⟩
      · refine wpAny_mono (T.done X rfl rfl rfl hc i _ s σ H X.xe I (stayF hfr) hst stop) (fun r' s4 ⟨hr, I4⟩ => ?_) fun x s' hx => wpAny_standAt (ee n s₀ x s' hx)
        subst hr
        refine seg_again (c' := .block [] X.env) rfl ?_
        exact seg_leaf (.ok .next) (k.ok n ys s₀ s4 .next hn ⟨σ, H, ⟨acc, cc, r, I4⟩, qn⟩)
      · refine wpAny_mono (T.item X rfl rfl rfl hc i _ s σ H X.xe I (stayF hfr) hst go) (fun r' s4 ⟨u, hr, h4⟩ => ?_) fun x s' hx => wpAny_standAt (ee n s₀ x s' hx)
        subst hr
        refine seg_bind_wrap ?_
        rw [(gl _).over]
        refine wpAny_mono h4 (fun _ s5 ⟨x, H5, I5, r5, y5, st5, fr5⟩ => ?_) fun x s' hx => ee n s₀ x s' hx
        have I5p := I5.pinned (stayF fr5) (T.obj _ _ st5)
        refine seg_bind_wrap ?_
        rw [(gl _).over]
        refine wpAny_mono (hg.run _ s5 σ H5 x u _ I5p r5 (step x H5 y5)) (fun _ s6 ⟨σ6, H6, I6, q6⟩ => ?_) fun x s' hx => ee n s₀ x s' hx
        rw [Sem.bind_eq_wrap', Sem.wrap_wrap]
        have gb : GC X S (ip ++ pinsAt fp s5.heap) A (.forLoop tg (.ref it) body [] X.env) (.ret (fun r => ((match r with | .ok f => (.pure f : Sem Flow) | .error e => .raise e).onRaise (cameBack X.env)).wrap KK JJ gd lv) none (gd false) (lv []) c p [] :: fs) id := by
          have g0 := gl (fun r => ((match r with | .ok f => (.pure f : Sem Flow) | .error e => .raise e).onRaise (cameBack X.env)).wrap KK JJ gd lv)
          refine ⟨g0.pn, fun q hq => ?_, g0.apart, g0.over, g0.split, g0.guard, g0.gd⟩
          rcases List.mem_append.mp hq with z | z
          · exact g0.ip q z
          · exact fpS q.1 (of_pinsAt z).1
        have back : ∀ {zs : List V} {s7 : Shared} {σ7 : L2.St} {H7 : Hp}, GI X S (ip ++ pinsAt fp s5.heap) zs σ7 H7 s7 → GI X S ip zs σ7 H7 s7 ∧ tn (i + 1) s7.heap ∧ ∀ b ∈ fp, H7 b = none := fun {zs s7 σ7 H7} hG => by
          obtain ⟨a7, c7, r7, I7⟩ := hG
          refine ⟨⟨a7, c7, r7, I7.unpinned (pins := (S, lstObj a7 c7) :: ip)⟩, T.keep _ _ _ st5 fun b hb o e => ?_, fun b hb => ?_⟩
          · exact (I7.pin (b, o) (List.mem_append_right _ (List.mem_cons_of_mem _ (List.mem_append_right _ (mem_pinsAt hb e))))).1
          · obtain ⟨o, e, d⟩ := T.obj _ _ st5 b hb
            exact (I7.pin (b, o) (List.mem_append_right _ (List.mem_cons_of_mem _ (List.mem_append_right _ (mem_pinsAt hb e))))).2.1
        refine hb.run A S (ip ++ pinsAt fp s5.heap) R n ys s₀ _ _ _ _ _ _ s6 σ6 H6 { D with nx := N, ct := N, bk := D.nx } gb hn ⟨fun n' zs s₀' s7 f hn' hs7 => ?_, fun n' s₀' x s7 hx => ee n' s₀' x s7 hx⟩ ⟨acc, cc, r, I6⟩ q6
        cases f with
        | next =>
          obtain ⟨σ7, H7, G7, n7⟩ := hs7
          obtain ⟨m', hm, w7⟩ := hN zs σ7 H7 n7
          obtain ⟨G8, st8, fr8⟩ := back G7
          exact seg_again rfl (ih m' hm (i + 1) n' zs s₀' s7 σ7 H7 hn' w7 G8 st8 fr8)
        | cont =>
          obtain ⟨σ7, H7, G7, n7⟩ := hs7
          obtain ⟨m', hm, w7⟩ := hN zs σ7 H7 n7
          obtain ⟨G8, st8, fr8⟩ := back G7
          exact seg_again rfl (ih m' hm (i + 1) n' zs s₀' s7 σ7 H7 hn' w7 G8 st8 fr8)
        | brk =>
          obtain ⟨σ7, H7, G7, n7⟩ := hs7
          exact seg_leaf (.ok .next) (k.ok n' zs s₀' s7 .next hn' ⟨σ7, H7, (back G7).1, n7⟩)
        | ret v =>
          obtain ⟨x7, σ7, H7, G7, r7, n7⟩ := hs7
          exact seg_leaf (.ok (.ret v)) (k.ok n' zs s₀' s7 (.ret v) hn' ⟨x7, σ7, H7, (back G7).1, r7, n7⟩)
  exact loop m0 0 n ys s₀ s2 σ H2 hn w0 ⟨acc, cc, r, I2⟩ st2 fun b hb => (f2 b hb).1
section
variable {P : Program} {w : World} {K : PySem.W.Frag} {mg : Str → Option Value} {base : Heap}
/-- THE RULE for: check; name = a new list; for x in name: yield x -/
theorem gfn_dataF {x qual : Str} {st : Stmt} {f : Addr} {fd : FuncData} {N ps : List Str} {k np : Nat} {W : SgW} (F : Fun K x qual st f fd) (S : GScope N ps (defScope st)) (hp : ps.length = np) (i j : Nat) (hij : i ≠ j) (hj : np ≤ j)
    (body : ∀ (cdv : Value) (A : Around) (outer : List Env) (s : Shared) (H : Hp) (E : XK) (pn : List (Addr × Obj)), Room k (A.deeper (envOfC qual (defScope st) s.heap.objs.size f cdv)) →
      ∃ t1 t2, GSs (gcxOf P w K mg base N qual (defScope st) f cdv A outer s H E pn) (defBody st) (tGThen (tPlain t1) (tGThen (tPlain t2) (tGThen (tGFor (iList K (tVar i)) (gName j) (tGThen (tGYield (tVar j)) tG0)) tG0))) ∧
        ∀ es Φ, W es Φ → es.length = np → DSx K np t1 (es.map some ++ List.replicate (N.length - np) none) { nx := fun ρ => DSx K np t2 ρ { nx := fun ρ' => ∃ ds, ρ'[i]? = some (some (.lst (.l ds))) ∧ ds.length ≤ 100000 ∧ j < ρ'.length ∧ Φ ds, rt := fun _ _ => False }, rt := fun _ _ => False }) :
    GFn P w K mg base (k + 1) f fd ps (spGD K np W) := by
  obtain ⟨oc, od, kV, doc, pm, an, cdv, ct, osl, rfl, lk, hcd⟩ := F.ex
  refine gfn_of lk hcd S (fun vs H Q E h => ?_) fun A outer s H vs Q E pn hr h => ?_
  · obtain ⟨O, es, Φ, h, _⟩ := h
    omega
  · obtain ⟨O, es, Φ, hv, he, hw, hk⟩ := h
    have hl : es.length = np := by have := he.len; simp at this; omega
    obtain ⟨t1, t2, h1, h2⟩ := body cdv A outer s H E pn hr
    refine ⟨_, h1, ?_⟩
    show t1 _ (vs.map some ++ List.replicate (N.length - vs.length) none) H
    rw [hv]
    have E0 := env_start (m := N.length - np) he hl hv
    refine h2 es Φ hw hl O _ H E0 _ (fun O1 σ1 ρ1 H1 q1 S1 => ?_) (fun v d O' σ' ρ' H' q S' r => q.elim) (fun p ws ds O' σ' ρ' H' q S' => q.elim) (fun O' σ' ρ' H' q S' => q.elim) (fun O' σ' ρ' H' q S' => q.elim)
    refine q1 O1 σ1 H1 S1.env _ (fun O2 σ2 ρ2 H2 q2 S2 => ?_) (fun v d O' σ' ρ' H' q S' r => q.elim) (fun p ws ds O' σ' ρ' H' q S' => q.elim) (fun O' σ' ρ' H' q S' => q.elim) (fun O' σ' ρ' H' q S' => q.elim)
    obtain ⟨ds, hi, hlen, hjl, kk⟩ := q2
    have S02 := S1.trans E0 S2
    obtain ⟨p, us, hσ, hpO, hH, hd⟩ := env_lst S02.env hi
    obtain ⟨S4, _⟩ := stp_fin he hl hv S02
    refine ⟨.ref p, hσ, p, rfl, ⟨us, SqL.of hH⟩, ?_⟩
    refine ⟨fun a m ys σ' H' => m = us.length - a ∧ a ≤ us.length ∧ ys = us.take a ∧ σ'.length = σ2.length ∧ H' = H2, ⟨us.length, by simp, Nat.zero_le _, rfl, rfl, rfl⟩, ?_⟩
    rintro a m ys σ' H' ⟨rfl, ha, rfl, hsl, rfl⟩
    by_cases hlt : a < us.length
    · refine .inr ⟨⟨us, us[a], SqL.of hH, by simp [hlt]⟩, fun zs τ T => zs = us.take (a + 1) ∧ τ.length = σ2.length ∧ T = H', fun zs τ T ⟨e1, e2, e3⟩ => ⟨us.length - (a + 1), by omega, rfl, hlt, e1, e2, e3⟩, fun y T hy => ?_⟩
      obtain ⟨e, hy⟩ := hy
      subst e
      have hy := hy us (SqL.of hH)
      refine ⟨?_, y, ?_, ?_⟩
      · rw [List.length_take]
        have := dpa_len hd
        have : us.length ≤ 100000 := by omega
        exact Nat.lt_of_le_of_lt (Nat.le_trans (Nat.min_le_right _ _) this) (by decide)
      · have : j < σ'.length := by rw [hsl, S02.env.len]; exact hjl
        rw [List.getElem?_set_self this]
      · refine ⟨?_, by rw [List.length_set]; exact hsl, rfl⟩
        rw [List.take_add_one, hy]
        rfl
    · have e : a = us.length := by omega
      subst e
      refine .inl ⟨⟨us, SqL.of hH, Nat.le_refl _⟩, ?_⟩
      rw [List.take_length]
      exact hk us ds _ _ _ kk S4 hd
end
/-! ### calls with keywords, keyword-only defaults -/
section
variable {K : PySem.W.Frag} {n np a b : Nat} {ρ : Rho} {Φ : PD} {W : SpW} {Wg : SgW}
theorem dw_callN {t tk : TA} {E0 : XK} (h : DA K n t ρ fun ds ρ1 => DA K n tk ρ1 fun ks ρ2 => ds.length = a ∧ ks.length = b ∧ a + b = np ∧ W ((ds ++ ks).map Ent.val) fun d _ => Φ d ρ2) : DW K n (tCallN a b (spD K np W) (fun vs zs => vs ++ zs) E0 t tk) ρ Φ := fun O σ H E Q q =>
  h O σ H E _ fun vs ds ρ1 O1 H1 hk S r => hk O1 σ H1 S.env _ fun zs ks ρ2 O2 H2 ⟨h1, h2, h3, hw⟩ S2 r2 => by
    have ra := dpa_append (S2.dpa S.env r) r2
    have S12 := S.trans E S2
    have l1 := dpa_len r
    have l2 := dpa_len r2
    refine ⟨by omega, by omega, O2, (ds ++ ks).map Ent.val, _, by rw [List.length_append]; omega, env_args S12.env.al ra, hw, fun v d es' O' H' k S' rr => ?_⟩
    exact q v d ρ2 O' H' k (S12.trans E (stp_called S12.env ra S')) rr
theorem dw_callD {t : TA} {E0 : XK} {z : Str} (h : DA K n t ρ fun ds ρ1 => ds.length + 1 = np ∧ W ((ds ++ [PyData.str z]).map Ent.val) fun d _ => Φ d ρ1) : DW K n (tCall (spD K np W) [V.str z] E0 t) ρ Φ := fun O σ H E Q q =>
  h O σ H E _ fun vs ds ρ1 O1 H1 ⟨hl, hw⟩ S r => by
    have ra := dpa_append r (dpa_one (DP.str z))
    refine ⟨O1, (ds ++ [PyData.str z]).map Ent.val, _, by rw [List.length_append, dpa_len r]; exact hl, env_args S.env.al ra, hw, fun v d es' O' H' k S' rr => ?_⟩
    exact q v d ρ1 O' H' k (S.trans E (stp_called S.env ra S')) rr
theorem dw_listGD {t : TA} {E0 : XK} {z : Str} (h : DA K n t ρ fun ds ρ1 => ds.length + 1 = np ∧ Wg ((ds ++ [PyData.str z]).map Ent.val) fun out => Φ (.list out) ρ1) : DW K n (tListG (tCallG (spGD K np Wg) [V.str z] E0 t)) ρ Φ := fun O σ H E Q q =>
  h O σ H E _ fun vs ds ρ1 O1 H1 ⟨hl, hw⟩ S r => by
    have ra := dpa_append r (dpa_one (DP.str z))
    refine ⟨O1, (ds ++ [PyData.str z]).map Ent.val, _, by rw [List.length_append, dpa_len r]; exact hl, env_args S.env.al ra, hw, fun out out' es' O' H' k S' rr p hp => ?_⟩
    have S2 := S.trans E (stp_called S.env ra S')
    exact q _ _ ρ1 O' _ k (S2.trans E (Stp.grow S2.env (Ext.new hp))) (dp_newL S2.env.al hp rr)
end
/-- g(e, .., k = v, ..) of a generator def -/
def tCallGN (a b : Nat) (sp : SpG) (E : XK) (t tk : TA) : TGen := fun σ H cont => t σ H fun vs H1 => tk σ H1 fun zs H2 => vs.length = a ∧ zs.length = b ∧ sp (vs ++ zs) H2 cont E
section
variable {X : Cx} {k a : Nat} {f : Addr} {fd : FuncData} {ps ks : List Str} {sp : SpG} {E : XK} {x : Str} {p pos : Pos} {e : PySem.Expr} {es : List PySem.Expr} {kws : List Keyword} {t tk : TA}
theorem pgen_callN (F : GFn X.prog X.w X.K X.mg X.base k f fd ps sp) (hr : Room k X.A) (hg : Gl X x) (hm : X.mg x = some (.ref f)) (hk : PySem.W.keepIn X.K (.ref f) = true) (hb : KBn X.K fd ps a ks (fun us ws => us ++ ws) (fun vs zs => vs ++ zs))
    (ha : PA X (e :: es) t) (hkw : PK X kws tk) (hyA : (backToKw pos (keywordEach kws X.env)).all (·.1.isSome) = true := by rfl) (hks : (backToKw pos (keywordEach kws X.env)).filterMap (·.1) = ks := by rfl)
    (hyD : (x == ("__debug__" : Str)) = false := by decide) (he : starEach (e :: es) X.env = (false, eval e X.env) :: starEach es X.env := by rfl)
    (hyP : ((backTo pos (starEach (e :: es) X.env)).any (·.1) || (backToKw pos (keywordEach kws X.env)).any (·.1.isNone)) = false := by rfl) :
    PGen X k (.Call (.Name x p) (e :: es) kws pos) (tCallGN a ks.length sp E t tk) E := by
  refine ⟨fun pins s σ H cont I h => ?_⟩
  refine wpAny_Call_Name_kw (ld_glob I hg hm ?_ hyD)
  refine PySem.W.callWith_KW (h₀ := X.base) I.ok.mod.kin hk hyA (thn (ha.run pos pins s σ H _ I h) fun us s1 ⟨vs, HA, IA, r, q⟩ => ?_) hyP he
  refine thn (hkw.run pos pins s1 σ HA _ IA q) fun ws s2 ⟨zs, H2, I2, rz, l1, l2, q2⟩ => ⟨I2.kIn, ?_⟩
  rw [hks]
  have r2 := hb.rel r rz
  refine wpAny_call (codeAny_mono (F.run X.A X.stack s2 H2 ⟨us, ks.zip ws⟩ (us ++ ws) (vs ++ zs) cont E hr I2.env0 (hb.to s2 us ws I2.kIn (r.length.symm.trans l1) (rz.length.symm.trans l2)) r2 q2) fun r s' hq => ?_)
  cases r with
  | error e => exact False.elim hq
  | ok fl =>
    cases fl with
    | ret u => exact ⟨H2, s2, [], I2, .nil, hq⟩
    | next => exact False.elim hq
    | brk => exact False.elim hq
    | cont => exact False.elim hq
end
section
variable {K : PySem.W.Frag} {n np a b : Nat} {ρ : Rho} {Φ : PD} {Wg : SgW}
theorem dw_listGN {t tk : TA} {E0 : XK} (h : DA K n t ρ fun ds ρ1 => DA K n tk ρ1 fun ks ρ2 => ds.length = a ∧ ks.length = b ∧ a + b = np ∧ Wg ((ds ++ ks).map Ent.val) fun out => Φ (.list out) ρ2) : DW K n (tListG (tCallGN a b (spGD K np Wg) E0 t tk)) ρ Φ := fun O σ H E Q q =>
  h O σ H E _ fun vs ds ρ1 O1 H1 hk S r => hk O1 σ H1 S.env _ fun zs ks ρ2 O2 H2 ⟨h1, h2, h3, hw⟩ S2 r2 => by
    have ra := dpa_append (S2.dpa S.env r) r2
    have S12 := S.trans E S2
    have l1 := dpa_len r
    have l2 := dpa_len r2
    refine ⟨by omega, by omega, O2, (ds ++ ks).map Ent.val, _, by rw [List.length_append]; omega, env_args S12.env.al ra, hw, fun out out' es' O' H' k S' rr p hp => ?_⟩
    have S3 := S12.trans E (stp_called S12.env ra S')
    exact q _ _ ρ2 O' _ k (S3.trans E (Stp.grow S3.env (Ext.new hp))) (dp_newL S3.env.al hp rr)
end
/-! ### a def with one keyword-only parameter that has a text's default -/
structure TDK (K : PySem.W.Frag) (mg : Str → Option Value) (x : Str) (st : Stmt) (ps : List Str) (a : Nat) (kw dv : Str) : Type where
  f : Addr
  fd : FuncData
  F : Fun K x x st f fd
  m : mg x = some (.ref f)
  dt : List Value
  vd : Vals [V.str dv] dt
  b : Binds K fd ps dt
  bk : KBn K fd ps a [kw] (fun us ws => us ++ ws) (fun vs zs => vs ++ zs)
structure CalK (P : Program) (w : World) (K : PySem.W.Frag) (mg : Str → Option Value) (base : Heap) (k : Nat) (x : Str) (ps : List Str) (a : Nat) (kw dv : Str) (sp : Sp) : Type where
  f : Addr
  fd : FuncData
  m : mg x = some (.ref f)
  kp : PySem.W.keepIn K (.ref f) = true
  dt : List Value
  vd : Vals [V.str dv] dt
  b : Binds K fd ps dt
  bk : KBn K fd ps a [kw] (fun us ws => us ++ ws) (fun vs zs => vs ++ zs)
  ok : FnOk P w K mg base CX0 k f fd ps sp
structure CalGK (P : Program) (w : World) (K : PySem.W.Frag) (mg : Str → Option Value) (base : Heap) (k : Nat) (x : Str) (ps : List Str) (a : Nat) (kw dv : Str) (sp : SpG) : Type where
  f : Addr
  fd : FuncData
  m : mg x = some (.ref f)
  kp : PySem.W.keepIn K (.ref f) = true
  dt : List Value
  vd : Vals [V.str dv] dt
  b : Binds K fd ps dt
  bk : KBn K fd ps a [kw] (fun us ws => us ++ ws) (fun vs zs => vs ++ zs)
  ok : GFn P w K mg base k f fd ps sp
def TDK.cal {P : Program} {w : World} {K : PySem.W.Frag} {mg : Str → Option Value} {base : Heap} {k a : Nat} {x kw dv : Str} {st : Stmt} {ps : List Str} {sp : Sp} (D : TDK K mg x st ps a kw dv) (ok : FnOk P w K mg base CX0 k D.f D.fd ps sp) : CalK P w K mg base k x ps a kw dv sp := ⟨D.f, D.fd, D.m, D.F.kp, D.dt, D.vd, D.b, D.bk, ok⟩
def TDK.calG {P : Program} {w : World} {K : PySem.W.Frag} {mg : Str → Option Value} {base : Heap} {k a : Nat} {x kw dv : Str} {st : Stmt} {ps : List Str} {sp : SpG} (D : TDK K mg x st ps a kw dv) (ok : GFn P w K mg base k D.f D.fd ps sp) : CalGK P w K mg base k x ps a kw dv sp := ⟨D.f, D.fd, D.m, D.F.kp, D.dt, D.vd, D.b, D.bk, ok⟩
/-- how such a def binds (two parameters and the keyword-only one) -/
theorem binds_kw2 {K : PySem.W.Frag} {x qual : Str} {params : Arguments} {body : List Stmt} {scope : Scope} {f D : Addr} {p1 p2 kw : Str} {dv : Str} {tk : Tok} {doc pm : Value} {an : Option Addr} {cdv ct : Value}
    (hq : PySem.W.nsIn K D kw = some (some (.str dv tk)))
    (h : ∀ (us ks : List Value), us.length = 2 → ks.length = 1 → KwChain D ([kw].zip ks) (bindArgs (PySem.W.fnOf x qual params body scope .none (.ref D) doc pm an cdv ct) ⟨us, []⟩) ([p1, p2, kw].zip (us ++ ks))) :
    Binds K (PySem.W.fnOf x qual params body scope .none (.ref D) doc pm an cdv ct) [p1, p2, kw] [.str dv tk] := by
  intro s us X hlen
  have l2 : us.length = 2 := by
    rw [List.length_append] at hlen
    have : us.length + 1 = 3 := hlen
    omega
  refine BindsTo.of_looks fun M => KwChain.looks X (fun q hq' => ?_) (h us [.str dv tk] l2 rfl)
  rcases List.mem_singleton.mp hq' with rfl
  exact hq
end DL
/-! ### enumerate(text), zip(text, tuple) -/
namespace DL
open PySem L2 PySem.Spec PyProof.Rows
/-- the letter at a place -/
def letV (x : Str) (i : Nat) : V := .str ⟨#[x.cps.getD i 0]⟩
def Ites (x : Str) : It :=
  ⟨fun i _ => i < x.cps.size, fun i H v H' => ∃ T, v = .ref T ∧ H T = none ∧ H' = upd H T (.tup [.int (i : Nat), letV x i]), fun i _ => x.cps.size ≤ i⟩
theorem letV_rel {x : Str} {i : Nat} {v : Value} (h : ∃ c u, x.cps[i]? = some c ∧ v = .str ⟨#[c]⟩ u) : RelV (letV x i) v := by
  obtain ⟨c, u, hc, rfl⟩ := h
  refine ⟨u, ?_⟩
  have : x.cps.getD i 0 = c := by rw [Array.getD_eq_getD_getElem?, hc]; rfl
  rw [this]
theorem turn_enumS {P : Program} {w : World} {K : PySem.W.Frag} {elts : List PySem.Expr} {kk : Nat} {tpos : Pos} (x : Str) (t : Tok) (e it : Addr) (ne : e ≠ it) :
    Turn P w K (.Tuple elts kk tpos) (Ites x) [e, it] e (fun i h => i ≤ x.cps.size ∧ (∃ old, IsEnum h e it i old) ∧ h.IsStrIter it (strIterType x) x t i) where
  mem := by simp
  obj := fun i h ⟨_, ⟨old, he⟩, hi⟩ b hb => by
    have eb : b = e ∨ b = it := by simpa using hb
    rcases eb with z | z
    · subst z; exact ⟨_, he, fun v q => nomatch q⟩
    · subst z
      obtain ⟨o, ho, _, hd⟩ := hi
      exact ⟨o, ho, fun v q => by rw [hd] at q; cases q⟩
  keep := fun i h h' ⟨hle, ⟨old, he⟩, hi⟩ k => ⟨hle, ⟨old, k e (by simp) _ he⟩, by
    obtain ⟨o, ho, r⟩ := hi
    exact ⟨o, k it (by simp) o ho, r⟩⟩
  item := by
    intro X hP hw hK hc i pins s σ H E I hf st hlt
    subst hP hw hK
    obtain ⟨hle, ⟨old, he⟩, hi⟩ := st
    have hh : X.A.in1.handled = none := I.ok.hd hc
    have eL : e < s.heap.objs.size := Heap.lt_size he
    have iL : it < s.heap.objs.size := by obtain ⟨_, q, _⟩ := hi; exact Heap.lt_size q
    refine wpAny_pyNext_enum_itemD (Draws.text hh it x t) he hi hlt ne (by simpa using ne) fun y h' tk hy ho hst hT hsz hk => ?_
    refine ⟨_, rfl, wpAny_letOwnedTupleGo_enum (s := { s with heap := h', toks := tk + 1 }) ho fun h'' he' sb => ?_⟩
    have hT2 : h''.get? s.heap.objs.size = some { cls := .type "tuple", data := .seq #[.int i tk, y] } := (sb.2 _ (Nat.ne_of_gt eL)).trans hT
    have new : ObjOk X.prog X.w (upd H s.heap.objs.size (.tup [.int (i : Nat), letV x i])) h'' s.heap.objs.size (.tup [.int (i : Nat), letV x i]) :=
      ⟨by show 2 ≤ sizeLine; decide, [.int i tk, y], .cons ⟨_, rfl⟩ (.cons (letV_rel hy) .nil), ⟨_, hT2, rfl, _, rfl⟩⟩
    have IN : Inv X pins σ (upd H s.heap.objs.size (.tup [.int (i : Nat), letV x i])) { s with heap := h'', toks := tk + 1 } :=
      I.turnedNew (ch := [e, it]) (fun b ob hb q => by
        have nb : b ≠ e ∧ b ≠ it := by simpa using hb
        exact (sb.2 b nb.1).trans (hk b ob nb.1 nb.2 q)) hf (Nat.le_refl _) new
    refine ⟨.ref s.heap.objs.size, _, IN, rfl, ⟨_, rfl, I.hok.fresh (Nat.le_refl _), rfl⟩, ⟨hlt, ⟨y, ?_⟩, ?_⟩, fun b hb => ?_⟩
    · have ei : ((i + 1 : Nat) : Int) = (i : Int) + 1 := by omega
      rw [ei]; exact he'
    · obtain ⟨o, q, r⟩ := hst
      exact ⟨o, (sb.2 it (Ne.symm ne)).trans q, r⟩
    · have lb : b < s.heap.objs.size := by
        have eb : b = e ∨ b = it := by simpa using hb
        rcases eb with z | z
        · rw [z]; exact eL
        · rw [z]; exact iL
      rw [upd_ne (Nat.ne_of_lt lb)]
      exact (hf b hb).1
  done := by
    intro X hP hw hK hc i pins s σ H E I hf st hstop
    subst hP hw hK
    obtain ⟨hle, ⟨old, he⟩, hi⟩ := st
    have hh : X.A.in1.handled = none := I.ok.hd hc
    have en : i = x.cps.size := Nat.le_antisymm hle hstop
    subst en
    obtain ⟨f0, f1, f2, f3, f4, f5⟩ := hf it (by simp)
    exact wpAny_pyNext_enum_endD (Draws.text hh it x t) he hi fun h' eb => ⟨rfl, I.turned (t' := s.toks) (fun b o hb q => eb b o hb q) f0 f1 f3 f4 f5⟩
  self := fun A i s Q E st h => by
    obtain ⟨_, ⟨_, he⟩, _⟩ := st
    exact wpAny_pyIter_enum he h
def iEnumS (ta : TA) : TI := fun σ H R => ta σ H fun vs H1 => ∃ x, vs = [.str x] ∧ R (Ites x) H1
theorem pi_enumS {X : Cx} {e : PySem.Expr} {ta : TA} {p pos tpos : Pos} {elts : List PySem.Expr} {kk : Nat} (hg : Gl X "enumerate") (hm : X.mg "enumerate" = none) (ha : PA X [e] ta) (hs : starEach [e] X.env = [(false, eval e X.env)] := by rfl) :
    PI X (.Tuple elts kk tpos) (.Call (.Name "enumerate" p) [e] [] pos) (iEnumS ta) := by
  refine ⟨fun pins s σ H R I h => ?_⟩
  refine Call_ (ld_blt I hg hm boot_enumerate (PyProof.Rows.callWith_type1 (thn (ha.run pos pins s σ H _ I h) fun us s1 ⟨vs, H1, I1, r1, x, ex, q⟩ => ?_) hs rfl))
  subst ex
  cases r1 with
  | cons r rr =>
    cases rr
    obtain ⟨t, rfl⟩ := r
    refine call_enumerate_str fun h' he hit hsz hk => wpAny_pyIter_enum he ?_
    have IN : Inv X pins σ H1 { s1 with heap := h' } := I1.kept (t' := s1.toks) hk
    refine ⟨s1.heap.objs.size + 1, [s1.heap.objs.size + 1, s1.heap.objs.size], _, _, H1, rfl, IN, turn_enumS x t (s1.heap.objs.size + 1) s1.heap.objs.size (Nat.succ_ne_self _), ⟨Nat.zero_le _, ⟨.none, he⟩, hit⟩, fun b hb => ?_, q⟩
    have eb : b = s1.heap.objs.size + 1 ∨ b = s1.heap.objs.size := by simpa using hb
    have hle : s1.heap.objs.size ≤ b := by
      rcases eb with z | z
      · rw [z]; exact Nat.le_succ _
      · rw [z]; exact Nat.le_refl _
    exact I1.fpOk hle (I1.hok.fresh hle)
/-! zip -/
def Itzs (K : PySem.W.Frag) (x : Str) (b : Addr) (m : Nat) : It :=
  ⟨fun i H => i < x.cps.size ∧ i < m ∧ ∃ ys, SqT K H b ys ∧ ys.length = m,
    fun i H v H' => ∃ T y, v = .ref T ∧ H T = none ∧ H' = upd H T (.tup [letV x i, y]) ∧ ∀ ys, SqT K H b ys → ys[i]? = some y,
    fun i H => (∃ ys, SqT K H b ys ∧ ys.length = m) ∧ (x.cps.size ≤ i ∨ m ≤ i)⟩
abbrev zsH1 (h : Heap) (x : Str) (t : Tok) : Heap := h.push { cls := .type (strIterType x), data := .fields #[.str x t, .int 0 0] }
abbrev zsH2 (h : Heap) (x : Str) (t : Tok) (b : Addr) : Heap := (zsH1 h x t).push { cls := .type "tuple_iterator", data := .fields #[.ref b, .int 0 0] }
abbrev zsH3 (h : Heap) (x : Str) (t : Tok) (b : Addr) : Heap := (zsH2 h x t b).push { cls := .type "tuple", data := .seq #[.ref h.objs.size, .ref (zsH1 h x t).objs.size] }
abbrev zsH4 (h : Heap) (x : Str) (t : Tok) (b : Addr) : Heap := (zsH3 h x t b).push { cls := .type "tuple", data := .seq #[.none, .none] }
abbrev zsH5 (h : Heap) (x : Str) (t : Tok) (b : Addr) : Heap := (zsH4 h x t b).push { cls := .type "zip", data := .fields #[.none, .bool false, .bool false, .ref (zsH2 h x t b).objs.size, .ref (zsH3 h x t b).objs.size] }
theorem meets_zs (x : Str) (t : Tok) (b : Addr) (ys : Array Value) :
    Meets (Builtin.«zip.__new__» ⟨[.type "zip", .str x t, .ref b], []⟩) (fun _ R s => s.heap.IsTuple b ys ∧ R (.ok (.ret (.ref (zsH4 s.heap x t b).objs.size))) { s with heap := zsH5 s.heap x t b }) :=
  .of_wp fun prog w A R s h => by
    obtain ⟨hp, g, d, tk, os⟩ := s
    obtain ⟨hb, h⟩ := h
    have hsub := sub_zip
    have hB : Heap.IsTuple (Shared.heap ⟨hp.push { cls := .type (strIterType x), data := .fields #[.str x t, .int 0 0] }, g, d, tk, os⟩) b ys := Heap.IsTuple.push hb _
    have hA : ∀ (A : Around) (E : Value → Shared → Prop) (Q : Value → Shared → Prop), Q (.ref hp.objs.size) ⟨hp.push { cls := .type (strIterType x), data := .fields #[.str x t, .int 0 0] }, g, d, tk, os⟩ → wpAny (model prog w) A (pyIter (.str x t)) Q E ⟨hp, g, d, tk, os⟩ := fun A E Q q => wpAny_pyIter_strU q
    wp_walk using hA _ _ _, wpAny_pyIter_tuple hB
    exact ⟨_, rfl, h⟩
end DL
namespace DL
open PySem L2 PySem.Spec PyProof.Rows
section
variable {prog : Program} {w : World} {A : Around} {E : Value → Shared → Prop} {s : Shared}
theorem call_zs {x : Str} {t : Tok} {b : Addr} {ys : Array Value} {Q : Value → Shared → Prop} (hb : s.heap.IsTuple b ys)
    (h : ∀ h', IsZip h' (s.heap.objs.size + 4) (s.heap.objs.size + 2) (s.heap.objs.size + 3) .none → IsTupOf2 h' (s.heap.objs.size + 2) (.ref s.heap.objs.size) (.ref (s.heap.objs.size + 1)) → IsTupOf2 h' (s.heap.objs.size + 3) .none .none →
      h'.IsStrIter s.heap.objs.size (strIterType x) x t 0 → h'.IsTupleIter (s.heap.objs.size + 1) b 0 → (∀ c o, s.heap.get? c = some o → h'.get? c = some o) → Q (.ref (s.heap.objs.size + 4)) { s with heap := h' }) :
    wpAny (model prog w) A (call (.type "zip") [.str x t, .ref b]) Q E s := by
  refine callType_new F.called_zip (by decide) (F.typeCall_zip_2 _ _) (F.newCall_zip_2 _ _) (fun obj => F.args_object_init_3 obj _ _) F.entry_zip_new (meets_zs x t b ys) ⟨hb, ?_⟩
  have z1 : (zsH1 s.heap x t).objs.size = s.heap.objs.size + 1 := Heap.size_push ..
  have z2 : (zsH2 s.heap x t b).objs.size = s.heap.objs.size + 2 := by rw [Heap.size_push, z1]
  have z3 : (zsH3 s.heap x t b).objs.size = s.heap.objs.size + 3 := by rw [Heap.size_push, z2]
  have z4 : (zsH4 s.heap x t b).objs.size = s.heap.objs.size + 4 := by rw [Heap.size_push, z3]
  have p1 : ∀ c o, (zsH1 s.heap x t).get? c = some o → (zsH5 s.heap x t b).get? c = some o := fun c o e => Heap.get?_push_of_some _ (Heap.get?_push_of_some _ (Heap.get?_push_of_some _ (Heap.get?_push_of_some _ e)))
  have g5 : (zsH5 s.heap x t b).get? (zsH4 s.heap x t b).objs.size = some _ := Heap.get?_push_size _ rfl
  have g4 : (zsH5 s.heap x t b).get? (zsH3 s.heap x t b).objs.size = some _ := Heap.get?_push_of_some _ (Heap.get?_push_size _ rfl)
  have g3 : (zsH5 s.heap x t b).get? (zsH2 s.heap x t b).objs.size = some _ := Heap.get?_push_of_some _ (Heap.get?_push_of_some _ (Heap.get?_push_size _ rfl))
  have g2 : (zsH5 s.heap x t b).get? (zsH1 s.heap x t).objs.size = some _ := Heap.get?_push_of_some _ (Heap.get?_push_of_some _ (Heap.get?_push_of_some _ (Heap.get?_push_size _ rfl)))
  have g1 : (zsH5 s.heap x t b).get? s.heap.objs.size = some _ := p1 _ _ (Heap.get?_push_size _ rfl)
  show _ ∧ _
  rw [z2, z3, z4] at g5
  rw [z1, z2] at g3
  rw [z3] at g4
  rw [z1] at g2
  rw [z4]
  exact ⟨⟨_, g5, rfl⟩, h _ g5 g3 g4 ⟨_, g1, rfl, rfl⟩ ⟨_, g2, rfl, rfl⟩ fun c o e => p1 _ _ (Heap.get?_push_of_some _ e)⟩
end
theorem turn_zs {P : Program} {w : World} {K : PySem.W.Frag} {elts : List PySem.Expr} {kk : Nat} {tpos : Pos} (x : Str) (t : Tok) (b z TI TO i1 i2 : Addr) (m : Nat) (D : ZipSep2 z TI TO i1 i2 [i1] [i2, b]) :
    Turn P w K (.Tuple elts kk tpos) (Itzs K x b m) [z, TI, TO, i1, i2] z (fun i h => (i ≤ x.cps.size ∧ i ≤ m) ∧ IsZip h z TI TO .none ∧ IsTupOf2 h TI (.ref i1) (.ref i2) ∧ (∃ u v, IsTupOf2 h TO u v) ∧ h.IsStrIter i1 (strIterType x) x t i ∧ h.IsTupleIter i2 b i) where
  mem := by simp
  obj := fun i h st c hc => by
    obtain ⟨_, hz, hTI, ⟨u, v, hTO⟩, ⟨o1, e1, _, d1⟩, ⟨o2, e2, _, d2⟩⟩ := st
    have ec : c = z ∨ c = TI ∨ c = TO ∨ c = i1 ∨ c = i2 := by simpa using hc
    rcases ec with rfl | rfl | rfl | rfl | rfl
    · exact ⟨_, hz, fun v q => nomatch q⟩
    · exact ⟨_, hTI, fun v q => nomatch q⟩
    · exact ⟨_, hTO, fun v q => nomatch q⟩
    · exact ⟨o1, e1, fun v q => by rw [d1] at q; cases q⟩
    · exact ⟨o2, e2, fun v q => by rw [d2] at q; cases q⟩
  keep := fun i h h' st k => by
    obtain ⟨hle, hz, hTI, ⟨u, v, hTO⟩, ⟨o1, e1, r1⟩, ⟨o2, e2, r2⟩⟩ := st
    exact ⟨hle, k z (by simp) _ hz, k TI (by simp) _ hTI, ⟨u, v, k TO (by simp) _ hTO⟩, ⟨o1, k i1 (by simp) o1 e1, r1⟩, ⟨o2, k i2 (by simp) o2 e2, r2⟩⟩
  item := by
    intro X hP hw hK hc i pins s σ H E I hf st hg
    subst hP hw hK
    obtain ⟨hle, hz, hTI, ⟨u0, v0, hTO⟩, h1, h2⟩ := st
    obtain ⟨hlt, him, ys, hqy, hlm⟩ := hg
    obtain ⟨y, hy⟩ : ∃ y, ys[i]? = some y := ⟨ys[i]'(by omega), List.getElem?_eq_getElem (by omega)⟩
    obtain ⟨its, rv, p, _⟩ := I.tuple hqy
    have hh : X.A.in1.handled = none := I.ok.hd hc
    have zL : z < s.heap.objs.size := Heap.lt_size hz
    have hl := rv.length
    have hiy : i < ys.length := (List.getElem?_eq_some_iff.mp hy).1
    have ne2 : b ≠ i2 := fun e => by
      obtain ⟨o2, e2, c2, _⟩ := h2
      obtain ⟨ob, eb, cb, _⟩ := p
      rw [e, e2] at eb; cases eb
      rw [c2] at cb
      exact absurd cb (by decide)
    refine wpAny_pyNext_zipD2_item (n1 := x.cps.size) (n2 := its.toArray.size) D (Draws.text hh i1 x t) (Draws.tuple hh i2 b ne2 its.toArray) hz hTI hTO h1 ⟨h2, p⟩ hlt (by simp; omega) fun u1 u2 h' tk hu1 hu2 hz' hTO' h1' h2' hT hsz hk => ?_
    refine ⟨_, rfl, wpAny_letOwnedTupleGo_zip (s := { s with heap := h', toks := tk }) hz' fun h'' hz'' sb => ?_⟩
    obtain ⟨u2', hu2', ru2⟩ := rv.get hy
    have eu : u2' = u2 := by
      have : its.toArray[i]? = its[i]? := by simp
      rw [this, hu2'] at hu2
      exact Option.some.inj hu2
    subst eu
    have hT2 : h''.get? s.heap.objs.size = some { cls := .type "tuple", data := .seq #[u1, u2'] } := (sb.2 _ (Nat.ne_of_gt zL)).trans hT
    have new : ObjOk X.prog X.w (upd H s.heap.objs.size (.tup [letV x i, y])) h'' s.heap.objs.size (.tup [letV x i, y]) :=
      ⟨by show 2 ≤ sizeLine; decide, [u1, u2'], .cons (letV_rel hu1) (.cons ru2 .nil), ⟨_, hT2, rfl, _, rfl⟩⟩
    have IN : Inv X pins σ (upd H s.heap.objs.size (.tup [letV x i, y])) { s with heap := h'', toks := tk } :=
      I.turnedNew (ch := [z, TI, TO, i1, i2]) (fun c o hb q => by
        have nc : c ≠ z ∧ c ≠ TI ∧ c ≠ TO ∧ c ≠ i1 ∧ c ≠ i2 := by simpa using hb
        exact (sb.2 c nc.1).trans (hk c o nc.1 nc.2.2.1 nc.2.2.2.1 nc.2.2.2.2 q)) hf (Nat.le_refl _) new
    refine ⟨.ref s.heap.objs.size, _, IN, rfl, ⟨_, y, rfl, I.hok.fresh (Nat.le_refl _), rfl, fun l hq => by rw [I.tuple_inj hq hqy]; exact hy⟩, ⟨⟨hlt, him⟩, hz'', ?_, ⟨u1, u2', ?_⟩, ?_, ?_⟩, fun c hcm => ?_⟩
    · exact (sb.2 _ D.TIz).trans (hk _ _ D.TIz D.TITO D.TIi1 D.TIi2 hTI)
    · exact (sb.2 _ D.TOz).trans hTO'
    · obtain ⟨o, q, r⟩ := h1'
      exact ⟨o, (sb.2 _ (Ne.symm D.zi1)).trans q, r⟩
    · obtain ⟨⟨o, q, r⟩, _⟩ := h2'
      exact ⟨o, (sb.2 _ (Ne.symm D.zi2)).trans q, r⟩
    · have lc : c < s.heap.objs.size := by
        have ec : c = z ∨ c = TI ∨ c = TO ∨ c = i1 ∨ c = i2 := by simpa using hcm
        rcases ec with rfl | rfl | rfl | rfl | rfl
        · exact zL
        · exact Heap.lt_size hTI
        · exact Heap.lt_size hTO
        · obtain ⟨_, e1, _⟩ := h1; exact Heap.lt_size e1
        · obtain ⟨_, e2, _⟩ := h2; exact Heap.lt_size e2
      rw [upd_ne (Nat.ne_of_lt lc)]
      exact (hf c hcm).1
  done := by
    intro X hP hw hK hc i pins s σ H E I hf st hg
    subst hP hw hK
    obtain ⟨hle, hz, hTI, ⟨u0, v0, hTO⟩, h1, h2⟩ := st
    obtain ⟨⟨ys, hqy, hlm⟩, hend⟩ := hg
    obtain ⟨hle, hlm2⟩ := hle
    obtain ⟨its, rv, p, _⟩ := I.tuple hqy
    have hh : X.A.in1.handled = none := I.ok.hd hc
    have hl := rv.length
    have ne2 : b ≠ i2 := fun e => by
      obtain ⟨o2, e2, c2, _⟩ := h2
      obtain ⟨ob, eb, cb, _⟩ := p
      rw [e, e2] at eb; cases eb
      rw [c2] at cb
      exact absurd cb (by decide)
    refine wpAny_pyNext_zipD2_end (n1 := x.cps.size) (n2 := its.toArray.size) D (Draws.text hh i1 x t) (Draws.tuple hh i2 b ne2 its.toArray) hz hTI hTO h1 ⟨h2, p⟩ hle (by simp; omega) ?_ fun h' tk hk => ⟨rfl, I.turnedL (t' := tk) (ch := [z, TI, TO, i1, i2]) (fun c o hb q => ?_) hf⟩
    · rcases hend with q | q
      · exact .inl (by omega)
      · exact .inr (by simp; omega)
    · have nc : c ≠ z ∧ c ≠ TI ∧ c ≠ TO ∧ c ≠ i1 ∧ c ≠ i2 := by simpa using hb
      exact hk c o nc.1 nc.2.2.1 nc.2.2.2.1 nc.2.2.2.2 q
  self := fun A i s Q E st h => wpAny_pyIter_zip st.2.1 h
theorem zs_apart (N b : Nat) (h : b < N) : ZipSep2 (N + 4) (N + 2) (N + 3) N (N + 1) [N] [N + 1, b] := by
  have k1 : ∀ m k : Nat, m ≠ k → m ∉ [k] := fun m k h hm => h (List.mem_singleton.mp hm)
  have k2 : ∀ m k l : Nat, m ≠ k → m ≠ l → m ∉ [k, l] := fun m k l h1 h2 hm => by
    rcases List.mem_cons.mp hm with e | hm
    · exact h1 e
    · exact h2 (List.mem_singleton.mp hm)
  have a1 : N + 2 ≠ N + 4 := by omega
  have a2 : N + 3 ≠ N + 4 := by omega
  have a3 : N + 2 ≠ N + 3 := by omega
  have a4 : N + 2 ≠ N := by omega
  have a5 : N + 4 ≠ N := by omega
  have a6 : N + 3 ≠ N := by omega
  have a7 : N + 2 ≠ N + 1 := by omega
  have a8 : N + 4 ≠ N + 1 := by omega
  have a9 : N + 4 ≠ b := by omega
  have b1 : N + 3 ≠ N + 1 := by omega
  have b2 : N + 3 ≠ b := by omega
  have b3 : N ≠ N + 1 := by omega
  have b4 : N ≠ b := by omega
  have b5 : N + 1 ≠ N := by omega
  exact ⟨a1, a2, a3, a4, List.mem_singleton.mpr rfl, k1 _ _ a5, k1 _ _ a6, a7, List.mem_cons_self, k2 _ _ _ a8 a9, k2 _ _ _ b1 b2, k2 _ _ _ b3 b4, k1 _ _ b5⟩
def iZipS (K : PySem.W.Frag) (ta : TA) : TI := fun σ H R => ta σ H fun vs H1 => ∃ x b ys, vs = [.str x, .ref b] ∧ SqT K H1 b ys ∧ R (Itzs K x b ys.length) H1
theorem pi_zipS {X : Cx} {e e2 : PySem.Expr} {ta : TA} {p pos tpos : Pos} {elts : List PySem.Expr} {kk : Nat} (hg : Gl X "zip") (hm : X.mg "zip" = none) (ha : PA X [e, e2] ta)
    (hs : starEach [e, e2] X.env = (false, eval e X.env) :: starEach [e2] X.env := by rfl) (hyP : (backTo pos (starEach [e2] X.env)).any (·.1) = false := by rfl) :
    PI X (.Tuple elts kk tpos) (.Call (.Name "zip" p) [e, e2] [] pos) (iZipS X.K ta) := by
  refine ⟨fun pins s σ H R I h => ?_⟩
  refine Call_ (ld_blt I hg hm PyProof.Rows.boot_zip (PyProof.Rows.callWith_type1 (thn (ha.run pos pins s σ H _ I h) fun us s1 ⟨vs, H1, I1, r1, x, b, ys, ex, hq, q⟩ => ?_) hs hyP))
  subst ex
  cases r1 with
  | cons r rr =>
    cases rr with
    | cons r' rr =>
      cases rr
      cases r'
      obtain ⟨t, rfl⟩ := r
      obtain ⟨its, rv, p1, _⟩ := I1.tuple hq
      have bL : b < s1.heap.objs.size := by obtain ⟨o, ho, _⟩ := p1; exact Heap.lt_size ho
      refine call_zs (show s1.heap.IsTuple b its.toArray from p1) fun h' hz hTI hTO h1 h2 hk => wpAny_pyIter_zip hz ?_
      have IN : Inv X pins σ H1 { s1 with heap := h' } := I1.kept (t' := s1.toks) hk
      have D := zs_apart s1.heap.objs.size b bL
      refine ⟨s1.heap.objs.size + 4, [s1.heap.objs.size + 4, s1.heap.objs.size + 2, s1.heap.objs.size + 3, s1.heap.objs.size, s1.heap.objs.size + 1], _, _, H1, rfl, IN, turn_zs x t b _ _ _ _ _ ys.length D, ⟨⟨Nat.zero_le _, Nat.zero_le _⟩, hz, hTI, ⟨_, _, hTO⟩, h1, h2⟩, fun c hcm => ?_, q⟩
      have hle : s1.heap.objs.size ≤ c := by
        have ec : c = s1.heap.objs.size + 4 ∨ c = s1.heap.objs.size + 2 ∨ c = s1.heap.objs.size + 3 ∨ c = s1.heap.objs.size ∨ c = s1.heap.objs.size + 1 := by simpa using hcm
        rcases ec with z | z | z | z | z <;> rw [z] <;> first | exact Nat.le_refl _ | exact Nat.le_add_right _ _
      exact I1.fpOk hle (I1.hok.fresh hle)
/-! on data -/
section
variable {K : PySem.W.Frag} {n : Nat} {ρ : Rho}
def ltD (x : Str) : List PyData := x.cps.toList.map fun c => .str ⟨#[c]⟩
theorem ltD_get {x : Str} {i : Nat} {d : PyData} (h : (ltD x)[i]? = some d) : i < x.cps.size ∧ d = .str ⟨#[x.cps.getD i 0]⟩ := by
  unfold ltD at h
  rw [List.getElem?_map] at h
  cases hx : x.cps.toList[i]? with
  | none => rw [hx] at h; exact nomatch h
  | some c =>
    rw [hx] at h
    cases h
    have hl := (List.getElem?_eq_some_iff.mp hx).1
    have e : x.cps[i]? = some c := by rw [← hx]; simp
    refine ⟨by simpa using hl, ?_⟩
    rw [Array.getD_eq_getD_getElem?, e]
    rfl
theorem ltD_len (x : Str) : (ltD x).length = x.cps.size := by unfold ltD; simp
theorem src_enumS {x : Str} {O : List Addr} {H : Hp} : Src K (Ites x) O H (enumD (ltD x)) := by
  refine ⟨fun O' H' i e hi => ?_, fun O' H' i e hi => ?_, fun O' H' i v H'' d e al y hx => ?_⟩
  · rw [enumD_len, ltD_len] at hi; exact hi
  · rw [enumD_len, ltD_len] at hi; exact hi
  · obtain ⟨T, rfl, hT, rfl⟩ := y
    obtain ⟨q, h1, rfl⟩ := enumD_get hx
    obtain ⟨_, rfl⟩ := ltD_get h1
    exact ⟨Ext.new hT, .tup (SqT.of (msk_of (fresh_no al hT) upd_same)) (.cons (.int _) (.cons (.str _) .nil))⟩
theorem di_enumS {t : TA} {Ψ : PL} (h : DA K n t ρ fun xs ρ1 => ∃ x, xs = [.str x] ∧ Ψ (enumD (ltD x)) ρ1) : DI K n (iEnumS t) ρ Ψ := fun O σ H E R q =>
  h O σ H E _ fun vs xs ρ1 O1 H1 ⟨x, e, hk⟩ S r => by
    subst e
    cases r with
    | cons r1 r2 => cases r2; cases r1; exact ⟨x, rfl, q _ _ ρ1 O1 H1 hk S src_enumS⟩
theorem src_zipS {x : Str} {b : Addr} {O : List Addr} {H : Hp} {ys : List PyData} {vs : List V} (h : SqT K (msk O H) b vs) (hd : DPAll K (msk O H) vs ys) : Src K (Itzs K x b vs.length) O H (zipD (ltD x) ys) := by
  have l2 := dpa_len hd
  refine ⟨fun O' H' i e hi => ?_, fun O' H' i e hi => ?_, fun O' H' i v H'' d e al y hx => ?_⟩
  · rw [zipD_len, ltD_len] at hi
    exact ⟨by omega, by omega, vs, msk_t (e.t h), rfl⟩
  · rw [zipD_len, ltD_len] at hi
    exact ⟨⟨vs, msk_t (e.t h), rfl⟩, by omega⟩
  · obtain ⟨T, y1, rfl, hT, rfl, g⟩ := y
    obtain ⟨p, q, e1, e2, rfl⟩ := zipD_get hx
    obtain ⟨_, rfl⟩ := ltD_get e1
    obtain ⟨q', e2', r2⟩ := dpa_get' hd (g vs (msk_t (e.t h)))
    rw [e2] at e2'; cases e2'
    exact ⟨Ext.new hT, .tup (SqT.of (msk_of (fresh_no al hT) upd_same)) (.cons (.str _) (.cons (dp_ext (msk_ext (Ext.new hT)) (dp_ext e r2)) .nil))⟩
theorem di_zipS {t : TA} {Ψ : PL} (h : DA K n t ρ fun zs ρ1 => ∃ x ys, zs = [.str x, .tuple ys] ∧ Ψ (zipD (ltD x) ys) ρ1) : DI K n (iZipS K t) ρ Ψ := fun O σ H E R q =>
  h O σ H E _ fun vs zs ρ1 O1 H1 ⟨x, ys, e, k⟩ S r => by
    subst e
    cases r with
    | cons r1 r2 =>
      cases r2 with
      | cons r2 r3 =>
        cases r3
        cases r1
        cases r2 with
        | tup q2 d2 => exact ⟨x, _, _, rfl, msk_t q2, q _ _ ρ1 O1 H1 k S (src_zipS q2 d2)⟩
end
end DL
namespace DL
open PySem L2 PySem.Spec PyProof.Rows
section
variable {K : PySem.W.Frag} {n : Nat} {O O1 : List Addr} {σ : L2.St} {ρ ρ1 : Rho} {H H1 : Hp} {ta tb tc te : TE} {tt : TT} {Φ : PD} {F : DE2} {Φf : PF} {Ψ : PyData → Prop}
theorem set_same {α : Type} (l : List α) (j : Nat) (c : α) (h : l[j]? = some c) : l.set j c = l := by
  apply List.ext_getElem?
  intro i
  by_cases hij : j = i
  · subst hij
    rw [List.getElem?_set_self (List.getElem?_eq_some_iff.mp h).1, h]
  · rw [List.getElem?_set_ne hij]
/-- [te for j in own list i for l in wi1]; what is read stays as it is -/
theorem df_lc2O {i j l : Nat} {wi1 : TI} {ds : List PyData} (hij : i ≠ j) (hil : i ≠ l) (hjl : j ≠ l) (h0 : ρ[i]? = some (some (.lst (.l ds))))
    (h : n ≤ j ∧ n ≤ l ∧ ρ[j]? = some none ∧ ρ[l]? = some none ∧ ∃ J : Nat → List PyData → Prop, J 0 [] ∧
      (∀ k d out, ds[k]? = some d → J k out → DI K n wi1 (ρ.set j (some (.val d))) fun es ρ2 => ρ2 = ρ.set j (some (.val d)) ∧ ∃ L : Nat → List PyData → Prop, L 0 out ∧
        (∀ m e out2, es[m]? = some e → L m out2 → out2.length < 100000 ∧ DW K n te ((ρ.set j (some (.val d))).set l (some (.val e))) fun y ρ4 => ρ4 = (ρ.set j (some (.val d))).set l (some (.val e)) ∧ L (m + 1) (out2 ++ [y])) ∧
        (∀ out2, L es.length out2 → J (k + 1) out2)) ∧
      ∀ out, J ds.length out → Φf (.l out) ρ) : DF K n (tLc2 (iList K (tVar i)) (gName j) tYes wi1 (gName l) tYes te [j, l] [l]) ρ Φf := by
  intro O σ H E Q q
  obtain ⟨hj, hl, hρj, hρl, J, j0, jt, je⟩ := h
  obtain ⟨p, vs0, hσi, hpO, hHp, hd0⟩ := env_lst E h0
  refine ⟨.ref p, hσi, p, rfl, ⟨_, SqL.of hHp⟩, ?_⟩
  intro D hD
  have SD := stp_alloc (n := n) (o := .lst []) E hD
  have noD := not_owned E hD
  have hjσ : j < σ.length := by rw [E.len]; exact (List.getElem?_eq_some_iff.mp hρj).1
  have hlσ : l < σ.length := by rw [E.len]; exact (List.getElem?_eq_some_iff.mp hρl).1
  have ρl : ρ.set l none = ρ := set_same ρ l none hρl
  have ρj : ρ.set j none = ρ := set_same ρ j none hρj
  refine ⟨fun k m H' => m = ds.length - k ∧ k ≤ ds.length ∧ ∃ O' out vs, J k out ∧ Stp K n O σ ρ H O' σ ρ H' ∧ D ∈ O' ∧ H' D = some (.lst vs) ∧ DPAll K (msk O' H') vs out,
    ⟨ds.length, by simp, Nat.zero_le _, D :: O, [], [], j0, SD, List.mem_cons_self, upd_same, .nil⟩, ?_⟩
  rintro k m H' ⟨rfl, hi, O', out, vs, jj, S', nO', hH', hd'⟩
  obtain ⟨p', us, hσ', hpO', hHp', hdu⟩ := env_lst S'.env h0
  rw [hσi] at hσ'; cases hσ'
  have hul := dpa_len hdu
  have noAny : ∀ {σ' : L2.St} {ρ' : Rho}, (∀ b, Owns σ' ρ' b → Owns σ ρ b) → ¬ Owns σ' ρ' D := fun g w => noD (g D w)
  by_cases hlt : k < ds.length
  · refine .inr ⟨⟨us, us[k]'(by omega), SqL.of hHp', by simp⟩, fun H2 => ∃ O2 out2 vs2, J (k + 1) out2 ∧ Stp K n O σ ρ H O2 σ ρ H2 ∧ D ∈ O2 ∧ H2 D = some (.lst vs2) ∧ DPAll K (msk O2 H2) vs2 out2,
      fun H2 ⟨O2, out2, vs2, a, b, d, e, f⟩ => ⟨ds.length - (k + 1), by omega, rfl, hlt, O2, out2, vs2, a, b, d, e, f⟩, fun x H2 y => ?_⟩
    obtain ⟨d, hd⟩ : ∃ d, ds[k]? = some d := ⟨ds[k], by simp [hlt]⟩
    obtain ⟨eH, y⟩ := y
    subst eH
    have hx := y us (SqL.of hHp')
    obtain ⟨d', g1, r2⟩ := dpa_get' hdu hx
    rw [hd] at g1; cases g1
    have hσt : (wipe σ [j, l]).set j (some x) = (σ.set l none).set j (some x) := by
      show (((σ.set l none).set j none)).set j (some x) = _
      exact List.set_set ..
    unfold gName
    rw [hσt]
    refine ⟨by
      show ((((σ.set l none).set j (some x)).set l none)).set j none = ((σ.set l none).set j none)
      rw [List.set_comm _ _ hjl, List.set_set, List.set_set], ?_⟩
    -- the outer target is set
    have Sl := stp_out (n := n) (j := l) (x := none) S'.env hl
    rw [ρl] at Sl
    have Sin := stp_in (n := n) Sl.env hj r2
    have SA := Sl.trans S'.env Sin
    have ownA : ∀ b, Owns ((σ.set l none).set j (some x)) (ρ.set j (some (.val d))) b → Owns σ ρ b := fun b w => by
      have w1 := owns_set (fun ds => by simp) w
      refine owns_set (j := l) (x := none) (y := none) (fun ds => by simp) (by rw [ρl]; exact w1)
    generalize hA : (σ.set l none).set j (some x) = σA at SA ownA ⊢
    have lA : σA.length = σ.length := by rw [← hA]; simp
    have σAl : σA[l]? = some none := by
      rw [← hA, List.getElem?_set_ne hjl, List.getElem?_set_self hlσ]
    have backA : (σA.set j σ[j]).set l σ[l] = σ := by
      rw [← hA, List.set_set, List.set_comm _ _ (Ne.symm hjl), List.set_set]
      rw [set_same σ j σ[j] (List.getElem?_eq_getElem hjσ), set_same σ l σ[l] (List.getElem?_eq_getElem hlσ)]
    unfold tYes
    dsimp only
    rw [if_pos rfl]
    refine jt k d out hd jj O' σA H2 SA.env _ fun J1 es ρ2 O2 H3 ⟨eρ, L, l0, lt, le⟩ S3 src => ?_
    subst eρ
    have SA3 := SA.trans S'.env S3
    have no3 : ¬ Owns σA (ρ.set j (some (.val d))) D := noAny ownA
    have hD3 : H3 D = some (.lst vs) := S3.le D _ no3 hH'
    have S03 := S'.trans E SA3
    refine ⟨fun m t H4 => t = es.length - m ∧ m ≤ es.length ∧ ∃ O4 out4 vs4, L m out4 ∧ Stp K n O σ ρ H O4 σA (ρ.set j (some (.val d))) H4 ∧ Ext (msk O2 H3) (msk O4 H4) ∧ D ∈ O4 ∧ H4 D = some (.lst vs4) ∧ DPAll K (msk O4 H4) vs4 out4,
      ⟨es.length, by simp, Nat.zero_le _, O2, out, vs, l0, S03, Ext.refl _, S3.sub D nO', hD3, S3.dpa SA.env hd'⟩, ?_⟩
    rintro m t H4 ⟨rfl, hm, O4, out4, vs4, ll, S4, em, nO4, hD4, hd4⟩
    by_cases hmt : m < es.length
    · refine .inr ⟨src.go O4 H4 m em hmt, fun H5 => ∃ O5 out5 vs5, L (m + 1) out5 ∧ Stp K n O σ ρ H O5 σA (ρ.set j (some (.val d))) H5 ∧ Ext (msk O2 H3) (msk O5 H5) ∧ D ∈ O5 ∧ H5 D = some (.lst vs5) ∧ DPAll K (msk O5 H5) vs5 out5,
        fun H5 ⟨O5, out5, vs5, a, b, d, e, f, g⟩ => ⟨es.length - (m + 1), by omega, rfl, hmt, O5, out5, vs5, a, b, d, e, f, g⟩, fun x1 H5 y1 => ?_⟩
      obtain ⟨e1, he1⟩ : ∃ e1, es[m]? = some e1 := ⟨es[m], by simp [hmt]⟩
      obtain ⟨e5, r5⟩ := src.yld O4 H4 m x1 H5 e1 em S4.env.al y1 he1
      have Sg := Stp.grow (n := n) S4.env e5
      have S45 := S4.trans E Sg
      have hσB : (wipe σA [l]).set l (some x1) = σA.set l (some x1) := by
        show (σA.set l none).set l (some x1) = _
        exact List.set_set ..
      rw [hσB]
      refine ⟨by
        show (σA.set l (some x1)).set l none = σA.set l none
        exact List.set_set .., ?_⟩
      rw [if_pos rfl]
      have Sb := stp_in (n := n) S45.env hl r5
      have ownB : ∀ b, Owns (σA.set l (some x1)) ((ρ.set j (some (.val d))).set l (some (.val e1))) b → Owns σ ρ b := fun b w => ownA b (owns_set (fun ds => by simp) w)
      obtain ⟨olen, hw⟩ := lt m e1 out4 he1 ll
      refine hw O4 _ H5 Sb.env _ fun v yd ρ4 O6 H6 ⟨eρ4, l6⟩ S6 r6 => ?_
      subst eρ4
      have hD6 : H6 D = some (.lst vs4) := S6.le D _ (noAny ownB) (e5 D _ hD4)
      have hd6 := S6.dpa Sb.env (Sg.dpa S4.env hd4)
      refine ⟨vs4, hD6, Nat.lt_trans (by rw [dpa_len hd4]; exact olen) (show (100000 : Nat) < sizeLine by decide), ?_⟩
      have So := stp_out (n := n) (j := l) (x := none) S6.env hl
      have eσ : (σA.set l (some x1)).set l none = σA := by rw [List.set_set]; exact set_same σA l none σAl
      have eρ : ((ρ.set j (some (.val d))).set l (some (.val e1))).set l none = ρ.set j (some (.val d)) := by
        rw [List.set_set]
        exact set_same _ l none (by rw [List.getElem?_set_ne hjl]; exact hρl)
      rw [eσ, eρ] at So
      have Sr := (Sb.trans S45.env S6).trans S45.env So
      have S46 := S45.trans E Sr
      have nO6 : D ∈ O6 := S6.sub D nO4
      obtain ⟨S7, em7⟩ := stp_writeD (o := .lst (vs4 ++ [v])) S46 hD nO6 (noAny ownA)
      refine ⟨O6, out4 ++ [yd], vs4 ++ [v], l6, S7, ?_, nO6, upd_same, ?_⟩
      · rw [em7]
        exact em.trans ((Sg.msk S4.env).trans (Sr.msk S45.env))
      · rw [em7]
        exact dpa_append hd6 (dpa_one r6)
    · have e : m = es.length := by omega
      subst e
      refine .inl ⟨src.stop O4 H4 _ em (Nat.le_refl _), ?_⟩
      have So1 := stp_out (n := n) (j := j) (x := σ[j]) S4.env hj
      have So2 := stp_out (n := n) (j := l) (x := σ[l]) So1.env hl
      have eρ : ((ρ.set j (some (.val d))).set j none).set l none = ρ := by rw [List.set_set, ρj, ρl]
      rw [eρ, backA] at So2
      exact ⟨O4, out4, vs4, le out4 ll, S4.trans E (So1.trans S4.env So2), nO4, hD4, hd4⟩
  · have e : k = ds.length := by omega
    subst e
    refine .inl ⟨⟨us, SqL.of hHp', by omega⟩, ?_⟩
    have mem : ∀ b, b ∈ O' ↔ b ∈ D :: O'.filter (fun b => decide (b ≠ D)) := fun b => by
      by_cases hb : b = D
      · subst hb; simp [nO']
      · simp [hb]
    refine q D (.lst vs) (.l out) ρ _ H' (je out jj) (stp_mem S' mem) (by simp) noD hD hH' ?_
    rw [msk_mem mem]
    exact hd'
/-- name.extend(a new list) on a list of its own -/
theorem ds_ext {i : Nat} {ds0 : List PyData} (h0 : ρ[i]? = some (some (.lst (.l ds0)))) (h : DF K n te ρ fun o ρ1 => ∃ ds es, o = .l es ∧ ρ1[i]? = some (some (.lst (.l ds))) ∧ ds.length + es.length ≤ 100000 ∧ F.nx (ρ1.set i (some (.lst (.l (ds ++ es)))))) :
    DSx K n (tDrop (tBM K "list" rExtend (tVar i) (tCons te tNil))) ρ F := fun O σ H E D h1 h2 h3 h4 h5 => by
  obtain ⟨p, vs0, a, b, c, _⟩ := env_lst E h0
  refine ⟨.ref p, a, .inl ⟨rfl, _, SqL.of c⟩, ?_⟩
  refine h O σ H E _ fun q ws o ρ1 O1 H1 ⟨ds, es, eo, hi, hl, k⟩ S nq no hq0 hq hw => ?_
  subst eo
  obtain ⟨zs, rfl, hz⟩ := ho_l hw
  obtain ⟨p', vs, a', b', c', hd⟩ := env_lst S.env hi
  rw [a] at a'; cases a'
  refine ⟨p, q, vs, zs, rfl, rfl, c', hq, ?_, ?_⟩
  · rw [dpa_len hd, dpa_len hz]
    exact Nat.le_trans hl (by decide)
  · exact h1 _ _ _ _ k (S.trans E (stp_write S.env hi a (dpa_append hd hz)))
/-- name not in a tuple of texts -/
theorem dp_strs {H : Hp} : ∀ {zs : List Str} {vs : List V}, DPAll K H vs (zs.map PyData.str) → vs = zs.map V.str
  | [], _, .nil => rfl
  | _ :: zs, _, .cons a b => by cases a; rw [dp_strs b]; rfl
theorem flat_strs : ∀ zs : List Str, (zs.map V.str).all flatV = true
  | [] => rfl
  | _ :: zs => by rw [List.map_cons, List.all_cons, flat_strs zs]; rfl
theorem rd_notinS {z : Str} {zs : List Str} (k : Ψ (.bool (!inV (.str z) (zs.map V.str)))) : RD (rIn K true) K (.str z) (.tuple (zs.map .str)) Ψ := fun O H vx vy al hx hy Q q => by
  cases hx
  cases hy with
  | tup hq hd =>
    have e := dp_strs hd
    subst e
    exact ⟨_, _, rfl, .inr (msk_t hq), rfl, flat_strs zs, q _ _ H k (Ext.refl H) (.bl _)⟩
/-- sorted of a list of ints -/
theorem dpa_intsI {H : Hp} : ∀ {ns : List Int} {vs : List V}, DPAll K H vs (ns.map PyData.int) → vs = ns.map V.int
  | [], _, .nil => rfl
  | _ :: ns, _, .cons a b => by cases a; rw [dpa_intsI b]; rfl
theorem rc_sortI {ns : List Int} (k : ∀ ms : List Int, ms.Perm ns → ms.Pairwise (· ≤ ·) → Ψ (.list (ms.map .int))) : RC (rSortedI K) K [.list (ns.map .int)] Ψ := fun O H vs al hh Q q => by
  cases hh with
  | cons h1 h2 =>
    cases h2
    cases h1 with
    | lst hq hd =>
      have e := dpa_intsI hd
      subst e
      exact ⟨_, ns, rfl, msk_l hq, fun ms p hp hs hn => q _ _ _ (k ms hp hs) (Ext.new hn) (dp_newL al hn (dpa_ints ms))⟩
/-- list(range(a, b)) -/
def rgD (a b : Int) : List PyData := (List.range (b - a).toNat).map fun i => .int (a + (i : Nat))
theorem rg_dp {H : Hp} (a b : Int) : DPAll K H (rgV a b) (rgD a b) := by
  unfold rgV rgD
  generalize List.range (b - a).toNat = L
  induction L with
  | nil => exact .nil
  | cons x L ih => exact .cons (.int _) ih
theorem dw_lstRg (h : DW K n ta ρ fun x ρ1 => DW K n tb ρ1 fun y ρ2 => ∃ i j, x = .int i ∧ y = .int j ∧ RgOk i j ∧ Φ (.list (rgD i j)) ρ2) : DW K n (tLstRg (tRg2 ta tb)) ρ Φ := fun O σ H E Q q =>
  h O σ H E _ fun v x ρ1 O1 H1 hb S r => hb O1 σ H1 S.env _ fun u y ρ2 O2 H2 ⟨i, j, e1, e2, ok, k⟩ S2 r2 => by
    subst e1; subst e2
    cases r; cases r2
    have S12 := S.trans E S2
    exact ⟨i, j, rfl, rfl, ok, fun p hp => q _ _ ρ2 O2 _ k (S12.trans E (Stp.grow S12.env (Ext.new hp))) (dp_newL S12.env.al hp (rg_dp i j))⟩
/-- a text or a tuple that the top holds -/
theorem dw_glT {a : Addr} {vs : List V} {ds : List PyData} (h : ∀ H, DP K H (.ref a) (.tuple ds)) (k : Φ (.tuple ds) ρ) : DW K n (tC (.ref a)) ρ Φ := fun O σ H E Q q => q _ _ ρ O H k (Stp.refl E) (h _)
end
/-! ### tuple(range(n, 0, -1)) -/
section
variable {X : Cx} {ea eb ec : PySem.Expr} {ta tb tc : TE}
def dnV (n : Nat) : List V := (List.range n).map fun i => V.int (n + (i : Nat) * (-1))
def dnD (n : Nat) : List PyData := (List.range n).map fun i => PyData.int (n + (i : Nat) * (-1))
def tTupDn (ta tb tc : TE) : TE := fun σ H Q => ta σ H fun x H1 => tb σ H1 fun y H2 => tc σ H2 fun z H3 => ∃ n : Nat, x = .int n ∧ y = .int 0 ∧ z = .int (-1) ∧ n ≤ 50 ∧ ∀ q, H3 q = none → Q (.ref q) (upd H3 q (.tup (dnV n)))
theorem dn_small : ∀ n : Nat, n < 51 → Builtin.Range.small (n : Int) 0 (-1) = true ∧ Builtin.Range.rangeSize (n : Int) 0 (-1) = (n : Int) ∧ Builtin.divisionGoesByPylong (0 - (n : Int)) (-1) = false := by decide +kernel
theorem pe_tupDn {p p2 pos pos2 : Pos} (hc : X.calm = true) (hg : Gl X "tuple") (hm : X.mg "tuple" = none) (hg2 : Gl X "range") (hm2 : X.mg "range" = none) (ha : PE X ea ta) (hb : PE X eb tb) (hcc : PE X ec tc)
    (n1 : starEach [PySem.Expr.Call (.Name "range" p2) [ea, eb, ec] [] pos2] X.env = (false, eval (PySem.Expr.Call (.Name "range" p2) [ea, eb, ec] [] pos2) X.env) :: starEach [] X.env := by rfl)
    (na : starEach [ea, eb, ec] X.env = (false, eval ea X.env) :: starEach [eb, ec] X.env := by rfl) (nb : starEach [eb, ec] X.env = (false, eval eb X.env) :: starEach [ec] X.env := by rfl) (nc : starEach [ec] X.env = (false, eval ec X.env) :: starEach [] X.env := by rfl)
    (hp3 : (backTo pos2 (starEach [eb, ec] X.env)).any (·.1) = false := by rfl) : PE X (.Call (.Name "tuple" p) [.Call (.Name "range" p2) [ea, eb, ec] [] pos2] [] pos) (tTupDn ta tb tc) := by
  refine ⟨fun pins s σ H Q I h => ?_⟩
  refine Call_ (ld_blt I hg hm boot_tuple (PyProof.Rows.callWith_type1 (args_cons ?_ n1) n1))
  refine Call_ (ld_blt I hg2 hm2 boot_range (PyProof.Rows.callWith_type1 (args_cons (thn (ha.run pins s σ H _ I h) fun v s1 ⟨x, H1, I1, r1, q1⟩ => args_cons (thn (hb.run pins s1 σ H1 _ I1 q1) fun u s2 ⟨y, H2, I2, r2, q2⟩ => one_arg hcc I2 q2 (fun z0 s3 z H3 I3 r3 q => ?_) nc) nb) na) na hp3))
  obtain ⟨n, rfl, rfl, rfl, hn, q⟩ := q
  obtain ⟨t, rfl⟩ := r1
  obtain ⟨t', rfl⟩ := r2
  obtain ⟨t'', rfl⟩ := r3
  obtain ⟨k1, k2, k3⟩ := dn_small n (by omega)
  refine call_range_3 (by decide) ?_ (.inl k3)
  refine args_nil ?_
  have IN : Inv X pins σ H3 { s3 with heap := s3.heap.push { cls := .type "range", data := .fields #[.int n t, .int 0 t', .int (-1) t''] } } := I3.kept (t' := s3.toks) fun b u e => Heap.get?_push_of_some _ e
  refine call_tuple_range (n := n) (IN.ok.hd hc) (IsRange.new _ _ _ _ _ _ _) k1 k2 (by omega) fun h' tk acc hk hi => ?_
  have IM : Inv X pins σ H3 { s3 with heap := h', toks := tk } := I3.kept fun b u e => hk b u (Heap.get?_push_of_some _ e)
  have vs : Vals (dnV n) acc.toList := by
    have e : acc.toList.length = n := by rw [Array.length_toList]; exact hi.1
    unfold dnV
    conv => arg 1; rw [← e]
    rw [e]
    have := vals_of_get acc.toList (fun i => V.int ((n : Int) + (i : Nat) * (-1))) fun j u hj => by
      obtain ⟨t, rfl⟩ := hi.2 j u (by rw [← hj, Array.getElem?_toList])
      exact ⟨t, rfl⟩
    rwa [e] at this
  refine ⟨.ref h'.objs.size, upd H3 h'.objs.size (.tup (dnV n)), IM.laid (t' := tk) (fun c o e => Heap.get?_push_of_some _ e) (Nat.le_refl _) (show ObjOk X.prog X.w _ _ _ (.tup (dnV n)) from ⟨?_, acc.toList, vs, ?_⟩), rfl, q _ (IM.hok.fresh (Nat.le_refl _))⟩
  · unfold dnV
    rw [List.length_map, List.length_range, sizeLine_eq]
    omega
  · rw [Array.toArray_toList]; exact IsTup.new _ _
end
section
variable {K : PySem.W.Frag} {n : Nat} {ρ : Rho} {Φ : PD} {ta tb tc : TE}
theorem dn_dp {H : Hp} (n : Nat) : DPAll K H (dnV n) (dnD n) := by
  unfold dnV dnD
  generalize List.range n = L
  induction L with
  | nil => exact .nil
  | cons x L ih => exact .cons (.int _) ih
theorem dw_tupDn (h : DW K n ta ρ fun x ρ1 => DW K n tb ρ1 fun y ρ2 => DW K n tc ρ2 fun z ρ3 => ∃ m : Nat, x = .int m ∧ y = .int 0 ∧ z = .int (-1) ∧ m ≤ 50 ∧ Φ (.tuple (dnD m)) ρ3) : DW K n (tTupDn ta tb tc) ρ Φ := fun O σ H E Q q =>
  h O σ H E _ fun v x ρ1 O1 H1 hb S r => hb O1 σ H1 S.env _ fun u y ρ2 O2 H2 hc S2 r2 => hc O2 σ H2 S2.env _ fun u3 z ρ3 O3 H3 ⟨m, e1, e2, e3, hm, k⟩ S3 r3 => by
    subst e1; subst e2; subst e3
    cases r; cases r2; cases r3
    have S13 := (S.trans E S2).trans E S3
    exact ⟨m, rfl, rfl, rfl, hm, fun p hp => q _ _ ρ3 O3 _ k (S13.trans E (Stp.grow S13.env (Ext.new hp))) (dp_newT S13.env.al hp (dn_dp m))⟩
end
end DL
namespace DL
open PySem L2 PySem.Spec PyProof.Rows
section
variable {K : PySem.W.Frag} {n np : Nat} {ρ : Rho} {Ψ : PF} {Wf : SfW}
/-- f(name, ..) that makes a new list; the name's own list may change -/
theorem df_callO {i : Nat} {t : TA} {E0 : XK} {ds0 : Own} (h0 : ρ[i]? = some (some (.lst ds0)))
    (h : DA K n t ρ fun ds ρ1 => ds.length + 1 = np ∧ ∃ ds1, ρ1[i]? = some (some (.lst ds1)) ∧ Wf (.lst ds1 :: ds.map Ent.val) fun o es' => ∀ ds2 r, es' = .lst ds2 :: r → Ψ o (ρ1.set i (some (.lst ds2)))) :
    DF K n (tCall (spF K np Wf) [] E0 (tCons (tVar i) t)) ρ Ψ := fun O σ H E Q q => by
  obtain ⟨p, us0, a0, _⟩ := env_own E h0
  refine ⟨.ref p, a0, ?_⟩
  refine h O σ H E _ fun vs ds ρ1 O1 H1 ⟨hl, ds1, h1, hw⟩ S r => ?_
  obtain ⟨p', us, a, hp, hH, hu⟩ := env_own S.env h1
  rw [a0] at a; cases a
  have E1 := S.env
  have EA := env_args1 E1.al hp hH hu r
  show spF K np Wf (V.ref p :: (vs ++ [])) H1 Q E0
  rw [List.append_nil]
  refine ⟨O1, _, _, by simp [dpa_len r]; omega, EA, hw, fun g ws o es' O' H' k S' hg no hg0 hgh hgd => ?_⟩
  obtain ⟨_, ds2, e2⟩ := S'.pin 0 ds1 (by omega) (by simp)
  obtain ⟨en, z, e2⟩ := map_get e2
  cases z
  obtain ⟨rest, rfl⟩ : ∃ rest, es' = .lst ds2 :: rest := by
    cases es' with
    | nil => simp at e2
    | cons x r => simp at e2; exact ⟨r, by rw [e2]⟩
  have em : Ext (msk O1 H1) (msk O' H') := S'.msk EA
  have hi : i < ρ1.length := (List.getElem?_eq_some_iff.mp h1).1
  have S2 : Stp K n O1 σ ρ1 H1 O' σ (ρ1.set i (some (.lst ds2))) H' := by
    refine ⟨S'.sub, S'.new, fun b u nb hb => S'.le b u (fun w => nb (by rw [own_args1 w]; exact ⟨i, ds1, a0, h1⟩)) hb, ⟨by rw [List.length_set]; exact E1.len, fun j x e g1 g2 => ?_, S'.env.al, fun j m s d1 d2 g1 g2 g3 g4 => ?_⟩, fun b ⟨j, d1, g1, g2⟩ => ?_, fun j d1 hj g2 => ⟨rfl, ?_⟩⟩
    · by_cases hij : i = j
      · subst hij
        rw [List.getElem?_set_self hi] at g2
        cases g2
        rw [a0] at g1; cases g1
        exact S'.env.ok 0 _ _ (by simp) (by simp)
      · rw [List.getElem?_set_ne hij] at g2
        have old := E1.ok j x e g1 g2
        cases e with
        | val d =>
          cases x with
          | none => exact old.elim
          | some v => exact dp_ext em (show DP K (msk O1 H1) v d from old)
        | lst es =>
          obtain ⟨s, rfl, hs, ws2, hw2, hq⟩ := lst_val old
          refine ⟨S'.sub s hs, ws2, S'.le s _ (fun w2 => ?_) hw2, ho_ext em hq⟩
          have e := own_args1 w2
          subst e
          exact hij (E1.dis i j s ds1 es a0 h1 g1 g2)
    · by_cases hij : i = j
      · by_cases him : i = m
        · exact hij.symm.trans him
        · subst hij
          rw [List.getElem?_set_ne him] at g4
          rw [a0] at g1; cases g1
          exact E1.dis i m p ds1 d2 a0 h1 g3 g4
      · rw [List.getElem?_set_ne hij] at g2
        by_cases him : i = m
        · subst him
          rw [a0] at g3; cases g3
          exact E1.dis j i p d1 ds1 g1 g2 a0 h1
        · rw [List.getElem?_set_ne him] at g4
          exact E1.dis j m s d1 d2 g1 g2 g3 g4
    · by_cases hij : i = j
      · subst hij
        exact .inl ⟨i, ds1, g1, h1⟩
      · rw [List.getElem?_set_ne hij] at g2
        exact .inl ⟨j, d1, g1, g2⟩
    · by_cases hij : i = j
      · subst hij
        exact ⟨ds2, List.getElem?_set_self hi⟩
      · rw [List.getElem?_set_ne hij]
        exact ⟨d1, g2⟩
  have mem : ∀ b, b ∈ O' ↔ b ∈ g :: O'.filter (fun b => decide (b ≠ g)) := fun b => by
    by_cases hb : b = g
    · subst hb; simp [hg]
    · simp [hb]
  have h00 : H g = none := S.none_back (fun z => fresh_notin E1 hg0 (S.sub g z)) hg0 E
  refine q g ws o _ _ H' (k ds2 rest rfl) (stp_mem (S.trans E S2) mem) (by simp) (fun w => ?_) h00 hgh (by rw [msk_mem mem]; exact hgd)
  obtain ⟨j, d1, g1, g2⟩ := w
  have : Owns σ ρ1 g := by
    by_cases hij : i = j
    · subst hij
      exact ⟨i, ds1, g1, h1⟩
    · rw [List.getElem?_set_ne hij] at g2
      exact ⟨j, d1, g1, g2⟩
  exact E1.al g (E1.ownO this) hg0
end
end DL
namespace K35
open PySem L2 DL
/-! words and rows: the mathematics -/
def wd (L : List Nat) : Str := ⟨L.toArray⟩
def wordL : List Int → List Nat
  | [] => []
  | e :: r => List.replicate (e - 1).toNat 120 ++ ([121] ++ wordL r)
def Ones (r : List Int) : Prop := ∀ e ∈ r, 1 ≤ e
theorem yS : (Str.ofString "y") = wd [121] := by decide +kernel
theorem xS : (Str.ofString "x") = wd [120] := by decide +kernel
theorem eS : (Str.ofString "") = wd [] := by decide +kernel
theorem tl_wd (L : List Nat) : TL.tl (wd L) = L := by simp [wd]
theorem wd_app (a b : List Nat) : wd a ++ wd b = wd (a ++ b) := by
  apply TL.ext_tl
  rw [TL.tl_append, tl_wd, tl_wd, tl_wd]
theorem wd_inj {a b : List Nat} (h : wd a = wd b) : a = b := by
  have := congrArg TL.tl h
  rwa [tl_wd, tl_wd] at this
theorem len_wd (L : List Nat) : (wd L).length = L.length := by rw [TL.len_tl, tl_wd]
theorem spl_word : ∀ r : List Int, TL.spl [121] 0 [] (wordL r) = (r.map fun e => List.replicate (e - 1).toNat 120) ++ [[]]
  | [] => by
    have := TL.spl_last1 (s := 121) (S := []) (p := []) (acc := []) (by simp)
    simpa [wordL] using this
  | e :: r => by
    have := TL.spl_part1 (s := 121) (S := []) (p := List.replicate (e - 1).toNat 120) (rest := wordL r) (acc := []) (by simp)
    show TL.spl [121] 0 [] (List.replicate (e - 1).toNat 120 ++ ([121] ++ wordL r)) = _
    rw [this, spl_word r]
    simp
theorem split_word (r : List Int) : PySem.Txt.split (wd (wordL r)) (wd [121]) = (r.map fun e => wd (List.replicate (e - 1).toNat 120)) ++ [wd []] := by
  apply TL.map_tl_inj
  rw [TL.split_spl _ _ (by rw [tl_wd]; simp) (TL.kind_ok (by decide +kernel)), tl_wd, tl_wd, spl_word]
  simp [tl_wd, Function.comp_def]
theorem dropLast_app {α : Type} (l : List α) (x : α) : cutD (l ++ [x]) none (some (-1)) = l := by
  unfold cutD
  have h1 : HT.sIx (l ++ [x]).length 0 none = 0 := rfl
  have h2 : HT.sIx (l ++ [x]).length (l ++ [x]).length (some (-1)) = l.length := by
    show (-1 + ((l ++ [x]).length : Int)).toNat = l.length
    simp
    omega
  rw [h1, h2]
  simp
theorem runs_word {r : List Int} (h : Ones r) : (r.map fun e => wd (List.replicate (e - 1).toNat 120)).map (fun z => ((z.length : Nat) : Int) + 1) = r := by
  rw [List.map_map]
  conv => rhs; rw [← List.map_id r]
  apply List.map_congr_left
  intro e he
  have := h e he
  simp [len_wd]
  omega
theorem foldA (k : Nat) : ∀ acc : Array Nat, (List.foldl (fun x1 x2 => x1 ++ x2) acc (List.replicate k #[120])).toList = acc.toList ++ List.replicate k 120 := by
  induction k with
  | zero => intro acc; simp
  | succ k ih => intro acc; rw [List.replicate_succ, List.foldl_cons, ih, List.replicate_succ]; simp
theorem mul_x (n : Int) (h : 0 ≤ n) : PySem.Txt.mul (wd [120]) n = wd (List.replicate n.toNat 120) := by
  unfold PySem.Txt.mul
  by_cases h1 : n < 1
  · have : n = 0 := by omega
    subst this
    rfl
  · rw [if_neg h1]
    by_cases h2 : n = 1
    · subst h2; rfl
    · have e : (n == 1 || (wd [120]).length == 0) = false := by
        rw [len_wd]
        simp [h2]
      rw [if_neg (by rw [e]; simp)]
      apply TL.ext_tl
      rw [tl_wd]
      have := foldA n.toNat #[]
      exact this
theorem foldB : ∀ (l : List Str) (acc : Array Nat), (List.foldl (fun acc p => acc ++ (wd []).cps ++ p.cps) acc l).toList = acc.toList ++ (l.map TL.tl).flatten
  | [], acc => by simp
  | a :: r, acc => by
    rw [List.foldl_cons, foldB r]
    simp [wd]
theorem join_e (l : List Str) : PySem.Txt.join (wd []) l = wd (l.map TL.tl).flatten := by
  apply TL.ext_tl
  rw [tl_wd]
  unfold PySem.Txt.join PySem.Builtin.Str.glued
  cases l with
  | nil => rfl
  | cons a r =>
    have := foldB r a.cps
    simpa using this
theorem join_word {r : List Int} : PySem.Txt.join (wd []) (r.map fun e => wd (List.replicate (e - 1).toNat 120 ++ [121])) = wd (wordL r) := by
  rw [join_e]
  congr 1
  induction r with
  | nil => rfl
  | cons e r ih => simp only [List.map_cons, List.flatten_cons, tl_wd, wordL, ih, List.append_assoc]
theorem len_word : ∀ {r : List Int}, Ones r → ((wordL r).length : Int) = r.sum
  | [], _ => rfl
  | e :: r, h => by
    have h1 := h e List.mem_cons_self
    have h2 := len_word (r := r) fun x hx => h x (List.mem_cons_of_mem _ hx)
    simp only [wordL, List.length_append, List.length_replicate, List.length_cons, List.length_nil, List.sum_cons]
    omega
theorem word_app (a b : List Int) : wordL (a ++ b) = wordL a ++ wordL b := by
  induction a with
  | nil => rfl
  | cons e r ih => simp only [List.cons_append, wordL, ih, List.append_assoc]
theorem word_all : ∀ (r : List Int), ∀ c ∈ wordL r, c = 120 ∨ c = 121
  | [], c, h => by simp [wordL] at h
  | e :: r, c, h => by
    simp only [wordL, List.mem_append, List.mem_replicate, List.mem_singleton] at h
    rcases h with h | h | h
    · exact .inl h.2
    · exact .inr h
    · exact word_all r c h
theorem word_last : ∀ (r : List Int), r ≠ [] → (wordL r).getLast? = some 121
  | [e], _ => by simp [wordL]
  | e :: f :: r, _ => by
    have := word_last (f :: r) (by simp)
    have hn : wordL (f :: r) ≠ [] := fun z => by rw [z] at this; simp at this
    simp only [wordL] at this hn ⊢
    rw [List.getLast?_append, List.getLast?_append, this]
    rfl
theorem word_nil {r : List Int} : wordL r = [] ↔ r = [] := by
  cases r with
  | nil => simp [wordL]
  | cons e r => simp [wordL]
/-- every word of x and y that ends in y is a row's -/
theorem word_of_letters : ∀ (L : List Nat), (∀ c ∈ L, c = 120 ∨ c = 121) → ∀ n : Nat, ∃ r, Ones r ∧ r ≠ [] ∧ List.replicate n 120 ++ (L ++ [121]) = wordL r
  | [], _, n => ⟨[(n : Int) + 1], by intro e he; simp at he; omega, by simp, by simp [wordL]⟩
  | c :: L, h, n => by
    have hL : ∀ c ∈ L, c = 120 ∨ c = 121 := fun x hx => h x (List.mem_cons_of_mem _ hx)
    rcases h c List.mem_cons_self with rfl | rfl
    · obtain ⟨r, h1, h2, h3⟩ := word_of_letters L hL (n + 1)
      refine ⟨r, h1, h2, ?_⟩
      rw [← h3, List.replicate_succ']
      simp
    · obtain ⟨r, h1, h2, h3⟩ := word_of_letters L hL 0
      refine ⟨((n : Int) + 1) :: r, ?_, by simp, ?_⟩
      · intro e he
        rcases List.mem_cons.mp he with rfl | he
        · omega
        · exact h1 e he
      · simp only [wordL]
        rw [← h3]
        simp
theorem cnt_c (c d : Nat) (l : List Nat) : PyProof.Rows.cnt c (d :: l) = (if PySem.Spec.same (.str ⟨#[d]⟩) (.str ⟨#[c]⟩) = true then 1 else 0) + PyProof.Rows.cnt c l := by
  unfold PyProof.Rows.cnt
  rfl
theorem same_x : PySem.Spec.same (.str ⟨#[120]⟩) (.str ⟨#[121]⟩) = false := by decide +kernel
theorem same_y : PySem.Spec.same (.str ⟨#[121]⟩) (.str ⟨#[121]⟩) = true := by decide +kernel
theorem cnt_x (k : Nat) (l : List Nat) : PyProof.Rows.cnt 121 (List.replicate k 120 ++ l) = PyProof.Rows.cnt 121 l := by
  induction k with
  | zero => simp
  | succ k ih => rw [List.replicate_succ, List.cons_append, cnt_c, same_x, ih]; simp
theorem cnt_word : ∀ (r : List Int), PyProof.Rows.cnt 121 (wordL r) = r.length
  | [] => rfl
  | e :: r => by
    show PyProof.Rows.cnt 121 (List.replicate (e - 1).toNat 120 ++ ([121] ++ wordL r)) = _
    rw [cnt_x]
    show PyProof.Rows.cnt 121 (121 :: wordL r) = _
    rw [cnt_c, same_y, cnt_word r]
    simp
    omega
theorem count_word (r : List Int) : PySem.Txt.count (wd (wordL r)) (wd [121]) = r.length := by
  have := PyProof.Rows.count_cnt (wd (wordL r)) 121
  rw [← cnt_word r]
  have e : (wd (wordL r)).cps.toList = wordL r := tl_wd _
  rw [e] at this
  exact this
theorem firm_word {r : List Int} (h : Ones r) : (r = [] ∨ 2 ≤ r.headD 0) ↔ wordL r = [] ∨ (wordL r).head? ≠ some 121 := by
  cases r with
  | nil => simp [wordL]
  | cons e r =>
    have h1 := h e List.mem_cons_self
    simp only [wordL, List.headD_cons]
    by_cases h2 : e = 1
    · subst h2; simp
    · obtain ⟨k, hk⟩ : ∃ k, (e - 1).toNat = k + 1 := ⟨(e - 1).toNat - 1, by omega⟩
      rw [hk, List.replicate_succ]
      simp
      omega
/-- the length of a text of one letter more times -/
theorem ones_app {a b : List Int} (ha : Ones a) (hb : Ones b) : Ones (a ++ b) := by
  intro e he
  rcases List.mem_append.mp he with h | h
  · exact ha e h
  · exact hb e h
theorem ones_len : ∀ {r : List Int}, Ones r → (r.length : Int) ≤ r.sum
  | [], _ => Int.le_refl _
  | e :: r, h => by
    have h1 := h e List.mem_cons_self
    have h2 := ones_len (r := r) fun x hx => h x (List.mem_cons_of_mem _ hx)
    simp only [List.length_cons, List.sum_cons]
    omega
theorem ones_le : ∀ {r : List Int} {e : Int}, Ones r → e ∈ r → e ≤ r.sum
  | x :: r, e, h, he => by
    have h1 := h x List.mem_cons_self
    have hr : Ones r := fun x hx => h x (List.mem_cons_of_mem _ hx)
    have h2 := ones_len hr
    simp only [List.sum_cons]
    rcases List.mem_cons.mp he with rfl | he
    · omega
    · have := ones_le hr he
      omega
/-! what a row is -/
def posD : PyData → Bool
  | .int i => decide (1 ≤ i)
  | _ => false
def toI : PyData → Int
  | .int i => i
  | _ => 0
def isRowD : PyData → Bool
  | .tuple ds => ds.all posD && decide ((ds.map toI).sum ≤ 40)
  | _ => false
abbrev row (r : List Int) : PyData := .tuple (r.map .int)
theorem posD_ints : ∀ {ds : List PyData}, ds.all posD = true → ∃ r, Ones r ∧ ds = r.map PyData.int ∧ ds.map toI = r
  | [], _ => ⟨[], fun _ h => by simp at h, rfl, rfl⟩
  | d :: ds, h => by
    rw [List.all_cons, Bool.and_eq_true] at h
    obtain ⟨r, h1, h2, h3⟩ := posD_ints h.2
    cases d with
    | int i =>
      refine ⟨i :: r, fun e he => ?_, by rw [h2]; rfl, by rw [List.map_cons, h3]; rfl⟩
      rcases List.mem_cons.mp he with rfl | he
      · exact of_decide_eq_true h.1
      · exact h1 e he
    | _ => exact absurd h.1 (by simp [posD])
theorem all_pos : ∀ {r : List Int}, Ones r → (r.map PyData.int).all posD = true
  | [], _ => rfl
  | e :: r, h => by
    rw [List.map_cons, List.all_cons, all_pos (r := r) fun x hx => h x (List.mem_cons_of_mem _ hx)]
    have := h e List.mem_cons_self
    simp [posD, this]
theorem map_toI (r : List Int) : (r.map PyData.int).map toI = r := by
  rw [List.map_map]
  exact List.map_id r
theorem row_is {r : List Int} (h : Ones r) (hs : r.sum ≤ 40) : isRowD (row r) = true := by
  show ((r.map PyData.int).all posD && decide (((r.map PyData.int).map toI).sum ≤ 40)) = true
  rw [all_pos h, map_toI]
  simpa using hs
end K35
namespace K35
open PySem DL
/-! chains: the mathematics -/
def chM (m : Int) : Nat → Int
  | 0 => 1
  | f + 1 => (chM m f * (m - (f : Int))).fdiv ((f : Int) + 1)
def goC (m : Int) : Nat → Nat → Int → Bool
  | 0, f, x => x == PySem.W.mcComb m (f : Int)
  | n + 1, f, x => (x == PySem.W.mcComb m (f : Int)) && goC m n (f + 1) ((x * (m - (f : Int))).fdiv ((f : Int) + 1))
theorem goC_ok {m : Int} : ∀ n f, goC m n f (chM m f) = true → ∀ k, k ≤ n → chM m (f + k) = PySem.W.mcComb m ((f + k : Nat) : Int)
  | 0, f, h, k, hk => by
    obtain rfl : k = 0 := by omega
    exact eq_of_beq h
  | n + 1, f, h, k, hk => by
    have h : ((chM m f == PySem.W.mcComb m (f : Int)) && goC m n (f + 1) (chM m (f + 1))) = true := h
    rw [Bool.and_eq_true] at h
    cases k with
    | zero => exact eq_of_beq h.1
    | succ k =>
      have := goC_ok n (f + 1) h.2 k (by omega)
      rw [show f + (k + 1) = f + 1 + k by omega]
      exact this
theorem okC : (List.range 239).all (fun m => goC (m : Int) 40 0 1) = true := by decide +kernel
theorem chM_comb {m k : Nat} (hm : m < 239) (hk : k ≤ 40) : chM (m : Int) k = PySem.W.mcComb (m : Int) (k : Int) := by
  have h := List.all_eq_true.mp okC m (List.mem_range.mpr hm)
  have := goC_ok 40 0 h k hk
  rwa [Nat.zero_add] at this
def kS (low : Bool) : Str := if low then Str.ofString "low" else Str.ofString "high"
def fall1 (low : Bool) (c : Nat) : Int := if low then (if c = 121 then 1 else 0) else (if c = 120 then 1 else 0)
def flL (low : Bool) (w : List Nat) : List Int := (if low then w.dropLast else w.drop 1).map (fall1 low)
theorem fall1_le (low : Bool) (c : Nat) : 0 ≤ fall1 low c ∧ fall1 low c ≤ 1 := by
  unfold fall1
  split <;> split <;> omega
theorem flL_len (low : Bool) (w : List Nat) : (flL low w).length = w.length - 1 := by
  unfold flL
  cases low <;> simp
theorem fl_sum (low : Bool) : ∀ w : List Nat, 0 ≤ (w.map (fall1 low)).sum ∧ (w.map (fall1 low)).sum ≤ w.length
  | [] => ⟨Int.le_refl 0, Int.le_refl 0⟩
  | c :: w => by
    have := fl_sum low w
    have := fall1_le low c
    simp only [List.map_cons, List.sum_cons, List.length_cons]
    omega
theorem flL_sum (low : Bool) (w : List Nat) : 0 ≤ (flL low w).sum ∧ (flL low w).sum ≤ (w.length - 1 : Nat) := by
  have h := flL_len low w
  unfold flL at h ⊢
  rw [List.length_map] at h
  have := fl_sum low (if low = true then w.dropLast else List.drop 1 w)
  rw [h] at this
  exact this
/-- the number of chains -/
def cntC (b : Int) (r : List Int) (low : Bool) : Int := if r.sum = 0 then 1 else PySem.W.mcComb (b - 1 + r.sum - 1 - (flL low (wordL r)).sum) r.sum
def rg (a b : Int) : List Int := (List.range (b - a).toNat).map fun i => a + (i : Nat)
/-- the program's lists -/
def leastK (fs : List Int) (k : Nat) : Int := 1 + (fs.drop k).sum
def nextP (lo f : Int) (cs : List (List Int)) : List (List Int) := cs.flatMap fun c => (rg lo (c.getLastD 0 + 1 - f)).map fun o => c ++ [o]
def progK (b : Int) (fs : List Int) : Nat → List (List Int)
  | 0 => (rg (1 + fs.sum) b).map fun o => [o]
  | k + 1 => nextP (leastK fs (k + 1)) (fs.getD k 0) (progK b fs k)
def progCh (b : Int) (w : List Nat) (low : Bool) : List (List Int) := if w = [] then [[]] else progK b (flL low w) (flL low w).length
/-- the law's lists -/
def stepB (low : Bool) (before letter : Nat) (first later : Int) : Bool := decide (later < first) || (decide (later = first) && !(if low then before == 121 else letter == 120))
def candL (b : Int) (low : Bool) (w : List Nat) (k : Nat) (c : List Int) : List Int := (rg 1 b).filter fun o => k == 0 || stepB low (w.getD (k - 1) 0) (w.getD k 0) (c.getLastD 0) o
def lawK (b : Int) (w : List Nat) (low : Bool) : Nat → List (List Int)
  | 0 => [[]]
  | k + 1 => (lawK b w low k).flatMap fun c => (candL b low w k c).map fun o => c ++ [o]
def lawCh (b : Int) (w : List Nat) (low : Bool) : List (List Int) := lawK b w low w.length
/-- all rows of a weight -/
def rowsF : Nat → Nat → List (List Int)
  | 0, n => if n = 0 then [[]] else []
  | k + 1, n => if n = 0 then [[]] else (List.range n).flatMap fun e => (rowsF k (n - 1 - e)).map fun r => ((e : Int) + 1) :: r
theorem rowsF_all : ∀ (r : List Int) (k n : Nat), Ones r → r.sum = (n : Int) → r.length ≤ k → r ∈ rowsF k n
  | [], k, n, _, hs, _ => by
    have : n = 0 := by simp at hs; omega
    subst this
    cases k <;> simp [rowsF]
  | e :: r, 0, n, _, _, hl => by simp at hl
  | e :: r, k + 1, n, ho, hs, hl => by
    have h1 := ho e List.mem_cons_self
    have h2 : Ones r := fun x hx => ho x (List.mem_cons_of_mem _ hx)
    have h3 := ones_len h2
    rw [List.sum_cons] at hs
    have hn : n ≠ 0 := by omega
    have ih := rowsF_all r k (n - 1 - (e - 1).toNat) h2 (by omega) (by simpa using hl)
    show _ ∈ (if n = 0 then [[]] else _)
    rw [if_neg hn, List.mem_flatMap]
    refine ⟨(e - 1).toNat, List.mem_range.mpr (by omega), List.mem_map.mpr ⟨r, ih, ?_⟩⟩
    rw [show (((e - 1).toNat : Nat) : Int) + 1 = e by omega]
/-- the finite check -/
def chkS (low : Bool) (b : Int) (r : List Int) : Bool :=
  ascB (lawCh b (wordL r) low) && (progCh b (wordL r) low == lawCh b (wordL r) low) && (cntC b r low == ((lawCh b (wordL r) low).length : Int)) &&
  ((List.range (wordL r).length).all fun k => decide ((progK b (flL low (wordL r)) k).length ≤ 3000) && decide ((lawK b (wordL r) low k).length ≤ 3000)) && decide ((lawCh b (wordL r) low).length ≤ 500)
theorem okS : ([true, false].all fun low => (List.range 6).all fun b => (List.range 6).all fun n => (rowsF 5 n).all fun r => chkS low ((b : Int) + 1) r) = true := by decide +kernel
theorem chk_all {low : Bool} {b : Int} {r : List Int} (h0 : 1 ≤ b) (h1 : b ≤ 6) (ho : Ones r) (hs : r.sum ≤ 5) : chkS low b r = true := by
  have hl := ones_len ho
  have a1 := List.all_eq_true.mp okS low (by cases low <;> simp)
  have a2 := List.all_eq_true.mp a1 (b - 1).toNat (List.mem_range.mpr (by omega))
  have a3 := List.all_eq_true.mp a2 r.sum.toNat (List.mem_range.mpr (by omega))
  have a4 := List.all_eq_true.mp a3 r (rowsF_all r 5 _ ho (by omega) (by omega))
  rwa [show (((b - 1).toNat : Nat) : Int) + 1 = b by omega] at a4
end K35
namespace K35
open PySem L2 PySem.Spec PyProof.Rows DL
local macro_rules | `(tactic| walk_at "d0") => `(tactic| first
  | (with_reducible refine ds_seq ?_) | (with_reducible refine ds_next ?_) | (with_reducible refine ds_ret ?_) | (with_reducible refine ds_drop ?_) | (with_reducible refine ds_putO ?_) | (with_reducible refine ds_setO ?_) | (with_reducible refine ds_asg ?_)
  | ((with_reducible show DW _ _ (tOp (rIx _) (tVar _) (tC (.int _))) _ _); refine dw_ixO rfl (dw_int ⟨_, _, _, rfl, rfl, rfl, ?_⟩))
  | ((with_reducible show DW _ _ (tOp (rIx _) (tVar _) _) _ _); refine dw_ixO rfl ?_)
  | (with_reducible refine dw_lst ?_)
  | (with_reducible refine dw_isi ?_) | (with_reducible refine dw_op ?_) | (with_reducible refine dw_un ?_) | (with_reducible refine dw_int ?_) | (with_reducible refine dw_bl ?_) | (with_reducible refine dw_str ?_) | (with_reducible refine dw_non ?_)
  | ((with_reducible show DW _ _ (tVar _) _ _); refine dw_var rfl ?_)
  | (with_reducible refine dw_andV ?_) | (with_reducible refine dw_orV ?_) | (with_reducible refine dw_notV ?_) | (with_reducible refine dw_tup ?_) | (with_reducible refine dw_chain ?_)
  | (with_reducible refine da_nil ?_) | (with_reducible refine da_cons ?_)
  | (with_reducible refine dt_test ?_) | (with_reducible refine dt_B ?_) | (with_reducible refine dt_and ?_) | (with_reducible refine dt_or ?_) | (with_reducible refine dt_not ?_) | (with_reducible refine dt_yes ?_)
  | ((with_reducible show DW _ _ (tCall _ _ _ (tCons (tVar _) _)) _ _); refine dw_callO rfl ?_)
  | (with_reducible refine dw_call ?_) | (with_reducible refine dw_fresh (df_call ?_)) | (with_reducible refine dw_cb ?_)
  | (with_reducible refine rd_addBI ?_) | (with_reducible refine rc_tupL ?_) | (with_reducible refine rc_lstT ?_) | (with_reducible refine rc_reprB ?_) | (with_reducible refine rd_isB ?_) | (with_reducible refine rs_tup ?_) | (with_reducible refine rs_lst ?_) | (with_reducible refine dw_slH ?_) | (with_reducible refine dw_slL ?_) | (with_reducible refine dw_dnew ?_) | (with_reducible refine dw_m1 ?_) | (with_reducible refine rd_i0 ?_) | (with_reducible refine rd_b0 ?_) | (with_reducible refine ru_i ?_) | (with_reducible refine rc_int ?_) | (with_reducible refine rc_intB ?_) | (with_reducible refine rc_abs ?_) | (with_reducible refine rc_max ?_) | (with_reducible refine rc_min ?_) | (with_reducible refine rc_gcd ?_) | (with_reducible refine rc_lenL ?_) | (with_reducible refine rc_lenT ?_)
  | ((with_reducible show RD (rIx _) _ (.tuple _) _ _); refine rd_ixT rfl ?_) | ((with_reducible show RD (rIx _) _ (.list _) _ _); refine rd_ixL rfl ?_)
  | ((with_reducible refine dg_name ?hj ?_); (case hj => first | exact .inl (by decide) | exact .inr (noLst_val rfl) | exact .inr (noLst_none rfl)))
  | ((with_reducible show ∃ b, PyData.bool _ = PyData.bool b ∧ _); refine ⟨_, rfl, ?_⟩)
  | ((with_reducible show RD (rEqA _) _ (.int _) (.int _) _); refine rd_eq rfl rfl ?_) | ((with_reducible show RD (rNeA _) _ (.int _) (.int _) _); refine rd_ne rfl rfl ?_)
  | ((with_reducible show DW _ _ (tTup _) _ _); refine dw_tup ?_) | ((with_reducible show List.length _ ≤ 100000 ∧ _); refine ⟨Nat.le_of_ble_eq_true rfl, ?_⟩)
  | (((with_reducible show (_ = true → _) ∧ (_ = false → _)); first | (refine ⟨fun _ => ?_, fun z => Bool.noConfusion (show true = false from z)⟩) | (refine ⟨fun z => Bool.noConfusion (show false = true from z), fun _ => ?_⟩)))
  | (((with_reducible show (_ = false → _) ∧ (_ = true → _)); first | (refine ⟨fun _ => ?_, fun z => Bool.noConfusion (show false = true from z)⟩) | (refine ⟨fun z => Bool.noConfusion (show true = false from z), fun _ => ?_⟩)))
  | (with_reducible refine dgs_nil ?_) | (with_reducible refine dgs_cons ?_))
local macro_rules | `(tactic| walk_at "d1") => `(tactic| first | walk_at "d0" | (with_reducible refine ds_if ?_) | (with_reducible refine dw_if ?_))
local macro_rules | `(tactic| walk_at "e") => `(tactic| ((try dsimp only [cxOf, Cx.nox, Cx.wish, ownD]); repeat (walk_at "d0")))
local macro_rules | `(tactic| walk_at "d") => `(tactic| ((try dsimp only [cxOf, Cx.nox, Cx.wish, ownD]); repeat (walk_at "d1")))

def topS (i : Nat) : Stmt := PySem.Challenge.pw_risewords_k35_whole_chains_counted_and_j.main.body.getD i (.Pass ⟨0, 0, 0, 0⟩)
structure Txt (w : World) (K : PySem.W.Frag) (mg : Str → Option Value) : Type where
  n_isinstance : mg "isinstance" = none
  n_int : mg "int" = none
  n_bool : mg "bool" = none
  n_tuple : mg "tuple" = none
  n_len : mg "len" = none
  n_abs : mg "abs" = none
  n_max : mg "max" = none
  n_min : mg "min" = none
  n_range : mg "range" = none
  n_all : mg "all" = none
  n_repr : mg "repr" = none
  n_list : mg "list" = none
  n_sorted : mg "sorted" = none
  n_sum : mg "sum" = none
  n_enumerate : mg "enumerate" = none
  n_zip : mg "zip" = none
  f_comb : mg "comb" = some (.builtin "math.comb")
  t1 : Tok
  c_MAX_WEIGHT : mg "MAX_WEIGHT" = some (.int 40 t1)
  t2 : Tok
  c_MAX_BOUND : mg "MAX_BOUND" = some (.int 200 t2)
  t3 : Tok
  c_MAX_LISTED : mg "MAX_LISTED" = some (.int 2000 t3)
  a_KINDS : Addr
  c_KINDS : mg "KINDS" = some (.ref a_KINDS)
  s_KINDS : ∀ H, DP K H (.ref a_KINDS) (.tuple [.str "low", .str "high"])
abbrev s_is_whole : Stmt := topS 2
abbrev N_is_whole : List Str := ["value"]
abbrev P_is_whole : List Str := ["value"]
theorem sc_is_whole : FnScope N_is_whole P_is_whole (defScope s_is_whole) := ⟨rfl, rfl, rfl, by decide +kernel, rfl, by decide +kernel, by decide +kernel⟩
abbrev s_is_row : Stmt := topS 15
abbrev N_is_row : List Str := ["value", "entry"]
abbrev P_is_row : List Str := ["value"]
theorem sc_is_row : FnScope N_is_row P_is_row (defScope s_is_row) := ⟨rfl, rfl, rfl, by decide +kernel, rfl, by decide +kernel, by decide +kernel⟩
abbrev s_need_row : Stmt := topS 16
abbrev N_need_row : List Str := ["row"]
abbrev P_need_row : List Str := ["row"]
theorem sc_need_row : FnScope N_need_row P_need_row (defScope s_need_row) := ⟨rfl, rfl, rfl, by decide +kernel, rfl, by decide +kernel, by decide +kernel⟩
abbrev s_need_between : Stmt := topS 11
abbrev N_need_between : List Str := ["number", "low", "high"]
abbrev P_need_between : List Str := ["number", "low", "high"]
theorem sc_need_between : FnScope N_need_between P_need_between (defScope s_need_between) := ⟨rfl, rfl, rfl, by decide +kernel, rfl, by decide +kernel, by decide +kernel⟩
abbrev s_word_of : Stmt := topS 17
abbrev N_word_of : List Str := ["row", "entry"]
abbrev P_word_of : List Str := ["row"]
theorem sc_word_of : FnScope N_word_of P_word_of (defScope s_word_of) := ⟨rfl, rfl, rfl, by decide +kernel, rfl, by decide +kernel, by decide +kernel⟩
abbrev s__law_word : Stmt := topS 39
abbrev N__law_word : List Str := ["_law_row", "_law_entry"]
abbrev P__law_word : List Str := ["_law_row"]
theorem sc__law_word : FnScope N__law_word P__law_word (defScope s__law_word) := ⟨rfl, rfl, rfl, by decide +kernel, rfl, by decide +kernel, by decide +kernel⟩
theorem kit_dI : kitB "dict" "int" = some false := by decide +kernel
theorem kit_dB : kitB "dict" "bool" = some false := by decide +kernel
theorem isT_intA (d : PyData) : isT "int" d = some (isIntD d || isBoolD d) := by
  cases d with
  | dict x => exact kit_dI
  | _ => exact isT_int trivial
theorem isT_boolA (d : PyData) : isT "bool" d = some (isBoolD d) := by
  cases d with
  | dict x => exact kit_dB
  | _ => exact isT_bool trivial
theorem take_snoc {α : Type} {l : List α} {i : Nat} {x : α} (h : l[i]? = some x) : l.take i ++ [x] = l.take (i + 1) := by
  rw [List.take_add_one, h]
  rfl
theorem opK_add {X : Cx} {K : PySem.W.Frag} (h : X.K = K) : OpR X (binaryOp .Add) (rAddB K) := by subst h; exact opB_add
theorem opK_mul {X : Cx} {K : PySem.W.Frag} (h : X.K = K) : OpR X (binaryOp .Mult) (rMulB K) := by subst h; exact opB_mul
theorem crK_len {X : Cx} {K : PySem.W.Frag} (h : X.K = K) : CallR X (.builtin "len") (DL.rLen K) := by subst h; exact call_lenA
theorem opK_eq {X : Cx} {K : PySem.W.Frag} (h : X.K = K) (hu : X.A.units + 64 < cLine) : OpR X (compareOp .Eq) (rEqA K) := by subst h; exact opA_eq hu
theorem opK_ne {X : Cx} {K : PySem.W.Frag} (h : X.K = K) (hu : X.A.units + 64 < cLine) : OpR X (compareOp .NotEq) (rNeA K) := by subst h; exact opA_ne hu
theorem slK {X : Cx} {K : PySem.W.Frag} (h : X.K = K) : SlR X (DL.rSlB K) := by subst h; exact slB
theorem ixK_seq {X : Cx} {K : PySem.W.Frag} (h : X.K = K) : IxR X (rIx K) := by subst h; exact ix_seq
theorem rvK {X : Cx} {K : PySem.W.Frag} (h : X.K = K) : RvR X (rRevB K) := by subst h; exact rvB
theorem crK_tupOf {X : Cx} {K : PySem.W.Frag} (h : X.K = K) : CallR X (.type "tuple") (rTupOf K) := by subst h; exact cr_tupOf
theorem crK_lstOf {X : Cx} {K : PySem.W.Frag} (h : X.K = K) : CallR X (.type "list") (rLstOf K) := by subst h; exact cr_lstOf
theorem crK_all {X : Cx} {K : PySem.W.Frag} (h : X.K = K) (hc : X.calm = true) : CallR X (.builtin "all") (rAll K) := by subst h; exact cr_all hc
theorem crK_sort {X : Cx} {K : PySem.W.Frag} (h : X.K = K) : CallR X (.builtin "sorted") (rSortTI K) := by subst h; exact cr_sortTI
theorem crK_sortI {X : Cx} {K : PySem.W.Frag} (h : X.K = K) : CallR X (.builtin "sorted") (rSortedI K) := by subst h; exact cr_sortedI
theorem opK_notin {X : Cx} {K : PySem.W.Frag} (h : X.K = K) : OpR X (compareOp .NotIn) (rIn K true) := by subst h; exact op_notIn_seq
section
variable {P : Program} {w : World} {K : PySem.W.Frag} {mg : Str → Option Value} {base : Heap}
def wIsWhole : SpW := fun es Φ => ∃ d, es = [.val d] ∧ Φ (.bool (isIntD d)) es
theorem ok_is_whole (T : Txt w K mg) (D : TD K mg "is_whole" s_is_whole P_is_whole) : FnOk P w K mg base CX0 1 D.f D.fd P_is_whole (spD K 1 wIsWhole) := by
  refine fn_data D.F sc_is_whole rfl fun cdv A outer s H E hr => ?_
  refine ⟨_, (pss_one (ps_ret (pe_and (pe_callB call_isi rfl T.n_isinstance (by decide +kernel) (pa_cons (pv 0) (pa_cons (pe_bltn (v := .ty "int") (u := .type "int") rfl T.n_int (by decide +kernel) rfl) pa_nil))) (pe_one (pe_not (pe_callB call_isi rfl T.n_isinstance (by decide +kernel) (pa_cons (pv 0) (pa_cons (pe_bltn (v := .ty "bool") (u := .type "bool") rfl T.n_bool (by decide +kernel) rfl) pa_nil)))))))), ?_⟩
  rintro es Φ ⟨d, rfl, k⟩ _
  walk_at "d"
  refine ⟨_, isT_intA d, _, rfl, fun h1 => ?_, fun h1 => ?_⟩
  · walk_at "d"
    refine ⟨_, isT_boolA d, _, rfl, ?_⟩
    have e : (!isBoolD d) = isIntD d := by cases d <;> first | rfl | (simp [isIntD, isBoolD] at h1)
    rw [e]
    exact k
  · have e : isIntD d = false := by cases d <;> first | rfl | (simp [isIntD, isBoolD] at h1)
    rw [e] at k
    exact k
def wNeedB : SpW := fun es Φ => ∃ a lo hi : Int, es = [.val (.int a), .val (.int lo), .val (.int hi)] ∧ lo ≤ a ∧ a ≤ hi ∧ Φ .none es
theorem ok_need_between (D : TD K mg "need_between" s_need_between P_need_between) (G_is_whole : Cal P w K mg base 1 "is_whole" P_is_whole (spD K 1 wIsWhole)) : FnOk P w K mg base CX0 2 D.f D.fd P_need_between (spD K 3 wNeedB) := by
  refine fn_data D.F sc_need_between rfl fun cdv A outer s H E hr => ?_
  refine ⟨_, (pss_one (ps_if (PW.pt (pw_or (pt_not (pt_val (pe_call G_is_whole.ok (hr.mono (by decide)) rfl G_is_whole.m G_is_whole.kp G_is_whole.b .nil pass0 (pa_cons (pv 0) pa_nil)))) (pw_or (pt_cmpR op_lt (pv 0) (pv 1) (nomark _)) (pw_or1 (pt_cmpR op_gt (pv 0) (pv 2) (nomark _)))))) (pss_one ps_never) pss_nil)), ?_⟩
  rintro es Φ ⟨a, lo, hi, rfl, h1, h2, k⟩ _
  walk_at "d"
  refine ⟨rfl, _, rfl, ?_⟩
  walk_at "d"
  refine ⟨fun _ => ?_, fun z => absurd (of_decide_eq_true z) (by omega)⟩
  walk_at "d"
  refine ⟨fun z => absurd (of_decide_eq_true z) (by omega), fun _ => ?_⟩
  walk_at "d"
  exact k
def wIsRow : SpW := fun es Φ => ∃ d, es = [.val d] ∧ (∀ ds, d = .tuple ds → ds.length ≤ 100000) ∧ Φ (.bool (isRowD d)) es
theorem ok_is_row (T : Txt w K mg) (D : TD K mg "is_row" s_is_row P_is_row) (G_is_whole : Cal P w K mg base 1 "is_whole" P_is_whole (spD K 1 wIsWhole)) : FnOk P w K mg base CX0 2 D.f D.fd P_is_row (spD K 1 wIsRow) := by
  refine fn_data D.F sc_is_row rfl fun cdv A outer s H E hr => ?_
  have hu := hr.units
  refine ⟨_, (pss_cons (ps_if (pt_not (pt_val (pe_callB call_isi rfl T.n_isinstance (by decide +kernel) (pa_cons (pv 0) (pa_cons (pe_bltn (v := .ty "tuple") (u := .type "tuple") rfl T.n_tuple (by decide +kernel) rfl) pa_nil))))) (pss_one (ps_ret pe_bl)) pss_nil) (pss_one (ps_ret (pe_and (pe_callB (crK_all (K := K) rfl rfl) rfl T.n_all (by decide +kernel) (pa_cons (pe_lc (own := [("entry", 1)]) (g := gName 1) (tt := tYes) rfl sc_is_row.nd (pi_tup (pv 0)) (blkOk_by (own := [("entry", 1)]) (N := N_is_row) (sc := defScope s_is_row) (by decide +kernel)) (fun _ _ _ _ _ => pg_name (i := 1) sc_is_row.nd rfl (Or.inl rfl)) (fun _ _ _ _ _ => pts_nil) (fun _ _ _ _ _ => (pe_and (pe_call G_is_whole.ok (hr.mono (by decide)) rfl G_is_whole.m G_is_whole.kp G_is_whole.b .nil pass0 (pa_cons (pv 1) pa_nil)) (pe_one (pe_cmpR op_ge (pv 1) pe_int (nomark _)))))) pa_nil)) (pe_one (pe_cmpR op_le (pe_callB (cr_sumB (K := K) rfl rfl) rfl T.n_sum (by decide +kernel) (pa_cons (pv 0) pa_nil)) (pe_glob (v := .int 40) rfl T.c_MAX_WEIGHT ⟨_, rfl⟩) (nomark _))))))), ?_⟩
  rintro es Φ ⟨d, rfl, hl, k⟩ _
  walk_at "d"
  refine ⟨_, isT_tupA d, _, rfl, fun h1 => ?_, fun h1 => ?_⟩
  · walk_at "d"
    have e : isRowD d = false := by cases d <;> first | rfl | exact nomatch h1
    rw [e] at k
    exact k
  · cases d with
    | tuple ds =>
      walk_at "d"
      refine dw_fresh (df_lc (di_tup ?_))
      walk_at "e"
      refine ⟨ds, rfl, by decide, hl ds rfl, rfl, fun i out ρ' => out = ((ds.take i).map posD).map PyData.bool ∧ ρ' = [some (.val (.tuple ds)), none], ⟨rfl, rfl⟩, ?_, ?_⟩
      · rintro i d out ρ' hd ⟨rfl, rfl⟩ _
        walk_at "e"
        refine ⟨rfl, d, rfl, _, rfl, fun h2 => ?_, fun h2 => ?_⟩
        · cases d with
          | int j =>
            walk_at "e"
            refine ⟨?_, rfl⟩
            rw [← take_snoc hd, List.map_append, List.map_append]
            rfl
          | _ => exact nomatch h2
        · have e : posD d = false := by cases d <;> first | rfl | exact nomatch h2
          refine ⟨?_, rfl⟩
          rw [← take_snoc hd, List.map_append, List.map_append]
          show _ = _ ++ [PyData.bool (posD d)]
          rw [e]
      · rintro out ρ' ⟨rfl, rfl⟩
        rw [List.take_length]
        walk_at "e"
        refine rc_all ?_
        have e1 : (ds.map posD).all id = ds.all posD := by rw [List.all_map]; rfl
        rw [e1]
        refine ⟨_, rfl, fun h2 => ?_, fun h2 => ?_⟩
        · obtain ⟨r, o1, o2, o3⟩ := posD_ints h2
          subst o2
          walk_at "e"
          refine rc_sumU ?_
          walk_at "e"
          have e : isRowD (row r) = decide (r.sum ≤ 40) := by
            show ((r.map PyData.int).all posD && decide (((r.map PyData.int).map toI).sum ≤ 40)) = _
            rw [h2, map_toI, Bool.true_and]
          rw [e] at k
          exact k
        · have e : isRowD (.tuple ds) = false := by
            show (ds.all posD && _) = false
            rw [h2, Bool.false_and]
          rw [e] at k
          exact k
    | _ => exact nomatch h1
def RowP (r : List Int) : Prop := Ones r ∧ r.sum ≤ 40
theorem RowP.len {r : List Int} (h : RowP r) : r.length ≤ 40 := by
  have := ones_len h.1
  have := h.2
  omega
def wNeedRow : SpW := fun es Φ => ∃ r, es = [.val (row r)] ∧ RowP r ∧ Φ .none es
theorem ok_need_row (T : Txt w K mg) (D : TD K mg "need_row" s_need_row P_need_row) (G_is_row : Cal P w K mg base 2 "is_row" P_is_row (spD K 1 wIsRow)) : FnOk P w K mg base CX0 3 D.f D.fd P_need_row (spD K 1 wNeedRow) := by
  refine fn_data D.F sc_need_row rfl fun cdv A outer s H E hr => ?_
  refine ⟨_, (pss_one (ps_if (pt_not (pt_val (pe_call G_is_row.ok (hr.mono (by decide)) rfl G_is_row.m G_is_row.kp G_is_row.b .nil pass0 (pa_cons (pv 0) pa_nil)))) (pss_one ps_never) pss_nil)), ?_⟩
  rintro es Φ ⟨r, rfl, hr2, k⟩ _
  walk_at "d"
  refine ⟨rfl, _, rfl, fun ds z => ?_, ?_⟩
  · cases z
    rw [List.length_map]
    have := hr2.len
    omega
  · rw [row_is hr2.1 hr2.2]
    walk_at "d"
    exact k
theorem sh_ints : ∀ r : List Int, SeqAt.shaped (row r) = true := by
  intro r
  have := PySem.W.ke_shaped_ints r
  simpa [SeqAt.shaped, PyData.canLay0, PyData.depth] using this
theorem mulok_n : ∀ n : Nat, n < 101 → MulOk (wd [120]) (n : Int) := by unfold MulOk; decide +kernel
theorem mulok {n : Int} (h0 : 0 ≤ n) (h1 : n ≤ 100) : MulOk (wd [120]) n := by
  obtain ⟨k, rfl⟩ := Int.eq_ofNat_of_zero_le h0
  exact mulok_n k (by omega)
/-- the letters of an entry -/
def unit (e : Int) : Str := wd (List.replicate (e - 1).toNat 120 ++ [121])
theorem unit_len {r : List Int} (h : Ones r) : ((r.map unit).map (·.length)).sum = r.sum.toNat := by
  have key : ∀ r : List Int, Ones r → ((((r.map unit).map (·.length)).sum : Nat) : Int) = r.sum := by
    intro r
    induction r with
    | nil => intro _; rfl
    | cons e r ih =>
      intro h
      have h1 := h e List.mem_cons_self
      have h2 := ih fun x hx => h x (List.mem_cons_of_mem _ hx)
      have h3 : (unit e).length = (e - 1).toNat + 1 := by unfold unit; rw [len_wd]; simp
      simp only [List.map_cons, List.sum_cons]
      rw [Int.natCast_add, h2, h3]
      omega
  have := key r h
  omega
def wWordOf : SpW := fun es Φ => ∃ r, es = [.val (row r)] ∧ RowP r ∧ Φ (.str (wd (wordL r))) es
theorem ok_word_of (T : Txt w K mg) (D : TD K mg "word_of" s_word_of P_word_of) (G_need_row : Cal P w K mg base 3 "need_row" P_need_row (spD K 1 wNeedRow)) : FnOk P w K mg base CX0 4 D.f D.fd P_word_of (spD K 1 wWordOf) := by
  refine fn_data D.F sc_word_of rfl fun cdv A outer s H E hr => ?_
  refine ⟨_, (pss_cons (ps_expr (pe_call G_need_row.ok (hr.mono (by decide)) rfl G_need_row.m G_need_row.kp G_need_row.b .nil pass0 (pa_cons (pv 0) pa_nil))) (pss_one (ps_ret (pe_join pe_str (pe_lc (own := [("entry", 1)]) (g := gName 1) (tt := tYes) rfl sc_word_of.nd (pi_tup (pv 0)) (blkOk_by (own := [("entry", 1)]) (N := N_word_of) (sc := defScope s_word_of) (by decide +kernel)) (fun _ _ _ _ _ => pg_name (i := 1) sc_word_of.nd rfl (Or.inl rfl)) (fun _ _ _ _ _ => pts_nil) (fun _ _ _ _ _ => (pe_op (opK_add (K := K) rfl) (pe_op (opK_mul (K := K) rfl) pe_str (pe_op op_sub (pv 1) pe_int)) pe_str))))))), ?_⟩
  rintro es Φ ⟨r, rfl, hr2, k⟩ _
  walk_at "d"
  refine ⟨rfl, _, rfl, hr2, ?_⟩
  walk_at "d"
  refine ⟨_, rfl, dw_fresh (df_lc (di_tup ?_))⟩
  walk_at "e"
  have hl := hr2.len
  refine ⟨_, rfl, by decide, by rw [List.length_map]; omega, rfl, fun i out ρ' => out = ((r.take i).map unit).map PyData.str ∧ ρ' = [some (.val (row r)), none], ⟨rfl, rfl⟩, ?_, ?_⟩
  · rintro i d out ρ' hd ⟨rfl, rfl⟩ _
    rw [List.getElem?_map] at hd
    obtain ⟨e, he, rfl⟩ : ∃ e, r[i]? = some e ∧ d = .int e := by
      cases hx : r[i]? with
      | none => rw [hx] at hd; exact nomatch hd
      | some e => rw [hx] at hd; cases hd; exact ⟨e, rfl, rfl⟩
    have hm := List.mem_of_getElem? he
    have e1 := hr2.1 e hm
    have e2 := ones_le hr2.1 hm
    have e3 := hr2.2
    walk_at "e"
    rw [xS, yS]
    refine rd_mulBS (mulok (by omega) (by omega)) ?_
    rw [mul_x _ (by omega)]
    walk_at "e"
    refine rd_addBS (by rw [len_wd, len_wd, List.length_replicate]; simp; omega) ?_
    rw [wd_app]
    refine ⟨?_, rfl⟩
    rw [← take_snoc he, List.map_append, List.map_append]
    rfl
  · rintro out ρ' ⟨rfl, rfl⟩
    rw [List.length_map, List.take_length, eS]
    refine rd_join (by rw [unit_len hr2.1, len_wd]; have := hr2.2; simp; omega) ?_
    have e : PySem.Txt.join (wd []) (r.map unit) = wd (wordL r) := join_word
    rw [e]
    exact k
def wLawWord : SpW := wWordOf
theorem ok_law_word (T : Txt w K mg) (D : TD K mg "_law_word" s__law_word P__law_word) : FnOk P w K mg base CX0 1 D.f D.fd P__law_word (spD K 1 wWordOf) := by
  refine fn_data D.F sc__law_word rfl fun cdv A outer s H E hr => ?_
  refine ⟨_, (pss_one (ps_ret (pe_join pe_str (pe_lc (own := [("_law_entry", 1)]) (g := gName 1) (tt := tYes) rfl sc__law_word.nd (pi_tup (pv 0)) (blkOk_by (own := [("_law_entry", 1)]) (N := N__law_word) (sc := defScope s__law_word) (by decide +kernel)) (fun _ _ _ _ _ => pg_name (i := 1) sc__law_word.nd rfl (Or.inl rfl)) (fun _ _ _ _ _ => pts_nil) (fun _ _ _ _ _ => (pe_op (opK_add (K := K) rfl) (pe_op (opK_mul (K := K) rfl) pe_str (pe_op op_sub (pv 1) pe_int)) pe_str)))))), ?_⟩
  rintro es Φ ⟨r, rfl, hr2, k⟩ _
  walk_at "d"
  refine ⟨_, rfl, dw_fresh (df_lc (di_tup ?_))⟩
  walk_at "e"
  have hl := hr2.len
  refine ⟨_, rfl, by decide, by rw [List.length_map]; omega, rfl, fun i out ρ' => out = ((r.take i).map unit).map PyData.str ∧ ρ' = [some (.val (row r)), none], ⟨rfl, rfl⟩, ?_, ?_⟩
  · rintro i d out ρ' hd ⟨rfl, rfl⟩ _
    rw [List.getElem?_map] at hd
    obtain ⟨e, he, rfl⟩ : ∃ e, r[i]? = some e ∧ d = .int e := by
      cases hx : r[i]? with
      | none => rw [hx] at hd; exact nomatch hd
      | some e => rw [hx] at hd; cases hd; exact ⟨e, rfl, rfl⟩
    have hm := List.mem_of_getElem? he
    have e1 := hr2.1 e hm
    have e2 := ones_le hr2.1 hm
    have e3 := hr2.2
    walk_at "e"
    rw [xS, yS]
    refine rd_mulBS (mulok (by omega) (by omega)) ?_
    rw [mul_x _ (by omega)]
    walk_at "e"
    refine rd_addBS (by rw [len_wd, len_wd, List.length_replicate]; simp; omega) ?_
    rw [wd_app]
    refine ⟨?_, rfl⟩
    rw [← take_snoc he, List.map_append, List.map_append]
    rfl
  · rintro out ρ' ⟨rfl, rfl⟩
    rw [List.length_map, List.take_length, eS]
    refine rd_join (by rw [unit_len hr2.1, len_wd]; have := hr2.2; simp; omega) ?_
    have e : PySem.Txt.join (wd []) (r.map unit) = wd (wordL r) := join_word
    rw [e]
    exact k
end
end K35
namespace K35
open PySem L2 PySem.Spec PyProof.Rows DL
local macro_rules | `(tactic| walk_at "d0") => `(tactic| first
  | (with_reducible refine ds_seq ?_) | (with_reducible refine ds_next ?_) | (with_reducible refine ds_ret ?_) | (with_reducible refine ds_drop ?_) | (with_reducible refine ds_putO ?_) | (with_reducible refine ds_setO ?_) | (with_reducible refine ds_asg ?_)
  | ((with_reducible show DW _ _ (tOp (rIx _) (tVar _) (tC (.int _))) _ _); refine dw_ixO rfl (dw_int ⟨_, _, _, rfl, rfl, rfl, ?_⟩))
  | ((with_reducible show DW _ _ (tOp (rIx _) (tVar _) _) _ _); refine dw_ixO rfl ?_)
  | (with_reducible refine dw_lst ?_)
  | (with_reducible refine dw_isi ?_) | (with_reducible refine dw_op ?_) | (with_reducible refine dw_un ?_) | (with_reducible refine dw_int ?_) | (with_reducible refine dw_bl ?_) | (with_reducible refine dw_str ?_) | (with_reducible refine dw_non ?_)
  | ((with_reducible show DW _ _ (tVar _) _ _); refine dw_var rfl ?_)
  | (with_reducible refine dw_andV ?_) | (with_reducible refine dw_orV ?_) | (with_reducible refine dw_notV ?_) | (with_reducible refine dw_tup ?_) | (with_reducible refine dw_chain ?_)
  | (with_reducible refine da_nil ?_) | (with_reducible refine da_cons ?_)
  | (with_reducible refine dt_test ?_) | (with_reducible refine dt_B ?_) | (with_reducible refine dt_and ?_) | (with_reducible refine dt_or ?_) | (with_reducible refine dt_not ?_) | (with_reducible refine dt_yes ?_)
  | ((with_reducible show DW _ _ (tCall _ _ _ (tCons (tVar _) _)) _ _); refine dw_callO rfl ?_)
  | (with_reducible refine dw_call ?_) | (with_reducible refine dw_fresh (df_call ?_)) | (with_reducible refine dw_cb ?_)
  | (with_reducible refine rd_addBI ?_) | (with_reducible refine rc_tupL ?_) | (with_reducible refine rc_lstT ?_) | (with_reducible refine rc_reprB ?_) | (with_reducible refine rd_isB ?_) | (with_reducible refine rs_tup ?_) | (with_reducible refine rs_lst ?_) | (with_reducible refine dw_slH ?_) | (with_reducible refine dw_slL ?_) | (with_reducible refine dw_dnew ?_) | (with_reducible refine dw_m1 ?_) | (with_reducible refine rd_i0 ?_) | (with_reducible refine rd_b0 ?_) | (with_reducible refine ru_i ?_) | (with_reducible refine rc_int ?_) | (with_reducible refine rc_intB ?_) | (with_reducible refine rc_abs ?_) | (with_reducible refine rc_max ?_) | (with_reducible refine rc_min ?_) | (with_reducible refine rc_gcd ?_) | (with_reducible refine rc_lenL ?_) | (with_reducible refine rc_lenT ?_)
  | ((with_reducible show RD (rIx _) _ (.tuple _) _ _); refine rd_ixT rfl ?_) | ((with_reducible show RD (rIx _) _ (.list _) _ _); refine rd_ixL rfl ?_)
  | ((with_reducible refine dg_name ?hj ?_); (case hj => first | exact .inl (by decide) | exact .inr (noLst_val rfl) | exact .inr (noLst_none rfl)))
  | ((with_reducible show ∃ b, PyData.bool _ = PyData.bool b ∧ _); refine ⟨_, rfl, ?_⟩)
  | ((with_reducible show RD (rEqA _) _ (.int _) (.int _) _); refine rd_eq rfl rfl ?_) | ((with_reducible show RD (rNeA _) _ (.int _) (.int _) _); refine rd_ne rfl rfl ?_)
  | ((with_reducible show DW _ _ (tTup _) _ _); refine dw_tup ?_) | ((with_reducible show List.length _ ≤ 100000 ∧ _); refine ⟨Nat.le_of_ble_eq_true rfl, ?_⟩)
  | (((with_reducible show (_ = true → _) ∧ (_ = false → _)); first | (refine ⟨fun _ => ?_, fun z => Bool.noConfusion (show true = false from z)⟩) | (refine ⟨fun z => Bool.noConfusion (show false = true from z), fun _ => ?_⟩)))
  | (((with_reducible show (_ = false → _) ∧ (_ = true → _)); first | (refine ⟨fun _ => ?_, fun z => Bool.noConfusion (show false = true from z)⟩) | (refine ⟨fun z => Bool.noConfusion (show true = false from z), fun _ => ?_⟩)))
  | (with_reducible refine dgs_nil ?_) | (with_reducible refine dgs_cons ?_))
local macro_rules | `(tactic| walk_at "d1") => `(tactic| first | walk_at "d0" | (with_reducible refine ds_if ?_) | (with_reducible refine dw_if ?_))
local macro_rules | `(tactic| walk_at "e") => `(tactic| ((try dsimp only [cxOf, Cx.nox, Cx.wish, ownD]); repeat (walk_at "d0")))
local macro_rules | `(tactic| walk_at "d") => `(tactic| ((try dsimp only [cxOf, Cx.nox, Cx.wish, ownD]); repeat (walk_at "d1")))

abbrev s__law_dice : Stmt := topS 32
abbrev N__law_dice : List Str := ["_law_script", "_law_spot", "_law_cell", "_law_left"]
abbrev P__law_dice : List Str := ["_law_script", "_law_spot"]
theorem sc__law_dice : FnScope N__law_dice P__law_dice (defScope s__law_dice) := ⟨rfl, rfl, rfl, by decide +kernel, rfl, by decide +kernel, by decide +kernel⟩
abbrev s__law_roll : Stmt := topS 33
abbrev N__law_roll : List Str := ["_law_dice_here", "_law_total", "_law_found", "_law_one", "_law_two"]
abbrev P__law_roll : List Str := ["_law_dice_here", "_law_total"]
theorem sc__law_roll : FnScope N__law_roll P__law_roll (defScope s__law_roll) := ⟨rfl, rfl, rfl, by decide +kernel, rfl, by decide +kernel, by decide +kernel⟩
abbrev s__law_pick : Stmt := topS 34
abbrev N__law_pick : List Str := ["_law_dice_here", "_law_items"]
abbrev P__law_pick : List Str := ["_law_dice_here", "_law_items"]
theorem sc__law_pick : FnScope N__law_pick P__law_pick (defScope s__law_pick) := ⟨rfl, rfl, rfl, by decide +kernel, rfl, by decide +kernel, by decide +kernel⟩
section
variable {P : Program} {w : World} {K : PySem.W.Frag} {mg : Str → Option Value} {base : Heap} {Ψ : PyData → Prop}
def B (k : Nat) (i : Int) : Prop := i.natAbs < 2 ^ k
theorem rdm_S {i j : Int} (h : CMul i j) (k : Ψ (.int (i * j))) : RD (rMulB K) K (.int i) (.int j) Ψ := rd_mulBC (.inr h) k
theorem rdm_I {i j : Int} (h : CMulW i j) (k : Ψ (.int (i * j))) : RD (rMulB K) K (.int i) (.int j) Ψ := rd_mulBC (.inl h) k
/-- the dice -/
abbrev dice (l s t : Int) : Ent := .lst (.l [.int l, .int s, .int t])
def wRoll : SpW := fun es Φ => ∃ l s t n, es = [dice l s t, .val (.int n)] ∧ 0 ≤ l ∧ 0 < n ∧ B 1000 n ∧ ∀ r l' t', 0 ≤ r → r < n → 0 ≤ l' → Φ (.int r) [dice l' s t', .val (.int n)]
theorem fm {a n : Int} (h : 0 < n) : 0 ≤ a.fmod n ∧ a.fmod n < n := ⟨Int.fmod_nonneg_of_pos _ h, Int.fmod_lt_of_pos _ h⟩
theorem ok_roll (T : Txt w K mg) (D : TD K mg "_law_roll" s__law_roll P__law_roll) : FnOk P w K mg base CX0 1 D.f D.fd P__law_roll (spD K 2 wRoll) := by
  refine fn_data D.F sc__law_roll rfl fun cdv A outer s H E hr => ?_
  refine ⟨_, (pss_cons (ps_if (pt_cmpR op_gt (pe_ix (ixK_seq (K := K) rfl) (pv 0) pe_int (fun _ _ => rfl)) pe_int (nomark _)) (pss_cons (ps_set (i := 2) sc__law_roll.nd rfl (Or.inl rfl) (pe_op op_modN (pe_callTy call_int1 rfl T.n_int (by decide +kernel) (pa_cons (pe_ix (ixK_seq (K := K) rfl) (pv 0) pe_int (fun _ _ => rfl)) pa_nil)) (pv 1))) (pss_cons (ps_asg (pe_op opA_fdiv (pe_ix (ixK_seq (K := K) rfl) (pv 0) pe_int (fun _ _ => rfl)) (pv 1)) (pg_sub (pv 0) pe_int set_list)) (pss_one (ps_ret (pv 2))))) pss_nil) (pss_cons (ps_asg (pe_op (opK_add (K := K) rfl) (pe_ix (ixK_seq (K := K) rfl) (pv 0) pe_int (fun _ _ => rfl)) pe_int) (pg_sub (pv 0) pe_int set_list)) (pss_cons (ps_set (i := 3) sc__law_roll.nd rfl (Or.inl rfl) (pe_op op_modN (pe_callTy call_int1 rfl T.n_int (by decide +kernel) (pa_cons (pe_op (opK_add (K := K) rfl) (pe_ix (ixK_seq (K := K) rfl) (pv 0) pe_int (fun _ _ => rfl)) (pe_op (opK_mul (K := K) rfl) pe_int (pe_ix (ixK_seq (K := K) rfl) (pv 0) pe_int (fun _ _ => rfl)))) pa_nil)) pe_int)) (pss_cons (ps_set (i := 4) sc__law_roll.nd rfl (Or.inl rfl) (pe_op (opK_add (K := K) rfl) (pe_op (opK_mul (K := K) rfl) (pe_op op_modN (pe_callTy call_int1 rfl T.n_int (by decide +kernel) (pa_cons (pe_op (opK_add (K := K) rfl) (pe_op (opK_mul (K := K) rfl) (pv 3) (pv 3)) (pe_op (opK_mul (K := K) rfl) pe_int (pe_ix (ixK_seq (K := K) rfl) (pv 0) pe_int (fun _ _ => rfl)))) pa_nil)) pe_int) pe_int) (pv 3))) (pss_one (ps_ret (pe_op op_modN (pe_callTy call_int1 rfl T.n_int (by decide +kernel) (pa_cons (pe_op opA_fdiv (pv 4) pe_int) pa_nil)) (pv 1)))))))), ?_⟩
  rintro es Φ ⟨l, s, t, n, rfl, hl, hn, hB, k⟩ _
  have hn0 : n ≠ 0 := by omega
  have hd : ∀ i, CDivA i n := fun i => ⟨hn0, by
    have : n.natAbs.log2 < 1000 := (Nat.log2_lt (by omega)).mpr hB
    omega⟩
  walk_at "e"
  refine ds_if ?_
  walk_at "e"
  refine ⟨fun h => ?_, fun h => ?_⟩
  · have h : 0 < l := of_decide_eq_true h
    walk_at "e"
    refine rd_i hn0 ?_
    walk_at "e"
    refine rd_i (hd _) ⟨⟨_, rfl⟩, ?_⟩
    walk_at "e"
    refine ⟨0, _, rfl, rfl, by show (0 : Nat) < 3; decide, ?_⟩
    walk_at "e"
    exact k _ _ _ (fm hn).1 (fm hn).2 (Int.fdiv_nonneg hl (by omega))
  · walk_at "e"
    refine ⟨⟨_, rfl⟩, ?_⟩
    walk_at "e"
    refine ⟨2, _, rfl, rfl, by show (2 : Nat) < 3; decide, ?_⟩
    walk_at "e"
    refine rdm_S (.inl (by decide)) ?_
    walk_at "e"
    refine rd_i (by decide) ?_
    walk_at "e"
    have h1 := fm (a := s + 86028157 * (t + 1)) (n := 2305843009213693669) (by decide)
    refine rdm_S (.inl ⟨by omega, by omega⟩) ?_
    walk_at "e"
    refine rdm_S (.inl (by decide)) ?_
    walk_at "e"
    refine rd_i (by decide) ?_
    walk_at "e"
    refine rdm_S (.inr (by decide)) ?_
    walk_at "e"
    refine rd_i ⟨by decide, by decide⟩ ?_
    walk_at "e"
    refine rd_i hn0 ?_
    exact k _ _ _ (fm hn).1 (fm hn).2 hl
def wPick : SpW := fun es Φ => ∃ (l s t : Int) (ds : List PyData), es = [dice l s t, .val (.list ds)] ∧ 0 ≤ l ∧ 0 < ds.length ∧ ds.length < 1000 ∧ ∀ (i : Nat) (d : PyData) (l' t' : Int), ds[i]? = some d → 0 ≤ l' → Φ d [dice l' s t', .val (.list ds)]
theorem ok_pick (T : Txt w K mg) (D : TD K mg "_law_pick" s__law_pick P__law_pick) (G__law_roll : Cal P w K mg base 1 "_law_roll" P__law_roll (spD K 2 wRoll)) : FnOk P w K mg base CX0 2 D.f D.fd P__law_pick (spD K 2 wPick) := by
  refine fn_data D.F sc__law_pick rfl fun cdv A outer s H E hr => ?_
  refine ⟨_, (pss_one (ps_ret (pe_ix (ixK_seq (K := K) rfl) (pv 1) (pe_call G__law_roll.ok (hr.mono (by decide)) rfl G__law_roll.m G__law_roll.kp G__law_roll.b .nil pass0 (pa_cons (pv 0) (pa_cons (pe_callB (crK_len (K := K) rfl) rfl T.n_len (by decide +kernel) (pa_cons (pv 1) pa_nil)) pa_nil))) (fun _ _ => rfl)))), ?_⟩
  rintro es Φ ⟨l, s, t, ds, rfl, hl, h0, h1, k⟩ _
  walk_at "e"
  refine ⟨rfl, _, rfl, l, s, t, _, rfl, hl, by omega, ?_, ?_⟩
  · unfold B
    have : ((ds.length : Nat) : Int).natAbs < 1000 := by omega
    exact Nat.lt_trans this (by decide)
  · intro r l' t' r0 r1 hl' ds2 rest e
    cases e
    obtain ⟨i, rfl⟩ : ∃ i : Nat, r = (i : Int) := ⟨r.toNat, by omega⟩
    have hi : i < ds.length := by omega
    exact rd_ixL (atI_nat (List.getElem?_eq_getElem hi)) (k i _ l' t' (List.getElem?_eq_getElem hi) hl')
def wDice : SfW := fun es Ψ => ∃ (ns : List Int) (i : Nat), es = [.val (.list (ns.map .int)), .val (.int i)] ∧ i < 1000 ∧ ∀ l s, 0 ≤ l → Ψ (.l [.int l, .int s, .int 0]) es
theorem ok_dice (T : Txt w K mg) (D : TD K mg "_law_dice" s__law_dice P__law_dice) : FnOk P w K mg base CX0 1 D.f D.fd P__law_dice (spF K 2 wDice) := by
  refine fn_dataF D.F sc__law_dice rfl fun cdv A outer s H E hr => ?_
  refine ⟨_, (pss_cons (ps_set (i := 2) sc__law_dice.nd rfl (Or.inl rfl) (pe_ifExp (pt_cmpR op_lt (pv 1) (pe_callB (crK_len (K := K) rfl) rfl T.n_len (by decide +kernel) (pa_cons (pv 0) pa_nil)) (nomark _)) (pe_callTy call_int1 rfl T.n_int (by decide +kernel) (pa_cons (pe_ix (ixK_seq (K := K) rfl) (pv 0) (pv 1) (fun _ _ => rfl)) pa_nil)) (pe_op (opK_add (K := K) rfl) (pe_op (opK_mul (K := K) rfl) pe_int (pv 1)) pe_int))) (pss_cons (ps_set (i := 3) sc__law_dice.nd rfl (Or.inl rfl) (pe_op op_modN (pe_callB (call_max2 rfl) rfl T.n_max (by decide +kernel) (pa_cons pe_int (pa_cons (pe_op op_sub (pe_callB call_abs rfl T.n_abs (by decide +kernel) (pa_cons (pv 2) pa_nil)) (pe_op op_pow pe_int pe_int)) pa_nil))) (pe_op (opK_mul (K := K) rfl) (pe_op op_pow pe_int pe_int) (pe_op op_pow pe_int pe_int)))) (pss_one (ps_ret (pe_lst (pa_cons (pv 3) (pa_cons (pe_op (opK_add (K := K) rfl) (pe_op (opK_add (K := K) rfl) (pe_op (opK_add (K := K) rfl) (pe_op (opK_mul (K := K) rfl) (pe_op op_modN (pe_callB call_abs rfl T.n_abs (by decide +kernel) (pa_cons (pv 2) pa_nil)) pe_int) pe_int) (pe_op (opK_mul (K := K) rfl) pe_int (pv 1))) (pe_op (opK_mul (K := K) rfl) pe_int (pe_callTy call_int1 rfl T.n_int (by decide +kernel) (pa_cons (pe_cmpR op_lt (pv 2) pe_int (nomark _)) pa_nil)))) pe_int) (pa_cons pe_int pa_nil)))))))), ?_⟩
  rintro es Φ ⟨ns, i, rfl, hi, kk⟩ _
  try dsimp only [cxOf, Cx.nox, Cx.wish]
  refine ds_seq (ds_asg (dw_mid (fun d => ∃ c, d = .int c) ?_ ?_))
  · refine dw_if ?_
    walk_at "e"
    refine ⟨fun h => ?_, fun h => ?_⟩
    · have h : (i : Int) < ((ns.map PyData.int).length : Nat) := of_decide_eq_true h
      rw [List.length_map] at h
      walk_at "e"
      have hx : (ns.map PyData.int)[i]? = some (.int (ns[i]'(by omega))) := by
        rw [List.getElem?_map, List.getElem?_eq_getElem (by omega)]
        rfl
      refine rd_ixL (atI_nat hx) ?_
      walk_at "e"
      exact ⟨⟨_, rfl⟩, rfl⟩
    · walk_at "e"
      refine rdm_S (.inl (by decide)) ?_
      walk_at "e"
      exact ⟨⟨_, rfl⟩, rfl⟩
  rintro d ⟨c, rfl⟩
  refine dg_name (.inl (by decide)) ?_
  refine ds_seq (ds_asg (dw_mid (fun d => ∃ l, 0 ≤ l ∧ d = .int l) ?_ ?_))
  · walk_at "e"
    refine rd_i ⟨by decide, by decide, by decide⟩ ?_
    walk_at "e"
    refine rd_i ⟨by decide, by decide, by decide⟩ ?_
    walk_at "e"
    refine rd_i ⟨by decide, by decide, by decide⟩ ?_
    walk_at "e"
    refine rdm_I (by unfold CMulW; decide) ?_
    walk_at "e"
    refine rd_i (by decide) ?_
    exact ⟨⟨_, Int.fmod_nonneg_of_pos _ (by decide), rfl⟩, rfl⟩
  rintro d ⟨l, hl, rfl⟩
  refine dg_name (.inl (by decide)) ?_
  refine ds_retF (df_lst ?_)
  walk_at "e"
  refine rd_i (by decide) ?_
  walk_at "e"
  refine rdm_S (.inr (by decide)) ?_
  walk_at "e"
  refine rdm_S (.inl (by decide)) ?_
  walk_at "e"
  refine rdm_S (.inl (by decide)) ?_
  walk_at "e"
  exact kk _ _ hl
end
end K35
namespace K35
open PySem L2 PySem.Spec PyProof.Rows DL
local macro_rules | `(tactic| walk_at "d0") => `(tactic| first
  | (with_reducible refine ds_seq ?_) | (with_reducible refine ds_next ?_) | (with_reducible refine ds_ret ?_) | (with_reducible refine ds_drop ?_) | (with_reducible refine ds_putO ?_) | (with_reducible refine ds_setO ?_) | (with_reducible refine ds_asg ?_)
  | ((with_reducible show DW _ _ (tOp (rIx _) (tVar _) (tC (.int _))) _ _); refine dw_ixO rfl (dw_int ⟨_, _, _, rfl, rfl, rfl, ?_⟩))
  | ((with_reducible show DW _ _ (tOp (rIx _) (tVar _) _) _ _); refine dw_ixO rfl ?_)
  | (with_reducible refine dw_lst ?_)
  | (with_reducible refine dw_isi ?_) | (with_reducible refine dw_op ?_) | (with_reducible refine dw_un ?_) | (with_reducible refine dw_int ?_) | (with_reducible refine dw_bl ?_) | (with_reducible refine dw_str ?_) | (with_reducible refine dw_non ?_)
  | ((with_reducible show DW _ _ (tVar _) _ _); refine dw_var rfl ?_)
  | (with_reducible refine dw_andV ?_) | (with_reducible refine dw_orV ?_) | (with_reducible refine dw_notV ?_) | (with_reducible refine dw_tup ?_) | (with_reducible refine dw_chain ?_)
  | (with_reducible refine da_nil ?_) | (with_reducible refine da_cons ?_)
  | (with_reducible refine dt_test ?_) | (with_reducible refine dt_B ?_) | (with_reducible refine dt_and ?_) | (with_reducible refine dt_or ?_) | (with_reducible refine dt_not ?_) | (with_reducible refine dt_yes ?_)
  | ((with_reducible show DW _ _ (tCall _ _ _ (tCons (tVar _) _)) _ _); refine dw_callO rfl ?_)
  | (with_reducible refine dw_call ?_) | (with_reducible refine dw_fresh (df_call ?_)) | (with_reducible refine dw_cb ?_)
  | (with_reducible refine rd_addBI ?_) | (with_reducible refine rc_tupL ?_) | (with_reducible refine rc_lstT ?_) | (with_reducible refine rc_reprB ?_) | (with_reducible refine rd_isB ?_) | (with_reducible refine rs_tup ?_) | (with_reducible refine rs_lst ?_) | (with_reducible refine dw_slH ?_) | (with_reducible refine dw_slL ?_) | (with_reducible refine dw_dnew ?_) | (with_reducible refine dw_m1 ?_) | (with_reducible refine rd_i0 ?_) | (with_reducible refine rd_b0 ?_) | (with_reducible refine ru_i ?_) | (with_reducible refine rc_int ?_) | (with_reducible refine rc_intB ?_) | (with_reducible refine rc_abs ?_) | (with_reducible refine rc_max ?_) | (with_reducible refine rc_min ?_) | (with_reducible refine rc_gcd ?_) | (with_reducible refine rc_lenL ?_) | (with_reducible refine rc_lenT ?_)
  | ((with_reducible show RD (rIx _) _ (.tuple _) _ _); refine rd_ixT rfl ?_) | ((with_reducible show RD (rIx _) _ (.list _) _ _); refine rd_ixL rfl ?_)
  | ((with_reducible refine dg_name ?hj ?_); (case hj => first | exact .inl (by decide) | exact .inr (noLst_val rfl) | exact .inr (noLst_none rfl)))
  | ((with_reducible show ∃ b, PyData.bool _ = PyData.bool b ∧ _); refine ⟨_, rfl, ?_⟩)
  | ((with_reducible show RD (rEqA _) _ (.int _) (.int _) _); refine rd_eq rfl rfl ?_) | ((with_reducible show RD (rNeA _) _ (.int _) (.int _) _); refine rd_ne rfl rfl ?_)
  | ((with_reducible show DW _ _ (tTup _) _ _); refine dw_tup ?_) | ((with_reducible show List.length _ ≤ 100000 ∧ _); refine ⟨Nat.le_of_ble_eq_true rfl, ?_⟩)
  | (((with_reducible show (_ = true → _) ∧ (_ = false → _)); first | (refine ⟨fun _ => ?_, fun z => Bool.noConfusion (show true = false from z)⟩) | (refine ⟨fun z => Bool.noConfusion (show false = true from z), fun _ => ?_⟩)))
  | (((with_reducible show (_ = false → _) ∧ (_ = true → _)); first | (refine ⟨fun _ => ?_, fun z => Bool.noConfusion (show false = true from z)⟩) | (refine ⟨fun z => Bool.noConfusion (show true = false from z), fun _ => ?_⟩)))
  | (with_reducible refine dgs_nil ?_) | (with_reducible refine dgs_cons ?_))
local macro_rules | `(tactic| walk_at "d1") => `(tactic| first | walk_at "d0" | (with_reducible refine ds_if ?_) | (with_reducible refine dw_if ?_))
local macro_rules | `(tactic| walk_at "e") => `(tactic| ((try dsimp only [cxOf, Cx.nox, Cx.wish, ownD]); repeat (walk_at "d0")))
local macro_rules | `(tactic| walk_at "d") => `(tactic| ((try dsimp only [cxOf, Cx.nox, Cx.wish, ownD]); repeat (walk_at "d1")))

abbrev s__law_row_drawn : Stmt := topS 40
abbrev N__law_row_drawn : List Str := ["_law_dice_here", "_law_weight", "_law_found", "_law_left", "_law_entry"]
abbrev P__law_row_drawn : List Str := ["_law_dice_here", "_law_weight"]
theorem sc__law_row_drawn : FnScope N__law_row_drawn P__law_row_drawn (defScope s__law_row_drawn) := ⟨rfl, rfl, rfl, by decide +kernel, rfl, by decide +kernel, by decide +kernel⟩
section
variable {P : Program} {w : World} {K : PySem.W.Frag} {mg : Str → Option Value} {base : Heap} {Ψ : PyData → Prop}
def wDrawn : SpW := fun es Φ => ∃ l s t m, es = [dice l s t, .val (.int m)] ∧ 0 ≤ l ∧ 0 ≤ m ∧ m ≤ 40 ∧ ∀ r l' t', Ones r → r.sum = m → 0 ≤ l' → Φ (row r) [dice l' s t', .val (.int m)]
theorem ok_drawn (T : Txt w K mg) (D : TD K mg "_law_row_drawn" s__law_row_drawn P__law_row_drawn) (G__law_roll : Cal P w K mg base 1 "_law_roll" P__law_roll (spD K 2 wRoll)) (G__law_pick : Cal P w K mg base 2 "_law_pick" P__law_pick (spD K 2 wPick)) : FnOk P w K mg base CX0 3 D.f D.fd P__law_row_drawn (spD K 2 wDrawn) := by
  refine fn_data D.F sc__law_row_drawn rfl fun cdv A outer s H E hr => ?_
  have hu := hr.units
  refine ⟨_, (pss_cons (ps_par rfl sc__law_row_drawn.nd (i := 2) (j := 3) rfl rfl (by decide) rfl rfl (pa_cons (pe_lst pa_nil) (pa_cons (pv 1) pa_nil)) rfl) (pss_cons (ps_while PassesOwn.never (pt_cmpR op_gt (pv 3) pe_int (nomark _)) (pss_cons (ps_set (i := 4) sc__law_row_drawn.nd rfl (Or.inl rfl) (pe_op (opK_add (K := K) rfl) pe_int (pe_call G__law_roll.ok (hr.mono (by decide)) rfl G__law_roll.m G__law_roll.kp G__law_roll.b .nil pass0 (pa_cons (pv 0) (pa_cons (pe_callB (call_min2 rfl) rfl T.n_min (by decide +kernel) (pa_cons (pv 3) (pa_cons (pe_call G__law_pick.ok (hr.mono (by decide)) rfl G__law_pick.m G__law_pick.kp G__law_pick.b .nil pass0 (pa_cons (pv 0) (pa_cons (pe_lst (pa_cons pe_int (pa_cons pe_int (pa_cons pe_int (pa_cons pe_int (pa_cons pe_int pa_nil)))))) pa_nil))) pa_nil))) pa_nil))))) (pss_cons (ps_expr (pe_bm PySem.F.plainAttrs_list PySem.F.slot_list_append PySem.F.type_list_append mt_append (pv 2) (pa_cons (pv 4) pa_nil))) (pss_one (ps_set (i := 3) sc__law_row_drawn.nd rfl (Or.inl rfl) (pe_op op_sub (pv 3) (pv 4))))))) (pss_one (ps_ret (pe_callTy (crK_tupOf (K := K) rfl) rfl T.n_tuple (by decide +kernel) (pa_cons (pv 2) pa_nil)))))), ?_⟩
  rintro es Φ ⟨l, s, t, m, rfl, hl, h0, h1, k⟩ _
  try dsimp only [cxOf, Cx.nox, Cx.wish]
  refine ds_seq (ds_parF (df_lst ?_))
  walk_at "e"
  refine ⟨_, rfl, by decide, by decide, ?_⟩
  refine ds_seq (ds_while ⟨fun n ρ' => ∃ (l t : Int) (r : List Int) (x : Option Ent), 0 ≤ l ∧ Ones r ∧ r.sum ≤ m ∧ n = (m - r.sum).toNat ∧ (x = none ∨ ∃ d, x = some (.val d)) ∧ ρ' = [some (dice l s t), some (.val (.int m)), some (.lst (.l (r.map .int))), some (.val (.int (m - r.sum))), x], ⟨_, l, t, [], none, hl, (fun _ h => nomatch h), h0, rfl, .inl rfl, by simp⟩, ?_⟩)
  rintro n ρ' ⟨l, t, r, x, hl, o1, o2, hn, hx, rfl⟩
  walk_at "e"
  refine ⟨fun h => ?_, fun h => ?_⟩
  · have h : 0 < m - r.sum := of_decide_eq_true h
    walk_at "e"
    refine ⟨rfl, _, rfl, l, s, t, _, rfl, hl, by decide, by decide, ?_⟩
    intro i d l1 t1 hd hl1 ds2 rest e
    cases e
    obtain ⟨v, hv, rfl⟩ : ∃ v : Int, 1 ≤ v ∧ d = .int v := by
      have hm := List.mem_of_getElem? hd
      simp only [List.mem_cons, List.not_mem_nil, or_false] at hm
      rcases hm with rfl | rfl | rfl | rfl | rfl <;> exact ⟨_, by decide, rfl⟩
    walk_at "e"
    have hb : 0 < (if v < m - r.sum then v else m - r.sum) ∧ (if v < m - r.sum then v else m - r.sum) ≤ m - r.sum ∧ (if v < m - r.sum then v else m - r.sum) ≤ 40 := by
      have := ones_len o1
      split <;> omega
    generalize (if v < m - r.sum then v else m - r.sum) = N at hb
    refine ⟨rfl, _, rfl, l1, s, t1, N, rfl, hl1, hb.1, ?_, ?_⟩
    · unfold B
      have : N.natAbs < 64 := by omega
      exact Nat.lt_trans this (by decide)
    intro q l2 t2 q0 q1 hl2 ds2 rest e
    cases e
    refine rd_addBI ?_
    refine dg_name (.inl (by decide)) ?_
    refine ds_seq (ds_app rfl ?_)
    walk_at "e"
    have hlen := ones_len o1
    refine ⟨_, rfl, by rw [List.length_map]; omega, ?_⟩
    walk_at "e"
    have o3 : Ones (r ++ [1 + q]) := ones_app o1 (by intro e he; simp at he; omega)
    have es : (r ++ [1 + q]).sum = r.sum + (1 + q) := by simp
    refine ⟨(m - (r ++ [1 + q]).sum).toNat, by rw [es, hn]; omega, l2, t2, r ++ [1 + q], some (.val (.int (1 + q))), hl2, o3, by rw [es]; omega, rfl, .inr ⟨_, rfl⟩, ?_⟩
    rw [es, List.map_append]
    have : m - r.sum - (1 + q) = m - (r.sum + (1 + q)) := by omega
    rw [← this]
    rfl
  · have h : ¬ 0 < m - r.sum := of_decide_eq_false h
    refine ds_ret (dw_tupO rfl ?_)
    exact k r l t o1 (by omega) hl

end
end K35
namespace K35
open PySem L2 PySem.Spec PyProof.Rows DL
local macro_rules | `(tactic| walk_at "d0") => `(tactic| first
  | (with_reducible refine ds_seq ?_) | (with_reducible refine ds_next ?_) | (with_reducible refine ds_ret ?_) | (with_reducible refine ds_drop ?_) | (with_reducible refine ds_putO ?_) | (with_reducible refine ds_setO ?_) | (with_reducible refine ds_asg ?_)
  | ((with_reducible show DW _ _ (tOp (rIx _) (tVar _) (tC (.int _))) _ _); refine dw_ixO rfl (dw_int ⟨_, _, _, rfl, rfl, rfl, ?_⟩))
  | ((with_reducible show DW _ _ (tOp (rIx _) (tVar _) _) _ _); refine dw_ixO rfl ?_)
  | (with_reducible refine dw_lst ?_) | (with_reducible refine df_lst ?_)
  | ((with_reducible show DW _ _ (tOp rCat (tVar _) _) _ _); refine dw_fresh (df_catO rfl ?_)) | ((with_reducible show DF _ _ (tOp rCat (tVar _) _) _ _); refine df_catO rfl ?_)
  | (with_reducible refine dw_fresh (df_catFF ?_)) | (with_reducible refine df_catFF ?_) | (with_reducible refine df_repF ?_)
  | (with_reducible refine dw_isi ?_) | (with_reducible refine dw_op ?_) | (with_reducible refine dw_un ?_) | (with_reducible refine dw_int ?_) | (with_reducible refine dw_bl ?_) | (with_reducible refine dw_str ?_) | (with_reducible refine dw_non ?_)
  | ((with_reducible show DW _ _ (tVar _) _ _); refine dw_var rfl ?_)
  | (with_reducible refine dw_andV ?_) | (with_reducible refine dw_orV ?_) | (with_reducible refine dw_notV ?_) | (with_reducible refine dw_tup ?_) | (with_reducible refine dw_chain ?_)
  | (with_reducible refine da_nil ?_) | (with_reducible refine da_cons ?_)
  | (with_reducible refine dt_test ?_) | (with_reducible refine dt_B ?_) | (with_reducible refine dt_and ?_) | (with_reducible refine dt_or ?_) | (with_reducible refine dt_not ?_) | (with_reducible refine dt_yes ?_)
  | ((with_reducible show DW _ _ (tCall _ _ _ (tCons (tVar _) _)) _ _); refine dw_callO rfl ?_)
  | (with_reducible refine dw_call ?_) | (with_reducible refine dw_fresh (df_call ?_)) | (with_reducible refine dw_cb ?_)
  | (with_reducible refine rd_addBI ?_) | (with_reducible refine rc_tupL ?_) | (with_reducible refine rc_lstT ?_) | (with_reducible refine rc_reprB ?_) | (with_reducible refine rd_isB ?_) | (with_reducible refine rs_tup ?_) | (with_reducible refine rs_lst ?_) | (with_reducible refine dw_slH ?_) | (with_reducible refine dw_slL ?_) | (with_reducible refine dw_dnew ?_) | (with_reducible refine dw_m1 ?_) | (with_reducible refine rd_i0 ?_) | (with_reducible refine rd_b0 ?_) | (with_reducible refine ru_i ?_) | (with_reducible refine rc_int ?_) | (with_reducible refine rc_intB ?_) | (with_reducible refine rc_abs ?_) | (with_reducible refine rc_max ?_) | (with_reducible refine rc_min ?_) | (with_reducible refine rc_gcd ?_) | (with_reducible refine rc_lenL ?_) | (with_reducible refine rc_lenT ?_)
  | ((with_reducible show RD (rIx _) _ (.tuple _) _ _); refine rd_ixT rfl ?_) | ((with_reducible show RD (rIx _) _ (.list _) _ _); refine rd_ixL rfl ?_)
  | ((with_reducible refine dg_name ?hj ?_); (case hj => first | exact .inl (by decide) | exact .inr (noLst_val rfl) | exact .inr (noLst_none rfl)))
  | ((with_reducible show ∃ b, PyData.bool _ = PyData.bool b ∧ _); refine ⟨_, rfl, ?_⟩)
  | ((with_reducible show RD (rEqA _) _ (.int _) (.int _) _); refine rd_eq rfl rfl ?_) | ((with_reducible show RD (rNeA _) _ (.int _) (.int _) _); refine rd_ne rfl rfl ?_)
  | ((with_reducible show DW _ _ (tTup _) _ _); refine dw_tup ?_) | ((with_reducible show List.length _ ≤ 100000 ∧ _); refine ⟨Nat.le_of_ble_eq_true rfl, ?_⟩)
  | (((with_reducible show (_ = true → _) ∧ (_ = false → _)); first | (refine ⟨fun _ => ?_, fun z => Bool.noConfusion (show true = false from z)⟩) | (refine ⟨fun z => Bool.noConfusion (show false = true from z), fun _ => ?_⟩)))
  | (((with_reducible show (_ = false → _) ∧ (_ = true → _)); first | (refine ⟨fun _ => ?_, fun z => Bool.noConfusion (show false = true from z)⟩) | (refine ⟨fun z => Bool.noConfusion (show true = false from z), fun _ => ?_⟩)))
  | (with_reducible refine dgs_nil ?_) | (with_reducible refine dgs_cons ?_))
local macro_rules | `(tactic| walk_at "d1") => `(tactic| first | walk_at "d0" | (with_reducible refine ds_if ?_) | (with_reducible refine dw_if ?_))
local macro_rules | `(tactic| walk_at "e") => `(tactic| ((try dsimp only [cxOf, Cx.nox, Cx.wish, ownD]); repeat (walk_at "d0")))
local macro_rules | `(tactic| walk_at "d") => `(tactic| ((try dsimp only [cxOf, Cx.nox, Cx.wish, ownD]); repeat (walk_at "d1")))

abbrev s_need_one_of : Stmt := topS 12
abbrev N_need_one_of : List Str := ["name", "names"]
abbrev P_need_one_of : List Str := ["name", "names"]
theorem sc_need_one_of : FnScope N_need_one_of P_need_one_of (defScope s_need_one_of) := ⟨rfl, rfl, rfl, by decide +kernel, rfl, by decide +kernel, by decide +kernel⟩
abbrev s__need_both : Stmt := topS 22
abbrev N__need_both : List Str := ["bound", "row"]
abbrev P__need_both : List Str := ["bound", "row"]
theorem sc__need_both : FnScope N__need_both P__need_both (defScope s__need_both) := ⟨rfl, rfl, rfl, by decide +kernel, rfl, by decide +kernel, by decide +kernel⟩
abbrev s__falls : Stmt := topS 23
abbrev N__falls : List Str := ["word", "kind", "letter"]
abbrev P__falls : List Str := ["word", "kind"]
theorem sc__falls : FnScope N__falls P__falls (defScope s__falls) := ⟨rfl, rfl, rfl, by decide +kernel, rfl, by decide +kernel, by decide +kernel⟩
abbrev s__need_kind : Stmt := topS 24
abbrev N__need_kind : List Str := ["bound", "row", "kind"]
abbrev P__need_kind : List Str := ["bound", "row", "kind"]
theorem sc__need_kind : FnScope N__need_kind P__need_kind (defScope s__need_kind) := ⟨rfl, rfl, rfl, by decide +kernel, rfl, by decide +kernel, by decide +kernel⟩
abbrev s_chain_count : Stmt := topS 25
abbrev N_chain_count : List Str := ["bound", "row", "kind", "weight", "falls"]
abbrev P_chain_count : List Str := ["bound", "row", "kind"]
theorem sc_chain_count : FnScope N_chain_count P_chain_count (defScope s_chain_count) := ⟨rfl, rfl, rfl, by decide +kernel, rfl, by decide +kernel, by decide +kernel⟩
section
variable {P : Program} {w : World} {K : PySem.W.Frag} {mg : Str → Option Value} {base : Heap} {Ψ : PyData → Prop}
abbrev kD : PyData := .tuple [.str "low", .str "high"]
def wOneOf : SpW := fun es Φ => ∃ low : Bool, es = [.val (.str (kS low)), .val kD] ∧ Φ .none es
theorem ok_one_of (D : TD K mg "need_one_of" s_need_one_of P_need_one_of) : FnOk P w K mg base CX0 1 D.f D.fd P_need_one_of (spD K 2 wOneOf) := by
  refine fn_data D.F sc_need_one_of rfl fun cdv A outer s H E hr => ?_
  refine ⟨_, (pss_one (ps_if (pt_cmpR (opK_notin (K := K) rfl) (pv 0) (pv 1) rfl) (pss_one ps_never) pss_nil)), ?_⟩
  rintro es Φ ⟨low, rfl, k⟩ _
  walk_at "d"
  show RD _ _ _ (.tuple ([Str.ofString "low", Str.ofString "high"].map PyData.str)) _
  refine rd_notinS ?_
  have e : (!inV (V.str (kS low)) ([Str.ofString "low", Str.ofString "high"].map V.str)) = false := by
    cases low <;> decide +kernel
  rw [e]
  walk_at "d"
  exact k
def wNeedBoth : SpW := fun es Φ => ∃ (b : Int) (r : List Int), es = [.val (.int b), .val (row r)] ∧ 1 ≤ b ∧ b ≤ 200 ∧ RowP r ∧ Φ .none es
theorem ok_need_both (T : Txt w K mg) (D : TD K mg "_need_both" s__need_both P__need_both) (G_need_between : Cal P w K mg base 2 "need_between" P_need_between (spD K 3 wNeedB)) (G_need_row : Cal P w K mg base 3 "need_row" P_need_row (spD K 1 wNeedRow)) : FnOk P w K mg base CX0 4 D.f D.fd P__need_both (spD K 2 wNeedBoth) := by
  refine fn_data D.F sc__need_both rfl fun cdv A outer s H E hr => ?_
  refine ⟨_, (pss_cons (ps_expr (pe_call G_need_between.ok (hr.mono (by decide)) rfl G_need_between.m G_need_between.kp G_need_between.b .nil pass0 (pa_cons (pv 0) (pa_cons pe_int (pa_cons (pe_glob (v := .int 200) rfl T.c_MAX_BOUND ⟨_, rfl⟩) pa_nil))))) (pss_one (ps_expr (pe_call G_need_row.ok (hr.mono (by decide)) rfl G_need_row.m G_need_row.kp G_need_row.b .nil pass0 (pa_cons (pv 1) pa_nil))))), ?_⟩
  rintro es Φ ⟨b, r, rfl, h0, h1, hr2, k⟩ _
  walk_at "d"
  refine ⟨rfl, b, 1, 200, rfl, h0, h1, ?_⟩
  walk_at "d"
  exact ⟨rfl, r, rfl, hr2, k⟩
theorem tl_cps (L : List Nat) : (wd L).cps.toList = L := tl_wd L
theorem cutS_init (L : List Nat) : cutS (wd L) none (some (-1)) = wd L.dropLast := by
  have h1 : HT.sIx (wd L).length (wd L).length (some (-1)) = L.length - 1 := by
    rw [len_wd]
    unfold HT.sIx
    cases L with
    | nil => rfl
    | cons a L =>
      simp
      omega
  unfold cutS
  rw [h1, HT.sIx_none, tl_cps, Nat.sub_zero, List.drop_zero]
  unfold wd
  rw [List.dropLast_eq_take]
theorem cutS_tail (L : List Nat) : cutS (wd L) (some 1) none = wd (L.drop 1) := by
  cases L with
  | nil => rfl
  | cons a L =>
    have h1 : HT.sIx (wd (a :: L)).length 0 (some (1 : Int)) = 1 := by
      have e : (1 : Int) = ((1 : Nat) : Int) := rfl
      rw [e, HT.sIx_nat, len_wd]
      simp
    unfold cutS
    rw [h1, HT.sIx_none, tl_cps, len_wd]
    unfold wd
    congr 1
    congr 1
    apply List.take_of_length_le
    rw [List.length_drop]
    exact Nat.le_refl _
def wFalls : SpW := fun es Φ => ∃ (L : List Nat) (low : Bool), es = [.val (.str (wd L)), .val (.str (kS low))] ∧ L.length ≤ 1000 ∧ (∀ c ∈ L, c = 120 ∨ c = 121) ∧ Φ (.list ((flL low L).map .int)) es
theorem lets_wd (L : List Nat) : lets (wd L) = L.map fun c => .str ⟨#[c]⟩ := by
  unfold lets
  rw [show (wd L).cps.toList = L from tl_wd L]
theorem eq_lo (low : Bool) : decide (kS low = Str.ofString "low") = low := by cases low <;> decide +kernel
theorem sgn_eq {c d : Nat} : decide ((⟨#[c]⟩ : Str) = ⟨#[d]⟩) = decide (c = d) := by
  by_cases h : c = d
  · subst h; simp
  · have : (⟨#[c]⟩ : Str) ≠ ⟨#[d]⟩ := fun e => h (by simpa using congrArg (fun z : Str => z.cps.toList) e)
    simp [h, this]
theorem ok_falls (T : Txt w K mg) (D : TD K mg "_falls" s__falls P__falls) : FnOk P w K mg base CX0 1 D.f D.fd P__falls (spD K 2 wFalls) := by
  refine fn_data D.F sc__falls rfl fun cdv A outer s H E hr => ?_
  have hu := hr.units
  refine ⟨_, (pss_cons (ps_if (pt_cmpR (opK_eq (K := K) rfl hu) (pv 1) pe_str (nomark _)) (pss_one (ps_ret (pe_lc (own := [("letter", 2)]) (g := gName 2) (tt := tYes) rfl sc__falls.nd (pi_str (pe_slice (slK (K := K) rfl) (pv 0) po_none (po_some (pe_un un_neg pe_int)))) (blkOk_by (own := [("letter", 2)]) (N := N__falls) (sc := defScope s__falls) (by decide +kernel)) (fun _ _ _ _ _ => pg_name (i := 2) sc__falls.nd rfl (Or.inl rfl)) (fun _ _ _ _ _ => pts_nil) (fun _ _ _ _ _ => (pe_callTy call_int1 rfl T.n_int (by decide +kernel) (pa_cons (pe_cmpR (opK_eq (K := K) rfl hu) (pv 2) pe_str (nomark _)) pa_nil)))))) pss_nil) (pss_one (ps_ret (pe_lc (own := [("letter", 2)]) (g := gName 2) (tt := tYes) rfl sc__falls.nd (pi_str (pe_slice (slK (K := K) rfl) (pv 0) (po_some pe_int) po_none)) (blkOk_by (own := [("letter", 2)]) (N := N__falls) (sc := defScope s__falls) (by decide +kernel)) (fun _ _ _ _ _ => pg_name (i := 2) sc__falls.nd rfl (Or.inl rfl)) (fun _ _ _ _ _ => pts_nil) (fun _ _ _ _ _ => (pe_callTy call_int1 rfl T.n_int (by decide +kernel) (pa_cons (pe_cmpR (opK_eq (K := K) rfl hu) (pv 2) pe_str (nomark _)) pa_nil))))))), ?_⟩
  rintro es Φ ⟨L, low, rfl, hl, hc, k⟩ _
  walk_at "e"
  refine ds_if ?_
  walk_at "e"
  refine rd_eqT ?_
  rw [eq_lo]
  walk_at "e"
  refine ⟨fun h => ?_, fun h => ?_⟩
  · subst h
    walk_at "e"
    refine dw_fresh (df_lc (di_str ?_))
    walk_at "e"
    refine ⟨_, rfl, rs_str (by rw [len_wd]; omega) ?_⟩
    rw [cutS_init]
    refine ⟨_, rfl, by decide, by rw [lets_wd, List.length_map, List.length_dropLast]; omega, rfl, fun i out ρ' => out = ((L.dropLast.take i).map (fall1 true)).map PyData.int ∧ ρ' = [some (.val (.str (wd L))), some (.val (.str (kS true))), none], ⟨rfl, rfl⟩, ?_, ?_⟩
    · rintro i d out ρ' hd ⟨rfl, rfl⟩ _
      rw [lets_wd, List.getElem?_map] at hd
      obtain ⟨c, hx, rfl⟩ : ∃ c, L.dropLast[i]? = some c ∧ d = .str ⟨#[c]⟩ := by
        cases hx : L.dropLast[i]? with
        | none => rw [hx] at hd; exact nomatch hd
        | some e => rw [hx] at hd; cases hd; exact ⟨e, rfl, rfl⟩
      walk_at "e"
      refine rd_eqT ?_
      rw [show Str.ofString "y" = ⟨#[121]⟩ from yS, sgn_eq]
      walk_at "e"
      refine ⟨?_, rfl⟩
      rw [← take_snoc hx, List.map_append, List.map_append]
      show _ = _ ++ [PyData.int (fall1 true c)]
      have : (if decide (c = 121) then (1 : Int) else 0) = fall1 true c := by
        unfold fall1
        by_cases h : c = 121 <;> simp [h]
      rw [this]
    · rintro out ρ' ⟨rfl, rfl⟩
      rw [lets_wd, List.length_map, List.take_length]
      exact k
  · subst h
    walk_at "e"
    refine dw_fresh (df_lc (di_str ?_))
    walk_at "e"
    refine ⟨_, rfl, rs_str (by rw [len_wd]; omega) ?_⟩
    rw [cutS_tail]
    refine ⟨_, rfl, by decide, by rw [lets_wd, List.length_map, List.length_drop]; omega, rfl, fun i out ρ' => out = (((L.drop 1).take i).map (fall1 false)).map PyData.int ∧ ρ' = [some (.val (.str (wd L))), some (.val (.str (kS false))), none], ⟨rfl, rfl⟩, ?_, ?_⟩
    · rintro i d out ρ' hd ⟨rfl, rfl⟩ _
      rw [lets_wd, List.getElem?_map] at hd
      obtain ⟨c, hx, rfl⟩ : ∃ c, (L.drop 1)[i]? = some c ∧ d = .str ⟨#[c]⟩ := by
        cases hx : (L.drop 1)[i]? with
        | none => rw [hx] at hd; exact nomatch hd
        | some e => rw [hx] at hd; cases hd; exact ⟨e, rfl, rfl⟩
      walk_at "e"
      refine rd_eqT ?_
      rw [show Str.ofString "x" = ⟨#[120]⟩ from xS, sgn_eq]
      walk_at "e"
      refine ⟨?_, rfl⟩
      rw [← take_snoc hx, List.map_append, List.map_append]
      show _ = _ ++ [PyData.int (fall1 false c)]
      have : (if decide (c = 120) then (1 : Int) else 0) = fall1 false c := by
        unfold fall1
        by_cases h : c = 120 <;> simp [h]
      rw [this]
    · rintro out ρ' ⟨rfl, rfl⟩
      rw [lets_wd, List.length_map, List.take_length]
      exact k
def wNeedKind : SpW := fun es Φ => ∃ (b : Int) (r : List Int) (low : Bool), es = [.val (.int b), .val (row r), .val (.str (kS low))] ∧ 1 ≤ b ∧ b ≤ 200 ∧ RowP r ∧ Φ .none es
theorem ok_need_kind (T : Txt w K mg) (D : TD K mg "_need_kind" s__need_kind P__need_kind) (G__need_both : Cal P w K mg base 4 "_need_both" P__need_both (spD K 2 wNeedBoth)) (G_need_one_of : Cal P w K mg base 1 "need_one_of" P_need_one_of (spD K 2 wOneOf)) : FnOk P w K mg base CX0 5 D.f D.fd P__need_kind (spD K 3 wNeedKind) := by
  refine fn_data D.F sc__need_kind rfl fun cdv A outer s H E hr => ?_
  refine ⟨_, (pss_cons (ps_expr (pe_call G__need_both.ok (hr.mono (by decide)) rfl G__need_both.m G__need_both.kp G__need_both.b .nil pass0 (pa_cons (pv 0) (pa_cons (pv 1) pa_nil)))) (pss_one (ps_expr (pe_call G_need_one_of.ok (hr.mono (by decide)) rfl G_need_one_of.m G_need_one_of.kp G_need_one_of.b .nil pass0 (pa_cons (pv 2) (pa_cons (pe_glob (v := .ref T.a_KINDS) rfl T.c_KINDS rfl) pa_nil)))))), ?_⟩
  rintro es Φ ⟨b, r, low, rfl, h0, h1, hr2, k⟩ _
  walk_at "d"
  refine ⟨rfl, b, r, rfl, h0, h1, hr2, ?_⟩
  walk_at "d"
  refine dw_glT (vs := []) T.s_KINDS ?_
  walk_at "d"
  exact ⟨rfl, low, rfl, k⟩
def wCount : SpW := fun es Φ => ∃ (b : Int) (r : List Int) (low : Bool), es = [.val (.int b), .val (row r), .val (.str (kS low))] ∧ 1 ≤ b ∧ b ≤ 200 ∧ RowP r ∧ Φ (.int (cntC b r low)) es
theorem ok_chain_count (T : Txt w K mg) {kw dv : Str} (D : TDK K mg "chain_count" s_chain_count P_chain_count 2 kw dv) (G__need_kind : Cal P w K mg base 5 "_need_kind" P__need_kind (spD K 3 wNeedKind)) (G__falls : Cal P w K mg base 1 "_falls" P__falls (spD K 2 wFalls)) (G_word_of : Cal P w K mg base 4 "word_of" P_word_of (spD K 1 wWordOf)) : FnOk P w K mg base CX0 6 D.f D.fd P_chain_count (spD K 3 wCount) := by
  refine fn_data D.F sc_chain_count rfl fun cdv A outer s H E hr => ?_
  have hu := hr.units
  refine ⟨_, (pss_cons (ps_expr (pe_call G__need_kind.ok (hr.mono (by decide)) rfl G__need_kind.m G__need_kind.kp G__need_kind.b .nil pass0 (pa_cons (pv 0) (pa_cons (pv 1) (pa_cons (pv 2) pa_nil))))) (pss_cons (ps_set (i := 3) sc_chain_count.nd rfl (Or.inl rfl) (pe_callB (cr_sumB (K := K) rfl rfl) rfl T.n_sum (by decide +kernel) (pa_cons (pv 1) pa_nil))) (pss_cons (ps_if (pt_cmpR (opK_eq (K := K) rfl hu) (pv 3) pe_int (nomark _)) (pss_one (ps_ret pe_int)) pss_nil) (pss_cons (ps_set (i := 4) sc_chain_count.nd rfl (Or.inl rfl) (pe_callB (cr_sumB (K := K) rfl rfl) rfl T.n_sum (by decide +kernel) (pa_cons (pe_call G__falls.ok (hr.mono (by decide)) rfl G__falls.m G__falls.kp G__falls.b .nil pass0 (pa_cons (pe_call G_word_of.ok (hr.mono (by decide)) rfl G_word_of.m G_word_of.kp G_word_of.b .nil pass0 (pa_cons (pv 1) pa_nil)) (pa_cons (pv 2) pa_nil))) pa_nil))) (pss_one (ps_ret (pe_callBfun cr_comb rfl T.f_comb (pa_cons (pe_op op_sub (pe_op op_sub (pe_op (opK_add (K := K) rfl) (pe_op op_sub (pv 0) pe_int) (pv 3)) pe_int) (pv 4)) (pa_cons (pv 3) pa_nil))))))))), ?_⟩
  rintro es Φ ⟨b, r, low, rfl, h0, h1, hr2, k⟩ _
  have hlen : ((wordL r).length : Int) = r.sum := len_word hr2.1
  have hsum := hr2.2
  walk_at "e"
  refine ⟨rfl, b, r, low, rfl, h0, h1, hr2, ?_⟩
  walk_at "e"
  refine rc_sumU ?_
  walk_at "e"
  refine ds_if ?_
  walk_at "e"
  refine ⟨fun h => ?_, fun h => ?_⟩
  · have h : r.sum = 0 := of_decide_eq_true h
    walk_at "e"
    rw [show cntC b r low = 1 from if_pos h] at k
    exact k
  · have h : ¬ r.sum = 0 := of_decide_eq_false h
    have hs0 := ones_len hr2.1
    walk_at "e"
    refine ⟨rfl, r, rfl, hr2, ?_⟩
    walk_at "e"
    refine ⟨rfl, wordL r, low, rfl, by omega, word_all r, ?_⟩
    walk_at "e"
    refine rc_sumL ?_
    walk_at "e"
    have hf := flL_sum low (wordL r)
    refine rc_comb ⟨by omega, by omega, by omega⟩ ?_
    rw [show cntC b r low = _ from if_neg h] at k
    exact k
end
end K35
namespace K35
open PySem L2 PySem.Spec PyProof.Rows DL
local macro_rules | `(tactic| walk_at "d0") => `(tactic| first
  | (with_reducible refine ds_seq ?_) | (with_reducible refine ds_next ?_) | (with_reducible refine ds_ret ?_) | (with_reducible refine ds_drop ?_) | (with_reducible refine ds_putO ?_) | (with_reducible refine ds_setO ?_) | (with_reducible refine ds_asg ?_)
  | ((with_reducible show DW _ _ (tOp (rIx _) (tVar _) (tC (.int _))) _ _); refine dw_ixO rfl (dw_int ⟨_, _, _, rfl, rfl, rfl, ?_⟩))
  | ((with_reducible show DW _ _ (tOp (rIx _) (tVar _) _) _ _); refine dw_ixO rfl ?_)
  | (with_reducible refine dw_lst ?_) | (with_reducible refine df_lst ?_)
  | ((with_reducible show DW _ _ (tOp rCat (tVar _) _) _ _); refine dw_fresh (df_catO rfl ?_)) | ((with_reducible show DF _ _ (tOp rCat (tVar _) _) _ _); refine df_catO rfl ?_)
  | (with_reducible refine dw_fresh (df_catFF ?_)) | (with_reducible refine df_catFF ?_) | (with_reducible refine df_repF ?_)
  | (with_reducible refine dw_isi ?_) | (with_reducible refine dw_op ?_) | (with_reducible refine dw_un ?_) | (with_reducible refine dw_int ?_) | (with_reducible refine dw_bl ?_) | (with_reducible refine dw_str ?_) | (with_reducible refine dw_non ?_)
  | ((with_reducible show DW _ _ (tVar _) _ _); refine dw_var rfl ?_)
  | (with_reducible refine dw_andV ?_) | (with_reducible refine dw_orV ?_) | (with_reducible refine dw_notV ?_) | (with_reducible refine dw_tup ?_) | (with_reducible refine dw_chain ?_)
  | (with_reducible refine da_nil ?_) | (with_reducible refine da_cons ?_)
  | (with_reducible refine dt_test ?_) | (with_reducible refine dt_B ?_) | (with_reducible refine dt_and ?_) | (with_reducible refine dt_or ?_) | (with_reducible refine dt_not ?_) | (with_reducible refine dt_yes ?_)
  | ((with_reducible show DW _ _ (tCall _ _ _ (tCons (tVar _) _)) _ _); refine dw_callO rfl ?_)
  | (with_reducible refine dw_call ?_) | (with_reducible refine dw_fresh (df_call ?_)) | (with_reducible refine dw_cb ?_)
  | (with_reducible refine rd_addBI ?_) | (with_reducible refine rc_tupL ?_) | (with_reducible refine rc_lstT ?_) | (with_reducible refine rc_reprB ?_) | (with_reducible refine rd_isB ?_) | (with_reducible refine rs_tup ?_) | (with_reducible refine rs_lst ?_) | (with_reducible refine dw_slH ?_) | (with_reducible refine dw_slL ?_) | (with_reducible refine dw_dnew ?_) | (with_reducible refine dw_m1 ?_) | (with_reducible refine rd_i0 ?_) | (with_reducible refine rd_b0 ?_) | (with_reducible refine ru_i ?_) | (with_reducible refine rc_int ?_) | (with_reducible refine rc_intB ?_) | (with_reducible refine rc_abs ?_) | (with_reducible refine rc_max ?_) | (with_reducible refine rc_min ?_) | (with_reducible refine rc_gcd ?_) | (with_reducible refine rc_lenL ?_) | (with_reducible refine rc_lenT ?_)
  | ((with_reducible show RD (rIx _) _ (.tuple _) _ _); refine rd_ixT rfl ?_) | ((with_reducible show RD (rIx _) _ (.list _) _ _); refine rd_ixL rfl ?_)
  | ((with_reducible refine dg_name ?hj ?_); (case hj => first | exact .inl (by decide) | exact .inr (noLst_val rfl) | exact .inr (noLst_none rfl)))
  | ((with_reducible show ∃ b, PyData.bool _ = PyData.bool b ∧ _); refine ⟨_, rfl, ?_⟩)
  | ((with_reducible show RD (rEqA _) _ (.int _) (.int _) _); refine rd_eq rfl rfl ?_) | ((with_reducible show RD (rNeA _) _ (.int _) (.int _) _); refine rd_ne rfl rfl ?_)
  | ((with_reducible show DW _ _ (tTup _) _ _); refine dw_tup ?_) | ((with_reducible show List.length _ ≤ 100000 ∧ _); refine ⟨Nat.le_of_ble_eq_true rfl, ?_⟩)
  | (((with_reducible show (_ = true → _) ∧ (_ = false → _)); first | (refine ⟨fun _ => ?_, fun z => Bool.noConfusion (show true = false from z)⟩) | (refine ⟨fun z => Bool.noConfusion (show false = true from z), fun _ => ?_⟩)))
  | (((with_reducible show (_ = false → _) ∧ (_ = true → _)); first | (refine ⟨fun _ => ?_, fun z => Bool.noConfusion (show false = true from z)⟩) | (refine ⟨fun z => Bool.noConfusion (show true = false from z), fun _ => ?_⟩)))
  | (with_reducible refine dgs_nil ?_) | (with_reducible refine dgs_cons ?_))
local macro_rules | `(tactic| walk_at "d1") => `(tactic| first | walk_at "d0" | (with_reducible refine ds_if ?_) | (with_reducible refine dw_if ?_))
local macro_rules | `(tactic| walk_at "e") => `(tactic| ((try dsimp only [cxOf, Cx.nox, Cx.wish, ownD]); repeat (walk_at "d0")))
local macro_rules | `(tactic| walk_at "d") => `(tactic| ((try dsimp only [cxOf, Cx.nox, Cx.wish, ownD]); repeat (walk_at "d1")))

abbrev s__are_members : Stmt := topS 29
abbrev N__are_members : List Str := ["bound", "value", "number"]
abbrev P__are_members : List Str := ["bound", "value"]
theorem sc__are_members : FnScope N__are_members P__are_members (defScope s__are_members) := ⟨rfl, rfl, rfl, by decide +kernel, rfl, by decide +kernel, by decide +kernel⟩
abbrev s_is_chain : Stmt := topS 28
abbrev N_is_chain : List Str := ["bound", "row", "value", "kind", "falls", "at", "fall"]
abbrev P_is_chain : List Str := ["bound", "row", "value", "kind"]
theorem sc_is_chain : FnScope N_is_chain P_is_chain (defScope s_is_chain) := ⟨rfl, rfl, rfl, by decide +kernel, rfl, by decide +kernel, by decide +kernel⟩
abbrev s_chain_share : Stmt := topS 30
abbrev N_chain_share : List Str := ["bound", "row", "chain", "bottom", "letter", "number"]
abbrev P_chain_share : List Str := ["bound", "row", "chain"]
theorem sc_chain_share : FnScope N_chain_share P_chain_share (defScope s_chain_share) := ⟨rfl, rfl, rfl, by decide +kernel, rfl, by decide +kernel, by decide +kernel⟩
/-! chains judged: the mathematics -/
def memD (b : Int) (d : PyData) : Bool := isIntD d && (decide (1 ≤ toI d) && decide (toI d < b))
def memsD (b : Int) : PyData → Bool
  | .tuple ds => ds.all (memD b)
  | _ => false
def gapOk (low : Bool) (w : List Nat) (vs : List Int) (k : Nat) : Bool := decide ((flL low w).getD k 0 ≤ vs.getD k 0 - vs.getD (k + 1) 0)
def stepsOk (low : Bool) (w : List Nat) (vs : List Int) : Bool := (List.range (w.length - 1)).all (gapOk low w vs)
def isChD (low : Bool) (b : Int) (r : List Int) : PyData → Bool
  | .tuple ds => ds.all (memD b) && (decide ((ds.length : Int) = r.sum) && stepsOk low (wordL r) (ds.map toI))
  | _ => false
theorem mem_int {b : Int} {d : PyData} (h : memD b d = true) : ∃ v : Int, d = .int v ∧ 1 ≤ v ∧ v < b := by
  cases d with
  | int v =>
    have h : (true && (decide (1 ≤ v) && decide (v < b))) = true := h
    rw [Bool.true_and, Bool.and_eq_true] at h
    exact ⟨v, rfl, of_decide_eq_true h.1, of_decide_eq_true h.2⟩
  | _ => exact nomatch h
theorem mems_ints {b : Int} : ∀ {ds : List PyData}, ds.all (memD b) = true → ∃ vs : List Int, ds = vs.map .int ∧ ds.map toI = vs ∧ ∀ v ∈ vs, 1 ≤ v ∧ v < b
  | [], _ => ⟨[], rfl, rfl, fun _ h => nomatch h⟩
  | d :: ds, h => by
    rw [List.all_cons, Bool.and_eq_true] at h
    obtain ⟨v, rfl, h1, h2⟩ := mem_int h.1
    obtain ⟨vs, rfl, e, hv⟩ := mems_ints h.2
    refine ⟨v :: vs, rfl, by rw [List.map_cons, e]; rfl, fun x hx => ?_⟩
    rcases List.mem_cons.mp hx with rfl | hx
    · exact ⟨h1, h2⟩
    · exact hv x hx
section
variable {P : Program} {w : World} {K : PySem.W.Frag} {mg : Str → Option Value} {base : Heap} {Ψ : PyData → Prop}
theorem eqI {a b : Int} : PyData.eqv (.int a) (.int b) = decide (a = b) := by
  show (a == b) = _
  by_cases h : a = b <;> simp [h]
def LenOk (d : PyData) : Prop := ∀ ds, d = .tuple ds → ds.length ≤ 100000
def wMembers : SpW := fun es Φ => ∃ (b : Int) (d : PyData), es = [.val (.int b), .val d] ∧ LenOk d ∧ Φ (.bool (memsD b d)) es
theorem ok_members (T : Txt w K mg) (D : TD K mg "_are_members" s__are_members P__are_members) (G_is_whole : Cal P w K mg base 1 "is_whole" P_is_whole (spD K 1 wIsWhole)) : FnOk P w K mg base CX0 2 D.f D.fd P__are_members (spD K 2 wMembers) := by
  refine fn_data D.F sc__are_members rfl fun cdv A outer s H E hr => ?_
  have hu := hr.units
  refine ⟨_, (pss_one (ps_ret (pe_and (pe_callB call_isi rfl T.n_isinstance (by decide +kernel) (pa_cons (pv 1) (pa_cons (pe_bltn (v := .ty "tuple") (u := .type "tuple") rfl T.n_tuple (by decide +kernel) rfl) pa_nil))) (pe_one (pe_callB (crK_all (K := K) rfl rfl) rfl T.n_all (by decide +kernel) (pa_cons (pe_lc (own := [("number", 2)]) (g := gName 2) (tt := tYes) rfl sc__are_members.nd (pi_tup (pv 1)) (blkOk_by (own := [("number", 2)]) (N := N__are_members) (sc := defScope s__are_members) (by decide +kernel)) (fun _ _ _ _ _ => pg_name (i := 2) sc__are_members.nd rfl (Or.inl rfl)) (fun _ _ _ _ _ => pts_nil) (fun _ _ _ _ _ => (pe_and (pe_call G_is_whole.ok (hr.mono (by decide)) rfl G_is_whole.m G_is_whole.kp G_is_whole.b .nil pass0 (pa_cons (pv 2) pa_nil)) (pe_one (pe_chain op_le op_lt pe_int (pv 2) (pv 0)))))) pa_nil)))))), ?_⟩
  rintro es Φ ⟨b, d, rfl, hl, k⟩ _
  walk_at "e"
  refine ⟨_, isT_tupA d, _, rfl, fun h1 => ?_, fun h1 => ?_⟩
  · cases d with
    | tuple ds =>
      refine dw_cb ?_
      refine da_cons ?_
      refine dw_fresh (df_lc (di_tup ?_))
      walk_at "e"
      refine ⟨ds, rfl, by decide, hl ds rfl, rfl, fun i out ρ' => out = ((ds.take i).map (memD b)).map PyData.bool ∧ ρ' = [some (.val (.int b)), some (.val (.tuple ds)), none], ⟨rfl, rfl⟩, ?_, ?_⟩
      · rintro i d out ρ' hd ⟨rfl, rfl⟩ _
        walk_at "e"
        refine ⟨rfl, d, rfl, _, rfl, fun h2 => ?_, fun h2 => ?_⟩
        · cases d with
          | int j =>
            walk_at "e"
            refine ⟨fun h3 => ?_, fun h3 => ?_⟩
            · walk_at "e"
              refine ⟨?_, rfl⟩
              rw [← take_snoc hd, List.map_append, List.map_append]
              show _ = _ ++ [PyData.bool (memD b (.int j))]
              have : memD b (.int j) = decide (j < b) := by
                show (true && (decide (1 ≤ j) && decide (j < b))) = _
                rw [h3]; rfl
              rw [this]
            · refine ⟨?_, rfl⟩
              rw [← take_snoc hd, List.map_append, List.map_append]
              show _ = _ ++ [PyData.bool (memD b (.int j))]
              have : memD b (.int j) = false := by
                show (true && (decide (1 ≤ j) && decide (j < b))) = _
                rw [h3]; rfl
              rw [this]
          | _ => exact nomatch h2
        · have e : memD b d = false := by
            unfold memD
            rw [h2, Bool.false_and]
          refine ⟨?_, rfl⟩
          rw [← take_snoc hd, List.map_append, List.map_append]
          show _ = _ ++ [PyData.bool (memD b d)]
          rw [e]
      · rintro out ρ' ⟨rfl, rfl⟩
        rw [List.take_length]
        walk_at "e"
        refine rc_all ?_
        have e1 : (ds.map (memD b)).all id = ds.all (memD b) := by rw [List.all_map]; rfl
        rw [e1]
        exact k
    | _ => exact nomatch h1
  · have e : memsD b d = false := by cases d <;> first | rfl | exact nomatch h1
    rw [e] at k
    exact k
def wIsChain : SpW := fun es Φ => ∃ (b : Int) (r : List Int) (d : PyData) (low : Bool), es = [.val (.int b), .val (row r), .val d, .val (.str (kS low))] ∧ 1 ≤ b ∧ b ≤ 200 ∧ RowP r ∧ LenOk d ∧ Φ (.bool (isChD low b r d)) es
theorem enumI_get {fs : List Int} {i : Nat} {d : PyData} (h : (enumD (fs.map PyData.int))[i]? = some d) : ∃ f, fs[i]? = some f ∧ d = .tuple [.int (i : Int), .int f] := by
  obtain ⟨x, h1, rfl⟩ := enumD_get h
  rw [List.getElem?_map] at h1
  cases hx : fs[i]? with
  | none => rw [hx] at h1; exact nomatch h1
  | some f => rw [hx] at h1; cases h1; exact ⟨f, rfl, rfl⟩
theorem ok_is_chain (T : Txt w K mg) {kw dv : Str} (D : TDK K mg "is_chain" s_is_chain P_is_chain 3 kw dv) (G__need_kind : Cal P w K mg base 5 "_need_kind" P__need_kind (spD K 3 wNeedKind)) (G__falls : Cal P w K mg base 1 "_falls" P__falls (spD K 2 wFalls)) (G_word_of : Cal P w K mg base 4 "word_of" P_word_of (spD K 1 wWordOf)) (G__are_members : Cal P w K mg base 2 "_are_members" P__are_members (spD K 2 wMembers)) : FnOk P w K mg base CX0 6 D.f D.fd P_is_chain (spD K 4 wIsChain) := by
  refine fn_data D.F sc_is_chain rfl fun cdv A outer s H E hr => ?_
  have hu := hr.units
  refine ⟨_, (pss_cons (ps_expr (pe_call G__need_kind.ok (hr.mono (by decide)) rfl G__need_kind.m G__need_kind.kp G__need_kind.b .nil pass0 (pa_cons (pv 0) (pa_cons (pv 1) (pa_cons (pv 3) pa_nil))))) (pss_cons (ps_if (PW.pt (pw_or (pt_not (pt_val (pe_call G__are_members.ok (hr.mono (by decide)) rfl G__are_members.m G__are_members.kp G__are_members.b .nil pass0 (pa_cons (pv 0) (pa_cons (pv 2) pa_nil))))) (pw_or1 (pt_cmpR (opK_ne (K := K) rfl hu) (pe_callB (crK_len (K := K) rfl) rfl T.n_len (by decide +kernel) (pa_cons (pv 2) pa_nil)) (pe_callB (cr_sumB (K := K) rfl rfl) rfl T.n_sum (by decide +kernel) (pa_cons (pv 1) pa_nil)) (nomark _))))) (pss_one (ps_ret pe_bl)) pss_nil) (pss_cons (ps_set (i := 4) sc_is_chain.nd rfl (Or.inl rfl) (pe_call G__falls.ok (hr.mono (by decide)) rfl G__falls.m G__falls.kp G__falls.b .nil pass0 (pa_cons (pe_call G_word_of.ok (hr.mono (by decide)) rfl G_word_of.m G_word_of.kp G_word_of.b .nil pass0 (pa_cons (pv 1) pa_nil)) (pa_cons (pv 3) pa_nil)))) (pss_one (ps_ret (pe_callB (crK_all (K := K) rfl rfl) rfl T.n_all (by decide +kernel) (pa_cons (pe_lc (own := [("at", 5), ("fall", 6)]) (g := gTup K 2 (gCons (gName 5) (gCons (gName 6) gNil))) (tt := tYes) rfl sc_is_chain.nd (pi_enum rfl T.n_enumerate (pa_cons (pv 4) pa_nil)) (blkOk_by (own := [("at", 5), ("fall", 6)]) (N := N_is_chain) (sc := defScope s_is_chain) (by decide +kernel)) (fun _ _ _ _ _ => pg_tup rfl (pgs_cons (pg_name (i := 5) sc_is_chain.nd rfl (Or.inl rfl)) (pgs_cons (pg_name (i := 6) sc_is_chain.nd rfl (Or.inl rfl)) pgs_nil))) (fun _ _ _ _ _ => pts_nil) (fun _ _ _ _ _ => (pe_cmpR op_ge (pe_op op_sub (pe_ix (ixK_seq (K := K) rfl) (pv 2) (pv 5) (fun _ _ => rfl)) (pe_ix (ixK_seq (K := K) rfl) (pv 2) (pe_op (opK_add (K := K) rfl) (pv 5) pe_int) (fun _ _ => rfl))) (pv 6) (nomark _)))) pa_nil))))))), ?_⟩
  rintro es Φ ⟨b, r, d, low, rfl, h0, h1, hr2, hl, k⟩ _
  have hlen : ((wordL r).length : Int) = r.sum := len_word hr2.1
  have hsum := hr2.2
  walk_at "e"
  refine ⟨rfl, b, r, low, rfl, h0, h1, hr2, ?_⟩
  walk_at "e"
  refine ds_if ?_
  walk_at "e"
  refine ⟨rfl, b, d, rfl, hl, _, rfl, fun h2 => ?_, fun h2 => ?_⟩
  case _ =>
    have hm : memsD b d = true := by simpa using h2
    cases d with
    | tuple ds =>
      obtain ⟨vs, rfl, ev, hv⟩ := mems_ints hm
      refine dt_test (dw_op ?_)
      walk_at "e"
      refine rc_sumU ?_
      walk_at "e"
      rw [List.length_map]
      have key : isChD low b r (.tuple (vs.map .int)) = (decide ((vs.length : Int) = r.sum) && stepsOk low (wordL r) vs) := by
        show ((vs.map PyData.int).all (memD b) && (decide (((vs.map PyData.int).length : Int) = r.sum) && stepsOk low (wordL r) ((vs.map PyData.int).map toI))) = _
        rw [ev, List.length_map, show (vs.map PyData.int).all (memD b) = true from hm, Bool.true_and]
      rw [key] at k
      rw [eqI]
      refine ⟨fun h => ?_, fun h => ?_⟩
      · have h : ¬ (vs.length : Int) = r.sum := by simpa using h
        walk_at "e"
        rw [decide_eq_false h, Bool.false_and] at k
        exact k
      · have h : (vs.length : Int) = r.sum := by simpa using h
        rw [decide_eq_true h, Bool.true_and] at k
        walk_at "e"
        refine ⟨rfl, r, rfl, hr2, ?_⟩
        walk_at "e"
        refine ⟨rfl, wordL r, low, rfl, by omega, word_all r, ?_⟩
        walk_at "e"
        refine dw_fresh (df_lc2 (by decide) (di_enum ?_))
        walk_at "e"
        have hfl := flL_len low (wordL r)
        refine ⟨_, rfl, by decide, by decide, by rw [enumD_len, List.length_map, hfl]; omega, rfl, rfl, fun i out ρ' => out = ((List.range i).map (gapOk low (wordL r) vs)).map PyData.bool ∧ ρ' = [some (.val (.int b)), some (.val (row r)), some (.val (.tuple (vs.map .int))), some (.val (.str (kS low))), some (.val (.list ((flL low (wordL r)).map .int))), none, none], ⟨rfl, rfl⟩, ?_, ?_⟩
        · rintro i d out ρ' hd ⟨rfl, rfl⟩ _
          obtain ⟨f, hf, rfl⟩ := enumI_get hd
          have hil := (List.getElem?_eq_some_iff.mp hf).1
          rw [hfl] at hil
          have g1 : vs[i]? = some (vs[i]'(by omega)) := List.getElem?_eq_getElem (by omega)
          have g2 : vs[i + 1]? = some (vs[i + 1]'(by omega)) := List.getElem?_eq_getElem (by omega)
          refine ⟨_, _, rfl, ?_⟩
          walk_at "e"
          refine rd_ixT (atI_nat (show (vs.map PyData.int)[i]? = some (.int (vs[i]'(by omega))) by rw [List.getElem?_map, g1]; rfl)) ?_
          walk_at "e"
          rw [show (i : Int) + 1 = ((i + 1 : Nat) : Int) by omega]
          refine rd_ixT (atI_nat (show (vs.map PyData.int)[i + 1]? = some (.int (vs[i + 1]'(by omega))) by rw [List.getElem?_map, g2]; rfl)) ?_
          walk_at "e"
          refine ⟨?_, rfl⟩
          rw [List.range_succ, List.map_append, List.map_append]
          show _ = _ ++ [PyData.bool (gapOk low (wordL r) vs i)]
          have : gapOk low (wordL r) vs i = decide (f ≤ vs[i]'(by omega) - vs[i + 1]'(by omega)) := by
            unfold gapOk
            rw [List.getD_eq_getElem?_getD, List.getD_eq_getElem?_getD, List.getD_eq_getElem?_getD, hf, g1, g2]
            rfl
          rw [this]
        · rintro out ρ' ⟨rfl, rfl⟩
          rw [enumD_len, List.length_map, hfl]
          walk_at "e"
          refine rc_all ?_
          have e1 : ((List.range ((wordL r).length - 1)).map (gapOk low (wordL r) vs)).all id = stepsOk low (wordL r) vs := by rw [List.all_map]; rfl
          rw [e1]
          exact k
    | _ => exact nomatch hm
  case _ =>
    have hm : memsD b d = false := by simpa using h2
    have e : isChD low b r d = false := by
      cases d with
      | tuple ds =>
        show (ds.all (memD b) && _) = false
        rw [show ds.all (memD b) = false from hm, Bool.false_and]
      | _ => rfl
    rw [e] at k
    walk_at "e"
    exact k
/-! shares -/
def prodK (b : Int) (L : List Nat) (vs : List Int) : Nat → Int
  | 0 => 1
  | k + 1 => prodK b L vs k * (if L.getD k 0 = 120 then vs.getD k 0 else b - vs.getD k 0)
theorem zipI_get {L : List Nat} {vs : List Int} {i : Nat} {d : PyData} (h : (zipD (ltD (wd L)) (vs.map PyData.int))[i]? = some d) : ∃ v, vs[i]? = some v ∧ i < L.length ∧ d = .tuple [.str ⟨#[L.getD i 0]⟩, .int v] := by
  obtain ⟨p, q, h1, h2, rfl⟩ := zipD_get h
  obtain ⟨h3, rfl⟩ := ltD_get h1
  rw [List.getElem?_map] at h2
  have e : (wd L).cps.size = L.length := by simp [wd]
  have e2 : (wd L).cps.getD i 0 = L.getD i 0 := by simp [wd, Array.getD_eq_getD_getElem?, List.getD_eq_getElem?_getD]
  rw [e2]
  cases hx : vs[i]? with
  | none => rw [hx] at h2; exact nomatch h2
  | some v => rw [hx] at h2; cases h2; exact ⟨v, rfl, by omega, rfl⟩
def wShare : SpW := fun es Φ => ∃ (b : Int) (r vs : List Int), es = [.val (.int b), .val (row r), .val (row vs)] ∧ 1 ≤ b ∧ b ≤ 200 ∧ RowP r ∧ (vs.length : Int) = r.sum ∧ (∀ v ∈ vs, 1 ≤ v ∧ v < b) ∧ Φ (.tuple [.int 1, .int (prodK b (wordL r) vs (wordL r).length)]) es
theorem mems_of {b : Int} {vs : List Int} (h : ∀ v ∈ vs, 1 ≤ v ∧ v < b) : memsD b (row vs) = true := by
  show (vs.map PyData.int).all (memD b) = true
  rw [List.all_map, List.all_eq_true]
  intro v hv
  obtain ⟨h1, h2⟩ := h v hv
  show (true && (decide (1 ≤ v) && decide (v < b))) = true
  rw [decide_eq_true h1, decide_eq_true h2]
  rfl
theorem ok_share (T : Txt w K mg) (D : TD K mg "chain_share" s_chain_share P_chain_share) (G__need_both : Cal P w K mg base 4 "_need_both" P__need_both (spD K 2 wNeedBoth)) (G_word_of : Cal P w K mg base 4 "word_of" P_word_of (spD K 1 wWordOf)) (G__are_members : Cal P w K mg base 2 "_are_members" P__are_members (spD K 2 wMembers)) : FnOk P w K mg base CX0 5 D.f D.fd P_chain_share (spD K 3 wShare) := by
  refine fn_data D.F sc_chain_share rfl fun cdv A outer s H E hr => ?_
  have hu := hr.units
  refine ⟨_, (pss_cons (ps_expr (pe_call G__need_both.ok (hr.mono (by decide)) rfl G__need_both.m G__need_both.kp G__need_both.b .nil pass0 (pa_cons (pv 0) (pa_cons (pv 1) pa_nil)))) (pss_cons (ps_if (PW.pt (pw_or (pt_not (pt_val (pe_call G__are_members.ok (hr.mono (by decide)) rfl G__are_members.m G__are_members.kp G__are_members.b .nil pass0 (pa_cons (pv 0) (pa_cons (pv 2) pa_nil))))) (pw_or1 (pt_cmpR (opK_ne (K := K) rfl hu) (pe_callB (crK_len (K := K) rfl) rfl T.n_len (by decide +kernel) (pa_cons (pv 2) pa_nil)) (pe_callB (cr_sumB (K := K) rfl rfl) rfl T.n_sum (by decide +kernel) (pa_cons (pv 1) pa_nil)) (nomark _))))) (pss_one ps_never) pss_nil) (pss_cons (ps_set (i := 3) sc_chain_share.nd rfl (Or.inl rfl) pe_int) (pss_cons (ps_for PassesOwn.never rfl (pi_zipS rfl T.n_zip (pa_cons (pe_call G_word_of.ok (hr.mono (by decide)) rfl G_word_of.m G_word_of.kp G_word_of.b .nil pass0 (pa_cons (pv 1) pa_nil)) (pa_cons (pv 2) pa_nil))) (pg_tup rfl (pgs_cons (pg_name (i := 4) sc_chain_share.nd rfl (Or.inl rfl)) (pgs_cons (pg_name (i := 5) sc_chain_share.nd rfl (Or.inl rfl)) pgs_nil))) (pss_one (ps_set (i := 3) sc_chain_share.nd rfl (Or.inl rfl) (pe_op (opK_mul (K := K) rfl) (pv 3) (pe_ifExp (pt_cmpR (opK_eq (K := K) rfl hu) (pv 4) pe_str (nomark _)) (pv 5) (pe_op op_sub (pv 0) (pv 5))))))) (pss_one (ps_ret (pe_tup (pa_cons pe_int (pa_cons (pv 3) pa_nil))))))))), ?_⟩
  rintro es Φ ⟨b, r, vs, rfl, h0, h1, hr2, hl, hv, k⟩ _
  have hlen : ((wordL r).length : Int) = r.sum := len_word hr2.1
  have hsum := hr2.2
  walk_at "e"
  refine ⟨rfl, b, r, rfl, h0, h1, hr2, ?_⟩
  walk_at "e"
  refine ds_if ?_
  walk_at "e"
  refine ⟨rfl, b, row vs, rfl, fun ds z => ?_, ?_⟩
  · cases z
    rw [List.length_map]
    omega
  rw [mems_of hv]
  walk_at "e"
  refine rc_sumU ?_
  walk_at "e"
  rw [List.length_map, eqI]
  refine ⟨fun h => absurd h (by simp [hl]), fun _ => ?_⟩
  walk_at "e"
  refine ds_for (di_zipS ?_)
  walk_at "e"
  refine ⟨rfl, r, rfl, hr2, ?_⟩
  walk_at "e"
  refine ⟨_, _, rfl, fun i ρ' => ∃ a c, ρ' = [some (.val (.int b)), some (.val (row r)), some (.val (row vs)), some (.val (.int (prodK b (wordL r) vs i))), a, c], ⟨_, _, rfl⟩, ?_, ?_⟩
  · rintro i d ρ' hd ⟨a, c, rfl⟩
    obtain ⟨v, hx, hi, rfl⟩ := zipI_get hd
    obtain ⟨v1, v2⟩ := hv v (List.mem_of_getElem? hx)
    refine dg_tup ⟨_, rfl, rfl, ?_⟩
    refine dgs_cons (dg_name (.inl (by decide)) (dgs_cons (dg_name (.inl (by decide)) (dgs_nil ?_))))
    walk_at "e"
    refine dw_if ?_
    walk_at "e"
    refine rd_eqT ?_
    rw [show Str.ofString "x" = ⟨#[120]⟩ from xS, sgn_eq]
    have pk : prodK b (wordL r) vs (i + 1) = prodK b (wordL r) vs i * (if (wordL r).getD i 0 = 120 then v else b - v) := by
      show _ * _ = _
      rw [List.getD_eq_getElem?_getD (l := vs), hx]
      rfl
    walk_at "e"
    refine ⟨fun h => ?_, fun h => ?_⟩
    · have h : (wordL r).getD i 0 = 120 := of_decide_eq_true h
      rw [if_pos h] at pk
      walk_at "e"
      refine rdm_S (.inr ⟨by omega, by omega⟩) ?_
      rw [← pk]
      exact dg_name (.inl (by decide)) ⟨_, _, rfl⟩
    · have h : ¬ (wordL r).getD i 0 = 120 := of_decide_eq_false h
      rw [if_neg h] at pk
      walk_at "e"
      refine rdm_S (.inr ⟨by omega, by omega⟩) ?_
      rw [← pk]
      exact dg_name (.inl (by decide)) ⟨_, _, rfl⟩
  · rintro ρ' ⟨a, c, rfl⟩
    rw [zipD_len, ltD_len, List.length_map, show (wd (wordL r)).cps.size = (wordL r).length by simp [wd]]
    rw [show min (wordL r).length vs.length = (wordL r).length by omega]
    walk_at "e"
    exact k
end
end K35
namespace K35
open PySem L2 PySem.Spec PyProof.Rows DL
local macro_rules | `(tactic| walk_at "d0") => `(tactic| first
  | (with_reducible refine ds_seq ?_) | (with_reducible refine ds_next ?_) | (with_reducible refine ds_ret ?_) | (with_reducible refine ds_drop ?_) | (with_reducible refine ds_putO ?_) | (with_reducible refine ds_setO ?_) | (with_reducible refine ds_asg ?_)
  | ((with_reducible show DW _ _ (tOp (rIx _) (tVar _) (tC (.int _))) _ _); refine dw_ixO rfl (dw_int ⟨_, _, _, rfl, rfl, rfl, ?_⟩))
  | ((with_reducible show DW _ _ (tOp (rIx _) (tVar _) _) _ _); refine dw_ixO rfl ?_)
  | (with_reducible refine dw_lst ?_) | (with_reducible refine df_lst ?_)
  | ((with_reducible show DW _ _ (tOp rCat (tVar _) _) _ _); refine dw_fresh (df_catO rfl ?_)) | ((with_reducible show DF _ _ (tOp rCat (tVar _) _) _ _); refine df_catO rfl ?_)
  | (with_reducible refine dw_fresh (df_catFF ?_)) | (with_reducible refine df_catFF ?_) | (with_reducible refine df_repF ?_)
  | (with_reducible refine dw_isi ?_) | (with_reducible refine dw_op ?_) | (with_reducible refine dw_un ?_) | (with_reducible refine dw_int ?_) | (with_reducible refine dw_bl ?_) | (with_reducible refine dw_str ?_) | (with_reducible refine dw_non ?_)
  | ((with_reducible show DW _ _ (tVar _) _ _); refine dw_var rfl ?_)
  | (with_reducible refine dw_andV ?_) | (with_reducible refine dw_orV ?_) | (with_reducible refine dw_notV ?_) | (with_reducible refine dw_tup ?_) | (with_reducible refine dw_chain ?_)
  | (with_reducible refine da_nil ?_) | (with_reducible refine da_cons ?_)
  | (with_reducible refine dt_test ?_) | (with_reducible refine dt_B ?_) | (with_reducible refine dt_and ?_) | (with_reducible refine dt_or ?_) | (with_reducible refine dt_not ?_) | (with_reducible refine dt_yes ?_)
  | ((with_reducible show DW _ _ (tCall _ _ _ (tCons (tVar _) _)) _ _); refine dw_callO rfl ?_)
  | (with_reducible refine dw_call ?_) | (with_reducible refine dw_fresh (df_call ?_)) | (with_reducible refine dw_cb ?_)
  | (with_reducible refine rd_addBI ?_) | (with_reducible refine rc_tupL ?_) | (with_reducible refine rc_lstT ?_) | (with_reducible refine rc_reprB ?_) | (with_reducible refine rd_isB ?_) | (with_reducible refine rs_tup ?_) | (with_reducible refine rs_lst ?_) | (with_reducible refine dw_slH ?_) | (with_reducible refine dw_slL ?_) | (with_reducible refine dw_dnew ?_) | (with_reducible refine dw_m1 ?_) | (with_reducible refine rd_i0 ?_) | (with_reducible refine rd_b0 ?_) | (with_reducible refine ru_i ?_) | (with_reducible refine rc_int ?_) | (with_reducible refine rc_intB ?_) | (with_reducible refine rc_abs ?_) | (with_reducible refine rc_max ?_) | (with_reducible refine rc_min ?_) | (with_reducible refine rc_gcd ?_) | (with_reducible refine rc_lenL ?_) | (with_reducible refine rc_lenT ?_)
  | ((with_reducible show RD (rIx _) _ (.tuple _) _ _); refine rd_ixT rfl ?_) | ((with_reducible show RD (rIx _) _ (.list _) _ _); refine rd_ixL rfl ?_)
  | ((with_reducible refine dg_name ?hj ?_); (case hj => first | exact .inl (by decide) | exact .inr (noLst_val rfl) | exact .inr (noLst_none rfl)))
  | ((with_reducible show ∃ b, PyData.bool _ = PyData.bool b ∧ _); refine ⟨_, rfl, ?_⟩)
  | ((with_reducible show RD (rEqA _) _ (.int _) (.int _) _); refine rd_eq rfl rfl ?_) | ((with_reducible show RD (rNeA _) _ (.int _) (.int _) _); refine rd_ne rfl rfl ?_)
  | ((with_reducible show DW _ _ (tTup _) _ _); refine dw_tup ?_) | ((with_reducible show List.length _ ≤ 100000 ∧ _); refine ⟨Nat.le_of_ble_eq_true rfl, ?_⟩)
  | (((with_reducible show (_ = true → _) ∧ (_ = false → _)); first | (refine ⟨fun _ => ?_, fun z => Bool.noConfusion (show true = false from z)⟩) | (refine ⟨fun z => Bool.noConfusion (show false = true from z), fun _ => ?_⟩)))
  | (((with_reducible show (_ = false → _) ∧ (_ = true → _)); first | (refine ⟨fun _ => ?_, fun z => Bool.noConfusion (show false = true from z)⟩) | (refine ⟨fun z => Bool.noConfusion (show true = false from z), fun _ => ?_⟩)))
  | (with_reducible refine dgs_nil ?_) | (with_reducible refine dgs_cons ?_))
local macro_rules | `(tactic| walk_at "d1") => `(tactic| first | walk_at "d0" | (with_reducible refine ds_if ?_) | (with_reducible refine dw_if ?_))
local macro_rules | `(tactic| walk_at "e") => `(tactic| ((try dsimp only [cxOf, Cx.nox, Cx.wish, ownD]); repeat (walk_at "d0")))
local macro_rules | `(tactic| walk_at "d") => `(tactic| ((try dsimp only [cxOf, Cx.nox, Cx.wish, ownD]); repeat (walk_at "d1")))

abbrev s__listed_chains : Stmt := topS 27
abbrev N__listed_chains : List Str := ["bound", "word", "kind", "falls", "least", "found", "fall", "number", "told"]
abbrev P__listed_chains : List Str := ["bound", "word", "kind"]
theorem sc__listed_chains : FnScope N__listed_chains P__listed_chains (defScope s__listed_chains) := ⟨rfl, rfl, rfl, by decide +kernel, rfl, by decide +kernel, by decide +kernel⟩
abbrev s_each_chain : Stmt := topS 26
abbrev N_each_chain : List Str := ["bound", "row", "kind", "found", "told"]
abbrev P_each_chain : List Str := ["bound", "row", "kind"]
theorem sc_each_chain : GScope N_each_chain P_each_chain (defScope s_each_chain) := ⟨rfl, rfl, rfl, by decide +kernel, rfl, by decide +kernel, by decide +kernel⟩
abbrev s__law_is_step : Stmt := topS 42
abbrev N__law_is_step : List Str := ["_law_before", "_law_letter", "_law_first", "_law_later", "_law_sort", "_law_is_strict"]
abbrev P__law_is_step : List Str := ["_law_before", "_law_letter", "_law_first", "_law_later", "_law_sort"]
theorem sc__law_is_step : FnScope N__law_is_step P__law_is_step (defScope s__law_is_step) := ⟨rfl, rfl, rfl, by decide +kernel, rfl, by decide +kernel, by decide +kernel⟩
abbrev s__law_chains : Stmt := topS 43
abbrev N__law_chains : List Str := ["_law_bound", "_law_row", "_law_sort", "_law_word_here", "_law_found", "_law_at", "_law_letter", "_law_longer", "_law_chain", "_law_every", "_law_some", "_law_one"]
abbrev P__law_chains : List Str := ["_law_bound", "_law_row", "_law_sort"]
theorem sc__law_chains : FnScope N__law_chains P__law_chains (defScope s__law_chains) := ⟨rfl, rfl, rfl, by decide +kernel, rfl, by decide +kernel, by decide +kernel⟩
section
variable {P : Program} {w : World} {K : PySem.W.Frag} {mg : Str → Option Value} {base : Heap} {Ψ : PyData → Prop}
theorem paK_star {X : Cx} {K : PySem.W.Frag} {e : PySem.Expr} {es : List PySem.Expr} {te : TE} {t : TA} {p : Pos} (h : X.K = K) (he : PE X e te) (hr : PA X es t) (hs : starEach (.Starred e p :: es) X.env = (true, eval e X.env) :: starEach es X.env := by rfl) : PA X (.Starred e p :: es) (StX.tStar K te t) := by subst h; exact StX.pa_star he hr hs
theorem dw_lstO {n i : Nat} {ρ : Rho} {Φ : PD} {ds : List PyData} (h0 : ρ[i]? = some (some (.lst (.l ds)))) (k : Φ (.list ds) ρ) : DW K n (tCB (rLstOf K) (tCons (tVar i) tNil)) ρ Φ := fun O σ H E Q q => by
  obtain ⟨p, vs, a, b, c, d⟩ := env_lst E h0
  refine ⟨.ref p, a, p, vs, rfl, .inl (SqL.of c), fun l hl => ?_⟩
  exact q _ _ ρ O _ k (Stp.grow E (Ext.new hl)) (dp_newL E.al hl d)
theorem chk_parts {low : Bool} {b : Int} {r : List Int} (h : chkS low b r = true) :
    Asc (lawCh b (wordL r) low) ∧ progCh b (wordL r) low = lawCh b (wordL r) low ∧ cntC b r low = (lawCh b (wordL r) low).length ∧ (∀ k, k < (wordL r).length → (progK b (flL low (wordL r)) k).length ≤ 3000 ∧ (lawK b (wordL r) low k).length ≤ 3000) ∧ (lawCh b (wordL r) low).length ≤ 500 := by
  unfold chkS at h
  simp only [Bool.and_eq_true] at h
  obtain ⟨⟨⟨⟨a1, a2⟩, a3⟩, a4⟩, a5⟩ := h
  refine ⟨ascB_ok a1, eq_of_beq a2, eq_of_beq a3, fun k hk => ?_, of_decide_eq_true a5⟩
  have := List.all_eq_true.mp a4 k (List.mem_range.mpr hk)
  rw [Bool.and_eq_true] at this
  exact ⟨of_decide_eq_true this.1, of_decide_eq_true this.2⟩
theorem flat_parts {α β : Type} (f : α → List β) (l : List α) (k : Nat) (c : α) (h : l[k]? = some c) : l.flatMap f = (l.take k).flatMap f ++ (f c ++ (l.drop (k + 1)).flatMap f) := by
  have hk := (List.getElem?_eq_some_iff.mp h).1
  have e : l = l.take k ++ c :: l.drop (k + 1) := by
    conv => lhs; rw [← List.take_append_drop k l, List.drop_eq_getElem_cons hk]
    rw [(List.getElem?_eq_some_iff.mp h).2]
  conv => lhs; rw [e]
  rw [List.flatMap_append, List.flatMap_cons]
theorem flat_next {α β : Type} (f : α → List β) (l : List α) (k : Nat) (c : α) (h : l[k]? = some c) : (l.take (k + 1)).flatMap f = (l.take k).flatMap f ++ f c := by
  rw [← take_snoc h, List.flatMap_append, List.flatMap_cons, List.flatMap_nil, List.append_nil]
theorem progK_ne {b : Int} {fs : List Int} : ∀ k, ∀ c ∈ progK b fs k, c ≠ []
  | 0, c, h => by
    obtain ⟨o, _, rfl⟩ := List.mem_map.mp h
    simp
  | k + 1, c, h => by
    obtain ⟨d, _, h2⟩ := List.mem_flatMap.mp h
    obtain ⟨o, _, rfl⟩ := List.mem_map.mp h2
    simp
theorem atI_lastD (c : List Int) (h : c ≠ []) : atI (c.map PyData.int) (-1) = some (.int (c.getLastD 0)) := by
  have hp : 0 < c.length := List.length_pos_iff.mpr h
  unfold atI ixN
  rw [if_neg (by decide), if_pos (by rw [List.length_map]; omega), List.length_map]
  show (c.map PyData.int)[(-1 + (c.length : Int)).toNat]? = _
  rw [List.getElem?_map, show (-1 + (c.length : Int)).toNat = c.length - 1 by omega, ← List.getLast?_eq_getElem?, List.getLast?_eq_some_getLast h, List.getLastD_eq_getLast?, List.getLast?_eq_some_getLast h]
  rfl
theorem rg_get {a b : Int} {i : Nat} (h : i < (b - a).toNat) : (rg a b)[i]? = some (a + (i : Nat)) := by
  unfold rg
  rw [List.getElem?_map, List.getElem?_range h]
  rfl
theorem rg_len (a b : Int) : (rg a b).length = (b - a).toNat := by unfold rg; simp
def wListed : SfW := fun es Φ => ∃ (b : Int) (r : List Int) (low : Bool), es = [.val (.int b), .val (.str (wd (wordL r))), .val (.str (kS low))] ∧ 1 ≤ b ∧ b ≤ 6 ∧ Ones r ∧ r.sum ≤ 5 ∧ Φ (.l ((progCh b (wordL r) low).map row)) es
theorem progK_len {b : Int} {fs : List Int} : ∀ k, ∀ c ∈ progK b fs k, c.length = k + 1
  | 0, c, h => by
    obtain ⟨o, _, rfl⟩ := List.mem_map.mp h
    rfl
  | k + 1, c, h => by
    obtain ⟨d, hd, h2⟩ := List.mem_flatMap.mp h
    obtain ⟨o, _, rfl⟩ := List.mem_map.mp h2
    rw [List.length_append, progK_len k d hd]
    rfl
theorem nn_sum : ∀ l : List Int, (∀ f ∈ l, 0 ≤ f) → 0 ≤ l.sum
  | [], _ => Int.le_refl 0
  | x :: l, h => by
    have h1 := h x List.mem_cons_self
    have h2 := nn_sum l fun y hy => h y (List.mem_cons_of_mem _ hy)
    rw [List.sum_cons]
    omega
theorem drop_sum : ∀ (l : List Int) (k : Nat), (∀ f ∈ l, 0 ≤ f) → (l.drop k).sum ≤ l.sum
  | [], k, _ => by simp
  | x :: l, 0, _ => Int.le_refl _
  | x :: l, k + 1, h => by
    have h1 := h x List.mem_cons_self
    have h2 := drop_sum l k fun y hy => h y (List.mem_cons_of_mem _ hy)
    rw [List.sum_cons, List.drop_succ_cons]
    omega
theorem last_le {b : Int} {fs : List Int} (hb : b ≤ 6) (hf : ∀ f ∈ fs, 0 ≤ f) : ∀ k, ∀ c ∈ progK b fs k, c.getLastD 0 ≤ 6
  | 0, c, h => by
    obtain ⟨o, ho, rfl⟩ := List.mem_map.mp h
    unfold rg at ho
    obtain ⟨i, hi, rfl⟩ := List.mem_map.mp ho
    have := List.mem_range.mp hi
    show (1 + fs.sum) + (i : Int) ≤ 6
    omega
  | k + 1, c, h => by
    obtain ⟨d, hd, h2⟩ := List.mem_flatMap.mp h
    obtain ⟨o, ho, rfl⟩ := List.mem_map.mp h2
    unfold rg at ho
    obtain ⟨i, hi, rfl⟩ := List.mem_map.mp ho
    have h3 := List.mem_range.mp hi
    have ih := last_le hb hf k d hd
    have h4 : 0 ≤ fs.getD k 0 := by
      rw [List.getD_eq_getElem?_getD]
      cases hx : fs[k]? with
      | none => exact Int.le_refl 0
      | some f => exact hf f (List.mem_of_getElem? hx)
    rw [List.getLastD_eq_getLast?, List.getLast?_concat]
    show leastK fs (k + 1) + (i : Int) ≤ 6
    omega
theorem fl_nn (low : Bool) (L : List Nat) : ∀ f ∈ flL low L, 0 ≤ f := by
  intro f hf
  obtain ⟨c, _, rfl⟩ := List.mem_map.mp hf
  exact (fall1_le low c).1
theorem drop_nn {fs : List Int} (hf : ∀ f ∈ fs, 0 ≤ f) (k : Nat) : 1 ≤ leastK fs k ∧ leastK fs k ≤ 1 + fs.sum := by
  unfold leastK
  have := nn_sum (fs.drop k) fun f hf2 => hf f (List.mem_of_mem_drop hf2)
  have := drop_sum fs k hf
  omega
theorem last_ge {b : Int} {fs : List Int} (hf : ∀ f ∈ fs, 0 ≤ f) : ∀ k, ∀ c ∈ progK b fs k, 1 ≤ c.getLastD 0
  | 0, c, h => by
    obtain ⟨o, ho, rfl⟩ := List.mem_map.mp h
    unfold rg at ho
    obtain ⟨i, hi, rfl⟩ := List.mem_map.mp ho
    have := nn_sum fs hf
    show 1 ≤ (1 + fs.sum) + (i : Int)
    omega
  | k + 1, c, h => by
    obtain ⟨d, hd, h2⟩ := List.mem_flatMap.mp h
    obtain ⟨o, ho, rfl⟩ := List.mem_map.mp h2
    unfold rg at ho
    obtain ⟨i, hi, rfl⟩ := List.mem_map.mp ho
    have := drop_nn hf (k + 1)
    rw [List.getLastD_eq_getLast?, List.getLast?_concat]
    show 1 ≤ leastK fs (k + 1) + (i : Int)
    omega
theorem least_step {fs : List Int} {k : Nat} {f : Int} (h : fs[k]? = some f) : leastK fs k - f = leastK fs (k + 1) := by
  unfold leastK
  have hk := (List.getElem?_eq_some_iff.mp h).1
  rw [List.drop_eq_getElem_cons hk, (List.getElem?_eq_some_iff.mp h).2, List.sum_cons]
  omega
theorem ok_listed (T : Txt w K mg) (D : TD K mg "_listed_chains" s__listed_chains P__listed_chains) (G__falls : Cal P w K mg base 1 "_falls" P__falls (spD K 2 wFalls)) : FnOk P w K mg base CX0 2 D.f D.fd P__listed_chains (spF K 3 wListed) := by
  refine fn_dataF D.F sc__listed_chains rfl fun cdv A outer s H E hr => ?_
  have hu := hr.units
  refine ⟨_, (pss_cons (ps_if (pt_cmpR (opK_eq (K := K) rfl hu) (pv 1) pe_str (nomark _)) (pss_one (ps_ret (pe_lst (pa_cons (pe_tup pa_nil) pa_nil)))) pss_nil) (pss_cons (ps_set (i := 3) sc__listed_chains.nd rfl (Or.inl rfl) (pe_call G__falls.ok (hr.mono (by decide)) rfl G__falls.m G__falls.kp G__falls.b .nil pass0 (pa_cons (pv 1) (pa_cons (pv 2) pa_nil)))) (pss_cons (ps_set (i := 4) sc__listed_chains.nd rfl (Or.inr rfl) (pe_op (opK_add (K := K) rfl) pe_int (pe_callB (cr_sumB (K := K) rfl rfl) rfl T.n_sum (by decide +kernel) (pa_cons (pv 3) pa_nil)))) (pss_cons (ps_setLc (i := 5) (own := [("number", 7)]) (g := gName 7) (tt := tYes) rfl sc__listed_chains.nd rfl rfl (sw_true rfl rfl rfl (by decide +kernel)) (pi_range2 rfl T.n_range (pa_cons (pv 4) (pa_cons (pv 0) pa_nil))) (blkOk_by (own := [("number", 7)]) (N := N__listed_chains) (sc := defScope s__listed_chains) (by decide +kernel)) (fun _ _ _ _ _ => pg_name (i := 7) sc__listed_chains.nd rfl (Or.inl rfl)) (fun _ _ _ _ _ => pts_nil) (fun _ _ _ _ _ => (pe_tup (pa_cons (pv 7) pa_nil)))) (pss_cons (ps_for PassesOwn.never rfl (pi_list (pv 3)) (pg_name (i := 6) sc__listed_chains.nd rfl (Or.inr rfl)) (pss_cons (ps_set (i := 4) sc__listed_chains.nd rfl (Or.inr rfl) (pe_op op_sub (pv 4) (pv 6))) (pss_one (ps_setLc2 (i := 5) (own := [("told", 8), ("number", 7)]) (vs1 := [7]) (g := gName 8) (g1 := gName 7) (tt := tYes) (tt1 := tYes) rfl sc__listed_chains.nd rfl rfl (sw_true rfl rfl rfl (by decide +kernel)) (pi_list (pv 5)) (blkOk_by (own := [("told", 8), ("number", 7)]) (N := N__listed_chains) (sc := defScope s__listed_chains) (by decide +kernel)) (by decide) (fun _ _ _ _ _ => pg_name (i := 8) sc__listed_chains.nd rfl (Or.inl rfl)) (fun _ _ _ _ _ => pts_nil) (fun _ _ _ _ _ => (pi_range2 rfl T.n_range (pa_cons (pv 4) (pa_cons (pe_op op_sub (pe_op (opK_add (K := K) rfl) (pe_ix (ixK_seq (K := K) rfl) (pv 8) (pe_un un_neg pe_int) (fun _ _ => rfl)) pe_int) (pv 6)) pa_nil)))) (fun _ _ _ _ _ => pg_name (i := 7) sc__listed_chains.nd rfl (Or.inl rfl)) (fun _ _ _ _ _ => pts_nil) (fun _ _ _ _ _ => (pe_tup (paK_star (K := K) rfl (pv 8) (pa_cons (pv 7) pa_nil)))))))) (pss_one (ps_ret (pv 5)))))))), ?_⟩
  rintro es Φ ⟨b, r, low, rfl, h0, h1, ho, hs, kk⟩ _
  have hlen : ((wordL r).length : Int) = r.sum := len_word ho
  obtain ⟨_, _, _, c4, _⟩ := chk_parts (chk_all (low := low) h0 h1 ho hs)
  have hfn := fl_nn low (wordL r)
  have hfl := flL_len low (wordL r)
  have hfs := flL_sum low (wordL r)
  try dsimp only [cxOf, Cx.nox, Cx.wish]
  refine ds_seq (ds_if ?_)
  walk_at "e"
  refine rd_eqT ?_
  rw [eS]
  by_cases hw : wordL r = []
  · rw [show decide (wd (wordL r) = wd []) = true by rw [hw]; simp]
    refine ⟨_, rfl, fun _ => ?_, fun z => nomatch z⟩
    refine ds_retF (df_lst ?_)
    walk_at "e"
    rw [show progCh b (wordL r) low = [[]] from if_pos hw] at kk
    exact kk
  rw [show decide (wd (wordL r) = wd []) = false by
    have : wd (wordL r) ≠ wd [] := fun z => hw (wd_inj z)
    simp [this]]
  have hwl : 0 < (wordL r).length := List.length_pos_iff.mpr hw
  rw [show progCh b (wordL r) low = progK b (flL low (wordL r)) (flL low (wordL r)).length from if_neg hw] at kk
  generalize hfsd : flL low (wordL r) = fs at *
  refine ⟨_, rfl, fun z => (nomatch z), fun _ => ?_⟩
  refine ds_next ?_
  walk_at "e"
  refine ⟨rfl, wordL r, low, rfl, by omega, word_all r, ?_⟩
  rw [hfsd]
  walk_at "e"
  refine rc_sumL ?_
  refine rd_addBI ?_
  refine dg_name (.inl (by decide)) ?_
  refine ds_seq (ds_asgF (df_lc (di_rng2 ?_)))
  walk_at "e"
  refine ⟨_, _, rfl, ⟨by omega, by omega, by omega, by omega⟩, by decide, by rw [rngD_len]; omega, rfl, fun i out ρ' => out = (((rg (1 + fs.sum) b).map fun o => [o]).take i).map row ∧ ρ' = [some (.val (.int b)), some (.val (.str (wd (wordL r)))), some (.val (.str (kS low))), some (.val (.list (fs.map .int))), some (.val (.int (1 + fs.sum))), none, none, none, none], ⟨rfl, rfl⟩, ?_, ?_⟩
  · rintro i d out ρ' hd ⟨rfl, rfl⟩ _
    obtain ⟨hi, rfl⟩ := rngD_get hd
    walk_at "e"
    refine ⟨?_, rfl⟩
    have hg : ((rg (1 + fs.sum) b).map fun o => [o])[i]? = some [(1 + fs.sum) + (i : Nat)] := by rw [List.getElem?_map, rg_get hi]; rfl
    rw [← take_snoc hg, List.map_append]
    rfl
  rintro out ρ' ⟨rfl, rfl⟩
  rw [rngD_len, List.take_of_length_le (by rw [List.length_map, rg_len]; exact Nat.le_refl _)]
  refine ⟨by decide, ?_⟩
  refine ds_seq (ds_for (di_lst ?_))
  walk_at "e"
  refine ⟨_, rfl, fun k ρ' => ∃ a, ρ' = [some (.val (.int b)), some (.val (.str (wd (wordL r)))), some (.val (.str (kS low))), some (.val (.list (fs.map .int))), some (.val (.int (leastK fs k))), some (.lst (.l ((progK b fs k).map row))), a, none, none], ⟨_, rfl⟩, ?_, ?_⟩
  · rintro k d ρ' hd ⟨a, rfl⟩
    rw [List.getElem?_map] at hd
    obtain ⟨f, hf, rfl⟩ : ∃ f, fs[k]? = some f ∧ d = .int f := by
      cases hx : fs[k]? with
      | none => rw [hx] at hd; exact nomatch hd
      | some f => rw [hx] at hd; cases hd; exact ⟨f, rfl, rfl⟩
    have hk := (List.getElem?_eq_some_iff.mp hf).1
    have f0 := hfn f (List.mem_of_getElem? hf)
    refine dg_name (.inl (by decide)) ?_
    refine ds_seq (ds_asg (dw_op (dw_var rfl (dw_var rfl (rd_i0 ?_)))))
    refine dg_name (.inl (by decide)) ?_
    rw [least_step hf]
    have hnx : progK b fs (k + 1) = nextP (leastK fs (k + 1)) f (progK b fs k) := by
      show nextP _ (fs.getD k 0) _ = _
      rw [List.getD_eq_getElem?_getD, hf]
      rfl
    have hl1 := (c4 (k + 1) (by omega)).1
    have hlo := drop_nn hfn (k + 1)
    refine ds_asgF ?_
    refine df_lc2O (i := 5) (j := 8) (l := 7) (ds := (progK b fs k).map row) (by decide) (by decide) (by decide) rfl ?_
    refine ⟨by decide, by decide, rfl, rfl, fun i out => out = (((progK b fs k).take i).flatMap fun c => (rg (leastK fs (k + 1)) (c.getLastD 0 + 1 - f)).map fun o => c ++ [o]).map row, rfl, ?_, ?_⟩
    · rintro i d out hd rfl
      rw [List.getElem?_map] at hd
      obtain ⟨c, hc, rfl⟩ : ∃ c, (progK b fs k)[i]? = some c ∧ d = row c := by
        cases hx : (progK b fs k)[i]? with
        | none => rw [hx] at hd; exact nomatch hd
        | some c => rw [hx] at hd; cases hd; exact ⟨c, rfl, rfl⟩
      have hm := List.mem_of_getElem? hc
      have hne := progK_ne k c hm
      have hle := last_le h1 hfn k c hm
      refine di_rng2 ?_
      walk_at "e"
      refine rd_ixT (atI_lastD c hne) ?_
      walk_at "e"
      have hge := last_ge hfn k c hm
      have hcl := progK_len k c hm
      have f1 : f ≤ 1 := by
        have : ∀ f ∈ fs, f ≤ 1 := by
          rw [← hfsd]
          intro f hf
          obtain ⟨c, _, rfl⟩ := List.mem_map.mp hf
          exact (fall1_le low c).2
        exact this f (List.mem_of_getElem? hf)
      refine ⟨leastK fs (k + 1), c.getLastD 0 + 1 - f, rfl, ⟨by omega, by omega, by omega, by omega⟩, rfl, ?_⟩
      refine ⟨fun m out2 => out2 = ((((progK b fs k).take i).flatMap fun c => (rg (leastK fs (k + 1)) (c.getLastD 0 + 1 - f)).map fun o => c ++ [o]) ++ ((rg (leastK fs (k + 1)) (c.getLastD 0 + 1 - f)).take m).map fun o => c ++ [o]).map row, by simp, ?_, ?_⟩
      · rintro m d2 out2 hd2 rfl
        obtain ⟨hmi, rfl⟩ := rngD_get hd2
        have hg := rg_get hmi
        refine ⟨?_, ?_⟩
        · have := flat_parts (fun c => (rg (leastK fs (k + 1)) (c.getLastD 0 + 1 - f)).map fun o => c ++ [o]) _ _ _ hc
          have e2 : (progK b fs (k + 1)).length = _ := congrArg List.length (hnx.trans this)
          rw [List.length_append, List.length_append] at e2
          rw [List.length_map, List.length_append, List.length_map, List.length_take]
          rw [List.length_map] at e2
          omega
        · walk_at "e"
          refine da_star ?_
          walk_at "e"
          refine ⟨_, .inr rfl, ?_⟩
          walk_at "e"
          refine ⟨?_, rfl, ?_⟩
          · simp
            omega
          · rw [← take_snoc hg]
            simp only [row, List.map_append, List.map_cons, List.map_nil, List.append_assoc]
      · rintro out2 rfl
        have eT : (rg (leastK fs (k + 1)) (c.getLastD 0 + 1 - f)).take (c.getLastD 0 + 1 - f - leastK fs (k + 1)).toNat = rg (leastK fs (k + 1)) (c.getLastD 0 + 1 - f) := List.take_of_length_le (by rw [rg_len]; exact Nat.le_refl _)
        rw [rngD_len, eT, flat_next _ _ _ _ hc]
    · rintro out rfl
      rw [List.length_map, List.take_length]
      refine ⟨by decide, some (.val (.int f)), ?_⟩
      rw [hnx]
      rfl
  · rintro ρ' ⟨a, rfl⟩
    rw [List.length_map]
    refine ds_retO (i := 5) (ds := .l _) rfl (by decide) ?_
    exact kk
def wEach : SgW := fun es Φ => ∃ (b : Int) (r : List Int) (low : Bool), es = [.val (.int b), .val (row r), .val (.str (kS low))] ∧ 1 ≤ b ∧ b ≤ 6 ∧ RowP r ∧ r.sum ≤ 5 ∧ Φ ((progCh b (wordL r) low).map row)
theorem ok_each (T : Txt w K mg) {kw dv : Str} (D : TDK K mg "each_chain" s_each_chain P_each_chain 2 kw dv) {kw2 dv2 : Str} (G_chain_count : CalK P w K mg base 6 "chain_count" P_chain_count 2 "kind" dv2 (spD K 3 wCount)) (G__listed_chains : Cal P w K mg base 2 "_listed_chains" P__listed_chains (spF K 3 wListed)) (G_word_of : Cal P w K mg base 4 "word_of" P_word_of (spD K 1 wWordOf)) : GFn P w K mg base 7 D.f D.fd P_each_chain (spGD K 3 wEach) := by
  refine gfn_dataF D.F sc_each_chain rfl 3 4 (by decide) (by decide) fun cdv A outer s H E pn hr => ?_
  refine ⟨_, _, (gss_cons (gs_ps (ps_if (pt_cmpR op_gt (pe_callN G_chain_count.ok (hr.mono (by decide)) rfl G_chain_count.m G_chain_count.kp G_chain_count.bk pass0 (pa_cons (pv 0) (pa_cons (pv 1) pa_nil)) (pk_cons (pv 2) pk_nil)) (pe_glob (v := .int 2000) rfl T.c_MAX_LISTED ⟨_, rfl⟩) (nomark _)) (pss_one ps_never) pss_nil)) (gss_cons (gs_ps (ps_set (i := 3) sc_each_chain.nd rfl (Or.inl rfl) (pe_call G__listed_chains.ok (hr.mono (by decide)) rfl G__listed_chains.m G__listed_chains.kp G__listed_chains.b .nil pass0 (pa_cons (pv 0) (pa_cons (pe_call G_word_of.ok (hr.mono (by decide)) rfl G_word_of.m G_word_of.kp G_word_of.b .nil pass0 (pa_cons (pv 1) pa_nil)) (pa_cons (pv 2) pa_nil)))))) (gss_cons (gs_for owns_gcx rfl (pi_list (pv 3)) (pg_name (i := 4) sc_each_chain.nd rfl (Or.inl rfl)) (gss_cons (gs_yield (pv 4)) gss_nil)) gss_nil))), ?_⟩
  rintro es Φ ⟨b, r, low, rfl, h0, h1, hr2, hs, k⟩ _
  obtain ⟨_, c2, c3, _, c5⟩ := chk_parts (chk_all (low := low) h0 h1 hr2.1 hs)
  refine ds_if ?_
  refine dt_test (dw_op ?_)
  refine dw_callN ?_
  walk_at "e"
  refine ⟨rfl, rfl, rfl, b, r, low, rfl, h0, by omega, hr2, ?_⟩
  walk_at "e"
  rw [c3]
  refine ⟨fun h => absurd (of_decide_eq_true h) (by omega), fun _ => ?_⟩
  refine ds_next ?_
  refine ds_asgF (df_call ?_)
  walk_at "e"
  refine ⟨rfl, r, rfl, hr2, ?_⟩
  walk_at "e"
  refine ⟨rfl, b, r, low, rfl, h0, h1, hr2.1, hs, by decide, _, rfl, ?_, (by show (4 : Nat) < 5; decide), k⟩
  rw [List.length_map, c2]
  omega
/-! the law's own chains -/
def wIsStep : SpW := fun es Φ => ∃ (c1 c2 : Nat) (f l : Int) (low : Bool), es = [.val (.str ⟨#[c1]⟩), .val (.str ⟨#[c2]⟩), .val (.int f), .val (.int l), .val (.str (kS low))] ∧ Φ (.bool (stepB low c1 c2 f l)) es
theorem ok_is_step (T : Txt w K mg) (D : TD K mg "_law_is_step" s__law_is_step P__law_is_step) : FnOk P w K mg base CX0 1 D.f D.fd P__law_is_step (spD K 5 wIsStep) := by
  refine fn_data D.F sc__law_is_step rfl fun cdv A outer s H E hr => ?_
  have hu := hr.units
  refine ⟨_, (pss_cons (ps_set (i := 5) sc__law_is_step.nd rfl (Or.inl rfl) (pe_ifExp (pt_cmpR (opK_eq (K := K) rfl hu) (pv 4) pe_str (nomark _)) (pe_cmpR (opK_eq (K := K) rfl hu) (pv 0) pe_str (nomark _)) (pe_cmpR (opK_eq (K := K) rfl hu) (pv 1) pe_str (nomark _)))) (pss_one (ps_ret (pe_or (pe_cmpR op_lt (pv 3) (pv 2) (nomark _)) (pe_one (pe_and (pe_cmpR (opK_eq (K := K) rfl hu) (pv 3) (pv 2) (nomark _)) (pe_one (pe_not (pv 5))))))))), ?_⟩
  rintro es Φ ⟨c1, c2, f, l, low, rfl, k⟩ _
  refine ds_seq (ds_asg (dw_mid (fun d => d = .bool (if low then c1 == 121 else c2 == 120)) ?_ ?_))
  · refine dw_if ?_
    walk_at "e"
    refine rd_eqT ?_
    rw [eq_lo]
    walk_at "e"
    refine ⟨fun h => ?_, fun h => ?_⟩
    · subst h
      walk_at "e"
      refine rd_eqT ?_
      rw [show Str.ofString "y" = ⟨#[121]⟩ from yS, sgn_eq]
      refine ⟨?_, rfl⟩
      congr 1
    · subst h
      walk_at "e"
      refine rd_eqT ?_
      rw [show Str.ofString "x" = ⟨#[120]⟩ from xS, sgn_eq]
      refine ⟨?_, rfl⟩
      congr 1
  rintro d rfl
  refine dg_name (.inl (by decide)) ?_
  walk_at "e"
  have ek : stepB low c1 c2 f l = (decide (l < f) || (decide (l = f) && !(if low then c1 == 121 else c2 == 120))) := rfl
  rw [ek] at k
  generalize (if low = true then c1 == 121 else c2 == 120) = st at k ⊢
  refine ⟨fun h => ?_, fun h => ?_⟩
  · walk_at "e"
    rw [h, Bool.false_or] at k
    rw [eqI]
    refine ⟨fun h2 => ?_, fun h2 => ?_⟩
    · walk_at "e"
      rw [h2, Bool.true_and] at k
      exact k
    · rw [h2, Bool.false_and] at k
      exact k
  · rw [h, Bool.true_or] at k
    exact k
end
end K35
namespace K35
open PySem L2 PySem.Spec PyProof.Rows DL
local macro_rules | `(tactic| walk_at "d0") => `(tactic| first
  | (with_reducible refine ds_seq ?_) | (with_reducible refine ds_next ?_) | (with_reducible refine ds_ret ?_) | (with_reducible refine ds_drop ?_) | (with_reducible refine ds_putO ?_) | (with_reducible refine ds_setO ?_) | (with_reducible refine ds_asg ?_)
  | ((with_reducible show DW _ _ (tOp (rIx _) (tVar _) (tC (.int _))) _ _); refine dw_ixO rfl (dw_int ⟨_, _, _, rfl, rfl, rfl, ?_⟩))
  | ((with_reducible show DW _ _ (tOp (rIx _) (tVar _) _) _ _); refine dw_ixO rfl ?_)
  | (with_reducible refine dw_lst ?_) | (with_reducible refine df_lst ?_)
  | ((with_reducible show DW _ _ (tOp rCat (tVar _) _) _ _); refine dw_fresh (df_catO rfl ?_)) | ((with_reducible show DF _ _ (tOp rCat (tVar _) _) _ _); refine df_catO rfl ?_)
  | (with_reducible refine dw_fresh (df_catFF ?_)) | (with_reducible refine df_catFF ?_) | (with_reducible refine df_repF ?_)
  | (with_reducible refine dw_isi ?_) | (with_reducible refine dw_op ?_) | (with_reducible refine dw_un ?_) | (with_reducible refine dw_int ?_) | (with_reducible refine dw_bl ?_) | (with_reducible refine dw_str ?_) | (with_reducible refine dw_non ?_)
  | ((with_reducible show DW _ _ (tVar _) _ _); refine dw_var rfl ?_)
  | (with_reducible refine dw_andV ?_) | (with_reducible refine dw_orV ?_) | (with_reducible refine dw_notV ?_) | (with_reducible refine dw_tup ?_) | (with_reducible refine dw_chain ?_)
  | (with_reducible refine da_nil ?_) | (with_reducible refine da_cons ?_)
  | (with_reducible refine dt_test ?_) | (with_reducible refine dt_B ?_) | (with_reducible refine dt_and ?_) | (with_reducible refine dt_or ?_) | (with_reducible refine dt_not ?_) | (with_reducible refine dt_yes ?_)
  | ((with_reducible show DW _ _ (tCall _ _ _ (tCons (tVar _) _)) _ _); refine dw_callO rfl ?_)
  | (with_reducible refine dw_call ?_) | (with_reducible refine dw_fresh (df_call ?_)) | (with_reducible refine dw_cb ?_)
  | (with_reducible refine rd_addBI ?_) | (with_reducible refine rc_tupL ?_) | (with_reducible refine rc_lstT ?_) | (with_reducible refine rc_reprB ?_) | (with_reducible refine rd_isB ?_) | (with_reducible refine rs_tup ?_) | (with_reducible refine rs_lst ?_) | (with_reducible refine dw_slH ?_) | (with_reducible refine dw_slL ?_) | (with_reducible refine dw_dnew ?_) | (with_reducible refine dw_m1 ?_) | (with_reducible refine rd_i0 ?_) | (with_reducible refine rd_b0 ?_) | (with_reducible refine ru_i ?_) | (with_reducible refine rc_int ?_) | (with_reducible refine rc_intB ?_) | (with_reducible refine rc_abs ?_) | (with_reducible refine rc_max ?_) | (with_reducible refine rc_min ?_) | (with_reducible refine rc_gcd ?_) | (with_reducible refine rc_lenL ?_) | (with_reducible refine rc_lenT ?_)
  | ((with_reducible show RD (rIx _) _ (.tuple _) _ _); refine rd_ixT rfl ?_) | ((with_reducible show RD (rIx _) _ (.list _) _ _); refine rd_ixL rfl ?_)
  | ((with_reducible refine dg_name ?hj ?_); (case hj => first | exact .inl (by decide) | exact .inr (noLst_val rfl) | exact .inr (noLst_none rfl)))
  | ((with_reducible show ∃ b, PyData.bool _ = PyData.bool b ∧ _); refine ⟨_, rfl, ?_⟩)
  | ((with_reducible show RD (rEqA _) _ (.int _) (.int _) _); refine rd_eq rfl rfl ?_) | ((with_reducible show RD (rNeA _) _ (.int _) (.int _) _); refine rd_ne rfl rfl ?_)
  | ((with_reducible show DW _ _ (tTup _) _ _); refine dw_tup ?_) | ((with_reducible show List.length _ ≤ 100000 ∧ _); refine ⟨Nat.le_of_ble_eq_true rfl, ?_⟩)
  | (((with_reducible show (_ = true → _) ∧ (_ = false → _)); first | (refine ⟨fun _ => ?_, fun z => Bool.noConfusion (show true = false from z)⟩) | (refine ⟨fun z => Bool.noConfusion (show false = true from z), fun _ => ?_⟩)))
  | (((with_reducible show (_ = false → _) ∧ (_ = true → _)); first | (refine ⟨fun _ => ?_, fun z => Bool.noConfusion (show false = true from z)⟩) | (refine ⟨fun z => Bool.noConfusion (show true = false from z), fun _ => ?_⟩)))
  | (with_reducible refine dgs_nil ?_) | (with_reducible refine dgs_cons ?_))
local macro_rules | `(tactic| walk_at "d1") => `(tactic| first | walk_at "d0" | (with_reducible refine ds_if ?_) | (with_reducible refine dw_if ?_))
local macro_rules | `(tactic| walk_at "e") => `(tactic| ((try dsimp only [cxOf, Cx.nox, Cx.wish, ownD]); repeat (walk_at "d0")))
local macro_rules | `(tactic| walk_at "d") => `(tactic| ((try dsimp only [cxOf, Cx.nox, Cx.wish, ownD]); repeat (walk_at "d1")))

abbrev s__law_gcd : Stmt := topS 35
abbrev N__law_gcd : List Str := ["_law_one", "_law_other"]
abbrev P__law_gcd : List Str := ["_law_one", "_law_other"]
theorem sc__law_gcd : FnScope N__law_gcd P__law_gcd (defScope s__law_gcd) := ⟨rfl, rfl, rfl, by decide +kernel, rfl, by decide +kernel, by decide +kernel⟩
abbrev s__law_lowest : Stmt := topS 36
abbrev N__law_lowest : List Str := ["_law_top", "_law_bottom", "_law_part"]
abbrev P__law_lowest : List Str := ["_law_top", "_law_bottom"]
theorem sc__law_lowest : FnScope N__law_lowest P__law_lowest (defScope s__law_lowest) := ⟨rfl, rfl, rfl, by decide +kernel, rfl, by decide +kernel, by decide +kernel⟩
abbrev s__law_times : Stmt := topS 37
abbrev N__law_times : List Str := ["_law_one", "_law_other"]
abbrev P__law_times : List Str := ["_law_one", "_law_other"]
theorem sc__law_times : FnScope N__law_times P__law_times (defScope s__law_times) := ⟨rfl, rfl, rfl, by decide +kernel, rfl, by decide +kernel, by decide +kernel⟩
abbrev s__law_choose : Stmt := topS 38
abbrev N__law_choose : List Str := ["_law_many", "_law_few", "_law_found", "_law_at"]
abbrev P__law_choose : List Str := ["_law_many", "_law_few"]
theorem sc__law_choose : FnScope N__law_choose P__law_choose (defScope s__law_choose) := ⟨rfl, rfl, rfl, by decide +kernel, rfl, by decide +kernel, by decide +kernel⟩
abbrev s__law_letter_share : Stmt := topS 41
abbrev N__law_letter_share : List Str := ["_law_letter", "_law_bound", "_law_member"]
abbrev P__law_letter_share : List Str := ["_law_letter", "_law_bound", "_law_member"]
theorem sc__law_letter_share : FnScope N__law_letter_share P__law_letter_share (defScope s__law_letter_share) := ⟨rfl, rfl, rfl, by decide +kernel, rfl, by decide +kernel, by decide +kernel⟩
abbrev s__law_chain_share : Stmt := topS 44
abbrev N__law_chain_share : List Str := ["_law_bound", "_law_row", "_law_chain", "_law_found", "_law_letter", "_law_member"]
abbrev P__law_chain_share : List Str := ["_law_bound", "_law_row", "_law_chain"]
theorem sc__law_chain_share : FnScope N__law_chain_share P__law_chain_share (defScope s__law_chain_share) := ⟨rfl, rfl, rfl, by decide +kernel, rfl, by decide +kernel, by decide +kernel⟩
abbrev s__law_steps_in : Stmt := topS 45
abbrev N__law_steps_in : List Str := ["_law_row", "_law_sort"]
abbrev P__law_steps_in : List Str := ["_law_row", "_law_sort"]
theorem sc__law_steps_in : FnScope N__law_steps_in P__law_steps_in (defScope s__law_steps_in) := ⟨rfl, rfl, rfl, by decide +kernel, rfl, by decide +kernel, by decide +kernel⟩
section
variable {P : Program} {w : World} {K : PySem.W.Frag} {mg : Str → Option Value} {base : Heap} {Ψ : PyData → Prop}
def wChains : SpW := fun es Φ => ∃ (b : Int) (r : List Int) (low : Bool), es = [.val (.int b), .val (row r), .val (.str (kS low))] ∧ 1 ≤ b ∧ b ≤ 6 ∧ RowP r ∧ r.sum ≤ 5 ∧ Φ (.list ((lawCh b (wordL r) low).map row)) es
theorem lawK_len {b : Int} {L : List Nat} {low : Bool} : ∀ k, ∀ c ∈ lawK b L low k, c.length = k
  | 0, c, h => by
    rcases List.mem_singleton.mp h with rfl
    rfl
  | k + 1, c, h => by
    obtain ⟨d, hd, h2⟩ := List.mem_flatMap.mp h
    obtain ⟨o, _, rfl⟩ := List.mem_map.mp h2
    rw [List.length_append, lawK_len k d hd]
    rfl
theorem enumS_get {L : List Nat} {i : Nat} {d : PyData} (h : (enumD (ltD (wd L)))[i]? = some d) : i < L.length ∧ d = .tuple [.int (i : Int), .str ⟨#[L.getD i 0]⟩] := by
  obtain ⟨x, h1, rfl⟩ := enumD_get h
  obtain ⟨h3, rfl⟩ := ltD_get h1
  have e : (wd L).cps.size = L.length := by simp [wd]
  have e2 : (wd L).cps.getD i 0 = L.getD i 0 := by simp [wd, Array.getD_eq_getD_getElem?, List.getD_eq_getElem?_getD]
  rw [e2]
  exact ⟨by omega, rfl⟩
theorem rgD_eq (a b : Int) : rgD a b = (rg a b).map .int := by
  unfold rgD rg
  rw [List.map_map]
  rfl
theorem ok_chains (T : Txt w K mg) (D : TD K mg "_law_chains" s__law_chains P__law_chains) (G__law_word : Cal P w K mg base 1 "_law_word" P__law_word (spD K 1 wWordOf)) (G__law_is_step : Cal P w K mg base 1 "_law_is_step" P__law_is_step (spD K 5 wIsStep)) : FnOk P w K mg base CX0 2 D.f D.fd P__law_chains (spD K 3 wChains) := by
  refine fn_data D.F sc__law_chains rfl fun cdv A outer s H E hr => ?_
  have hu := hr.units
  refine ⟨_, (pss_cons (ps_asg (pe_tup (pa_cons (pe_call G__law_word.ok (hr.mono (by decide)) rfl G__law_word.m G__law_word.kp G__law_word.b .nil pass0 (pa_cons (pv 1) pa_nil)) (pa_cons (pe_lst (pa_cons (pe_tup pa_nil) pa_nil)) pa_nil))) (pg_tup rfl (pgs_cons (pg_name (i := 3) sc__law_chains.nd rfl (Or.inr rfl)) (pgs_cons (pg_name (i := 4) sc__law_chains.nd rfl (Or.inl rfl)) pgs_nil)))) (pss_cons (ps_for PassesOwn.never rfl (pi_enumS rfl T.n_enumerate (pa_cons (pv 3) pa_nil)) (pg_tup rfl (pgs_cons (pg_name (i := 5) sc__law_chains.nd rfl (Or.inr rfl)) (pgs_cons (pg_name (i := 6) sc__law_chains.nd rfl (Or.inr rfl)) pgs_nil))) (pss_cons (ps_set (i := 7) sc__law_chains.nd rfl (Or.inl rfl) (pe_lst pa_nil)) (pss_cons (ps_for PassesOwn.never rfl (pi_list (pv 4)) (pg_name (i := 8) sc__law_chains.nd rfl (Or.inr rfl)) (pss_cons (ps_set (i := 9) sc__law_chains.nd rfl (Or.inl rfl) (pe_listRg rfl rfl T.n_list (prg_2 rfl T.n_range pe_int (pv 0)))) (pss_cons (ps_setLc (i := 10) (own := [("_law_one", 11)]) (g := gName 11) (tt := _) rfl sc__law_chains.nd rfl rfl (sw_true rfl rfl rfl (by decide +kernel)) (pi_list (pv 9)) (blkOk_by (own := [("_law_one", 11)]) (N := N__law_chains) (sc := defScope s__law_chains) (by decide +kernel)) (fun _ _ _ _ _ => pg_name (i := 11) sc__law_chains.nd rfl (Or.inl rfl)) (fun _ _ _ _ _ => (pts_one (PW.pt (pw_or (pt_cmpR (opK_eq (K := K) rfl hu) (pv 5) pe_int (nomark _)) (pw_or1 (pt_val (pe_call G__law_is_step.ok (hr.mono (by decide)) rfl G__law_is_step.m G__law_is_step.kp G__law_is_step.b .nil pass0 (pa_cons (pe_ix (ixK_seq (K := K) rfl) (pv 3) (pe_op op_sub (pv 5) pe_int) (fun _ _ => rfl)) (pa_cons (pv 6) (pa_cons (pe_ix (ixK_seq (K := K) rfl) (pv 8) (pe_un un_neg pe_int) (fun _ _ => rfl)) (pa_cons (pv 11) (pa_cons (pv 2) pa_nil)))))))))))) (fun _ _ _ _ _ => (pv 11))) (pss_one (ps_expr (pe_bm PySem.F.plainAttrs_list PySem.F.slot_list_extend PySem.F.type_list_extend mt_extend (pv 7) (pa_cons (pe_lc (own := [("_law_one", 11)]) (g := gName 11) (tt := tYes) rfl sc__law_chains.nd (pi_list (pv 10)) (blkOk_by (own := [("_law_one", 11)]) (N := N__law_chains) (sc := defScope s__law_chains) (by decide +kernel)) (fun _ _ _ _ _ => pg_name (i := 11) sc__law_chains.nd rfl (Or.inl rfl)) (fun _ _ _ _ _ => pts_nil) (fun _ _ _ _ _ => (pe_op (opK_add (K := K) rfl) (pv 8) (pe_tup (pa_cons (pv 11) pa_nil))))) pa_nil))))))) (pss_one (ps_set (i := 4) sc__law_chains.nd rfl (Or.inl rfl) (pe_callTy (crK_lstOf (K := K) rfl) rfl T.n_list (by decide +kernel) (pa_cons (pv 7) pa_nil))))))) (pss_one (ps_ret (pe_callB (crK_sort (K := K) rfl) rfl T.n_sorted (by decide +kernel) (pa_cons (pv 4) pa_nil)))))), ?_⟩
  rintro es Φ ⟨b, r, low, rfl, h0, h1, hr2, hs, k⟩ _
  have hlen : ((wordL r).length : Int) = r.sum := len_word hr2.1
  obtain ⟨hasc, _, _, c4, c5⟩ := chk_parts (chk_all (low := low) h0 h1 hr2.1 hs)
  generalize hL : wordL r = L at *
  refine ds_seq (ds_asg (dw_tup ?_))
  walk_at "e"
  refine ⟨rfl, r, rfl, hr2, ?_⟩
  rw [hL]
  walk_at "e"
  refine dg_tup ⟨_, rfl, rfl, ?_⟩
  refine dgs_cons (dg_name (.inl (by decide)) (dgs_cons (dg_name (.inl (by decide)) (dgs_nil ?_))))
  refine ds_seq (ds_for (di_enumS ?_))
  walk_at "e"
  refine ⟨_, rfl, fun i ρ' => ∃ a c d e f g, ρ' = [some (.val (.int b)), some (.val (row r)), some (.val (.str (kS low))), some (.val (.str (wd L))), some (.val (.list ((lawK b L low i).map row))), a, c, d, e, f, g, none], ⟨_, _, _, _, _, _, rfl⟩, ?_, ?_⟩
  · rintro i d ρ' hd ⟨a, c, d1, e, f, g, rfl⟩
    obtain ⟨hi, rfl⟩ := enumS_get hd
    refine dg_tup ⟨_, rfl, rfl, ?_⟩
    refine dgs_cons (dg_name (.inl (by decide)) (dgs_cons (dg_name (.inl (by decide)) (dgs_nil ?_))))
    refine ds_seq (ds_asgF (df_lst (da_nil ⟨by decide, by decide, ?_⟩)))
    refine ds_seq (ds_for (di_lst (dw_var rfl ⟨_, rfl, fun k ρ' => ∃ e f g, ρ' = [some (.val (.int b)), some (.val (row r)), some (.val (.str (kS low))), some (.val (.str (wd L))), some (.val (.list ((lawK b L low i).map row))), some (.val (.int i)), some (.val (.str ⟨#[L.getD i 0]⟩)), some (.lst (.l ((((lawK b L low i).take k).flatMap fun c => (candL b low L i c).map fun o => c ++ [o]).map row))), e, f, g, none], ⟨_, _, _, rfl⟩, ?_, ?_⟩)))
    · rintro j d ρ' hd ⟨e, f, g, rfl⟩
      rw [List.getElem?_map] at hd
      obtain ⟨c, hc, rfl⟩ : ∃ c, (lawK b L low i)[j]? = some c ∧ d = row c := by
        cases hx : (lawK b L low i)[j]? with
        | none => rw [hx] at hd; exact nomatch hd
        | some c => rw [hx] at hd; cases hd; exact ⟨c, rfl, rfl⟩
      have hcl := lawK_len i c (List.mem_of_getElem? hc)
      refine dg_name (.inl (by decide)) ?_
      refine ds_seq (ds_asg (dw_lstRg ?_))
      walk_at "e"
      refine ⟨1, b, rfl, rfl, RgOk.of_le (by decide) (by omega) (by decide) (by omega), ?_⟩
      rw [rgD_eq]
      refine dg_name (.inl (by decide)) ?_
      refine ds_seq (ds_asg (dw_fresh (df_lc (di_lst ?_))))
      walk_at "e"
      have hrl := rg_len 1 b
      refine ⟨_, rfl, by decide, by rw [List.length_map, hrl]; omega, rfl, fun m out ρ' => out = (((rg 1 b).take m).filter fun o => i == 0 || stepB low (L.getD (i - 1) 0) (L.getD i 0) (c.getLastD 0) o).map PyData.int ∧ ρ' = [some (.val (.int b)), some (.val (row r)), some (.val (.str (kS low))), some (.val (.str (wd L))), some (.val (.list ((lawK b L low i).map row))), some (.val (.int i)), some (.val (.str ⟨#[L.getD i 0]⟩)), some (.lst (.l ((((lawK b L low i).take j).flatMap fun c => (candL b low L i c).map fun o => c ++ [o]).map row))), some (.val (row c)), some (.val (.list ((rg 1 b).map .int))), g, none], ⟨rfl, rfl⟩, ?_, ?_⟩
      · rintro m d out ρ' hd ⟨rfl, rfl⟩ _
        rw [List.getElem?_map] at hd
        obtain ⟨o, hg, rfl⟩ : ∃ o, (rg 1 b)[m]? = some o ∧ d = .int o := by
          cases hx : (rg 1 b)[m]? with
          | none => rw [hx] at hd; exact nomatch hd
          | some o => rw [hx] at hd; cases hd; exact ⟨o, rfl, rfl⟩
        have ft : (((rg 1 b).take (m + 1)).filter fun o => i == 0 || stepB low (L.getD (i - 1) 0) (L.getD i 0) (c.getLastD 0) o).map PyData.int = (((rg 1 b).take m).filter fun o => i == 0 || stepB low (L.getD (i - 1) 0) (L.getD i 0) (c.getLastD 0) o).map PyData.int ++ (if (i == 0 || stepB low (L.getD (i - 1) 0) (L.getD i 0) (c.getLastD 0) o) = true then [PyData.int o] else []) := by
          rw [← take_snoc hg, List.filter_append, List.map_append, List.filter_cons, List.filter_nil]
          congr 1
          split <;> rfl
        refine dt_or (dt_test ?_)
        walk_at "e"
        rw [eqI]
        rcases Bool.eq_false_or_eq_true (i == 0) with hi0 | hi0
        · have h : (i : Int) = 0 := by have := eq_of_beq hi0; omega
          rw [decide_eq_true h]
          refine ⟨fun z => (nomatch z), fun _ => ?_⟩
          refine ⟨fun _ => ?_, fun z => (nomatch z)⟩
          walk_at "e"
          refine ⟨?_, rfl⟩
          rw [ft, if_pos (by rw [hi0, Bool.true_or])]
        · have hi1 : i ≠ 0 := by simpa using hi0
          have h : ¬ (i : Int) = 0 := by omega
          rw [decide_eq_false h]
          refine ⟨fun _ => ?_, fun z => (nomatch z)⟩
          have hcn : c ≠ [] := fun z => by rw [z] at hcl; simp at hcl; omega
          have g1 : (wd L).cps.toList[i - 1]? = some (L.getD (i - 1) 0) := by
            rw [tl_cps, List.getD_eq_getElem?_getD, List.getElem?_eq_getElem (by omega)]
            rfl
          walk_at "e"
          rw [show (i : Int) - 1 = ((i - 1 : Nat) : Int) by omega]
          refine rd_ixS (by rw [len_wd]; omega) (atI_nat g1) ?_
          walk_at "e"
          refine rd_ixT (atI_lastD c hcn) ?_
          walk_at "e"
          refine ⟨rfl, _, _, _, _, low, rfl, _, rfl, fun h => ?_, fun h => ?_⟩
          · walk_at "e"
            refine ⟨?_, rfl⟩
            rw [ft, if_pos (by rw [hi0, Bool.false_or]; exact h)]
          · refine ⟨?_, rfl⟩
            rw [ft, if_neg (by rw [hi0, Bool.false_or, h]; decide), List.append_nil]
      · rintro out ρ' ⟨rfl, rfl⟩
        rw [List.length_map, List.take_length]
        refine dg_name (.inl (by decide)) ?_
        have hK : (lawK b L low (i + 1)).length ≤ 3000 := by
          by_cases hlast : i + 1 < L.length
          · exact (c4 (i + 1) hlast).2
          · have : L.length = i + 1 := by omega
            have c5' := c5
            unfold lawCh at c5'
            rw [this] at c5'
            omega
        have e3 := congrArg List.length (flat_parts (fun c => (candL b low L i c).map fun o => c ++ [o]) _ _ _ hc)
        have e4 : (lawK b L low (i + 1)).length = ((lawK b L low i).flatMap fun c => (candL b low L i c).map fun o => c ++ [o]).length := rfl
        rw [List.length_append, List.length_append, List.length_map] at e3
        refine ds_ext rfl (df_lc (di_lst ?_))
        walk_at "e"
        refine ⟨(candL b low L i c).map .int, rfl, by decide, by rw [List.length_map]; omega, rfl, fun m out ρ' => out = (((candL b low L i c).take m).map fun o => c ++ [o]).map row ∧ ρ' = [some (.val (.int b)), some (.val (row r)), some (.val (.str (kS low))), some (.val (.str (wd L))), some (.val (.list ((lawK b L low i).map row))), some (.val (.int i)), some (.val (.str ⟨#[L.getD i 0]⟩)), some (.lst (.l ((((lawK b L low i).take j).flatMap fun c => (candL b low L i c).map fun o => c ++ [o]).map row))), some (.val (row c)), some (.val (.list ((rg 1 b).map .int))), some (.val (.list ((candL b low L i c).map .int))), none], ⟨rfl, rfl⟩, ?_, ?_⟩
        · rintro m d out ρ' hd ⟨rfl, rfl⟩ _
          rw [List.getElem?_map] at hd
          obtain ⟨o, hg, rfl⟩ : ∃ o, (candL b low L i c)[m]? = some o ∧ d = .int o := by
            cases hx : (candL b low L i c)[m]? with
            | none => rw [hx] at hd; exact nomatch hd
            | some o => rw [hx] at hd; cases hd; exact ⟨o, rfl, rfl⟩
          walk_at "e"
          refine rd_addBT (by rw [List.length_map]; simp; omega) ?_
          refine ⟨?_, rfl⟩
          rw [← take_snoc hg]
          simp only [row, List.map_append, List.map_cons, List.map_nil]
        · rintro out ρ' ⟨rfl, rfl⟩
          rw [List.length_map, List.take_length]
          refine ⟨_, _, rfl, rfl, ?_, ?_⟩
          · rw [List.length_map, List.length_map, List.length_map]
            omega
          · refine ⟨some (.val (row c)), some (.val (.list ((rg 1 b).map .int))), some (.val (.list ((candL b low L i c).map .int))), ?_⟩
            rw [flat_next _ _ _ _ hc, List.map_append]
            rfl
    · rintro ρ' ⟨e, f, g, rfl⟩
      rw [List.length_map, List.take_length]
      refine ds_asg (dw_lstO rfl ?_)
      exact dg_name (.inl (by decide)) ⟨_, _, _, _, _, _, rfl⟩
  · rintro ρ' ⟨a, c, d, e, f, g, rfl⟩
    rw [enumD_len, ltD_len, show (wd L).cps.size = L.length by simp [wd]]
    walk_at "e"
    show RC (rSortTI K) K [.list ((lawCh b L low).map row)] _
    refine rc_sortTI (fun h2 c hc => ?_) fun rs' ha hp => ?_
    · have := lawK_len L.length c hc
      intro z
      rw [z] at this
      have hL0 : L = [] := List.length_eq_zero_iff.mp this.symm
      rw [hL0] at h2
      exact absurd h2 (by show ¬ 2 ≤ 1; decide)
    · have e : rs' = lawCh b L low := asc_uniq ha hasc hp
      rw [e]
      exact k
end
end K35
namespace K35
open PySem L2 PySem.Spec PyProof.Rows DL
local macro_rules | `(tactic| walk_at "d0") => `(tactic| first
  | (with_reducible refine ds_seq ?_) | (with_reducible refine ds_next ?_) | (with_reducible refine ds_ret ?_) | (with_reducible refine ds_drop ?_) | (with_reducible refine ds_putO ?_) | (with_reducible refine ds_setO ?_) | (with_reducible refine ds_asg ?_)
  | ((with_reducible show DW _ _ (tOp (rIx _) (tVar _) (tC (.int _))) _ _); refine dw_ixO rfl (dw_int ⟨_, _, _, rfl, rfl, rfl, ?_⟩))
  | ((with_reducible show DW _ _ (tOp (rIx _) (tVar _) _) _ _); refine dw_ixO rfl ?_)
  | (with_reducible refine dw_lst ?_) | (with_reducible refine df_lst ?_)
  | ((with_reducible show DW _ _ (tOp rCat (tVar _) _) _ _); refine dw_fresh (df_catO rfl ?_)) | ((with_reducible show DF _ _ (tOp rCat (tVar _) _) _ _); refine df_catO rfl ?_)
  | (with_reducible refine dw_fresh (df_catFF ?_)) | (with_reducible refine df_catFF ?_) | (with_reducible refine df_repF ?_)
  | (with_reducible refine dw_isi ?_) | (with_reducible refine dw_op ?_) | (with_reducible refine dw_un ?_) | (with_reducible refine dw_int ?_) | (with_reducible refine dw_bl ?_) | (with_reducible refine dw_str ?_) | (with_reducible refine dw_non ?_)
  | ((with_reducible show DW _ _ (tVar _) _ _); refine dw_var rfl ?_)
  | (with_reducible refine dw_andV ?_) | (with_reducible refine dw_orV ?_) | (with_reducible refine dw_notV ?_) | (with_reducible refine dw_tup ?_) | (with_reducible refine dw_chain ?_)
  | (with_reducible refine da_nil ?_) | (with_reducible refine da_cons ?_)
  | (with_reducible refine dt_test ?_) | (with_reducible refine dt_B ?_) | (with_reducible refine dt_and ?_) | (with_reducible refine dt_or ?_) | (with_reducible refine dt_not ?_) | (with_reducible refine dt_yes ?_)
  | ((with_reducible show DW _ _ (tCall _ _ _ (tCons (tVar _) _)) _ _); refine dw_callO rfl ?_)
  | (with_reducible refine dw_call ?_) | (with_reducible refine dw_fresh (df_call ?_)) | (with_reducible refine dw_cb ?_)
  | (with_reducible refine rd_addBI ?_) | (with_reducible refine rc_tupL ?_) | (with_reducible refine rc_lstT ?_) | (with_reducible refine rc_reprB ?_) | (with_reducible refine rd_isB ?_) | (with_reducible refine rs_tup ?_) | (with_reducible refine rs_lst ?_) | (with_reducible refine dw_slH ?_) | (with_reducible refine dw_slL ?_) | (with_reducible refine dw_dnew ?_) | (with_reducible refine dw_m1 ?_) | (with_reducible refine rd_i0 ?_) | (with_reducible refine rd_b0 ?_) | (with_reducible refine ru_i ?_) | (with_reducible refine rc_int ?_) | (with_reducible refine rc_intB ?_) | (with_reducible refine rc_abs ?_) | (with_reducible refine rc_max ?_) | (with_reducible refine rc_min ?_) | (with_reducible refine rc_gcd ?_) | (with_reducible refine rc_lenL ?_) | (with_reducible refine rc_lenT ?_)
  | ((with_reducible show RD (rIx _) _ (.tuple _) _ _); refine rd_ixT rfl ?_) | ((with_reducible show RD (rIx _) _ (.list _) _ _); refine rd_ixL rfl ?_)
  | ((with_reducible refine dg_name ?hj ?_); (case hj => first | exact .inl (by decide) | exact .inr (noLst_val rfl) | exact .inr (noLst_none rfl)))
  | ((with_reducible show ∃ b, PyData.bool _ = PyData.bool b ∧ _); refine ⟨_, rfl, ?_⟩)
  | ((with_reducible show RD (rEqA _) _ (.int _) (.int _) _); refine rd_eq rfl rfl ?_) | ((with_reducible show RD (rNeA _) _ (.int _) (.int _) _); refine rd_ne rfl rfl ?_)
  | ((with_reducible show DW _ _ (tTup _) _ _); refine dw_tup ?_) | ((with_reducible show List.length _ ≤ 100000 ∧ _); refine ⟨Nat.le_of_ble_eq_true rfl, ?_⟩)
  | (((with_reducible show (_ = true → _) ∧ (_ = false → _)); first | (refine ⟨fun _ => ?_, fun z => Bool.noConfusion (show true = false from z)⟩) | (refine ⟨fun z => Bool.noConfusion (show false = true from z), fun _ => ?_⟩)))
  | (((with_reducible show (_ = false → _) ∧ (_ = true → _)); first | (refine ⟨fun _ => ?_, fun z => Bool.noConfusion (show false = true from z)⟩) | (refine ⟨fun z => Bool.noConfusion (show true = false from z), fun _ => ?_⟩)))
  | (with_reducible refine dgs_nil ?_) | (with_reducible refine dgs_cons ?_))
local macro_rules | `(tactic| walk_at "d1") => `(tactic| first | walk_at "d0" | (with_reducible refine ds_if ?_) | (with_reducible refine dw_if ?_))
local macro_rules | `(tactic| walk_at "e") => `(tactic| ((try dsimp only [cxOf, Cx.nox, Cx.wish, ownD]); repeat (walk_at "d0")))
local macro_rules | `(tactic| walk_at "d") => `(tactic| ((try dsimp only [cxOf, Cx.nox, Cx.wish, ownD]); repeat (walk_at "d1")))

section
variable {P : Program} {w : World} {K : PySem.W.Frag} {mg : Str → Option Value} {base : Heap} {Ψ : PyData → Prop}
/-- the law's gcd, of 1 and a number -/
def wGcd : SpW := fun es Φ => ∃ n : Int, es = [.val (.int 1), .val (.int n)] ∧ 1 ≤ n ∧ Φ (.int 1) es
theorem ok_gcd (T : Txt w K mg) (D : TD K mg "_law_gcd" s__law_gcd P__law_gcd) : FnOk P w K mg base CX0 1 D.f D.fd P__law_gcd (spD K 2 wGcd) := by
  refine fn_data D.F sc__law_gcd rfl fun cdv A outer s H E hr => ?_
  refine ⟨_, (pss_cons (ps_par rfl sc__law_gcd.nd (i := 0) (j := 1) rfl rfl (by decide) rfl rfl (pa_cons (pe_callB call_abs rfl T.n_abs (by decide +kernel) (pa_cons (pv 0) pa_nil)) (pa_cons (pe_callB call_abs rfl T.n_abs (by decide +kernel) (pa_cons (pv 1) pa_nil)) pa_nil)) rfl) (pss_cons (ps_while PassesOwn.never (pt_cmpR op_gt (pv 1) pe_int (nomark _)) (pss_one (ps_par rfl sc__law_gcd.nd (i := 0) (j := 1) rfl rfl (by decide) rfl rfl (pa_cons (pv 1) (pa_cons (pe_op op_modN (pe_callTy call_int1 rfl T.n_int (by decide +kernel) (pa_cons (pv 0) pa_nil)) (pv 1)) pa_nil)) rfl))) (pss_one (ps_ret (pv 0))))), ?_⟩
  rintro es Φ ⟨n, rfl, hn, k⟩ _
  refine ds_seq (ds_par ?_)
  walk_at "e"
  rw [if_neg (show ¬ (1 : Int) < 0 by decide), if_neg (show ¬ n < 0 by omega)]
  refine ⟨_, _, rfl, .inr (noLst_val rfl), .inr (noLst_val rfl), ?_⟩
  refine ds_seq (ds_while ⟨fun m ρ' => (m = 3 ∧ ρ' = [some (.val (.int 1)), some (.val (.int n))]) ∨ (m = 2 ∧ 1 < n ∧ ρ' = [some (.val (.int n)), some (.val (.int 1))]) ∨ (m = 0 ∧ ρ' = [some (.val (.int 1)), some (.val (.int 0))]), ⟨3, .inl ⟨rfl, rfl⟩⟩, ?_⟩)
  rintro m ρ' (⟨rfl, rfl⟩ | ⟨rfl, h1, rfl⟩ | ⟨rfl, rfl⟩)
  · walk_at "e"
    refine ⟨fun _ => ?_, fun z => absurd (of_decide_eq_false z) (by omega)⟩
    refine ds_par ?_
    walk_at "e"
    refine rd_i (show n ≠ 0 by omega) ?_
    walk_at "e"
    refine ⟨_, _, rfl, .inr (noLst_val rfl), .inr (noLst_val rfl), ?_⟩
    by_cases e1 : n = 1
    · subst e1
      exact ⟨0, by decide, .inr (.inr ⟨rfl, rfl⟩)⟩
    · refine ⟨2, by decide, .inr (.inl ⟨rfl, by omega, ?_⟩)⟩
      have : (1 : Int).fmod n = 1 := by
        rw [Int.fmod_eq_emod_of_nonneg _ (by omega)]
        exact Int.emod_eq_of_lt (by decide) (by omega)
      rw [this]
      rfl
  · walk_at "e"
    refine ds_par ?_
    walk_at "e"
    refine rd_i (show (1 : Int) ≠ 0 by decide) ?_
    walk_at "e"
    refine ⟨_, _, rfl, .inr (noLst_val rfl), .inr (noLst_val rfl), ?_⟩
    refine ⟨0, by decide, .inr (.inr ⟨rfl, ?_⟩)⟩
    have : n.fmod 1 = 0 := by
      rw [Int.fmod_eq_emod_of_nonneg _ (by decide)]
      omega
    rw [this]
    rfl
  · walk_at "e"
    exact k
def wLowest : SpW := fun es Φ => ∃ n : Int, es = [.val (.int 1), .val (.int n)] ∧ 1 ≤ n ∧ Φ (.tuple [.int 1, .int n]) es
theorem ok_lowest (T : Txt w K mg) (D : TD K mg "_law_lowest" s__law_lowest P__law_lowest) (G__law_gcd : Cal P w K mg base 1 "_law_gcd" P__law_gcd (spD K 2 wGcd)) : FnOk P w K mg base CX0 2 D.f D.fd P__law_lowest (spD K 2 wLowest) := by
  refine fn_data D.F sc__law_lowest rfl fun cdv A outer s H E hr => ?_
  refine ⟨_, (pss_cons (ps_set (i := 2) sc__law_lowest.nd rfl (Or.inl rfl) (pe_call G__law_gcd.ok (hr.mono (by decide)) rfl G__law_gcd.m G__law_gcd.kp G__law_gcd.b .nil pass0 (pa_cons (pv 0) (pa_cons (pv 1) pa_nil)))) (pss_cons (ps_set (i := 2) sc__law_lowest.nd rfl (Or.inl rfl) (pe_ifExp (pt_cmpR op_gt (pv 1) pe_int (nomark _)) (pv 2) (pe_op op_sub pe_int (pv 2)))) (pss_one (ps_ret (pe_tup (pa_cons (pe_op opA_fdiv (pv 0) (pv 2)) (pa_cons (pe_op opA_fdiv (pv 1) (pv 2)) pa_nil))))))), ?_⟩
  rintro es Φ ⟨n, rfl, hn, k⟩ _
  walk_at "e"
  refine ⟨rfl, n, rfl, hn, ?_⟩
  walk_at "e"
  refine dw_if ?_
  walk_at "e"
  refine ⟨fun _ => ?_, fun z => absurd (of_decide_eq_false z) (by omega)⟩
  walk_at "e"
  refine rd_i (show CDivA 1 1 from ⟨by decide, by decide⟩) ?_
  walk_at "e"
  refine rd_i (show CDivA n 1 from ⟨by decide, by decide⟩) ?_
  walk_at "e"
  rw [show (1 : Int).fdiv 1 = 1 by decide, show n.fdiv 1 = n from Int.fdiv_one n]
  first | exact k | exact ⟨by decide, k⟩
def wTimes : SpW := fun es Φ => ∃ a c : Int, es = [.val (.tuple [.int 1, .int a]), .val (.tuple [.int 1, .int c])] ∧ 1 ≤ a ∧ 1 ≤ c ∧ c < 1000 ∧ Φ (.tuple [.int 1, .int (a * c)]) es
theorem ok_times (T : Txt w K mg) (D : TD K mg "_law_times" s__law_times P__law_times) (G__law_lowest : Cal P w K mg base 2 "_law_lowest" P__law_lowest (spD K 2 wLowest)) : FnOk P w K mg base CX0 3 D.f D.fd P__law_times (spD K 2 wTimes) := by
  refine fn_data D.F sc__law_times rfl fun cdv A outer s H E hr => ?_
  refine ⟨_, (pss_one (ps_ret (pe_call G__law_lowest.ok (hr.mono (by decide)) rfl G__law_lowest.m G__law_lowest.kp G__law_lowest.b .nil pass0 (pa_cons (pe_op (opK_mul (K := K) rfl) (pe_ix (ixK_seq (K := K) rfl) (pv 0) pe_int (fun _ _ => rfl)) (pe_ix (ixK_seq (K := K) rfl) (pv 1) pe_int (fun _ _ => rfl))) (pa_cons (pe_op (opK_mul (K := K) rfl) (pe_ix (ixK_seq (K := K) rfl) (pv 0) pe_int (fun _ _ => rfl)) (pe_ix (ixK_seq (K := K) rfl) (pv 1) pe_int (fun _ _ => rfl))) pa_nil))))), ?_⟩
  rintro es Φ ⟨a, c, rfl, ha, hc, hc2, k⟩ _
  walk_at "e"
  refine rdm_S (.inr (by decide)) ?_
  walk_at "e"
  refine rdm_S (.inr ⟨by omega, by omega⟩) ?_
  walk_at "e"
  have : 1 ≤ a * c := Int.le_trans (show (1 : Int) ≤ 1 * 1 by decide) (Int.mul_le_mul ha hc (by decide) (by omega))
  refine ⟨rfl, a * c, rfl, this, k⟩
def wLetter : SpW := fun es Φ => ∃ (c : Nat) (b m : Int), es = [.val (.str ⟨#[c]⟩), .val (.int b), .val (.int m)] ∧ Φ (.tuple [.int 1, .int (if c = 120 then m else b - m)]) es
theorem ok_letter (T : Txt w K mg) (D : TD K mg "_law_letter_share" s__law_letter_share P__law_letter_share) : FnOk P w K mg base CX0 1 D.f D.fd P__law_letter_share (spD K 3 wLetter) := by
  refine fn_data D.F sc__law_letter_share rfl fun cdv A outer s H E hr => ?_
  have hu := hr.units
  refine ⟨_, (pss_one (ps_ret (pe_ifExp (pt_cmpR (opK_eq (K := K) rfl hu) (pv 0) pe_str (nomark _)) (pe_tup (pa_cons pe_int (pa_cons (pv 2) pa_nil))) (pe_tup (pa_cons pe_int (pa_cons (pe_op op_sub (pv 1) (pv 2)) pa_nil)))))), ?_⟩
  rintro es Φ ⟨c, b, m, rfl, k⟩ _
  refine ds_ret (dw_if ?_)
  walk_at "e"
  refine rd_eqT ?_
  rw [show Str.ofString "x" = ⟨#[120]⟩ from xS, sgn_eq]
  walk_at "e"
  refine ⟨fun h => ?_, fun h => ?_⟩
  · rw [if_pos (of_decide_eq_true h)] at k
    walk_at "e"
    exact k
  · rw [if_neg (of_decide_eq_false h)] at k
    walk_at "e"
    exact k
theorem prodK_pos {b : Int} {L : List Nat} {vs : List Int} (hv : ∀ v ∈ vs, 1 ≤ v ∧ v < b) (hl : L.length ≤ vs.length) : ∀ k, k ≤ L.length → 1 ≤ prodK b L vs k
  | 0, _ => by show (1 : Int) ≤ 1; decide
  | k + 1, hk => by
    have ih := prodK_pos hv hl k (by omega)
    have g : vs[k]? = some (vs[k]'(by omega)) := List.getElem?_eq_getElem (by omega)
    have h2 := hv _ (List.mem_of_getElem? g)
    show 1 ≤ prodK b L vs k * _
    rw [List.getD_eq_getElem?_getD (l := vs), g]
    have : (1 : Int) ≤ if L.getD k 0 = 120 then (some (vs[k]'(by omega))).getD 0 else b - (some (vs[k]'(by omega))).getD 0 := by
      split
      · exact h2.1
      · have := h2.2
        show 1 ≤ b - vs[k]'(by omega)
        omega
    exact Int.le_trans (show (1 : Int) ≤ 1 * 1 by decide) (Int.mul_le_mul ih this (by decide) (by omega))
theorem ok_law_share (T : Txt w K mg) (D : TD K mg "_law_chain_share" s__law_chain_share P__law_chain_share) (G__law_word : Cal P w K mg base 1 "_law_word" P__law_word (spD K 1 wWordOf)) (G__law_times : Cal P w K mg base 3 "_law_times" P__law_times (spD K 2 wTimes)) (G__law_letter_share : Cal P w K mg base 1 "_law_letter_share" P__law_letter_share (spD K 3 wLetter)) : FnOk P w K mg base CX0 4 D.f D.fd P__law_chain_share (spD K 3 wShare) := by
  refine fn_data D.F sc__law_chain_share rfl fun cdv A outer s H E hr => ?_
  have hu := hr.units
  refine ⟨_, (pss_cons (ps_set (i := 3) sc__law_chain_share.nd rfl (Or.inl rfl) (pe_tup (pa_cons pe_int (pa_cons pe_int pa_nil)))) (pss_cons (ps_for PassesOwn.never rfl (pi_zipS rfl T.n_zip (pa_cons (pe_call G__law_word.ok (hr.mono (by decide)) rfl G__law_word.m G__law_word.kp G__law_word.b .nil pass0 (pa_cons (pv 1) pa_nil)) (pa_cons (pv 2) pa_nil))) (pg_tup rfl (pgs_cons (pg_name (i := 4) sc__law_chain_share.nd rfl (Or.inl rfl)) (pgs_cons (pg_name (i := 5) sc__law_chain_share.nd rfl (Or.inl rfl)) pgs_nil))) (pss_one (ps_set (i := 3) sc__law_chain_share.nd rfl (Or.inl rfl) (pe_call G__law_times.ok (hr.mono (by decide)) rfl G__law_times.m G__law_times.kp G__law_times.b .nil pass0 (pa_cons (pv 3) (pa_cons (pe_call G__law_letter_share.ok (hr.mono (by decide)) rfl G__law_letter_share.m G__law_letter_share.kp G__law_letter_share.b .nil pass0 (pa_cons (pv 4) (pa_cons (pv 0) (pa_cons (pv 5) pa_nil)))) pa_nil)))))) (pss_one (ps_ret (pv 3))))), ?_⟩
  rintro es Φ ⟨b, r, vs, rfl, h0, h1, hr2, hl, hv, k⟩ _
  have hlen : ((wordL r).length : Int) = r.sum := len_word hr2.1
  have hsum := hr2.2
  walk_at "e"
  refine ds_for (di_zipS ?_)
  walk_at "e"
  refine ⟨rfl, r, rfl, hr2, ?_⟩
  walk_at "e"
  refine ⟨_, _, rfl, fun i ρ' => ∃ a c, ρ' = [some (.val (.int b)), some (.val (row r)), some (.val (row vs)), some (.val (.tuple [.int 1, .int (prodK b (wordL r) vs i)])), a, c], ⟨_, _, rfl⟩, ?_, ?_⟩
  · rintro i d ρ' hd ⟨a, c, rfl⟩
    obtain ⟨v, hx, hi, rfl⟩ := zipI_get hd
    obtain ⟨v1, v2⟩ := hv v (List.mem_of_getElem? hx)
    have hp := prodK_pos (L := wordL r) hv (by omega) i (by omega)
    refine dg_tup ⟨_, rfl, rfl, ?_⟩
    refine dgs_cons (dg_name (.inl (by decide)) (dgs_cons (dg_name (.inl (by decide)) (dgs_nil ?_))))
    walk_at "e"
    refine ⟨rfl, _, b, v, rfl, ?_⟩
    have pk : prodK b (wordL r) vs (i + 1) = prodK b (wordL r) vs i * (if (wordL r).getD i 0 = 120 then v else b - v) := by
      show _ * _ = _
      rw [List.getD_eq_getElem?_getD (l := vs), hx]
      rfl
    walk_at "e"
    refine ⟨rfl, _, _, rfl, hp, by split <;> omega, by split <;> omega, ?_⟩
    rw [← pk]
    exact dg_name (.inl (by decide)) ⟨_, _, rfl⟩
  · rintro ρ' ⟨a, c, rfl⟩
    rw [zipD_len, ltD_len, List.length_map, show (wd (wordL r)).cps.size = (wordL r).length by simp [wd]]
    rw [show min (wordL r).length vs.length = (wordL r).length by omega]
    walk_at "e"
    exact k
def wChoose : SpW := fun es Φ => ∃ m f : Nat, es = [.val (.int m), .val (.int f)] ∧ m < 239 ∧ f ≤ 40 ∧ Φ (.int (PySem.W.mcComb (m : Int) (f : Int))) es
theorem ok_choose (T : Txt w K mg) (D : TD K mg "_law_choose" s__law_choose P__law_choose) : FnOk P w K mg base CX0 1 D.f D.fd P__law_choose (spD K 2 wChoose) := by
  refine fn_data D.F sc__law_choose rfl fun cdv A outer s H E hr => ?_
  refine ⟨_, (pss_cons (ps_set (i := 2) sc__law_choose.nd rfl (Or.inl rfl) pe_int) (pss_cons (ps_for PassesOwn.never rfl (pi_range1 rfl T.n_range (pa_cons (pv 1) pa_nil)) (pg_name (i := 3) sc__law_choose.nd rfl (Or.inl rfl)) (pss_one (ps_set (i := 2) sc__law_choose.nd rfl (Or.inl rfl) (pe_op opA_fdiv (pe_op (opK_mul (K := K) rfl) (pv 2) (pe_op op_sub (pv 0) (pv 3))) (pe_op (opK_add (K := K) rfl) (pv 3) pe_int))))) (pss_one (ps_ret (pv 2))))), ?_⟩
  rintro es Φ ⟨m, f, rfl, hm, hf, k⟩ _
  walk_at "e"
  refine ds_for (di_rng1 ?_)
  walk_at "e"
  refine ⟨_, rfl, ⟨by omega, by omega⟩, fun i ρ' => ∃ a, ρ' = [some (.val (.int m)), some (.val (.int f)), some (.val (.int (chM m i))), a], ⟨_, rfl⟩, ?_, ?_⟩
  · rintro i d ρ' hd ⟨a, rfl⟩
    obtain ⟨hi, rfl⟩ := rngD_get hd
    rw [Int.zero_add]
    have hi2 : i < f := by omega
    refine dg_name (.inl (by decide)) ?_
    walk_at "e"
    refine rdm_S (.inr ⟨by omega, by omega⟩) ?_
    walk_at "e"
    refine rd_i (show CDivA _ ((i : Int) + 1) from ⟨by omega, ?_⟩) ?_
    · have : ((i : Int) + 1).natAbs < 2 ^ 100 := Nat.lt_trans (show ((i : Int) + 1).natAbs < 100 by omega) (by decide)
      have := (Nat.log2_lt (by omega)).mpr this
      omega
    exact dg_name (.inl (by decide)) ⟨_, rfl⟩
  · rintro ρ' ⟨a, rfl⟩
    rw [rngD_len, Int.toNat_natCast]
    walk_at "e"
    rw [chM_comb hm hf]
    exact k
/-! the law's steps -/
theorem rep_sum (low : Bool) (c n : Nat) : ((List.replicate n c).map (fall1 low)).sum = n * fall1 low c := by
  induction n with
  | zero => simp
  | succ n ih =>
    rw [List.replicate_succ, List.map_cons, List.sum_cons, ih]
    have : ((n + 1 : Nat) : Int) * fall1 low c = n * fall1 low c + fall1 low c := by
      rw [Int.natCast_add, Int.add_mul]
      simp
    rw [this]
    omega
theorem ys_sum : ∀ r : List Int, ((wordL r).map (fall1 true)).sum = r.length
  | [] => rfl
  | e :: r => by
    show ((List.replicate (e - 1).toNat 120 ++ 121 :: wordL r).map (fall1 true)).sum = _
    rw [List.map_append, List.sum_append, List.map_cons, List.sum_cons, ys_sum r, rep_sum]
    have a1 : fall1 true 120 = 0 := by decide
    have a2 : fall1 true 121 = 1 := by decide
    rw [a1, a2, List.length_cons]
    simp
    omega
theorem xs_sum : ∀ r : List Int, Ones r → ((wordL r).map (fall1 false)).sum = r.sum - r.length
  | [], _ => rfl
  | e :: r, h => by
    have h1 := h e List.mem_cons_self
    show ((List.replicate (e - 1).toNat 120 ++ 121 :: wordL r).map (fall1 false)).sum = _
    rw [List.map_append, List.sum_append, List.map_cons, List.sum_cons, xs_sum r fun x hx => h x (List.mem_cons_of_mem _ hx), rep_sum]
    have a1 : fall1 false 120 = 1 := by decide
    have a2 : fall1 false 121 = 0 := by decide
    rw [a1, a2, List.length_cons, List.sum_cons, Int.natCast_add]
    omega
theorem steps_lo {r : List Int} (hn : r ≠ []) : (flL true (wordL r)).sum = r.length - 1 := by
  have hl := word_last r hn
  have hw : wordL r ≠ [] := fun z => hn (word_nil.mp z)
  have h1 := ys_sum r
  have e : wordL r = (wordL r).dropLast ++ [121] := by
    have := List.dropLast_concat_getLast hw
    have hg : (wordL r).getLast hw = 121 := by
      rw [List.getLast?_eq_some_getLast hw] at hl
      exact Option.some.inj hl
    rw [hg] at this
    exact this.symm
  rw [e, List.map_append, List.sum_append] at h1
  show ((wordL r).dropLast.map (fall1 true)).sum = _
  have a2 : ([121].map (fall1 true)).sum = 1 := by decide
  rw [a2] at h1
  omega
theorem steps_hi {r : List Int} (ho : Ones r) (hn : r ≠ []) : (flL false (wordL r)).sum = r.sum - r.length - (if 1 < r.headD 0 then 1 else 0) := by
  cases r with
  | nil => exact absurd rfl hn
  | cons e r =>
    have h1 := xs_sum (e :: r) ho
    have h2 := ho e List.mem_cons_self
    show (((wordL (e :: r)).drop 1).map (fall1 false)).sum = (e :: r).sum - ((e :: r).length : Nat) - (if 1 < e then 1 else 0)
    have hw : wordL (e :: r) = List.replicate (e - 1).toNat 120 ++ 121 :: wordL r := rfl
    by_cases h3 : 1 < e
    · obtain ⟨n, hn2⟩ : ∃ n, (e - 1).toNat = n + 1 := ⟨(e - 1).toNat - 1, by omega⟩
      rw [hw, hn2, List.replicate_succ, List.cons_append, List.map_cons, List.sum_cons] at h1
      rw [hw, hn2, List.replicate_succ, List.cons_append, List.drop_succ_cons, List.drop_zero, if_pos h3]
      have a1 : fall1 false 120 = 1 := by decide
      rw [a1] at h1
      omega
    · have : (e - 1).toNat = 0 := by omega
      rw [hw, this, List.replicate_zero, List.nil_append, List.map_cons, List.sum_cons] at h1
      rw [hw, this, List.replicate_zero, List.nil_append, List.drop_succ_cons, List.drop_zero, if_neg h3]
      have a1 : fall1 false 121 = 0 := by decide
      rw [a1] at h1
      omega
def wStepsIn : SpW := fun es Φ => ∃ (r : List Int) (low : Bool), es = [.val (row r), .val (.str (kS low))] ∧ RowP r ∧ r ≠ [] ∧ Φ (.int (flL low (wordL r)).sum) es
theorem ok_steps (T : Txt w K mg) (D : TD K mg "_law_steps_in" s__law_steps_in P__law_steps_in) : FnOk P w K mg base CX0 1 D.f D.fd P__law_steps_in (spD K 2 wStepsIn) := by
  refine fn_data D.F sc__law_steps_in rfl fun cdv A outer s H E hr => ?_
  have hu := hr.units
  refine ⟨_, (pss_cons (ps_if (pt_cmpR (opK_eq (K := K) rfl hu) (pv 1) pe_str (nomark _)) (pss_one (ps_ret (pe_op op_sub (pe_callB (crK_len (K := K) rfl) rfl T.n_len (by decide +kernel) (pa_cons (pv 0) pa_nil)) pe_int))) pss_nil) (pss_one (ps_ret (pe_op op_sub (pe_op op_sub (pe_callB (cr_sumB (K := K) rfl rfl) rfl T.n_sum (by decide +kernel) (pa_cons (pv 0) pa_nil)) (pe_callB (crK_len (K := K) rfl) rfl T.n_len (by decide +kernel) (pa_cons (pv 0) pa_nil))) (pe_callTy call_int1 rfl T.n_int (by decide +kernel) (pa_cons (pe_cmpR op_gt (pe_ix (ixK_seq (K := K) rfl) (pv 0) pe_int (fun _ _ => rfl)) pe_int (nomark _)) pa_nil)))))), ?_⟩
  rintro es Φ ⟨r, low, rfl, hr2, hn, k⟩ _
  refine ds_seq (ds_if ?_)
  walk_at "e"
  refine rd_eqT ?_
  rw [eq_lo]
  walk_at "e"
  refine ⟨fun h => ?_, fun h => ?_⟩
  · subst h
    walk_at "e"
    rw [steps_lo hn] at k
    rw [List.length_map]
    exact k
  · subst h
    walk_at "e"
    refine rc_sumU ?_
    walk_at "e"
    rw [steps_hi hr2.1 hn] at k
    cases r with
    | nil => exact absurd rfl hn
    | cons e r =>
      refine rd_ixT (atI_nat (show ((e :: r).map PyData.int)[0]? = some (.int e) from rfl)) ?_
      walk_at "e"
      rw [List.length_map]
      have e1 : (if decide (e > 1) = true then (1 : Int) else 0) = if 1 < (e :: r).headD 0 then 1 else 0 := by
        show _ = if 1 < e then (1 : Int) else 0
        by_cases h : 1 < e <;> simp [h]
      rw [← e1] at k
      exact k
end
end K35
namespace K35
open PySem L2 PySem.Spec PyProof.Rows DL
local macro_rules | `(tactic| walk_at "d0") => `(tactic| first
  | (with_reducible refine ds_seq ?_) | (with_reducible refine ds_next ?_) | (with_reducible refine ds_ret ?_) | (with_reducible refine ds_drop ?_) | (with_reducible refine ds_putO ?_) | (with_reducible refine ds_setO ?_) | (with_reducible refine ds_asg ?_)
  | ((with_reducible show DW _ _ (tOp (rIx _) (tVar _) (tC (.int _))) _ _); refine dw_ixO rfl (dw_int ⟨_, _, _, rfl, rfl, rfl, ?_⟩))
  | ((with_reducible show DW _ _ (tOp (rIx _) (tVar _) _) _ _); refine dw_ixO rfl ?_)
  | (with_reducible refine dw_lst ?_) | (with_reducible refine df_lst ?_)
  | ((with_reducible show DW _ _ (tOp rCat (tVar _) _) _ _); refine dw_fresh (df_catO rfl ?_)) | ((with_reducible show DF _ _ (tOp rCat (tVar _) _) _ _); refine df_catO rfl ?_)
  | (with_reducible refine dw_fresh (df_catFF ?_)) | (with_reducible refine df_catFF ?_) | (with_reducible refine df_repF ?_)
  | (with_reducible refine dw_isi ?_) | (with_reducible refine dw_op ?_) | (with_reducible refine dw_un ?_) | (with_reducible refine dw_int ?_) | (with_reducible refine dw_bl ?_) | (with_reducible refine dw_str ?_) | (with_reducible refine dw_non ?_)
  | ((with_reducible show DW _ _ (tVar _) _ _); refine dw_var rfl ?_)
  | (with_reducible refine dw_andV ?_) | (with_reducible refine dw_orV ?_) | (with_reducible refine dw_notV ?_) | (with_reducible refine dw_tup ?_) | (with_reducible refine dw_chain ?_)
  | (with_reducible refine da_nil ?_) | (with_reducible refine da_cons ?_)
  | (with_reducible refine dt_test ?_) | (with_reducible refine dt_B ?_) | (with_reducible refine dt_and ?_) | (with_reducible refine dt_or ?_) | (with_reducible refine dt_not ?_) | (with_reducible refine dt_yes ?_)
  | ((with_reducible show DW _ _ (tCall _ _ _ (tCons (tVar _) _)) _ _); refine dw_callO rfl ?_)
  | (with_reducible refine dw_call ?_) | (with_reducible refine dw_fresh (df_call ?_)) | (with_reducible refine dw_cb ?_)
  | (with_reducible refine rd_addBI ?_) | (with_reducible refine rc_tupL ?_) | (with_reducible refine rc_lstT ?_) | (with_reducible refine rc_reprB ?_) | (with_reducible refine rd_isB ?_) | (with_reducible refine rs_tup ?_) | (with_reducible refine rs_lst ?_) | (with_reducible refine dw_slH ?_) | (with_reducible refine dw_slL ?_) | (with_reducible refine dw_dnew ?_) | (with_reducible refine dw_m1 ?_) | (with_reducible refine rd_i0 ?_) | (with_reducible refine rd_b0 ?_) | (with_reducible refine ru_i ?_) | (with_reducible refine rc_int ?_) | (with_reducible refine rc_intB ?_) | (with_reducible refine rc_abs ?_) | (with_reducible refine rc_max ?_) | (with_reducible refine rc_min ?_) | (with_reducible refine rc_gcd ?_) | (with_reducible refine rc_lenL ?_) | (with_reducible refine rc_lenT ?_)
  | ((with_reducible show RD (rIx _) _ (.tuple _) _ _); refine rd_ixT rfl ?_) | ((with_reducible show RD (rIx _) _ (.list _) _ _); refine rd_ixL rfl ?_)
  | ((with_reducible refine dg_name ?hj ?_); (case hj => first | exact .inl (by decide) | exact .inr (noLst_val rfl) | exact .inr (noLst_none rfl)))
  | ((with_reducible show ∃ b, PyData.bool _ = PyData.bool b ∧ _); refine ⟨_, rfl, ?_⟩)
  | ((with_reducible show RD (rEqA _) _ (.int _) (.int _) _); refine rd_eq rfl rfl ?_) | ((with_reducible show RD (rNeA _) _ (.int _) (.int _) _); refine rd_ne rfl rfl ?_)
  | ((with_reducible show DW _ _ (tTup _) _ _); refine dw_tup ?_) | ((with_reducible show List.length _ ≤ 100000 ∧ _); refine ⟨Nat.le_of_ble_eq_true rfl, ?_⟩)
  | (((with_reducible show (_ = true → _) ∧ (_ = false → _)); first | (refine ⟨fun _ => ?_, fun z => Bool.noConfusion (show true = false from z)⟩) | (refine ⟨fun z => Bool.noConfusion (show false = true from z), fun _ => ?_⟩)))
  | (((with_reducible show (_ = false → _) ∧ (_ = true → _)); first | (refine ⟨fun _ => ?_, fun z => Bool.noConfusion (show false = true from z)⟩) | (refine ⟨fun z => Bool.noConfusion (show true = false from z), fun _ => ?_⟩)))
  | (with_reducible refine dgs_nil ?_) | (with_reducible refine dgs_cons ?_))
local macro_rules | `(tactic| walk_at "d1") => `(tactic| first | walk_at "d0" | (with_reducible refine ds_if ?_) | (with_reducible refine dw_if ?_))
local macro_rules | `(tactic| walk_at "e") => `(tactic| ((try dsimp only [cxOf, Cx.nox, Cx.wish, ownD]); repeat (walk_at "d0")))
local macro_rules | `(tactic| walk_at "d") => `(tactic| ((try dsimp only [cxOf, Cx.nox, Cx.wish, ownD]); repeat (walk_at "d1")))

abbrev s__law_is_due : Stmt := topS 46
abbrev N__law_is_due : List Str := ["_law_bound", "_law_row", "_law_value", "_law_sort", "_law_one", "_law_word_here", "_law_at"]
abbrev P__law_is_due : List Str := ["_law_bound", "_law_row", "_law_value", "_law_sort"]
theorem sc__law_is_due : FnScope N__law_is_due P__law_is_due (defScope s__law_is_due) := ⟨rfl, rfl, rfl, by decide +kernel, rfl, by decide +kernel, by decide +kernel⟩
section
variable {P : Program} {w : World} {K : PySem.W.Frag} {mg : Str → Option Value} {base : Heap} {Ψ : PyData → Prop}
def wDue : SpW := fun es Φ => ∃ (b : Int) (r : List Int) (d : PyData) (low : Bool), es = [.val (.int b), .val (row r), .val d, .val (.str (kS low))] ∧ RowP r ∧ LenOk d ∧ Φ (.bool (isChD low b r d)) es
theorem step_gap {low : Bool} {L : List Nat} {vs : List Int} {k : Nat} (h : k + 1 < L.length) : stepB low (L.getD k 0) (L.getD (k + 1) 0) (vs.getD k 0) (vs.getD (k + 1) 0) = gapOk low L vs k := by
  have e : (flL low L).getD k 0 = if low then fall1 true (L.getD k 0) else fall1 false (L.getD (k + 1) 0) := by
    cases low with
    | true =>
      show (L.dropLast.map (fall1 true)).getD k 0 = fall1 true (L.getD k 0)
      rw [List.getD_eq_getElem?_getD, List.getD_eq_getElem?_getD, List.getElem?_map, List.dropLast_eq_take, List.getElem?_take_of_lt (by omega), List.getElem?_eq_getElem (by omega)]
      rfl
    | false =>
      show ((L.drop 1).map (fall1 false)).getD k 0 = fall1 false (L.getD (k + 1) 0)
      rw [List.getD_eq_getElem?_getD, List.getD_eq_getElem?_getD, List.getElem?_map, List.getElem?_drop, show 1 + k = k + 1 by omega, List.getElem?_eq_getElem (by omega)]
      rfl
  unfold stepB gapOk
  rw [e]
  generalize vs.getD k 0 = x
  generalize vs.getD (k + 1) 0 = y
  cases low with
  | true =>
    show (decide (y < x) || (decide (y = x) && !(L.getD k 0 == 121))) = decide (fall1 true (L.getD k 0) ≤ x - y)
    have : fall1 true (L.getD k 0) = if L.getD k 0 = 121 then 1 else 0 := rfl
    rw [this]
    by_cases h : L.getD k 0 = 121
    · rw [if_pos h, h]
      by_cases h2 : y < x
      · simp [h2]; omega
      · simp [h2]; omega
    · rw [if_neg h]
      have hb : (L.getD k 0 == 121) = false := by simpa using h
      rw [hb]
      by_cases h2 : y < x
      · simp [h2]; omega
      · simp [h2]
        omega
  | false =>
    show (decide (y < x) || (decide (y = x) && !(L.getD (k + 1) 0 == 120))) = decide (fall1 false (L.getD (k + 1) 0) ≤ x - y)
    have : fall1 false (L.getD (k + 1) 0) = if L.getD (k + 1) 0 = 120 then 1 else 0 := rfl
    rw [this]
    by_cases h : L.getD (k + 1) 0 = 120
    · rw [if_pos h, h]
      by_cases h2 : y < x
      · simp [h2]; omega
      · simp [h2]; omega
    · rw [if_neg h]
      have hb : (L.getD (k + 1) 0 == 120) = false := by simpa using h
      rw [hb]
      by_cases h2 : y < x
      · simp [h2]; omega
      · simp [h2]
        omega
theorem all_step {p : PyData → Bool} {ds : List PyData} {i : Nat} {d : PyData} (h : ds[i]? = some d) (hp : p d = false) : ds.all p = false := by
  rw [Bool.eq_false_iff]
  intro z
  have := List.all_eq_true.mp z d (List.mem_of_getElem? h)
  rw [hp] at this
  exact nomatch this
theorem ok_due (T : Txt w K mg) (D : TD K mg "_law_is_due" s__law_is_due P__law_is_due) (G__law_word : Cal P w K mg base 1 "_law_word" P__law_word (spD K 1 wWordOf)) (G__law_is_step : Cal P w K mg base 1 "_law_is_step" P__law_is_step (spD K 5 wIsStep)) : FnOk P w K mg base CX0 2 D.f D.fd P__law_is_due (spD K 4 wDue) := by
  refine fn_data D.F sc__law_is_due rfl fun cdv A outer s H E hr => ?_
  have hu := hr.units
  refine ⟨_, (pss_cons (ps_if (PW.pt (pw_or (pt_not (pt_val (pe_callB call_isi rfl T.n_isinstance (by decide +kernel) (pa_cons (pv 2) (pa_cons (pe_bltn (v := .ty "tuple") (u := .type "tuple") rfl T.n_tuple (by decide +kernel) rfl) pa_nil))))) (pw_or1 (pt_cmpR (opK_ne (K := K) rfl hu) (pe_callB (crK_len (K := K) rfl) rfl T.n_len (by decide +kernel) (pa_cons (pv 2) pa_nil)) (pe_callB (cr_sumB (K := K) rfl rfl) rfl T.n_sum (by decide +kernel) (pa_cons (pv 1) pa_nil)) (nomark _))))) (pss_one (ps_ret pe_bl)) pss_nil) (pss_cons (ps_for PassesOwn.never rfl (pi_tup (pv 2)) (pg_name (i := 4) sc__law_is_due.nd rfl (Or.inl rfl)) (pss_one (ps_if (PW.pt (pw_or (pt_not (pt_val (pe_callB call_isi rfl T.n_isinstance (by decide +kernel) (pa_cons (pv 4) (pa_cons (pe_bltn (v := .ty "int") (u := .type "int") rfl T.n_int (by decide +kernel) rfl) pa_nil))))) (pw_or (pt_val (pe_callB call_isi rfl T.n_isinstance (by decide +kernel) (pa_cons (pv 4) (pa_cons (pe_bltn (v := .ty "bool") (u := .type "bool") rfl T.n_bool (by decide +kernel) rfl) pa_nil)))) (pw_or (pt_cmpR op_lt (pv 4) pe_int (nomark _)) (pw_or1 (pt_cmpR op_ge (pv 4) (pv 0) (nomark _))))))) (pss_one (ps_ret pe_bl)) pss_nil))) (pss_cons (ps_set (i := 5) sc__law_is_due.nd rfl (Or.inl rfl) (pe_call G__law_word.ok (hr.mono (by decide)) rfl G__law_word.m G__law_word.kp G__law_word.b .nil pass0 (pa_cons (pv 1) pa_nil))) (pss_cons (ps_for PassesOwn.never rfl (pi_range2 rfl T.n_range (pa_cons pe_int (pa_cons (pe_callB (crK_len (K := K) rfl) rfl T.n_len (by decide +kernel) (pa_cons (pv 2) pa_nil)) pa_nil))) (pg_name (i := 6) sc__law_is_due.nd rfl (Or.inl rfl)) (pss_one (ps_if (pt_not (pt_val (pe_call G__law_is_step.ok (hr.mono (by decide)) rfl G__law_is_step.m G__law_is_step.kp G__law_is_step.b .nil pass0 (pa_cons (pe_ix (ixK_seq (K := K) rfl) (pv 5) (pe_op op_sub (pv 6) pe_int) (fun _ _ => rfl)) (pa_cons (pe_ix (ixK_seq (K := K) rfl) (pv 5) (pv 6) (fun _ _ => rfl)) (pa_cons (pe_ix (ixK_seq (K := K) rfl) (pv 2) (pe_op op_sub (pv 6) pe_int) (fun _ _ => rfl)) (pa_cons (pe_ix (ixK_seq (K := K) rfl) (pv 2) (pv 6) (fun _ _ => rfl)) (pa_cons (pv 3) pa_nil)))))))) (pss_one (ps_ret pe_bl)) pss_nil))) (pss_one (ps_ret pe_bl)))))), ?_⟩
  rintro es Φ ⟨b, r, d, low, rfl, hr2, hl, k⟩ _
  have hlen : ((wordL r).length : Int) = r.sum := len_word hr2.1
  have hsum := hr2.2
  refine ds_seq (ds_if ?_)
  walk_at "e"
  refine ⟨_, isT_tupA d, _, rfl, fun h1 => ?_, fun h1 => ?_⟩
  case _ =>
    cases d with
    | tuple ds =>
      have hdl := hl ds rfl
      refine dt_test (dw_op ?_)
      walk_at "e"
      refine rc_sumU ?_
      walk_at "e"
      rw [eqI]
      refine ⟨fun h => ?_, fun h => ?_⟩
      · have h : ¬ (ds.length : Int) = r.sum := by simpa using h
        walk_at "e"
        have : isChD low b r (.tuple ds) = false := by
          show (ds.all (memD b) && (decide ((ds.length : Int) = r.sum) && _)) = false
          rw [decide_eq_false h, Bool.false_and, Bool.and_false]
        rw [this] at k
        exact k
      have h : (ds.length : Int) = r.sum := by simpa using h
      refine ds_next ?_
      refine ds_seq (ds_for (di_tup (dw_var rfl ⟨ds, rfl, fun i ρ' => (ds.take i).all (memD b) = true ∧ ∃ a, ρ' = [some (.val (.int b)), some (.val (row r)), some (.val (.tuple ds)), some (.val (.str (kS low))), a, none, none], ⟨by simp, _, rfl⟩, ?_, ?_⟩)))
      · rintro i d ρ' hd ⟨hall, a, rfl⟩
        have bad : memD b d = false → Φ (.bool false) [.val (.int b), .val (row r), .val (.tuple ds), .val (.str (kS low))] := fun hb => by
          have : isChD low b r (.tuple ds) = false := by
            show (ds.all (memD b) && _) = false
            rw [all_step hd hb, Bool.false_and]
          rw [this] at k
          exact k
        refine dg_name (.inl (by decide)) ?_
        refine ds_if ?_
        walk_at "e"
        refine ⟨_, isT_intA d, _, rfl, fun h2 => ?_, fun h2 => ?_⟩
        · walk_at "e"
          refine ⟨_, isT_boolA d, _, rfl, fun h3 => ?_, fun h3 => ?_⟩
          · have hd2 : ∃ j, d = .int j := by
              cases d <;> first | exact ⟨_, rfl⟩ | exact absurd h2 (by decide) | (simp [isIntD, isBoolD] at h2 h3)
            obtain ⟨j, rfl⟩ := hd2
            walk_at "e"
            refine ⟨fun h4 => ?_, fun h4 => ?_⟩
            · have h4 : ¬ j < 1 := of_decide_eq_false h4
              walk_at "e"
              refine ⟨fun h5 => ?_, fun h5 => ?_⟩
              · have h5 : b ≤ j := of_decide_eq_true h5
                walk_at "e"
                refine bad ?_
                show (true && (decide (1 ≤ j) && decide (j < b))) = false
                rw [decide_eq_false (show ¬ j < b by omega), Bool.and_false, Bool.and_false]
              · have h5 : ¬ b ≤ j := of_decide_eq_false h5
                refine ds_next ⟨?_, _, rfl⟩
                rw [← take_snoc hd, List.all_append, hall]
                show (true && (memD b (.int j) && true)) = true
                have : memD b (.int j) = true := by
                  show (true && (decide (1 ≤ j) && decide (j < b))) = true
                  rw [decide_eq_true (show 1 ≤ j by omega), decide_eq_true (show j < b by omega)]
                  rfl
                rw [this]
                rfl
            · have h4 : j < 1 := of_decide_eq_true h4
              walk_at "e"
              refine bad ?_
              show (true && (decide (1 ≤ j) && decide (j < b))) = false
              rw [decide_eq_false (show ¬ 1 ≤ j by omega), Bool.false_and, Bool.and_false]
          · walk_at "e"
            refine bad ?_
            have : isIntD d = false := by cases d <;> first | rfl | exact nomatch h3
            unfold memD
            rw [this, Bool.false_and]
        · walk_at "e"
          refine bad ?_
          have : isIntD d = false := by
            cases d <;> first | rfl | (simp [isIntD, isBoolD] at h2)
          unfold memD
          rw [this, Bool.false_and]
      · rintro ρ' ⟨hall, a, rfl⟩
        rw [List.take_length] at hall
        obtain ⟨vs, rfl, ev, hv⟩ := mems_ints hall
        rw [List.length_map] at h
        have key : isChD low b r (.tuple (vs.map .int)) = stepsOk low (wordL r) vs := by
          show ((vs.map PyData.int).all (memD b) && (decide (((vs.map PyData.int).length : Int) = r.sum) && stepsOk low (wordL r) ((vs.map PyData.int).map toI))) = _
          rw [ev, List.length_map, hall, decide_eq_true h, Bool.true_and, Bool.true_and]
        rw [key] at k
        walk_at "e"
        refine ⟨rfl, r, rfl, hr2, ?_⟩
        walk_at "e"
        refine ds_for (di_rng2 ?_)
        walk_at "e"
        rw [List.length_map]
        refine ⟨1, _, rfl, ⟨by omega, by omega, by omega, by omega⟩, fun i ρ' => ((List.range i).all (gapOk low (wordL r) vs)) = true ∧ ∃ c, ρ' = [some (.val (.int b)), some (.val (row r)), some (.val (.tuple (vs.map .int))), some (.val (.str (kS low))), a, some (.val (.str (wd (wordL r)))), c], ⟨rfl, _, rfl⟩, ?_, ?_⟩
        · rintro i d ρ' hd ⟨hall2, c, rfl⟩
          obtain ⟨hi, rfl⟩ := rngD_get hd
          have hi2 : i + 1 < (wordL r).length := by omega
          have hi3 : i + 1 < vs.length := by omega
          rw [show (1 : Int) + (i : Nat) = ((i + 1 : Nat) : Int) by omega]
          refine dg_name (.inl (by decide)) ?_
          refine ds_if ?_
          walk_at "e"
          rw [show ((i + 1 : Nat) : Int) - 1 = (i : Int) by omega]
          have w1 : (wd (wordL r)).cps.toList[i]? = some ((wordL r).getD i 0) := by
            rw [tl_cps, List.getD_eq_getElem?_getD, List.getElem?_eq_getElem (by omega)]
            rfl
          have w2 : (wd (wordL r)).cps.toList[i + 1]? = some ((wordL r).getD (i + 1) 0) := by
            rw [tl_cps, List.getD_eq_getElem?_getD, List.getElem?_eq_getElem (by omega)]
            rfl
          have v1 : (vs.map PyData.int)[i]? = some (.int (vs.getD i 0)) := by
            rw [List.getElem?_map, List.getD_eq_getElem?_getD, List.getElem?_eq_getElem (by omega)]
            rfl
          have v2 : (vs.map PyData.int)[i + 1]? = some (.int (vs.getD (i + 1) 0)) := by
            rw [List.getElem?_map, List.getD_eq_getElem?_getD, List.getElem?_eq_getElem (by omega)]
            rfl
          refine rd_ixS (by rw [len_wd]; omega) (atI_nat w1) ?_
          walk_at "e"
          refine rd_ixS (by rw [len_wd]; omega) (atI_nat w2) ?_
          walk_at "e"
          rw [show ((i + 1 : Nat) : Int) - 1 = (i : Int) by omega]
          refine rd_ixT (atI_nat v1) ?_
          walk_at "e"
          refine rd_ixT (atI_nat v2) ?_
          walk_at "e"
          refine ⟨rfl, _, _, _, _, low, rfl, ?_⟩
          rw [step_gap hi2]
          refine ⟨_, rfl, fun h2 => ?_, fun h2 => ?_⟩
          · have h2 : gapOk low (wordL r) vs i = false := by simpa using h2
            walk_at "e"
            have : stepsOk low (wordL r) vs = false := by
              rw [Bool.eq_false_iff]
              intro z
              have := List.all_eq_true.mp z i (List.mem_range.mpr (by omega))
              rw [h2] at this
              exact nomatch this
            rw [this] at k
            exact k
          · have h2 : gapOk low (wordL r) vs i = true := by simpa using h2
            refine ds_next ⟨?_, _, rfl⟩
            rw [List.range_succ, List.all_append, hall2]
            show (true && (gapOk low (wordL r) vs i && true)) = true
            rw [h2]
            rfl
        · rintro ρ' ⟨hall2, c, rfl⟩
          rw [rngD_len] at hall2
          walk_at "e"
          have e1 : ((vs.length : Int) - 1).toNat = (wordL r).length - 1 := by omega
          rw [e1] at hall2
          rw [show stepsOk low (wordL r) vs = true from hall2] at k
          exact k
    | _ => exact nomatch h1
  case _ =>
    have e : isChD low b r d = false := by cases d <;> first | rfl | exact nomatch h1
    rw [e] at k
    walk_at "e"
    exact k
end
end K35
namespace K35
open PySem L2 PySem.Spec PyProof.Rows DL
local macro_rules | `(tactic| walk_at "d0") => `(tactic| first
  | (with_reducible refine ds_seq ?_) | (with_reducible refine ds_next ?_) | (with_reducible refine ds_ret ?_) | (with_reducible refine ds_drop ?_) | (with_reducible refine ds_putO ?_) | (with_reducible refine ds_setO ?_) | (with_reducible refine ds_asg ?_)
  | ((with_reducible show DW _ _ (tOp (rIx _) (tVar _) (tC (.int _))) _ _); refine dw_ixO rfl (dw_int ⟨_, _, _, rfl, rfl, rfl, ?_⟩))
  | ((with_reducible show DW _ _ (tOp (rIx _) (tVar _) _) _ _); refine dw_ixO rfl ?_)
  | (with_reducible refine dw_lst ?_) | (with_reducible refine df_lst ?_)
  | ((with_reducible show DW _ _ (tOp rCat (tVar _) _) _ _); refine dw_fresh (df_catO rfl ?_)) | ((with_reducible show DF _ _ (tOp rCat (tVar _) _) _ _); refine df_catO rfl ?_)
  | (with_reducible refine dw_fresh (df_catFF ?_)) | (with_reducible refine df_catFF ?_) | (with_reducible refine df_repF ?_)
  | (with_reducible refine dw_isi ?_) | (with_reducible refine dw_op ?_) | (with_reducible refine dw_un ?_) | (with_reducible refine dw_int ?_) | (with_reducible refine dw_bl ?_) | (with_reducible refine dw_str ?_) | (with_reducible refine dw_non ?_)
  | ((with_reducible show DW _ _ (tVar _) _ _); refine dw_var rfl ?_)
  | (with_reducible refine dw_andV ?_) | (with_reducible refine dw_orV ?_) | (with_reducible refine dw_notV ?_) | (with_reducible refine dw_tup ?_) | (with_reducible refine dw_chain ?_)
  | (with_reducible refine da_nil ?_) | (with_reducible refine da_cons ?_)
  | (with_reducible refine dt_test ?_) | (with_reducible refine dt_B ?_) | (with_reducible refine dt_and ?_) | (with_reducible refine dt_or ?_) | (with_reducible refine dt_not ?_) | (with_reducible refine dt_yes ?_)
  | ((with_reducible show DW _ _ (tCall _ _ _ (tCons (tVar _) _)) _ _); refine dw_callO rfl ?_)
  | (with_reducible refine dw_call ?_) | (with_reducible refine dw_fresh (df_call ?_)) | (with_reducible refine dw_cb ?_)
  | (with_reducible refine rd_addBI ?_) | (with_reducible refine rc_tupL ?_) | (with_reducible refine rc_lstT ?_) | (with_reducible refine rc_reprB ?_) | (with_reducible refine rd_isB ?_) | (with_reducible refine rs_tup ?_) | (with_reducible refine rs_lst ?_) | (with_reducible refine dw_slH ?_) | (with_reducible refine dw_slL ?_) | (with_reducible refine dw_dnew ?_) | (with_reducible refine dw_m1 ?_) | (with_reducible refine rd_i0 ?_) | (with_reducible refine rd_b0 ?_) | (with_reducible refine ru_i ?_) | (with_reducible refine rc_int ?_) | (with_reducible refine rc_intB ?_) | (with_reducible refine rc_abs ?_) | (with_reducible refine rc_max ?_) | (with_reducible refine rc_min ?_) | (with_reducible refine rc_gcd ?_) | (with_reducible refine rc_lenL ?_) | (with_reducible refine rc_lenT ?_)
  | ((with_reducible show RD (rIx _) _ (.tuple _) _ _); refine rd_ixT rfl ?_) | ((with_reducible show RD (rIx _) _ (.list _) _ _); refine rd_ixL rfl ?_)
  | ((with_reducible refine dg_name ?hj ?_); (case hj => first | exact .inl (by decide) | exact .inr (noLst_val rfl) | exact .inr (noLst_none rfl)))
  | ((with_reducible show ∃ b, PyData.bool _ = PyData.bool b ∧ _); refine ⟨_, rfl, ?_⟩)
  | ((with_reducible show RD (rEqA _) _ (.int _) (.int _) _); refine rd_eq rfl rfl ?_) | ((with_reducible show RD (rNeA _) _ (.int _) (.int _) _); refine rd_ne rfl rfl ?_)
  | ((with_reducible show DW _ _ (tTup _) _ _); refine dw_tup ?_) | ((with_reducible show List.length _ ≤ 100000 ∧ _); refine ⟨Nat.le_of_ble_eq_true rfl, ?_⟩)
  | (((with_reducible show (_ = true → _) ∧ (_ = false → _)); first | (refine ⟨fun _ => ?_, fun z => Bool.noConfusion (show true = false from z)⟩) | (refine ⟨fun z => Bool.noConfusion (show false = true from z), fun _ => ?_⟩)))
  | (((with_reducible show (_ = false → _) ∧ (_ = true → _)); first | (refine ⟨fun _ => ?_, fun z => Bool.noConfusion (show false = true from z)⟩) | (refine ⟨fun z => Bool.noConfusion (show true = false from z), fun _ => ?_⟩)))
  | (with_reducible refine dgs_nil ?_) | (with_reducible refine dgs_cons ?_))
local macro_rules | `(tactic| walk_at "d1") => `(tactic| first | walk_at "d0" | (with_reducible refine ds_if ?_) | (with_reducible refine dw_if ?_))
local macro_rules | `(tactic| walk_at "e") => `(tactic| ((try dsimp only [cxOf, Cx.nox, Cx.wish, ownD]); repeat (walk_at "d0")))
local macro_rules | `(tactic| walk_at "d") => `(tactic| ((try dsimp only [cxOf, Cx.nox, Cx.wish, ownD]); repeat (walk_at "d1")))

abbrev s__law_near_values : Stmt := topS 47
abbrev N__law_near_values : List Str := ["_law_dice_here", "_law_bound", "_law_row", "_law_chains_here", "_law_size", "_law_found", "_law_chain", "_law_at", "_law_one", "_law_place"]
abbrev P__law_near_values : List Str := ["_law_dice_here", "_law_bound", "_law_row", "_law_chains_here"]
theorem sc__law_near_values : FnScope N__law_near_values P__law_near_values (defScope s__law_near_values) := ⟨rfl, rfl, rfl, by decide +kernel, rfl, by decide +kernel, by decide +kernel⟩
section
variable {P : Program} {w : World} {K : PySem.W.Frag} {mg : Str → Option Value} {base : Heap} {Ψ : PyData → Prop}
theorem can_rows : ∀ rs : List (List Int), PyData.canLayAll0 (rs.map row) = true ∧ PyData.depthAll (rs.map row) ≤ 1
  | [] => ⟨rfl, by decide⟩
  | r :: rs => by
    obtain ⟨a, b⟩ := can_rows rs
    have c := sh_ints r
    have c1 : PyData.canLay0 (row r) = true := SeqAt.canLay_of_shaped c
    have d : ∀ ns : List Int, PyData.depthAll (ns.map PyData.int) = 0 := fun ns => by
      induction ns with
      | nil => rfl
      | cons n ns ih =>
        show max 0 (PyData.depthAll (ns.map PyData.int)) = 0
        rw [ih]
        rfl
    refine ⟨?_, ?_⟩
    · show (PyData.canLay0 (row r) && PyData.canLayAll0 (rs.map row)) = true
      rw [c1, a]
      rfl
    · show max (PyData.depthAll (r.map PyData.int) + 1) (PyData.depthAll (rs.map row)) ≤ 1
      rw [d]
      omega
theorem sh_rows (rs : List (List Int)) : SeqAt.shaped (.list (rs.map row)) = true := by
  obtain ⟨a, b⟩ := can_rows rs
  show (PyData.canLayAll0 (rs.map row) && decide (PyData.depthAll (rs.map row) + 1 ≤ 64)) = true
  rw [a, Bool.true_and, decide_eq_true_eq]
  omega
theorem eqv_list : ∀ r : List Int, PyData.eqvAll (r.map PyData.int) (r.map PyData.int) = true
  | [] => rfl
  | e :: r => by
    show (PyData.eqv (.int e) (.int e) && PyData.eqvAll (r.map PyData.int) (r.map PyData.int)) = true
    rw [eqv_list r, Bool.and_true]
    show (e == e) = true
    simp
theorem eqv_rows : ∀ rs : List (List Int), PyData.eqvAll (rs.map row) (rs.map row) = true
  | [] => rfl
  | r :: rs => by
    show (PyData.eqvAll (r.map PyData.int) (r.map PyData.int) && PyData.eqvAll (rs.map row) (rs.map row)) = true
    rw [eqv_list r, eqv_rows rs]
    rfl

theorem lo_tup {xs : List PyData} (h : xs.length ≤ 100000) : LenOk (.tuple xs) := fun ds e => by cases e; exact h
theorem lo_oth {d : PyData} (h : ∀ xs, d ≠ .tuple xs) : LenOk d := fun ds e => absurd e (h ds)
def Near (N : Nat) (ds : List PyData) : Prop := ds.length ≤ N ∧ ∀ d ∈ ds, LenOk d
theorem Near.app {N M : Nat} {xs ys : List PyData} (a : Near N xs) (b : Near M ys) : Near (N + M) (xs ++ ys) := ⟨by rw [List.length_append]; have := a.1; have := b.1; omega, fun d hd => by
  rcases List.mem_append.mp hd with h | h
  · exact a.2 d h
  · exact b.2 d h⟩
theorem Near.one {d : PyData} (h : LenOk d) : Near 1 [d] := ⟨Nat.le_refl _, fun e he => by rcases List.mem_singleton.mp he with rfl; exact h⟩
theorem Near.nil : Near 0 [] := ⟨Nat.le_refl _, fun _ h => nomatch h⟩
theorem Near.cons {N : Nat} {d : PyData} {ds : List PyData} (h : LenOk d) (g : Near N ds) : Near (N + 1) (d :: ds) := ⟨Nat.succ_le_succ g.1, fun e he => by
  rcases List.mem_cons.mp he with rfl | he
  · exact h
  · exact g.2 e he⟩
theorem Near.le {N M : Nat} {ds : List PyData} (h : Near N ds) (l : N ≤ M) : Near M ds := ⟨Nat.le_trans h.1 l, h.2⟩
theorem cutD_le (xs : List PyData) (lo hi : Option Int) : (DL.cutD xs lo hi).length ≤ xs.length := by
  unfold DL.cutD
  rw [List.length_take, List.length_drop]
  omega
theorem rep_le (m : Nat) (d : PyData) (h : m ≤ 1000) : ((List.replicate m [d]).flatten).length ≤ 100000 := by
  simp
  omega
def wNear : SfW := fun es Φ => ∃ (l s t b : Int) (r : List Int) (cs : List (List Int)), es = [dice l s t, .val (.int b), .val (row r), .val (.list (cs.map row))] ∧ 0 ≤ l ∧ 1 ≤ b ∧ b ≤ 6 ∧ RowP r ∧ r.sum ≤ 5 ∧ (∀ c ∈ cs, (c.length : Int) = r.sum) ∧ cs.length ≤ 500 ∧
  ∀ ds l' t', 0 ≤ l' → Near 1000 ds → Φ (.l ds) [dice l' s t', .val (.int b), .val (row r), .val (.list (cs.map row))]
theorem ok_near (T : Txt w K mg) (D : TD K mg "_law_near_values" s__law_near_values P__law_near_values) (G__law_roll : Cal P w K mg base 1 "_law_roll" P__law_roll (spD K 2 wRoll)) (G__law_pick : Cal P w K mg base 2 "_law_pick" P__law_pick (spD K 2 wPick)) : FnOk P w K mg base CX0 3 D.f D.fd P__law_near_values (spF K 4 wNear) := by
  refine fn_dataF D.F sc__law_near_values rfl fun cdv A outer s H E hr => ?_
  have hu := hr.units
  refine ⟨_, (pss_cons (ps_set (i := 4) sc__law_near_values.nd rfl (Or.inl rfl) (pe_callB (cr_sumB (K := K) rfl rfl) rfl T.n_sum (by decide +kernel) (pa_cons (pv 2) pa_nil))) (pss_cons (ps_set (i := 5) sc__law_near_values.nd rfl (Or.inl rfl) (pe_lst (pa_cons (pe_op (opK_mul (K := K) rfl) (pe_tup (pa_cons pe_int pa_nil)) (pv 4)) (pa_cons (pe_op (opK_mul (K := K) rfl) (pe_tup (pa_cons (pe_op op_sub (pv 1) pe_int) pa_nil)) (pv 4)) (pa_cons (pe_tupDn rfl rfl T.n_tuple rfl T.n_range (pv 4) pe_int (pe_un un_neg pe_int)) (pa_cons (pe_tup pa_nil) (pa_cons pe_non (pa_cons pe_int (pa_cons pe_str (pa_cons (pe_op op_rep (pe_lst (pa_cons pe_int pa_nil)) (pv 4)) (pa_cons (pe_op (opK_mul (K := K) rfl) (pe_tup (pa_cons pe_bl pa_nil)) (pv 4)) (pa_cons (pe_op (opK_mul (K := K) rfl) (pe_tup (pa_cons pe_non pa_nil)) (pv 4)) (pa_cons pe_dnewK pa_nil))))))))))))) (pss_cons (ps_expr (pe_bm PySem.F.plainAttrs_list PySem.F.slot_list_append PySem.F.type_list_append mt_append (pv 5) (pa_cons (pe_callTy (crK_tupOf (K := K) rfl) rfl T.n_tuple (by decide +kernel) (pa_cons (pe_lc (own := [("_law_place", 9)]) (g := gName 9) (tt := tYes) rfl sc__law_near_values.nd (pi_range1 rfl T.n_range (pa_cons (pv 4) pa_nil)) (blkOk_by (own := [("_law_place", 9)]) (N := N__law_near_values) (sc := defScope s__law_near_values) (by decide +kernel)) (fun _ _ _ _ _ => pg_name (i := 9) sc__law_near_values.nd rfl (Or.inl rfl)) (fun _ _ _ _ _ => pts_nil) (fun _ _ _ _ _ => (pe_op (opK_add (K := K) rfl) pe_int (pe_call G__law_roll.ok (hr.mono (by decide)) rfl G__law_roll.m G__law_roll.kp G__law_roll.b .nil pass0 (pa_cons (pv 0) (pa_cons (pv 1) pa_nil)))))) pa_nil)) pa_nil))) (pss_cons (ps_expr (pe_bm PySem.F.plainAttrs_list PySem.F.slot_list_append PySem.F.type_list_append mt_append (pv 5) (pa_cons (pe_callTy (crK_tupOf (K := K) rfl) rfl T.n_tuple (by decide +kernel) (pa_cons (pe_revA (rvK (K := K) rfl) (pe_callB (crK_sortI (K := K) rfl) rfl T.n_sorted (by decide +kernel) (pa_cons (pe_lc (own := [("_law_place", 9)]) (g := gName 9) (tt := tYes) rfl sc__law_near_values.nd (pi_range1 rfl T.n_range (pa_cons (pv 4) pa_nil)) (blkOk_by (own := [("_law_place", 9)]) (N := N__law_near_values) (sc := defScope s__law_near_values) (by decide +kernel)) (fun _ _ _ _ _ => pg_name (i := 9) sc__law_near_values.nd rfl (Or.inl rfl)) (fun _ _ _ _ _ => pts_nil) (fun _ _ _ _ _ => (pe_op (opK_add (K := K) rfl) pe_int (pe_call G__law_roll.ok (hr.mono (by decide)) rfl G__law_roll.m G__law_roll.kp G__law_roll.b .nil pass0 (pa_cons (pv 0) (pa_cons (pv 1) pa_nil)))))) pa_nil))) pa_nil)) pa_nil))) (pss_cons (ps_if (pt_cmpR (opK_ne (K := K) rfl hu) (pv 3) (pe_lst pa_nil) (nomark _)) (pss_cons (ps_set (i := 6) sc__law_near_values.nd rfl (Or.inl rfl) (pe_call G__law_pick.ok (hr.mono (by decide)) rfl G__law_pick.m G__law_pick.kp G__law_pick.b .nil pass0 (pa_cons (pv 0) (pa_cons (pv 3) pa_nil)))) (pss_cons (ps_set (i := 5) sc__law_near_values.nd rfl (Or.inl rfl) (pe_op op_cat (pv 5) (pe_lst (pa_cons (pv 6) (pa_cons (pe_callTy (crK_lstOf (K := K) rfl) rfl T.n_list (by decide +kernel) (pa_cons (pv 6) pa_nil)) (pa_cons (pe_revA (rvK (K := K) rfl) (pv 6)) (pa_cons (pe_op (opK_add (K := K) rfl) (pv 6) (pe_tup (pa_cons pe_int pa_nil))) (pa_cons (pe_slice (slK (K := K) rfl) (pv 6) (po_some pe_int) po_none) (pa_cons (pe_callTy (crK_tupOf (K := K) rfl) rfl T.n_tuple (by decide +kernel) (pa_cons (pe_lc (own := [("_law_one", 8)]) (g := gName 8) (tt := tYes) rfl sc__law_near_values.nd (pi_tup (pv 6)) (blkOk_by (own := [("_law_one", 8)]) (N := N__law_near_values) (sc := defScope s__law_near_values) (by decide +kernel)) (fun _ _ _ _ _ => pg_name (i := 8) sc__law_near_values.nd rfl (Or.inl rfl)) (fun _ _ _ _ _ => pts_nil) (fun _ _ _ _ _ => (pe_op (opK_add (K := K) rfl) (pv 8) pe_int))) pa_nil)) pa_nil))))))))) (pss_one (ps_if (pt_cmpR op_gt (pv 4) pe_int (nomark _)) (pss_cons (ps_set (i := 7) sc__law_near_values.nd rfl (Or.inl rfl) (pe_call G__law_roll.ok (hr.mono (by decide)) rfl G__law_roll.m G__law_roll.kp G__law_roll.b .nil pass0 (pa_cons (pv 0) (pa_cons (pv 4) pa_nil)))) (pss_one (ps_for PassesOwn.never rfl (pi_tup (pe_tup (pa_cons pe_int (pa_cons (pv 1) (pa_cons pe_str (pa_cons pe_bl (pa_cons (pe_op (opK_add (K := K) rfl) (pe_ix (ixK_seq (K := K) rfl) (pv 6) (pv 7) (fun _ _ => rfl)) pe_int) (pa_cons (pe_op op_sub (pe_ix (ixK_seq (K := K) rfl) (pv 6) (pv 7) (fun _ _ => rfl)) pe_int) (pa_cons (pe_op (opK_mul (K := K) rfl) (pe_op op_pow pe_int pe_int) (pe_op op_pow pe_int pe_int)) pa_nil))))))))) (pg_name (i := 8) sc__law_near_values.nd rfl (Or.inl rfl)) (pss_one (ps_expr (pe_bm PySem.F.plainAttrs_list PySem.F.slot_list_append PySem.F.type_list_append mt_append (pv 5) (pa_cons (pe_op (opK_add (K := K) rfl) (pe_op (opK_add (K := K) rfl) (pe_slice (slK (K := K) rfl) (pv 6) po_none (po_some (pv 7))) (pe_tup (pa_cons (pv 8) pa_nil))) (pe_slice (slK (K := K) rfl) (pv 6) (po_some (pe_op (opK_add (K := K) rfl) (pv 7) pe_int)) po_none)) pa_nil))))))) pss_nil)))) pss_nil) (pss_one (ps_ret (pv 5)))))))), ?_⟩
  rintro es Φ ⟨l, s, t, b, r, cs, rfl, hl, hb0, hb1, hr2, hs, hcs, hcl, kk⟩ _
  have hs0 := ones_len hr2.1
  obtain ⟨m, hm⟩ : ∃ m : Nat, r.sum = (m : Int) := ⟨r.sum.toNat, by omega⟩
  have hm5 : m ≤ 5 := by omega
  have small : B 1000 b := by
    unfold B
    have : b.natAbs < 512 := by omega
    exact Nat.lt_trans this (by decide)
  refine ds_seq (ds_asg ?_)
  walk_at "e"
  refine rc_sumU ?_
  rw [hm]
  refine dg_name (.inl (by decide)) ?_
  refine ds_seq (ds_asgF (df_lst ?_))
  walk_at "e"
  refine rd_mulBT (m := m) (by simp) (by simp) (by omega) ?_
  walk_at "e"
  refine rd_mulBT (m := m) (by simp) (by simp) (by omega) ?_
  refine da_cons (dw_tupDn ?_)
  walk_at "e"
  refine ⟨m, rfl, rfl, rfl, by omega, ?_⟩
  refine da_cons (dw_tup (da_nil ⟨by decide, ?_⟩))
  refine da_cons (dw_non ?_)
  refine da_cons (dw_int ?_)
  refine da_cons (dw_str ?_)
  refine da_cons (dw_fresh (df_repF (df_lst (da_cons (dw_int (da_nil ⟨by simp, ?_⟩))))))
  walk_at "e"
  refine ⟨_, m, rfl, rfl, by omega, by decide, ?_⟩
  walk_at "e"
  refine rd_mulBT (m := m) (by simp) (by simp) (by omega) ?_
  walk_at "e"
  refine rd_mulBT (m := m) (by simp) (by simp) (by omega) ?_
  walk_at "e"
  have dnl : (dnD m).length ≤ 100000 := by unfold dnD; simp; omega
  have n1 : Near 11 [PyData.tuple (List.replicate m [PyData.int 1]).flatten, .tuple (List.replicate m [PyData.int (b - 1)]).flatten, .tuple (dnD m), .tuple [], .none, .int 1, .str (Str.ofString "1"), .list (List.replicate m [PyData.int 1]).flatten, .tuple (List.replicate m [PyData.bool true]).flatten, .tuple (List.replicate m [PyData.none]).flatten, .dict []] :=
    .cons (lo_tup (rep_le m _ (by omega))) (.cons (lo_tup (rep_le m _ (by omega))) (.cons (lo_tup dnl) (.cons (lo_tup (by simp)) (.cons (lo_oth fun _ z => nomatch z) (.cons (lo_oth fun _ z => nomatch z) (.cons (lo_oth fun _ z => nomatch z) (.cons (lo_oth fun _ z => nomatch z) (.cons (lo_tup (rep_le m _ (by omega))) (.cons (lo_tup (rep_le m _ (by omega))) (.cons (lo_oth fun _ z => nomatch z) .nil))))))))))
  refine ⟨by decide, ?_⟩
  show DSx K 4 _ [some (dice l s t), some (.val (.int b)), some (.val (row r)), some (.val (.list (cs.map row))), some (.val (.int m)), some (.lst (.l _)), none, none, none, none] _
  generalize [PyData.tuple (List.replicate m [PyData.int 1]).flatten, .tuple (List.replicate m [PyData.int (b - 1)]).flatten, .tuple (dnD m), .tuple [], .none, .int 1, .str (Str.ofString "1"), .list (List.replicate m [PyData.int 1]).flatten, .tuple (List.replicate m [PyData.bool true]).flatten, .tuple (List.replicate m [PyData.none]).flatten, .dict []] = D1 at n1 ⊢
  refine ds_seq (ds_app rfl ?_)
  refine dw_cb (da_cons (dw_fresh (df_lc (di_rng1 ?_))))
  walk_at "e"
  refine ⟨_, rfl, ⟨by omega, by omega⟩, by decide, by rw [rngD_len]; omega, rfl, fun i out ρ' => ∃ l' t' ns, 0 ≤ l' ∧ ns.length = i ∧ out = ns.map PyData.int ∧ ρ' = [some (dice l' s t'), some (.val (.int b)), some (.val (row r)), some (.val (.list (cs.map row))), some (.val (.int m)), some (.lst (.l D1)), none, none, none, none], ⟨l, t, [], hl, rfl, rfl, rfl⟩, ?_, ?_⟩
  · rintro i d out ρ' hd ⟨l1, t1, ns, hl1, hns, rfl, rfl⟩ _
    obtain ⟨hi, rfl⟩ := rngD_get hd
    walk_at "e"
    refine ⟨rfl, _, rfl, l1, s, t1, b, rfl, hl1, by omega, small, ?_⟩
    intro q l2 t2 q0 q1 hl2 ds2 rest e
    cases e
    refine rd_addBI ?_
    refine ⟨l2, t2, ns ++ [1 + q], hl2, by simp [hns], by rw [List.map_append]; rfl, rfl⟩
  rintro out ρ' ⟨l1, t1, ns, hl1, hns, rfl, rfl⟩
  rw [rngD_len] at hns
  walk_at "e"
  refine ⟨D1, rfl, by have := n1.1; omega, ?_⟩
  have n2 : Near 12 (D1 ++ [.tuple (ns.map .int)]) := n1.app (.one (lo_tup (by rw [List.length_map]; omega)))
  show DSx K 4 _ [some (dice l1 s t1), some (.val (.int b)), some (.val (row r)), some (.val (.list (cs.map row))), some (.val (.int m)), some (.lst (.l (D1 ++ [.tuple (ns.map .int)]))), none, none, none, none] _
  generalize D1 ++ [.tuple (ns.map .int)] = D2 at n2 ⊢
  refine ds_seq (ds_app rfl ?_)
  refine dw_cb (da_cons (dw_un (dw_cb (da_cons (dw_fresh (df_lc (di_rng1 ?_)))))))
  walk_at "e"
  refine ⟨_, rfl, ⟨by omega, by omega⟩, by decide, by rw [rngD_len]; omega, rfl, fun i out ρ' => ∃ l' t' ns, 0 ≤ l' ∧ ns.length = i ∧ out = ns.map PyData.int ∧ ρ' = [some (dice l' s t'), some (.val (.int b)), some (.val (row r)), some (.val (.list (cs.map row))), some (.val (.int m)), some (.lst (.l D2)), none, none, none, none], ⟨l1, t1, [], hl1, rfl, rfl, rfl⟩, ?_, ?_⟩
  · rintro i d out ρ' hd ⟨l1, t1, ns, hl1, hns, rfl, rfl⟩ _
    obtain ⟨hi, rfl⟩ := rngD_get hd
    walk_at "e"
    refine ⟨rfl, _, rfl, l1, s, t1, b, rfl, hl1, by omega, small, ?_⟩
    intro q l2 t2 q0 q1 hl2 ds2 rest e
    cases e
    refine rd_addBI ?_
    refine ⟨l2, t2, ns ++ [1 + q], hl2, by simp [hns], by rw [List.map_append]; rfl, rfl⟩
  rintro out ρ' ⟨l2, t2, ms, hl2, hms, rfl, rfl⟩
  rw [rngD_len] at hms
  walk_at "e"
  refine rc_sortI fun zs hp _ => ?_
  refine ru_revL ?_
  walk_at "e"
  have hzl : zs.length ≤ 1000 := by rw [hp.length_eq]; omega
  refine ⟨D2, rfl, by have := n2.1; omega, ?_⟩
  have n3 : Near 13 (D2 ++ [.tuple (zs.map PyData.int).reverse]) := n2.app (.one (lo_tup (by rw [List.length_reverse, List.length_map]; omega)))
  show DSx K 4 _ [some (dice l2 s t2), some (.val (.int b)), some (.val (row r)), some (.val (.list (cs.map row))), some (.val (.int m)), some (.lst (.l (D2 ++ [.tuple (zs.map PyData.int).reverse]))), none, none, none, none] _
  generalize D2 ++ [.tuple (zs.map PyData.int).reverse] = D3 at n3 ⊢
  refine ds_seq (ds_cut (fun ρ' => ∃ l' t' ds c a o, 0 ≤ l' ∧ Near 100 ds ∧ ρ' = [some (dice l' s t'), some (.val (.int b)), some (.val (row r)), some (.val (.list (cs.map row))), some (.val (.int m)), some (.lst (.l ds)), c, a, o, none]) (ds_if ?_) ?_)
  · walk_at "e"
    refine rd_ne (sh_rows cs) (by decide) ?_
    walk_at "e"
    refine ⟨fun h => ?_, fun h => ?_⟩
    · have hcn : 0 < cs.length := by
        cases cs with
        | nil => exact nomatch h
        | cons c cs => simp
      refine ds_seq (ds_asg (dw_callO rfl ?_))
      walk_at "e"
      refine ⟨rfl, _, rfl, l2, s, t2, _, rfl, hl2, by rw [List.length_map]; omega, by rw [List.length_map]; omega, ?_⟩
      intro i d l3 t3 hd hl3 ds2 rest e
      cases e
      rw [List.getElem?_map] at hd
      obtain ⟨c, hc, rfl⟩ : ∃ c, cs[i]? = some c ∧ d = row c := by
        cases hx : cs[i]? with
        | none => rw [hx] at hd; exact nomatch hd
        | some c => rw [hx] at hd; cases hd; exact ⟨c, rfl, rfl⟩
      have hlc := hcs c (List.mem_of_getElem? hc)
      have hlc2 : c.length = m := by omega
      refine dg_name (.inl (by decide)) ?_
      refine ds_seq (ds_asgF (df_catO rfl (df_lst ?_)))
      walk_at "e"
      refine ru_revT ?_
      walk_at "e"
      refine rd_addBT (by rw [List.length_map]; simp; omega) ?_
      walk_at "e"
      refine ⟨_, rfl, rs_tup ?_⟩
      refine da_cons (dw_cb (da_cons (dw_fresh (df_lc (di_tup ?_)))))
      walk_at "e"
      refine ⟨_, rfl, by decide, by rw [List.length_map]; omega, rfl, fun i out ρ' => out = ((c.take i).map (· + 1)).map PyData.int ∧ ρ' = [some (dice l3 s t3), some (.val (.int b)), some (.val (row r)), some (.val (.list (cs.map row))), some (.val (.int m)), some (.lst (.l D3)), some (.val (row c)), none, none, none], ⟨rfl, rfl⟩, ?_, ?_⟩
      · rintro i d out ρ' hd ⟨rfl, rfl⟩ _
        rw [List.getElem?_map] at hd
        obtain ⟨o, hg, rfl⟩ : ∃ o, c[i]? = some o ∧ d = .int o := by
          cases hx : c[i]? with
          | none => rw [hx] at hd; exact nomatch hd
          | some o => rw [hx] at hd; cases hd; exact ⟨o, rfl, rfl⟩
        walk_at "e"
        refine ⟨?_, rfl⟩
        rw [← take_snoc hg, List.map_append, List.map_append]
        rfl
      rintro out ρ' ⟨rfl, rfl⟩
      rw [List.length_map, List.take_length]
      walk_at "e"
      refine ⟨_, D3, rfl, rfl, ?_, ?_⟩
      · have := n3.1
        simp
        omega
      refine ⟨by decide, ?_⟩
      have cl := cutD_le (c.map PyData.int) (some 1) none
      rw [List.length_map] at cl
      have n4 : Near 19 (D3 ++ [row c, .list (c.map .int), .tuple (c.map PyData.int).reverse, .tuple (c.map PyData.int ++ [.int 1]), .tuple (DL.cutD (c.map PyData.int) (some 1) none), .tuple ((c.map (· + 1)).map PyData.int)]) :=
        n3.app (M := 6) (.cons (lo_tup (by rw [List.length_map]; omega)) (.cons (lo_oth fun _ z => nomatch z) (.cons (lo_tup (by rw [List.length_reverse, List.length_map]; omega)) (.cons (lo_tup (by rw [List.length_append, List.length_map]; simp; omega)) (.cons (lo_tup (by omega)) (.cons (lo_tup (by rw [List.length_map, List.length_map]; omega)) .nil))))))
      show DSx K 4 _ [some (dice l3 s t3), some (.val (.int b)), some (.val (row r)), some (.val (.list (cs.map row))), some (.val (.int m)), some (.lst (.l (D3 ++ [row c, .list (c.map .int), .tuple (c.map PyData.int).reverse, .tuple (c.map PyData.int ++ [.int 1]), .tuple (DL.cutD (c.map PyData.int) (some 1) none), .tuple ((c.map (· + 1)).map PyData.int)]))), some (.val (row c)), none, none, none] _
      generalize D3 ++ [row c, .list (c.map .int), .tuple (c.map PyData.int).reverse, .tuple (c.map PyData.int ++ [.int 1]), .tuple (DL.cutD (c.map PyData.int) (some 1) none), .tuple ((c.map (· + 1)).map PyData.int)] = D4 at n4 ⊢
      refine ds_if ?_
      walk_at "e"
      refine ⟨fun h2 => ?_, fun h2 => ?_⟩
      · have h2 : 0 < (m : Int) := of_decide_eq_true h2
        refine ds_seq (ds_asg (dw_callO rfl ?_))
        walk_at "e"
        refine ⟨rfl, _, rfl, l3, s, t3, (m : Int), rfl, hl3, h2, ?_, ?_⟩
        · unfold B
          have : (m : Int).natAbs < 512 := by omega
          exact Nat.lt_trans this (by decide)
        intro q l4 t4 q0 q1 hl4 ds2 rest e
        cases e
        obtain ⟨a, rfl⟩ : ∃ a : Nat, q = (a : Int) := ⟨q.toNat, by omega⟩
        have ha : a < c.length := by omega
        have hga : (c.map PyData.int)[a]? = some (.int c[a]) := by rw [List.getElem?_map, List.getElem?_eq_getElem ha]; rfl
        refine dg_name (.inl (by decide)) ?_
        refine ds_for (di_tup (dw_tup ?_))
        walk_at "e"
        refine rd_ixT (atI_nat hga) ?_
        walk_at "e"
        refine rd_ixT (atI_nat hga) ?_
        walk_at "e"
        refine rd_i ⟨by decide, by decide, by decide⟩ ?_
        walk_at "e"
        refine rd_i ⟨by decide, by decide, by decide⟩ ?_
        walk_at "e"
        refine rdm_I (by unfold CMulW; decide) ?_
        walk_at "e"
        refine ⟨_, rfl, fun i ρ' => ∃ ds o, Near (19 + i) ds ∧ ρ' = [some (dice l4 s t4), some (.val (.int b)), some (.val (row r)), some (.val (.list (cs.map row))), some (.val (.int m)), some (.lst (.l ds)), some (.val (row c)), some (.val (.int a)), o, none], ⟨D4, none, n4, rfl⟩, ?_, ?_⟩
        · rintro i d ρ' hd ⟨ds, o, hn, rfl⟩
          have hi := (List.getElem?_eq_some_iff.mp hd).1
          have hi7 : i < 7 := hi
          refine dg_name (.inl (by decide)) ?_
          refine ds_app rfl ?_
          walk_at "e"
          refine ⟨_, rfl, rs_tup ?_⟩
          walk_at "e"
          have c1 := cutD_le (c.map PyData.int) none (some (a : Int))
          rw [List.length_map] at c1
          refine rd_addBT (by simp; omega) ?_
          walk_at "e"
          refine ⟨_, rfl, rs_tup ?_⟩
          have c2 := cutD_le (c.map PyData.int) (some ((a : Int) + 1)) none
          rw [List.length_map] at c2
          refine rd_addBT (by rw [List.length_append]; simp; omega) ?_
          refine ⟨ds, rfl, by have := hn.1; omega, ?_⟩
          exact ⟨_, some (.val d), hn.app (.one (lo_tup (by rw [List.length_append, List.length_append]; simp; omega))), rfl⟩
        · rintro ρ' ⟨ds, o, hn, rfl⟩
          exact ⟨l4, t4, ds, _, _, o, hl4, hn.le (by show 19 + 7 ≤ 100; decide), rfl⟩
      · exact ds_next ⟨l3, t3, D4, _, _, _, hl3, n4.le (by decide), rfl⟩
    · exact ds_next ⟨l2, t2, D3, _, _, _, hl2, n3.le (by decide), rfl⟩
  rintro ρ' ⟨l', t', ds, c, a, o, hl', hn, rfl⟩
  refine ds_retO (i := 5) (ds := .l _) rfl (by decide) ?_
  exact kk ds l' t' hl' (hn.le (by decide))
end
end K35
namespace K35
open PySem L2 PySem.Spec PyProof.Rows DL
local macro_rules | `(tactic| walk_at "d0") => `(tactic| first
  | (with_reducible refine ds_seq ?_) | (with_reducible refine ds_next ?_) | (with_reducible refine ds_ret ?_) | (with_reducible refine ds_drop ?_) | (with_reducible refine ds_putO ?_) | (with_reducible refine ds_setO ?_) | (with_reducible refine ds_asg ?_)
  | ((with_reducible show DW _ _ (tOp (rIx _) (tVar _) (tC (.int _))) _ _); refine dw_ixO rfl (dw_int ⟨_, _, _, rfl, rfl, rfl, ?_⟩))
  | ((with_reducible show DW _ _ (tOp (rIx _) (tVar _) _) _ _); refine dw_ixO rfl ?_)
  | (with_reducible refine dw_lst ?_) | (with_reducible refine df_lst ?_)
  | ((with_reducible show DW _ _ (tOp rCat (tVar _) _) _ _); refine dw_fresh (df_catO rfl ?_)) | ((with_reducible show DF _ _ (tOp rCat (tVar _) _) _ _); refine df_catO rfl ?_)
  | (with_reducible refine dw_fresh (df_catFF ?_)) | (with_reducible refine df_catFF ?_) | (with_reducible refine df_repF ?_)
  | (with_reducible refine dw_isi ?_) | (with_reducible refine dw_op ?_) | (with_reducible refine dw_un ?_) | (with_reducible refine dw_int ?_) | (with_reducible refine dw_bl ?_) | (with_reducible refine dw_str ?_) | (with_reducible refine dw_non ?_)
  | ((with_reducible show DW _ _ (tVar _) _ _); refine dw_var rfl ?_)
  | (with_reducible refine dw_andV ?_) | (with_reducible refine dw_orV ?_) | (with_reducible refine dw_notV ?_) | (with_reducible refine dw_tup ?_) | (with_reducible refine dw_chain ?_)
  | (with_reducible refine da_nil ?_) | (with_reducible refine da_cons ?_)
  | (with_reducible refine dt_test ?_) | (with_reducible refine dt_B ?_) | (with_reducible refine dt_and ?_) | (with_reducible refine dt_or ?_) | (with_reducible refine dt_not ?_) | (with_reducible refine dt_yes ?_)
  | ((with_reducible show DW _ _ (tCall _ _ _ (tCons (tVar _) _)) _ _); refine dw_callO rfl ?_)
  | (with_reducible refine dw_call ?_) | (with_reducible refine dw_fresh (df_call ?_)) | (with_reducible refine dw_cb ?_)
  | (with_reducible refine rd_addBI ?_) | (with_reducible refine rc_tupL ?_) | (with_reducible refine rc_lstT ?_) | (with_reducible refine rc_reprB ?_) | (with_reducible refine rd_isB ?_) | (with_reducible refine rs_tup ?_) | (with_reducible refine rs_lst ?_) | (with_reducible refine dw_slH ?_) | (with_reducible refine dw_slL ?_) | (with_reducible refine dw_dnew ?_) | (with_reducible refine dw_m1 ?_) | (with_reducible refine rd_i0 ?_) | (with_reducible refine rd_b0 ?_) | (with_reducible refine ru_i ?_) | (with_reducible refine rc_int ?_) | (with_reducible refine rc_intB ?_) | (with_reducible refine rc_abs ?_) | (with_reducible refine rc_max ?_) | (with_reducible refine rc_min ?_) | (with_reducible refine rc_gcd ?_) | (with_reducible refine rc_lenL ?_) | (with_reducible refine rc_lenT ?_)
  | ((with_reducible show RD (rIx _) _ (.tuple _) _ _); refine rd_ixT rfl ?_) | ((with_reducible show RD (rIx _) _ (.list _) _ _); refine rd_ixL rfl ?_)
  | ((with_reducible refine dg_name ?hj ?_); (case hj => first | exact .inl (by decide) | exact .inr (noLst_val rfl) | exact .inr (noLst_none rfl)))
  | ((with_reducible show ∃ b, PyData.bool _ = PyData.bool b ∧ _); refine ⟨_, rfl, ?_⟩)
  | ((with_reducible show RD (rEqA _) _ (.int _) (.int _) _); refine rd_eq rfl rfl ?_) | ((with_reducible show RD (rNeA _) _ (.int _) (.int _) _); refine rd_ne rfl rfl ?_)
  | ((with_reducible show DW _ _ (tTup _) _ _); refine dw_tup ?_) | ((with_reducible show List.length _ ≤ 100000 ∧ _); refine ⟨Nat.le_of_ble_eq_true rfl, ?_⟩)
  | (((with_reducible show (_ = true → _) ∧ (_ = false → _)); first | (refine ⟨fun _ => ?_, fun z => Bool.noConfusion (show true = false from z)⟩) | (refine ⟨fun z => Bool.noConfusion (show false = true from z), fun _ => ?_⟩)))
  | (((with_reducible show (_ = false → _) ∧ (_ = true → _)); first | (refine ⟨fun _ => ?_, fun z => Bool.noConfusion (show false = true from z)⟩) | (refine ⟨fun z => Bool.noConfusion (show true = false from z), fun _ => ?_⟩)))
  | (with_reducible refine dgs_nil ?_) | (with_reducible refine dgs_cons ?_))
local macro_rules | `(tactic| walk_at "d1") => `(tactic| first | walk_at "d0" | (with_reducible refine ds_if ?_) | (with_reducible refine dw_if ?_))
local macro_rules | `(tactic| walk_at "e") => `(tactic| ((try dsimp only [cxOf, Cx.nox, Cx.wish, ownD]); repeat (walk_at "d0")))
local macro_rules | `(tactic| walk_at "d") => `(tactic| ((try dsimp only [cxOf, Cx.nox, Cx.wish, ownD]); repeat (walk_at "d1")))

abbrev s__law_small_right : Stmt := topS 48
abbrev N__law_small_right : List Str := ["_law_dice_here", "_law_sort", "_law_bound", "_law_row", "_law_due", "_law_value"]
abbrev P__law_small_right : List Str := ["_law_dice_here", "_law_sort"]
theorem sc__law_small_right : FnScope N__law_small_right P__law_small_right (defScope s__law_small_right) := ⟨rfl, rfl, rfl, by decide +kernel, rfl, by decide +kernel, by decide +kernel⟩
abbrev s__law_great_right : Stmt := topS 49
abbrev N__law_great_right : List Str := ["_law_dice_here", "_law_sort", "_law_bound", "_law_row", "_law_top", "_law_due", "_law_some", "_law_place"]
abbrev P__law_great_right : List Str := ["_law_dice_here", "_law_sort"]
theorem sc__law_great_right : FnScope N__law_great_right P__law_great_right (defScope s__law_great_right) := ⟨rfl, rfl, rfl, by decide +kernel, rfl, by decide +kernel, by decide +kernel⟩
section
variable {P : Program} {w : World} {K : PySem.W.Frag} {mg : Str → Option Value} {base : Heap} {Ψ : PyData → Prop}
def wSmall : SpW := fun es Φ => ∃ (l s t : Int) (low : Bool), es = [dice l s t, .val (.str (kS low))] ∧ 0 ≤ l ∧ ∀ l' t', 0 ≤ l' → Φ (.bool true) [dice l' s t', .val (.str (kS low))]
theorem ok_small (T : Txt w K mg) {dv : Str} (D : TD K mg "_law_small_right" s__law_small_right P__law_small_right) (G__law_roll : Cal P w K mg base 1 "_law_roll" P__law_roll (spD K 2 wRoll)) (G__law_row_drawn : Cal P w K mg base 3 "_law_row_drawn" P__law_row_drawn (spD K 2 wDrawn))
    (G__law_chains : Cal P w K mg base 2 "_law_chains" P__law_chains (spD K 3 wChains)) (G_chain_count : CalK P w K mg base 6 "chain_count" P_chain_count 2 "kind" dv (spD K 3 wCount)) (G_each_chain : CalGK P w K mg base 7 "each_chain" P_each_chain 2 "kind" dv (spGD K 3 wEach))
    (G__law_near_values : Cal P w K mg base 3 "_law_near_values" P__law_near_values (spF K 4 wNear)) (G_is_chain : CalK P w K mg base 6 "is_chain" P_is_chain 3 "kind" dv (spD K 4 wIsChain)) (G__law_is_due : Cal P w K mg base 2 "_law_is_due" P__law_is_due (spD K 4 wDue)) :
    FnOk P w K mg base CX0 12 D.f D.fd P__law_small_right (spD K 2 wSmall) := by
  refine fn_data D.F sc__law_small_right rfl fun cdv A outer s H E hr => ?_
  have hu := hr.units
  refine ⟨_, (pss_cons (ps_par rfl sc__law_small_right.nd (i := 2) (j := 3) rfl rfl (by decide) rfl rfl (pa_cons (pe_op (opK_add (K := K) rfl) pe_int (pe_call G__law_roll.ok (hr.mono (by decide)) rfl G__law_roll.m G__law_roll.kp G__law_roll.b .nil pass0 (pa_cons (pv 0) (pa_cons pe_int pa_nil)))) (pa_cons (pe_call G__law_row_drawn.ok (hr.mono (by decide)) rfl G__law_row_drawn.m G__law_row_drawn.kp G__law_row_drawn.b .nil pass0 (pa_cons (pv 0) (pa_cons (pe_call G__law_roll.ok (hr.mono (by decide)) rfl G__law_roll.m G__law_roll.kp G__law_roll.b .nil pass0 (pa_cons (pv 0) (pa_cons pe_int pa_nil))) pa_nil))) pa_nil)) rfl) (pss_cons (ps_set (i := 4) sc__law_small_right.nd rfl (Or.inl rfl) (pe_call G__law_chains.ok (hr.mono (by decide)) rfl G__law_chains.m G__law_chains.kp G__law_chains.b .nil pass0 (pa_cons (pv 2) (pa_cons (pv 3) (pa_cons (pv 1) pa_nil))))) (pss_cons (ps_if (PW.pt (pw_or (pt_cmpR (opK_ne (K := K) rfl hu) (pe_callN G_chain_count.ok (hr.mono (by decide)) rfl G_chain_count.m G_chain_count.kp G_chain_count.bk pass0 (pa_cons (pv 2) (pa_cons (pv 3) pa_nil)) (pk_cons (pv 1) pk_nil)) (pe_callB (crK_len (K := K) rfl) rfl T.n_len (by decide +kernel) (pa_cons (pv 4) pa_nil)) (nomark _)) (pw_or1 (pt_cmpR (opK_ne (K := K) rfl hu) (pe_listG (pgen_callN G_each_chain.ok (hr.mono (by decide)) rfl G_each_chain.m G_each_chain.kp G_each_chain.bk (pa_cons (pv 2) (pa_cons (pv 3) pa_nil)) (pk_cons (pv 1) pk_nil)) passF noStop0 (hr.mono (by decide)) rfl T.n_list (by decide +kernel)) (pv 4) (nomark _))))) (pss_one (ps_ret pe_bl)) pss_nil) (pss_cons (ps_for PassesOwn.never rfl (pi_list (pe_call G__law_near_values.ok (hr.mono (by decide)) rfl G__law_near_values.m G__law_near_values.kp G__law_near_values.b .nil pass0 (pa_cons (pv 0) (pa_cons (pv 2) (pa_cons (pv 3) (pa_cons (pv 4) pa_nil)))))) (pg_name (i := 5) sc__law_small_right.nd rfl (Or.inl rfl)) (pss_one (ps_if (pt_cmpR (opK_ne (K := K) rfl hu) (pe_callB cr_reprB rfl T.n_repr (by decide +kernel) (pa_cons (pe_callN G_is_chain.ok (hr.mono (by decide)) rfl G_is_chain.m G_is_chain.kp G_is_chain.bk pass0 (pa_cons (pv 2) (pa_cons (pv 3) (pa_cons (pv 5) pa_nil))) (pk_cons (pv 1) pk_nil)) pa_nil)) (pe_callB cr_reprB rfl T.n_repr (by decide +kernel) (pa_cons (pe_call G__law_is_due.ok (hr.mono (by decide)) rfl G__law_is_due.m G__law_is_due.kp G__law_is_due.b .nil pass0 (pa_cons (pv 2) (pa_cons (pv 3) (pa_cons (pv 5) (pa_cons (pv 1) pa_nil))))) pa_nil)) (nomark _)) (pss_one (ps_ret pe_bl)) pss_nil))) (pss_one (ps_ret pe_bl)))))), ?_⟩
  rintro es Φ ⟨l, s, t, low, rfl, hl, kk⟩ _
  have small : B 1000 6 := by unfold B; decide
  refine ds_seq (ds_par ?_)
  walk_at "e"
  refine ⟨rfl, _, rfl, l, s, t, 6, rfl, hl, by decide, small, ?_⟩
  intro q l1 t1 q0 q1 hl1 ds2 rest e
  cases e
  refine rd_addBI ?_
  refine da_cons (dw_callO rfl ?_)
  refine da_cons (dw_callO rfl ?_)
  walk_at "e"
  refine ⟨rfl, _, rfl, l1, s, t1, 6, rfl, hl1, by decide, small, ?_⟩
  intro v l2 t2 v0 v1 hl2 ds2 rest e
  cases e
  walk_at "e"
  refine ⟨rfl, _, rfl, l2, s, t2, v, rfl, hl2, v0, by omega, ?_⟩
  intro r l3 t3 ho hsum hl3 ds2 rest e
  cases e
  have hr2 : RowP r := ⟨ho, by omega⟩
  have hs5 : r.sum ≤ 5 := by omega
  walk_at "e"
  refine ⟨_, _, rfl, .inl (by decide), .inl (by decide), ?_⟩
  generalize hb : 1 + q = b
  have hb0 : 1 ≤ b := by omega
  have hb1 : b ≤ 6 := by omega
  obtain ⟨_, c2, c3, _, c5⟩ := chk_parts (chk_all (low := low) hb0 hb1 ho hs5)
  refine ds_seq (ds_asg ?_)
  walk_at "e"
  refine ⟨rfl, b, r, low, rfl, hb0, hb1, hr2, hs5, ?_⟩
  refine dg_name (.inl (by decide)) ?_
  refine ds_seq (ds_if (dt_or (dt_test (dw_op (dw_callN ?_)))))
  walk_at "e"
  refine ⟨rfl, rfl, rfl, b, r, low, rfl, hb0, by omega, hr2, ?_⟩
  walk_at "e"
  rw [List.length_map, c3, eqI, decide_eq_true rfl]
  refine ⟨fun _ => ?_, fun z => nomatch z⟩
  refine dt_test (dw_op (dw_listGN ?_))
  walk_at "e"
  refine ⟨rfl, rfl, rfl, b, r, low, rfl, hb0, hb1, hr2, hs5, ?_⟩
  rw [c2]
  walk_at "e"
  refine rd_neS (sh_rows _) (eqv_rows _) ?_
  refine ⟨_, rfl, fun z => (nomatch z), fun _ => ?_⟩
  refine ds_next ?_
  refine ds_seq (ds_for (di_lst (dw_fresh (df_callO rfl ?_))))
  walk_at "e"
  refine ⟨rfl, _, rfl, l3, s, t3, b, r, lawCh b (wordL r) low, rfl, hl3, hb0, hb1, hr2, hs5, fun c hc => ?_, c5, ?_⟩
  · have := lawK_len _ c hc
    have h2 : ((wordL r).length : Int) = r.sum := len_word ho
    omega
  intro ds l4 t4 hl4 hn ds2 rest e
  cases e
  refine ⟨ds, rfl, fun i ρ' => ∃ a, ρ' = [some (dice l4 s t4), some (.val (.str (kS low))), some (.val (.int b)), some (.val (row r)), some (.val (.list ((lawCh b (wordL r) low).map row))), a], ⟨_, rfl⟩, ?_, ?_⟩
  · rintro i d ρ' hd ⟨a, rfl⟩
    have hlo := hn.2 d (List.mem_of_getElem? hd)
    refine dg_name (.inl (by decide)) ?_
    refine ds_if (dt_test (dw_op (dw_cb (da_cons (dw_callN ?_)))))
    walk_at "e"
    refine ⟨rfl, rfl, rfl, b, r, d, low, rfl, hb0, by omega, hr2, hlo, ?_⟩
    walk_at "e"
    refine ⟨rfl, b, r, d, low, rfl, hr2, hlo, ?_⟩
    walk_at "e"
    refine rd_neT ?_
    rw [decide_eq_true rfl]
    refine ⟨_, rfl, fun z => (nomatch z), fun _ => ?_⟩
    exact ds_next ⟨_, rfl⟩
  · rintro ρ' ⟨a, rfl⟩
    walk_at "e"
    exact kk l4 t4 hl4
theorem ok_great (T : Txt w K mg) {dv : Str} (D : TD K mg "_law_great_right" s__law_great_right P__law_great_right) (G__law_roll : Cal P w K mg base 1 "_law_roll" P__law_roll (spD K 2 wRoll)) (G__law_row_drawn : Cal P w K mg base 3 "_law_row_drawn" P__law_row_drawn (spD K 2 wDrawn))
    (G__law_steps_in : Cal P w K mg base 1 "_law_steps_in" P__law_steps_in (spD K 2 wStepsIn)) (G__law_choose : Cal P w K mg base 1 "_law_choose" P__law_choose (spD K 2 wChoose)) (G_chain_count : CalK P w K mg base 6 "chain_count" P_chain_count 2 "kind" dv (spD K 3 wCount))
    (G_chain_share : Cal P w K mg base 5 "chain_share" P_chain_share (spD K 3 wShare)) (G__law_chain_share : Cal P w K mg base 4 "_law_chain_share" P__law_chain_share (spD K 3 wShare)) :
    FnOk P w K mg base CX0 7 D.f D.fd P__law_great_right (spD K 2 wSmall) := by
  refine fn_data D.F sc__law_great_right rfl fun cdv A outer s H E hr => ?_
  have hu := hr.units
  refine ⟨_, (pss_cons (ps_par rfl sc__law_great_right.nd (i := 2) (j := 3) rfl rfl (by decide) rfl rfl (pa_cons (pe_op (opK_add (K := K) rfl) pe_int (pe_call G__law_roll.ok (hr.mono (by decide)) rfl G__law_roll.m G__law_roll.kp G__law_roll.b .nil pass0 (pa_cons (pv 0) (pa_cons pe_int pa_nil)))) (pa_cons (pe_call G__law_row_drawn.ok (hr.mono (by decide)) rfl G__law_row_drawn.m G__law_row_drawn.kp G__law_row_drawn.b .nil pass0 (pa_cons (pv 0) (pa_cons (pe_op (opK_add (K := K) rfl) pe_int (pe_call G__law_roll.ok (hr.mono (by decide)) rfl G__law_roll.m G__law_roll.kp G__law_roll.b .nil pass0 (pa_cons (pv 0) (pa_cons pe_int pa_nil)))) pa_nil))) pa_nil)) rfl) (pss_cons (ps_set (i := 4) sc__law_great_right.nd rfl (Or.inl rfl) (pe_op op_sub (pe_op op_sub (pe_op (opK_add (K := K) rfl) (pe_op op_sub (pv 2) pe_int) (pe_callB (cr_sumB (K := K) rfl rfl) rfl T.n_sum (by decide +kernel) (pa_cons (pv 3) pa_nil))) pe_int) (pe_call G__law_steps_in.ok (hr.mono (by decide)) rfl G__law_steps_in.m G__law_steps_in.kp G__law_steps_in.b .nil pass0 (pa_cons (pv 3) (pa_cons (pv 1) pa_nil))))) (pss_cons (ps_set (i := 5) sc__law_great_right.nd rfl (Or.inl rfl) (pe_ifExp (pt_cmpR op_ge (pv 4) (pe_callB (cr_sumB (K := K) rfl rfl) rfl T.n_sum (by decide +kernel) (pa_cons (pv 3) pa_nil)) (nomark _)) (pe_call G__law_choose.ok (hr.mono (by decide)) rfl G__law_choose.m G__law_choose.kp G__law_choose.b .nil pass0 (pa_cons (pv 4) (pa_cons (pe_callB (cr_sumB (K := K) rfl rfl) rfl T.n_sum (by decide +kernel) (pa_cons (pv 3) pa_nil)) pa_nil))) pe_int)) (pss_cons (ps_if (pt_cmpR (opK_ne (K := K) rfl hu) (pe_callN G_chain_count.ok (hr.mono (by decide)) rfl G_chain_count.m G_chain_count.kp G_chain_count.bk pass0 (pa_cons (pv 2) (pa_cons (pv 3) pa_nil)) (pk_cons (pv 1) pk_nil)) (pv 5) (nomark _)) (pss_one (ps_ret pe_bl)) pss_nil) (pss_cons (ps_set (i := 6) sc__law_great_right.nd rfl (Or.inl rfl) (pe_callTy (crK_tupOf (K := K) rfl) rfl T.n_tuple (by decide +kernel) (pa_cons (pe_lc (own := [("_law_place", 7)]) (g := gName 7) (tt := tYes) rfl sc__law_great_right.nd (pi_range1 rfl T.n_range (pa_cons (pe_callB (cr_sumB (K := K) rfl rfl) rfl T.n_sum (by decide +kernel) (pa_cons (pv 3) pa_nil)) pa_nil)) (blkOk_by (own := [("_law_place", 7)]) (N := N__law_great_right) (sc := defScope s__law_great_right) (by decide +kernel)) (fun _ _ _ _ _ => pg_name (i := 7) sc__law_great_right.nd rfl (Or.inl rfl)) (fun _ _ _ _ _ => pts_nil) (fun _ _ _ _ _ => (pe_op (opK_add (K := K) rfl) pe_int (pe_call G__law_roll.ok (hr.mono (by decide)) rfl G__law_roll.m G__law_roll.kp G__law_roll.b .nil pass0 (pa_cons (pv 0) (pa_cons pe_int pa_nil)))))) pa_nil))) (pss_one (ps_ret (pe_cmpR (opK_eq (K := K) rfl hu) (pe_call G_chain_share.ok (hr.mono (by decide)) rfl G_chain_share.m G_chain_share.kp G_chain_share.b .nil pass0 (pa_cons pe_int (pa_cons (pv 3) (pa_cons (pv 6) pa_nil)))) (pe_call G__law_chain_share.ok (hr.mono (by decide)) rfl G__law_chain_share.m G__law_chain_share.kp G__law_chain_share.b .nil pass0 (pa_cons pe_int (pa_cons (pv 3) (pa_cons (pv 6) pa_nil)))) (nomark _))))))))), ?_⟩
  rintro es Φ ⟨l, s, t, low, rfl, hl, kk⟩ _
  have small : ∀ v : Int, 0 < v → v ≤ 300 → B 1000 v := fun v h0 h1 => by
    unfold B
    have : v.natAbs < 512 := by omega
    exact Nat.lt_trans this (by decide)
  refine ds_seq (ds_par ?_)
  walk_at "e"
  refine ⟨rfl, _, rfl, l, s, t, 200, rfl, hl, by decide, small _ (by decide) (by decide), ?_⟩
  intro q l1 t1 q0 q1 hl1 ds2 rest e
  cases e
  refine rd_addBI ?_
  refine da_cons (dw_callO rfl ?_)
  refine da_cons (dw_op ?_)
  walk_at "e"
  refine ⟨rfl, _, rfl, l1, s, t1, 40, rfl, hl1, by decide, small _ (by decide) (by decide), ?_⟩
  intro v l2 t2 v0 v1 hl2 ds2 rest e
  cases e
  refine rd_addBI ?_
  walk_at "e"
  refine ⟨rfl, _, rfl, l2, s, t2, 1 + v, rfl, hl2, by omega, by omega, ?_⟩
  intro r l3 t3 ho hsum hl3 ds2 rest e
  cases e
  have hr2 : RowP r := ⟨ho, by omega⟩
  have hrn : r ≠ [] := fun z => by subst z; simp at hsum; omega
  have hs0 := ones_len ho
  have hlen : ((wordL r).length : Int) = r.sum := len_word ho
  have hf := flL_sum low (wordL r)
  walk_at "e"
  refine ⟨_, _, rfl, .inl (by decide), .inl (by decide), ?_⟩
  generalize hb : 1 + q = b
  have hb0 : 1 ≤ b := by omega
  have hb1 : b ≤ 200 := by omega
  walk_at "e"
  refine rc_sumU ?_
  walk_at "e"
  refine ⟨rfl, r, low, rfl, hr2, hrn, ?_⟩
  walk_at "e"
  obtain ⟨n, hn⟩ : ∃ n : Nat, b - 1 + r.sum - 1 - (flL low (wordL r)).sum = (n : Int) := ⟨(b - 1 + r.sum - 1 - (flL low (wordL r)).sum).toNat, by omega⟩
  obtain ⟨m, hm⟩ : ∃ m : Nat, r.sum = (m : Int) := ⟨r.sum.toNat, by omega⟩
  have hcnt : cntC b r low = PySem.W.mcComb (n : Int) (m : Int) := by
    unfold cntC
    rw [if_neg (by omega), hn, hm]
  rw [hn]
  refine dw_mid (fun d => d = .int (PySem.W.mcComb (n : Int) (m : Int))) ?_ ?_
  · refine dw_if ?_
    walk_at "e"
    refine rc_sumU ?_
    rw [hm]
    walk_at "e"
    refine ⟨fun h => ?_, fun h => ?_⟩
    · walk_at "e"
      refine rc_sumU ?_
      rw [hm]
      walk_at "e"
      exact ⟨rfl, n, m, rfl, by omega, by omega, rfl, rfl⟩
    · have h : ¬ (m : Int) ≤ n := of_decide_eq_false h
      walk_at "e"
      refine ⟨?_, rfl⟩
      rw [PySem.W.mcComb_above (by omega)]
  rintro d rfl
  refine dg_name (.inl (by decide)) ?_
  refine ds_seq (ds_if (dt_test (dw_op (dw_callN ?_))))
  walk_at "e"
  refine ⟨rfl, rfl, rfl, b, r, low, rfl, hb0, hb1, hr2, ?_⟩
  walk_at "e"
  rw [hcnt, eqI, decide_eq_true rfl]
  refine ⟨fun z => (nomatch z), fun _ => ?_⟩
  refine ds_next ?_
  have hnil : ∀ v : Int, v ∈ ([] : List Int) → 1 ≤ v ∧ v < 10 := fun v h => by cases h
  refine ds_seq (ds_asg (dw_cb (da_cons (dw_fresh (df_lc (di_rng1 ?_))))))
  walk_at "e"
  refine rc_sumU ?_
  rw [hm]
  walk_at "e"
  refine ⟨_, rfl, ⟨by omega, by omega⟩, by decide, by rw [rngD_len]; omega, rfl, fun i out ρ' => ∃ (l' t' : Int) (ns : List Int), 0 ≤ l' ∧ ns.length = i ∧ (∀ v : Int, v ∈ ns → 1 ≤ v ∧ v < 10) ∧ out = ns.map PyData.int ∧ ρ' = [some (dice l' s t'), some (.val (.str (kS low))), some (.val (.int b)), some (.val (row r)), some (.val (.int n)), some (.val (.int (PySem.W.mcComb (n : Int) (m : Int)))), none, none], ⟨l3, t3, [], hl3, rfl, hnil, rfl, rfl⟩, ?_, ?_⟩
  · rintro i d out ρ' hd ⟨l1, t1, ns, hl1, hns, hv, rfl, rfl⟩ _
    obtain ⟨hi, rfl⟩ := rngD_get hd
    walk_at "e"
    refine ⟨rfl, _, rfl, l1, s, t1, 9, rfl, hl1, by decide, small _ (by decide) (by decide), ?_⟩
    intro q l2 t2 q0 q1 hl2 ds2 rest e
    cases e
    refine rd_addBI ?_
    refine ⟨l2, t2, ns ++ [1 + q], hl2, by simp [hns], fun x hx => ?_, by rw [List.map_append]; rfl, rfl⟩
    rcases List.mem_append.mp hx with hx | hx
    · exact hv x hx
    · rcases List.mem_singleton.mp hx with rfl
      omega
  rintro out ρ' ⟨l4, t4, ns, hl4, hns, hv, rfl, rfl⟩
  rw [rngD_len] at hns
  walk_at "e"
  refine ⟨rfl, 10, r, ns, rfl, by decide, by decide, hr2, by omega, hv, ?_⟩
  walk_at "e"
  refine ⟨rfl, 10, r, ns, rfl, by decide, by decide, hr2, by omega, hv, ?_⟩
  show RD (rEqA K) K (row [1, _]) (row [1, _]) _
  refine rd_eqS (sh_ints _) (eqv_list _) ?_
  exact kk l4 t4 hl4
end
end K35
namespace K35
open PySem L2 PySem.Spec PyProof.Rows DL
local macro_rules | `(tactic| walk_at "d0") => `(tactic| first
  | (with_reducible refine ds_seq ?_) | (with_reducible refine ds_next ?_) | (with_reducible refine ds_ret ?_) | (with_reducible refine ds_drop ?_) | (with_reducible refine ds_putO ?_) | (with_reducible refine ds_setO ?_) | (with_reducible refine ds_asg ?_)
  | ((with_reducible show DW _ _ (tOp (rIx _) (tVar _) (tC (.int _))) _ _); refine dw_ixO rfl (dw_int ⟨_, _, _, rfl, rfl, rfl, ?_⟩))
  | ((with_reducible show DW _ _ (tOp (rIx _) (tVar _) _) _ _); refine dw_ixO rfl ?_)
  | (with_reducible refine dw_lst ?_) | (with_reducible refine df_lst ?_)
  | ((with_reducible show DW _ _ (tOp rCat (tVar _) _) _ _); refine dw_fresh (df_catO rfl ?_)) | ((with_reducible show DF _ _ (tOp rCat (tVar _) _) _ _); refine df_catO rfl ?_)
  | (with_reducible refine dw_fresh (df_catFF ?_)) | (with_reducible refine df_catFF ?_) | (with_reducible refine df_repF ?_)
  | (with_reducible refine dw_isi ?_) | (with_reducible refine dw_op ?_) | (with_reducible refine dw_un ?_) | (with_reducible refine dw_int ?_) | (with_reducible refine dw_bl ?_) | (with_reducible refine dw_str ?_) | (with_reducible refine dw_non ?_)
  | ((with_reducible show DW _ _ (tVar _) _ _); refine dw_var rfl ?_)
  | (with_reducible refine dw_andV ?_) | (with_reducible refine dw_orV ?_) | (with_reducible refine dw_notV ?_) | (with_reducible refine dw_tup ?_) | (with_reducible refine dw_chain ?_)
  | (with_reducible refine da_nil ?_) | (with_reducible refine da_cons ?_)
  | (with_reducible refine dt_test ?_) | (with_reducible refine dt_B ?_) | (with_reducible refine dt_and ?_) | (with_reducible refine dt_or ?_) | (with_reducible refine dt_not ?_) | (with_reducible refine dt_yes ?_)
  | ((with_reducible show DW _ _ (tCall _ _ _ (tCons (tVar _) _)) _ _); refine dw_callO rfl ?_)
  | (with_reducible refine dw_call ?_) | (with_reducible refine dw_fresh (df_call ?_)) | (with_reducible refine dw_cb ?_)
  | (with_reducible refine rd_addBI ?_) | (with_reducible refine rc_tupL ?_) | (with_reducible refine rc_lstT ?_) | (with_reducible refine rc_reprB ?_) | (with_reducible refine rd_isB ?_) | (with_reducible refine rs_tup ?_) | (with_reducible refine rs_lst ?_) | (with_reducible refine dw_slH ?_) | (with_reducible refine dw_slL ?_) | (with_reducible refine dw_dnew ?_) | (with_reducible refine dw_m1 ?_) | (with_reducible refine rd_i0 ?_) | (with_reducible refine rd_b0 ?_) | (with_reducible refine ru_i ?_) | (with_reducible refine rc_int ?_) | (with_reducible refine rc_intB ?_) | (with_reducible refine rc_abs ?_) | (with_reducible refine rc_max ?_) | (with_reducible refine rc_min ?_) | (with_reducible refine rc_gcd ?_) | (with_reducible refine rc_lenL ?_) | (with_reducible refine rc_lenT ?_)
  | ((with_reducible show RD (rIx _) _ (.tuple _) _ _); refine rd_ixT rfl ?_) | ((with_reducible show RD (rIx _) _ (.list _) _ _); refine rd_ixL rfl ?_)
  | ((with_reducible refine dg_name ?hj ?_); (case hj => first | exact .inl (by decide) | exact .inr (noLst_val rfl) | exact .inr (noLst_none rfl)))
  | ((with_reducible show ∃ b, PyData.bool _ = PyData.bool b ∧ _); refine ⟨_, rfl, ?_⟩)
  | ((with_reducible show RD (rEqA _) _ (.int _) (.int _) _); refine rd_eq rfl rfl ?_) | ((with_reducible show RD (rNeA _) _ (.int _) (.int _) _); refine rd_ne rfl rfl ?_)
  | ((with_reducible show DW _ _ (tTup _) _ _); refine dw_tup ?_) | ((with_reducible show List.length _ ≤ 100000 ∧ _); refine ⟨Nat.le_of_ble_eq_true rfl, ?_⟩)
  | (((with_reducible show (_ = true → _) ∧ (_ = false → _)); first | (refine ⟨fun _ => ?_, fun z => Bool.noConfusion (show true = false from z)⟩) | (refine ⟨fun z => Bool.noConfusion (show false = true from z), fun _ => ?_⟩)))
  | (((with_reducible show (_ = false → _) ∧ (_ = true → _)); first | (refine ⟨fun _ => ?_, fun z => Bool.noConfusion (show false = true from z)⟩) | (refine ⟨fun z => Bool.noConfusion (show true = false from z), fun _ => ?_⟩)))
  | (with_reducible refine dgs_nil ?_) | (with_reducible refine dgs_cons ?_))
local macro_rules | `(tactic| walk_at "d1") => `(tactic| first | walk_at "d0" | (with_reducible refine ds_if ?_) | (with_reducible refine dw_if ?_))
local macro_rules | `(tactic| walk_at "e") => `(tactic| ((try dsimp only [cxOf, Cx.nox, Cx.wish, ownD]); repeat (walk_at "d0")))
local macro_rules | `(tactic| walk_at "d") => `(tactic| ((try dsimp only [cxOf, Cx.nox, Cx.wish, ownD]); repeat (walk_at "d1")))

abbrev s_law : Stmt := topS 50
abbrev N_law : List Str := ["_law_script", "_law_spot", "_law_dice_here", "_law_sort", "_law_told"]
abbrev P_law : List Str := ["_law_script"]
theorem sc_law : FnScope N_law P_law (defScope s_law) := ⟨rfl, rfl, rfl, by decide +kernel, rfl, by decide +kernel, by decide +kernel⟩
section
variable {P : Program} {w : World} {K : PySem.W.Frag} {mg : Str → Option Value} {base : Heap} {Ψ : PyData → Prop}
def wLaw : SpW := fun es Φ => ∃ ns : List Int, es = [.val (.list (ns.map .int))] ∧ ns.length ≤ 63 ∧ Φ (.bool true) es
theorem lo_s : Str.ofString "low" = kS true := rfl
theorem hi_s : Str.ofString "high" = kS false := rfl
theorem rp (r : List Int) (h : (r.all (fun e => decide (1 ≤ e)) && decide (r.sum ≤ 40)) = true) : RowP r := by
  rw [Bool.and_eq_true] at h
  exact ⟨fun e he => of_decide_eq_true (List.all_eq_true.mp h.1 e he), of_decide_eq_true h.2⟩
theorem v1 : cntC 4 [2, 1] false = 10 := by decide +kernel
theorem v2 : prodK 3 (wordL [3]) [2, 2, 1] (wordL [3]).length = 8 := by decide +kernel
theorem v3 : prodK 3 (wordL [2, 1]) [2, 1, 1] (wordL [2, 1]).length = 8 := by decide +kernel
theorem v4 : cntC 1 [] true = 1 := by decide +kernel
theorem v5 : progCh 5 (wordL []) true = [[]] := by decide +kernel
theorem v6 : isChD true 1 [] (.tuple []) = true := by decide +kernel
theorem v7 : isChD true 4 [2, 1] (.tuple [.int 3, .int 3, .int 2]) = true := by decide +kernel
theorem v8 : isChD true 4 [2, 1] (.tuple [.int 3, .int 2, .int 2]) = false := by decide +kernel
theorem v9 : isChD false 4 [2, 1] (.tuple [.int 3, .int 2, .int 2]) = true := by decide +kernel
theorem va : isChD true 4 [1] (.tuple [.bool true]) = false := by decide +kernel
theorem lo2 {xs : List PyData} (h : xs.length ≤ 100000) : LenOk (.tuple xs) := lo_tup h
theorem ok_law (T : Txt w K mg) (D : TD K mg "law" s_law P_law) (G__law_dice : Cal P w K mg base 1 "_law_dice" P__law_dice (spF K 2 wDice)) (G__law_small_right : Cal P w K mg base 12 "_law_small_right" P__law_small_right (spD K 2 wSmall)) (G__law_great_right : Cal P w K mg base 7 "_law_great_right" P__law_great_right (spD K 2 wSmall))
    (G_chain_count : CalK P w K mg base 6 "chain_count" P_chain_count 2 "kind" "low" (spD K 3 wCount)) (G_each_chain : CalGK P w K mg base 7 "each_chain" P_each_chain 2 "kind" "low" (spGD K 3 wEach)) (G_is_chain : CalK P w K mg base 6 "is_chain" P_is_chain 3 "kind" "low" (spD K 4 wIsChain))
    (G_chain_share : Cal P w K mg base 5 "chain_share" P_chain_share (spD K 3 wShare)) : FnOk P w K mg base CX0 13 D.f D.fd P_law (spD K 1 wLaw) := by
  refine fn_data D.F sc_law rfl fun cdv A outer s H E hr => ?_
  have hu := hr.units
  refine ⟨_, (pss_cons (ps_for PassesOwn.never rfl (pi_range1 rfl T.n_range (pa_cons (pe_callB (call_max2 rfl) rfl T.n_max (by decide +kernel) (pa_cons pe_int (pa_cons (pe_callB (call_min2 rfl) rfl T.n_min (by decide +kernel) (pa_cons pe_int (pa_cons (pe_callB (crK_len (K := K) rfl) rfl T.n_len (by decide +kernel) (pa_cons (pv 0) pa_nil)) pa_nil))) pa_nil))) pa_nil)) (pg_name (i := 1) sc_law.nd rfl (Or.inl rfl)) (pss_cons (ps_set (i := 2) sc_law.nd rfl (Or.inl rfl) (pe_call G__law_dice.ok (hr.mono (by decide)) rfl G__law_dice.m G__law_dice.kp G__law_dice.b .nil pass0 (pa_cons (pv 0) (pa_cons (pv 1) pa_nil)))) (pss_one (ps_for PassesOwn.never rfl (pi_tup (pe_tup (pa_cons pe_str (pa_cons pe_str pa_nil)))) (pg_name (i := 3) sc_law.nd rfl (Or.inl rfl)) (pss_one (ps_if (PW.pt (pw_or (pt_not (pt_val (pe_call G__law_small_right.ok (hr.mono (by decide)) rfl G__law_small_right.m G__law_small_right.kp G__law_small_right.b .nil pass0 (pa_cons (pv 2) (pa_cons (pv 3) pa_nil))))) (pw_or1 (pt_not (pt_val (pe_call G__law_great_right.ok (hr.mono (by decide)) rfl G__law_great_right.m G__law_great_right.kp G__law_great_right.b .nil pass0 (pa_cons (pv 2) (pa_cons (pv 3) pa_nil)))))))) (pss_one (ps_ret pe_bl)) pss_nil)))))) (pss_cons (ps_set (i := 4) sc_law.nd rfl (Or.inl rfl) (pe_lst (pa_cons (pe_callN G_chain_count.ok (hr.mono (by decide)) rfl G_chain_count.m G_chain_count.kp G_chain_count.bk pass0 (pa_cons pe_int (pa_cons (pe_tup (pa_cons pe_int (pa_cons pe_int pa_nil))) pa_nil)) (pk_cons pe_str pk_nil)) (pa_cons (pe_call G_chain_share.ok (hr.mono (by decide)) rfl G_chain_share.m G_chain_share.kp G_chain_share.b .nil pass0 (pa_cons pe_int (pa_cons (pe_tup (pa_cons pe_int pa_nil)) (pa_cons (pe_tup (pa_cons pe_int (pa_cons pe_int (pa_cons pe_int pa_nil)))) pa_nil)))) (pa_cons (pe_call G_chain_share.ok (hr.mono (by decide)) rfl G_chain_share.m G_chain_share.kp G_chain_share.b .nil pass0 (pa_cons pe_int (pa_cons (pe_tup (pa_cons pe_int (pa_cons pe_int pa_nil))) (pa_cons (pe_tup (pa_cons pe_int (pa_cons pe_int (pa_cons pe_int pa_nil)))) pa_nil)))) (pa_cons (pe_call G_chain_count.ok (hr.mono (by decide)) rfl G_chain_count.m G_chain_count.kp G_chain_count.b G_chain_count.vd pass0 (pa_cons pe_int (pa_cons (pe_tup pa_nil) pa_nil))) pa_nil)))))) (pss_cons (ps_if (PW.pt (pw_or (pt_cmpR (opK_ne (K := K) rfl hu) (pv 4) (pe_lst (pa_cons pe_int (pa_cons (pe_tup (pa_cons pe_int (pa_cons pe_int pa_nil))) (pa_cons (pe_tup (pa_cons pe_int (pa_cons pe_int pa_nil))) (pa_cons pe_int pa_nil))))) (nomark _)) (pw_or (pt_cmpR (opK_ne (K := K) rfl hu) (pe_listG (pgen_call G_each_chain.ok (hr.mono (by decide)) rfl G_each_chain.m G_each_chain.kp G_each_chain.b G_each_chain.vd (pa_cons pe_int (pa_cons (pe_tup pa_nil) pa_nil))) passF noStop0 (hr.mono (by decide)) rfl T.n_list (by decide +kernel)) (pe_lst (pa_cons (pe_tup pa_nil) pa_nil)) (nomark _)) (pw_or1 (pt_not (pt_val (pe_call G_is_chain.ok (hr.mono (by decide)) rfl G_is_chain.m G_is_chain.kp G_is_chain.b G_is_chain.vd pass0 (pa_cons pe_int (pa_cons (pe_tup pa_nil) (pa_cons (pe_tup pa_nil) pa_nil)))))))))) (pss_one (ps_ret pe_bl)) pss_nil) (pss_cons (ps_set (i := 4) sc_law.nd rfl (Or.inl rfl) (pe_lst (pa_cons (pe_call G_is_chain.ok (hr.mono (by decide)) rfl G_is_chain.m G_is_chain.kp G_is_chain.b G_is_chain.vd pass0 (pa_cons pe_int (pa_cons (pe_tup (pa_cons pe_int (pa_cons pe_int pa_nil))) (pa_cons (pe_tup (pa_cons pe_int (pa_cons pe_int (pa_cons pe_int pa_nil)))) pa_nil)))) (pa_cons (pe_call G_is_chain.ok (hr.mono (by decide)) rfl G_is_chain.m G_is_chain.kp G_is_chain.b G_is_chain.vd pass0 (pa_cons pe_int (pa_cons (pe_tup (pa_cons pe_int (pa_cons pe_int pa_nil))) (pa_cons (pe_tup (pa_cons pe_int (pa_cons pe_int (pa_cons pe_int pa_nil)))) pa_nil)))) (pa_cons (pe_callN G_is_chain.ok (hr.mono (by decide)) rfl G_is_chain.m G_is_chain.kp G_is_chain.bk pass0 (pa_cons pe_int (pa_cons (pe_tup (pa_cons pe_int (pa_cons pe_int pa_nil))) (pa_cons (pe_tup (pa_cons pe_int (pa_cons pe_int (pa_cons pe_int pa_nil)))) pa_nil))) (pk_cons pe_str pk_nil)) pa_nil))))) (pss_one (ps_ret (pe_and (pe_cmpR (opK_eq (K := K) rfl hu) (pv 4) (pe_lst (pa_cons pe_bl (pa_cons pe_bl (pa_cons pe_bl pa_nil)))) (nomark _)) (pe_one (pe_not (pe_call G_is_chain.ok (hr.mono (by decide)) rfl G_is_chain.m G_is_chain.kp G_is_chain.b G_is_chain.vd pass0 (pa_cons pe_int (pa_cons (pe_tup (pa_cons pe_int pa_nil)) (pa_cons (pe_tup (pa_cons pe_bl pa_nil)) pa_nil))))))))))))), ?_⟩
  rintro es Φ ⟨ns, rfl, hlen, kk⟩ _
  refine ds_seq (ds_for (di_rng1 ?_))
  walk_at "e"
  generalize hN : (if (if ((List.map PyData.int ns).length : Int) < 4 then ((List.map PyData.int ns).length : Int) else 4) > 1 then (if ((List.map PyData.int ns).length : Int) < 4 then ((List.map PyData.int ns).length : Int) else 4) else 1) = N
  have hN2 : 1 ≤ N ∧ N ≤ 4 := by
    rw [← hN]
    repeat' split
    all_goals omega
  refine ⟨_, rfl, ⟨by omega, by omega⟩, fun i ρ' => ∃ a c e, ρ' = [some (.val (.list (ns.map .int))), a, c, e, none], ⟨_, _, _, rfl⟩, fun i d ρ' hd ⟨a, c, e, hρ⟩ => ?_, fun ρ' ⟨a, c, e, hρ⟩ => ?_⟩
  · obtain ⟨hi, rfl⟩ := rngD_get hd
    subst hρ
    rw [Int.zero_add]
    refine dg_name (.inl (by decide)) ?_
    refine ds_seq (ds_asgF (df_call ?_))
    walk_at "e"
    refine ⟨rfl, ns, i, rfl, by omega, fun l s hl => ⟨by decide, ?_⟩⟩
    refine ds_for (di_tup (dw_tup ?_))
    walk_at "e"
    refine ⟨_, rfl, fun j ρ' => ∃ l' t' e, 0 ≤ l' ∧ ρ' = [some (.val (.list (ns.map .int))), some (.val (.int i)), some (dice l' s t'), e, none], ⟨l, 0, e, hl, rfl⟩, ?_, ?_⟩
    · rintro j d ρ' hd ⟨l1, t1, e1, hl1, rfl⟩
      obtain ⟨low, rfl⟩ : ∃ low, d = .str (kS low) := by
        cases j with
        | zero => cases hd; exact ⟨true, rfl⟩
        | succ j =>
          cases j with
          | zero => cases hd; exact ⟨false, rfl⟩
          | succ j => simp at hd
      refine dg_name (.inl (by decide)) ?_
      refine ds_if (dt_or (dt_not (dt_test (dw_callO rfl ?_))))
      walk_at "e"
      refine ⟨rfl, _, rfl, l1, s, t1, low, rfl, hl1, fun l2 t2 hl2 ds2 rest e => ?_⟩
      cases e
      refine ⟨_, rfl, fun _ => ?_, fun z => (nomatch z)⟩
      refine dt_not (dt_test (dw_callO rfl ?_))
      walk_at "e"
      refine ⟨rfl, _, rfl, l2, s, t2, low, rfl, hl2, fun l3 t3 hl3 ds2 rest e => ?_⟩
      cases e
      refine ⟨_, rfl, fun z => (nomatch z), fun _ => ?_⟩
      exact ds_next ⟨l3, t3, _, hl3, rfl⟩
    · rintro ρ' ⟨l1, t1, e1, _, rfl⟩
      exact ⟨_, _, _, rfl⟩
  · subst hρ
    have p21 := rp [2, 1] (by decide)
    have p3 := rp [3] (by decide)
    have p0 := rp [] (by decide)
    have p1 := rp [1] (by decide)
    refine ds_seq (ds_asg (dw_lst (da_cons (dw_callN ?_))))
    walk_at "e"
    refine ⟨rfl, rfl, rfl, 4, [2, 1], false, rfl, by decide, by decide, p21, ?_⟩
    rw [v1]
    walk_at "e"
    refine ⟨rfl, 3, [3], [2, 2, 1], rfl, by decide, by decide, p3, rfl, by decide, ?_⟩
    rw [v2]
    walk_at "e"
    refine ⟨rfl, 3, [2, 1], [2, 1, 1], rfl, by decide, by decide, p21, rfl, by decide, ?_⟩
    rw [v3]
    refine da_cons (dw_callD ?_)
    walk_at "e"
    refine ⟨rfl, 1, [], true, rfl, by decide, by decide, p0, ?_⟩
    rw [v4]
    walk_at "e"
    refine ds_if (dt_or (dt_test (dw_op ?_)))
    walk_at "e"
    refine rd_ne (by decide +kernel) (by decide +kernel) ?_
    rw [show PyData.eqv (.list [.int 10, .tuple [.int 1, .int 8], .tuple [.int 1, .int 8], .int 1]) (.list [.int 10, .tuple [.int 1, .int 8], .tuple [.int 1, .int 8], .int 1]) = true by decide +kernel]
    refine ⟨_, rfl, fun _ => ?_, fun z => (nomatch z)⟩
    refine dt_or (dt_test (dw_op (dw_listGD ?_)))
    walk_at "e"
    refine ⟨rfl, 5, [], true, rfl, by decide, by decide, p0, by decide, ?_⟩
    rw [v5]
    walk_at "e"
    refine rd_ne (by decide +kernel) (by decide +kernel) ?_
    rw [show PyData.eqv (.list (([[]] : List (List Int)).map row)) (.list [.tuple []]) = true by decide +kernel]
    refine ⟨_, rfl, fun _ => ?_, fun z => (nomatch z)⟩
    walk_at "e"
    refine dw_callD ?_
    walk_at "e"
    refine ⟨rfl, 1, [], .tuple [], true, rfl, by decide, by decide, p0, lo2 (by decide), ?_⟩
    rw [v6]
    refine ⟨_, rfl, fun z => (nomatch z), fun _ => ?_⟩
    refine ds_next ?_
    refine ds_seq (ds_asg (dw_lst (da_cons (dw_callD ?_))))
    walk_at "e"
    refine ⟨rfl, 4, [2, 1], .tuple [.int 3, .int 3, .int 2], true, rfl, by decide, by decide, p21, lo2 (by decide), ?_⟩
    rw [v7]
    refine da_cons (dw_callD ?_)
    walk_at "e"
    refine ⟨rfl, 4, [2, 1], .tuple [.int 3, .int 2, .int 2], true, rfl, by decide, by decide, p21, lo2 (by decide), ?_⟩
    rw [v8]
    refine da_cons (dw_callN ?_)
    walk_at "e"
    refine ⟨rfl, rfl, rfl, 4, [2, 1], .tuple [.int 3, .int 2, .int 2], false, rfl, by decide, by decide, p21, lo2 (by decide), ?_⟩
    rw [v9]
    walk_at "e"
    refine rd_eq (by decide +kernel) (by decide +kernel) ?_
    rw [show PyData.eqv (.list [.bool true, .bool false, .bool true]) (.list [.bool true, .bool false, .bool true]) = true by decide +kernel]
    walk_at "e"
    refine dw_callD ?_
    walk_at "e"
    refine ⟨rfl, 4, [1], .tuple [.bool true], true, rfl, by decide, by decide, p1, lo2 (by decide), ?_⟩
    rw [va]
    walk_at "e"
    exact kk
end
end K35
namespace K35
open PySem L2 PySem.Spec PyProof.Rows DL
theorem binds_kw {K : PySem.W.Frag} {x qual : Str} {params : Arguments} {body : List Stmt} {scope : Scope} {D : Addr} {ps : List Str} {kw dv : Str} {tk : Tok} {doc pm : Value} {an : Option Addr} {cdv ct : Value} {n : Nat} (hp : ps.length = n + 1)
    (hq : PySem.W.nsIn K D kw = some (some (.str dv tk)))
    (h : ∀ (us ks : List Value), us.length = n → ks.length = 1 → KwChain D ([kw].zip ks) (bindArgs (PySem.W.fnOf x qual params body scope .none (.ref D) doc pm an cdv ct) ⟨us, []⟩) (ps.zip (us ++ ks))) :
    Binds K (PySem.W.fnOf x qual params body scope .none (.ref D) doc pm an cdv ct) ps [.str dv tk] := by
  intro s us X hlen
  have l2 : us.length = n := by
    rw [List.length_append, hp] at hlen
    have : us.length + 1 = n + 1 := hlen
    omega
  refine BindsTo.of_looks fun M => KwChain.looks X (fun q hq' => ?_) (h us [.str dv tk] l2 rfl)
  rcases List.mem_singleton.mp hq' with rfl
  exact hq
theorem all_mk {l : PySem.W.OpenLaw} {w : World} {K : PySem.W.Frag} {h : Heap} {mg : Str → Option Value} {fa : Addr} (X : K.In h) (G : h.Ns mainGlobals mg) (hfa : mg "law" = some (.ref fa))
    {f0 : Addr} {od0 an0 : Option Addr} {sl0 : Array (Option Value)} {oc0 kV0 dc0 pm0 cd0 ct0 : Value}
    {f1 : Addr} {od1 an1 : Option Addr} {sl1 : Array (Option Value)} {oc1 kV1 dc1 pm1 cd1 ct1 : Value}
    {f2 : Addr} {od2 an2 : Option Addr} {sl2 : Array (Option Value)} {oc2 kV2 dc2 pm2 cd2 ct2 : Value}
    {f3 : Addr} {od3 an3 : Option Addr} {sl3 : Array (Option Value)} {oc3 kV3 dc3 pm3 cd3 ct3 : Value}
    {f4 : Addr} {od4 an4 : Option Addr} {sl4 : Array (Option Value)} {oc4 kV4 dc4 pm4 cd4 ct4 : Value}
    {f5 : Addr} {od5 an5 : Option Addr} {sl5 : Array (Option Value)} {oc5 kV5 dc5 pm5 cd5 ct5 : Value}
    {f6 : Addr} {od6 an6 : Option Addr} {sl6 : Array (Option Value)} {oc6 kV6 dc6 pm6 cd6 ct6 : Value}
    {f7 : Addr} {od7 an7 : Option Addr} {sl7 : Array (Option Value)} {oc7 kV7 dc7 pm7 cd7 ct7 : Value}
    {f8 : Addr} {od8 an8 : Option Addr} {sl8 : Array (Option Value)} {oc8 kV8 dc8 pm8 cd8 ct8 : Value}
    {f9 : Addr} {od9 an9 : Option Addr} {sl9 : Array (Option Value)} {oc9 kV9 dc9 pm9 cd9 ct9 : Value}
    {f10 : Addr} {od10 an10 : Option Addr} {sl10 : Array (Option Value)} {oc10 dc10 pm10 cd10 ct10 : Value} {dk10 : Addr} {kt10 : Tok}
    {f11 : Addr} {od11 an11 : Option Addr} {sl11 : Array (Option Value)} {oc11 dc11 pm11 cd11 ct11 : Value} {dk11 : Addr} {kt11 : Tok}
    {f12 : Addr} {od12 an12 : Option Addr} {sl12 : Array (Option Value)} {oc12 kV12 dc12 pm12 cd12 ct12 : Value}
    {f13 : Addr} {od13 an13 : Option Addr} {sl13 : Array (Option Value)} {oc13 dc13 pm13 cd13 ct13 : Value} {dk13 : Addr} {kt13 : Tok}
    {f14 : Addr} {od14 an14 : Option Addr} {sl14 : Array (Option Value)} {oc14 kV14 dc14 pm14 cd14 ct14 : Value}
    {f15 : Addr} {od15 an15 : Option Addr} {sl15 : Array (Option Value)} {oc15 kV15 dc15 pm15 cd15 ct15 : Value}
    {f16 : Addr} {od16 an16 : Option Addr} {sl16 : Array (Option Value)} {oc16 kV16 dc16 pm16 cd16 ct16 : Value}
    {f17 : Addr} {od17 an17 : Option Addr} {sl17 : Array (Option Value)} {oc17 kV17 dc17 pm17 cd17 ct17 : Value}
    {f18 : Addr} {od18 an18 : Option Addr} {sl18 : Array (Option Value)} {oc18 kV18 dc18 pm18 cd18 ct18 : Value}
    {f19 : Addr} {od19 an19 : Option Addr} {sl19 : Array (Option Value)} {oc19 kV19 dc19 pm19 cd19 ct19 : Value}
    {f20 : Addr} {od20 an20 : Option Addr} {sl20 : Array (Option Value)} {oc20 kV20 dc20 pm20 cd20 ct20 : Value}
    {f21 : Addr} {od21 an21 : Option Addr} {sl21 : Array (Option Value)} {oc21 kV21 dc21 pm21 cd21 ct21 : Value}
    {f22 : Addr} {od22 an22 : Option Addr} {sl22 : Array (Option Value)} {oc22 kV22 dc22 pm22 cd22 ct22 : Value}
    {f23 : Addr} {od23 an23 : Option Addr} {sl23 : Array (Option Value)} {oc23 kV23 dc23 pm23 cd23 ct23 : Value}
    {f24 : Addr} {od24 an24 : Option Addr} {sl24 : Array (Option Value)} {oc24 kV24 dc24 pm24 cd24 ct24 : Value}
    {f25 : Addr} {od25 an25 : Option Addr} {sl25 : Array (Option Value)} {oc25 kV25 dc25 pm25 cd25 ct25 : Value}
    {f26 : Addr} {od26 an26 : Option Addr} {sl26 : Array (Option Value)} {oc26 kV26 dc26 pm26 cd26 ct26 : Value}
    {f27 : Addr} {od27 an27 : Option Addr} {sl27 : Array (Option Value)} {oc27 kV27 dc27 pm27 cd27 ct27 : Value}
    {f28 : Addr} {od28 an28 : Option Addr} {sl28 : Array (Option Value)} {oc28 kV28 dc28 pm28 cd28 ct28 : Value}
    {f29 : Addr} {od29 an29 : Option Addr} {sl29 : Array (Option Value)} {oc29 kV29 dc29 pm29 cd29 ct29 : Value}
    {f30 : Addr} {od30 an30 : Option Addr} {sl30 : Array (Option Value)} {oc30 kV30 dc30 pm30 cd30 ct30 : Value}
    {f31 : Addr} {od31 an31 : Option Addr} {sl31 : Array (Option Value)} {oc31 kV31 dc31 pm31 cd31 ct31 : Value}
    {f32 : Addr} {od32 an32 : Option Addr} {sl32 : Array (Option Value)} {oc32 kV32 dc32 pm32 cd32 ct32 : Value}
    {f33 : Addr} {od33 an33 : Option Addr} {sl33 : Array (Option Value)} {oc33 kV33 dc33 pm33 cd33 ct33 : Value}
    {tk0 : Tok}
    {tk1 : Tok}
    {tk2 : Tok}
    {aK : Addr} {tl th : Tok} {nK : Nat} (y_g : PySem.W.nsIn K mainGlobals "KINDS" = some (some (.ref aK))) (y_at : K.lookup aK = some { cls := Value.type "tuple", data := Data.seq #[.str "low" tl, .str "high" th] nK })
    (a0 : PySem.W.nsIn K mainGlobals "_falls" = some (some (.ref f0))) (l0 : K.lookup f0 = some ⟨oc0, od0, .func (PySem.W.fnOf "_falls" "_falls" (defArgs s__falls) (defBody s__falls) (defScope s__falls) .none kV0 dc0 pm0 an0 cd0 ct0), sl0⟩) (c0 : PySem.W.codeIn K cd0 "_falls" = true) (k0 : PySem.W.keepIn K (.ref f0) = true)
    (a1 : PySem.W.nsIn K mainGlobals "is_whole" = some (some (.ref f1))) (l1 : K.lookup f1 = some ⟨oc1, od1, .func (PySem.W.fnOf "is_whole" "is_whole" (defArgs s_is_whole) (defBody s_is_whole) (defScope s_is_whole) .none kV1 dc1 pm1 an1 cd1 ct1), sl1⟩) (c1 : PySem.W.codeIn K cd1 "is_whole" = true) (k1 : PySem.W.keepIn K (.ref f1) = true)
    (a2 : PySem.W.nsIn K mainGlobals "is_row" = some (some (.ref f2))) (l2 : K.lookup f2 = some ⟨oc2, od2, .func (PySem.W.fnOf "is_row" "is_row" (defArgs s_is_row) (defBody s_is_row) (defScope s_is_row) .none kV2 dc2 pm2 an2 cd2 ct2), sl2⟩) (c2 : PySem.W.codeIn K cd2 "is_row" = true) (k2 : PySem.W.keepIn K (.ref f2) = true)
    (a3 : PySem.W.nsIn K mainGlobals "need_row" = some (some (.ref f3))) (l3 : K.lookup f3 = some ⟨oc3, od3, .func (PySem.W.fnOf "need_row" "need_row" (defArgs s_need_row) (defBody s_need_row) (defScope s_need_row) .none kV3 dc3 pm3 an3 cd3 ct3), sl3⟩) (c3 : PySem.W.codeIn K cd3 "need_row" = true) (k3 : PySem.W.keepIn K (.ref f3) = true)
    (a4 : PySem.W.nsIn K mainGlobals "word_of" = some (some (.ref f4))) (l4 : K.lookup f4 = some ⟨oc4, od4, .func (PySem.W.fnOf "word_of" "word_of" (defArgs s_word_of) (defBody s_word_of) (defScope s_word_of) .none kV4 dc4 pm4 an4 cd4 ct4), sl4⟩) (c4 : PySem.W.codeIn K cd4 "word_of" = true) (k4 : PySem.W.keepIn K (.ref f4) = true)
    (a5 : PySem.W.nsIn K mainGlobals "_are_members" = some (some (.ref f5))) (l5 : K.lookup f5 = some ⟨oc5, od5, .func (PySem.W.fnOf "_are_members" "_are_members" (defArgs s__are_members) (defBody s__are_members) (defScope s__are_members) .none kV5 dc5 pm5 an5 cd5 ct5), sl5⟩) (c5 : PySem.W.codeIn K cd5 "_are_members" = true) (k5 : PySem.W.keepIn K (.ref f5) = true)
    (a6 : PySem.W.nsIn K mainGlobals "need_one_of" = some (some (.ref f6))) (l6 : K.lookup f6 = some ⟨oc6, od6, .func (PySem.W.fnOf "need_one_of" "need_one_of" (defArgs s_need_one_of) (defBody s_need_one_of) (defScope s_need_one_of) .none kV6 dc6 pm6 an6 cd6 ct6), sl6⟩) (c6 : PySem.W.codeIn K cd6 "need_one_of" = true) (k6 : PySem.W.keepIn K (.ref f6) = true)
    (a7 : PySem.W.nsIn K mainGlobals "need_between" = some (some (.ref f7))) (l7 : K.lookup f7 = some ⟨oc7, od7, .func (PySem.W.fnOf "need_between" "need_between" (defArgs s_need_between) (defBody s_need_between) (defScope s_need_between) .none kV7 dc7 pm7 an7 cd7 ct7), sl7⟩) (c7 : PySem.W.codeIn K cd7 "need_between" = true) (k7 : PySem.W.keepIn K (.ref f7) = true)
    (a8 : PySem.W.nsIn K mainGlobals "_need_both" = some (some (.ref f8))) (l8 : K.lookup f8 = some ⟨oc8, od8, .func (PySem.W.fnOf "_need_both" "_need_both" (defArgs s__need_both) (defBody s__need_both) (defScope s__need_both) .none kV8 dc8 pm8 an8 cd8 ct8), sl8⟩) (c8 : PySem.W.codeIn K cd8 "_need_both" = true) (k8 : PySem.W.keepIn K (.ref f8) = true)
    (a9 : PySem.W.nsIn K mainGlobals "_need_kind" = some (some (.ref f9))) (l9 : K.lookup f9 = some ⟨oc9, od9, .func (PySem.W.fnOf "_need_kind" "_need_kind" (defArgs s__need_kind) (defBody s__need_kind) (defScope s__need_kind) .none kV9 dc9 pm9 an9 cd9 ct9), sl9⟩) (c9 : PySem.W.codeIn K cd9 "_need_kind" = true) (k9 : PySem.W.keepIn K (.ref f9) = true)
    (a10 : PySem.W.nsIn K mainGlobals "is_chain" = some (some (.ref f10))) (l10 : K.lookup f10 = some ⟨oc10, od10, .func (PySem.W.fnOf "is_chain" "is_chain" (defArgs s_is_chain) (defBody s_is_chain) (defScope s_is_chain) .none (.ref dk10) dc10 pm10 an10 cd10 ct10), sl10⟩) (c10 : PySem.W.codeIn K cd10 "is_chain" = true) (k10 : PySem.W.keepIn K (.ref f10) = true) (q10 : PySem.W.nsIn K dk10 "kind" = some (some (.str "low" kt10)))
    (a11 : PySem.W.nsIn K mainGlobals "chain_count" = some (some (.ref f11))) (l11 : K.lookup f11 = some ⟨oc11, od11, .func (PySem.W.fnOf "chain_count" "chain_count" (defArgs s_chain_count) (defBody s_chain_count) (defScope s_chain_count) .none (.ref dk11) dc11 pm11 an11 cd11 ct11), sl11⟩) (c11 : PySem.W.codeIn K cd11 "chain_count" = true) (k11 : PySem.W.keepIn K (.ref f11) = true) (q11 : PySem.W.nsIn K dk11 "kind" = some (some (.str "low" kt11)))
    (a12 : PySem.W.nsIn K mainGlobals "_listed_chains" = some (some (.ref f12))) (l12 : K.lookup f12 = some ⟨oc12, od12, .func (PySem.W.fnOf "_listed_chains" "_listed_chains" (defArgs s__listed_chains) (defBody s__listed_chains) (defScope s__listed_chains) .none kV12 dc12 pm12 an12 cd12 ct12), sl12⟩) (c12 : PySem.W.codeIn K cd12 "_listed_chains" = true) (k12 : PySem.W.keepIn K (.ref f12) = true)
    (a13 : PySem.W.nsIn K mainGlobals "each_chain" = some (some (.ref f13))) (l13 : K.lookup f13 = some ⟨oc13, od13, .func (PySem.W.fnOf "each_chain" "each_chain" (defArgs s_each_chain) (defBody s_each_chain) (defScope s_each_chain) .none (.ref dk13) dc13 pm13 an13 cd13 ct13), sl13⟩) (c13 : PySem.W.codeIn K cd13 "each_chain" = true) (k13 : PySem.W.keepIn K (.ref f13) = true) (q13 : PySem.W.nsIn K dk13 "kind" = some (some (.str "low" kt13)))
    (a14 : PySem.W.nsIn K mainGlobals "chain_share" = some (some (.ref f14))) (l14 : K.lookup f14 = some ⟨oc14, od14, .func (PySem.W.fnOf "chain_share" "chain_share" (defArgs s_chain_share) (defBody s_chain_share) (defScope s_chain_share) .none kV14 dc14 pm14 an14 cd14 ct14), sl14⟩) (c14 : PySem.W.codeIn K cd14 "chain_share" = true) (k14 : PySem.W.keepIn K (.ref f14) = true)
    (a15 : PySem.W.nsIn K mainGlobals "_law_word" = some (some (.ref f15))) (l15 : K.lookup f15 = some ⟨oc15, od15, .func (PySem.W.fnOf "_law_word" "_law_word" (defArgs s__law_word) (defBody s__law_word) (defScope s__law_word) .none kV15 dc15 pm15 an15 cd15 ct15), sl15⟩) (c15 : PySem.W.codeIn K cd15 "_law_word" = true) (k15 : PySem.W.keepIn K (.ref f15) = true)
    (a16 : PySem.W.nsIn K mainGlobals "_law_gcd" = some (some (.ref f16))) (l16 : K.lookup f16 = some ⟨oc16, od16, .func (PySem.W.fnOf "_law_gcd" "_law_gcd" (defArgs s__law_gcd) (defBody s__law_gcd) (defScope s__law_gcd) .none kV16 dc16 pm16 an16 cd16 ct16), sl16⟩) (c16 : PySem.W.codeIn K cd16 "_law_gcd" = true) (k16 : PySem.W.keepIn K (.ref f16) = true)
    (a17 : PySem.W.nsIn K mainGlobals "_law_lowest" = some (some (.ref f17))) (l17 : K.lookup f17 = some ⟨oc17, od17, .func (PySem.W.fnOf "_law_lowest" "_law_lowest" (defArgs s__law_lowest) (defBody s__law_lowest) (defScope s__law_lowest) .none kV17 dc17 pm17 an17 cd17 ct17), sl17⟩) (c17 : PySem.W.codeIn K cd17 "_law_lowest" = true) (k17 : PySem.W.keepIn K (.ref f17) = true)
    (a18 : PySem.W.nsIn K mainGlobals "_law_times" = some (some (.ref f18))) (l18 : K.lookup f18 = some ⟨oc18, od18, .func (PySem.W.fnOf "_law_times" "_law_times" (defArgs s__law_times) (defBody s__law_times) (defScope s__law_times) .none kV18 dc18 pm18 an18 cd18 ct18), sl18⟩) (c18 : PySem.W.codeIn K cd18 "_law_times" = true) (k18 : PySem.W.keepIn K (.ref f18) = true)
    (a19 : PySem.W.nsIn K mainGlobals "_law_letter_share" = some (some (.ref f19))) (l19 : K.lookup f19 = some ⟨oc19, od19, .func (PySem.W.fnOf "_law_letter_share" "_law_letter_share" (defArgs s__law_letter_share) (defBody s__law_letter_share) (defScope s__law_letter_share) .none kV19 dc19 pm19 an19 cd19 ct19), sl19⟩) (c19 : PySem.W.codeIn K cd19 "_law_letter_share" = true) (k19 : PySem.W.keepIn K (.ref f19) = true)
    (a20 : PySem.W.nsIn K mainGlobals "_law_chain_share" = some (some (.ref f20))) (l20 : K.lookup f20 = some ⟨oc20, od20, .func (PySem.W.fnOf "_law_chain_share" "_law_chain_share" (defArgs s__law_chain_share) (defBody s__law_chain_share) (defScope s__law_chain_share) .none kV20 dc20 pm20 an20 cd20 ct20), sl20⟩) (c20 : PySem.W.codeIn K cd20 "_law_chain_share" = true) (k20 : PySem.W.keepIn K (.ref f20) = true)
    (a21 : PySem.W.nsIn K mainGlobals "_law_roll" = some (some (.ref f21))) (l21 : K.lookup f21 = some ⟨oc21, od21, .func (PySem.W.fnOf "_law_roll" "_law_roll" (defArgs s__law_roll) (defBody s__law_roll) (defScope s__law_roll) .none kV21 dc21 pm21 an21 cd21 ct21), sl21⟩) (c21 : PySem.W.codeIn K cd21 "_law_roll" = true) (k21 : PySem.W.keepIn K (.ref f21) = true)
    (a22 : PySem.W.nsIn K mainGlobals "_law_choose" = some (some (.ref f22))) (l22 : K.lookup f22 = some ⟨oc22, od22, .func (PySem.W.fnOf "_law_choose" "_law_choose" (defArgs s__law_choose) (defBody s__law_choose) (defScope s__law_choose) .none kV22 dc22 pm22 an22 cd22 ct22), sl22⟩) (c22 : PySem.W.codeIn K cd22 "_law_choose" = true) (k22 : PySem.W.keepIn K (.ref f22) = true)
    (a23 : PySem.W.nsIn K mainGlobals "_law_steps_in" = some (some (.ref f23))) (l23 : K.lookup f23 = some ⟨oc23, od23, .func (PySem.W.fnOf "_law_steps_in" "_law_steps_in" (defArgs s__law_steps_in) (defBody s__law_steps_in) (defScope s__law_steps_in) .none kV23 dc23 pm23 an23 cd23 ct23), sl23⟩) (c23 : PySem.W.codeIn K cd23 "_law_steps_in" = true) (k23 : PySem.W.keepIn K (.ref f23) = true)
    (a24 : PySem.W.nsIn K mainGlobals "_law_pick" = some (some (.ref f24))) (l24 : K.lookup f24 = some ⟨oc24, od24, .func (PySem.W.fnOf "_law_pick" "_law_pick" (defArgs s__law_pick) (defBody s__law_pick) (defScope s__law_pick) .none kV24 dc24 pm24 an24 cd24 ct24), sl24⟩) (c24 : PySem.W.codeIn K cd24 "_law_pick" = true) (k24 : PySem.W.keepIn K (.ref f24) = true)
    (a25 : PySem.W.nsIn K mainGlobals "_law_row_drawn" = some (some (.ref f25))) (l25 : K.lookup f25 = some ⟨oc25, od25, .func (PySem.W.fnOf "_law_row_drawn" "_law_row_drawn" (defArgs s__law_row_drawn) (defBody s__law_row_drawn) (defScope s__law_row_drawn) .none kV25 dc25 pm25 an25 cd25 ct25), sl25⟩) (c25 : PySem.W.codeIn K cd25 "_law_row_drawn" = true) (k25 : PySem.W.keepIn K (.ref f25) = true)
    (a26 : PySem.W.nsIn K mainGlobals "_law_great_right" = some (some (.ref f26))) (l26 : K.lookup f26 = some ⟨oc26, od26, .func (PySem.W.fnOf "_law_great_right" "_law_great_right" (defArgs s__law_great_right) (defBody s__law_great_right) (defScope s__law_great_right) .none kV26 dc26 pm26 an26 cd26 ct26), sl26⟩) (c26 : PySem.W.codeIn K cd26 "_law_great_right" = true) (k26 : PySem.W.keepIn K (.ref f26) = true)
    (a27 : PySem.W.nsIn K mainGlobals "_law_near_values" = some (some (.ref f27))) (l27 : K.lookup f27 = some ⟨oc27, od27, .func (PySem.W.fnOf "_law_near_values" "_law_near_values" (defArgs s__law_near_values) (defBody s__law_near_values) (defScope s__law_near_values) .none kV27 dc27 pm27 an27 cd27 ct27), sl27⟩) (c27 : PySem.W.codeIn K cd27 "_law_near_values" = true) (k27 : PySem.W.keepIn K (.ref f27) = true)
    (a28 : PySem.W.nsIn K mainGlobals "_law_is_step" = some (some (.ref f28))) (l28 : K.lookup f28 = some ⟨oc28, od28, .func (PySem.W.fnOf "_law_is_step" "_law_is_step" (defArgs s__law_is_step) (defBody s__law_is_step) (defScope s__law_is_step) .none kV28 dc28 pm28 an28 cd28 ct28), sl28⟩) (c28 : PySem.W.codeIn K cd28 "_law_is_step" = true) (k28 : PySem.W.keepIn K (.ref f28) = true)
    (a29 : PySem.W.nsIn K mainGlobals "_law_is_due" = some (some (.ref f29))) (l29 : K.lookup f29 = some ⟨oc29, od29, .func (PySem.W.fnOf "_law_is_due" "_law_is_due" (defArgs s__law_is_due) (defBody s__law_is_due) (defScope s__law_is_due) .none kV29 dc29 pm29 an29 cd29 ct29), sl29⟩) (c29 : PySem.W.codeIn K cd29 "_law_is_due" = true) (k29 : PySem.W.keepIn K (.ref f29) = true)
    (a30 : PySem.W.nsIn K mainGlobals "_law_chains" = some (some (.ref f30))) (l30 : K.lookup f30 = some ⟨oc30, od30, .func (PySem.W.fnOf "_law_chains" "_law_chains" (defArgs s__law_chains) (defBody s__law_chains) (defScope s__law_chains) .none kV30 dc30 pm30 an30 cd30 ct30), sl30⟩) (c30 : PySem.W.codeIn K cd30 "_law_chains" = true) (k30 : PySem.W.keepIn K (.ref f30) = true)
    (a31 : PySem.W.nsIn K mainGlobals "_law_small_right" = some (some (.ref f31))) (l31 : K.lookup f31 = some ⟨oc31, od31, .func (PySem.W.fnOf "_law_small_right" "_law_small_right" (defArgs s__law_small_right) (defBody s__law_small_right) (defScope s__law_small_right) .none kV31 dc31 pm31 an31 cd31 ct31), sl31⟩) (c31 : PySem.W.codeIn K cd31 "_law_small_right" = true) (k31 : PySem.W.keepIn K (.ref f31) = true)
    (a32 : PySem.W.nsIn K mainGlobals "_law_dice" = some (some (.ref f32))) (l32 : K.lookup f32 = some ⟨oc32, od32, .func (PySem.W.fnOf "_law_dice" "_law_dice" (defArgs s__law_dice) (defBody s__law_dice) (defScope s__law_dice) .none kV32 dc32 pm32 an32 cd32 ct32), sl32⟩) (c32 : PySem.W.codeIn K cd32 "_law_dice" = true) (k32 : PySem.W.keepIn K (.ref f32) = true)
    (a33 : PySem.W.nsIn K mainGlobals "law" = some (some (.ref f33))) (l33 : K.lookup f33 = some ⟨oc33, od33, .func (PySem.W.fnOf "law" "law" (defArgs s_law) (defBody s_law) (defScope s_law) .none kV33 dc33 pm33 an33 cd33 ct33), sl33⟩) (c33 : PySem.W.codeIn K cd33 "law" = true) (k33 : PySem.W.keepIn K (.ref f33) = true)
    (z_isinstance : PySem.W.nsIn K mainGlobals "isinstance" = some none)
    (z_int : PySem.W.nsIn K mainGlobals "int" = some none)
    (z_bool : PySem.W.nsIn K mainGlobals "bool" = some none)
    (z_tuple : PySem.W.nsIn K mainGlobals "tuple" = some none)
    (z_len : PySem.W.nsIn K mainGlobals "len" = some none)
    (z_abs : PySem.W.nsIn K mainGlobals "abs" = some none)
    (z_max : PySem.W.nsIn K mainGlobals "max" = some none)
    (z_min : PySem.W.nsIn K mainGlobals "min" = some none)
    (z_range : PySem.W.nsIn K mainGlobals "range" = some none)
    (z_all : PySem.W.nsIn K mainGlobals "all" = some none)
    (z_sum : PySem.W.nsIn K mainGlobals "sum" = some none)
    (z_repr : PySem.W.nsIn K mainGlobals "repr" = some none)
    (z_list : PySem.W.nsIn K mainGlobals "list" = some none)
    (z_sorted : PySem.W.nsIn K mainGlobals "sorted" = some none)
    (z_enumerate : PySem.W.nsIn K mainGlobals "enumerate" = some none)
    (z_zip : PySem.W.nsIn K mainGlobals "zip" = some none)
    (z_comb : PySem.W.nsIn K mainGlobals "comb" = some (some (.builtin "math.comb")))
    (z_MAX_WEIGHT : PySem.W.nsIn K mainGlobals "MAX_WEIGHT" = some (some (.int 40 tk0)))
    (z_MAX_BOUND : PySem.W.nsIn K mainGlobals "MAX_BOUND" = some (some (.int 200 tk1)))
    (z_MAX_LISTED : PySem.W.nsIn K mainGlobals "MAX_LISTED" = some (some (.int 2000 tk2))) :
    ∃ fd : FuncData, (∀ (s : Shared) (v : Value), BindsTo s fd ⟨[v], []⟩ [("_law_script", v)]) ∧ ∀ base : Heap, K.In base → base.Ns mainGlobals mg → FnOk l.prog w K mg base CX0 13 fa fd P_law (spD K 1 wLaw) := by
  have e := hfa.symm.trans (PySem.W.mg_of X G a33)
  cases e
  let T : Txt w K mg := { a_KINDS := aK, c_KINDS := PySem.W.mg_of X G y_g, s_KINDS := fun H => DP.tup (xs := [V.str "low", V.str "high"]) (.inr ⟨_, _, _, y_at, rfl, rfl, (show 2 ≤ sizeLine by decide), .cons ⟨_, rfl⟩ (.cons ⟨_, rfl⟩ .nil)⟩) (.cons (.str _) (.cons (.str _) .nil)),  n_isinstance := PySem.W.mg_none_of X G z_isinstance, n_int := PySem.W.mg_none_of X G z_int, n_bool := PySem.W.mg_none_of X G z_bool, n_tuple := PySem.W.mg_none_of X G z_tuple, n_len := PySem.W.mg_none_of X G z_len, n_abs := PySem.W.mg_none_of X G z_abs, n_max := PySem.W.mg_none_of X G z_max, n_min := PySem.W.mg_none_of X G z_min, n_range := PySem.W.mg_none_of X G z_range, n_all := PySem.W.mg_none_of X G z_all, n_sum := PySem.W.mg_none_of X G z_sum, n_repr := PySem.W.mg_none_of X G z_repr, n_list := PySem.W.mg_none_of X G z_list, n_sorted := PySem.W.mg_none_of X G z_sorted, n_enumerate := PySem.W.mg_none_of X G z_enumerate, n_zip := PySem.W.mg_none_of X G z_zip, f_comb := PySem.W.mg_of X G z_comb, t1 := tk0, c_MAX_WEIGHT := PySem.W.mg_of X G z_MAX_WEIGHT, t2 := tk1, c_MAX_BOUND := PySem.W.mg_of X G z_MAX_BOUND, t3 := tk2, c_MAX_LISTED := PySem.W.mg_of X G z_MAX_LISTED }
  let D__falls : TD K mg "_falls" s__falls P__falls := ⟨f0, _, fun_mk (st := s__falls) l0 c0 k0, PySem.W.mg_of X G a0, (fun_mk (st := s__falls) l0 c0 k0).binds (ps := P__falls) fun _ _ _ _ _ _ us hl => match us, hl with | [_, _], _ => rfl⟩
  let D_is_whole : TD K mg "is_whole" s_is_whole P_is_whole := ⟨f1, _, fun_mk (st := s_is_whole) l1 c1 k1, PySem.W.mg_of X G a1, (fun_mk (st := s_is_whole) l1 c1 k1).binds (ps := P_is_whole) fun _ _ _ _ _ _ us hl => match us, hl with | [_], _ => rfl⟩
  let D_is_row : TD K mg "is_row" s_is_row P_is_row := ⟨f2, _, fun_mk (st := s_is_row) l2 c2 k2, PySem.W.mg_of X G a2, (fun_mk (st := s_is_row) l2 c2 k2).binds (ps := P_is_row) fun _ _ _ _ _ _ us hl => match us, hl with | [_], _ => rfl⟩
  let D_need_row : TD K mg "need_row" s_need_row P_need_row := ⟨f3, _, fun_mk (st := s_need_row) l3 c3 k3, PySem.W.mg_of X G a3, (fun_mk (st := s_need_row) l3 c3 k3).binds (ps := P_need_row) fun _ _ _ _ _ _ us hl => match us, hl with | [_], _ => rfl⟩
  let D_word_of : TD K mg "word_of" s_word_of P_word_of := ⟨f4, _, fun_mk (st := s_word_of) l4 c4 k4, PySem.W.mg_of X G a4, (fun_mk (st := s_word_of) l4 c4 k4).binds (ps := P_word_of) fun _ _ _ _ _ _ us hl => match us, hl with | [_], _ => rfl⟩
  let D__are_members : TD K mg "_are_members" s__are_members P__are_members := ⟨f5, _, fun_mk (st := s__are_members) l5 c5 k5, PySem.W.mg_of X G a5, (fun_mk (st := s__are_members) l5 c5 k5).binds (ps := P__are_members) fun _ _ _ _ _ _ us hl => match us, hl with | [_, _], _ => rfl⟩
  let D_need_one_of : TD K mg "need_one_of" s_need_one_of P_need_one_of := ⟨f6, _, fun_mk (st := s_need_one_of) l6 c6 k6, PySem.W.mg_of X G a6, (fun_mk (st := s_need_one_of) l6 c6 k6).binds (ps := P_need_one_of) fun _ _ _ _ _ _ us hl => match us, hl with | [_, _], _ => rfl⟩
  let D_need_between : TD K mg "need_between" s_need_between P_need_between := ⟨f7, _, fun_mk (st := s_need_between) l7 c7 k7, PySem.W.mg_of X G a7, (fun_mk (st := s_need_between) l7 c7 k7).binds (ps := P_need_between) fun _ _ _ _ _ _ us hl => match us, hl with | [_, _, _], _ => rfl⟩
  let D__need_both : TD K mg "_need_both" s__need_both P__need_both := ⟨f8, _, fun_mk (st := s__need_both) l8 c8 k8, PySem.W.mg_of X G a8, (fun_mk (st := s__need_both) l8 c8 k8).binds (ps := P__need_both) fun _ _ _ _ _ _ us hl => match us, hl with | [_, _], _ => rfl⟩
  let D__need_kind : TD K mg "_need_kind" s__need_kind P__need_kind := ⟨f9, _, fun_mk (st := s__need_kind) l9 c9 k9, PySem.W.mg_of X G a9, (fun_mk (st := s__need_kind) l9 c9 k9).binds (ps := P__need_kind) fun _ _ _ _ _ _ us hl => match us, hl with | [_, _, _], _ => rfl⟩
  let D_is_chain : TDK K mg "is_chain" s_is_chain P_is_chain 3 "kind" "low" := ⟨f10, _, fun_mk (st := s_is_chain) l10 c10 k10, PySem.W.mg_of X G a10, [.str "low" kt10], .cons ⟨_, rfl⟩ .nil, binds_kw (ps := P_is_chain) (n := 3) rfl q10 (fun us ks h1 h2 => match us, ks, h1, h2 with | [_, _, _], [_], _, _ => ⟨_, _, _, _, _, _, rfl, rfl, rfl⟩), ⟨fun s us ws _ h1 h2 => match us, ws, h1, h2 with | [_, _, _], [_], _, _ => .of_eq rfl, fun r1 r2 => r1.append r2⟩⟩
  let D_chain_count : TDK K mg "chain_count" s_chain_count P_chain_count 2 "kind" "low" := ⟨f11, _, fun_mk (st := s_chain_count) l11 c11 k11, PySem.W.mg_of X G a11, [.str "low" kt11], .cons ⟨_, rfl⟩ .nil, binds_kw (ps := P_chain_count) (n := 2) rfl q11 (fun us ks h1 h2 => match us, ks, h1, h2 with | [_, _], [_], _, _ => ⟨_, _, _, _, _, _, rfl, rfl, rfl⟩), ⟨fun s us ws _ h1 h2 => match us, ws, h1, h2 with | [_, _], [_], _, _ => .of_eq rfl, fun r1 r2 => r1.append r2⟩⟩
  let D__listed_chains : TD K mg "_listed_chains" s__listed_chains P__listed_chains := ⟨f12, _, fun_mk (st := s__listed_chains) l12 c12 k12, PySem.W.mg_of X G a12, (fun_mk (st := s__listed_chains) l12 c12 k12).binds (ps := P__listed_chains) fun _ _ _ _ _ _ us hl => match us, hl with | [_, _, _], _ => rfl⟩
  let D_each_chain : TDK K mg "each_chain" s_each_chain P_each_chain 2 "kind" "low" := ⟨f13, _, fun_mk (st := s_each_chain) l13 c13 k13, PySem.W.mg_of X G a13, [.str "low" kt13], .cons ⟨_, rfl⟩ .nil, binds_kw (ps := P_each_chain) (n := 2) rfl q13 (fun us ks h1 h2 => match us, ks, h1, h2 with | [_, _], [_], _, _ => ⟨_, _, _, _, _, _, rfl, rfl, rfl⟩), ⟨fun s us ws _ h1 h2 => match us, ws, h1, h2 with | [_, _], [_], _, _ => .of_eq rfl, fun r1 r2 => r1.append r2⟩⟩
  let D_chain_share : TD K mg "chain_share" s_chain_share P_chain_share := ⟨f14, _, fun_mk (st := s_chain_share) l14 c14 k14, PySem.W.mg_of X G a14, (fun_mk (st := s_chain_share) l14 c14 k14).binds (ps := P_chain_share) fun _ _ _ _ _ _ us hl => match us, hl with | [_, _, _], _ => rfl⟩
  let D__law_word : TD K mg "_law_word" s__law_word P__law_word := ⟨f15, _, fun_mk (st := s__law_word) l15 c15 k15, PySem.W.mg_of X G a15, (fun_mk (st := s__law_word) l15 c15 k15).binds (ps := P__law_word) fun _ _ _ _ _ _ us hl => match us, hl with | [_], _ => rfl⟩
  let D__law_gcd : TD K mg "_law_gcd" s__law_gcd P__law_gcd := ⟨f16, _, fun_mk (st := s__law_gcd) l16 c16 k16, PySem.W.mg_of X G a16, (fun_mk (st := s__law_gcd) l16 c16 k16).binds (ps := P__law_gcd) fun _ _ _ _ _ _ us hl => match us, hl with | [_, _], _ => rfl⟩
  let D__law_lowest : TD K mg "_law_lowest" s__law_lowest P__law_lowest := ⟨f17, _, fun_mk (st := s__law_lowest) l17 c17 k17, PySem.W.mg_of X G a17, (fun_mk (st := s__law_lowest) l17 c17 k17).binds (ps := P__law_lowest) fun _ _ _ _ _ _ us hl => match us, hl with | [_, _], _ => rfl⟩
  let D__law_times : TD K mg "_law_times" s__law_times P__law_times := ⟨f18, _, fun_mk (st := s__law_times) l18 c18 k18, PySem.W.mg_of X G a18, (fun_mk (st := s__law_times) l18 c18 k18).binds (ps := P__law_times) fun _ _ _ _ _ _ us hl => match us, hl with | [_, _], _ => rfl⟩
  let D__law_letter_share : TD K mg "_law_letter_share" s__law_letter_share P__law_letter_share := ⟨f19, _, fun_mk (st := s__law_letter_share) l19 c19 k19, PySem.W.mg_of X G a19, (fun_mk (st := s__law_letter_share) l19 c19 k19).binds (ps := P__law_letter_share) fun _ _ _ _ _ _ us hl => match us, hl with | [_, _, _], _ => rfl⟩
  let D__law_chain_share : TD K mg "_law_chain_share" s__law_chain_share P__law_chain_share := ⟨f20, _, fun_mk (st := s__law_chain_share) l20 c20 k20, PySem.W.mg_of X G a20, (fun_mk (st := s__law_chain_share) l20 c20 k20).binds (ps := P__law_chain_share) fun _ _ _ _ _ _ us hl => match us, hl with | [_, _, _], _ => rfl⟩
  let D__law_roll : TD K mg "_law_roll" s__law_roll P__law_roll := ⟨f21, _, fun_mk (st := s__law_roll) l21 c21 k21, PySem.W.mg_of X G a21, (fun_mk (st := s__law_roll) l21 c21 k21).binds (ps := P__law_roll) fun _ _ _ _ _ _ us hl => match us, hl with | [_, _], _ => rfl⟩
  let D__law_choose : TD K mg "_law_choose" s__law_choose P__law_choose := ⟨f22, _, fun_mk (st := s__law_choose) l22 c22 k22, PySem.W.mg_of X G a22, (fun_mk (st := s__law_choose) l22 c22 k22).binds (ps := P__law_choose) fun _ _ _ _ _ _ us hl => match us, hl with | [_, _], _ => rfl⟩
  let D__law_steps_in : TD K mg "_law_steps_in" s__law_steps_in P__law_steps_in := ⟨f23, _, fun_mk (st := s__law_steps_in) l23 c23 k23, PySem.W.mg_of X G a23, (fun_mk (st := s__law_steps_in) l23 c23 k23).binds (ps := P__law_steps_in) fun _ _ _ _ _ _ us hl => match us, hl with | [_, _], _ => rfl⟩
  let D__law_pick : TD K mg "_law_pick" s__law_pick P__law_pick := ⟨f24, _, fun_mk (st := s__law_pick) l24 c24 k24, PySem.W.mg_of X G a24, (fun_mk (st := s__law_pick) l24 c24 k24).binds (ps := P__law_pick) fun _ _ _ _ _ _ us hl => match us, hl with | [_, _], _ => rfl⟩
  let D__law_row_drawn : TD K mg "_law_row_drawn" s__law_row_drawn P__law_row_drawn := ⟨f25, _, fun_mk (st := s__law_row_drawn) l25 c25 k25, PySem.W.mg_of X G a25, (fun_mk (st := s__law_row_drawn) l25 c25 k25).binds (ps := P__law_row_drawn) fun _ _ _ _ _ _ us hl => match us, hl with | [_, _], _ => rfl⟩
  let D__law_great_right : TD K mg "_law_great_right" s__law_great_right P__law_great_right := ⟨f26, _, fun_mk (st := s__law_great_right) l26 c26 k26, PySem.W.mg_of X G a26, (fun_mk (st := s__law_great_right) l26 c26 k26).binds (ps := P__law_great_right) fun _ _ _ _ _ _ us hl => match us, hl with | [_, _], _ => rfl⟩
  let D__law_near_values : TD K mg "_law_near_values" s__law_near_values P__law_near_values := ⟨f27, _, fun_mk (st := s__law_near_values) l27 c27 k27, PySem.W.mg_of X G a27, (fun_mk (st := s__law_near_values) l27 c27 k27).binds (ps := P__law_near_values) fun _ _ _ _ _ _ us hl => match us, hl with | [_, _, _, _], _ => rfl⟩
  let D__law_is_step : TD K mg "_law_is_step" s__law_is_step P__law_is_step := ⟨f28, _, fun_mk (st := s__law_is_step) l28 c28 k28, PySem.W.mg_of X G a28, (fun_mk (st := s__law_is_step) l28 c28 k28).binds (ps := P__law_is_step) fun _ _ _ _ _ _ us hl => match us, hl with | [_, _, _, _, _], _ => rfl⟩
  let D__law_is_due : TD K mg "_law_is_due" s__law_is_due P__law_is_due := ⟨f29, _, fun_mk (st := s__law_is_due) l29 c29 k29, PySem.W.mg_of X G a29, (fun_mk (st := s__law_is_due) l29 c29 k29).binds (ps := P__law_is_due) fun _ _ _ _ _ _ us hl => match us, hl with | [_, _, _, _], _ => rfl⟩
  let D__law_chains : TD K mg "_law_chains" s__law_chains P__law_chains := ⟨f30, _, fun_mk (st := s__law_chains) l30 c30 k30, PySem.W.mg_of X G a30, (fun_mk (st := s__law_chains) l30 c30 k30).binds (ps := P__law_chains) fun _ _ _ _ _ _ us hl => match us, hl with | [_, _, _], _ => rfl⟩
  let D__law_small_right : TD K mg "_law_small_right" s__law_small_right P__law_small_right := ⟨f31, _, fun_mk (st := s__law_small_right) l31 c31 k31, PySem.W.mg_of X G a31, (fun_mk (st := s__law_small_right) l31 c31 k31).binds (ps := P__law_small_right) fun _ _ _ _ _ _ us hl => match us, hl with | [_, _], _ => rfl⟩
  let D__law_dice : TD K mg "_law_dice" s__law_dice P__law_dice := ⟨f32, _, fun_mk (st := s__law_dice) l32 c32 k32, PySem.W.mg_of X G a32, (fun_mk (st := s__law_dice) l32 c32 k32).binds (ps := P__law_dice) fun _ _ _ _ _ _ us hl => match us, hl with | [_, _], _ => rfl⟩
  let D_law : TD K mg "law" s_law P_law := ⟨fa, _, fun_mk (st := s_law) l33 c33 k33, PySem.W.mg_of X G a33, (fun_mk (st := s_law) l33 c33 k33).binds (ps := P_law) fun _ _ _ _ _ _ us hl => match us, hl with | [_], _ => rfl⟩
  refine ⟨D_law.fd, fun s v => .of_eq rfl, fun base _ _ => ?_⟩
  let C__falls := D__falls.cal (ok_falls (P := l.prog) (w := w) (base := base) T D__falls )
  let C_is_whole := D_is_whole.cal (ok_is_whole (P := l.prog) (w := w) (base := base) T D_is_whole )
  let C_is_row := D_is_row.cal (ok_is_row (P := l.prog) (w := w) (base := base) T D_is_row (G_is_whole := C_is_whole))
  let C_need_row := D_need_row.cal (ok_need_row (P := l.prog) (w := w) (base := base) T D_need_row (G_is_row := C_is_row))
  let C_word_of := D_word_of.cal (ok_word_of (P := l.prog) (w := w) (base := base) T D_word_of (G_need_row := C_need_row))
  let C__are_members := D__are_members.cal (ok_members (P := l.prog) (w := w) (base := base) T D__are_members (G_is_whole := C_is_whole))
  let C_need_one_of := D_need_one_of.cal (ok_one_of (P := l.prog) (w := w) (base := base) D_need_one_of )
  let C_need_between := D_need_between.cal (ok_need_between (P := l.prog) (w := w) (base := base) D_need_between (G_is_whole := C_is_whole))
  let C__need_both := D__need_both.cal (ok_need_both (P := l.prog) (w := w) (base := base) T D__need_both (G_need_row := C_need_row) (G_need_between := C_need_between))
  let C__need_kind := D__need_kind.cal (ok_need_kind (P := l.prog) (w := w) (base := base) T D__need_kind (G_need_one_of := C_need_one_of) (G__need_both := C__need_both))
  let C_is_chain := D_is_chain.cal (ok_is_chain (P := l.prog) (w := w) (base := base) T D_is_chain (G__falls := C__falls) (G_word_of := C_word_of) (G__are_members := C__are_members) (G__need_kind := C__need_kind))
  let C_chain_count := D_chain_count.cal (ok_chain_count (P := l.prog) (w := w) (base := base) T D_chain_count (G__falls := C__falls) (G_word_of := C_word_of) (G__need_kind := C__need_kind))
  let C__listed_chains := D__listed_chains.cal (ok_listed (P := l.prog) (w := w) (base := base) T D__listed_chains (G__falls := C__falls))
  let C_each_chain := D_each_chain.calG (ok_each (kw2 := "kind") (P := l.prog) (w := w) (base := base) T D_each_chain (G_chain_count := C_chain_count) (G__listed_chains := C__listed_chains) (G_word_of := C_word_of))
  let C_chain_share := D_chain_share.cal (ok_share (P := l.prog) (w := w) (base := base) T D_chain_share (G_word_of := C_word_of) (G__are_members := C__are_members) (G__need_both := C__need_both))
  let C__law_word := D__law_word.cal (ok_law_word (P := l.prog) (w := w) (base := base) T D__law_word )
  let C__law_gcd := D__law_gcd.cal (ok_gcd (P := l.prog) (w := w) (base := base) T D__law_gcd )
  let C__law_lowest := D__law_lowest.cal (ok_lowest (P := l.prog) (w := w) (base := base) T D__law_lowest (G__law_gcd := C__law_gcd))
  let C__law_times := D__law_times.cal (ok_times (P := l.prog) (w := w) (base := base) T D__law_times (G__law_lowest := C__law_lowest))
  let C__law_letter_share := D__law_letter_share.cal (ok_letter (P := l.prog) (w := w) (base := base) T D__law_letter_share )
  let C__law_chain_share := D__law_chain_share.cal (ok_law_share (P := l.prog) (w := w) (base := base) T D__law_chain_share (G__law_word := C__law_word) (G__law_times := C__law_times) (G__law_letter_share := C__law_letter_share))
  let C__law_roll := D__law_roll.cal (ok_roll (P := l.prog) (w := w) (base := base) T D__law_roll )
  let C__law_choose := D__law_choose.cal (ok_choose (P := l.prog) (w := w) (base := base) T D__law_choose )
  let C__law_steps_in := D__law_steps_in.cal (ok_steps (P := l.prog) (w := w) (base := base) T D__law_steps_in )
  let C__law_pick := D__law_pick.cal (ok_pick (P := l.prog) (w := w) (base := base) T D__law_pick (G__law_roll := C__law_roll))
  let C__law_row_drawn := D__law_row_drawn.cal (ok_drawn (P := l.prog) (w := w) (base := base) T D__law_row_drawn (G__law_roll := C__law_roll) (G__law_pick := C__law_pick))
  let C__law_great_right := D__law_great_right.cal (ok_great (P := l.prog) (w := w) (base := base) T D__law_great_right (G_chain_share := C_chain_share) (G__law_chain_share := C__law_chain_share) (G__law_roll := C__law_roll) (G_chain_count := C_chain_count) (G__law_choose := C__law_choose) (G__law_steps_in := C__law_steps_in) (G__law_row_drawn := C__law_row_drawn))
  let C__law_near_values := D__law_near_values.cal (ok_near (P := l.prog) (w := w) (base := base) T D__law_near_values (G__law_roll := C__law_roll) (G__law_pick := C__law_pick))
  let C__law_is_step := D__law_is_step.cal (ok_is_step (P := l.prog) (w := w) (base := base) T D__law_is_step )
  let C__law_is_due := D__law_is_due.cal (ok_due (P := l.prog) (w := w) (base := base) T D__law_is_due (G__law_is_step := C__law_is_step) (G__law_word := C__law_word))
  let C__law_chains := D__law_chains.cal (ok_chains (P := l.prog) (w := w) (base := base) T D__law_chains (G__law_is_step := C__law_is_step) (G__law_word := C__law_word))
  let C__law_small_right := D__law_small_right.cal (ok_small (P := l.prog) (w := w) (base := base) T D__law_small_right (G__law_near_values := C__law_near_values) (G_is_chain := C_is_chain) (G__law_is_due := C__law_is_due) (G_each_chain := C_each_chain) (G_chain_count := C_chain_count) (G__law_chains := C__law_chains) (G__law_row_drawn := C__law_row_drawn) (G__law_roll := C__law_roll))
  let C__law_dice := D__law_dice.cal (ok_dice (P := l.prog) (w := w) (base := base) T D__law_dice )
  exact ok_law (P := l.prog) (w := w) (base := base) T D_law (G_is_chain := C_is_chain) (G_each_chain := C_each_chain) (G_chain_count := C_chain_count) (G_chain_share := C_chain_share) (G__law_great_right := C__law_great_right) (G__law_small_right := C__law_small_right) (G__law_dice := C__law_dice)
theorem only_nil {H : Hp} : msk [] H = H := by
  funext b
  unfold msk
  rw [if_neg (by simp)]
theorem walk {l : PySem.W.OpenLaw} {q : Program} {loose : List Str} {XP : (Str → Option Value) → Heap → Prop} {YP : World → Heap → Prop} {d : DefRec} {K : Params → PySem.W.Frag} (hn : l.most = some 63) (hdf : d.params.defaults = [])
    (hY : ∀ (w : World) (h : Heap), YP w h → (K w.params).In h)
    (F : ∀ (w : World) (mg : Str → Option Value) (fa : Addr) (h : Heap), (K w.params).In h → h.Ns mainGlobals mg → mg d.name = some (.ref fa) →
      ∃ fd : FuncData, (∀ (s : Shared) (u : Value), BindsTo s fd ⟨[u], []⟩ [("_law_script", u)]) ∧ ∀ base : Heap, (K w.params).In base → base.Ns mainGlobals mg → FnOk l.prog w (K w.params) mg base CX0 13 fa fd P_law (spD (K w.params) 1 wLaw)) :
    PySem.W.WalkO q loose XP YP l.row.toRowW d [] (fun f vs => PySem.call f vs) :=
  L2.walk_of (n := 63) (k := 13) (x := "_law_script") (CX := fun _ => CX0) (sp := fun w => spD (K w.params) 1 wLaw) hn (by decide) hdf ⟨rfl, by decide, by decide⟩ hY F
    (fun w H a ns hl _ hS => ⟨[], [.val (.list (ns.map .int))], fun d _ => d = .bool true, rfl, env_args (ds := [.list (ns.map .int)]) (fun _ z => nomatch z) (by rw [only_nil]; exact dpa_one (.lst hS (dpa_ints ns))), ⟨ns, rfl, hl, rfl⟩, fun v d es' O' H' e S r => by subst e; exact dp_bl r⟩) fun _ _ _ _ _ z => z
end K35
open PySem PySem.W PyProof.Rows in
set_option maxRecDepth 100000 in
set_option maxHeartbeats 0 in
theorem PySem.Challenge.cw_risewords_k35_whole_chains_counted_and_j_holds : PySem.Challenge.rw_risewords_k35_whole_chains_counted_and_j.Holds := by
  w_on; o_law; k_head; (case hw => w_witness2)
  k_fill
  refine K35.walk (l := PySem.Challenge.rw_risewords_k35_whole_chains_counted_and_j) rfl rfl (fun w h Y => PySem.W.kIn_of Y) ?F
  case F =>
    intro w mg fa h KX G hmg
    refine' K35.all_mk KX G hmg ?y_g ?y_at ?a0 ?l0 ?c0 ?k0 ?a1 ?l1 ?c1 ?k1 ?a2 ?l2 ?c2 ?k2 ?a3 ?l3 ?c3 ?k3 ?a4 ?l4 ?c4 ?k4 ?a5 ?l5 ?c5 ?k5 ?a6 ?l6 ?c6 ?k6 ?a7 ?l7 ?c7 ?k7 ?a8 ?l8 ?c8 ?k8 ?a9 ?l9 ?c9 ?k9 ?a10 ?l10 ?c10 ?k10 ?q10 ?a11 ?l11 ?c11 ?k11 ?q11 ?a12 ?l12 ?c12 ?k12 ?a13 ?l13 ?c13 ?k13 ?q13 ?a14 ?l14 ?c14 ?k14 ?a15 ?l15 ?c15 ?k15 ?a16 ?l16 ?c16 ?k16 ?a17 ?l17 ?c17 ?k17 ?a18 ?l18 ?c18 ?k18 ?a19 ?l19 ?c19 ?k19 ?a20 ?l20 ?c20 ?k20 ?a21 ?l21 ?c21 ?k21 ?a22 ?l22 ?c22 ?k22 ?a23 ?l23 ?c23 ?k23 ?a24 ?l24 ?c24 ?k24 ?a25 ?l25 ?c25 ?k25 ?a26 ?l26 ?c26 ?k26 ?a27 ?l27 ?c27 ?k27 ?a28 ?l28 ?c28 ?k28 ?a29 ?l29 ?c29 ?k29 ?a30 ?l30 ?c30 ?k30 ?a31 ?l31 ?c31 ?k31 ?a32 ?l32 ?c32 ?k32 ?a33 ?l33 ?c33 ?k33 ?z_isinstance ?z_int ?z_bool ?z_tuple ?z_len ?z_abs ?z_max ?z_min ?z_range ?z_all ?z_sum ?z_repr ?z_list ?z_sorted ?z_enumerate ?z_zip ?z_comb ?z_MAX_WEIGHT ?z_MAX_BOUND ?z_MAX_LISTED
    (case y_g => k_is)
    (case y_at => k_is)
    (case a0 => k_is)
    (case l0 => k_is)
    (case c0 => k_is)
    (case k0 => k_is)
    (case a1 => k_is)
    (case l1 => k_is)
    (case c1 => k_is)
    (case k1 => k_is)
    (case a2 => k_is)
    (case l2 => k_is)
    (case c2 => k_is)
    (case k2 => k_is)
    (case a3 => k_is)
    (case l3 => k_is)
    (case c3 => k_is)
    (case k3 => k_is)
    (case a4 => k_is)
    (case l4 => k_is)
    (case c4 => k_is)
    (case k4 => k_is)
    (case a5 => k_is)
    (case l5 => k_is)
    (case c5 => k_is)
    (case k5 => k_is)
    (case a6 => k_is)
    (case l6 => k_is)
    (case c6 => k_is)
    (case k6 => k_is)
    (case a7 => k_is)
    (case l7 => k_is)
    (case c7 => k_is)
    (case k7 => k_is)
    (case a8 => k_is)
    (case l8 => k_is)
    (case c8 => k_is)
    (case k8 => k_is)
    (case a9 => k_is)
    (case l9 => k_is)
    (case c9 => k_is)
    (case k9 => k_is)
    (case a10 => k_is)
    (case l10 => k_is)
    (case c10 => k_is)
    (case k10 => k_is)
    (case q10 => k_is)
    (case a11 => k_is)
    (case l11 => k_is)
    (case c11 => k_is)
    (case k11 => k_is)
    (case q11 => k_is)
    (case a12 => k_is)
    (case l12 => k_is)
    (case c12 => k_is)
    (case k12 => k_is)
    (case a13 => k_is)
    (case l13 => k_is)
    (case c13 => k_is)
    (case k13 => k_is)
    (case q13 => k_is)
    (case a14 => k_is)
    (case l14 => k_is)
    (case c14 => k_is)
    (case k14 => k_is)
    (case a15 => k_is)
    (case l15 => k_is)
    (case c15 => k_is)
    (case k15 => k_is)
    (case a16 => k_is)
    (case l16 => k_is)
    (case c16 => k_is)
    (case k16 => k_is)
    (case a17 => k_is)
    (case l17 => k_is)
    (case c17 => k_is)
    (case k17 => k_is)
    (case a18 => k_is)
    (case l18 => k_is)
    (case c18 => k_is)
    (case k18 => k_is)
    (case a19 => k_is)
    (case l19 => k_is)
    (case c19 => k_is)
    (case k19 => k_is)
    (case a20 => k_is)
    (case l20 => k_is)
    (case c20 => k_is)
    (case k20 => k_is)
    (case a21 => k_is)
    (case l21 => k_is)
    (case c21 => k_is)
    (case k21 => k_is)
    (case a22 => k_is)
    (case l22 => k_is)
    (case c22 => k_is)
    (case k22 => k_is)
    (case a23 => k_is)
    (case l23 => k_is)
    (case c23 => k_is)
    (case k23 => k_is)
    (case a24 => k_is)
    (case l24 => k_is)
    (case c24 => k_is)
    (case k24 => k_is)
    (case a25 => k_is)
    (case l25 => k_is)
    (case c25 => k_is)
    (case k25 => k_is)
    (case a26 => k_is)
    (case l26 => k_is)
    (case c26 => k_is)
    (case k26 => k_is)
    (case a27 => k_is)
    (case l27 => k_is)
    (case c27 => k_is)
    (case k27 => k_is)
    (case a28 => k_is)
    (case l28 => k_is)
    (case c28 => k_is)
    (case k28 => k_is)
    (case a29 => k_is)
    (case l29 => k_is)
    (case c29 => k_is)
    (case k29 => k_is)
    (case a30 => k_is)
    (case l30 => k_is)
    (case c30 => k_is)
    (case k30 => k_is)
    (case a31 => k_is)
    (case l31 => k_is)
    (case c31 => k_is)
    (case k31 => k_is)
    (case a32 => k_is)
    (case l32 => k_is)
    (case c32 => k_is)
    (case k32 => k_is)
    (case a33 => k_is)
    (case l33 => k_is)
    (case c33 => k_is)
    (case k33 => k_is)
    (case z_isinstance => k_is)
    (case z_int => k_is)
    (case z_bool => k_is)
    (case z_tuple => k_is)
    (case z_len => k_is)
    (case z_abs => k_is)
    (case z_max => k_is)
    (case z_min => k_is)
    (case z_range => k_is)
    (case z_all => k_is)
    (case z_sum => k_is)
    (case z_repr => k_is)
    (case z_list => k_is)
    (case z_sorted => k_is)
    (case z_enumerate => k_is)
    (case z_zip => k_is)
    (case z_comb => k_is)
    (case z_MAX_WEIGHT => k_is)
    (case z_MAX_BOUND => k_is)
    (case z_MAX_LISTED => k_is)
#print axioms PySem.Challenge.cw_risewords_k35_whole_chains_counted_and_j_holds
