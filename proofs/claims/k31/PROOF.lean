import PyProof.Rows.All
import Wide.All
import OpenK.AllK
import Wide.FinOn
import HandS.ForMost
import HandS.IsInst
import HandS.TupAny
import HandS.TupMul
import HandS.Deep
import HandS.Evl
import HandS.Wide
import HandS.Lambda
import HandS.Flow
import HandS.Style
import HandS.HotCalls
import HandS.ExcIs
import KE.GoesComp
import PyProof.SumWalk
import PyProof.Walks
import KE.GoesMore
import HandS.SuiteRaise
import HandS.WordsExc
import PySem.Challenge.RW_samepictures_k31_whole_drawings
import HandS.EndOwn
import KE.KNestM
set_option Elab.async false
set_option linter.all false
set_option maxRecDepth 100000
namespace DL
open PySem PySem.Spec PyProof.Rows L2


abbrev M : Type := List (List PyData)
/-- the tables of code objects, with the names of what is made there -/
class Tbs where
  T : List (Addr × Str)
instance (priority := low) noTbs : Tbs := ⟨[]⟩
variable [Tbs]

/-- what a slot or a result is, by its data -/
inductive Sl where
  | no
  | d (x : PyData)
  | c (j : Nat)
  | v (x : V)

section
variable (K : PySem.W.Frag)

structure Wd (H0 H : Hp) (ρ : List Addr) (m : M) : Prop where
  ex : Evl.Ex H0 H
  len : ρ.length = m.length
  nd : ρ.Nodup
  cel : ∀ (j : Nat) (p : Addr) (ds : List PyData), ρ[j]? = some p → m[j]? = some ds → H0 p = none ∧ ∃ vs, H p = some (.lst vs) ∧ DpAll K H0 vs ds
  tab : LamX.Tabs Tbs.T H
  nT : ∀ p ∈ Tbs.T, H0 p.1 = none

def SlOk (H0 : Hp) (ρ : List Addr) (v : V) : Sl → Prop
  | .no => True
  | .d x => Dp K H0 v x
  | .c j => ∃ p, v = .ref p ∧ ρ[j]? = some p
  | .v x => v = x

inductive SlAll (H0 : Hp) (ρ : List Addr) : List V → List Sl → Prop
  | nil : SlAll H0 ρ [] []
  | cons {v vs r rs} : SlOk K H0 ρ v r → SlAll H0 ρ vs rs → SlAll H0 ρ (v :: vs) (r :: rs)

def EnvS (H0 : Hp) (ρ : List Addr) (σ : L2.St) (es : List Sl) : Prop :=
  σ.length = es.length ∧ ∀ (i : Nat) (s : Sl), es[i]? = some s → s = .no ∨ ∃ v, σ[i]? = some (some v) ∧ SlOk K H0 ρ v s
end

/-- a step: n cells are the caller's -/
structure Stp (n : Nat) (ρ : List Addr) (H0 H : Hp) (ρ' : List Addr) (H0' H' : Hp) : Prop where
  ex : Evl.Ex H0 H0'
  keep : ∀ b o, H b = some o → b ∉ ρ → (∀ ps, o ≠ .tbl ps) → H' b = some o
  dom : ∀ b, H' b = none → H b = none
  fresh : ∀ b o, H0' b = some o → H0 b = some o ∨ H b = none ∨ b ∈ ρ.drop n
  pre : ρ'.take n = ρ.take n
  cel : ∀ b, b ∈ ρ' → b ∈ ρ ∨ H b = none

section
variable {K : PySem.W.Frag} {H0 H H0' H' H0'' H'' : Hp} {ρ ρ' ρ'' : List Addr} {m m' : M} {σ : L2.St} {es : List Sl} {n : Nat}

theorem Stp.refl : Stp n ρ H0 H ρ H0 H := ⟨Evl.Ex.refl _, fun _ _ h _ _ => h, fun _ h => h, fun _ _ h => .inl h, rfl, fun _ h => .inl h⟩
theorem nd_split {ρ : List Addr} (nd : ρ.Nodup) {b : Addr} (h1 : b ∈ ρ.take n) (h2 : b ∈ ρ.drop n) : False := by
  have e := List.take_append_drop n ρ
  rw [← e] at nd
  exact (List.nodup_append.mp nd).2.2 b h1 b h2 rfl
theorem Stp.trans (nd : ρ'.Nodup) (a : Stp n ρ H0 H ρ' H0' H') (b : Stp n ρ' H0' H' ρ'' H0'' H'') : Stp n ρ H0 H ρ'' H0'' H'' where
  ex := a.ex.trans b.ex
  keep := fun x o h hn nt => b.keep x o (a.keep x o h hn nt) (fun hx => by
    rcases a.cel x hx with z | z
    · exact hn z
    · rw [z] at h; cases h) nt
  dom := fun x h => a.dom x (b.dom x h)
  fresh := fun x o h => by
    rcases b.fresh x o h with z | z | z
    · exact a.fresh x o z
    · exact .inr (.inl (a.dom x z))
    · rcases a.cel x (List.mem_of_mem_drop z) with y | y
      · rw [← List.take_append_drop n ρ] at y
        rcases List.mem_append.mp y with y | y
        · rw [← a.pre] at y
          exact (nd_split nd y z).elim
        · exact .inr (.inr y)
      · exact .inr (.inl y)
  pre := b.pre.trans a.pre
  cel := fun x h => by
    rcases b.cel x h with z | z
    · exact a.cel x z
    · exact .inr (a.dom x z)

mutual
theorem dp_mono (e : Evl.Ex H H') : ∀ {v : V} {d : PyData}, Dp K H v d → Dp K H' v d
  | _, _, .non => .non
  | _, _, .bl b => .bl b
  | _, _, .int i => .int i
  | _, _, .str x => .str x
  | _, _, .lst h a => .lst (Evl.ex_l e h) (dpAll_mono e a)
  | _, _, .tup h a => .tup (Evl.ex_t e h) (dpAll_mono e a)
theorem dpAll_mono (e : Evl.Ex H H') : ∀ {vs : List V} {ds : List PyData}, DpAll K H vs ds → DpAll K H' vs ds
  | _, _, .nil => .nil
  | _, _, .cons h t => .cons (dp_mono e h) (dpAll_mono e t)
end
theorem SlOk.mono (e : Evl.Ex H0 H0') {v : V} : ∀ {r : Sl}, SlOk K H0 ρ v r → SlOk K H0' ρ v r
  | .no, _ => trivial
  | .d _, h => dp_mono e h
  | .c _, h => h
  | .v _, h => h
theorem SlAll.mono (e : Evl.Ex H0 H0') {vs : List V} {rs : List Sl} (h : SlAll K H0 ρ vs rs) : SlAll K H0' ρ vs rs := by
  induction h with
  | nil => exact .nil
  | cons a _ ih => exact .cons (a.mono e) ih
theorem SlAll.length {vs : List V} {rs : List Sl} (h : SlAll K H0 ρ vs rs) : vs.length = rs.length := by
  induction h with
  | nil => rfl
  | cons a _ ih => rw [List.length_cons, List.length_cons, ih]
theorem EnvS.mono (e : Evl.Ex H0 H0') (h : EnvS K H0 ρ σ es) : EnvS K H0' ρ σ es := ⟨h.1, fun i s q => by
  rcases h.2 i s q with z | ⟨v, a, b⟩
  · exact .inl z
  · exact .inr ⟨v, a, b.mono e⟩⟩
theorem EnvS.set {i : Nat} {v : V} {r : Sl} (h : EnvS K H0 ρ σ es) (hv : SlOk K H0 ρ v r) : EnvS K H0 ρ (σ.set i (some v)) (es.set i r) := by
  refine ⟨by rw [List.length_set, List.length_set]; exact h.1, fun j s q => ?_⟩
  by_cases hj : i = j
  · subst hj
    by_cases hl : i < es.length
    · rw [List.getElem?_set_self hl] at q
      cases q
      exact .inr ⟨v, by rw [List.getElem?_set_self (by rw [h.1]; exact hl)], hv⟩
    · rw [List.getElem?_eq_none (by rw [List.length_set]; omega)] at q
      cases q
  · rw [List.getElem?_set_ne hj] at q
    rcases h.2 j s q with z | ⟨v', a, b⟩
    · exact .inl z
    · exact .inr ⟨v', by rw [List.getElem?_set_ne hj]; exact a, b⟩
theorem EnvS.unset {i : Nat} (h : EnvS K H0 ρ σ es) : EnvS K H0 ρ (σ.set i none) (es.set i .no) := by
  refine ⟨by rw [List.length_set, List.length_set]; exact h.1, fun j s q => ?_⟩
  by_cases hj : i = j
  · subst hj
    by_cases hl : i < es.length
    · rw [List.getElem?_set_self hl] at q
      cases q
      exact .inl rfl
    · rw [List.getElem?_eq_none (by rw [List.length_set]; omega)] at q
      cases q
  · rw [List.getElem?_set_ne hj] at q
    rcases h.2 j s q with z | ⟨v', a, b⟩
    · exact .inl z
    · exact .inr ⟨v', by rw [List.getElem?_set_ne hj]; exact a, b⟩
def wipeS (es : List Sl) : List Nat → List Sl
  | [] => es
  | v :: vs => (wipeS es vs).set v .no
theorem EnvS.wipe (h : EnvS K H0 ρ σ es) : ∀ vs : List Nat, EnvS K H0 ρ (wipe σ vs) (wipeS es vs)
  | [] => h
  | v :: vs => by
    unfold L2.wipe wipeS
    exact (EnvS.wipe h vs).unset
theorem Wd.nT_fresh (w : Wd K H0 H ρ m) (p : Addr × Str) (hp : p ∈ Tbs.T) (h : ∀ o, H0' p.1 = some o → H0 p.1 = some o ∨ H p.1 = none) : H0' p.1 = none := by
  cases q : H0' p.1 with
  | none => rfl
  | some o =>
    obtain ⟨ps, e, _⟩ := w.tab p hp
    rcases h o q with z | z
    · rw [w.nT p hp] at z; cases z
    · rw [e] at z; cases z
theorem Wd.grow {n : Nat} (w : Wd K H0 H ρ m) (ex : Evl.Ex H0 H0') (ex2 : Evl.Ex H0' H') (k : Evl.Ex H H') (fresh : ∀ b o, H0' b = some o → H0 b = some o ∨ H b = none) : Wd K H0' H' ρ m ∧ Stp n ρ H0 H ρ H0' H' := by
  refine ⟨⟨ex2, w.len, w.nd, fun j p ds a b => ?_, w.tab.ext k, fun p hp => w.nT_fresh p hp fun o h => fresh _ o h⟩, ⟨ex, fun b o h _ _ => k b o h, fun b h => ?_, fun b o h => ?_, rfl, fun b h => .inl h⟩⟩
  · obtain ⟨h1, vs, h2, h3⟩ := w.cel j p ds a b
    refine ⟨?_, vs, k _ _ h2, dpAll_mono ex h3⟩
    cases q : H0' p with
    | none => rfl
    | some o =>
      rcases fresh p o q with z | z
      · rw [h1] at z; cases z
      · rw [h2] at z; cases z
  · exact Evl.fresh_back k h
  · rcases fresh b o h with z | z
    · exact .inl z
    · exact .inr (.inl z)
theorem Wd.new {n : Nat} {p : Addr} {o : HO} (w : Wd K H0 H ρ m) (hp : H p = none) : Wd K (upd H0 p o) (upd H p o) ρ m ∧ Stp n ρ H0 H ρ (upd H0 p o) (upd H p o) := by
  have h0 : H0 p = none := Evl.fresh_back w.ex hp
  refine w.grow (Evl.Ex.new h0) (fun b u h => ?_) (Evl.Ex.new hp) fun b u h => ?_
  · by_cases e : b = p
    · subst e
      rw [upd_same] at h ⊢
      exact h
    · rw [upd_ne e] at h ⊢
      exact w.ex _ _ h
  · by_cases e : b = p
    · subst e
      exact .inr hp
    · rw [upd_ne e] at h
      exact .inl h
end

/-! ### judgements -/
section
variable (K : PySem.W.Frag)
def EvE (te : TE) (es : List Sl) (m : M) (r : Sl) (m' : M) : Prop := ∀ σ H H0 ρ, Wd K H0 H ρ m → EnvS K H0 ρ σ es → ∀ Q : VK,
  (∀ v H' H0', Stp ρ.length ρ H0 H ρ H0' H' → Wd K H0' H' ρ m' → SlOk K H0' ρ v r → Q v H') → te σ H Q
def EvB (tt : TT) (es : List Sl) (m : M) (b : Bool) (m' : M) : Prop := ∀ σ H H0 ρ, Wd K H0 H ρ m → EnvS K H0 ρ σ es → ∀ Q : Bool → Hp → Prop,
  (∀ H' H0', Stp ρ.length ρ H0 H ρ H0' H' → Wd K H0' H' ρ m' → Q b H') → tt σ H Q
def EvA (ta : TA) (es : List Sl) (m : M) (rs : List Sl) (m' : M) : Prop := ∀ σ H H0 ρ, Wd K H0 H ρ m → EnvS K H0 ρ σ es → ∀ Q : List V → Hp → Prop,
  (∀ vs H' H0', Stp ρ.length ρ H0 H ρ H0' H' → Wd K H0' H' ρ m' → SlAll K H0' ρ vs rs → Q vs H') → ta σ H Q
def EvO (to : TO) (es : List Sl) (m : M) (o : Option Int) (m' : M) : Prop := ∀ σ H H0 ρ, Wd K H0 H ρ m → EnvS K H0 ρ σ es → ∀ Q : Option Int → Hp → Prop,
  (∀ H' H0', Stp ρ.length ρ H0 H ρ H0' H' → Wd K H0' H' ρ m' → Q o H') → to σ H Q
/-- an operation on values: new objects only -/
def Op2 (r : R2) (x y z : PyData) : Prop := ∀ H0 H, Evl.Ex H0 H → ∀ v w, Dp K H0 v x → Dp K H0 w y → ∀ Q : VK,
  (∀ u H' H0', Evl.Ex H0 H0' → Evl.Ex H0' H' → Evl.Ex H H' → (∀ b o, H0' b = some o → H0 b = some o ∨ H b = none) → Dp K H0' u z → Q u H') → r v w H Q
def Op1 (r : V → Hp → VK → Prop) (x z : PyData) : Prop := ∀ H0 H, Evl.Ex H0 H → ∀ v, Dp K H0 v x → ∀ Q : VK,
  (∀ u H' H0', Evl.Ex H0 H0' → Evl.Ex H0' H' → Evl.Ex H H' → (∀ b o, H0' b = some o → H0 b = some o ∨ H b = none) → Dp K H0' u z → Q u H') → r v H Q
/-- a call on values -/
def OpC (r : List V → Hp → VK → Prop) (rs : List Sl) (z : PyData) : Prop := ∀ H0 H ρ, Evl.Ex H0 H → ∀ vs, SlAll K H0 ρ vs rs → ∀ Q : VK,
  (∀ u H' H0', Evl.Ex H0 H0' → Evl.Ex H0' H' → Evl.Ex H H' → (∀ b o, H0' b = some o → H0 b = some o ∨ H b = none) → Dp K H0' u z → Q u H') → r vs H Q
end

section
variable {K : PySem.W.Frag} {te ta tb tc : TE} {tt tu : TT} {es : List Sl} {m m1 m2 m3 : M} {r x y z : Sl} {a b c : Bool}

theorem ev_var {i : Nat} (h : es[i]? = some r) (hn : r ≠ .no) : EvE K (tVar i) es m r m := fun σ H H0 ρ w e Q q => by
  rcases e.2 i r h with z | ⟨v, h1, h2⟩
  · exact (hn z).elim
  · exact ⟨v, h1, q v H H0 .refl w h2⟩
theorem ev_c {v : V} (h : ∀ H0 ρ, SlOk K H0 ρ v r) : EvE K (tC v) es m r m := fun σ H H0 ρ w e Q q => q v H H0 .refl w (h H0 ρ)
theorem ev_int {i : Int} : EvE K (tC (.int i)) es m (.d (.int i)) m := ev_c fun _ _ => .int i
theorem ev_bl {i : Bool} : EvE K (tC (.bl i)) es m (.d (.bool i)) m := ev_c fun _ _ => .bl i
theorem ev_str {i : Str} : EvE K (tC (.str i)) es m (.d (.str i)) m := ev_c fun _ _ => .str i
theorem ev_non : EvE K (tC .non) es m (.d .none) m := ev_c fun _ _ => .non
theorem ev_ty {n : String} : EvE K (tC (.ty n)) es m (.v (.ty n)) m := ev_c fun _ _ => rfl
theorem ev_cast {r' : Sl} (h : EvE K te es m r m1) (e : r = r') : EvE K te es m r' m1 := e ▸ h
theorem eb_cast {b' : Bool} (h : EvB K tt es m b m1) (e : b = b') : EvB K tt es m b' m1 := e ▸ h

theorem two (h1 : EvE K ta es m x m1) (h2 : EvE K tb es m1 y m2) {R : V → V → Hp → Prop} {σ H H0 ρ} (w : Wd K H0 H ρ m) (e : EnvS K H0 ρ σ es)
    (hR : ∀ u v H' H0', Stp ρ.length ρ H0 H ρ H0' H' → Wd K H0' H' ρ m2 → SlOk K H0' ρ u x → SlOk K H0' ρ v y → R u v H') : ta σ H fun u H1 => tb σ H1 fun v H2 => R u v H2 :=
  h1 σ H H0 ρ w e _ fun u H1 H01 s1 w1 k1 => h2 σ H1 H01 ρ w1 (e.mono s1.ex) _ fun v H2 H02 s2 w2 k2 => hR u v H2 H02 (s1.trans w1.nd s2) w2 (k1.mono s2.ex) k2

theorem ev_op {rr : R2} {x y z : PyData} (h1 : EvE K ta es m (.d x) m1) (h2 : EvE K tb es m1 (.d y) m2) (hr : Op2 K rr x y z) : EvE K (tOp rr ta tb) es m (.d z) m2 := fun σ H H0 ρ w e Q q =>
  two h1 h2 w e fun u v H' H0' s' w' ku kv => hr H0' H' w'.ex u v ku kv Q fun z' H2 H02 e1 e2 e3 fr kz => by
    obtain ⟨w2, s2⟩ := w'.grow (n := ρ.length) e1 e2 e3 fr
    exact q z' H2 H02 (s'.trans w'.nd s2) w2 kz
theorem ev_un {rr : V → Hp → VK → Prop} {x z : PyData} (h1 : EvE K ta es m (.d x) m1) (hr : Op1 K rr x z) : EvE K (tUn rr ta) es m (.d z) m1 := fun σ H H0 ρ w e Q q =>
  h1 σ H H0 ρ w e _ fun u H' H0' s' w' ku => hr H0' H' w'.ex u ku Q fun z' H2 H02 e1 e2 e3 fr kz => by
    obtain ⟨w2, s2⟩ := w'.grow (n := ρ.length) e1 e2 e3 fr
    exact q z' H2 H02 (s'.trans w'.nd s2) w2 kz
theorem ea_nil : EvA K tNil es m [] m := fun σ H H0 ρ w e Q q => q [] H H0 .refl w .nil
theorem ea_cons {t : TA} {rs : List Sl} (h1 : EvE K ta es m r m1) (h2 : EvA K t es m1 rs m2) : EvA K (tCons ta t) es m (r :: rs) m2 := fun σ H H0 ρ w e Q q =>
  h1 σ H H0 ρ w e _ fun u H' H0' s' w' ku => h2 σ H' H0' ρ w' (e.mono s'.ex) _ fun vs H2 H02 s2 w2 kv => q (u :: vs) H2 H02 (s'.trans w'.nd s2) w2 (.cons (ku.mono s2.ex) kv)
theorem slAll_d {H0 : Hp} {ρ : List Addr} : ∀ {ds : List PyData} {vs : List V}, SlAll K H0 ρ vs (ds.map .d) → DpAll K H0 vs ds
  | [], _, h => by cases h; exact .nil
  | d :: ds, _, h => by
    cases h with
    | cons a t => exact .cons a (slAll_d t)
theorem dpAll_len {H0 : Hp} : ∀ {vs : List V} {ds : List PyData}, DpAll K H0 vs ds → vs.length = ds.length
  | _, _, .nil => rfl
  | _, _, .cons _ t => by rw [List.length_cons, List.length_cons, dpAll_len t]
theorem ev_tup {t : TA} {rs : List Sl} {ds : List PyData} (h : EvA K t es m rs m1) (e : rs = ds.map .d) (hl : ds.length ≤ 1000) : EvE K (tTup t) es m (.d (.tuple ds)) m1 := fun σ H H0 ρ w ee Q q => by
  subst e
  refine h σ H H0 ρ w ee _ fun vs H' H0' s' w' kv => ?_
  have hd := slAll_d kv
  refine ⟨Nat.le_of_lt (small1000 (by rw [dpAll_len hd]; exact hl)), fun p hp => ?_⟩
  obtain ⟨w2, s2⟩ := w'.new (n := ρ.length) (o := .tup vs) hp
  exact q _ _ _ (s'.trans w'.nd s2) w2 (Dp.tup (.inl (.inl upd_same)) (dpAll_mono s2.ex hd))
theorem ev_lst {t : TA} {rs : List Sl} {ds : List PyData} (h : EvA K t es m rs m1) (e : rs = ds.map .d) (hl : ds.length ≤ 1000) : EvE K (tLst t) es m (.d (.list ds)) m1 := fun σ H H0 ρ w ee Q q => by
  subst e
  refine h σ H H0 ρ w ee _ fun vs H' H0' s' w' kv => ?_
  have hd := slAll_d kv
  refine ⟨Nat.le_of_lt (small1000 (by rw [dpAll_len hd]; exact hl)), fun p hp => ?_⟩
  obtain ⟨w2, s2⟩ := w'.new (n := ρ.length) (o := .lst vs) hp
  exact q _ _ _ (s'.trans w'.nd s2) w2 (Dp.lst (.inl (.inl upd_same)) (dpAll_mono s2.ex hd))
/-- a built-in's call -/
theorem ev_cb {rr : List V → Hp → VK → Prop} {t : TA} {rs : List Sl} {z : PyData} (h : EvA K t es m rs m1) (hr : OpC K rr rs z) : EvE K (tCB rr t) es m (.d z) m1 := fun σ H H0 ρ w e Q q =>
  h σ H H0 ρ w e _ fun vs H' H0' s' w' kv => hr H0' H' ρ w'.ex vs kv Q fun z' H2 H02 e1 e2 e3 fr kz => by
    obtain ⟨w2, s2⟩ := w'.grow (n := ρ.length) e1 e2 e3 fr
    exact q z' H2 H02 (s'.trans w'.nd s2) w2 kz

/-! ### and, or, not, tests -/
theorem ev_and (h1 : EvE K ta es m (.d (.bool a)) m1) (h2 : a = true → EvE K tb es m1 (.d (.bool b)) m1) : EvE K (tAndV ta tb) es m (.d (.bool (a && b))) m1 := fun σ H H0 ρ w e Q q =>
  h1 σ H H0 ρ w e _ fun u H' H0' s' w' ku => by
    cases ku
    refine ⟨a, rfl, ?_⟩
    cases a with
    | true => exact iteT (h2 rfl σ H' H0' ρ w' (e.mono s'.ex) Q fun v H2 H02 s2 w2 k2 => q v H2 H02 (s'.trans w'.nd s2) w2 k2)
    | false => exact iteF (q _ H' H0' s' w' (.bl false))
theorem ev_or (h1 : EvE K ta es m (.d (.bool a)) m1) (h2 : a = false → EvE K tb es m1 (.d (.bool b)) m1) : EvE K (tOrV ta tb) es m (.d (.bool (a || b))) m1 := fun σ H H0 ρ w e Q q =>
  h1 σ H H0 ρ w e _ fun u H' H0' s' w' ku => by
    cases ku
    refine ⟨a, rfl, ?_⟩
    cases a with
    | true => exact iteT (q _ H' H0' s' w' (.bl true))
    | false => exact iteF (h2 rfl σ H' H0' ρ w' (e.mono s'.ex) Q fun v H2 H02 s2 w2 k2 => q v H2 H02 (s'.trans w'.nd s2) w2 k2)
theorem ev_not (h1 : EvE K ta es m (.d (.bool a)) m1) : EvE K (tNotV ta) es m (.d (.bool (!a))) m1 := fun σ H H0 ρ w e Q q =>
  h1 σ H H0 ρ w e _ fun u H' H0' s' w' ku => by
    cases ku
    exact ⟨a, rfl, q _ H' H0' s' w' (.bl _)⟩
theorem eb_val (h1 : EvE K ta es m (.d (.bool a)) m1) : EvB K (tB ta) es m a m1 := fun σ H H0 ρ w e Q q =>
  h1 σ H H0 ρ w e _ fun u H' H0' s' w' ku => by
    cases ku
    exact ⟨a, rfl, q H' H0' s' w'⟩
theorem eb_test (h1 : EvE K ta es m (.d (.bool a)) m1) : EvB K (tTest ta) es m a m1 := fun σ H H0 ρ w e Q q =>
  h1 σ H H0 ρ w e _ fun u H' H0' s' w' ku => by
    cases ku
    exact ⟨a, rfl, q H' H0' s' w'⟩
theorem eb_and (h1 : EvB K tt es m a m1) (h2 : a = true → EvB K tu es m1 b m1) : EvB K (tAnd tt tu) es m (a && b) m1 := fun σ H H0 ρ w e Q q =>
  h1 σ H H0 ρ w e _ fun H' H0' s' w' => by
    cases a with
    | true => exact iteT (h2 rfl σ H' H0' ρ w' (e.mono s'.ex) Q fun H2 H02 s2 w2 => q H2 H02 (s'.trans w'.nd s2) w2)
    | false => exact iteF (q H' H0' s' w')
theorem eb_or (h1 : EvB K tt es m a m1) (h2 : a = false → EvB K tu es m1 b m1) : EvB K (tOr tt tu) es m (a || b) m1 := fun σ H H0 ρ w e Q q =>
  h1 σ H H0 ρ w e _ fun H' H0' s' w' => by
    cases a with
    | true => exact iteT (q H' H0' s' w')
    | false => exact iteF (h2 rfl σ H' H0' ρ w' (e.mono s'.ex) Q fun H2 H02 s2 w2 => q H2 H02 (s'.trans w'.nd s2) w2)
theorem eb_not (h1 : EvB K tt es m a m1) : EvB K (tNot tt) es m (!a) m1 := fun σ H H0 ρ w e Q q =>
  h1 σ H H0 ρ w e _ fun H' H0' s' w' => q H' H0' s' w'
theorem ev_if (h1 : EvB K tt es m a m1) (h2 : a = true → EvE K ta es m1 r m2) (h3 : a = false → EvE K tb es m1 r m2) : EvE K (tIf tt ta tb) es m r m2 := fun σ H H0 ρ w e Q q =>
  h1 σ H H0 ρ w e _ fun H' H0' s' w' => by
    cases a with
    | true => exact iteT (h2 rfl σ H' H0' ρ w' (e.mono s'.ex) Q fun v H2 H02 s2 w2 k2 => q v H2 H02 (s'.trans w'.nd s2) w2 k2)
    | false => exact iteF (h3 rfl σ H' H0' ρ w' (e.mono s'.ex) Q fun v H2 H02 s2 w2 k2 => q v H2 H02 (s'.trans w'.nd s2) w2 k2)
/-- a < b < c -/
theorem ev_chain {rr rs : R2} {x y z : PyData} (h1 : EvE K ta es m (.d x) m1) (h2 : EvE K tb es m1 (.d y) m2) (hr : Op2 K rr x y (.bool a)) (h3 : a = true → EvE K tc es m2 (.d z) m2) (hs : a = true → Op2 K rs y z (.bool b)) :
    EvE K (tChain rr rs ta tb tc) es m (.d (.bool (a && b))) m2 := fun σ H H0 ρ w e Q q =>
  two h1 h2 w e fun u v H' H0' s' w' ku kv => hr H0' H' w'.ex u v ku kv _ fun z' H2 H02 e1 e2 e3 fr kz => by
    obtain ⟨w2, s2⟩ := w'.grow (n := ρ.length) e1 e2 e3 fr
    have s3 := s'.trans w'.nd s2
    cases kz
    refine ⟨a, rfl, ?_⟩
    cases a with
    | true =>
      refine iteT (h3 rfl σ H2 H02 ρ w2 (e.mono s3.ex) _ fun t H4 H04 s4 w4 kt => hs rfl H04 H4 w4.ex v t (dp_mono (s2.ex.trans s4.ex) kv) kt Q fun z5 H5 H05 e1 e2 e3 fr kz => ?_)
      obtain ⟨w5, s5⟩ := w4.grow (n := ρ.length) e1 e2 e3 fr
      exact q z5 H5 H05 ((s3.trans w2.nd s4).trans w4.nd s5) w5 kz
    | false => exact iteF (q _ H2 H02 s3 w2 (.bl false))
end
end DL

set_option Elab.async false
set_option linter.all false
set_option maxRecDepth 100000
namespace DL
variable [Tbs]
open PySem PySem.Spec PyProof.Rows L2

/-! ### defs -/
section
variable (K : PySem.W.Frag)
def spD (n : Nat) (g : List Sl → M → Sl → M → Prop) : Sp := fun vs H Q E => vs.length = n ∧ ∃ H0 ρ m rs r m', Wd K H0 H ρ m ∧ SlAll K H0 ρ vs rs ∧ g rs m r m' ∧
  ∀ v H' H0', Stp ρ.length ρ H0 H ρ H0' H' → Wd K H0' H' ρ m' → SlOk K H0' ρ v r → Q v H'
end
structure DefC (P : Program) (w : World) (K : PySem.W.Frag) (mg : Str → Option Value) (base : Heap) (CX : CXT) (k : Nat) (x : Str) (ps : List Str) (sp : Sp) : Prop where
  ex : ∃ f fd, FnOk P w K mg base CX k f fd ps sp ∧ mg x = some (.ref f) ∧ PySem.W.keepIn K (.ref f) = true ∧ Binds K fd ps []
structure DefT (K : PySem.W.Frag) (mg : Str → Option Value) (x : Str) (st : Stmt) (ps : List Str) : Prop where
  ex : ∃ f fd, Fun K x x st f fd ∧ mg x = some (.ref f) ∧ Binds K fd ps []
theorem DefC.mono {P : Program} {w : World} {K : PySem.W.Frag} {mg : Str → Option Value} {base : Heap} {CX : CXT} {j k : Nat} {x : Str} {ps : List Str} {sp : Sp} (D : DefC P w K mg base CX j x ps sp) (h : j ≤ k) : DefC P w K mg base CX k x ps sp := by
  obtain ⟨f, fd, F, r⟩ := D.ex
  exact ⟨f, fd, F.mono h, r⟩
theorem pe_def {X : Cx} {CX : CXT} {k : Nat} {x : Str} {ps : List Str} {sp : Sp} {E : XK} {e : Expr} {es : List Expr} {t : TA} {p pos : Pos} (D : DefC X.prog X.w X.K X.mg X.base CX k x ps sp) (hr : Room k X.A) (hg : Gl X x) (hx : Passes CX X E)
    (ha : PA X (e :: es) t) (hdb : (x == ("__debug__" : Str)) = false := by decide) (he : starEach (e :: es) X.env = (false, eval e X.env) :: starEach es X.env := by rfl) (hpl : (backTo pos (starEach es X.env)).any (·.1) = false := by rfl) :
    PE X (.Call (.Name x p) (e :: es) [] pos) (tCall sp [] E t) := by
  obtain ⟨f, fd, F, hm, hk, hb⟩ := D.ex
  exact pe_call F hr hg hm hk hb .nil hx ha hdb he hpl
theorem opOr {X : Cx} {f : Value → Value → Sem Value} {r1 r2 : R2} (h1 : OpR X f r1) (h2 : OpR X f r2) : OpR X f (fun x y H Q => r1 x y H Q ∨ r2 x y H Q) := by
  intro pins s σ H x y v u Q I rx ry h
  rcases h with h | h
  · exact h1 pins s σ H x y v u Q I rx ry h
  · exact h2 pins s σ H x y v u Q I rx ry h
theorem callOr {X : Cx} {f : Value} {r1 r2 : List V → Hp → VK → Prop} (h1 : CallR X f r1) (h2 : CallR X f r2) : CallR X f (fun x H Q => r1 x H Q ∨ r2 x H Q) := by
  intro pins s σ H xs us Q I r h
  rcases h with h | h
  · exact h1 pins s σ H xs us Q I r h
  · exact h2 pins s σ H xs us Q I r h
theorem piOr {X : Cx} {tg iter : Expr} {w1 w2 : TI} (h1 : PI X tg iter w1) (h2 : PI X tg iter w2) : PI X tg iter (fun σ H R => w1 σ H R ∨ w2 σ H R) := by
  refine ⟨fun pins s σ H R I h => ?_⟩
  rcases h with h | h
  · exact h1.run pins s σ H R I h
  · exact h2.run pins s σ H R I h
theorem peOr {X : Cx} {e : Expr} {t1 t2 : TE} (h1 : PE X e t1) (h2 : PE X e t2) : PE X e (fun σ H Q => t1 σ H Q ∨ t2 σ H Q) := by
  refine ⟨fun pins s σ H Q I h => ?_⟩
  rcases h with h | h
  · exact h1.run pins s σ H Q I h
  · exact h2.run pins s σ H Q I h

section
variable {K : PySem.W.Frag} {te ta tb tc : TE} {tt tu : TT} {es : List Sl} {m m1 m2 m3 : M} {r x y z : Sl} {a b c : Bool}
theorem ev_call {n : Nat} {g : List Sl → M → Sl → M → Prop} {E : XK} {t : TA} {rs : List Sl} (h : EvA K t es m rs m1) (hg : g rs m1 r m2) (hn : rs.length = n) : EvE K (tCall (spD K n g) [] E t) es m r m2 := fun σ H H0 ρ w e Q q =>
  h σ H H0 ρ w e _ fun vs H' H0' s' w' kv => by
    rw [List.append_nil]
    exact ⟨by rw [kv.length]; exact hn, H0', ρ, m1, rs, r, m2, w', kv, hg, fun v H2 H02 s2 w2 k2 => q v H2 H02 (s'.trans w'.nd s2) w2 k2⟩
theorem ev_orL {t1 t2 : TE} (h : EvE K t1 es m r m1) : EvE K (fun σ H Q => t1 σ H Q ∨ t2 σ H Q) es m r m1 := fun σ H H0 ρ w e Q q => .inl (h σ H H0 ρ w e Q q)
theorem ev_orR {t1 t2 : TE} (h : EvE K t2 es m r m1) : EvE K (fun σ H Q => t1 σ H Q ∨ t2 σ H Q) es m r m1 := fun σ H H0 ρ w e Q q => .inr (h σ H H0 ρ w e Q q)

/-! ### statements -/
inductive Out where
  | nx (es : List Sl) (m : M)
  | ret (r : Sl) (m : M)
  | brk (es : List Sl) (m : M)
  | cnt (es : List Sl) (m : M)
  /-- hands back the cell behind m, a new list of these -/
  | rtc (ds : List PyData) (m : M)
variable (K) in
def SvO (D : Ends) (n : Nat) (ρ : List Addr) (H0 H : Hp) : Out → Prop
  | .nx es' m' => ∀ σ' ρ' H' H0', Stp n ρ H0 H ρ' H0' H' → Wd K H0' H' ρ' m' → EnvS K H0' ρ' σ' es' → D.nx σ' H'
  | .ret r m' => ∀ v ρ' H' H0' ml, Stp n ρ H0 H ρ' H0' H' → Wd K H0' H' ρ' (m' ++ ml) → SlOk K H0' ρ' v r → D.rt v H'
  | .brk es' m' => ∀ σ' ρ' H' H0', Stp n ρ H0 H ρ' H0' H' → Wd K H0' H' ρ' m' → EnvS K H0' ρ' σ' es' → D.bk σ' H'
  | .cnt es' m' => ∀ σ' ρ' H' H0', Stp n ρ H0 H ρ' H0' H' → Wd K H0' H' ρ' m' → EnvS K H0' ρ' σ' es' → D.ct σ' H'
  | .rtc ds m' => ∀ p ρ' H' H0', Stp n ρ H0 H ρ' H0' H' → Wd K H0' H' ρ' (m' ++ [ds]) → ρ'[m'.length]? = some p → D.rt (.ref p) H'
variable (K) in
def Sv (n : Nat) (t : TS) (es : List Sl) (m : M) (o : Out) : Prop := ∀ σ H H0 ρ, n ≤ ρ.length → Wd K H0 H ρ m → EnvS K H0 ρ σ es → ∀ D : Ends, SvO K D n ρ H0 H o → t D σ H

theorem SvO.step {D : Ends} {n : Nat} {ρ ρ' : List Addr} {H0 H H0' H' : Hp} (nd : ρ'.Nodup) (s : Stp n ρ H0 H ρ' H0' H') : ∀ {o : Out}, SvO K D n ρ H0 H o → SvO K D n ρ' H0' H' o
  | .nx _ _, h => fun σ2 ρ2 H2 H02 s2 w2 e2 => h σ2 ρ2 H2 H02 (s.trans nd s2) w2 e2
  | .ret _ _, h => fun v ρ2 H2 H02 ml s2 w2 e2 => h v ρ2 H2 H02 ml (s.trans nd s2) w2 e2
  | .brk _ _, h => fun σ2 ρ2 H2 H02 s2 w2 e2 => h σ2 ρ2 H2 H02 (s.trans nd s2) w2 e2
  | .cnt _ _, h => fun σ2 ρ2 H2 H02 s2 w2 e2 => h σ2 ρ2 H2 H02 (s.trans nd s2) w2 e2
  | .rtc _ _, h => fun p ρ2 H2 H02 s2 w2 e2 => h p ρ2 H2 H02 (s.trans nd s2) w2 e2
theorem Stp.low {n : Nat} {ρ : List Addr} {H0 H H0' H' : Hp} (s : Stp ρ.length ρ H0 H ρ H0' H') : Stp n ρ H0 H ρ H0' H' :=
  ⟨s.ex, s.keep, s.dom, fun b o h => by
    rcases s.fresh b o h with z | z | z
    · exact .inl z
    · exact .inr (.inl z)
    · rw [List.drop_length] at z
      exact absurd z (by simp), rfl, fun b h => .inl h⟩

theorem sv_cast {n : Nat} {t : TS} {o o' : Out} (h : Sv K n t es m o) (e : o = o') : Sv K n t es m o' := e ▸ h
theorem sv_seq {n : Nat} {t u : TS} {es1 : List Sl} {o : Out} (h1 : Sv K n t es m (.nx es1 m1)) (h2 : Sv K n u es1 m1 o) : Sv K n (tSeq t u) es m o := fun σ H H0 ρ hn w e D q =>
  h1 σ H H0 ρ hn w e _ fun σ1 ρ1 H1 H01 s1 w1 e1 => h2 σ1 H1 H01 ρ1 (by
    have := congrArg List.length s1.pre
    rw [List.length_take, List.length_take] at this
    omega) w1 e1 D (q.step w1.nd s1)
def Out.no : Out → Bool
  | .nx _ _ => false
  | _ => true
theorem sv_out {n : Nat} {t u : TS} : ∀ {o : Out}, o.no = true → Sv K n t es m o → Sv K n (tSeq t u) es m o
  | .nx _ _, h, _ => by cases h
  | .ret _ _, _, h => fun σ H H0 ρ hn w e D q => h σ H H0 ρ hn w e _ q
  | .brk _ _, _, h => fun σ H H0 ρ hn w e D q => h σ H H0 ρ hn w e _ q
  | .cnt _ _, _, h => fun σ H H0 ρ hn w e D q => h σ H H0 ρ hn w e _ q
  | .rtc _ _, _, h => fun σ H H0 ρ hn w e D q => h σ H H0 ρ hn w e _ q
theorem sv_if {n : Nat} {t u : TS} {o : Out} (h : EvB K tt es m a m1) (h1 : a = true → Sv K n t es m1 o) (h2 : a = false → Sv K n u es m1 o) : Sv K n (tIfS tt t u) es m o := fun σ H H0 ρ hn w e D q =>
  h σ H H0 ρ w e _ fun H1 H01 s1 w1 => by
    cases a with
    | true => exact iteT (h1 rfl σ H1 H01 ρ hn w1 (e.mono s1.ex) D (q.step w1.nd s1.low))
    | false => exact iteF (h2 rfl σ H1 H01 ρ hn w1 (e.mono s1.ex) D (q.step w1.nd s1.low))
/-- if, and what comes behind it -/
theorem sv_ifs {n : Nat} {t u v : TS} {o : Out} (h : EvB K tt es m a m1) (h1 : a = true → Sv K n (tSeq t v) es m1 o) (h2 : a = false → Sv K n (tSeq u v) es m1 o) : Sv K n (tSeq (tIfS tt t u) v) es m o := fun σ H H0 ρ hn w e D q =>
  h σ H H0 ρ w e _ fun H1 H01 s1 w1 => by
    cases a with
    | true => exact iteT (h1 rfl σ H1 H01 ρ hn w1 (e.mono s1.ex) D (q.step w1.nd s1.low))
    | false => exact iteF (h2 rfl σ H1 H01 ρ hn w1 (e.mono s1.ex) D (q.step w1.nd s1.low))
theorem sv_next {n : Nat} : Sv K n tNext es m (.nx es m) := fun σ H H0 ρ hn w e D q => q σ ρ H H0 .refl w e
theorem sv_skip {n : Nat} {v : TS} {o : Out} (h : Sv K n v es m o) : Sv K n (tSeq tNext v) es m o := sv_seq sv_next h
theorem sv_ret {n : Nat} {ml : M} (h : EvE K te es m r (m1 ++ ml)) : Sv K n (tRet te) es m (.ret r m1) := fun σ H H0 ρ hn w e D q =>
  h σ H H0 ρ w e _ fun v H1 H01 s1 w1 k1 => q v ρ H1 H01 ml s1.low w1 k1
theorem sv_ret0 {n : Nat} (h : EvE K te es m r m1) : Sv K n (tRet te) es m (.ret r m1) := sv_ret (ml := []) (by rw [List.append_nil]; exact h)
/-- return of a cell -/
theorem sv_rtc {n i : Nat} {ds : List PyData} (hi : es[i]? = some (.c m.length)) : Sv K n (tRet (tVar i)) es (m ++ [ds]) (.rtc ds m) := fun σ H H0 ρ hn w e D q => by
  rcases e.2 i _ hi with z | ⟨v, h1, p, rfl, h2⟩
  · cases z
  · exact ⟨_, h1, q p ρ H H0 .refl w h2⟩
theorem sv_break {n : Nat} : Sv K n tBreak es m (.brk es m) := fun σ H H0 ρ hn w e D q => q σ ρ H H0 .refl w e
theorem sv_cont {n : Nat} : Sv K n tCont es m (.cnt es m) := fun σ H H0 ρ hn w e D q => q σ ρ H H0 .refl w e
theorem sv_drop {n : Nat} (h : EvE K te es m r m1) : Sv K n (tDrop te) es m (.nx es m1) := fun σ H H0 ρ hn w e D q =>
  h σ H H0 ρ w e _ fun v H1 H01 s1 w1 k1 => q σ ρ H1 H01 s1.low w1 (e.mono s1.ex)

/-! ### targets -/
variable (K) in
def Gv (g : TG) (is : List Nat) (r : Sl) (es es' : List Sl) : Prop := ∀ σ H H0 ρ v, Evl.Ex H0 H → EnvS K H0 ρ σ es → SlOk K H0 ρ v r → ∀ Q : L2.St → Hp → Prop,
  (∀ σ', EnvS K H0 ρ σ' es' → (∀ vs : List Nat, (∀ i, i ∈ is → i ∈ vs) → wipe σ' vs = wipe σ vs) → Q σ' H) → g v σ H Q
variable (K) in
def Gvs (g : TGs) (is : List Nat) (rs : List PyData) (es es' : List Sl) : Prop := ∀ σ H H0 ρ vs, Evl.Ex H0 H → EnvS K H0 ρ σ es → DpAll K H0 vs rs → ∀ Q : L2.St → Hp → Prop,
  (∀ σ', EnvS K H0 ρ σ' es' → (∀ vs : List Nat, (∀ i, i ∈ is → i ∈ vs) → wipe σ' vs = wipe σ vs) → Q σ' H) → g vs σ H Q
theorem wipe_get : ∀ (vs : List Nat) (σ : L2.St) (i : Nat), (wipe σ vs)[i]? = if i ∈ vs then σ[i]?.map (fun _ => none) else σ[i]?
  | [], σ, i => by simp [wipe]
  | v :: vs, σ, i => by
    have ih := wipe_get vs σ i
    show ((wipe σ vs).set v none)[i]? = _
    by_cases h : v = i
    · subst h
      rw [if_pos List.mem_cons_self]
      by_cases hl : v < (wipe σ vs).length
      · rw [List.getElem?_set_self hl]
        rw [wipe_length] at hl
        rw [List.getElem?_eq_getElem hl]
        rfl
      · rw [List.getElem?_eq_none (by rw [List.length_set]; omega)]
        rw [wipe_length] at hl
        rw [List.getElem?_eq_none (by omega)]
        rfl
    · rw [List.getElem?_set_ne h, ih]
      by_cases hm : i ∈ vs
      · rw [if_pos hm, if_pos (List.mem_cons_of_mem _ hm)]
      · rw [if_neg hm, if_neg (fun z => by
          rcases List.mem_cons.mp z with z | z
          · exact h z.symm
          · exact hm z)]
theorem wipe_ext {σ τ : L2.St} {vs : List Nat} (hl : σ.length = τ.length) (h : ∀ i, i ∉ vs → σ[i]? = τ[i]?) : wipe σ vs = wipe τ vs := by
  refine List.ext_getElem? fun i => ?_
  rw [wipe_get, wipe_get]
  by_cases hm : i ∈ vs
  · rw [if_pos hm, if_pos hm]
    by_cases hi : i < σ.length
    · rw [List.getElem?_eq_getElem hi, List.getElem?_eq_getElem (by omega)]
      rfl
    · rw [List.getElem?_eq_none (by omega), List.getElem?_eq_none (by omega)]
  · rw [if_neg hm, if_neg hm]
    exact h i hm
theorem wipe_set {σ : L2.St} {vs : List Nat} {i : Nat} {x : Option V} (h : i ∈ vs) : wipe (σ.set i x) vs = wipe σ vs :=
  wipe_ext (by rw [List.length_set]) fun j hj => by
    rw [List.getElem?_set_ne]
    rintro rfl
    exact hj h
theorem wipe_wipe {σ : L2.St} {vs : List Nat} : wipe (wipe σ vs) vs = wipe σ vs :=
  wipe_ext (by rw [wipe_length]) fun j hj => by rw [wipe_get, if_neg hj]
theorem gv_name {i : Nat} : Gv K (gName i) [i] r es (es.set i r) := fun σ H H0 ρ v ex e k Q q => q _ (e.set k) fun vs h => wipe_set (h i (by simp))
theorem gvs_nil : Gvs K gNil [] [] es es := fun σ H H0 ρ vs ex e k Q q => by
  cases k
  exact ⟨rfl, q σ e fun _ _ => rfl⟩
theorem gvs_cons {g : TG} {gs : TGs} {is js : List Nat} {d : PyData} {ds : List PyData} {es1 es2 : List Sl} (h1 : Gv K g is (.d d) es es1) (h2 : Gvs K gs js ds es1 es2) : Gvs K (gCons g gs) (is ++ js) (d :: ds) es es2 := fun σ H H0 ρ vs ex e k Q q => by
  cases k with
  | cons a t =>
    refine ⟨_, _, rfl, h1 σ H H0 ρ _ ex e a _ fun σ1 e1 w1 => h2 σ1 H H0 ρ _ ex e1 t _ fun σ2 e2 w2 => q σ2 e2 fun vs h => ?_⟩
    rw [w2 vs fun i hi => h i (List.mem_append_right _ hi), w1 vs fun i hi => h i (List.mem_append_left _ hi)]
theorem gv_tup {n : Nat} {gs : TGs} {is : List Nat} {ds : List PyData} {es1 : List Sl} (h : Gvs K gs is ds es es1) (hn : ds.length = n) : Gv K (gTup K n gs) is (.d (.tuple ds)) es es1 := fun σ H H0 ρ v ex e k Q q => by
  cases k with
  | tup hs ha => exact ⟨_, _, rfl, Evl.ex_t ex hs, by rw [dpAll_len ha]; exact hn, h σ H H0 ρ _ ex e ha Q q⟩
theorem sv_asg {n : Nat} {g : TG} {is : List Nat} {es1 : List Sl} (h : EvE K te es m r m1) (hg : Gv K g is r es es1) : Sv K n (tAsg te g) es m (.nx es1 m1) := fun σ H H0 ρ hn w e D q =>
  h σ H H0 ρ w e _ fun v H1 H01 s1 w1 k1 => hg σ H1 H01 ρ v w1.ex (e.mono s1.ex) k1 _ fun σ' e' _ => q σ' ρ H1 H01 s1.low w1 e'
theorem sv_set {n : Nat} {i : Nat} (h : EvE K te es m r m1) : Sv K n (tAsg te (gName i)) es m (.nx (es.set i r) m1) := sv_asg h gv_name

/-! ### what is walked -/
variable (K) in
def ItOk (J : It) (H0 : Hp) (ds : List PyData) : Prop := ∀ (i : Nat) (H : Hp), Evl.Ex H0 H → (i < ds.length → J.go i H) ∧ (ds.length ≤ i → J.stop i H) ∧ ∀ x H', i < ds.length → J.yld i H x H' → H' = H ∧ ∃ d, ds[i]? = some d ∧ Dp K H0 x d
theorem ItOk.mono {J : It} {H0 H0' : Hp} {ds : List PyData} (e : Evl.Ex H0 H0') (h : ItOk K J H0 ds) : ItOk K J H0' ds := fun i H ex => by
  obtain ⟨h1, h2, h3⟩ := h i H (e.trans ex)
  refine ⟨h1, h2, fun x H' hi y => ?_⟩
  obtain ⟨e1, d, e2, e3⟩ := h3 x H' hi y
  exact ⟨e1, d, e2, dp_mono e e3⟩
variable (K) in
def EvI (wi : TI) (es : List Sl) (m : M) (ds : List PyData) (m' : M) : Prop := ∀ σ H H0 ρ, Wd K H0 H ρ m → EnvS K H0 ρ σ es → ∀ R : It → Hp → Prop,
  (∀ J H' H0', Stp ρ.length ρ H0 H ρ H0' H' → Wd K H0' H' ρ m' → ItOk K J H0' ds → R J H') → wi σ H R
theorem dpAll_get {H0 : Hp} : ∀ {vs : List V} {ds : List PyData} {i : Nat} {v : V}, DpAll K H0 vs ds → vs[i]? = some v → ∃ d, ds[i]? = some d ∧ Dp K H0 v d
  | _, _, _, _, .nil, h => by simp at h
  | _, _, 0, _, .cons a _, h => by
    cases h
    exact ⟨_, rfl, a⟩
  | _, _, i + 1, _, .cons _ t, h => dpAll_get (i := i) t h
theorem dpAll_get' {H0 : Hp} : ∀ {vs : List V} {ds : List PyData} {i : Nat} {d : PyData}, DpAll K H0 vs ds → ds[i]? = some d → ∃ v, vs[i]? = some v ∧ Dp K H0 v d
  | _, _, _, _, .nil, h => by simp at h
  | _, _, 0, _, .cons a _, h => by
    cases h
    exact ⟨_, rfl, a⟩
  | _, _, i + 1, _, .cons _ t, h => dpAll_get' (i := i) t h
theorem itOk_l {a : Addr} {xs : List V} {H0 : Hp} {ds : List PyData} (hs : SqL K H0 a xs) (ha : DpAll K H0 xs ds) : ItOk K (Itl K a) H0 ds := fun i H ex => by
  have hl := dpAll_len ha
  refine ⟨fun h => ⟨xs, xs[i], Evl.ex_l ex hs, List.getElem?_eq_getElem (by omega)⟩, fun h => ⟨xs, Evl.ex_l ex hs, by omega⟩, fun x H' _ y => ?_⟩
  obtain ⟨e, q⟩ := y
  exact ⟨e, dpAll_get ha (q xs (Evl.ex_l ex hs))⟩
theorem itOk_t {a : Addr} {xs : List V} {H0 : Hp} {ds : List PyData} (hs : SqT K H0 a xs) (ha : DpAll K H0 xs ds) : ItOk K (Itt K a) H0 ds := fun i H ex => by
  have hl := dpAll_len ha
  refine ⟨fun h => ⟨xs, xs[i], Evl.ex_t ex hs, List.getElem?_eq_getElem (by omega)⟩, fun h => ⟨xs, Evl.ex_t ex hs, by omega⟩, fun x H' _ y => ?_⟩
  obtain ⟨e, q⟩ := y
  exact ⟨e, dpAll_get ha (q xs (Evl.ex_t ex hs))⟩
theorem ei_list {ds : List PyData} (h : EvE K te es m (.d (.list ds)) m1) : EvI K (iList K te) es m ds m1 := fun σ H H0 ρ w e R q =>
  h σ H H0 ρ w e _ fun v H1 H01 s1 w1 k1 => by
    cases k1 with
    | lst hs ha => exact ⟨_, rfl, ⟨_, Evl.ex_l w1.ex hs⟩, q _ H1 H01 s1 w1 (itOk_l hs ha)⟩
theorem ei_tup {ds : List PyData} (h : EvE K te es m (.d (.tuple ds)) m1) : EvI K (iTup K te) es m ds m1 := fun σ H H0 ρ w e R q =>
  h σ H H0 ρ w e _ fun v H1 H01 s1 w1 k1 => by
    cases k1 with
    | tup hs ha => exact ⟨_, rfl, ⟨_, Evl.ex_t w1.ex hs⟩, q _ H1 H01 s1 w1 (itOk_t hs ha)⟩
theorem ei_orL {w1 w2 : TI} {ds : List PyData} (h : EvI K w1 es m ds m1) : EvI K (fun σ H R => w1 σ H R ∨ w2 σ H R) es m ds m1 := fun σ H H0 ρ w e R q => .inl (h σ H H0 ρ w e R q)
theorem ei_orR {w1 w2 : TI} {ds : List PyData} (h : EvI K w2 es m ds m1) : EvI K (fun σ H R => w1 σ H R ∨ w2 σ H R) es m ds m1 := fun σ H H0 ρ w e R q => .inr (h σ H H0 ρ w e R q)
def rangeD (lo : Int) (n : Nat) : List PyData := (List.range n).map fun (i : Nat) => PyData.int (lo + i)
theorem rangeD_len {lo : Int} {n : Nat} : (rangeD lo n).length = n := by unfold rangeD; simp
theorem itOk_r {lo : Int} {n : Nat} {H0 : Hp} : ItOk K (Itr lo n) H0 (rangeD lo n) := fun i H ex => by
  rw [rangeD_len]
  refine ⟨id, id, fun x H' hi y => ?_⟩
  obtain ⟨e, q⟩ := y
  subst q
  refine ⟨e, .int (lo + i), ?_, .int _⟩
  unfold rangeD
  rw [List.getElem?_map, List.getElem?_range hi]
  rfl
theorem ei_rng1 {ta : TA} {j : Int} (h : EvA K ta es m [.d (.int j)] m1) (h1 : -(2 ^ 62) ≤ j) (h2 : j < 2 ^ 62) : EvI K (iRng1 ta) es m (rangeD 0 j.toNat) m1 := fun σ H H0 ρ w e R q =>
  h σ H H0 ρ w e _ fun vs H1 H01 s1 w1 k1 => by
    cases k1 with
    | cons a t =>
      cases t
      cases a
      exact ⟨j, rfl, h1, h2, q _ H1 H01 s1 w1 itOk_r⟩

/-! ### for -/
inductive ForR (K : PySem.W.Frag) (n : Nat) (g : TG) (tb : TS) : List PyData → List Sl → M → Out → Prop
  | nil {es : List Sl} {m : M} : ForR K n g tb [] es m (.nx es m)
  | nx {d : PyData} {ds : List PyData} {is : List Nat} {es : List Sl} {es1 : List Sl} {es2 : List Sl} {m : M} {m2 : M} {o : Out} : Gv K g is (.d d) es es1 → Sv K n tb es1 m (.nx es2 m2) → ForR K n g tb ds es2 m2 o → ForR K n g tb (d :: ds) es m o
  | cnt {d : PyData} {ds : List PyData} {is : List Nat} {es : List Sl} {es1 : List Sl} {es2 : List Sl} {m : M} {m2 : M} {o : Out} : Gv K g is (.d d) es es1 → Sv K n tb es1 m (.cnt es2 m2) → ForR K n g tb ds es2 m2 o → ForR K n g tb (d :: ds) es m o
  | brk {d : PyData} {ds : List PyData} {is : List Nat} {es : List Sl} {es1 : List Sl} {es2 : List Sl} {m : M} {m2 : M} : Gv K g is (.d d) es es1 → Sv K n tb es1 m (.brk es2 m2) → ForR K n g tb (d :: ds) es m (.nx es2 m2)
  | ret {d : PyData} {ds : List PyData} {is : List Nat} {es : List Sl} {es1 : List Sl} {r : Sl} {m : M} {m2 : M} : Gv K g is (.d d) es es1 → Sv K n tb es1 m (.ret r m2) → ForR K n g tb (d :: ds) es m (.ret r m2)
theorem pre_len {n : Nat} {ρ ρ' : List Addr} {H0 H H0' H' : Hp} (hn : n ≤ ρ.length) (s : Stp n ρ H0 H ρ' H0' H') : n ≤ ρ'.length := by
  have := congrArg List.length s.pre
  rw [List.length_take, List.length_take] at this
  omega
theorem drop_cons {α : Type} {l : List α} {i : Nat} {d : α} (h : l[i]? = some d) : l.drop i = d :: l.drop (i + 1) := by
  obtain ⟨h1, h2⟩ := List.getElem?_eq_some_iff.mp h
  rw [← h2]
  exact List.drop_eq_getElem_cons h1
theorem sv_for {n : Nat} {wi : TI} {g : TG} {tb : TS} {ds : List PyData} {o : Out} (hi : EvI K wi es m ds m1) (h : ForR K n g tb ds es m1 o) : Sv K n (tFor wi g tb) es m o := fun σ H H0 ρ hn w e D q =>
  hi σ H H0 ρ w e _ fun J H1 H01 s1 w1 it => by
    refine ⟨fun i k σ2 H2 => k = ds.length - i ∧ i ≤ ds.length ∧ ∃ es2 m2 ρ2 H02, ForR K n g tb (ds.drop i) es2 m2 o ∧ Stp n ρ H0 H ρ2 H02 H2 ∧ Wd K H02 H2 ρ2 m2 ∧ EnvS K H02 ρ2 σ2 es2 ∧ ItOk K J H02 ds,
      ⟨ds.length, by omega, Nat.zero_le _, es, m1, ρ, H01, h, s1.low, w1, e.mono s1.ex, it⟩, fun i k σ2 H2 hW => ?_⟩
    obtain ⟨rfl, hle, es2, m2, ρ2, H02, fr, s2, w2, e2, it2⟩ := hW
    have hn2 := pre_len hn s2
    obtain ⟨g1, g2, g3⟩ := it2 i H2 w2.ex
    by_cases hlt : i < ds.length
    · refine .inr ⟨g1 hlt, ?_⟩
      have hd : ds[i]? = some ds[i] := List.getElem?_eq_getElem hlt
      rw [drop_cons hd] at fr
      have fin : ∀ {x H'}, J.yld i H2 x H' → H' = H2 ∧ Dp K H02 x ds[i] := fun {x H'} y => by
        obtain ⟨e1, d, q1, q2⟩ := g3 x H' hlt y
        rw [hd] at q1
        cases q1
        exact ⟨e1, q2⟩
      cases fr with
      | @nx _ _ is _ es3 es4 _ m4 _ hg hb hr =>
        refine ⟨fun σ' H' => ∃ ρ4 H04, Stp n ρ H0 H ρ4 H04 H' ∧ Wd K H04 H' ρ4 m4 ∧ EnvS K H04 ρ4 σ' es4 ∧ ItOk K J H04 ds, fun σ' H' ⟨ρ4, H04, s4, w4, e4, it4⟩ => ⟨ds.length - (i + 1), by omega, rfl, hlt, es4, m4, ρ4, H04, hr, s4, w4, e4, it4⟩, fun x H' y => ?_⟩
        obtain ⟨rfl, kx⟩ := fin y
        exact hg σ2 _ H02 ρ2 x w2.ex e2 kx _ fun σ3 e3 _ => hb σ3 _ H02 ρ2 hn2 w2 e3 _ fun σ4 ρ4 H4 H04 s4 w4 e4 => ⟨ρ4, H04, s2.trans w2.nd s4, w4, e4, it2.mono s4.ex⟩
      | @cnt _ _ is _ es3 es4 _ m4 _ hg hb hr =>
        refine ⟨fun σ' H' => ∃ ρ4 H04, Stp n ρ H0 H ρ4 H04 H' ∧ Wd K H04 H' ρ4 m4 ∧ EnvS K H04 ρ4 σ' es4 ∧ ItOk K J H04 ds, fun σ' H' ⟨ρ4, H04, s4, w4, e4, it4⟩ => ⟨ds.length - (i + 1), by omega, rfl, hlt, es4, m4, ρ4, H04, hr, s4, w4, e4, it4⟩, fun x H' y => ?_⟩
        obtain ⟨rfl, kx⟩ := fin y
        exact hg σ2 _ H02 ρ2 x w2.ex e2 kx _ fun σ3 e3 _ => hb σ3 _ H02 ρ2 hn2 w2 e3 _ fun σ4 ρ4 H4 H04 s4 w4 e4 => ⟨ρ4, H04, s2.trans w2.nd s4, w4, e4, it2.mono s4.ex⟩
      | @brk _ _ is _ es3 es4 _ m4 hg hb =>
        refine ⟨fun _ _ => False, fun _ _ z => z.elim, fun x H' y => ?_⟩
        obtain ⟨rfl, kx⟩ := fin y
        exact hg σ2 _ H02 ρ2 x w2.ex e2 kx _ fun σ3 e3 _ => hb σ3 _ H02 ρ2 hn2 w2 e3 _ fun σ4 ρ4 H4 H04 s4 w4 e4 => q σ4 ρ4 H4 H04 (s2.trans w2.nd s4) w4 e4
      | @ret _ _ is _ es3 r _ m4 hg hb =>
        refine ⟨fun _ _ => False, fun _ _ z => z.elim, fun x H' y => ?_⟩
        obtain ⟨rfl, kx⟩ := fin y
        exact hg σ2 _ H02 ρ2 x w2.ex e2 kx _ fun σ3 e3 _ => hb σ3 _ H02 ρ2 hn2 w2 e3 _ fun v ρ4 H4 H04 ml s4 w4 k4 => q v ρ4 H4 H04 ml (s2.trans w2.nd s4) w4 k4
    · have ei : i = ds.length := by omega
      subst ei
      rw [List.drop_length] at fr
      cases fr with
      | nil => exact .inl ⟨g2 (Nat.le_refl _), q σ2 ρ2 H2 H02 s2 w2 e2⟩

/-! ### comprehensions -/
inductive LcR (K : PySem.W.Frag) (g : TG) (tt : TT) (te : TE) (esw : List Sl) (vs : List Nat) : List PyData → M → List PyData → M → Prop
  | nil {m : M} : LcR K g tt te esw vs [] m [] m
  | yes {d : PyData} {ds : List PyData} {es2 : List Sl} {m : M} {m1 : M} {m2 : M} {m3 : M} {r : PyData} {rs : List PyData} {is : List Nat} : Gv K g is (.d d) esw es2 → (∀ i, i ∈ is → i ∈ vs) → EvB K tt es2 m true m1 → EvE K te es2 m1 (.d r) m2 → LcR K g tt te esw vs ds m2 rs m3 → LcR K g tt te esw vs (d :: ds) m (r :: rs) m3
  | not {d : PyData} {ds : List PyData} {es2 : List Sl} {m : M} {m1 : M} {m3 : M} {rs : List PyData} {is : List Nat} : Gv K g is (.d d) esw es2 → (∀ i, i ∈ is → i ∈ vs) → EvB K tt es2 m false m1 → LcR K g tt te esw vs ds m1 rs m3 → LcR K g tt te esw vs (d :: ds) m rs m3
theorem LcR.len {g : TG} {esw : List Sl} {vs : List Nat} {ds rs : List PyData} (h : LcR K g tt te esw vs ds m rs m1) : rs.length ≤ ds.length := by
  induction h with
  | nil => exact Nat.le_refl _
  | yes _ _ _ _ _ ih => rw [List.length_cons, List.length_cons]; omega
  | not _ _ _ _ ih => rw [List.length_cons]; omega
theorem eb_yes : EvB K tYes es m true m := fun σ H H0 ρ w e Q q => q H H0 .refl w
variable (K) in
/-- a new list that nobody else holds -/
def EvL (te : TE) (es : List Sl) (m : M) (ds : List PyData) (m' : M) : Prop := ∀ σ H H0 ρ, Wd K H0 H ρ m → EnvS K H0 ρ σ es → ∀ Q : VK,
  (∀ p vs H' H0', Stp ρ.length ρ H0 H ρ H0' H' → Wd K H0' H' ρ m' → H p = none → H0' p = none → p ∉ ρ → H' p = some (.lst vs) → DpAll K H0' vs ds → Q (.ref p) H') → te σ H Q
theorem dpAll_app {H0 : Hp} : ∀ {vs us : List V} {ds es : List PyData}, DpAll K H0 vs ds → DpAll K H0 us es → DpAll K H0 (vs ++ us) (ds ++ es)
  | _, _, _, _, .nil, h => h
  | _, _, _, _, .cons a t, h => .cons a (dpAll_app t h)
theorem Wd.notin {H0 H : Hp} {ρ : List Addr} (w : Wd K H0 H ρ m) {p : Addr} (h : H p = none) : p ∉ ρ := fun hp => by
  obtain ⟨j, hj, e⟩ := List.getElem_of_mem hp
  have hj' : j < m.length := by rw [← w.len]; exact hj
  obtain ⟨_, vs, q, _⟩ := w.cel j p m[j] (by rw [List.getElem?_eq_getElem hj, e]) (List.getElem?_eq_getElem hj')
  rw [h] at q
  cases q
theorem tabs_mut {T : List (Addr × Str)} {H : Hp} {p : Addr} {o : HO} (t : LamX.Tabs T H) (hp : H p = none ∨ ∃ vs, H p = some (.lst vs)) : LamX.Tabs T (upd H p o) := fun q hq => by
  obtain ⟨ps, h1, h2, h3⟩ := t q hq
  have n1 : q.1 ≠ p := by
    rintro e
    rw [e] at h1
    rcases hp with z | ⟨vs, z⟩ <;> rw [z] at h1 <;> cases h1
  refine ⟨ps, by rw [upd_ne n1]; exact h1, h2, fun pos cv hc => ?_⟩
  obtain ⟨c, e1, e2⟩ := h3 pos cv hc
  have n2 : c ≠ p := by
    rintro e
    rw [e] at e2
    rcases hp with z | ⟨vs, z⟩
    · rw [z] at e2; cases e2
    · rw [z] at e2
      unfold LamX.CodeO at e2
      cases e2
  exact ⟨c, e1, by rw [upd_ne n2]; exact e2⟩
/-- an object outside of all that is told may change -/
theorem Wd.off {H0 H : Hp} {ρ : List Addr} {p : Addr} {o : HO} (w : Wd K H0 H ρ m) (h0 : H0 p = none) (hp : p ∉ ρ) (hm : H p = none ∨ ∃ vs, H p = some (.lst vs)) : Wd K H0 (upd H p o) ρ m := by
  refine ⟨Evl.Ex.mut w.ex h0, w.len, w.nd, fun j q ds a b => ?_, tabs_mut w.tab hm, w.nT⟩
  obtain ⟨h1, vs, h2, h3⟩ := w.cel j q ds a b
  refine ⟨h1, vs, ?_, h3⟩
  rw [upd_ne]
  · exact h2
  · rintro rfl
    exact hp (List.mem_of_getElem? a)
theorem Stp.off {n : Nat} {ρ ρ' : List Addr} {H0 H H0' H' : Hp} {p : Addr} {o : HO} (s : Stp n ρ H0 H ρ' H0' H') (hp : H p = none) : Stp n ρ H0 H ρ' H0' (upd H' p o) :=
  ⟨s.ex, fun b u h hb nt => by
    rw [upd_ne (ne_of_none h hp)]
    exact s.keep b u h hb nt, fun b h => by
    by_cases e : b = p
    · rw [e]; exact hp
    · rw [upd_ne e] at h
      exact s.dom b h, s.fresh, s.pre, s.cel⟩
theorem el_lc {wi : TI} {g : TG} {vs : List Nat} {ds rs : List PyData} (hi : EvI K wi es m ds m1) (h : LcR K g tt te (wipeS es vs) vs ds m1 rs m2) (hl : ds.length ≤ 1000) : EvL K (tLc wi g tt te vs) es m rs m2 := fun σ H H0 ρ w e Q q =>
  hi σ H H0 ρ w e _ fun J H1 H01 s1 w1 it => fun D hD => by
    have hD0 : H D = none := s1.dom D hD
    have hDρ : D ∉ ρ := w1.notin hD
    refine ⟨fun i k H2 => k = ds.length - i ∧ i ≤ ds.length ∧ ∃ acc va rs1 m3 H02, rs = acc ++ rs1 ∧ acc.length ≤ i ∧ LcR K g tt te (wipeS es vs) vs (ds.drop i) m3 rs1 m2 ∧ Stp ρ.length ρ H0 H ρ H02 H2 ∧ Wd K H02 H2 ρ m3 ∧ EnvS K H02 ρ σ es ∧ ItOk K J H02 ds ∧ H02 D = none ∧ H2 D = some (.lst va) ∧ DpAll K H02 va acc,
      ⟨ds.length, by omega, Nat.zero_le _, [], [], rs, m1, H01, rfl, Nat.le_refl _, h, s1.off hD0, w1.off (Evl.fresh_back w1.ex hD) hDρ (.inl hD), e.mono s1.ex, it, Evl.fresh_back w1.ex hD, upd_same, .nil⟩, fun i k H2 hW => ?_⟩
    obtain ⟨rfl, hle, acc, va, rs1, m3, H02, er, hacc, fr, s2, w2, e2, it2, d0, d2, da⟩ := hW
    obtain ⟨g1, g2, g3⟩ := it2 i H2 w2.ex
    by_cases hlt : i < ds.length
    · refine .inr ⟨g1 hlt, ?_⟩
      have hd : ds[i]? = some ds[i] := List.getElem?_eq_getElem hlt
      rw [drop_cons hd] at fr
      have fin : ∀ {x H'}, J.yld i H2 x H' → H' = H2 ∧ Dp K H02 x ds[i] := fun {x H'} y => by
        obtain ⟨e1, d, q1, q2⟩ := g3 x H' hlt y
        rw [hd] at q1
        cases q1
        exact ⟨e1, q2⟩
      -- the new list through a step
      have keepD : ∀ {H3 H03 : Hp}, Stp ρ.length ρ H02 H2 ρ H03 H3 → H03 D = none ∧ H3 D = some (.lst va) := fun {H3 H03} s3 => by
        refine ⟨?_, s3.keep D _ d2 hDρ fun ps z => nomatch z⟩
        cases z : H03 D with
        | none => rfl
        | some u =>
          rcases s3.fresh D u z with y | y | y
          · rw [d0] at y; cases y
          · rw [d2] at y; cases y
          · rw [List.drop_length] at y
            exact absurd y (by simp)
      have hvl := dpAll_len da
      cases fr with
      | @yes _ _ es3 _ m4 m5 _ r rs2 is hg hiv hb he hr =>
        refine ⟨fun H' => ∃ va' H04, Stp ρ.length ρ H0 H ρ H04 H' ∧ Wd K H04 H' ρ m5 ∧ EnvS K H04 ρ σ es ∧ ItOk K J H04 ds ∧ H04 D = none ∧ H' D = some (.lst va') ∧ DpAll K H04 va' (acc ++ [r]),
          fun H' ⟨va', H04, s4, w4, e4, it4, z0, z1, z2⟩ => ⟨ds.length - (i + 1), by omega, rfl, hlt, acc ++ [r], va', rs2, m5, H04, by rw [er, List.append_assoc]; rfl, by rw [List.length_append, List.length_singleton]; omega, hr, s4, w4, e4, it4, z0, z1, z2⟩, fun x H' y => ?_⟩
        obtain ⟨rfl, kx⟩ := fin y
        refine hg _ _ H02 ρ x w2.ex (e2.wipe vs) kx _ fun σ3 e3 hw => ⟨by rw [hw vs hiv, wipe_wipe], ?_⟩
        refine hb σ3 _ H02 ρ w2 e3 _ fun H3 H03 s3 w3 => ?_
        refine iteT (he σ3 H3 H03 ρ w3 (e3.mono s3.ex) _ fun y H4 H04 s4 w4 ky => ?_)
        have s5 := s3.trans w3.nd s4
        obtain ⟨k1, k2⟩ := keepD s5
        refine ⟨va, k2, small1000 (by omega), va ++ [y], H04, (s2.trans w2.nd s5).off hD0, w4.off k1 hDρ (.inr ⟨_, k2⟩), e2.mono s5.ex, it2.mono s5.ex, k1, upd_same, dpAll_app (dpAll_mono s5.ex da) (.cons ky .nil)⟩
      | @not _ _ es3 _ m4 _ _ is hg hiv hb hr =>
        refine ⟨fun H' => ∃ H04, Stp ρ.length ρ H0 H ρ H04 H' ∧ Wd K H04 H' ρ m4 ∧ EnvS K H04 ρ σ es ∧ ItOk K J H04 ds ∧ H04 D = none ∧ H' D = some (.lst va) ∧ DpAll K H04 va acc,
          fun H' ⟨H04, s4, w4, e4, it4, z0, z1, z2⟩ => ⟨ds.length - (i + 1), by omega, rfl, hlt, acc, va, rs1, m4, H04, er, by omega, hr, s4, w4, e4, it4, z0, z1, z2⟩, fun x H' y => ?_⟩
        obtain ⟨rfl, kx⟩ := fin y
        refine hg _ _ H02 ρ x w2.ex (e2.wipe vs) kx _ fun σ3 e3 hw => ⟨by rw [hw vs hiv, wipe_wipe], ?_⟩
        refine hb σ3 _ H02 ρ w2 e3 _ fun H3 H03 s3 w3 => ?_
        obtain ⟨k1, k2⟩ := keepD s3
        exact iteF ⟨H03, s2.trans w2.nd s3, w3, e2.mono s3.ex, it2.mono s3.ex, k1, k2, dpAll_mono s3.ex da⟩
    · have ei : i = ds.length := by omega
      subst ei
      rw [List.drop_length] at fr
      cases fr with
      | nil =>
        refine .inl ⟨g2 (Nat.le_refl _), ?_⟩
        rw [List.append_nil] at er
        subst er
        exact q D va H2 H02 s2 w2 hD0 d0 hDρ d2 da
/-- a new list as data -/
theorem el_d {ds : List PyData} (h : EvL K te es m ds m1) : EvE K te es m (.d (.list ds)) m1 := fun σ H H0 ρ w e Q q =>
  h σ H H0 ρ w e _ fun p vs H1 H01 s1 w1 hp hp0 hpρ e1 ha => by
    have hx : Evl.Ex H01 (upd H01 p (.lst vs)) := Evl.Ex.new hp0
    refine q _ H1 (upd H01 p (.lst vs)) ⟨s1.ex.trans hx, s1.keep, s1.dom, fun b o z => ?_, rfl, fun b z => .inl z⟩ ⟨fun b o z => ?_, w1.len, w1.nd, fun j a ds' z1 z2 => ?_, w1.tab, fun q hq => by
        rw [upd_ne]
        · exact w1.nT q hq
        · obtain ⟨_, z, _⟩ := w1.tab q hq
          exact ne_of z e1 (fun z => nomatch z)⟩ (.lst (.inl (.inl upd_same)) (dpAll_mono hx ha))
    · by_cases e : b = p
      · rw [e]; exact .inr (.inl hp)
      · rw [upd_ne e] at z
        exact s1.fresh b o z
    · by_cases e : b = p
      · subst e
        rw [upd_same] at z
        rw [e1]
        exact z
      · rw [upd_ne e] at z
        exact w1.ex b o z
    · obtain ⟨y1, ws, y2, y3⟩ := w1.cel j a ds' z1 z2
      refine ⟨?_, ws, y2, dpAll_mono hx y3⟩
      rw [upd_ne]
      · exact y1
      · rintro rfl
        exact hpρ (List.mem_of_getElem? z1)
/-- a new list kept by a name: a cell -/
theorem sv_cell {n : Nat} {i : Nat} {ds : List PyData} (h : EvL K te es m ds m1) : Sv K n (tAsg te (gName i)) es m (.nx (es.set i (.c m1.length)) (m1 ++ [ds])) := fun σ H H0 ρ hn w e D q =>
  h σ H H0 ρ w e _ fun p vs H1 H01 s1 w1 hp hp0 hpρ e1 ha => by
    have nd : (ρ ++ [p]).Nodup := List.nodup_append.mpr ⟨w1.nd, by simp, fun a ha b hb => by
      rcases List.mem_singleton.mp hb with rfl
      rintro rfl
      exact hpρ ha⟩
    have w2 : Wd K H01 H1 (ρ ++ [p]) (m1 ++ [ds]) := by
      refine ⟨w1.ex, by rw [List.length_append, List.length_append, w1.len]; rfl, nd, fun j a ds' z1 z2 => ?_, w1.tab, w1.nT⟩
      by_cases hj : j < ρ.length
      · rw [List.getElem?_append_left hj] at z1
        rw [List.getElem?_append_left (by rw [← w1.len]; exact hj)] at z2
        exact w1.cel j a ds' z1 z2
      · rw [List.getElem?_append_right (by omega)] at z1
        rw [List.getElem?_append_right (by rw [← w1.len]; omega)] at z2
        rw [← w1.len] at z2
        have e0 : j - ρ.length = 0 := by
          cases hk : j - ρ.length with
          | zero => rfl
          | succ k => rw [hk] at z1; simp at z1
        rw [e0] at z1 z2
        cases z1
        cases z2
        exact ⟨hp0, vs, e1, ha⟩
    have s2 : Stp n ρ H0 H (ρ ++ [p]) H01 H1 := ⟨s1.ex, s1.keep, s1.dom, s1.low.fresh, List.take_append_of_le_length hn, fun b z => by
      rcases List.mem_append.mp z with z | z
      · exact .inl z
      · rw [List.mem_singleton.mp z]; exact .inr hp⟩
    have e2 : EnvS K H01 (ρ ++ [p]) σ es := by
      refine ⟨e.1, fun j s z => ?_⟩
      rcases (e.mono s1.ex).2 j s z with y | ⟨v, y1, y2⟩
      · exact .inl y
      · refine .inr ⟨v, y1, ?_⟩
        cases s with
        | no => trivial
        | d x => exact y2
        | v x => exact y2
        | c k =>
          obtain ⟨a, h1, h2⟩ := y2
          refine ⟨a, h1, ?_⟩
          rw [List.getElem?_append_left (List.getElem?_eq_some_iff.mp h2).1]
          exact h2
    refine q _ (ρ ++ [p]) H1 H01 s2 w2 (e2.set ⟨p, rfl, ?_⟩)
    rw [← w1.len, List.getElem?_append_right (Nat.le_refl _), Nat.sub_self]
    rfl
end
end DL

set_option Elab.async false
set_option linter.all false
set_option maxRecDepth 100000
namespace DL
variable [Tbs]
open PySem PySem.Spec PyProof.Rows L2

section
variable {K : PySem.W.Frag} {te ta tb tc : TE} {tt tu : TT} {es : List Sl} {m m1 m2 m3 : M} {r : Sl} {a b c : Bool}

/-- no new object -/
theorem here {H0 H : Hp} {u : V} {z : PyData} {Q : VK} (ex : Evl.Ex H0 H) (k : Dp K H0 u z)
    (q : ∀ u H' H0', Evl.Ex H0 H0' → Evl.Ex H0' H' → Evl.Ex H H' → (∀ b o, H0' b = some o → H0 b = some o ∨ H b = none) → Dp K H0' u z → Q u H') : Q u H :=
  q u H H0 (Evl.Ex.refl _) ex (Evl.Ex.refl _) (fun _ _ h => .inl h) k
/-- a new tuple -/
theorem newT {H0 H : Hp} {p : Addr} {xs : List V} {ds : List PyData} {Q : VK} (ex : Evl.Ex H0 H) (hp : H p = none) (k : DpAll K H0 xs ds)
    (q : ∀ u H' H0', Evl.Ex H0 H0' → Evl.Ex H0' H' → Evl.Ex H H' → (∀ b o, H0' b = some o → H0 b = some o ∨ H b = none) → Dp K H0' u (.tuple ds) → Q u H') : Q (.ref p) (upd H p (.tup xs)) := by
  have h0 : H0 p = none := Evl.fresh_back ex hp
  refine q _ _ (upd H0 p (.tup xs)) (Evl.Ex.new h0) (fun b o h => ?_) (Evl.Ex.new hp) (fun b o h => ?_) (.tup (.inl (.inl upd_same)) (dpAll_mono (Evl.Ex.new h0) k))
  · by_cases e : b = p
    · subst e
      rw [upd_same] at h ⊢
      exact h
    · rw [upd_ne e] at h ⊢
      exact ex _ _ h
  · by_cases e : b = p
    · rw [e]; exact .inr hp
    · rw [upd_ne e] at h
      exact .inl h
theorem newL {H0 H : Hp} {p : Addr} {xs : List V} {ds : List PyData} {Q : VK} (ex : Evl.Ex H0 H) (hp : H p = none) (k : DpAll K H0 xs ds)
    (q : ∀ u H' H0', Evl.Ex H0 H0' → Evl.Ex H0' H' → Evl.Ex H H' → (∀ b o, H0' b = some o → H0 b = some o ∨ H b = none) → Dp K H0' u (.list ds) → Q u H') : Q (.ref p) (upd H p (.lst xs)) := by
  have h0 : H0 p = none := Evl.fresh_back ex hp
  refine q _ _ (upd H0 p (.lst xs)) (Evl.Ex.new h0) (fun b o h => ?_) (Evl.Ex.new hp) (fun b o h => ?_) (.lst (.inl (.inl upd_same)) (dpAll_mono (Evl.Ex.new h0) k))
  · by_cases e : b = p
    · subst e
      rw [upd_same] at h ⊢
      exact h
    · rw [upd_ne e] at h ⊢
      exact ex _ _ h
  · by_cases e : b = p
    · rw [e]; exact .inr hp
    · rw [upd_ne e] at h
      exact .inl h

/-! ### operators by data -/
theorem o_eq {x y : PyData} (hx : SeqAt.shaped x = true) (hy : SeqAt.shaped y = true) : Op2 K (rEqD K) x y (.bool (PyData.eqv x y)) := fun H0 H ex v w kv kw Q q => ⟨x, y, dp_mono ex kv, dp_mono ex kw, hx, hy, here ex (.bl _) q⟩
theorem o_ne {x y : PyData} (hx : SeqAt.shaped x = true) (hy : SeqAt.shaped y = true) : Op2 K (rNeD K) x y (.bool (!PyData.eqv x y)) := fun H0 H ex v w kv kw Q q => ⟨x, y, dp_mono ex kv, dp_mono ex kw, hx, hy, here ex (.bl _) q⟩
theorem o_i0b {f : Int → Int → Bool} {i j : Int} : Op2 K (rI0 fun i j => .bl (f i j)) (.int i) (.int j) (.bool (f i j)) := fun H0 H ex v w kv kw Q q => by
  cases kv
  cases kw
  exact ⟨i, j, rfl, rfl, here ex (.bl _) q⟩
theorem o_i0 {f : Int → Int → Int} {i j : Int} : Op2 K (rI0 fun i j => .int (f i j)) (.int i) (.int j) (.int (f i j)) := fun H0 H ex v w kv kw Q q => by
  cases kv
  cases kw
  exact ⟨i, j, rfl, rfl, here ex (.int _) q⟩
theorem o_i {C : Int → Int → Prop} {f : Int → Int → Int} {i j : Int} (h : C i j) : Op2 K (rI C fun i j => .int (f i j)) (.int i) (.int j) (.int (f i j)) := fun H0 H ex v w kv kw Q q => by
  cases kv
  cases kw
  exact ⟨i, j, rfl, rfl, h, here ex (.int _) q⟩
theorem o_orL {r1 r2 : R2} {x y z : PyData} (h : Op2 K r1 x y z) : Op2 K (fun x y H Q => r1 x y H Q ∨ r2 x y H Q) x y z := fun H0 H ex v w kv kw Q q => .inl (h H0 H ex v w kv kw Q q)
theorem o_orR {r1 r2 : R2} {x y z : PyData} (h : Op2 K r2 x y z) : Op2 K (fun x y H Q => r1 x y H Q ∨ r2 x y H Q) x y z := fun H0 H ex v w kv kw Q q => .inr (h H0 H ex v w kv kw Q q)
theorem o_neg {i : Int} : Op1 K (rU fun i => .int (-i)) (.int i) (.int (-i)) := fun H0 H ex v kv Q q => by
  cases kv
  exact ⟨i, rfl, here ex (.int _) q⟩
def isNone : PyData → Bool
  | .none => true
  | _ => false
theorem isNone_v {H0 : Hp} {v : V} {x : PyData} (k : Dp K H0 v x) : decide (v = .non) = isNone x := by cases k <;> rfl
theorem o_isN {x : PyData} : Op2 K (fun x y H Q => y = .non ∧ Q (.bl (decide (x = .non))) H) x .none (.bool (isNone x)) := fun H0 H ex v w kv kw Q q => by
  cases kw
  refine ⟨rfl, ?_⟩
  rw [isNone_v kv]
  exact here ex (.bl _) q
theorem o_notN {x : PyData} : Op2 K (fun x y H Q => y = .non ∧ Q (.bl (!decide (x = .non))) H) x .none (.bool (!isNone x)) := fun H0 H ex v w kv kw Q q => by
  cases kw
  refine ⟨rfl, ?_⟩
  rw [isNone_v kv]
  exact here ex (.bl _) q
/-- flat data -/
def flatD : PyData → Bool
  | .none => true
  | .bool _ => true
  | .int _ => true
  | .str _ => true
  | _ => false
theorem flat_v {H0 : Hp} {v : V} {x : PyData} (k : Dp K H0 v x) (h : flatD x = true) : flatV v = true := by
  cases k <;> first | rfl | cases h
theorem eqV_v {H0 : Hp} {v w : V} {x y : PyData} (k : Dp K H0 v x) (l : Dp K H0 w y) (h : flatD x = true) (h' : flatD y = true) : eqV v w = PyData.eqv x y := by
  cases k <;> cases l <;> first
    | (simp only [eqV, PyData.eqv]; done)
    | rfl
    | (exact absurd h Bool.false_ne_true)
    | (exact absurd h' Bool.false_ne_true)
theorem inV_v {H0 : Hp} {v : V} {x : PyData} (k : Dp K H0 v x) (h : flatD x = true) : ∀ {ws : List V} {ds : List PyData}, DpAll K H0 ws ds → ds.all flatD = true → ws.all flatV = true ∧ inV v ws = ds.any fun z => PyData.eqv z x
  | _, _, .nil, _ => ⟨rfl, rfl⟩
  | _, _, .cons a t, ha => by
    rw [List.all_cons, Bool.and_eq_true] at ha
    obtain ⟨h1, h2⟩ := inV_v k h t ha.2
    refine ⟨by rw [List.all_cons, flat_v a ha.1, h1]; rfl, ?_⟩
    show (_ :: _).any _ = _
    rw [List.any_cons, List.any_cons, eqV_v a k ha.1 h]
    congr 1
theorem o_in {x : PyData} {ds : List PyData} (h : flatD x = true) (ha : ds.all flatD = true) : Op2 K (rIn K false) x (.tuple ds) (.bool (ds.any fun z => PyData.eqv z x)) := fun H0 H ex v w kv kw Q q => by
  cases kw with
  | tup hs hd =>
    obtain ⟨h1, h2⟩ := inV_v kv h hd ha
    refine ⟨_, _, rfl, .inr (Evl.ex_t ex hs), flat_v kv h, h1, ?_⟩
    rw [if_neg Bool.false_ne_true, h2]
    exact here ex (.bl _) q
theorem o_inL {x : PyData} {ds : List PyData} (h : SeqAt.shaped x = true) (h' : SeqAt.shaped (.list ds) = true) : Op2 K (rInD K) x (.list ds) (.bool (ds.any fun z => PyData.eqv z x)) := fun H0 H ex v w kv kw Q q =>
  ⟨x, ds, dp_mono ex kv, dp_mono ex kw, h, h', here ex (.bl _) q⟩
theorem o_ixT {ds : List PyData} {i : Int} {j : Nat} {d : PyData} (e : i = (j : Int)) (h : ds[j]? = some d) : Op2 K (rIx K) (.tuple ds) (.int i) d := fun H0 H ex v w kv kw Q q => by
  cases kw
  cases kv with
  | tup hs hd =>
    obtain ⟨v, hv, k⟩ := dpAll_get' hd h
    exact .inr (.inl ⟨_, _, _, v, rfl, rfl, Evl.ex_t ex hs, at_of e hv, here ex k q⟩)
theorem o_ixL {ds : List PyData} {i : Int} {j : Nat} {d : PyData} (e : i = (j : Int)) (h : ds[j]? = some d) : Op2 K (rIx K) (.list ds) (.int i) d := fun H0 H ex v w kv kw Q q => by
  cases kw
  cases kv with
  | lst hs hd =>
    obtain ⟨v, hv, k⟩ := dpAll_get' hd h
    exact .inl ⟨_, _, _, v, rfl, rfl, Evl.ex_l ex hs, at_of e hv, here ex k q⟩
theorem dpAll_nil {H0 : Hp} {ds : List PyData} (h : DpAll K H0 [] ds) : ds = [] := by cases h; rfl
theorem dpAll_nil' {H0 : Hp} {vs : List V} (h : DpAll K H0 vs []) : vs = [] := by cases h; rfl
theorem o_cat {xs ys : List PyData} (hl : xs.length + ys.length ≤ 1000) : Op2 K (rCatA K) (.tuple xs) (.tuple ys) (.tuple (xs ++ ys)) := fun H0 H ex v w kv kw Q q => by
  cases kv with
  | tup hs hd =>
    cases kw with
    | tup hs' hd' =>
      refine ⟨_, _, _, _, rfl, rfl, Evl.ex_t ex hs, Evl.ex_t ex hs', Nat.le_of_lt (small1000 (by rw [dpAll_len hd, dpAll_len hd']; exact hl)), fun e => ?_, fun e e' => ?_, fun e e' p hp => newT ex hp (dpAll_app hd hd') q⟩
      · subst e
        rw [dpAll_nil hd] at q
        exact here ex (.tup hs' hd') q
      · subst e'
        rw [dpAll_nil hd', List.append_nil] at q
        exact here ex (.tup hs hd) q
theorem dpAll_rep {H0 : Hp} {vs : List V} {ds : List PyData} (h : DpAll K H0 vs ds) : ∀ n : Nat, DpAll K H0 (List.replicate n vs).flatten (List.replicate n ds).flatten
  | 0 => .nil
  | n + 1 => by
    rw [List.replicate_succ, List.replicate_succ, List.flatten_cons, List.flatten_cons]
    exact dpAll_app h (dpAll_rep h n)
theorem o_rep {xs : List PyData} {k : Int} (hx : xs ≠ []) (h2 : 2 ≤ k) (h3 : k ≤ 1000) (hl : xs.length ≤ 1000) : Op2 K (rRepT K) (.tuple xs) (.int k) (.tuple (List.replicate k.toNat xs).flatten) := fun H0 H ex v w kv kw Q q => by
  cases kw
  cases kv with
  | tup hs hd =>
    refine ⟨_, k, _, rfl, rfl, Evl.ex_t ex hs, ?_, h2, h3, by rw [dpAll_len hd]; exact hl, fun p hp => newT ex hp (dpAll_rep hd _) q⟩
    rintro rfl
    exact hx (dpAll_nil hd)

/-! ### slices -/
theorem eo_none : EvO K tNoPart es m none m := fun σ H H0 ρ w e Q q => q H H0 .refl w
theorem eo_some {i : Int} (h : EvE K te es m (.d (.int i)) m1) : EvO K (tPart te) es m (some i) m1 := fun σ H H0 ρ w e Q q =>
  h σ H H0 ρ w e _ fun u H' H0' s' w' ku => by
    cases ku
    exact ⟨i, rfl, q H' H0' s' w'⟩
def cutD (xs : List PyData) (lo hi : Option Int) : List PyData := (xs.drop (HT.sIx xs.length 0 lo)).take (HT.sIx xs.length xs.length hi - HT.sIx xs.length 0 lo)
theorem dpAll_drop {H0 : Hp} : ∀ {vs : List V} {ds : List PyData} (n : Nat), DpAll K H0 vs ds → DpAll K H0 (vs.drop n) (ds.drop n)
  | _, _, 0, h => h
  | _, _, n + 1, .nil => .nil
  | _, _, n + 1, .cons _ t => dpAll_drop n t
theorem dpAll_take {H0 : Hp} : ∀ {vs : List V} {ds : List PyData} (n : Nat), DpAll K H0 vs ds → DpAll K H0 (vs.take n) (ds.take n)
  | _, _, 0, h => .nil
  | _, _, n + 1, .nil => .nil
  | _, _, n + 1, .cons a t => .cons a (dpAll_take n t)
theorem ev_sl {xs : List PyData} {lo hi : Option Int} {tl th : TO} (h : EvE K te es m (.d (.tuple xs)) m1) (hl : EvO K tl es m1 lo m2) (hh : EvO K th es m2 hi m3) : EvE K (tSl (rSlA K) te tl th) es m (.d (.tuple (cutD xs lo hi))) m3 := fun σ H H0 ρ w e Q q =>
  h σ H H0 ρ w e _ fun v H1 H01 s1 w1 k1 => hl σ H1 H01 ρ w1 (e.mono s1.ex) _ fun H2 H02 s2 w2 => hh σ H2 H02 ρ w2 (e.mono (s1.ex.trans s2.ex)) _ fun H3 H03 s3 w3 => by
    have s4 := (s1.trans w1.nd s2).trans w2.nd s3
    cases dp_mono (s2.ex.trans s3.ex) k1 with
    | @tup _ vs _ hs hd =>
      have hl := dpAll_len hd
      refine ⟨_, _, rfl, Evl.ex_t w3.ex hs, fun hw => ?_, fun hw p hp => ?_⟩
      · have e : cutD xs lo hi = xs := by
          unfold cutD
          rw [← hl, hw.1, hw.2, Nat.sub_zero, List.drop_zero, hl, List.take_length]
        rw [e] at q
        exact q _ H3 H03 s4 w3 (.tup hs hd)
      · have hc : DpAll K H03 (cutV vs lo hi) (cutD xs lo hi) := by
          unfold cutV cutD
          rw [hl]
          exact dpAll_take _ (dpAll_drop _ hd)
        obtain ⟨w5, s5⟩ := w3.new (n := ρ.length) (o := .tup (cutV vs lo hi)) hp
        exact q _ _ _ (s4.trans w3.nd s5) w5 (.tup (.inl (.inl upd_same)) (dpAll_mono s5.ex hc))

/-! ### built-in calls by data -/
def lenD : PyData → Option Nat
  | .list xs => some xs.length
  | .tuple xs => some xs.length
  | .str x => if x.length ≤ 1000000 then some x.length else none
  | _ => none
theorem c_len {x : PyData} {n : Nat} (h : lenD x = some n) : OpC K (fun xs H Q => ∃ x n, xs = [x] ∧ LenV K x H n ∧ Q (.int n) H) [.d x] (.int n) := fun H0 H ρ ex vs k Q q => by
  cases k with
  | cons a t =>
    cases t
    refine ⟨_, n, rfl, ?_, here ex (.int _) q⟩
    cases a with
    | lst hs hd =>
      cases h
      exact .inl ⟨_, Evl.ex_l ex hs, (dpAll_len hd).symm⟩
    | tup hs hd =>
      cases h
      exact .inr ⟨_, Evl.ex_t ex hs, (dpAll_len hd).symm⟩
    | str x =>
      have h' : (if x.length ≤ 1000000 then some x.length else none) = some n := h
      split at h'
      · cases h'
        exact ⟨Nat.le_trans (by assumption) (by decide), rfl⟩
      · cases h'
    | non => cases h
    | bl _ => cases h
    | int _ => cases h
/-- the type of data -/
def tyD : PyData → String
  | .none => "NoneType"
  | .bool _ => "bool"
  | .int _ => "int"
  | .str _ => "str"
  | .list _ => "list"
  | .tuple _ => "tuple"
  | .dict _ => "dict"
theorem tyX_v {H0 H : Hp} (ex : Evl.Ex H0 H) {v : V} {x : PyData} (k : Dp K H0 v x) : TyX K H v (.type (tyD x)) := by
  cases k with
  | non => exact .base .non
  | bl b => exact .base (.bl b)
  | int i => exact .base (.int i)
  | str x => exact .base (.str x)
  | lst hs _ =>
    rcases Evl.ex_l ex hs with (h | ⟨o, h⟩) | ⟨o, its, n, h, c, _⟩
    · exact .base (.lst h)
    · exact .base (.frz h)
    · exact .kList h c
  | tup hs _ =>
    rcases Evl.ex_t ex hs with (h | ⟨o, h⟩) | ⟨o, its, n, h, c, _⟩
    · exact .base (.tup h)
    · exact .fTuple h
    · exact .kTuple h c
theorem c_isi {x : PyData} {T : String} {b : Bool} (h : kitB (tyD x) T = some b) : OpC K (rIsi K) [.d x, .v (.ty T)] (.bool b) := fun H0 H ρ ex vs k Q q => by
  cases k with
  | cons a t =>
    cases t with
    | cons a2 t2 =>
      cases t2
      cases a2
      exact ⟨_, _, _, _, b, rfl, .ty T, tyX_v ex a, kit_ty h, here ex (.bl b) q⟩
def isTup : PyData → Bool
  | .tuple _ => true
  | _ => false
def isInt : PyData → Bool
  | .int _ => true
  | .bool _ => true
  | _ => false
def isBool : PyData → Bool
  | .bool _ => true
  | _ => false
def isStr : PyData → Bool
  | .str _ => true
  | _ => false
theorem kit_tup (x : PyData) (h : tyD x ≠ "dict") : kitB (tyD x) "tuple" = some (isTup x) := by
  cases x with
  | none => exact (by decide +kernel : kitB "NoneType" "tuple" = some false)
  | bool _ => exact (by decide +kernel : kitB "bool" "tuple" = some false)
  | int _ => exact (by decide +kernel : kitB "int" "tuple" = some false)
  | str _ => exact (by decide +kernel : kitB "str" "tuple" = some false)
  | list _ => exact (by decide +kernel : kitB "list" "tuple" = some false)
  | tuple _ => exact (by decide +kernel : kitB "tuple" "tuple" = some true)
  | dict _ => exact absurd rfl h
theorem kit_int (x : PyData) (h : tyD x ≠ "dict") : kitB (tyD x) "int" = some (isInt x) := by
  cases x with
  | none => exact (by decide +kernel : kitB "NoneType" "int" = some false)
  | bool _ => exact (by decide +kernel : kitB "bool" "int" = some true)
  | int _ => exact (by decide +kernel : kitB "int" "int" = some true)
  | str _ => exact (by decide +kernel : kitB "str" "int" = some false)
  | list _ => exact (by decide +kernel : kitB "list" "int" = some false)
  | tuple _ => exact (by decide +kernel : kitB "tuple" "int" = some false)
  | dict _ => exact absurd rfl h
theorem kit_bool (x : PyData) (h : tyD x ≠ "dict") : kitB (tyD x) "bool" = some (isBool x) := by
  cases x with
  | none => exact (by decide +kernel : kitB "NoneType" "bool" = some false)
  | bool _ => exact (by decide +kernel : kitB "bool" "bool" = some true)
  | int _ => exact (by decide +kernel : kitB "int" "bool" = some false)
  | str _ => exact (by decide +kernel : kitB "str" "bool" = some false)
  | list _ => exact (by decide +kernel : kitB "list" "bool" = some false)
  | tuple _ => exact (by decide +kernel : kitB "tuple" "bool" = some false)
  | dict _ => exact absurd rfl h
theorem kit_str (x : PyData) (h : tyD x ≠ "dict") : kitB (tyD x) "str" = some (isStr x) := by
  cases x with
  | none => exact (by decide +kernel : kitB "NoneType" "str" = some false)
  | bool _ => exact (by decide +kernel : kitB "bool" "str" = some false)
  | int _ => exact (by decide +kernel : kitB "int" "str" = some false)
  | str _ => exact (by decide +kernel : kitB "str" "str" = some true)
  | list _ => exact (by decide +kernel : kitB "list" "str" = some false)
  | tuple _ => exact (by decide +kernel : kitB "tuple" "str" = some false)
  | dict _ => exact absurd rfl h
theorem dp_nodict {H0 : Hp} {v : V} {x : PyData} (k : Dp K H0 v x) : tyD x ≠ "dict" := by
  cases k <;> first
    | exact (by decide : "NoneType" ≠ "dict")
    | exact (by decide : "bool" ≠ "dict")
    | exact (by decide : "int" ≠ "dict")
    | exact (by decide : "str" ≠ "dict")
    | exact (by decide : "list" ≠ "dict")
    | exact (by decide : "tuple" ≠ "dict")
theorem c_isi' {x : PyData} {T : String} {f : PyData → Bool} (h : ∀ x, tyD x ≠ "dict" → kitB (tyD x) T = some (f x)) : OpC K (rIsi K) [.d x, .v (.ty T)] (.bool (f x)) := fun H0 H ρ ex vs k Q q => by
  have hx : tyD x ≠ "dict" := by
    cases k with
    | cons a t => exact dp_nodict a
  exact c_isi (h x hx) H0 H ρ ex vs k Q q
theorem c_tup {x : PyData} : OpC K (rIsi K) [.d x, .v (.ty "tuple")] (.bool (isTup x)) := c_isi' kit_tup
theorem c_int {x : PyData} : OpC K (rIsi K) [.d x, .v (.ty "int")] (.bool (isInt x)) := c_isi' kit_int
theorem c_bool {x : PyData} : OpC K (rIsi K) [.d x, .v (.ty "bool")] (.bool (isBool x)) := c_isi' kit_bool
theorem c_str {x : PyData} : OpC K (rIsi K) [.d x, .v (.ty "str")] (.bool (isStr x)) := c_isi' kit_str
theorem dpAll_bools {H0 : Hp} : ∀ {bs : List Bool} {vs : List V}, DpAll K H0 vs (bs.map .bool) → vs = bs.map V.bl
  | [], _, h => by cases h; rfl
  | b :: bs, _, h => by
    cases h with
    | cons a t =>
      cases a
      rw [dpAll_bools t]
      rfl
theorem dpAll_ints {H0 : Hp} : ∀ {ns : List Int} {vs : List V}, DpAll K H0 vs (ns.map .int) → vs = ns.map V.int
  | [], _, h => by cases h; rfl
  | b :: bs, _, h => by
    cases h with
    | cons a t =>
      cases a
      rw [dpAll_ints t]
      rfl
theorem c_all {bs : List Bool} : OpC K (rAll K) [.d (.list (bs.map .bool))] (.bool (bs.all id)) := fun H0 H ρ ex vs k Q q => by
  cases k with
  | cons a t =>
    cases t
    cases a with
    | lst hs hd =>
      rw [dpAll_bools hd] at hs
      exact ⟨_, bs, rfl, Evl.ex_l ex hs, here ex (.bl _) q⟩
theorem c_any {bs : List Bool} : OpC K (rAny K) [.d (.list (bs.map .bool))] (.bool (bs.any id)) := fun H0 H ρ ex vs k Q q => by
  cases k with
  | cons a t =>
    cases t
    cases a with
    | lst hs hd =>
      rw [dpAll_bools hd] at hs
      exact ⟨_, bs, rfl, Evl.ex_l ex hs, here ex (.bl _) q⟩
theorem c_sum {ns : List Int} : OpC K (rSum K) [.d (.list (ns.map .int))] (.int ns.sum) := fun H0 H ρ ex vs k Q q => by
  cases k with
  | cons a t =>
    cases t
    cases a with
    | lst hs hd =>
      rw [dpAll_ints hd] at hs
      exact ⟨_, ns, rfl, Evl.ex_l ex hs, here ex (.int _) q⟩
theorem c_max2 {i j : Int} : OpC K (fun xs H Q => ∃ i j, xs = [.int i, .int j] ∧ Q (.int (if j > i then j else i)) H) [.d (.int i), .d (.int j)] (.int (if j > i then j else i)) := fun H0 H ρ ex vs k Q q => by
  cases k with
  | cons a t =>
    cases a
    cases t with
    | cons a t =>
      cases a
      cases t
      exact ⟨i, j, rfl, here ex (.int _) q⟩
theorem c_min2 {i j : Int} : OpC K (fun xs H Q => ∃ i j, xs = [.int i, .int j] ∧ Q (.int (if j < i then j else i)) H) [.d (.int i), .d (.int j)] (.int (if j < i then j else i)) := fun H0 H ρ ex vs k Q q => by
  cases k with
  | cons a t =>
    cases a
    cases t with
    | cons a t =>
      cases a
      cases t
      exact ⟨i, j, rfl, here ex (.int _) q⟩
theorem c_tupL {ds : List PyData} : OpC K (fun xs H Q => ∃ p ys, xs = [.ref p] ∧ ((SqL K H p ys ∧ ∀ l, H l = none → Q (.ref l) (upd H l (.tup ys))) ∨ (SqT K H p ys ∧ Q (.ref p) H))) [.d (.list ds)] (.tuple ds) := fun H0 H ρ ex vs k Q q => by
  cases k with
  | cons a t =>
    cases t
    cases a with
    | lst hs hd => exact ⟨_, _, rfl, .inl ⟨Evl.ex_l ex hs, fun l hl => newT ex hl hd q⟩⟩
theorem c_tupT {ds : List PyData} : OpC K (fun xs H Q => ∃ p ys, xs = [.ref p] ∧ ((SqL K H p ys ∧ ∀ l, H l = none → Q (.ref l) (upd H l (.tup ys))) ∨ (SqT K H p ys ∧ Q (.ref p) H))) [.d (.tuple ds)] (.tuple ds) := fun H0 H ρ ex vs k Q q => by
  cases k with
  | cons a t =>
    cases t
    cases a with
    | tup hs hd => exact ⟨_, _, rfl, .inr ⟨Evl.ex_t ex hs, here ex (.tup hs hd) q⟩⟩
theorem c_listT {ds : List PyData} : OpC K (fun xs H Q => ∃ p ys, xs = [.ref p] ∧ (SqL K H p ys ∨ SqT K H p ys) ∧ ∀ l, H l = none → Q (.ref l) (upd H l (.lst ys))) [.d (.tuple ds)] (.list ds) := fun H0 H ρ ex vs k Q q => by
  cases k with
  | cons a t =>
    cases t
    cases a with
    | tup hs hd => exact ⟨_, _, rfl, .inr (Evl.ex_t ex hs), fun l hl => newL ex hl hd q⟩
/-- a constant of the written part -/
theorem dp_strs {a : Addr} {o : Obj} {its : Array Value} {n : Nat} {ss : List Str} (l : K.lookup a = some o) (c : o.cls = .type "tuple") (d : o.data = .seq its n) (z : its.size ≤ sizeLine) (v : Vals (ss.map V.str) its.toList) : ∀ H, Dp K H (.ref a) (.tuple (ss.map .str)) := fun H =>
  .tup (.inr ⟨o, its, n, l, c, d, z, v⟩) (by
    clear v
    induction ss with
    | nil => exact .nil
    | cons s ss ih => exact .cons (.str s) ih)

/-! ### cells -/
theorem ea1 {i : Nat} (h : es[i]? = some r) (hn : r ≠ .no) : EvE K (tVar i) es m r m := ev_var h hn
theorem cell_get {H0 H : Hp} {ρ : List Addr} {j : Nat} {p : Addr} {ds : List PyData} (w : Wd K H0 H ρ m) (h : ρ[j]? = some p) (hm : m[j]? = some ds) : ∃ vs, H p = some (.lst vs) ∧ DpAll K H0 vs ds := (w.cel j p ds h hm).2
theorem cell_put {n : Nat} {H0 H : Hp} {ρ : List Addr} {j : Nat} {p : Addr} {ds : List PyData} {vs : List V} (w : Wd K H0 H ρ m) (h : ρ[j]? = some p) (k : DpAll K H0 vs ds) : Wd K H0 (upd H p (.lst vs)) ρ (m.set j ds) ∧ Stp n ρ H0 H ρ H0 (upd H p (.lst vs)) := by
  have hj := (List.getElem?_eq_some_iff.mp h).1
  have hj2 : j < m.length := by rw [← w.len]; exact hj
  have h0 : H0 p = none := (w.cel j p (m[j]'hj2) h (List.getElem?_eq_getElem hj2)).1
  refine ⟨⟨Evl.Ex.mut w.ex h0, by rw [List.length_set]; exact w.len, w.nd, fun i q es a b => ?_, tabs_mut w.tab (.inr (let ⟨vs, e, _⟩ := cell_get w h (List.getElem?_eq_getElem hj2); ⟨vs, e⟩)), w.nT⟩, ⟨Evl.Ex.refl _, fun b o hb hn _ => ?_, fun b hb => ?_, fun b o hb => .inl hb, rfl, fun b hb => .inl hb⟩⟩
  · by_cases hi : j = i
    · subst hi
      rw [List.getElem?_set_self (by rw [← w.len]; exact hj)] at b
      cases b
      rw [h] at a
      cases a
      exact ⟨h0, vs, upd_same, k⟩
    · rw [List.getElem?_set_ne hi] at b
      obtain ⟨y1, ws, y2, y3⟩ := w.cel i q es a b
      refine ⟨y1, ws, ?_, y3⟩
      rw [upd_ne]
      · exact y2
      · rintro rfl
        exact hi (nd_ix w.nd h a)
  · rw [upd_ne]
    · exact hb
    · rintro rfl
      exact hn (List.mem_of_getElem? h)
  · by_cases e : b = p
    · subst e
      rw [upd_same] at hb
      cases hb
    · rw [upd_ne e] at hb
      exact hb
/-- xs.append(e) -/
theorem sv_append {n i j : Nat} {x : PyData} {ds : List PyData} (hi : es[i]? = some (.c j)) (h : EvE K te es m (.d x) m1) (hm : m1[j]? = some ds) (hm0 : ∃ d0, m[j]? = some d0) (hl : ds.length < 1000) : Sv K n (tDrop (tBM K "list" rAppend (tVar i) (tCons te tNil))) es m (.nx es (m1.set j (ds ++ [x]))) := fun σ H H0 ρ hn w e D q => by
  rcases e.2 i _ hi with z | ⟨v, h1, p, rfl, h2⟩
  · cases z
  · obtain ⟨d0, hm0⟩ := hm0
    obtain ⟨vs0, g0, _⟩ := cell_get w h2 hm0
    refine ⟨_, h1, .inl ⟨rfl, vs0, .inl (.inl g0)⟩, h σ H H0 ρ w e _ fun v H1 H01 s1 w1 k1 => ?_⟩
    obtain ⟨vs, g1, g2⟩ := cell_get w1 h2 hm
    obtain ⟨w2, s2⟩ := cell_put (n := n) w1 h2 (dpAll_app g2 (.cons k1 .nil))
    exact ⟨p, vs, v, rfl, rfl, g1, small1000 (by rw [dpAll_len g2]; omega), q σ ρ _ _ (s1.low.trans w1.nd s2) w2 (e.mono s1.ex)⟩
/-- xs.extend(e), e a list that was just made -/
theorem sv_extend {n i j : Nat} {ys ds : List PyData} (hi : es[i]? = some (.c j)) (h : EvL K te es m ys m1) (hm : m1[j]? = some ds) (hm0 : ∃ d0, m[j]? = some d0) (hl : ds.length + ys.length < 1000) : Sv K n (tDrop (tBM K "list" rExtend (tVar i) (tCons te tNil))) es m (.nx es (m1.set j (ds ++ ys))) := fun σ H H0 ρ hn w e D q => by
  rcases e.2 i _ hi with z | ⟨v, h1, p, rfl, h2⟩
  · cases z
  · obtain ⟨d0, hm0⟩ := hm0
    obtain ⟨vs0, g0, _⟩ := cell_get w h2 hm0
    refine ⟨_, h1, .inl ⟨rfl, vs0, .inl (.inl g0)⟩, h σ H H0 ρ w e _ fun b us H1 H01 s1 w1 hb hb0 hbρ e1 k1 => ?_⟩
    obtain ⟨vs, g1, g2⟩ := cell_get w1 h2 hm
    obtain ⟨w2, s2⟩ := cell_put (n := n) w1 h2 (dpAll_app g2 k1)
    exact ⟨p, b, vs, us, rfl, rfl, g1, e1, Nat.le_of_lt (small1000 (by rw [dpAll_len g2, dpAll_len k1]; omega)), q σ ρ _ _ (s1.low.trans w1.nd s2) w2 (e.mono s1.ex)⟩
/-- the item of a cell -/
theorem ev_cix {i j l : Nat} {k : Int} {ds : List PyData} {d : PyData} (hi : es[i]? = some (.c j)) (hm : m[j]? = some ds) (hk : k = (l : Int)) (h : ds[l]? = some d) : EvE K (tOp (rIx K) (tVar i) (tC (.int k))) es m (.d d) m := fun σ H H0 ρ w e Q q => by
  rcases e.2 i _ hi with z | ⟨v, h1, p, rfl, h2⟩
  · cases z
  · obtain ⟨vs, g1, g2⟩ := cell_get w h2 hm
    obtain ⟨v, hv, kv⟩ := dpAll_get' g2 h
    exact ⟨_, h1, .inl ⟨_, _, _, v, rfl, rfl, .inl (.inl g1), at_of hk hv, q v H H0 .refl w kv⟩⟩
theorem dpAll_set {H0 : Hp} {v : V} {x : PyData} : ∀ {vs : List V} {ds : List PyData} {l : Nat}, DpAll K H0 vs ds → Dp K H0 v x → DpAll K H0 (vs.set l v) (ds.set l x)
  | _, _, _, .nil, _ => .nil
  | _, _, 0, .cons _ t, k => .cons k t
  | _, _, l + 1, .cons a t, k => .cons a (dpAll_set (l := l) t k)
/-- xs[k] = e -/
theorem sv_store {n i j l : Nat} {k : Int} {x : PyData} {ds : List PyData} (hi : es[i]? = some (.c j)) (h : EvE K te es m (.d x) m1) (hm : m1[j]? = some ds) (hk : k = (l : Int)) (hl : l < ds.length) : Sv K n (tAsg te (gSub (tVar i) (tC (.int k)) rSetL)) es m (.nx es (m1.set j (ds.set l x))) := fun σ H H0 ρ hn w e D q => by
  rcases e.2 i _ hi with z | ⟨v, h1, p, rfl, h2⟩
  · cases z
  · refine h σ H H0 ρ w e _ fun v H1 H01 s1 w1 k1 => ?_
    obtain ⟨vs, g1, g2⟩ := cell_get w1 h2 hm
    have hx : DpAll K H01 (vs.set l v) (ds.set l x) := dpAll_set g2 k1
    obtain ⟨w2, s2⟩ := cell_put (n := n) w1 h2 hx
    refine ⟨_, h1, p, vs, k, l, rfl, rfl, g1, ?_, q σ ρ _ _ (s1.low.trans w1.nd s2) w2 (e.mono s1.ex)⟩
    have hlen := dpAll_len g2
    unfold ixN
    rw [if_pos (by omega), if_pos (by omega), hk]
    rfl
/-- the last cell as data -/
def fzS (j : Nat) (ds : List PyData) : Sl → Sl
  | .c k => if k = j then .d (.list ds) else .c k
  | s => s
theorem sv_freeze {n : Nat} {t : TS} {ds : List PyData} {o : Out} (hn : n ≤ m.length) (h : Sv K n t (es.map (fzS m.length ds)) m o) : Sv K n t es (m ++ [ds]) o := fun σ H H0 ρ hnρ w e D q => by
  have hl : ρ.length = m.length + 1 := by rw [w.len, List.length_append]; rfl
  have hp : ρ[m.length]? = some ρ[m.length] := List.getElem?_eq_getElem (by omega)
  have hm : (m ++ [ds])[m.length]? = some ds := by rw [List.getElem?_append_right (Nat.le_refl _), Nat.sub_self]; rfl
  obtain ⟨h0, vs, g1, g2⟩ := w.cel _ _ _ hp hm
  have hx : Evl.Ex H0 (upd H0 ρ[m.length] (.lst vs)) := Evl.Ex.new h0
  have sub : ∀ (j : Nat) (a : Addr), (ρ.take m.length)[j]? = some a → j < m.length ∧ ρ[j]? = some a := fun j a h => by
    have hj : j < m.length := by
      have := (List.getElem?_eq_some_iff.mp h).1
      rw [List.length_take] at this
      omega
    rw [List.getElem?_take_of_lt hj] at h
    exact ⟨hj, h⟩
  have w2 : Wd K (upd H0 ρ[m.length] (.lst vs)) H (ρ.take m.length) m := by
    refine ⟨fun b o z => ?_, by rw [List.length_take]; omega, w.nd.sublist (List.take_sublist _ _), fun j a es' z1 z2 => ?_, w.tab, fun q hq => by
      rw [upd_ne]
      · exact w.nT q hq
      · obtain ⟨_, z, _⟩ := w.tab q hq
        exact ne_of z g1 (fun z => nomatch z)⟩
    · by_cases eb : b = ρ[m.length]
      · subst eb
        rw [upd_same] at z
        rw [g1]
        exact z
      · rw [upd_ne eb] at z
        exact w.ex b o z
    · obtain ⟨hj, z3⟩ := sub j a z1
      obtain ⟨y1, ws, y2, y3⟩ := w.cel j a es' z3 (by rw [List.getElem?_append_left hj]; exact z2)
      refine ⟨?_, ws, y2, dpAll_mono hx y3⟩
      rw [upd_ne]
      · exact y1
      · rintro rfl
        have := nd_ix w.nd z3 hp
        omega
  have e2 : EnvS K (upd H0 ρ[m.length] (.lst vs)) (ρ.take m.length) σ (es.map (fzS m.length ds)) := by
    refine ⟨by rw [List.length_map]; exact e.1, fun i s z => ?_⟩
    rw [List.getElem?_map] at z
    cases ei : es[i]? with
    | none => rw [ei] at z; cases z
    | some s0 =>
      rw [ei] at z
      have z : s = fzS m.length ds s0 := (Option.some.inj z).symm
      rcases e.2 i s0 ei with y | ⟨v, y1, y2⟩
      · subst y
        exact .inl z
      · refine .inr ⟨v, y1, ?_⟩
        cases s0 with
        | no => rw [z]; trivial
        | d x => rw [z]; exact dp_mono hx y2
        | v x => rw [z]; exact y2
        | c k =>
          obtain ⟨a, a1, a2⟩ := y2
          by_cases hk : k = m.length
          · have e3 : fzS m.length ds (.c k) = .d (.list ds) := if_pos hk
            rw [z, e3, a1]
            subst hk
            rw [hp] at a2
            cases a2
            exact .lst (.inl (.inl upd_same)) (dpAll_mono hx g2)
          · have e3 : fzS m.length ds (.c k) = .c k := if_neg hk
            rw [z, e3]
            refine ⟨a, a1, ?_⟩
            have hk2 := (List.getElem?_eq_some_iff.mp a2).1
            rw [List.getElem?_take_of_lt (by omega)]
            exact a2
  have st : Stp n ρ H0 H (ρ.take m.length) (upd H0 ρ[m.length] (.lst vs)) H := by
    refine ⟨hx, fun b o h _ _ => h, fun b h => h, fun b o z => ?_, ?_, fun b z => .inl (List.mem_of_mem_take z)⟩
    · by_cases eb : b = ρ[m.length]
      · refine .inr (.inr ?_)
        rw [eb]
        refine List.mem_of_getElem? (i := m.length - n) ?_
        rw [List.getElem?_drop, show n + (m.length - n) = m.length by omega]
        exact hp
      · rw [upd_ne eb] at z
        exact .inl z
    · rw [List.take_take, Nat.min_eq_left hn]
  exact h σ H _ _ (by rw [List.length_take]; omega) w2 e2 D (q.step w2.nd st)
end

/-! ### a def by its body -/
theorem start_env {K : PySem.W.Frag} {H0 : Hp} {ρ : List Addr} {N : List Str} {vs : List V} {rs : List Sl} (h : SlAll K H0 ρ vs rs) : EnvS K H0 ρ (L2.start N vs) (rs ++ List.replicate (N.length - rs.length) .no) := by
  have hl := h.length
  refine ⟨by unfold L2.start; simp [hl], fun i s z => ?_⟩
  by_cases hi : i < rs.length
  · rw [List.getElem?_append_left hi] at z
    have key : ∀ {vs : List V} {rs : List Sl} {i : Nat} {s : Sl}, SlAll K H0 ρ vs rs → rs[i]? = some s → ∃ v, vs[i]? = some v ∧ SlOk K H0 ρ v s := by
      intro vs rs i s h
      induction h generalizing i with
      | nil => intro z; simp at z
      | cons a t ih =>
        intro z
        cases i with
        | zero => cases z; exact ⟨_, rfl, a⟩
        | succ i => exact ih z
    obtain ⟨v, h1, h2⟩ := key h z
    refine .inr ⟨v, ?_, h2⟩
    unfold L2.start
    rw [List.getElem?_append_left (by rw [List.length_map, hl]; exact hi), List.getElem?_map, h1]
    rfl
  · rw [List.getElem?_append_right (by omega)] at z
    rw [List.getElem?_replicate] at z
    split at z
    · cases z; exact .inl rfl
    · cases z
def Sl.plain : Sl → Bool
  | .c _ => false
  | _ => true
theorem slOk_plain {K : PySem.W.Frag} {H0 : Hp} {ρ ρ' : List Addr} {v : V} : ∀ {r : Sl}, r.plain = true → SlOk K H0 ρ v r → SlOk K H0 ρ' v r
  | .no, _, _ => trivial
  | .d _, _, h => h
  | .v _, _, h => h
  | .c _, h, _ => by cases h
/-- THE RULE for a def -/
theorem mkDef {P : Program} {w : World} {K : PySem.W.Frag} {mg : Str → Option Value} {base : Heap} {x : Str} {st : Stmt} {N ps : List Str} {n k : Nat} {g : List Sl → M → Sl → M → Prop} (T : DefT K mg x st ps) (S : FnScope N ps (defScope st)) (hn : ps.length = n)
    (hg : ∀ rs m r m', g rs m r m' → m'.length = m.length ∧ r.plain = true)
    (hb : ∀ (f : Addr) (cdv : Value) (A : Around) (outer : List Env) (s : Shared) (H : Hp) (E : XK), Room k (A.deeper (envOfC x (defScope st) s.heap.objs.size f cdv)) →
      ∃ t, PSs (cxOf CX0 P w K mg base N x (defScope st) f cdv A outer s H E).nox (defBody st) t ∧ ∀ rs m r m', rs.length = n → g rs m r m' → Sv K m.length t (rs ++ List.replicate (N.length - rs.length) .no) m (.ret r m')) :
    DefC P w K mg base CX0 (k + 1) x ps (spD K n g) := by
  obtain ⟨f, fd, F, hm, hB⟩ := T.ex
  refine ⟨f, fd, F.ok S (fun vs H Q E h => by rw [hn]; exact h.1) (fun cdv A outer s H vs Q E hr h => ?_), hm, F.kp, hB⟩
  obtain ⟨t, ht, q⟩ := hb f cdv A outer s H E hr
  refine ⟨t, ht, ?_⟩
  obtain ⟨hl, H0, ρ, m, rs, r, m', w', kv, hgr, hq⟩ := h
  obtain ⟨hgl, hgp⟩ := hg rs m r m' hgr
  refine q rs m r m' (by rw [← kv.length]; exact hl) hgr (L2.start N vs) H H0 ρ (by rw [w'.len]; exact Nat.le_refl _) w' (start_env kv) _ fun v ρ' H' H0' ml s' w2 k2 => ?_
  have e : ρ'.take m.length = ρ := by
    rw [s'.pre, ← w'.len, List.take_length]
  refine hq v H' H0' ⟨s'.ex, s'.keep, s'.dom, fun b o z => ?_, rfl, fun b z => .inl z⟩ ?_ (slOk_plain hgp k2)
  · rcases s'.fresh b o z with y | y | y
    · exact .inl y
    · exact .inr (.inl y)
    · rw [← w'.len] at y
      exact .inr (.inr y)
  · have hlen : ρ.length = m'.length := by rw [w'.len, hgl]
    refine ⟨w2.ex, hlen, w'.nd, fun j p ds a b => ?_, w2.tab, w2.nT⟩
    have hj := (List.getElem?_eq_some_iff.mp b).1
    refine w2.cel j p ds ?_ (by rw [List.getElem?_append_left hj]; exact b)
    rw [← e, List.getElem?_take_of_lt (by omega)] at a
    exact a
end DL

set_option Elab.async false
set_option linter.all false
set_option maxRecDepth 100000
namespace DL
variable [Tbs]
open PySem PySem.Spec PyProof.Rows L2

/-! ### operators of any kind -/
section
variable {X : Cx}
theorem op_mulI : OpR X (binaryOp .Mult) (rI IntMulOk fun i j => .int (i * j)) := opI fun _ _ _ _ _ _ _ hc q => mul_int q hc
def rAddU (K : PySem.W.Frag) : R2 := fun x y H Q => rI0 (fun i j => .int (i + j)) x y H Q ∨ rCatA K x y H Q ∨ rCat x y H Q
theorem op_addU : OpR X (binaryOp .Add) (rAddU X.K) := opOr op_add (opOr op_catA op_cat)
def rMulU (K : PySem.W.Frag) : R2 := fun x y H Q => rI IntMulOk (fun i j => .int (i * j)) x y H Q ∨ rRepT K x y H Q
theorem op_mulU : OpR X (binaryOp .Mult) (rMulU X.K) := opOr op_mulI op_repT
def rInU (K : PySem.W.Frag) : R2 := fun x y H Q => rIn K false x y H Q ∨ rInD K x y H Q
theorem op_inU (hu : X.A.units + 65 < cLine) : OpR X (compareOp .In) (rInU X.K) := opOr op_in_seq (op_inD hu)
theorem hu5_of {k : Nat} {A : Around} (r : Room k A) : A.units + 65 < cLine := by have := r.un; omega
def iSeq (K : PySem.W.Frag) (te : TE) : TI := fun σ H R => iTup K te σ H R ∨ iList K te σ H R
theorem pi_seq {tg l : Expr} {tl : TE} (h : PE X l tl) : PI X tg l (iSeq X.K tl) := piOr (pi_tup h) (pi_list h)
end
section
variable {K : PySem.W.Frag}
theorem o_addI {i j : Int} : Op2 K (rAddU K) (.int i) (.int j) (.int (i + j)) := o_orL o_i0
theorem o_addT {xs ys : List PyData} (hl : xs.length + ys.length ≤ 1000) : Op2 K (rAddU K) (.tuple xs) (.tuple ys) (.tuple (xs ++ ys)) := o_orR (o_orL (o_cat hl))
theorem o_mulII {i j : Int} (h : IntMulOk i j) : Op2 K (rMulU K) (.int i) (.int j) (.int (i * j)) := o_orL (o_i h)
theorem o_mulT {xs : List PyData} {k : Int} (hx : xs ≠ []) (h2 : 2 ≤ k) (h3 : k ≤ 1000) (hl : xs.length ≤ 1000) : Op2 K (rMulU K) (.tuple xs) (.int k) (.tuple (List.replicate k.toNat xs).flatten) := o_orR (o_rep hx h2 h3 hl)
theorem o_inT {x : PyData} {ds : List PyData} (h : flatD x = true) (ha : ds.all flatD = true) : Op2 K (rInU K) x (.tuple ds) (.bool (ds.any fun z => PyData.eqv z x)) := o_orL (o_in h ha)
theorem o_inLL {x : PyData} {ds : List PyData} (h : SeqAt.shaped x = true) (h' : SeqAt.shaped (.list ds) = true) : Op2 K (rInU K) x (.list ds) (.bool (ds.any fun z => PyData.eqv z x)) := o_orR (o_inL h h')
variable {te ta tb tc : TE} {tt tu : TT} {es : List Sl} {m m1 m2 m3 : M}
theorem ei_seqT {ds : List PyData} (h : EvE K te es m (.d (.tuple ds)) m1) : EvI K (iSeq K te) es m ds m1 := ei_orL (ei_tup h)
theorem ei_seqL {ds : List PyData} (h : EvE K te es m (.d (.list ds)) m1) : EvI K (iSeq K te) es m ds m1 := ei_orR (ei_list h)

/-! ### lists made item by item -/
theorem lcMap {i : Nat} {vs : List Nat} {esw : List Sl} {f : PyData → PyData} (hi : i ∈ vs) : ∀ {ds : List PyData}, (∀ d, d ∈ ds → EvE K te (esw.set i (.d d)) m (.d (f d)) m) → LcR K (gName i) tYes te esw vs ds m (ds.map f) m
  | [], _ => .nil
  | d :: ds, h => .yes gv_name (fun j hj => by rw [List.mem_singleton.mp hj]; exact hi) eb_yes (h d List.mem_cons_self) (lcMap hi fun d hd => h d (List.mem_cons_of_mem _ hd))
/-- all([p(x) for x in xs]) -/
theorem ev_all {wi : TI} {i : Nat} {ds : List PyData} {p : PyData → Bool} (hi : EvI K wi es m ds m) (hl : ds.length ≤ 1000) (h : ∀ d, d ∈ ds → EvE K te ((wipeS es [i]).set i (.d d)) m (.d (.bool (p d))) m) :
    EvE K (tCB (rAll K) (tCons (tLc wi (gName i) tYes te [i]) tNil)) es m (.d (.bool (ds.all p))) m := by
  have h1 : LcR K (gName i) tYes te (wipeS es [i]) [i] ds m (ds.map fun d => .bool (p d)) m := lcMap (by simp) h
  have h2 := el_d (el_lc hi h1 hl)
  have e : (ds.map fun d => PyData.bool (p d)) = (ds.map p).map .bool := by rw [List.map_map]; rfl
  rw [e] at h2
  have h3 := ev_cb (ea_cons h2 ea_nil) (c_all (K := K))
  have e2 : (ds.map p).all id = ds.all p := by rw [List.all_map]; rfl
  rw [e2] at h3
  exact h3

/-! ### pure defs -/
def pureG (P : List PyData → PyData → Prop) : List Sl → M → Sl → M → Prop := fun rs m r m' => ∃ ds y, rs = ds.map .d ∧ P ds y ∧ r = .d y ∧ m' = m
theorem pureG_ok {P : List PyData → PyData → Prop} : ∀ rs m r m', pureG P rs m r m' → m'.length = m.length ∧ r.plain = true := by
  rintro rs m r m' ⟨ds, y, _, _, rfl, rfl⟩
  exact ⟨rfl, rfl⟩
theorem ev_pure {n : Nat} {P : List PyData → PyData → Prop} {E : XK} {t : TA} {rs : List Sl} {ds : List PyData} {y : PyData} (h : EvA K t es m rs m1) (e : rs = ds.map .d) (hp : P ds y) (hn : ds.length = n) : EvE K (tCall (spD K n (pureG P)) [] E t) es m (.d y) m1 :=
  ev_call h ⟨ds, y, e, hp, rfl, rfl⟩ (by rw [e, List.length_map]; exact hn)
end
abbrev PureC (P : Program) (w : World) (K : PySem.W.Frag) (mg : Str → Option Value) (base : Heap) (k : Nat) (x : Str) (ps : List Str) (R : List PyData → PyData → Prop) : Prop := DefC P w K mg base CX0 k x ps (spD K ps.length (pureG R))
theorem mkPure {P : Program} {w : World} {K : PySem.W.Frag} {mg : Str → Option Value} {base : Heap} {x : Str} {st : Stmt} {N ps : List Str} {k : Nat} {R : List PyData → PyData → Prop} (T : DefT K mg x st ps) (S : FnScope N ps (defScope st))
    (hb : ∀ (f : Addr) (cdv : Value) (A : Around) (outer : List Env) (s : Shared) (H : Hp) (E : XK), Room k (A.deeper (envOfC x (defScope st) s.heap.objs.size f cdv)) →
      ∃ t, PSs (cxOf CX0 P w K mg base N x (defScope st) f cdv A outer s H E).nox (defBody st) t ∧ ∀ ds m y, ds.length = ps.length → R ds y → Sv K m.length t (ds.map .d ++ List.replicate (N.length - ds.length) .no) m (.ret (.d y) m)) :
    PureC P w K mg base (k + 1) x ps R := by
  refine mkDef T S rfl pureG_ok fun f cdv A outer s H E hr => ?_
  obtain ⟨t, h1, h2⟩ := hb f cdv A outer s H E hr
  refine ⟨t, h1, ?_⟩
  rintro rs m r m' hl ⟨ds, y, rfl, hp, rfl, rfl⟩
  rw [List.length_map] at hl ⊢
  exact h2 ds m' y hl hp
/-- a def that is not called -/
theorem never {P : Program} {w : World} {K : PySem.W.Frag} {mg : Str → Option Value} {base : Heap} {x : Str} {st : Stmt} {N ps : List Str} {n : Nat} (T : DefT K mg x st ps) : DefC P w K mg base CX0 0 x ps (spD K n fun _ _ _ _ => False) := by
  obtain ⟨f, fd, F, hm, hB⟩ := T.ex
  refine ⟨f, fd, ⟨fun vs H Q E h => ?_, fun A outer s H args us vs Q E hr he hb hv h => ?_⟩, hm, F.kp, hB⟩
  · obtain ⟨_, _, _, _, _, _, _, _, _, h, _⟩ := h
    exact h.elim
  · obtain ⟨_, _, _, _, _, _, _, _, _, h, _⟩ := h
    exact h.elim

/-! ### defs that hand back a new list -/
section
variable (K : PySem.W.Frag)
def spL (n : Nat) (g : List Sl → M → List PyData → M → Prop) : Sp := fun vs H Q E => vs.length = n ∧ ∃ H0 ρ m rs ds m', Wd K H0 H ρ m ∧ SlAll K H0 ρ vs rs ∧ g rs m ds m' ∧
  ∀ p xs H' H0', Stp ρ.length ρ H0 H ρ H0' H' → Wd K H0' H' ρ m' → H p = none → H0' p = none → p ∉ ρ → H' p = some (.lst xs) → DpAll K H0' xs ds → Q (.ref p) H'
end
theorem el_call {K : PySem.W.Frag} {es : List Sl} {m m1 m2 : M} {n : Nat} {g : List Sl → M → List PyData → M → Prop} {E : XK} {t : TA} {rs : List Sl} {ds : List PyData} (h : EvA K t es m rs m1) (hg : g rs m1 ds m2) (hn : rs.length = n) : EvL K (tCall (spL K n g) [] E t) es m ds m2 := fun σ H H0 ρ w e Q q =>
  h σ H H0 ρ w e _ fun vs H' H0' s' w' kv => by
    rw [List.append_nil]
    exact ⟨by rw [kv.length]; exact hn, H0', ρ, m1, rs, ds, m2, w', kv, hg, fun p xs H2 H02 s2 w2 h1 h2 h3 h4 h5 => q p xs H2 H02 (s'.trans w'.nd s2) w2 (s'.dom p h1) h2 h3 h4 h5⟩
theorem mkDefL {P : Program} {w : World} {K : PySem.W.Frag} {mg : Str → Option Value} {base : Heap} {x : Str} {st : Stmt} {N ps : List Str} {n k : Nat} {g : List Sl → M → List PyData → M → Prop} (T : DefT K mg x st ps) (S : FnScope N ps (defScope st)) (hn : ps.length = n)
    (hg : ∀ rs m ds m', g rs m ds m' → m'.length = m.length)
    (hb : ∀ (f : Addr) (cdv : Value) (A : Around) (outer : List Env) (s : Shared) (H : Hp) (E : XK), Room k (A.deeper (envOfC x (defScope st) s.heap.objs.size f cdv)) →
      ∃ t, PSs (cxOf CX0 P w K mg base N x (defScope st) f cdv A outer s H E).nox (defBody st) t ∧ ∀ rs m ds m', rs.length = n → g rs m ds m' → Sv K m.length t (rs ++ List.replicate (N.length - rs.length) .no) m (.rtc ds m')) :
    DefC P w K mg base CX0 (k + 1) x ps (spL K n g) := by
  obtain ⟨f, fd, F, hm, hB⟩ := T.ex
  refine ⟨f, fd, F.ok S (fun vs H Q E h => by rw [hn]; exact h.1) (fun cdv A outer s H vs Q E hr h => ?_), hm, F.kp, hB⟩
  obtain ⟨t, ht, q⟩ := hb f cdv A outer s H E hr
  refine ⟨t, ht, ?_⟩
  obtain ⟨hl, H0, ρ, m, rs, ds, m', w', kv, hgr, hq⟩ := h
  have hgl := hg rs m ds m' hgr
  refine q rs m ds m' (by rw [← kv.length]; exact hl) hgr (L2.start N vs) H H0 ρ (by rw [w'.len]; exact Nat.le_refl _) w' (start_env kv) _ fun p ρ' H' H0' s' w2 hp => ?_
  have e : ρ'.take m.length = ρ := by
    rw [s'.pre, ← w'.len, List.take_length]
  have hlen : ρ.length = m'.length := by rw [w'.len, hgl]
  obtain ⟨c1, xs, c2, c3⟩ := w2.cel _ p ds hp (by rw [List.getElem?_append_right (Nat.le_refl _), Nat.sub_self]; rfl)
  have hpρ : p ∉ ρ := fun z => by
    rw [← e] at z
    obtain ⟨j, hj, ej⟩ := List.getElem_of_mem z
    have hj' : (ρ'.take m.length)[j]? = some p := by rw [List.getElem?_eq_getElem hj, ej]
    rw [List.length_take] at hj
    rw [List.getElem?_take_of_lt (by omega)] at hj'
    have := nd_ix w2.nd hj' hp
    omega
  have hpH : H p = none := by
    rcases s'.cel p (List.mem_of_getElem? hp) with z | z
    · exact (hpρ z).elim
    · exact z
  refine hq p xs H' H0' ⟨s'.ex, s'.keep, s'.dom, fun b o z => ?_, rfl, fun b z => .inl z⟩ ⟨w2.ex, hlen, w'.nd, fun j p ds a b => ?_, w2.tab, w2.nT⟩ hpH c1 hpρ c2 c3
  · rcases s'.fresh b o z with y | y | y
    · exact .inl y
    · exact .inr (.inl y)
    · rw [← w'.len] at y
      exact .inr (.inr y)
  · have hj := (List.getElem?_eq_some_iff.mp b).1
    refine w2.cel j p ds ?_ (by rw [List.getElem?_append_left hj]; exact b)
    rw [← e, List.getElem?_take_of_lt (by omega)] at a
    exact a
/-- where a def stands behind the top -/
theorem defT_mk {K : PySem.W.Frag} {h : Heap} {mg : Str → Option Value} {f : Addr} {x : Str} {st : Stmt} {ps : List Str} {oc kV doc pm cdv ct : Value} {od an : Option Addr} {osl : Array (Option Value)} (X : K.In h) (G : h.Ns mainGlobals mg)
    (a : PySem.W.nsIn K mainGlobals x = some (some (.ref f))) (l : K.lookup f = some ⟨oc, od, .func (PySem.W.fnOf x x (defArgs st) (defBody st) (defScope st) .none kV doc pm an cdv ct), osl⟩) (c : PySem.W.codeIn K cdv x = true) (k : PySem.W.keepIn K (.ref f) = true)
    (b : ∀ (kV doc pm : Value) (an : Option Addr) (cdv ct : Value) (us : List Value), us.length = ps.length → bindArgs (PySem.W.fnOf x x (defArgs st) (defBody st) (defScope st) .none kV doc pm an cdv ct) ⟨us, []⟩ = pure (ps.zip us)) : DefT K mg x st ps := by
  have F := fun_mk (st := st) l c k
  exact ⟨f, _, F, PySem.W.mg_of X G a, F.binds b⟩
end DL

set_option Elab.async false
set_option linter.all false
set_option maxRecDepth 100000
namespace DL
variable [Tbs]
open PySem PySem.Spec PyProof.Rows L2
section
variable {K : PySem.W.Frag} {te ta tb tc : TE} {tt tu : TT} {es : List Sl} {m m1 m2 m3 : M}
inductive Lc2R (K : PySem.W.Frag) (g : TG) (tt : TT) (wi1 : TI) (g1 : TG) (tt1 : TT) (te : TE) (esw : List Sl) (vs vs1 : List Nat) : List PyData → M → List PyData → M → Prop
  | nil {m : M} : Lc2R K g tt wi1 g1 tt1 te esw vs vs1 [] m [] m
  | yes {d : PyData} {ds : List PyData} {es2 : List Sl} {m m1 m2 m3 m4 : M} {ds1 rs1 rs : List PyData} {is : List Nat} : Gv K g is (.d d) esw es2 → (∀ i, i ∈ is → i ∈ vs) → EvB K tt es2 m true m1 → EvI K wi1 es2 m1 ds1 m2 →
      LcR K g1 tt1 te (wipeS es2 vs1) vs1 ds1 m2 rs1 m3 → Lc2R K g tt wi1 g1 tt1 te esw vs vs1 ds m3 rs m4 → Lc2R K g tt wi1 g1 tt1 te esw vs vs1 (d :: ds) m (rs1 ++ rs) m4
theorem keepD {ρ : List Addr} {H02 H2 H03 H3 : Hp} {D : Addr} {va : List V} (hDρ : D ∉ ρ) (d0 : H02 D = none) (d2 : H2 D = some (.lst va)) (s3 : Stp ρ.length ρ H02 H2 ρ H03 H3) : H03 D = none ∧ H3 D = some (.lst va) := by
  refine ⟨?_, s3.keep D _ d2 hDρ fun ps z => nomatch z⟩
  cases z : H03 D with
  | none => rfl
  | some u =>
    rcases s3.fresh D u z with y | y | y
    · rw [d0] at y; cases y
    · rw [d2] at y; cases y
    · rw [List.drop_length] at y
      exact absurd y (by simp)
theorem el_lc2 {wi wi1 : TI} {g g1 : TG} {tt1 : TT} {vs vs1 : List Nat} {ds rs : List PyData} (hi : EvI K wi es m ds m1) (h : Lc2R K g tt wi1 g1 tt1 te (wipeS es vs) vs vs1 ds m1 rs m2) (hl : rs.length ≤ 1000) : EvL K (tLc2 wi g tt wi1 g1 tt1 te vs vs1) es m rs m2 := fun σ H H0 ρ w e Q q =>
  hi σ H H0 ρ w e _ fun J H1 H01 s1 w1 it => fun D hD => by
    have hD0 : H D = none := s1.dom D hD
    have hDρ : D ∉ ρ := w1.notin hD
    refine ⟨fun i k H2 => k = ds.length - i ∧ i ≤ ds.length ∧ ∃ acc va rs1 m3 H02, rs = acc ++ rs1 ∧ Lc2R K g tt wi1 g1 tt1 te (wipeS es vs) vs vs1 (ds.drop i) m3 rs1 m2 ∧ Stp ρ.length ρ H0 H ρ H02 H2 ∧ Wd K H02 H2 ρ m3 ∧ EnvS K H02 ρ σ es ∧ ItOk K J H02 ds ∧ H02 D = none ∧ H2 D = some (.lst va) ∧ DpAll K H02 va acc,
      ⟨ds.length, by omega, Nat.zero_le _, [], [], rs, m1, H01, rfl, h, s1.off hD0, w1.off (Evl.fresh_back w1.ex hD) hDρ (.inl hD), e.mono s1.ex, it, Evl.fresh_back w1.ex hD, upd_same, .nil⟩, fun i k H2 hW => ?_⟩
    obtain ⟨rfl, hle, acc, va, rs1, m3, H02, er, fr, s2, w2, e2, it2, d0, d2, da⟩ := hW
    obtain ⟨g1', g2', g3'⟩ := it2 i H2 w2.ex
    by_cases hlt : i < ds.length
    · refine .inr ⟨g1' hlt, ?_⟩
      have hd : ds[i]? = some ds[i] := List.getElem?_eq_getElem hlt
      rw [drop_cons hd] at fr
      have fin : ∀ {x H'}, J.yld i H2 x H' → H' = H2 ∧ Dp K H02 x ds[i] := fun {x H'} y => by
        obtain ⟨e1, d, q1, q2⟩ := g3' x H' hlt y
        rw [hd] at q1
        cases q1
        exact ⟨e1, q2⟩
      cases fr with
      | @yes _ _ es3 _ m4 m5 m6 _ ds1 ra rb is hg hiv hb hi1 hlc hr =>
        refine ⟨fun H' => ∃ va' H04, Stp ρ.length ρ H0 H ρ H04 H' ∧ Wd K H04 H' ρ m6 ∧ EnvS K H04 ρ σ es ∧ ItOk K J H04 ds ∧ H04 D = none ∧ H' D = some (.lst va') ∧ DpAll K H04 va' (acc ++ ra),
          fun H' ⟨va', H04, s4, w4, e4, it4, z0, z1, z2⟩ => ⟨ds.length - (i + 1), by omega, rfl, hlt, acc ++ ra, va', rb, m6, H04, by rw [er, List.append_assoc], hr, s4, w4, e4, it4, z0, z1, z2⟩, fun x H' y => ?_⟩
        obtain ⟨rfl, kx⟩ := fin y
        refine hg _ _ H02 ρ x w2.ex (e2.wipe vs) kx _ fun σ3 e3 hw => ⟨by rw [hw vs hiv, wipe_wipe], ?_⟩
        refine hb σ3 _ H02 ρ w2 e3 _ fun H3 H03 s3 w3 => ?_
        refine iteT (hi1 σ3 H3 H03 ρ w3 (e3.mono s3.ex) _ fun J1 H4 H04 s4 w4 it4 => ?_)
        have s5 := s3.trans w3.nd s4
        obtain ⟨k1, k2⟩ := keepD hDρ d0 d2 s5
        refine ⟨fun j k H5 => k = ds1.length - j ∧ j ≤ ds1.length ∧ ∃ acc1 va1 ra1 m7 H05, ra = acc1 ++ ra1 ∧ LcR K g1 tt1 te (wipeS es3 vs1) vs1 (ds1.drop j) m7 ra1 m6 ∧ Stp ρ.length ρ H0 H ρ H05 H5 ∧ Wd K H05 H5 ρ m7 ∧ EnvS K H05 ρ σ es ∧ EnvS K H05 ρ σ3 es3 ∧ ItOk K J H05 ds ∧ ItOk K J1 H05 ds1 ∧ H05 D = none ∧ H5 D = some (.lst va1) ∧ DpAll K H05 va1 (acc ++ acc1),
          ⟨ds1.length, by omega, Nat.zero_le _, [], va, ra, m5, H04, rfl, hlc, s2.trans w2.nd s5, w4, e2.mono s5.ex, e3.mono s5.ex, it2.mono s5.ex, it4, k1, k2, by rw [List.append_nil]; exact dpAll_mono s5.ex da⟩, fun j k H5 hW => ?_⟩
        obtain ⟨rfl, hle1, acc1, va1, ra1, m7, H05, er1, fr1, s6, w6, e6, e7, it6, it7, y0, y1, y2⟩ := hW
        obtain ⟨g4, g5, g6⟩ := it7 j H5 w6.ex
        by_cases hlt1 : j < ds1.length
        · refine .inr ⟨g4 hlt1, ?_⟩
          have hd1 : ds1[j]? = some ds1[j] := List.getElem?_eq_getElem hlt1
          rw [drop_cons hd1] at fr1
          have fin1 : ∀ {x H'}, J1.yld j H5 x H' → H' = H5 ∧ Dp K H05 x ds1[j] := fun {x H'} y => by
            obtain ⟨e1, d, q1, q2⟩ := g6 x H' hlt1 y
            rw [hd1] at q1
            cases q1
            exact ⟨e1, q2⟩
          have hvl := dpAll_len y2
          cases fr1 with
          | @yes _ _ es8 _ m8 m9 _ r rs2 is1 hg1 hiv1 hb1 he1 hr1 =>
            refine ⟨fun H' => ∃ va' H04, Stp ρ.length ρ H0 H ρ H04 H' ∧ Wd K H04 H' ρ m9 ∧ EnvS K H04 ρ σ es ∧ EnvS K H04 ρ σ3 es3 ∧ ItOk K J H04 ds ∧ ItOk K J1 H04 ds1 ∧ H04 D = none ∧ H' D = some (.lst va') ∧ DpAll K H04 va' (acc ++ (acc1 ++ [r])),
              fun H' ⟨va', H04, z1, z2, z3, z4, z5, z6, z7, z8, z9⟩ => ⟨ds1.length - (j + 1), by omega, rfl, hlt1, acc1 ++ [r], va', rs2, m9, H04, by rw [er1, List.append_assoc]; rfl, hr1, z1, z2, z3, z4, z5, z6, z7, z8, z9⟩, fun x H' y => ?_⟩
            obtain ⟨rfl, kx⟩ := fin1 y
            refine hg1 _ _ H05 ρ x w6.ex (e7.wipe vs1) kx _ fun σ9 e9 hw9 => ⟨by rw [hw9 vs1 hiv1, wipe_wipe], ?_⟩
            refine hb1 σ9 _ H05 ρ w6 e9 _ fun H7 H07 s7 w7 => ?_
            refine iteT (he1 σ9 H7 H07 ρ w7 (e9.mono s7.ex) _ fun yv H8 H08 s8 w8 ky => ?_)
            have s9 := s7.trans w7.nd s8
            obtain ⟨x1, x2⟩ := keepD hDρ y0 y1 s9
            have hlen : va1.length < 1001 := by
              have h1 : rs.length = acc.length + ((acc1.length + (rs2.length + 1)) + rb.length) := by
                rw [er, er1]
                simp only [List.length_append, List.length_cons]
              rw [hvl, List.length_append]
              omega
            refine ⟨va1, x2, small1000 (by omega), va1 ++ [yv], H08, (s6.trans w6.nd s9).off hD0, w8.off x1 hDρ (.inr ⟨_, x2⟩), e6.mono s9.ex, e7.mono s9.ex, it6.mono s9.ex, it7.mono s9.ex, x1, upd_same, ?_⟩
            rw [← List.append_assoc]
            exact dpAll_app (dpAll_mono s9.ex y2) (.cons ky .nil)
          | @not _ _ es8 _ m8 _ _ is1 hg1 hiv1 hb1 hr1 =>
            refine ⟨fun H' => ∃ H04, Stp ρ.length ρ H0 H ρ H04 H' ∧ Wd K H04 H' ρ m8 ∧ EnvS K H04 ρ σ es ∧ EnvS K H04 ρ σ3 es3 ∧ ItOk K J H04 ds ∧ ItOk K J1 H04 ds1 ∧ H04 D = none ∧ H' D = some (.lst va1) ∧ DpAll K H04 va1 (acc ++ acc1),
              fun H' ⟨H04, z1, z2, z3, z4, z5, z6, z7, z8, z9⟩ => ⟨ds1.length - (j + 1), by omega, rfl, hlt1, acc1, va1, ra1, m8, H04, er1, hr1, z1, z2, z3, z4, z5, z6, z7, z8, z9⟩, fun x H' y => ?_⟩
            obtain ⟨rfl, kx⟩ := fin1 y
            refine hg1 _ _ H05 ρ x w6.ex (e7.wipe vs1) kx _ fun σ9 e9 hw9 => ⟨by rw [hw9 vs1 hiv1, wipe_wipe], ?_⟩
            refine hb1 σ9 _ H05 ρ w6 e9 _ fun H7 H07 s7 w7 => ?_
            obtain ⟨x1, x2⟩ := keepD hDρ y0 y1 s7
            exact iteF ⟨H07, s6.trans w6.nd s7, w7, e6.mono s7.ex, e7.mono s7.ex, it6.mono s7.ex, it7.mono s7.ex, x1, x2, dpAll_mono s7.ex y2⟩
        · have ej : j = ds1.length := by omega
          subst ej
          rw [List.drop_length] at fr1
          cases fr1 with
          | nil =>
            rw [List.append_nil] at er1
            subst er1
            exact .inl ⟨g5 (Nat.le_refl _), va1, H05, s6, w6, e6, it6, y0, y1, y2⟩
    · have ei : i = ds.length := by omega
      subst ei
      rw [List.drop_length] at fr
      cases fr with
      | nil =>
        refine .inl ⟨g2' (Nat.le_refl _), ?_⟩
        rw [List.append_nil] at er
        subst er
        exact q D va H2 H02 s2 w2 hD0 d0 hDρ d2 da
variable {r : Sl} {a b : Bool}
theorem ev_andF (h1 : EvE K ta es m (.d (.bool false)) m1) : EvE K (tAndV ta tb) es m (.d (.bool false)) m1 := ev_and (a := false) (b := false) h1 fun h => nomatch h
theorem ev_andT (h1 : EvE K ta es m (.d (.bool true)) m1) (h2 : EvE K tb es m1 (.d (.bool b)) m1) : EvE K (tAndV ta tb) es m (.d (.bool b)) m1 := ev_cast (ev_and (a := true) h1 fun _ => h2) (by rw [Bool.true_and])
theorem ev_orT (h1 : EvE K ta es m (.d (.bool true)) m1) : EvE K (tOrV ta tb) es m (.d (.bool true)) m1 := ev_or (a := true) (b := false) h1 fun h => nomatch h
theorem ev_orF (h1 : EvE K ta es m (.d (.bool false)) m1) (h2 : EvE K tb es m1 (.d (.bool b)) m1) : EvE K (tOrV ta tb) es m (.d (.bool b)) m1 := ev_cast (ev_or (a := false) h1 fun _ => h2) (by rw [Bool.false_or])
theorem eb_andF (h1 : EvB K tt es m false m1) : EvB K (tAnd tt tu) es m false m1 := eb_and (a := false) (b := false) h1 fun h => nomatch h
theorem eb_andT (h1 : EvB K tt es m true m1) (h2 : EvB K tu es m1 b m1) : EvB K (tAnd tt tu) es m b m1 := eb_cast (eb_and (a := true) h1 fun _ => h2) (by rw [Bool.true_and])
theorem eb_orT (h1 : EvB K tt es m true m1) : EvB K (tOr tt tu) es m true m1 := eb_or (a := true) (b := false) h1 fun h => nomatch h
theorem eb_orF (h1 : EvB K tt es m false m1) (h2 : EvB K tu es m1 b m1) : EvB K (tOr tt tu) es m b m1 := eb_cast (eb_or (a := false) h1 fun _ => h2) (by rw [Bool.false_or])
theorem ev_ifT (h1 : EvB K tt es m true m1) (h2 : EvE K ta es m1 r m2) : EvE K (tIf tt ta tb) es m r m2 := ev_if (a := true) h1 (fun _ => h2) fun h => nomatch h
theorem ev_ifF (h1 : EvB K tt es m false m1) (h2 : EvE K tb es m1 r m2) : EvE K (tIf tt ta tb) es m r m2 := ev_if (a := false) h1 (fun h => nomatch h) fun _ => h2
theorem sv_ifT {n : Nat} {t u : TS} {o : Out} (h : EvB K tt es m true m1) (h1 : Sv K n t es m1 o) : Sv K n (tIfS tt t u) es m o := sv_if (a := true) h (fun _ => h1) fun h => nomatch h
theorem sv_ifF {n : Nat} {t u : TS} {o : Out} (h : EvB K tt es m false m1) (h1 : Sv K n u es m1 o) : Sv K n (tIfS tt t u) es m o := sv_if (a := false) h (fun h => nomatch h) fun _ => h1
/-- if t: return ..; what follows -/
theorem sv_ifsT {n : Nat} {t u v : TS} {o : Out} (h : EvB K tt es m true m1) (ho : o.no = true) (h1 : Sv K n t es m1 o) : Sv K n (tSeq (tIfS tt t u) v) es m o := sv_out ho (sv_ifT h h1)
theorem sv_ifsF {n : Nat} {t v : TS} {o : Out} (h : EvB K tt es m false m1) (h1 : Sv K n v es m1 o) : Sv K n (tSeq (tIfS tt t tNext) v) es m o := sv_seq (sv_ifF h sv_next) h1
/-- a < b < c, the first of them false -/
theorem ev_chainF {rr rs : R2} {x y : PyData} (h1 : EvE K ta es m (.d x) m1) (h2 : EvE K tb es m1 (.d y) m2) (hr : Op2 K rr x y (.bool false)) : EvE K (tChain rr rs ta tb tc) es m (.d (.bool false)) m2 :=
  ev_chain (a := false) (b := false) (z := .none) h1 h2 hr (fun h => nomatch h) fun h => nomatch h
theorem eqvI {i j : Int} : PyData.eqv (.int i) (.int j) = (i == j) := by simp only [PyData.eqv]
theorem eqvS {x y : Str} : PyData.eqv (.str x) (.str y) = (x == y) := by simp only [PyData.eqv]
theorem eqvB {x y : Bool} : PyData.eqv (.bool x) (.bool y) = (x == y) := by simp only [PyData.eqv]
def rEqU (K : PySem.W.Frag) : R2 := fun x y H Q => rEq x y H Q ∨ rEqD K x y H Q
def rNeU (K : PySem.W.Frag) : R2 := fun x y H Q => rNe x y H Q ∨ rNeD K x y H Q
theorem op_eqU {X : Cx} (hu : X.A.units + 64 < cLine) : OpR X (compareOp .Eq) (rEqU X.K) := opOr op_eq (op_eqD hu)
theorem op_neU {X : Cx} (hu : X.A.units + 64 < cLine) : OpR X (compareOp .NotEq) (rNeU X.K) := opOr op_ne (op_neD hu)
theorem o_eqD {x y : PyData} (hx : SeqAt.shaped x = true) (hy : SeqAt.shaped y = true) : Op2 K (rEqU K) x y (.bool (PyData.eqv x y)) := o_orR (o_eq hx hy)
theorem o_neD {x y : PyData} (hx : SeqAt.shaped x = true) (hy : SeqAt.shaped y = true) : Op2 K (rNeU K) x y (.bool (!PyData.eqv x y)) := o_orR (o_ne hx hy)
theorem o_eqI {i j : Int} : Op2 K (rEqU K) (.int i) (.int j) (.bool (i == j)) := by
  have h := o_eqD (K := K) (x := .int i) (y := .int j) rfl rfl
  rw [eqvI] at h
  exact h
theorem o_neI {i j : Int} : Op2 K (rNeU K) (.int i) (.int j) (.bool (!(i == j))) := by
  have h := o_neD (K := K) (x := .int i) (y := .int j) rfl rfl
  rw [eqvI] at h
  exact h
theorem o_eqB {i j : Bool} : Op2 K (rEqU K) (.bool i) (.bool j) (.bool (i == j)) := by
  have h := o_eqD (K := K) (x := .bool i) (y := .bool j) rfl rfl
  rw [eqvB] at h
  exact h
theorem o_neB {i j : Bool} : Op2 K (rNeU K) (.bool i) (.bool j) (.bool (!(i == j))) := by
  have h := o_neD (K := K) (x := .bool i) (y := .bool j) rfl rfl
  rw [eqvB] at h
  exact h
theorem decS {i j : Str} : decide (V.str i = V.str j) = decide (i = j) := by
  by_cases h : i = j
  · rw [h, decide_eq_true rfl, decide_eq_true rfl]
  · rw [decide_eq_false h, decide_eq_false fun e => h (V.str.inj e)]
theorem o_eqS {i j : Str} : Op2 K (rEqU K) (.str i) (.str j) (.bool (decide (i = j))) := o_orL fun H0 H ex v w kv kw Q q => by
  cases kv
  cases kw
  refine ⟨rfl, ?_⟩
  rw [decS]
  exact here ex (.bl _) q
theorem o_neS {i j : Str} : Op2 K (rNeU K) (.str i) (.str j) (.bool (!decide (i = j))) := o_orL fun H0 H ex v w kv kw Q q => by
  cases kv
  cases kw
  refine ⟨rfl, ?_⟩
  rw [decS]
  exact here ex (.bl _) q
theorem eb_notT (h : EvB K tt es m true m1) : EvB K (tNot tt) es m false m1 := eb_not h
theorem eb_notF (h : EvB K tt es m false m1) : EvB K (tNot tt) es m true m1 := eb_not h
theorem cut_to {xs : List PyData} {k : Nat} : cutD xs none (some (k : Int)) = xs.take k := by
  unfold cutD
  rw [HT.sIx_none, show HT.sIx xs.length xs.length (some (k : Int)) = min k xs.length from HT.sIx_nat xs.length xs.length k, List.drop_zero, Nat.sub_zero]
  by_cases h : k ≤ xs.length
  · rw [Nat.min_eq_left h]
  · rw [Nat.min_eq_right (by omega), List.take_length, List.take_of_length_le (by omega)]
theorem cut_from {xs : List PyData} {k : Nat} : cutD xs (some (k : Int)) none = xs.drop k := by
  unfold cutD
  rw [HT.sIx_none, show HT.sIx xs.length 0 (some (k : Int)) = min k xs.length from HT.sIx_nat xs.length 0 k]
  by_cases h : k ≤ xs.length
  · rw [Nat.min_eq_left h, List.take_of_length_le (by rw [List.length_drop]; exact Nat.le_refl _)]
  · rw [Nat.min_eq_right (by omega), List.drop_length, List.drop_of_length_le (by omega), List.take_nil]
theorem ev_to {xs : List PyData} {k : Nat} (h : EvE K te es m (.d (.tuple xs)) m1) : EvE K (tSl (rSlA K) te tNoPart (tPart (tC (.int (k : Int))))) es m (.d (.tuple (xs.take k))) m1 := by
  rw [← cut_to]
  exact ev_sl h eo_none (eo_some ev_int)
theorem ev_from {xs : List PyData} {k : Nat} (h : EvE K te es m (.d (.tuple xs)) m1) : EvE K (tSl (rSlA K) te (tPart (tC (.int (k : Int)))) tNoPart) es m (.d (.tuple (xs.drop k))) m1 := by
  rw [← cut_from]
  exact ev_sl h (eo_some ev_int) eo_none
/-- an item of a tuple that is named -/
theorem ev_at {i j : Nat} {xs : List PyData} {d : PyData} {k : Int} (h : es[i]? = some (.d (.tuple xs))) (hk : k = (j : Int)) (hd : xs[j]? = some d) : EvE K (tOp (rIx K) (tVar i) (tC (.int k))) es m (.d d) m := ev_op (ev_var h nofun) ev_int (o_ixT hk hd)
theorem mul_ok {i j : Int} (h1 : -(2 ^ 64) < i) (h2 : i < 2 ^ 64) : IntMulOk i j := .of_left (intBits_le_64 h1 h2)
end
/-- a loop by its invariant: J (turn) (slots) (cells) -/
theorem forI {K : PySem.W.Frag} {n i : Nat} {tb : TS} (J : Nat → List Sl → M → Prop) : ∀ (ds : List PyData) (k : Nat) (es : List Sl) (m : M), J k es m →
    (∀ (l : Nat) (d : PyData) (es : List Sl) (m : M), ds[l]? = some d → J (k + l) es m → ∃ es2 m2, (Sv K n tb (es.set i (.d d)) m (.nx es2 m2) ∨ Sv K n tb (es.set i (.d d)) m (.cnt es2 m2)) ∧ J (k + l + 1) es2 m2) →
    ∃ es' m', ForR K n (gName i) tb ds es m (.nx es' m') ∧ J (k + ds.length) es' m'
  | [], k, es, m, h, _ => ⟨es, m, .nil, h⟩
  | d :: ds, k, es, m, h, st => by
    obtain ⟨es2, m2, hb, h2⟩ := st 0 d es m rfl h
    obtain ⟨es', m', f, h3⟩ := forI (tb := tb) J ds (k + 1) es2 m2 h2 fun l d' es m hd hj => by
      have q := st (l + 1) d' es m hd (by rw [show k + (l + 1) = k + 1 + l by omega]; exact hj)
      rw [show k + (l + 1) + 1 = k + 1 + l + 1 by omega] at q
      exact q
    refine ⟨es', m', ?_, by rw [List.length_cons, show k + (ds.length + 1) = k + 1 + ds.length by omega]; exact h3⟩
    rcases hb with hb | hb
    · exact .nx gv_name hb f
    · exact .cnt gv_name hb f
theorem sv_forI {K : PySem.W.Frag} {es : List Sl} {m m1 : M} {n i : Nat} {wi : TI} {tb rest : TS} {ds : List PyData} {o : Out} (J : Nat → List Sl → M → Prop) (hi : EvI K wi es m ds m1) (h0 : J 0 es m1)
    (st : ∀ (l : Nat) (d : PyData) (es : List Sl) (m : M), ds[l]? = some d → J l es m → ∃ es2 m2, (Sv K n tb (es.set i (.d d)) m (.nx es2 m2) ∨ Sv K n tb (es.set i (.d d)) m (.cnt es2 m2)) ∧ J (l + 1) es2 m2)
    (hd : ∀ es m, J ds.length es m → Sv K n rest es m o) : Sv K n (tSeq (tFor wi (gName i) tb) rest) es m o := by
  obtain ⟨es', m', f, h⟩ := forI (K := K) (n := n) (i := i) (tb := tb) J ds 0 es m1 h0 (by simpa using st)
  rw [Nat.zero_add] at h
  exact sv_seq (sv_for hi f) (hd es' m' h)
/-- .. as the last statement of a block -/
theorem sv_forIe {K : PySem.W.Frag} {es : List Sl} {m m1 : M} {n i : Nat} {wi : TI} {tb : TS} {ds : List PyData} (J : Nat → List Sl → M → Prop) (hi : EvI K wi es m ds m1) (h0 : J 0 es m1)
    (st : ∀ (l : Nat) (d : PyData) (es : List Sl) (m : M), ds[l]? = some d → J l es m → ∃ es2 m2, (Sv K n tb (es.set i (.d d)) m (.nx es2 m2) ∨ Sv K n tb (es.set i (.d d)) m (.cnt es2 m2)) ∧ J (l + 1) es2 m2) :
    ∃ es' m', Sv K n (tFor wi (gName i) tb) es m (.nx es' m') ∧ J ds.length es' m' := by
  obtain ⟨es', m', f, h⟩ := forI (K := K) (n := n) (i := i) (tb := tb) J ds 0 es m1 h0 (by simpa using st)
  rw [Nat.zero_add] at h
  exact ⟨es', m', sv_for hi f, h⟩
theorem el_new {K : PySem.W.Frag} {es : List Sl} {m : M} : EvL K (tLst tNil) es m [] m := fun σ H H0 ρ w' e Q q =>
  ⟨Nat.zero_le _, fun p hp => q p [] _ H0 ⟨Evl.Ex.refl _, fun b o h _ _ => Evl.Ex.new hp b o h, fun b h => Evl.fresh_back (Evl.Ex.new hp) h, fun b o h => .inl h, rfl, fun b h => .inl h⟩ (w'.off (Evl.fresh_back w'.ex hp) (w'.notin hp) (.inl hp)) hp (Evl.fresh_back w'.ex hp) (w'.notin hp) upd_same .nil⟩
theorem last_set {m : M} {a b : List PyData} : (m ++ [a]).set m.length b = m ++ [b] := by
  rw [List.set_append_right _ _ (Nat.le_refl _), Nat.sub_self]
  rfl
theorem last_get {m : M} {a : List PyData} : (m ++ [a])[m.length]? = some a := by
  rw [List.getElem?_append_right (Nat.le_refl _), Nat.sub_self]
  rfl
/-- a def that falls off its end -/
theorem mkPureN {P : Program} {w : World} {K : PySem.W.Frag} {mg : Str → Option Value} {base : Heap} {x : Str} {st : Stmt} {N ps : List Str} {k : Nat} {R : List PyData → PyData → Prop} (T : DefT K mg x st ps) (S : FnScope N ps (defScope st)) (hR : ∀ ds y, R ds y → y = .none)
    (hb : ∀ (f : Addr) (cdv : Value) (A : Around) (outer : List Env) (s : Shared) (H : Hp) (E : XK), Room k (A.deeper (envOfC x (defScope st) s.heap.objs.size f cdv)) →
      ∃ t, PSs (cxOf CX0 P w K mg base N x (defScope st) f cdv A outer s H E).nox (defBody st) t ∧ ∀ ds m y, ds.length = ps.length → R ds y → ∃ es', Sv K m.length t (ds.map .d ++ List.replicate (N.length - ds.length) .no) m (.nx es' m)) :
    PureC P w K mg base (k + 1) x ps R := by
  obtain ⟨f, fd, F, hm, hB⟩ := T.ex
  refine ⟨f, fd, F.ok S (fun vs H Q E h => h.1) (fun cdv A outer s H vs Q E hr h => ?_), hm, F.kp, hB⟩
  obtain ⟨t, ht, q⟩ := hb f cdv A outer s H E hr
  refine ⟨t, ht, ?_⟩
  obtain ⟨hl, H0, ρ, m, rs, r, m', w', kv, ⟨ds, y, rfl, hp, rfl, rfl⟩, hq⟩ := h
  have hy := hR ds y hp
  subst hy
  have hdl : ds.length = ps.length := by rw [← hl, kv.length, List.length_map]
  obtain ⟨es', q⟩ := q ds m' _ hdl hp
  have es := start_env (N := N) kv
  rw [List.length_map] at es
  refine q (L2.start N vs) H H0 ρ (by rw [w'.len]; exact Nat.le_refl _) w' es _ fun σ' ρ' H' H0' s' w2 e2 => ?_
  have e : ρ'.take m'.length = ρ := by
    rw [s'.pre, ← w'.len, List.take_length]
  have hlen := w2.len
  have e3 : ρ' = ρ := by
    rw [← e, ← hlen, List.take_length]
  subst e3
  refine hq .non H' H0' ⟨s'.ex, s'.keep, s'.dom, fun b o z => ?_, rfl, fun b z => .inl z⟩ w2 .non
  rcases s'.fresh b o z with y | y | y
  · exact .inl y
  · exact .inr (.inl y)
  · rw [← w'.len] at y
    exact .inr (.inr y)
end DL

set_option Elab.async false
set_option linter.all false
set_option maxRecDepth 100000
namespace DL
variable [Tbs]
open PySem PySem.Spec PyProof.Rows L2
section
variable {X : Cx} {K : PySem.W.Frag}
theorem kAdd (h : X.K = K := by rfl) : OpR X (binaryOp .Add) (rAddU K) := h ▸ op_addU
theorem kMul (h : X.K = K := by rfl) : OpR X (binaryOp .Mult) (rMulU K) := h ▸ op_mulU
theorem kIn (hu : X.A.units + 65 < cLine) (h : X.K = K := by rfl) : OpR X (compareOp .In) (rInU K) := h ▸ op_inU hu
theorem kEq (hu : X.A.units + 64 < cLine) (h : X.K = K := by rfl) : OpR X (compareOp .Eq) (rEqU K) := h ▸ op_eqU hu
theorem kNe (hu : X.A.units + 64 < cLine) (h : X.K = K := by rfl) : OpR X (compareOp .NotEq) (rNeU K) := h ▸ op_neU hu
theorem kIx (h : X.K = K := by rfl) : IxR X (rIx K) := h ▸ ix_seq
theorem kSl (h : X.K = K := by rfl) : SlR X (rSlA K) := h ▸ sl_tupA
theorem kLen (h : X.K = K := by rfl) : CallR X (.builtin "len") (fun xs H Q => ∃ x n, xs = [x] ∧ LenV K x H n ∧ Q (.int n) H) := h ▸ call_len
theorem kIsi (h : X.K = K := by rfl) : CallR X (.builtin "isinstance") (rIsi K) := h ▸ call_isi
theorem kAll (hc : X.calm = true) (h : X.K = K := by rfl) : CallR X (.builtin "all") (rAll K) := h ▸ cr_all hc
theorem kAny (hc : X.calm = true) (h : X.K = K := by rfl) : CallR X (.builtin "any") (rAny K) := h ▸ cr_any hc
theorem kSum (hc : X.calm = true) (h : X.K = K := by rfl) : CallR X (.builtin "sum") (rSum K) := h ▸ cr_sum hc
theorem kTup (h : X.K = K := by rfl) : CallR X (.type "tuple") (fun xs H Q => ∃ p ys, xs = [.ref p] ∧ ((SqL K H p ys ∧ ∀ l, H l = none → Q (.ref l) (upd H l (.tup ys))) ∨ (SqT K H p ys ∧ Q (.ref p) H))) := h ▸ call_tuple_of
theorem kList (h : X.K = K := by rfl) : CallR X (.type "list") (fun xs H Q => ∃ p ys, xs = [.ref p] ∧ (SqL K H p ys ∨ SqT K H p ys) ∧ ∀ l, H l = none → Q (.ref l) (upd H l (.lst ys))) := h ▸ call_list_of
theorem kSeq {tg l : Expr} {tl : TE} (he : PE X l tl) (h : X.K = K := by rfl) : PI X tg l (iSeq K tl) := h ▸ pi_seq he
theorem kBm {o e : Expr} {es : List Expr} {to : TE} {t : TA} {name : Str} {apos cpos : Pos} {T id : String} {r : V → List V → Hp → VK → Prop} (pa : PlainAttrs T) (slot : Slot T name id) (hty : typeOf (.builtin id) = pure (.type "method_descriptor")) (hm : MtR X id r) (ho : PE X o to) (ha : PA X (e :: es) t)
    (hbase : attributeBase o name X.env (eval o X.env) = eval o X.env := by rfl)
    (hfew : ((backTo cpos (starEach (e :: es) X.env)).all (fun x => !x.1) && (backToKw cpos (keywordEach [] X.env)).all (fun x => x.1.isSome)
      && decide ((e :: es).length + ([] : List Keyword).length + (if ([] : List Keyword).isEmpty then 0 else 1) < 30)) = true := by rfl)
    (hline : (apos.endLine == cpos.line) = true := by rfl) (hs : starEach (e :: es) X.env = (false, eval e X.env) :: starEach es X.env := by rfl) (hplain : (backTo cpos (starEach es X.env)).any (·.1) = false := by rfl) (h : X.K = K := by rfl) :
    PE X (.Call (.Attribute o name apos) (e :: es) [] cpos) (tBM K T r to t) := h ▸ pe_bm pa slot hty hm ho ha hbase hfew hline hs hplain
theorem kTupG {es : List Expr} {k : Nat} {t : TGs} {n : Nat} {pos : Pos} (hc : X.calm = true) (h : PGs X es t)
    (hn : (assignEach es X.env).length = n := by rfl) (hst : (assignEach es X.env).findIdx? (·.1) = none := by rfl) (hK : X.K = K := by rfl) : PG X (.Tuple es k pos) (gTup K n t) := hK ▸ pg_tup hc h hn hst
end
section
variable {K : PySem.W.Frag}
theorem arg1 {es : List Sl} {m m1 : M} {te : TE} {r : Sl} (h : EvE K te es m r m1) : EvA K (tCons te tNil) es m [r] m1 := ea_cons h ea_nil
theorem arg2 {es : List Sl} {m m1 m2 : M} {te tf : TE} {r q : Sl} (h : EvE K te es m r m1) (h2 : EvE K tf es m1 q m2) : EvA K (tCons te (tCons tf tNil)) es m [r, q] m2 := ea_cons h (ea_cons h2 ea_nil)
end
end DL

set_option Elab.async false
set_option linter.all false
set_option maxRecDepth 100000
namespace DL
variable [Tbs]
open PySem PySem.Spec PyProof.Rows L2
/-- all but the tables -/
def nt (H : Hp) : Hp := fun b => match H b with | some (.tbl _) => none | x => x
theorem nt_some {H : Hp} {b : Addr} {o : HO} (h : nt H b = some o) : H b = some o ∧ ∀ ps, o ≠ .tbl ps := by
  unfold nt at h
  cases e : H b with
  | none => rw [e] at h; cases h
  | some u =>
    rw [e] at h
    cases u <;> first | (cases h; exact ⟨rfl, fun ps z => nomatch z⟩) | cases h
theorem nt_none {H : Hp} {b : Addr} (h : H b = none) : nt H b = none := by unfold nt; rw [h]
theorem nt_l {K : PySem.W.Frag} {H : Hp} {a : Addr} {xs : List V} (h : SqL K H a xs) : SqL K (nt H) a xs := by
  rcases h with (h | ⟨o, h⟩) | h
  · exact .inl (.inl (by unfold nt; rw [h]))
  · exact .inl (.inr ⟨o, by unfold nt; rw [h]⟩)
  · exact .inr h
theorem nt_T {T : List (Addr × Str)} {H : Hp} (t : LamX.Tabs T H) : ∀ p ∈ T, nt H p.1 = none := fun p hp => by
  obtain ⟨ps, e, _⟩ := t p hp
  unfold nt
  rw [e]
theorem nt_ex (H : Hp) : Evl.Ex (nt H) H := fun _ _ z => (nt_some z).1
/-! ### the rounds of a law: a new list of new lists, each a die of its own -/
def spRounds (K : PySem.W.Frag) : Sp := fun vs H Q _ => LamX.Tabs Tbs.T H ∧ ∃ (a : Addr) (ns : List Int) (k : Nat), vs = [.ref a, .int k] ∧ SqL K H a (ns.map V.int) ∧ ns.length ≤ 1000 ∧ k ≤ 1000 ∧
  ∀ (D : Addr) (rs : List Addr) (xs : List Int) (H' : Hp), Evl.Ex (nt H) H' → LamX.Tabs Tbs.T H' → H D = none → H' D = some (.lst (rs.map V.ref)) → rs.length = xs.length → rs.Nodup → D ∉ rs → (∀ r, r ∈ rs → H r = none) → (∀ (i : Nat) (r : Addr) (x : Int), rs[i]? = some r → xs[i]? = some x → H' r = some (.lst [.int x, .int 0])) → Q (.ref D) H'
theorem law_loop {K : PySem.W.Frag} {a : Addr} {L : Nat} {es0 : List Sl} {wi : TI} {tb rest : TS} {D : Ends} {σ : L2.St} {H : Hp} (hL : σ.length = es0.length + 2) (hσ : σ[0]? = some (some (.ref a))) (h0 : ∀ s, s ∈ es0 → s = .no)
    (hwi : ∀ R : It → Hp → Prop, (∀ (Dd : Addr) (rs : List Addr) (xs : List Int) (H' : Hp), Evl.Ex (nt H) H' → LamX.Tabs Tbs.T H' → H Dd = none → H' Dd = some (.lst (rs.map V.ref)) → rs.length = xs.length → rs.Nodup → Dd ∉ rs → (∀ r, r ∈ rs → H r = none) →
      (∀ (i : Nat) (r : Addr) (x : Int), rs[i]? = some r → xs[i]? = some x → H' r = some (.lst [.int x, .int 0])) → R (Itl K Dd) H') → wi σ H R)
    (hb : ∀ x : Int, ∃ es' m', Sv K 0 tb (.v (.ref a) :: .c 0 :: es0) [[.int x, .int 0]] (.nx (.v (.ref a) :: es') m') ∧ es'.length = es0.length + 1)
    (hr : ∀ σ' H', rest D σ' H') (tb0 : LamX.Tabs Tbs.T H) : tSeq (tFor wi (gName 1) tb) rest D σ H := by
  refine hwi _ fun Dd rs xs H1 e1 tb1 hD1 hD hlen nd hDr hfr hx => ?_
  refine ⟨fun i k σ2 H2 => k = rs.length - i ∧ i ≤ rs.length ∧ σ2.length = es0.length + 2 ∧ σ2[0]? = some (some (.ref a)) ∧ (Evl.Ex (nt H) H2 ∧ LamX.Tabs Tbs.T H2) ∧ H2 Dd = some (.lst (rs.map V.ref)) ∧ ∀ (j : Nat) (r : Addr) (x : Int), i ≤ j → rs[j]? = some r → xs[j]? = some x → H2 r = some (.lst [.int x, .int 0]),
    ⟨rs.length, by omega, Nat.zero_le _, hL, hσ, ⟨e1, tb1⟩, hD, fun j r x _ h1 h2 => hx j r x h1 h2⟩, fun i k σ2 H2 hW => ?_⟩
  obtain ⟨rfl, hle, l2, s2, ⟨e2, tb2⟩, d2, x2⟩ := hW
  have sl : SqL K H2 Dd (rs.map V.ref) := .inl (.inl d2)
  by_cases hlt : i < rs.length
  · have hri : rs[i]? = some rs[i] := List.getElem?_eq_getElem hlt
    have hxi : xs[i]? = some (xs[i]'(by omega)) := List.getElem?_eq_getElem (by omega)
    have hmi : (rs.map V.ref)[i]? = some (.ref rs[i]) := by rw [List.getElem?_map, hri]; rfl
    refine .inr ⟨⟨_, _, sl, hmi⟩, ?_⟩
    obtain ⟨es', m', hsv, hes⟩ := hb (xs[i]'(by omega))
    refine ⟨fun σ' H' => σ'.length = es0.length + 2 ∧ σ'[0]? = some (some (.ref a)) ∧ (Evl.Ex (nt H) H' ∧ LamX.Tabs Tbs.T H') ∧ H' Dd = some (.lst (rs.map V.ref)) ∧ ∀ (j : Nat) (r : Addr) (x : Int), i + 1 ≤ j → rs[j]? = some r → xs[j]? = some x → H' r = some (.lst [.int x, .int 0]), fun σ' H' ⟨y1, y2, y3, y4, y5⟩ => ⟨rs.length - (i + 1), by omega, rfl, hlt, y1, y2, y3, y4, y5⟩, fun x H' y => ?_⟩
    obtain ⟨rfl, hy⟩ := y
    have ex : x = .ref rs[i] := Option.some.inj ((hy _ sl).symm.trans hmi)
    subst ex
    have hp : H rs[i] = none := hfr _ (List.getElem_mem hlt)
    have hpD : rs[i] ≠ Dd := fun z => hDr (by rw [← z]; exact List.getElem_mem hlt)
    have hp2 := x2 i rs[i] _ (Nat.le_refl _) hri hxi
    have w : Wd K (nt H) H' [rs[i]] [[.int (xs[i]'(by omega)), .int 0]] := ⟨e2, rfl, by simp, fun j p ds z1 z2 => by
      cases j with
      | zero =>
        cases z1
        cases z2
        exact ⟨nt_none hp, _, hp2, .cons (.int _) (.cons (.int _) .nil)⟩
      | succ j => simp at z1, tb2, nt_T tb0⟩
    have en : EnvS K (nt H) [rs[i]] (σ2.set 1 (some (.ref rs[i]))) (.v (.ref a) :: .c 0 :: es0) := by
      refine ⟨by rw [List.length_set, l2]; rfl, fun j s z => ?_⟩
      match j, z with
      | 0, z =>
        cases z
        exact .inr ⟨_, by rw [List.getElem?_set_ne (by omega)]; exact s2, rfl⟩
      | 1, z =>
        cases z
        exact .inr ⟨_, by rw [List.getElem?_set_self (by omega)], _, rfl, rfl⟩
      | j + 2, z => exact .inl (h0 s (List.mem_of_getElem? z))
    refine hsv _ H' (nt H) [rs[i]] (Nat.zero_le _) w en _ fun σ3 ρ3 H3 H03 s3 w3 e3 => ?_
    have keepB : ∀ b o, H' b = some o → b ≠ rs[i] → (∀ ps, o ≠ .tbl ps) → H3 b = some o := fun b o z hb nt => s3.keep b o z (by simp [hb]) nt
    refine ⟨by rw [e3.1, List.length_cons, hes], ?_, ⟨fun b o z => keepB b o (e2 b o z) (ne_of_none (nt_some z).1 hp) (nt_some z).2, w3.tab⟩, keepB Dd _ d2 (Ne.symm hpD) (fun ps z => nomatch z), fun j r x hj z1 z2 => keepB r _ (x2 j r x (by omega) z1 z2) (fun z => ?_) (fun ps z => nomatch z)⟩
    · rcases e3.2 0 _ rfl with z | ⟨v, z1, z2⟩
      · cases z
      · have z2 : v = .ref a := z2
        rw [z2] at z1
        exact z1
    · have := nd_ix nd z1 (by rw [hri, z])
      omega
  · exact .inl ⟨⟨_, sl, by rw [List.length_map]; omega⟩, hr σ2 H2⟩

/-! ### the dice -/
def mix0M (c k : Int) : Int := (c * 6364136223846793005 + (k + 1) * 1442695040888963407) % 340282366920938463463374607431768211507
def mix1M (a : Int) : Int := a * a % 340282366920938463463374607431768211297
def mix2M (b : Int) : Int := (b % 18446744073709551557 + 1) * (b / 18446744073709551557 + 1) * b % 340282366920938463463374607431768211507
def drawnM (c k : Int) : Int := mix2M (mix1M (mix0M c k))
theorem mix0_lt (c k : Int) : 0 ≤ mix0M c k ∧ mix0M c k < 340282366920938463463374607431768211507 := ⟨Int.emod_nonneg _ (by decide), Int.emod_lt_of_pos _ (by decide)⟩
theorem mix1_lt (a : Int) : 0 ≤ mix1M a ∧ mix1M a < 340282366920938463463374607431768211297 := ⟨Int.emod_nonneg _ (by decide), Int.emod_lt_of_pos _ (by decide)⟩
def rollM (x c n : Int) : Int := if x ≥ 10 ^ 18 then x % n else drawnM x (c + 1) / 8 % n
def diceM (x c n : Int) : List PyData := if x ≥ 10 ^ 18 then [.int (x / n), .int c] else [.int x, .int (c + 1)]
theorem roll_lt {x c n : Int} (h : 0 < n) : 0 ≤ rollM x c n ∧ rollM x c n < n := by
  unfold rollM
  split
  · exact ⟨Int.emod_nonneg _ (by omega), Int.emod_lt_of_pos _ h⟩
  · exact ⟨Int.emod_nonneg _ (by omega), Int.emod_lt_of_pos _ h⟩
def cellM (ns : List Int) (k : Int) : Int := if ns = [] then k * 7919 else ns.getD (k % (ns.length : Int)).toNat 0 + k / (ns.length : Int) * 104729
/-- a roll: the die at cell j -/
def rollG : List Sl → M → Sl → M → Prop := fun rs m r m' => ∃ j x c n, rs = [.c j, .d (.int n)] ∧ m[j]? = some [.int x, .int c] ∧ 0 < n ∧ n < 2 ^ 62 ∧ r = .d (.int (rollM x c n)) ∧ m' = m.set j (diceM x c n)
theorem diceM_two {x c n : Int} : ∃ y d, diceM x c n = [.int y, .int d] := by
  unfold diceM
  split
  · exact ⟨_, _, rfl⟩
  · exact ⟨_, _, rfl⟩
theorem shaped_ints (ns : List Int) : SeqAt.shaped (.list (ns.map .int)) = true := by
  have h1 : PyData.canLayAll0 (ns.map .int) = true := by
    induction ns with
    | nil => simp [PyData.canLayAll0]
    | cons n ns ih => simp [PyData.canLayAll0, PyData.canLay0, ih]
  have h2 : PyData.depthAll (ns.map .int) ≤ 1 := by
    clear h1
    induction ns with
    | nil => simp [PyData.depthAll]
    | cons n ns ih =>
      simp only [List.map_cons, PyData.depthAll, PyData.depth]
      omega
  have h3 : PyData.depth (.list (ns.map .int)) ≤ 64 := by
    simp only [PyData.depth]
    omega
  show (PyData.canLay0 (.list (ns.map .int)) && decide (PyData.depth (.list (ns.map .int)) ≤ 64)) = true
  rw [Bool.and_eq_true]
  exact ⟨by simp only [PyData.canLay0]; exact h1, decide_eq_true h3⟩
section
variable {K : PySem.W.Frag}
theorem o_mod {i j : Int} (h : 0 < j) : Op2 K (rI (fun _ j => 0 < j) fun i j => .int (i % j)) (.int i) (.int j) (.int (i % j)) := o_i h
theorem o_div {i j : Int} (h : CDivW i j) : Op2 K (rI CDivW fun i j => .int (i / j)) (.int i) (.int j) (.int (i / j)) := o_i h
theorem o_pow {i j : Int} (h : CPow i j) : Op2 K (rI CPow fun i j => .int (i ^ j.toNat)) (.int i) (.int j) (.int (i ^ j.toNat)) := o_i h
end
theorem dp_ints {K : PySem.W.Frag} {H : Hp} : ∀ ns : List Int, DpAll K H (ns.map V.int) (ns.map .int)
  | [] => .nil
  | n :: ns => .cons (.int n) (dp_ints ns)
theorem runA {K : PySem.W.Frag} {ta : TA} {es rs : List Sl} {σ : L2.St} {H H0 : Hp} {Q : List V → Hp → Prop} (h : EvA K ta es [] rs []) (ex : Evl.Ex H0 H) (tb : LamX.Tabs Tbs.T H) (hn : ∀ p ∈ Tbs.T, H0 p.1 = none) (e : EnvS K H0 [] σ es)
    (q : ∀ vs H' H0', Stp 0 [] H0 H [] H0' H' → Wd K H0' H' [] [] → SlAll K H0' [] vs rs → Q vs H') : ta σ H Q :=
  h σ H H0 [] ⟨ex, rfl, .nil, fun j p ds z => by simp at z, tb, hn⟩ e Q q
end DL

set_option Elab.async false
set_option linter.all false
set_option maxRecDepth 100000
namespace DL
variable [Tbs]
open PySem PySem.Spec PyProof.Rows L2
section
variable {X : Cx} {K : PySem.W.Frag}
/-- x is not True, x an int -/
def rNotIB : R2 := fun x y H Q => ∃ (i : Int) (b : Bool), x = .int i ∧ y = .bl b ∧ Q (.bl true) H
theorem op_notIB : OpR X (compareOp .IsNot) rNotIB := by
  intro pins s σ H x y v u Q I rx ry h
  obtain ⟨i, b, rfl, rfl, q⟩ := h
  obtain ⟨t, rfl⟩ := (show ∃ t, v = Value.int i t from rx)
  cases (show u = Value.bool b from ry)
  exact wpAny_isNot_other rfl (fun z => nomatch z) ⟨.bl true, H, I, rfl, q⟩
def rNotBU : R2 := fun x y H Q => rNotIB x y H Q ∨ rNotB x y H Q
theorem op_notB : OpR X (compareOp .IsNot) rNotBU := opOr op_notIB op_notBl
theorem o_notIB {i : Int} {b : Bool} : Op2 K rNotBU (.int i) (.bool b) (.bool true) := fun H0 H ex v w kv kw Q q => by
  cases kv
  cases kw
  exact .inl ⟨i, b, rfl, rfl, here ex (.bl true) q⟩
theorem o_notBB {a b : Bool} : Op2 K rNotBU (.bool a) (.bool b) (.bool (!decide (a = b))) := fun H0 H ex v w kv kw Q q => by
  cases kv
  cases kw
  exact .inr ⟨a, b, rfl, rfl, here ex (.bl _) q⟩
theorem ev_to' {te tk : TE} {es : List Sl} {m m1 m2 : M} {xs : List PyData} {k : Nat} (h : EvE K te es m (.d (.tuple xs)) m1) (hk : EvE K tk es m1 (.d (.int (k : Int))) m2) : EvE K (tSl (rSlA K) te tNoPart (tPart tk)) es m (.d (.tuple (xs.take k))) m2 := by
  rw [← cut_to]
  exact ev_sl h eo_none (eo_some hk)
theorem ev_from' {te tk : TE} {es : List Sl} {m m1 m2 : M} {xs : List PyData} {k : Nat} (h : EvE K te es m (.d (.tuple xs)) m1) (hk : EvE K tk es m1 (.d (.int (k : Int))) m2) : EvE K (tSl (rSlA K) te (tPart tk) tNoPart) es m (.d (.tuple (xs.drop k))) m2 := by
  rw [← cut_from]
  exact ev_sl h (eo_some hk) eo_none
theorem ex_seq {n : Nat} {t u : TS} {es es1 : List Sl} {m m1 : M} {Q : List Sl → M → Prop} (h : Sv K n t es m (.nx es1 m1)) (h2 : ∃ es2 m2, Sv K n u es1 m1 (.nx es2 m2) ∧ Q es2 m2) : ∃ es2 m2, (Sv K n (tSeq t u) es m (.nx es2 m2) ∨ Sv K n (tSeq t u) es m (.cnt es2 m2)) ∧ Q es2 m2 := by
  obtain ⟨es2, m2, h3, q⟩ := h2
  exact ⟨es2, m2, .inl (sv_seq h h3), q⟩
theorem ex_one {n : Nat} {t : TS} {es : List Sl} {m : M} {Q : List Sl → M → Prop} (h2 : ∃ es2 m2, Sv K n t es m (.nx es2 m2) ∧ Q es2 m2) : ∃ es2 m2, (Sv K n t es m (.nx es2 m2) ∨ Sv K n t es m (.cnt es2 m2)) ∧ Q es2 m2 := by
  obtain ⟨es2, m2, h3, q⟩ := h2
  exact ⟨es2, m2, .inl h3, q⟩
theorem ex_then {n : Nat} {t u : TS} {es es1 : List Sl} {m m1 : M} {Q : List Sl → M → Prop} (h : Sv K n t es m (.nx es1 m1)) (h2 : ∃ es2 m2, Sv K n u es1 m1 (.nx es2 m2) ∧ Q es2 m2) : ∃ es2 m2, Sv K n (tSeq t u) es m (.nx es2 m2) ∧ Q es2 m2 := by
  obtain ⟨es2, m2, h3, q⟩ := h2
  exact ⟨es2, m2, sv_seq h h3, q⟩
theorem ex_for {es : List Sl} {m m1 : M} {n i : Nat} {wi : TI} {tb : TS} {ds : List PyData} {Q : List Sl → M → Prop} (J : Nat → List Sl → M → Prop) (hi : EvI K wi es m ds m1) (h0 : J 0 es m1)
    (st : ∀ (l : Nat) (d : PyData) (es : List Sl) (m : M), ds[l]? = some d → J l es m → ∃ es2 m2, (Sv K n tb (es.set i (.d d)) m (.nx es2 m2) ∨ Sv K n tb (es.set i (.d d)) m (.cnt es2 m2)) ∧ J (l + 1) es2 m2)
    (hQ : ∀ es m, J ds.length es m → Q es m) : ∃ es2 m2, Sv K n (tFor wi (gName i) tb) es m (.nx es2 m2) ∧ Q es2 m2 := by
  obtain ⟨es', m', h, j⟩ := sv_forIe (K := K) (n := n) (i := i) (tb := tb) J hi h0 st
  exact ⟨es', m', h, hQ es' m' j⟩
theorem rangeD_get {lo : Int} {n l : Nat} {d : PyData} (h : (rangeD lo n)[l]? = some d) : l < n ∧ d = .int (lo + (l : Int)) := by
  have hl : l < n := by
    have := (List.getElem?_eq_some_iff.mp h).1
    rw [rangeD_len] at this
    exact this
  refine ⟨hl, ?_⟩
  unfold rangeD at h
  rw [List.getElem?_map, List.getElem?_range hl] at h
  cases h
  rfl
end
end DL

set_option Elab.async false
set_option linter.all false
set_option maxRecDepth 100000
namespace HX
open PySem PySem.Spec PyProof.Rows L2 HotX

section
variable {prog : Program} {w : World} {A : Around} {E : Value → Shared → Prop} {s : Shared}

/-- a list's walk ends while an exception is handled -/
theorem lend {it l x1 : Addr} {i : Nat} {items : Array Value} {Q : Option Value → Shared → Prop} (hot : HotAt A x1 s.heap) (n1 : x1 ≠ it)
    (hit : s.heap.IsListIter it l i) (hl : s.heap.IsList l items) (hx : items[i]? = none)
    (hQ : ∀ g, (∀ b o, b ≠ it → s.heap.get? b = some o → g.get? b = some o) → Q none { s with heap := g }) : wpAny (model prog w) A (pyNext (.ref it)) Q E s := by
  obtain ⟨io, i1, i2, i3⟩ := id hit
  obtain ⟨lo, l1, l2, l3, l4⟩ := hl
  obtain ⟨hh, xo, xv, x2, x3, x4⟩ := hot
  unfold pyNext
  apply wpAny_bind; apply wpAny_attempt
  refine wpAny_callSpecial?_slot (name := Str.ofString "__next__") hit.typeIs slot_listiter_next ?_
  refine wpAny_call_entry slot_listiter_next hit.typeIs entry_listiter_next ?_ (args_listiter_next _)
  show wpAny _ _ (do let lv ← field (.ref it) 0; _) _ _ s
  apply wpAny_bind
  refine wpAny_field i1 i3 (x := Value.ref l) (by rfl) ?_
  have f1 : ((Value.ref l == Value.none) = true) = False := by simp
  simp only [f1, if_false]
  apply wpAny_bind
  refine wpAny_field i1 i3 (x := Value.int i 0) (by rfl) ?_
  apply wpAny_bind
  refine wpAny_seqItems l1 l4 ?_
  simp only [Int.toNat_natCast, hx]
  apply wpAny_bind; apply wpAny_rule; apply wpAny_bind
  refine wpAny_setField i1 i3 (by simp) ?_
  apply wpAny_bind
  simp only [newExc, newTuple]
  apply wpAny_bind
  refine wpAny_newObj_type ?_ (by size_fits)
  apply wpAny_bind
  refine wpAny_of_eq (a := Value.none) (by simp only [firstArgMember]; rfl) ?_
  refine wpAny_newObj_type ?_ (by size_fits)
  have kp : ∀ b o, b ≠ it → s.heap.get? b = some o → (s.heap.update it (Obj.mapFields (·.setIfInBounds 0 Value.none))).get? b = some o := fun b o n e => by
    rw [Heap.get?_update_other _ _ (Ne.symm n)]; exact e
  generalize s.heap.update it (Obj.mapFields fun x => x.setIfInBounds 0 Value.none) = g1 at kp ⊢
  have e1 := kp _ _ n1 x2
  generalize hg2 : g1.push { cls := .type "tuple", data := .seq #[] } = g2
  have up2 : ∀ b o, g1.get? b = some o → g2.get? b = some o := fun b o e => by rw [← hg2]; exact Heap.get?_push_of_some _ e
  dsimp only
  refine raiseNew_hot (x1 := x1) ⟨hh, xo, xv, Heap.get?_push_of_some _ (up2 _ _ e1), x3, x4⟩ (Nat.ne_of_lt (Heap.lt_size (up2 _ _ e1))) (Heap.get?_push_size _ rfl) rfl (by simp; omega) ?_
  apply wpAny_bind
  refine wpAny_isInstance (T := "StopIteration") (b := true) ⟨_, Heap.get?_update_self _ (Heap.get?_push_size _ rfl) rfl, rfl⟩ isSubtype_stop (wpAny_pure (hQ _ ?_))
  intro b o hb e
  have hlt := Heap.lt_size (up2 _ _ (kp _ _ hb e))
  exact (Heap.get?_update_other _ _ (Nat.ne_of_gt hlt)).trans (Heap.get?_push_of_some _ (up2 _ _ (kp _ _ hb e)))
/-- its walk -/
theorem lwalk {x1 I ax : Addr} {xo : Obj} {vs : Array Value} (hh : A.handled = some (.ref x1)) (d : xo.data = .fields vs) (c : vs[2]? = some .none) (h1 : ax ≠ I) (h2 : x1 ≠ I) (items : Array Value) :
    Walks prog w A I [I, ax, x1] [I] items.size (fun i v => items[i]? = some v) (fun i h => (h.IsListIter I ax i ∧ h.IsList ax items) ∧ h.get? x1 = some xo) where
  sub b hb := by simp only [List.mem_singleton] at hb; subst hb; exact List.mem_cons_self
  frame i h h' st hk := ⟨⟨st.1.1.at (hk I (by simp)), st.1.2.at (hk ax (by simp))⟩, hk x1 (by simp) _ st.2⟩
  item i t Q E hi st hQ := by
    refine wpAny_pyNext_list_item st.1.1 st.1.2 (x := items[i]) (by simp [hi]) ?_
    intro g g1 g2
    refine hQ items[i] g t.toks (by simp [hi]) ⟨⟨g1, st.1.2.extBut g2.extBut h1⟩, g2.extBut _ _ h2 st.2⟩ ?_
    intro b o hb e
    exact g2.extBut b o (fun z => hb (z ▸ List.mem_singleton_self _)) e
  done t Q E st hQ := lend ⟨hh, _, _, st.2, d, c⟩ h2 st.1.1 st.1.2 (by simp) fun g hg => hQ g t.toks fun b o hb e => hg b o (fun z => hb (z ▸ List.mem_singleton_self _)) e
  self _ _ _ _ st hQ := wpAny_pyIter_listiter st.1.1 hQ
/-- sum of a list of ints there -/
theorem hsum {x1 ax : Addr} {xo : Obj} {vs items : Array Value} {val : Nat → Int} {Q : Value → Shared → Prop} (hh : A.handled = some (.ref x1)) (d : xo.data = .fields vs) (c : vs[2]? = some .none) (hx : s.heap.get? x1 = some xo)
    (hl : s.heap.IsList ax items) (hv : ∀ (i : Nat) (v : Value), items[i]? = some v → ∃ t, v = Value.int (val i) t)
    (hQ : ∀ g tk t', (∀ b o, s.heap.get? b = some o → g.get? b = some o) → Q (.int (preSum val items.size) t') { s with heap := g, toks := tk }) : wpAny (model prog w) A (call (.builtin "sum") [.ref ax]) Q E s := by
  apply call_sum_walkG
  refine wpAny_pyIter_list hl ?_
  have n1 := Heap.lt_size hx
  have n2 : ax < s.heap.objs.size := by obtain ⟨o, h, _⟩ := hl; exact Heap.lt_size h
  have up : ∀ {b o}, s.heap.get? b = some o → (s.heap.push { cls := .type "list_iterator", data := .fields #[.ref ax, Value.int 0 0] }).get? b = some o := fun e => Heap.get?_push_of_some _ e
  refine ⟨s.heap.objs.size, _, _, _, _, _, val, rfl, lwalk (prog := prog) (w := w) (A := A.in1) (x1 := x1) hh d c (Nat.ne_of_lt n2) (Nat.ne_of_lt n1) items, ⟨⟨⟨_, Heap.get?_push_size _ rfl, rfl, rfl⟩, hl.at fun o e => up e⟩, up hx⟩, ?_, hv, ?_⟩
  · intro b hb
    rw [Heap.size_push]
    simp only [List.mem_cons, List.not_mem_nil, or_false] at hb
    rcases hb with rfl | rfl | rfl
    · exact Nat.lt_succ_self _
    · exact Nat.lt_succ_of_lt n2
    · exact Nat.lt_succ_of_lt n1
  · intro g tk t' hk
    refine hQ g tk t' fun b o e => hk b o ?_ (up e)
    simp only [List.mem_singleton]
    exact Nat.ne_of_lt (Heap.lt_size e)
/-- a name that is a built-in's -/
theorem bname {env : Env} {mg mb : Str → Option Value} {x : Str} {u : Value} {pos : Pos} {Q : Value → Shared → Prop} (hk : env.scope.kind = .function) (hx : env.kindOf x = some .globalImplicit) (hg : s.heap.Ns env.globals mg) (hm : mg x = none)
    (hb : s.heap.Ns env.builtins mb) (hv : mb x = some u) (h : Q u s) (hd : (x == ("__debug__" : Str)) = false := by decide) : wpAny (model prog w) A (eval (.Name x pos) env) Q E s :=
  Calls.Name_function_global hk hx (Calls.loadGlobal_builtin hg hm hb hv h) hd
end
end HX

set_option Elab.async false
set_option linter.all false
set_option maxRecDepth 100000
namespace HX
open PySem PySem.Spec PyProof.Rows L2 HotX
def b2i (b : Bool) : Int := if b then 1 else 0
section
variable {prog : Program} {w : World} {A : Around} {E : Value → Shared → Prop} {s : Shared}
/-- [int(f) for f in a list of bools], while an exception is handled -/
theorem hints {x1 ax : Addr} {xo : Obj} {vs : Array Value} {bs : List Bool} {env : Env} {mg mb : Str → Option Value} {scope : Scope} {cl : List (Str × Addr)} {f : Str} {iter : Expr} {pf q1 q2 cpos pos : Pos} {Q : Value → Shared → Prop}
    (hh : A.handled = some (.ref x1)) (d : xo.data = .fields vs) (c : vs[2]? = some .none) (hx : s.heap.get? x1 = some xo) (hl : s.heap.IsList ax (bs.map Value.bool).toArray) (hz : bs.length ≤ sizeLine)
    (hclos : closureFor scope env = pure cl) (hcell : ∀ y ∈ scope.names, y.2 ≠ .cell) (hkind : scope.kind = .function) (hnames : ∀ y ∈ scope.names, y.2 = .local → scope.names.lookup y.1 = some .local)
    (hf : scope.names.lookup f = some .local) (hi : scope.names.lookup ("int" : Str) = some .globalImplicit) (hfd : (f == ("__debug__" : Str)) = false)
    (hg : s.heap.Ns env.globals mg) (hm : mg "int" = none) (hb : s.heap.Ns env.builtins mb) (hv : mb "int" = some (.type "int"))
    (hs : ∀ x, foldedSetIterable iter env x = pure x) (hit : ∀ {R : Value → Shared → Prop}, R (.ref ax) s → wpAny (model prog w) A (eval iter env) R E s)
    (hQ : ∀ D g tk ys, (∀ b o, s.heap.get? b = some o → g.get? b = some o) → g.IsList D ys → ys.size = bs.length → (∀ i v, ys[i]? = some v → ∃ t, v = Value.int (b2i (bs.getD i false)) t) → Q (.ref D) { s with heap := g, toks := tk }) :
    wpAny (model prog w) A (eval (.ListComp (.Call (.Name "int" q1) [.Name f q2] [] cpos) [⟨.Name f pf, iter, [], 0⟩] scope pos) env) Q E s := by
  refine ListComp_goes hclos hcell hkind hnames (hit (wpAny_pyIter_list hl ?_)) hs
  have n1 := Heap.lt_size hx
  have n2 : ax < s.heap.objs.size := by obtain ⟨o, h, _⟩ := hl; exact Heap.lt_size h
  generalize hS : ({ s with heap := s.heap.push { cls := .type "list_iterator", data := .fields #[.ref ax, Value.int 0 0] } } : Shared) = s2
  have up : ∀ b o, s.heap.get? b = some o → s2.heap.get? b = some o := fun b o e => by rw [← hS]; exact Heap.get?_push_of_some _ e
  have hI : s2.heap.IsListIter s.heap.objs.size ax 0 := by rw [← hS]; exact ⟨_, Heap.get?_push_size _ rfl, rfl, rfl⟩
  have sz : s2.heap.objs.size = s.heap.objs.size + 1 := by rw [← hS]; exact Heap.size_push ..
  have W := lwalk (prog := prog) (w := w) hh d c (Nat.ne_of_lt n2) (Nat.ne_of_lt n1) (bs.map Value.bool).toArray
  refine ⟨s.heap.objs.size, _, _, _, _, _, rfl, Goes.ofWalks (target := .Name f pf) W (fun i v t R F st q => ?_), by simpa using hz, ⟨⟨hI, hl.at (up ax)⟩, up _ _ hx⟩, ?_, ?_⟩
  · obtain ⟨o, e1, e2, e3⟩ := st.1.1
    exact letGo_of_cls e1 e2 e3 (by decide) q
  · intro b hb
    simp only [List.mem_cons, List.not_mem_nil, or_false] at hb
    rw [sz]
    rcases hb with rfl | rfl | rfl
    · exact Nat.lt_succ_self _
    · exact Nat.lt_succ_of_lt n2
    · exact Nat.lt_succ_of_lt n1
  · intro D C s3 B
    obtain ⟨g3, tk3, e3⟩ := B.only
    have sC : s.heap.objs.size < C := by have h := B.newC; rw [sz] at h; exact h
    have ltC : ∀ b o, s.heap.get? b = some o → b ≠ C := fun b o e => Nat.ne_of_lt (Nat.lt_trans (Heap.lt_size e) sC)
    have old3 : ∀ b o, s.heap.get? b = some o → s3.heap.get? b = some o := fun b o e => B.old b o (up b o e)
    refine ⟨fun i ys t => (∃ g tk, t = { s with heap := g, toks := tk }) ∧ (∀ b o, s.heap.get? b = some o → t.heap.get? b = some o) ∧ (∃ m, t.heap.Ns C m) ∧ ys.length = i ∧ ∀ j v, ys[j]? = some v → ∃ t, v = Value.int (b2i (bs.getD j false)) t, ?_, ?_, ?_, ?_⟩
    · exact ⟨⟨g3, tk3, by rw [e3, ← hS]⟩, old3, ⟨_, B.names⟩, rfl, fun j v e => by cases e⟩
    · intro i ys t g tk G keep htk
      obtain ⟨⟨g1, tk1, e1⟩, o1, ⟨m, hm⟩, l1, v1⟩ := G
      have nD : ∀ b, b < s2.heap.objs.size → b ≠ s.heap.objs.size → b ∉ D :: [s.heap.objs.size] := fun b h1 h2 z => by
        simp only [List.mem_cons, List.not_mem_nil, or_false] at z
        rcases z with z | z
        · exact Nat.lt_irrefl _ (Nat.lt_of_lt_of_le h1 (z ▸ B.newD))
        · exact h2 z
      refine ⟨⟨g, tk, by rw [e1]⟩, fun b o e => keep b o (nD b (by rw [sz]; exact Nat.lt_succ_of_lt (Heap.lt_size e)) (Nat.ne_of_lt (Heap.lt_size e))) (o1 b o e), ⟨m, hm.at' fun o e => keep C o ?_ e⟩, l1, v1⟩
      simp only [List.mem_cons, List.not_mem_nil, or_false]
      rintro (z | z)
      · exact B.ne z.symm
      · exact Nat.lt_irrefl (s.heap.objs.size) (by have h := B.newC; rw [sz, z] at h; exact h)
    · intro i v ys t hlt hY hSt G hD
      obtain ⟨⟨g1, tk1, e1⟩, o1, ⟨m, hm'⟩, l1, v1⟩ := G
      have hv' : bs[i]? = some (bs.getD i false) ∧ v = Value.bool (bs.getD i false) := by
        have e : ((bs.map Value.bool).toArray)[i]? = some v := hY
        simp only [List.getElem?_toArray, List.getElem?_map] at e
        cases q : bs[i]? with
        | none => rw [q] at e; cases e
        | some b =>
          rw [q] at e
          simp only [Option.map_some, Option.some.injEq] at e
          simp only [List.getD_eq_getElem?_getD, q, Option.getD_some]
          exact ⟨trivial, e.symm⟩
      have kx : ∀ {x k}, k ≠ NameKind.free → scope.names.lookup x = some k → (compEnvC scope cl C env).kindOf x = some k := fun {x k} h1 h2 => lookup_relS_keep h1 h2
      refine wpAny_assign_Name (wpAny_storeName_local (kx (by decide) hf) hm' (fun g2 hn2 sb2 => ?_) (by simp [compEnvC, relabel, hkind]))
      have o2 : ∀ b o, s.heap.get? b = some o → g2.get? b = some o := fun b o e => sb2.extBut b o (ltC b o e) (o1 b o e)
      refine wpAny_pure ?_
      simp only [if_true]
      refine Call_ (bname hkind (kx (by decide) hi) (hg.at' (o2 _)) hm (hb.at' (o2 _)) hv (callWith_type1 (Calls.spliced_cons (wpAny_Name (wpAny_loadName_local hkind (kx (by decide) hf) hn2 (by rw [if_pos rfl]) (Calls.spliced_nil ?_)) hfd))))
      rw [hv'.2]
      refine call_int_bool ?_
      have nI : s.heap.objs.size ≠ C := Nat.ne_of_lt sC
      refine ⟨⟨⟨g2, _, by rw [e1]⟩, o2, ⟨_, hn2⟩, by rw [List.length_append, l1]; rfl, fun j v' e => ?_⟩, ⟨⟨hSt.1.1.at (sb2.extBut _ · nI), hSt.1.2.at fun o e => sb2.extBut _ _ ?_ e⟩, ?_⟩, hD.at (sb2.extBut _ · B.ne)⟩
      · rcases Nat.lt_or_ge j i with h | h
        · rw [List.getElem?_append_left (by rw [l1]; exact h)] at e
          exact v1 j v' e
        · rw [List.getElem?_append_right (by rw [l1]; exact h)] at e
          have hj : j - ys.length = 0 := by
            cases q : j - ys.length with
            | zero => rfl
            | succ k => rw [q] at e; cases e
          have ej : j = i := by omega
          rw [hj] at e
          subst ej
          exact ⟨_, (Option.some.inj e).symm⟩
      · exact Nat.ne_of_lt (Nat.lt_trans n2 sC)
      · exact sb2.extBut _ _ (ltC _ _ hx) hSt.2
    · intro ys t G hD
      obtain ⟨⟨g1, tk1, e1⟩, o1, ⟨m, hm⟩, l1, v1⟩ := G
      refine ⟨m, hm, fun g sb => ?_⟩
      have r := hQ D g t.toks ys.toArray (fun b o e => sb.extBut b o (ltC b o e) (o1 b o e)) (hD.isList.at (sb.extBut _ · B.ne)) (by simpa using l1) (fun j v e => v1 j v (by simpa using e))
      rw [e1] at r ⊢
      exact r
end
end HX

set_option Elab.async false
set_option linter.all false
set_option maxRecDepth 100000
namespace HX
open PySem PySem.Spec PyProof.Rows L2 HotX L2H

theorem bls : ∀ {bs : List Bool} {its : List Value}, Vals (bs.map V.bl) its → its = bs.map Value.bool
  | [], _, h => by cases h; rfl
  | b :: bs, _, h => by
    cases h with
    | cons r t =>
      obtain rfl := bls t
      cases r
      rfl

/-- what the comprehension's block must be -/
def blkB (scope : Scope) (f : Str) : Bool :=
  decide (scope.kind = .function) && (scope.names.all fun y => decide (y.2 ≠ .cell) && decide (y.2 ≠ .free) && (decide (y.2 ≠ .local) || decide (scope.names.lookup y.1 = some .local)))
    && decide (scope.names.lookup f = some .local) && decide (scope.names.lookup ("int" : Str) = some .globalImplicit) && !(f == ("__debug__" : Str))

/-- sum([int(f) for f in x]), x a local, a list of bools -/
def tSumB (K : PySem.W.Frag) (i : Nat) : TE := fun σ H Q => ∃ (a : Addr) (bs : List Bool), σ[i]? = some (some (.ref a)) ∧ SqL K H a (bs.map V.bl) ∧ Q (.int (preSum (fun i => b2i (bs.getD i false)) bs.length)) H

theorem pe_sumints {X : Cx} {i : Nat} {x f : Str} {scope : Scope} {p0 p1 p2 p3 p4 p5 pos cpos : Pos} (hc : HotC X) (hN : X.N[i]? = some x) (hx : X.env.scope.names.lookup x = some .local) (hB : blkB scope f = true)
    (gs : Gl X "sum") (ms : X.mg "sum" = none) (mi : X.mg "int" = none) (hd : (x == ("__debug__" : Str)) = false := by decide)
    (hs : ∀ v, foldedSetIterable (.Name x p1) X.env v = pure v := by intro _; rfl) :
    PE X (.Call (.Name "sum" p0) [.ListComp (.Call (.Name "int" p2) [.Name f p3] [] cpos) [⟨.Name f p4, .Name x p1, [], 0⟩] scope p5] [] pos) (tSumB X.K i) := by
  refine ⟨fun pins s σ H Q I h => ?_⟩
  obtain ⟨a, bs, e1, e2, q⟩ := h
  unfold blkB at hB
  simp only [Bool.and_eq_true, Bool.or_eq_true, Bool.not_eq_true', decide_eq_true_eq, List.all_eq_true] at hB
  obtain ⟨⟨⟨⟨hk, hn⟩, hf⟩, hi⟩, hfd⟩ := hB
  obtain ⟨p, ⟨hh, v1, d1, c1⟩, hp⟩ := hc
  have hx1 := (I.pin p (List.mem_append_left _ hp)).1
  obtain ⟨its, rv, hl, hz⟩ := I.list e2
  rw [bls rv] at hl
  obtain ⟨mb, hb1, hb2⟩ := I.mod.blt
  obtain ⟨m, hn1, hn2⟩ := I.loc
  obtain ⟨u, r, lk⟩ := hn2 i x _ hN e1 (.inl hx)
  obtain rfl : u = Value.ref a := r
  have hmx : m x = some (Value.ref a) := by
    rcases lk with ⟨_, z⟩ | ⟨z, _⟩
    · exact z
    · have hx' : X.env.kindOf x = some .local := hx
      rcases z with z | z <;> rw [hx'] at z <;> cases z
  refine Call_ (ld_blt I gs ms rfl (callWith_builtin1 (Calls.spliced_cons ?_)))
  refine hints (bs := bs) hh d1 c1 hx1 hl.isList (by simpa using hz) (closure_ok fun y hy e => absurd e (hn y hy).1.2) (fun y hy => (hn y hy).1.1) hk (fun y hy e => ((hn y hy).2).elim (fun z => absurd e z) id) hf hi hfd
    (mg := X.mg) (mb := mb) (by rw [I.ok.glob]; exact I.mod.glob.keeps I.bk) mi (by rw [I.ok.blt]; exact hb1.keeps I.bk) ((hb2 _ (by decide)).trans rfl) hs (fun {R} hR => wpAny_Name (wpAny_loadName_local I.ok.kind hx hn1 hmx hR) hd) ?_
  intro D g tk ys k1 k2 k3 k4
  refine Calls.spliced_nil ?_
  refine hsum (val := fun i => b2i (bs.getD i false)) hh d1 c1 (k1 _ _ hx1) k2 k4 ?_
  intro g' tk' t' k5
  rw [k3]
  exact ⟨.int _, H, I.kept fun b o e => k5 b o (k1 b o e), ⟨_, rfl⟩, q⟩

/-- isinstance(e, c), e an exception that the context bears -/
theorem isX {X : Cx} {a D : Addr} {oe : Obj} (C : ExcC X.K D) (hp : (a, oe) ∈ X.pn) (hz : Zc (.ref D) none oe) (hf : ∃ vs, oe.data = .fields vs) : CallR X (.builtin "isinstance") (rIsE X.K D a) := by
  intro pins s σ H xs us Q I r ⟨c, cv, b, ex, hcv, e, q⟩
  subst ex
  cases r with
  | cons r1 r2 =>
    cases r2 with
    | cons r3 r4 =>
      cases r4
      cases r1
      rw [hcv _ r3]
      have g := (I.pin (a, oe) (List.mem_append_left _ hp)).1
      have J : PySem.W.InstAt s.heap a oe D none := by
        obtain ⟨vs, hv⟩ := hf
        obtain ⟨o1, o2, o3, o4⟩ := oe
        obtain ⟨h1, h2⟩ := hz
        simp only at h1 h2 hv
        subst h1; subst h2; subst hv
        exact ⟨g, rfl, rfl, trivial⟩
      refine PySem.W.kia_one (PySem.W.handS_kitx_exc C.hg C.hk C.hs C.hd C.ha C.hn C.ht C.hm) I.kIn J e (fun z => nomatch z) fun tk => ?_
      exact ⟨.bl b, H, I.tok tk, rfl, q⟩

/-! ### a def that is called in the suite, with the exception -/
abbrev SpP := Addr × Obj → Sp
structure FnP (P : Program) (w : World) (K : PySem.W.Frag) (mg : Str → Option Value) (base : Heap) (CX : CXT) (k : Nat) (f : Addr) (fd : FuncData) (ps : List Str) (sp : SpP) : Prop where
  len : ∀ p vs H Q E, sp p vs H Q E → vs.length = ps.length
  run : ∀ p : Addr × Obj, ∀ (A : Around) (outer : List Env) (s : Shared) (H : Hp) (args : Args) (us : List Value) (vs : List V) (Q : VK) (E : XK), RoomH k A → Hot1 A p → PinOk outer H s p → Env0 P w K mg base A outer s H → BindsTo s fd args (ps.zip us) → Vals vs us → sp p vs H Q E →
    codeAny (model P w) A (.call (.ref f) args) (CR CX outer P w H s Q E) s

theorem fnP {CX : CXT} {P : Program} {w : World} {K : PySem.W.Frag} {mg : Str → Option Value} {base : Heap} {k : Nat} {f : Addr} {name qual : Str} {params : Arguments} {body : List Stmt} {scope : Scope} {dV kV doc pm cdv ct oc : Value} {an od : Option Addr}
    {osl : Array (Option Value)} {N ps : List Str} {sp : SpP} (lk : K.lookup f = some ⟨oc, od, .func (PySem.W.fnOf name qual params body scope dV kV doc pm an cdv ct), osl⟩) (hcd : PySem.W.codeIn K cdv qual = true) (S : FnScope N ps scope)
    (len : ∀ p vs H Q E, sp p vs H Q E → vs.length = ps.length)
    (hbody : ∀ (A : Around) (outer : List Env) (s : Shared) (H : Hp) (vs : List V) (Q : VK) (E : XK) (p : Addr × Obj), Hot1 A p → H p.1 = none → RoomH k (A.deeper (envOfC qual scope s.heap.objs.size f cdv)) → sp p vs H Q E →
      ∃ t, PSs (cxH CX P w K mg base N qual scope f cdv A outer s H E p) body t ∧ t { nx := fun _ H' => Q .non H', rt := Q } (L2.start N vs) H) :
    FnP P w K mg base CX (k + 1) f (PySem.W.fnOf name qual params body scope dV kV doc pm an cdv ct) ps sp := by
  constructor
  · exact len
  intro p A outer s H args us vs Q E hr hot hpin e0 hb r hsp
  have hl := len _ _ _ _ _ hsp
  have kk : ∀ b o, base.get? b = some o → s.heap.get? b = some o := fun b o e => (e0.bs b o e).1
  have KX := e0.mod.kin.keeps kk
  refine codeAny_call_function hr.depth (KX _ _ lk) rfl S.co S.gen rfl (PySem.W.codeRec_of KX hcd) (hb _ _ _ _ ?_)
  refine wpAny_newFunctionEnv_cells S.kind ?_ ?_
  · rintro ⟨n, v⟩ hy
    have hm := (List.of_mem_zip hy).1
    rcases S.par n hm with q | q
    · exact .inl q
    · exact .inr ⟨q, PySem.W.cellsFrom_some _ _ _ (.inl q)⟩
  rintro env rfl s1 x
  refine ⟨(e0.mod.nolimit.keeps kk).keeps x.toInCall.keep, codeAny_func ?_⟩
  obtain ⟨t, ht, hq⟩ := hbody A outer s H vs Q E p hot hpin.free (hr.deeper _) hsp
  have I := inv_startH (CX := CX) (qual := qual) (f := f) (cd := cdv) (E := E) S hpin e0 hl r x
  refine wpAny_mono (ht.run [] s1 (L2.start N vs) H _ I hq) ?_ fun e s' hs => hs
  intro fl s' hs
  cases fl
  case ret u =>
    obtain ⟨v, σ', H', J, rv, q⟩ := hs
    exact ⟨v, H', J.os, J.bare, J.base, J.hok, rv, q⟩
  case next =>
    obtain ⟨σ', H', J, q⟩ := hs
    exact ⟨V.non, H', J.os, J.bare, J.base, J.hok, rfl, q⟩
  case brk =>
    obtain ⟨_, _, _, q⟩ := hs
    exact q.elim
  case cont =>
    obtain ⟨_, _, _, q⟩ := hs
    exact q.elim
end HX

set_option Elab.async false
set_option linter.all false
set_option maxRecDepth 100000
namespace HX
open PySem PySem.Spec PyProof.Rows L2 HotX L2H LamX

/-- g(e) in a suite: g knows the exception p -/
theorem pe_callP {X : Cx} {k : Nat} {f : Addr} {fd : FuncData} {ps : List Str} {sp : SpP} {x : Str} {q pos : Pos} {e : Expr} {ta : TA} {p : Addr × Obj} (F : FnP X.prog X.w X.K X.mg X.base C8.CX0 k f fd ps sp) (hr : RoomH k X.A) (hot : Hot1 X.A p) (hp : p ∈ X.pn)
    (hg : Gl X x) (hm : X.mg x = some (.ref f)) (hk : PySem.W.keepIn X.K (.ref f) = true) (hb : Binds X.K fd ps []) (ha : PA X [e] ta) (hdb : (x == ("__debug__" : Str)) = false := by decide)
    (he : starEach [e] X.env = [(false, eval e X.env)] := by rfl) :
    PE X (.Call (.Name x q) [e] [] pos) (fun σ H Q => ta σ H fun vs H1 => sp p vs H1 Q C8.E0) := by
  constructor
  intro pins s σ H Q I h
  apply wpAny_Call_Name_kw
  refine ld_glob I hg hm ?_ hdb
  refine PySem.W.callWith_K (h₀ := X.base) I.ok.mod.kin hk ?_ he rfl
  refine thn (ha.run pos pins s σ H _ I h) ?_
  rintro us s1 ⟨vs, H1, I1, r, hq⟩
  refine ⟨I1.kIn, ?_⟩
  have hl := F.len _ _ _ _ _ hq
  have bt := hb s1 us I1.kIn (by rw [List.append_nil, ← r.length]; exact hl)
  rw [List.append_nil] at bt
  obtain ⟨p1, p2, p3, p4, p5⟩ := I1.pin p (List.mem_append_left _ hp)
  have pin : PinOk X.stack H1 s1 p := ⟨p1, p2, fun z => by
    rcases List.mem_cons.mp (I1.stkSub _ z) with y | y
    · exact p3 y
    · exact p4 y, p5⟩
  apply wpAny_call
  refine codeAny_mono (F.run p X.A X.stack s1 H1 ⟨us, []⟩ us vs Q C8.E0 hr hot pin I1.env0 bt r hq) ?_
  intro rs t ht
  match rs, ht with
  | .ok (.ret w), ht => exact I1.after ht
  | .ok .next, ht => exact ht.elim
  | .ok .brk, ht => exact ht.elim
  | .ok .cont, ht => exact ht.elim
  | .error _, ht => exact ht.elim

/-! ### a lambda whose exceptions are known to have no context -/
def lamN (X : Cx) (A : Around) (outer : List Env) (s : Shared) (H : Hp) (E : XK) (scope : Scope) (f c' : Addr) : Cx :=
  (lamCx X A outer s H E scope f c').wish fun e t => wpAny (model X.prog X.w) (A.deeper (lamEnv X scope s.heap.objs.size f c')) (leaving (lamEnv X scope s.heap.objs.size f c') e) (fun _ t' => L2N.CX X.prog X.w outer H s E e t') (fun e' t' => L2N.CX X.prog X.w outer H s E e' t') t

/-- what is known of the lambda that was made -/
structure Made (X : Cx) (params : Arguments) (body : Expr) (scope : Scope) (s : Shared) (H : Hp) (f c' : Addr) : Prop where
  obj : ∃ pm ctv, s.heap.get? f = some (PySem.W.kla_obj "<lambda>" (X.env.qual ++ "<lambda>") params body scope (cloFrom X.env.cells scope.names []) pm c' ctv)
  no : H f = none
  nf : f ∉ frs X.stack
  code : H c' = some (CodeO c' (X.env.qual ++ "<lambda>"))

/-- the lambda runs: called from a context Z over X's stack -/
theorem runLam {X Z : Cx} {pins pinsZ : List (Addr × Obj)} {σ σZ : L2.St} {H HZ : Hp} {s t : Shared} {params : Arguments} {body : Expr} {scope : Scope} {f c' : Addr} {k : Nat} {tb : TE} {E : XK} {Q : VK} {envZ : Env}
    (I : Inv X pins σ H s) (L : LamS X.env.scope scope) (hM : Made X params body scope s H f c') (hbind : ∀ (q : Str) (cl : List (Str × Addr)) (pm cv ctv : Value), bindArgs (PySem.W.kla_fn "<lambda>" q params body scope cl pm cv ctv) ⟨[], []⟩ = pure [])
    (IZ : Inv Z pinsZ σZ HZ t) (z1 : Z.prog = X.prog) (z2 : Z.w = X.w) (z3 : Z.K = X.K) (z4 : Z.mg = X.mg) (z5 : Z.base = X.base) (z6 : Z.stack = envZ :: X.stack) (z7 : Z.s_0 = s) (z8 : Z.H_0 = H) (z9 : Z.outer = X.stack) (z10 : Z.ex = [])
    (hr : Room (k + 1) Z.A) (hc : HZ c' = some (CodeO c' (X.env.qual ++ "<lambda>")))
    (hbody : ∀ (A : Around) (outer : List Env) (s : Shared) (H : Hp), Room k (A.deeper (lamEnv X scope s.heap.objs.size f c')) → PE (lamN X A outer s H E scope f c') body tb) (ht : tb σ HZ Q) :
    codeAny (model X.prog X.w) Z.A (.call (.ref f) ⟨[], []⟩) (CR (L2N.CX X.prog X.w) Z.stack X.prog X.w HZ t Q E) t := by
  obtain ⟨pm, ctv, hf⟩ := hM.obj
  have un : Un (frs X.stack) [] H HZ s.heap t.heap := by
    have b := IZ.base
    rw [z7, z8, z10] at b
    unfold Cx.fs at b
    rw [z9] at b
    exact b
  have f2 := un.keep f _ hf hM.no hM.nf (by simp)
  obtain ⟨⟨oc, vs, tt, hoc, hdc, hvc⟩, _, _⟩ := IZ.hok _ _ hc
  refine PySem.W.kla_callFunE hr.depth f2 rfl L.co L.gen rfl ⟨_, oc, vs, tt, rfl, hoc, hdc, hvc⟩ ?_
  rw [hbind]
  refine wpAny_pure (wpAny_newFunctionEnv (fun y hy => (L.own y hy).2) (by simp) ?_ L.kind)
  intro g hns sb
  refine ⟨IZ.nolimit.fresh _ sb, ?_⟩
  have kp : ∀ b o, t.heap.get? b = some o → g.get? b = some o := fun b o e => sb.extBut _ _ (Nat.ne_of_lt (Heap.lt_size e)) (Heap.get?_push_of_some _ e)
  have e0 := IZ.env0
  rw [z1, z2, z3, z4, z5] at e0
  have J := (lam_start2 (E := E) (c' := c') (f := f) (tk := t.toks + ([] : List (Str × Value)).length) I L e0 hr.hd un hns kp).wish (fun e t' => wpAny (model X.prog X.w) (Z.A.deeper (lamEnv X scope t.heap.objs.size f c')) (leaving (lamEnv X scope t.heap.objs.size f c') e)
    (fun _ t'' => L2N.CX X.prog X.w Z.stack HZ t E e t'') (fun e' t'' => L2N.CX X.prog X.w Z.stack HZ t E e' t'') t')
  apply PySem.W.kla_codeExpr
  refine wpAny_mono ((hbody Z.A Z.stack t HZ (hr.deeper _)).run [] _ _ HZ Q J ht) ?_ fun e s' hq => hq
  rintro v s' ⟨w', H', J', rv, q⟩
  exact ⟨w', H', J'.os, J'.bare, J'.base, J'.hok, rv, q⟩
end HX

set_option Elab.async false
set_option linter.all false
set_option maxRecDepth 100000
namespace HX
open PySem PySem.Spec PyProof.Rows L2 HotX L2H LamX

theorem tabs_more {T : List (Addr × Str)} {H : Hp} {P c : Addr} {q : Str} {ps : Array Value} {pos : Pos} (hT : Tabs T H) (hP : H P = some (.tbl ps)) (hc : H c = none) (hu : ∀ p ∈ T, p.1 = P → p.2 = q) :
    Tabs T (upd (upd H P (.tbl (ps ++ #[rawInt pos.line, rawInt pos.col, .ref c]))) c (CodeO c q)) := by
  have nPc := ne_of_none hP hc
  have kp : ∀ b o, b ≠ P → H b = some o → upd (upd H P (.tbl (ps ++ #[rawInt pos.line, rawInt pos.col, .ref c]))) c (CodeO c q) b = some o := fun b o n e => by
    rw [upd_ne (ne_of_none e hc), upd_ne n]; exact e
  intro r hr
  obtain ⟨rs, h1, h2, h3⟩ := hT r hr
  have code : ∀ {pos' : Pos} {cv : Value}, codeAmong pos' rs.toList = some cv → ∃ d, cv = .ref d ∧ upd (upd H P (.tbl (ps ++ #[rawInt pos.line, rawInt pos.col, .ref c]))) c (CodeO c q) d = some (CodeO d r.2) := fun {pos' cv} h => by
    obtain ⟨d, e1, e2⟩ := h3 pos' cv h
    refine ⟨d, e1, kp d _ (fun z => ?_) e2⟩
    rw [z, hP] at e2
    exact codeO_ne _ (Option.some.inj e2).symm
  by_cases hb : r.1 = P
  · rw [hb, hP] at h1
    obtain rfl : ps = rs := by cases h1; rfl
    refine ⟨_, by rw [hb, upd_ne nPc, upd_same], ?_, fun pos' cv h => ?_⟩
    · rw [Array.toList_append]
      exact PySem.TriplesOk_snoc _ _ _ _ h2
    · rw [Array.toList_append] at h
      rcases among_app _ h2 h with z | z
      · exact code z
      · exact ⟨c, z, by rw [upd_same, hu r hr hb]⟩
  · exact ⟨rs, kp _ _ hb h1, h2, fun pos' cv h => code h⟩

/-- a lambda is made: nothing that is told changes but its table -/
theorem mkLam {X : Cx} {pins : List (Addr × Obj)} {σ : L2.St} {H : Hp} {s : Shared} {T : List (Addr × Str)} {c P : Addr} {params : Arguments} {body : Expr} {scope : Scope} {pos : Pos} {E Q : Value → Shared → Prop} (I : Inv X pins σ H s) (TB : TabB X.base X.mg c P) (hcode : X.env.code = .ref c)
    (hm : (P, X.env.qual ++ "<lambda>") ∈ T) (hu : ∀ p ∈ T, p.1 = P → p.2 = X.env.qual ++ "<lambda>") (hT : Tabs T H) (hdef : defaultsOf params X.env = ([], [])) (L : LamS X.env.scope scope)
    (h : ∀ (f c' : Addr) (H1 : Hp) (s' : Shared), Inv X pins σ H1 s' → (∀ b o, b ≠ P → H b = some o → H1 b = some o) → Tabs T H1 → Made X params body scope s' H1 f c' → Q (.ref f) s') :
    wpAny (model X.prog X.w) X.A (eval (.Lambda params body scope pos) X.env) Q E s := by
  obtain ⟨ps, hP, ht, ha⟩ := hT _ hm
  have oP : s.heap.get? P = some { cls := .none, data := .fields ps } := I.hok P _ hP
  have bP : s.heap.BuiltinsAt X.mg P := TB.bm.keeps I.bk
  have away : ∀ {f}, s.heap.objs.size ≤ f → f ∉ frs X.stack := fun {f} hf z => by
    rcases List.mem_cons.mp (I.stkSub _ z) with e | e
    · exact absurd I.lt (by rw [← e]; exact Nat.not_lt.mpr hf)
    · exact I.nofs hf e
  apply PySem.W.kla_eval hdef
  have clo := closure_ok (L.has I.ok)
  cases hc : codeAmong pos ps.toList with
  | some cv =>
    obtain ⟨c', rfl, hco⟩ := ha pos cv hc
    apply PySem.W.kla_makeFunctionHit (mg := X.mg) (c := c) (P := P) (ps := ps) clo I.ok.glob (I.mod.glob.keeps I.bk) hcode (TB.code.keeps I.bk) oP ht hc bP
    intro ctv g tk hx hsz
    exact h g.objs.size c' H _ (I.kept fun b o e => Heap.get?_push_of_some _ (hx b o e)) (fun _ _ _ e => e) hT ⟨⟨_, _, Heap.get?_push_size _ rfl⟩, I.hok.fresh hsz, away hsz, hco⟩
  | none =>
    apply PySem.W.kla_makeFunction (mg := X.mg) (c := c) (P := P) (ps := ps) clo I.ok.glob (I.mod.glob.keeps I.bk) hcode (TB.code.keeps I.bk) oP ht hc TB.gP bP
    rintro c' ctv g tk hx hge hlt ⟨c2, oc, vs, t, e2, hoc, hd, hv⟩ htb
    obtain rfl : c2 = c' := by cases e2; rfl
    have nC : H c2 = none := I.hok.fresh hge
    have hsz := Nat.le_trans hge (Nat.le_of_lt hlt)
    refine h g.objs.size c2 _ _ (inv_table (q := X.env.qual ++ "<lambda>") (more := #[rawInt pos.line, rawInt pos.col, .ref c2]) (t' := tk) I hP (fun b o hb e => Heap.get?_push_of_some _ (hx b o hb e)) (Heap.get?_push_of_some _ htb) hge ⟨oc, vs, t, Heap.get?_push_of_some _ hoc, hd, hv⟩) ?_ (tabs_more hT hP nC hu) ⟨⟨_, _, Heap.get?_push_size _ rfl⟩, ?_, away hsz, upd_same⟩
    · intro b o hb e
      rw [upd_ne (ne_of_none e nC), upd_ne hb]; exact e
    · have hl := Heap.lt_size oP
      rw [upd_ne (Nat.ne_of_gt hlt), upd_ne (Nat.ne_of_gt (Nat.lt_of_lt_of_le hl hsz))]
      exact I.hok.fresh hsz
end HX

set_option Elab.async false
set_option linter.all false
set_option maxRecDepth 100000
namespace HX
open PySem PySem.Spec PyProof.Rows L2 HotX L2H LamX

/-- a(), in the def that got the lambda -/
theorem pe_actN {X : Cx} {pins : List (Addr × Obj)} {σ : L2.St} {H : Hp} {s : Shared} {CXg : CXT} {Eg : XK} {Ng : List Str} {qg : Str} {sg : Scope} {g f c' : Addr} {cdg : Value} {params : Arguments} {body : Expr} {scope : Scope} {k i : Nat} {a : Str} {pn : List (Addr × Obj)} {xe : Value → Shared → Prop}
    {W : WX} {E : XK} {tb : TE} {p1 p2 : Pos} (I : Inv X pins σ H s) (L : LamS X.env.scope scope) (hM : Made X params body scope s H f c')
    (hbind : ∀ (q : Str) (cl : List (Str × Addr)) (pm cv ctv : Value), bindArgs (PySem.W.kla_fn "<lambda>" q params body scope cl pm cv ctv) ⟨[], []⟩ = pure [])
    (tk : L2N.Takes ((cxOf CXg X.prog X.w X.K X.mg X.base Ng qg sg g cdg X.A X.stack s H Eg).tr pn xe) W) (hW : ∀ cls d τ H', E cls d H' → W cls d τ H') (hr : Room (k + 1) (X.A.deeper (envOfC qg sg s.heap.objs.size g cdg)))
    (hbody : ∀ (A : Around) (outer : List Env) (s : Shared) (H : Hp), Room k (A.deeper (lamEnv X scope s.heap.objs.size f c')) → PE (lamN X A outer s H E scope f c') body tb)
    (hN : Ng[i]? = some a) (hv : Vis sg a) (hd : (a == ("__debug__" : Str)) = false) (hcd : (a == ("__classdict__" : Str)) = false) :
    PE ((cxOf CXg X.prog X.w X.K X.mg X.base Ng qg sg g cdg X.A X.stack s H Eg).tr pn xe) (.Call (.Name a p1) [] [] p2)
      (fun τ HZ Q => τ[i]? = some (some (.ref f)) ∧ HZ c' = some (CodeO c' (X.env.qual ++ "<lambda>")) ∧ tb σ HZ Q) := by
  constructor
  rintro pinsZ t τ HZ Q IZ ⟨h1, h2, h3⟩
  apply wpAny_Call_Name_kw
  refine thn ((pe_var (pos := p1) (i := i) hN hv hd hcd).run pinsZ t τ HZ (fun v H1 => v = .ref f ∧ H1 = HZ) IZ ⟨.ref f, h1, rfl, rfl⟩) ?_
  rintro u t1 ⟨v, H1, I1, r1, rfl, rfl⟩
  have eu : u = Value.ref f := r1
  rw [eu]
  obtain ⟨pm, ctv, hf⟩ := hM.obj
  have f1 := I1.base.keep f _ hf hM.no hM.nf (show f ∉ ([] : List Addr) by simp)
  refine PySem.W.callWith_F0 ⟨_, _, _, _, f1⟩ ?_
  apply wpAny_call
  refine codeAny_mono (runLam (X := X) (Z := (cxOf CXg X.prog X.w X.K X.mg X.base Ng qg sg g cdg X.A X.stack s H Eg).tr pn xe) (E := E) (Q := Q) (tb := tb) (envZ := envOfC qg sg s.heap.objs.size g cdg) I L hM hbind I1 rfl rfl rfl rfl rfl rfl rfl rfl rfl rfl hr h2 hbody h3) ?_
  intro rs t2 ht
  match rs, ht with
  | .ok (.ret w), ht => exact I1.after ht
  | .ok .next, ht => exact ht.elim
  | .ok .brk, ht => exact ht.elim
  | .ok .cont, ht => exact ht.elim
  | .error e, ht => exact L2N.passes_call tk (fun cls d τ' H' h => hW cls d τ' H' h) pinsZ τ _ t1 e t2 I1 ht

/-- what told does with an exception: named by tm -/
def wTold (K : PySem.W.Frag) (CS : Addr) (spT : SpP) (Q : VK) : XK := fun cls d H' =>
  PySem.W.exmOne K cls (.ref CS) = some true ∧ ∀ (a : Addr) (oe : Obj), H' a = none → L2N.Zn cls d oe → (∃ vs, oe.data = .fields vs) → spT (a, oe) [.ref a] H' Q C8.E0
/-- x(lambda: body), x the def: try: return a() / except ex as en: return tm(en) -/
def tTold (K : PySem.W.Frag) (T : List (Addr × Str)) (P CS : Addr) (spT : SpP) (t : XK → TE) : TE := fun σ H Q => Tabs T H ∧ ∀ H1, (∀ b o, b ≠ P → H b = some o → H1 b = some o) → Tabs T H1 → t (wTold K CS spT Q) σ H1 Q

theorem pe_told {X : Cx} {T : List (Addr × Str)} {CS : Addr} {spT : SpP} {t : XK → TE} {x a ex en tm : Str} {g c P fT : Addr} {k kT : Nat} {pg : Arguments} {sg : Scope} {dV kV doc pm cdv ct oc : Value} {an od : Option Addr} {osl : Array (Option Value)} {Ng : List Str} {fdT : FuncData} {psT : List Str}
    {params : Arguments} {body : Expr} {scope : Scope} {p lpos pos p1 p2 p3 p4 p5 p6 p7 p8 p9 p10 : Pos} (hg : Gl X x) (hm : X.mg x = some (.ref g)) (hk : PySem.W.keepIn X.K (.ref g) = true)
    (lk : X.K.lookup g = some ⟨oc, od, .func (PySem.W.fnOf x x pg [.Try [.Return (some (.Call (.Name a p1) [] [] p2)) p3] [.ExceptHandler (some (.Name ex p4)) (some en) [.Return (some (.Call (.Name tm p5) [.Name en p6] [] p7)) p8] p9] [] [] p10] sg dV kV doc pm an cdv ct), osl⟩)
    (hcg : PySem.W.codeIn X.K cdv x = true) (hb : L2.Binds X.K (PySem.W.fnOf x x pg [.Try [.Return (some (.Call (.Name a p1) [] [] p2)) p3] [.ExceptHandler (some (.Name ex p4)) (some en) [.Return (some (.Call (.Name tm p5) [.Name en p6] [] p7)) p8] p9] [] [] p10] sg dV kV doc pm an cdv ct) [a] [])
    (Sg : FnScope Ng [a] sg) (hN0 : Ng[0]? = some a) (hN1 : Ng[1]? = some en) (hva : Vis sg a) (hve : sg.names.lookup en = some .local) (hgx : sg.names.lookup ex = some .globalImplicit) (hgt : sg.names.lookup tm = some .globalImplicit)
    (mx : X.mg ex = some (.ref CS)) (mt : X.mg tm = some (.ref fT)) (kt : PySem.W.keepIn X.K (.ref fT) = true) (hbT : L2.Binds X.K fdT psT []) (FT : FnP X.prog X.w X.K X.mg X.base C8.CX0 kT fT fdT psT spT) (hkT : kT ≤ k + 1)
    (TB : TabB X.base X.mg c P) (hcode : X.env.code = .ref c) (hmT : (P, X.env.qual ++ "<lambda>") ∈ T) (hu : ∀ p ∈ T, p.1 = P → p.2 = X.env.qual ++ "<lambda>") (hr : Room (k + 2) X.A) (L : LamS X.env.scope scope) (hdef : defaultsOf params X.env = ([], []))
    (hbind : ∀ (q : Str) (cl : List (Str × Addr)) (pm cv ctv : Value), bindArgs (PySem.W.kla_fn "<lambda>" q params body scope cl pm cv ctv) ⟨[], []⟩ = pure [])
    (hbody : ∀ (A : Around) (outer : List Env) (s : Shared) (H : Hp) (E : XK) (f c' : Addr), Room k (A.deeper (lamEnv X scope s.heap.objs.size f c')) → PE (lamN X A outer s H E scope f c') body (t E))
    (d1 : (x == ("__debug__" : Str)) = false) (d2 : (a == ("__debug__" : Str)) = false) (d3 : (a == ("__classdict__" : Str)) = false) (d4 : (ex == ("__debug__" : Str)) = false) (d5 : (tm == ("__debug__" : Str)) = false) (d6 : (en == ("__debug__" : Str)) = false) (d7 : (en == ("__classdict__" : Str)) = false) :
    PE X (.Call (.Name x p) [.Lambda params body scope lpos] [] pos) (tTold X.K T P CS spT t) := by
  constructor
  rintro pins s σ H Q I ⟨hT, h⟩
  apply wpAny_Call_Name_kw
  refine ld_glob I hg hm ?_ d1
  refine PySem.W.callWith_K (h₀ := X.base) I.ok.mod.kin hk ?_ rfl rfl
  show wpAny _ _ (spliced ((false, eval (.Lambda params body scope lpos) X.env) :: backTo pos (starEach [] X.env))) _ _ s
  apply Calls.spliced_cons
  refine mkLam I TB hcode hmT hu hT hdef L ?_
  intro f c' H1 s' I1 eN T1 hM
  refine Calls.spliced_nil ⟨I1.kIn, ?_⟩
  apply wpAny_call
  refine codeAny_mono (R := CR C8.CX0 X.stack X.prog X.w H1 s' Q C8.E0) ?_ ?_
  · refine run_ofS (N := Ng) (ps := [a]) (us := [.ref f]) (vs := [.ref f]) lk hcg Sg hr I1.env0 (hb s' [.ref f] I1.kIn rfl) (.cons rfl .nil) rfl fun hr' => ?_
    generalize hZ : (cxOf C8.CX0 X.prog X.w X.K X.mg X.base Ng x sg g cdv X.A X.stack s' H1 C8.E0) = Z
    have ts := L2N.ps_try_as (X := Z) (x := ex) (n := en) (c := .ref CS) (i := 1) (Wout := fun _ _ _ _ => False) (np := p4) (pos := p10) (pos' := p9)
      (body := [.Return (some (.Call (.Name a p1) [] [] p2)) p3]) (b₀ := .Return (some (.Call (.Name tm p5) [.Name en p6] [] p7)) p8) (suite := [])
      (tb := fun W D τ HZ => ∃ E : XK, (∀ cls d τ' H', E cls d H' → W cls d τ' H') ∧ τ[0]? = some (some (.ref f)) ∧ HZ c' = some (CodeO c' (X.env.qual ++ "<lambda>")) ∧ t E σ HZ D.rt)
      (ts := fun e cls d D τ HZ => (τ.length = Ng.length → τ[1]? = some (some (.ref e))) ∧ ∀ oe, L2N.Zn cls d oe → (∃ vs, oe.data = .fields vs) → spT (e, oe) [.ref e] HZ D.rt C8.E0)
      (by rw [← hZ]; rfl) (by rw [← hZ]; rfl) (by rw [← hZ]; exact Sg.nd) (by rw [← hZ]; exact hN1) (by rw [← hZ]; exact hve) (by rw [← hZ]; exact ⟨hgx, d4, .inl mx⟩) ?_ ?_ ?_
    · refine ⟨_, pss_one ts, ?_⟩
      refine ⟨wTold X.K CS spT Q, ?_, ?_, hM.code, h H1 eN T1⟩
      · rintro cls d τ' H' ⟨w1, w2⟩
        rw [← hZ]
        refine ⟨true, w1, fun _ e he => ⟨fun hl => ?_, fun oe => w2 e oe he⟩, fun z => nomatch z⟩
        rw [List.length_set] at hl
        exact List.getElem?_set_self (by rw [hl]; exact (List.getElem?_eq_some_iff.mp hN1).1)
      · rfl
    · rintro u t' ⟨_, _, _, _, _, _, _, _, _, _, _, _, _, _, _, _, z⟩
      exact z.elim
    · intro W pn xe tk _
      subst hZ
      constructor
      rintro pins2 t2 τ HZ D IZ ⟨E, hW, h1, h2, h3⟩
      exact (pss_one (ps_ret (pos := p3) (pe_actN (p1 := p1) (p2 := p2) I1 L hM hbind tk hW hr' (fun A o s H r => hbody A o s H E f c' r) hN0 hva d2 d3))).run pins2 t2 τ HZ D IZ ⟨h1, h2, h3⟩
    · intro e oe cls d pn hz hv
      subst hZ
      constructor
      rintro pins2 t2 τ HZ D IZ ⟨h1, h2⟩
      have rh : RoomH kT (X.A.deeper (envOfC x sg s'.heap.objs.size g cdv)) := (roomH_of hr').mono hkT
      obtain ⟨vs, hvs⟩ := hv
      refine (pss_one (ps_ret (pos := p8) (pe_callP (X := (cxOf C8.CX0 X.prog X.w X.K X.mg X.base Ng x sg g cdv X.A X.stack s' H1 C8.E0).suite e ((e, oe) :: pn)) (p := (e, oe)) (q := p5) (pos := p7) FT ⟨rh.dp, rh.un⟩ ⟨rfl, vs, hvs, hz.2.2 vs hvs⟩ List.mem_cons_self hgt mt kt hbT (pa_cons (pe_var (pos := p6) (i := 1) hN1 (.inl hve) d6 d7) pa_nil) d5))).run pins2 t2 τ HZ D IZ ?_
      exact ⟨.ref e, h1 IZ.len, h2 oe hz ⟨vs, hvs⟩⟩
  · intro rs t2 ht
    match rs, ht with
    | .ok (.ret w), ht => exact I1.after ht
    | .ok .next, ht => exact ht.elim
    | .ok .brk, ht => exact ht.elim
    | .ok .cont, ht => exact ht.elim
    | .error e, ht => exact ht.elim
end HX

set_option Elab.async false
set_option linter.all false
set_option maxRecDepth 100000
namespace HX
variable [DL.Tbs]
open PySem PySem.Spec PyProof.Rows L2 HotX L2H LamX DL

/-- a value, or an exception of the class D -/
inductive Res where
  | ok (r : Sl)
  | exc (D : Addr)
/-- what code that may raise comes to -/
def EvX (K : PySem.W.Frag) (t : XK → TE) (es : List Sl) (m : M) : Res → M → Prop
  | .ok r, m' => ∀ E, EvE K (t E) es m r m'
  | .exc D, m' => ∀ σ H H0 ρ, Wd K H0 H ρ m → EnvS K H0 ρ σ es → ∀ (Q : VK) (E : XK), (∀ H' H0', Stp ρ.length ρ H0 H ρ H0' H' → Wd K H0' H' ρ m' → E (.ref D) none H') → t E σ H Q

/-- what naming an exception comes to: class D, named by y -/
def spTerm (K : PySem.W.Frag) (R : Addr → PyData → Prop) : SpP := fun p vs H Q _ => vs = [.ref p.1] ∧ ∃ D y H0 ρ m, R D y ∧ L2N.Zn (.ref D) none p.2 ∧ (∃ vs, p.2.data = .fields vs) ∧ Wd K H0 H ρ m ∧
  ∀ v H' H0', Stp ρ.length ρ H0 H ρ H0' H' → Wd K H0' H' ρ m → Dp K H0' v y → Q v H'

section
variable {K : PySem.W.Frag} {es : List Sl} {m m1 : M} {t : XK → TE}
/-- a lambda's making, in the world -/
theorem lamWd {P : Addr} {q : Str} {H H1 H0 : Hp} {ρ : List Addr} (hm : (P, q) ∈ Tbs.T) (w : Wd K H0 H ρ m) (k : ∀ b o, b ≠ P → H b = some o → H1 b = some o) (t1 : Tabs Tbs.T H1) : Wd K H0 H1 ρ m ∧ Stp ρ.length ρ H0 H ρ H0 H1 := by
  obtain ⟨ps, hP, _⟩ := w.tab _ hm
  obtain ⟨ps1, hP1, _⟩ := t1 _ hm
  have k0 : ∀ b o, H b = some o → (∀ ps, o ≠ .tbl ps) → H1 b = some o := fun b o e n => k b o (fun z => by
    rw [z, hP] at e
    exact n ps (Option.some.inj e).symm) e
  have n0 : H0 P = none := w.nT _ hm
  refine ⟨⟨fun b o e => k b o (fun z => by rw [z, n0] at e; cases e) (w.ex b o e), w.len, w.nd, fun j p ds a b => ?_, t1, w.nT⟩, ⟨Evl.Ex.refl _, fun b o e _ n => k0 b o e n, fun b e => ?_, fun b o h => .inl h, rfl, fun b h => .inl h⟩⟩
  · obtain ⟨h1, vs, h2, h3⟩ := w.cel j p ds a b
    exact ⟨h1, vs, k0 _ _ h2 (fun _ z => nomatch z), h3⟩
  · cases q : H b with
    | none => rfl
    | some o =>
      by_cases hb : b = P
      · rw [hb, hP1] at e; cases e
      · rw [k b o hb q] at e; cases e

theorem ev_told {P CS D : Addr} {q : Str} {R : Addr → PyData → Prop} {y : PyData} (hm : (P, q) ∈ Tbs.T) (h : EvX K t es m (.exc D) m1) (hx : PySem.W.exmOne K (.ref D) (.ref CS) = some true) (hR : R D y) : EvE K (tTold K Tbs.T P CS (spTerm K R) t) es m (.d y) m1 := by
  intro σ H H0 ρ w e Q q
  refine ⟨w.tab, fun H1 k1 t1 => ?_⟩
  obtain ⟨w1, s1⟩ := lamWd hm w k1 t1
  refine h σ H1 H0 ρ w1 e Q _ fun H2 H02 s2 w2 => ⟨hx, fun a oe ha hz hv => ⟨rfl, D, y, H02, ρ, m1, hR, hz, hv, w2, fun v H3 H03 s3 w3 k3 => ?_⟩⟩
  exact q v H3 H03 (s1.trans w1.nd (s2.trans w2.nd s3)) w3 k3
theorem ev_told0 {P CS : Addr} {q : Str} {R : Addr → PyData → Prop} {r : Sl} (hm : (P, q) ∈ Tbs.T) (h : EvX K t es m (.ok r) m1) : EvE K (tTold K Tbs.T P CS (spTerm K R) t) es m r m1 := by
  intro σ H H0 ρ w e Q q
  refine ⟨w.tab, fun H1 k1 t1 => ?_⟩
  obtain ⟨w1, s1⟩ := lamWd hm w k1 t1
  exact h _ σ H1 H0 ρ w1 e Q fun v H2 H02 s2 w2 k2 => q v H2 H02 (s1.trans w1.nd s2) w2 k2

/-! ### in the suite: isinstance, sum, index -/
theorem ev_isE {a D : Addr} {c : V} {cv : Value} {b : Bool} {ta : TA} (h : EvA K ta es m [.v (.ref a), .v c] m1) (hc : ∀ u, RelV c u → u = cv) (hk : PySem.W.kitOne K (.ref D) cv = some b) : EvE K (tCB (rIsE K D a) ta) es m (.d (.bool b)) m1 := by
  intro σ H H0 ρ w e Q q
  refine h σ H H0 ρ w e _ fun vs H' H0' s' w' kv => ?_
  cases kv with
  | cons k1 k2 =>
    cases k2 with
    | cons k3 k4 =>
      cases k4
      have k1 : _ = V.ref a := k1
      have k3 : _ = c := k3
      subst k1; subst k3
      exact ⟨_, cv, b, rfl, hc, hk, q _ H' H0' s' w' (.bl b)⟩
theorem bools : ∀ {H0 : Hp} {vs : List V} {bs : List Bool}, DpAll K H0 vs (bs.map .bool) → vs = bs.map V.bl
  | _, _, [], h => by cases h; rfl
  | _, _, b :: bs, h => by
    cases h with
    | cons a t =>
      cases a
      rw [bools t]
      rfl
theorem ev_sumB {i : Nat} {bs : List Bool} (h : es[i]? = some (.d (.list (bs.map .bool)))) : EvE K (tSumB K i) es m (.d (.int (preSum (fun i => b2i (bs.getD i false)) bs.length))) m := by
  intro σ H H0 ρ w e Q q
  rcases e.2 i _ h with z | ⟨v, h1, h2⟩
  · cases z
  · have h2 : Dp K H0 v (.list (bs.map .bool)) := h2
    cases h2 with
    | lst hs ha =>
      rw [bools ha] at hs
      exact ⟨_, bs, h1, Evl.ex_l w.ex hs, q _ H H0 .refl w (.int _)⟩
end
end HX

set_option Elab.async false
set_option linter.all false
set_option maxRecDepth 100000
namespace HX
variable [DL.Tbs]
open PySem PySem.Spec PyProof.Rows L2 HotX L2H LamX DL
section
variable {K : PySem.W.Frag} {es : List Sl} {m m1 m2 : M} {te : TE} {ta : TA}
/-- [..] as a new list -/
theorem el_lst {rs : List Sl} {ds : List PyData} (h : EvA K ta es m rs m1) (e : rs = ds.map .d) (hl : ds.length ≤ 1000) : EvL K (tLst ta) es m ds m1 := by
  subst e
  intro σ H H0 ρ w ee Q q
  refine h σ H H0 ρ w ee _ fun vs H' H0' s' w' kv => ?_
  have hd := slAll_d kv
  refine ⟨Nat.le_of_lt (small1000 (by rw [dpAll_len hd]; exact hl)), fun p hp => ?_⟩
  have h0 := Evl.fresh_back w'.ex hp
  have hH : H p = none := s'.dom p hp
  exact q p vs _ H0' (s'.off hH) (w'.off h0 (w'.notin hp) (.inl hp)) hH h0 (w'.notin hp) upd_same hd
/-- x + [..], x a cell -/
theorem el_cat {i j : Nat} {xs ds : List PyData} (hi : es[i]? = some (.c j)) (h : EvL K te es m ds m1) (hm : m1[j]? = some xs) (hl : xs.length + ds.length ≤ 1000) : EvL K (tOp (rAddU K) (tVar i) te) es m (xs ++ ds) m1 := by
  intro σ H H0 ρ w e Q q
  rcases e.2 i _ hi with z | ⟨v, h1, p, rfl, h2⟩
  · cases z
  refine ⟨_, h1, h σ H H0 ρ w e _ fun b us H' H0' s' w' f1 f2 f3 f4 f5 => ?_⟩
  obtain ⟨vs, g1, g2⟩ := cell_get w' h2 hm
  refine .inr (.inr ⟨p, b, vs, us, rfl, rfl, g1, f4, Nat.le_of_lt (small1000 (by rw [dpAll_len g2, dpAll_len f5]; exact hl)), fun r hr => ?_⟩)
  have h0 := Evl.fresh_back w'.ex hr
  have hH : H r = none := s'.dom r hr
  exact q r _ _ H0' (s'.off hH) (w'.off h0 (w'.notin hr) (.inl hr)) hH h0 (w'.notin hr) upd_same (dpAll_app g2 f5)
theorem up_get {j : Nat} {x a : List PyData} (h : m[j]? = some x) : (m ++ [a])[j]? = some x := by
  rw [List.getElem?_append_left (List.getElem?_eq_some_iff.mp h).1]; exact h
theorem ev_sumC {i j : Nat} {bs : List Bool} {n : Int} (h : es[i]? = some (.c j)) (hm : m[j]? = some (bs.map .bool)) (hn : preSum (fun i => b2i (bs.getD i false)) bs.length = n) : EvE K (tSumB K i) es m (.d (.int n)) m := by
  intro σ H H0 ρ w e Q q
  rcases e.2 i _ h with z | ⟨v, h1, p, rfl, h2⟩
  · cases z
  obtain ⟨vs, g1, g2⟩ := cell_get w h2 hm
  rw [bools g2] at g1
  exact ⟨p, bs, h1, .inl (.inl g1), q _ H H0 .refl w (hn ▸ .int _)⟩
theorem ev_indexC {i j k : Nat} {bs : List Bool} (h : es[i]? = some (.c j)) (hm : m[j]? = some (bs.map .bool)) (hk : bs[k]? = some true) (hb : ∀ l, l < k → bs[l]? = some false) : EvE K (tBM K "list" (rIndex K) (tVar i) (tCons (tC (.bl true)) tNil)) es m (.d (.int (k : Nat))) m := by
  intro σ H H0 ρ w e Q q
  rcases e.2 i _ h with z | ⟨v, h1, p, rfl, h2⟩
  · cases z
  obtain ⟨vs, g1, g2⟩ := cell_get w h2 hm
  rw [bools g2] at g1
  have hS : SqL K H p (bs.map V.bl) := .inl (.inl g1)
  refine ⟨_, h1, .inl ⟨rfl, _, hS⟩, p, bs.map V.bl, .bl true, k, .bl true, rfl, rfl, hS, rfl, ?_, ?_, rfl, ?_, q _ H H0 .refl w (.int _)⟩
  · exact List.all_eq_true.mpr fun x hx => by
      obtain ⟨b, _, rfl⟩ := List.mem_map.mp hx
      rfl
  · rw [List.getElem?_map, hk]; rfl
  · intro l z' hl hz
    rw [List.getElem?_map, hb l hl] at hz
    cases hz
    rfl
/-- an item of a cell -/
theorem ev_cixE {i j l : Nat} {k : Int} {ds : List PyData} {d : PyData} (hi : es[i]? = some (.c j)) (h : EvE K te es m (.d (.int k)) m) (hm : m[j]? = some ds) (hk : k = (l : Int)) (hd : ds[l]? = some d) : EvE K (tOp (rIx K) (tVar i) te) es m (.d d) m := by
  intro σ H H0 ρ w e Q q
  rcases e.2 i _ hi with z | ⟨v, h1, p, rfl, h2⟩
  · cases z
  refine ⟨_, h1, h σ H H0 ρ w e _ fun u H' H0' s' w' ku => ?_⟩
  have ku : Dp K H0' u (.int k) := ku
  cases ku
  obtain ⟨vs, g1, g2⟩ := cell_get w' h2 hm
  obtain ⟨v, hv, kv⟩ := dpAll_get' g2 hd
  exact .inl ⟨_, _, _, v, rfl, rfl, .inl (.inl g1), at_of hk hv, q v H' H0' s' w' kv⟩
theorem pre_of {α : Type} {a b : List α} (h : a <+: b) : ∃ c, b = a ++ c := by
  obtain ⟨c, e⟩ := h
  exact ⟨c, e.symm⟩
theorem sv_retA {n : Nat} {r : Sl} (h : EvE K te es m r m2) (e : m1 <+: m2) : Sv K n (tRet te) es m (.ret r m1) := by
  obtain ⟨c, e⟩ := e
  exact sv_ret (ml := c) (e.symm ▸ h)
/-- a def's own cells are gone at its end -/
theorem retBack {ρ ρ' : List Addr} {H0 H H0' H' : Hp} {ml : M} (w : Wd K H0 H ρ m) (s : Stp ρ.length ρ H0 H ρ' H0' H') (w2 : Wd K H0' H' ρ' (m ++ ml)) : Stp ρ.length ρ H0 H ρ H0' H' ∧ Wd K H0' H' ρ m := by
  have e : ρ'.take ρ.length = ρ := by rw [s.pre, List.take_length]
  constructor
  · refine ⟨s.ex, s.keep, s.dom, fun b o z => (s.fresh b o z).imp id (Or.imp id fun y => ?_), rfl, fun b z => .inl z⟩
    exact y
  · refine ⟨w2.ex, w.len, w.nd, fun j p ds h1 h2 => ?_, w2.tab, w2.nT⟩
    have hj := (List.getElem?_eq_some_iff.mp h2).1
    apply w2.cel j p ds
    · rw [← e, List.getElem?_take_of_lt (by rw [w.len]; exact hj)] at h1
      exact h1
    · rw [List.getElem?_append_left hj]; exact h2
/-- isinstance's class, by its name -/
theorem ev_cls {C : Addr} : EvE K (tC (.ref C)) es m (.v (.ref C)) m := ev_c fun _ _ => rfl
theorem eb_val' : True := trivial
end

/-! ### the classes of errors -/
abbrev kinds : List Str := ["InvalidNumber", "InvalidPoint", "InvalidShape", "InvalidLayer", "InvalidDrawing", "InvalidRegion", "InvalidPlan", "InvalidIndex", "InvalidBox", "InvalidMove", "InvalidText", "OnEdge", "Blank", "TooMany", "NothingToUndo"]
structure Cs where
  InvalidNumber : Addr
  InvalidPoint : Addr
  InvalidShape : Addr
  InvalidLayer : Addr
  InvalidDrawing : Addr
  InvalidRegion : Addr
  InvalidPlan : Addr
  InvalidIndex : Addr
  InvalidBox : Addr
  InvalidMove : Addr
  InvalidText : Addr
  OnEdge : Addr
  Blank : Addr
  TooMany : Addr
  NothingToUndo : Addr
  PictureError : Addr
def Cs.all (c : Cs) : List Addr := [c.InvalidNumber, c.InvalidPoint, c.InvalidShape, c.InvalidLayer, c.InvalidDrawing, c.InvalidRegion, c.InvalidPlan, c.InvalidIndex, c.InvalidBox, c.InvalidMove, c.InvalidText, c.OnEdge, c.Blank, c.TooMany, c.NothingToUndo]
structure CsOk (mg : Str → Option Value) (c : Cs) : Prop where
  InvalidNumber : mg "InvalidNumber" = some (.ref c.InvalidNumber)
  InvalidPoint : mg "InvalidPoint" = some (.ref c.InvalidPoint)
  InvalidShape : mg "InvalidShape" = some (.ref c.InvalidShape)
  InvalidLayer : mg "InvalidLayer" = some (.ref c.InvalidLayer)
  InvalidDrawing : mg "InvalidDrawing" = some (.ref c.InvalidDrawing)
  InvalidRegion : mg "InvalidRegion" = some (.ref c.InvalidRegion)
  InvalidPlan : mg "InvalidPlan" = some (.ref c.InvalidPlan)
  InvalidIndex : mg "InvalidIndex" = some (.ref c.InvalidIndex)
  InvalidBox : mg "InvalidBox" = some (.ref c.InvalidBox)
  InvalidMove : mg "InvalidMove" = some (.ref c.InvalidMove)
  InvalidText : mg "InvalidText" = some (.ref c.InvalidText)
  OnEdge : mg "OnEdge" = some (.ref c.OnEdge)
  Blank : mg "Blank" = some (.ref c.Blank)
  TooMany : mg "TooMany" = some (.ref c.TooMany)
  NothingToUndo : mg "NothingToUndo" = some (.ref c.NothingToUndo)
  PictureError : mg "PictureError" = some (.ref c.PictureError)
/-- D is the class of errors that stands at place k -/
structure ErrD (K : PySem.W.Frag) (c : Cs) (k : Nat) (D : Addr) : Prop where
  exc : ExcC K D
  tests : c.all.map (fun C => PySem.W.kitOne K (.ref D) (.ref C)) = (List.range 15).map fun i => some (i == k)
  value : PySem.W.kitOne K (.ref D) (.type "ValueError") = some true
  caught : PySem.W.exmOne K (.ref D) (.ref c.PictureError) = some true
theorem ErrD.test {K : PySem.W.Frag} {c : Cs} {k D : Nat} (e : ErrD K c k D) (i : Nat) {C : Addr} (h : c.all[i]? = some C) : PySem.W.kitOne K (.ref D) (.ref C) = some (i == k) := by
  have z := congrArg (fun l => l[i]?) e.tests
  simp only [List.getElem?_map, h, Option.map_some] at z
  have hi : i < 15 := (List.getElem?_eq_some_iff.mp h).1
  rw [List.getElem?_range hi] at z
  exact Option.some.inj z
end HX

set_option Elab.async false
set_option linter.all false
set_option maxRecDepth 100000
namespace HX
variable [DL.Tbs]
open PySem PySem.Spec PyProof.Rows L2 HotX L2H LamX DL

/-! ### defs that may raise -/
def SpRes (K : PySem.W.Frag) (ρ : List Addr) (H0 H : Hp) (m' : M) (Q : VK) (E : XK) : Res → Prop
  | .ok r => ∀ v H' H0', Stp ρ.length ρ H0 H ρ H0' H' → Wd K H0' H' ρ m' → SlOk K H0' ρ v r → Q v H'
  | .exc D => ∀ H' H0', Stp ρ.length ρ H0 H ρ H0' H' → Wd K H0' H' ρ m' → E (.ref D) none H'
def spX (K : PySem.W.Frag) (n : Nat) (g : List Sl → M → Res → M → Prop) : Sp := fun vs H Q E => vs.length = n ∧ ∃ H0 ρ m rs res m', Wd K H0 H ρ m ∧ SlAll K H0 ρ vs rs ∧ g rs m res m' ∧ SpRes K ρ H0 H m' Q E res
abbrev DefX (P : Program) (w : World) (K : PySem.W.Frag) (mg : Str → Option Value) (base : Heap) (k : Nat) (x : Str) (ps : List Str) (g : List Sl → M → Res → M → Prop) : Prop := DefC P w K mg base (L2N.CX P w) k x ps (spX K ps.length g)
theorem passN0 {X : Cx} : Passes (L2N.CX X.prog X.w) X C8.E0 := fun _ _ _ _ _ _ _ ⟨_, _, _, _, _, _, _, _, _, _, _, _, z⟩ => z.elim
theorem takesN {P : Program} {w : World} {K : PySem.W.Frag} {mg : Str → Option Value} {base : Heap} {N : List Str} {q : Str} {sc : Scope} {f : Addr} {cd : Value} {A : Around} {outer : List Env} {s : Shared} {H : Hp} {E : XK} :
    L2N.Takes (cxOf (L2N.CX P w) P w K mg base N q sc f cd A outer s H E) (fun cls d _ H => E cls d H) := L2N.takes_of rfl rfl rfl rfl
theorem passN {P : Program} {w : World} {K : PySem.W.Frag} {mg : Str → Option Value} {base : Heap} {N : List Str} {q : Str} {sc : Scope} {f : Addr} {cd : Value} {A : Around} {outer : List Env} {s : Shared} {H : Hp} {E : XK} :
    Passes (L2N.CX P w) (cxOf (L2N.CX P w) P w K mg base N q sc f cd A outer s H E) E := L2N.passes_call takesN fun _ _ _ _ h => h

section
variable {K : PySem.W.Frag} {es : List Sl} {m m1 m2 : M} {t : XK → TE} {tt : TT} {n : Nat}
/-- a call that may raise -/
theorem ex_call {g : List Sl → M → Res → M → Prop} {ta : TA} {rs : List Sl} {D : Addr} (h : EvA K ta es m rs m1) (hg : g rs m1 (.exc D) m2) (hn : rs.length = n) : EvX K (fun E => tCall (spX K n g) [] E ta) es m (.exc D) m2 := by
  intro σ H H0 ρ w e Q E q
  refine h σ H H0 ρ w e _ fun vs H' H0' s' w' kv => ?_
  rw [List.append_nil]
  exact ⟨by rw [kv.length]; exact hn, H0', ρ, m1, rs, .exc D, m2, w', kv, hg, fun H2 H02 s2 w2 => q H2 H02 (s'.trans w'.nd s2) w2⟩
theorem ok_call {g : List Sl → M → Res → M → Prop} {ta : TA} {rs : List Sl} {r : Sl} {E : XK} (h : EvA K ta es m rs m1) (hg : g rs m1 (.ok r) m2) (hn : rs.length = n) : EvE K (tCall (spX K n g) [] E ta) es m r m2 := by
  intro σ H H0 ρ w e Q q
  refine h σ H H0 ρ w e _ fun vs H' H0' s' w' kv => ?_
  rw [List.append_nil]
  exact ⟨by rw [kv.length]; exact hn, H0', ρ, m1, rs, .ok r, m2, w', kv, hg, fun v H2 H02 s2 w2 k2 => q v H2 H02 (s'.trans w'.nd s2) w2 k2⟩
/-- statements that raise -/
def SvX (K : PySem.W.Frag) (n : Nat) (t : XK → TS) (es : List Sl) (m : M) (D : Addr) (m' : M) : Prop := ∀ σ H H0 ρ, n ≤ ρ.length → Wd K H0 H ρ m → EnvS K H0 ρ σ es → ∀ (Dn : Ends) (E : XK), (∀ ρ' H' H0' ml, Stp n ρ H0 H ρ' H0' H' → Wd K H0' H' ρ' (m' ++ ml) → E (.ref D) none H') → t E Dn σ H
theorem sx_raise {D : Addr} {c : Addr} (h : D = c) : SvX K n (fun E => fun _ σ H => (fun (_ : L2.St) (H : Hp) (Q : XK) => Q (.ref c) none H) σ H fun cls d H' => E cls d H') es m D m := by
  subst h
  intro σ H H0 ρ hn w e Dn E q
  exact q ρ H H0 [] .refl (by rw [List.append_nil]; exact w)
theorem sx_ifT {a b : XK → TS} {D : Addr} (h : EvB K tt es m true m1) (h1 : SvX K n a es m1 D m2) : SvX K n (fun E => tIfS tt (a E) (b E)) es m D m2 := by
  intro σ H H0 ρ hn w e Dn E q
  refine h σ H H0 ρ w e _ fun H1 H01 s1 w1 => iteT (h1 σ H1 H01 ρ hn w1 (e.mono s1.ex) Dn E fun ρ' H' H0' ml s' w' => q ρ' H' H0' ml (s1.low.trans w1.nd s') w')
theorem sx_ifF {a b : XK → TS} {D : Addr} (h : EvB K tt es m false m1) (h1 : SvX K n b es m1 D m2) : SvX K n (fun E => tIfS tt (a E) (b E)) es m D m2 := by
  intro σ H H0 ρ hn w e Dn E q
  refine h σ H H0 ρ w e _ fun H1 H01 s1 w1 => iteF (h1 σ H1 H01 ρ hn w1 (e.mono s1.ex) Dn E fun ρ' H' H0' ml s' w' => q ρ' H' H0' ml (s1.low.trans w1.nd s') w')
theorem sx_drop {D : Addr} (h : EvX K t es m (.exc D) m1) : SvX K n (fun E => tDrop (t E)) es m D m1 := by
  intro σ H H0 ρ hn w e Dn E q
  exact h σ H H0 ρ w e _ E fun H1 H01 s1 w1 => q ρ H1 H01 [] s1.low (by rw [List.append_nil]; exact w1)
theorem sx_ret {D : Addr} (h : EvX K t es m (.exc D) m1) : SvX K n (fun E => tRet (t E)) es m D m1 := by
  intro σ H H0 ρ hn w e Dn E q
  exact h σ H H0 ρ w e _ E fun H1 H01 s1 w1 => q ρ H1 H01 [] s1.low (by rw [List.append_nil]; exact w1)
/-- the first of two raises -/
theorem sx_fst {a b : XK → TS} {D : Addr} (h : SvX K n a es m D m1) : SvX K n (fun E => tSeq (a E) (b E)) es m D m1 := fun σ H H0 ρ hn w e Dn E q => h σ H H0 ρ hn w e _ E q
theorem sx_snd {a b : XK → TS} {D : Addr} {es1 : List Sl} (h : ∀ E, Sv K n (a E) es m (.nx es1 m1)) (h2 : SvX K n b es1 m1 D m2) : SvX K n (fun E => tSeq (a E) (b E)) es m D m2 := by
  intro σ H H0 ρ hn w e Dn E q
  exact h E σ H H0 ρ hn w e _ fun σ1 ρ1 H1 H01 s1 w1 e1 => h2 σ1 H1 H01 ρ1 (pre_len hn s1) w1 e1 Dn E fun ρ' H' H0' ml s' w' => q ρ' H' H0' ml (s1.trans w1.nd s') w'
end

/-- what a body comes to -/
def BodyR (K : PySem.W.Frag) (n : Nat) (t : XK → TS) (es : List Sl) (m : M) : Res → M → Prop
  | .ok r, m' => (∀ E, Sv K n (t E) es m (.ret r m')) ∨ (r = .d .none ∧ ∃ es', ∀ E, Sv K n (t E) es m (.nx es' m'))
  | .exc D, m' => SvX K n t es m D m'
def Res.plain : Res → Bool
  | .ok r => r.plain
  | .exc _ => true
theorem mkDefX {P : Program} {w : World} {K : PySem.W.Frag} {mg : Str → Option Value} {base : Heap} {x : Str} {st : Stmt} {N ps : List Str} {k : Nat} {g : List Sl → M → Res → M → Prop} (T : DefT K mg x st ps) (S : FnScope N ps (defScope st))
    (hg : ∀ rs m r m', g rs m r m' → m'.length = m.length ∧ r.plain = true)
    (hb : ∀ (f : Addr) (cdv : Value) (A : Around) (outer : List Env) (s : Shared) (H : Hp), Room k (A.deeper (envOfC x (defScope st) s.heap.objs.size f cdv)) →
      ∃ t : XK → TS, (∀ E, PSs (cxOf (L2N.CX P w) P w K mg base N x (defScope st) f cdv A outer s H E) (defBody st) (t E)) ∧ ∀ rs m r m', rs.length = ps.length → g rs m r m' → BodyR K m.length t (rs ++ List.replicate (N.length - rs.length) .no) m r m') :
    DefX P w K mg base (k + 1) x ps g := by
  obtain ⟨f, fd, F, hm, hB⟩ := T.ex
  refine ⟨f, fd, ?_, hm, F.kp, hB⟩
  obtain ⟨oc, od, kV, doc, pm, an, cdv, ct, osl, rfl, lk, hcd⟩ := F.ex
  refine fn_of lk hcd S (fun vs H Q E h => h.1) fun A outer s H vs Q E hr h => ?_
  obtain ⟨t, ht, q⟩ := hb f cdv A outer s H hr
  refine ⟨t E, ht E, ?_⟩
  obtain ⟨hl, H0, ρ, m, rs, r, m', w', kv, hgr, hq⟩ := h
  obtain ⟨hgl, hgp⟩ := hg rs m r m' hgr
  have wb := q rs m r m' (by rw [← kv.length]; exact hl) hgr
  have back : ∀ {ρ' : List Addr} {H' H0' : Hp} {ml : M}, Stp m.length ρ H0 H ρ' H0' H' → Wd K H0' H' ρ' (m' ++ ml) → Stp ρ.length ρ H0 H ρ H0' H' ∧ Wd K H0' H' ρ m' := fun {ρ' H' H0' ml} s' w2 => by
    rw [← w'.len] at s'
    have e : ρ'.take ρ.length = ρ := by rw [s'.pre, List.take_length]
    refine ⟨⟨s'.ex, s'.keep, s'.dom, fun b o z => s'.fresh b o z, rfl, fun b z => .inl z⟩, ⟨w2.ex, by rw [w'.len, hgl], w'.nd, fun j p ds h1 h2 => ?_, w2.tab, w2.nT⟩⟩
    have hj := (List.getElem?_eq_some_iff.mp h2).1
    apply w2.cel j p ds
    · rw [← e, List.getElem?_take_of_lt (by rw [w'.len, ← hgl]; exact hj)] at h1
      exact h1
    · rw [List.getElem?_append_left hj]; exact h2
  have n0 : m.length ≤ ρ.length := by rw [w'.len]; exact Nat.le_refl _
  cases r with
  | exc D => exact wb (L2.start N vs) H H0 ρ n0 w' (start_env kv) _ E fun ρ' H' H0' ml s' w2 => hq H' H0' (back s' w2).1 (back s' w2).2
  | ok r =>
    rcases wb with wb | ⟨rfl, es', wb⟩
    · exact wb E (L2.start N vs) H H0 ρ n0 w' (start_env kv) _ fun v ρ' H' H0' ml s' w2 k2 => hq v H' H0' (back s' w2).1 (back s' w2).2 (slOk_plain hgp k2)
    · exact wb E (L2.start N vs) H H0 ρ n0 w' (start_env kv) _ fun σ' ρ' H' H0' s' w2 e2 => hq .non H' H0' (back (ml := []) s' (by rw [List.append_nil]; exact w2)).1 (back (ml := []) s' (by rw [List.append_nil]; exact w2)).2 .non
end HX

set_option Elab.async false
set_option linter.all false
set_option maxRecDepth 100000
namespace HX
variable [DL.Tbs]
open PySem PySem.Spec PyProof.Rows L2 HotX L2H LamX DL

/-! ### defs of which only this is told: what comes of a good start is good -/
def DefE (P : Program) (w : World) (K : PySem.W.Frag) (mg : Str → Option Value) (base : Heap) (k : Nat) (x : Str) (ps : List Str) (Pre : List Sl → M → Prop) (Post : List Sl → M → Sl → M → Prop) : Prop :=
  ∃ g : List Sl → M → Sl → M → Prop, (∀ rs m, Pre rs m → ∃ r m', g rs m r m' ∧ Post rs m r m') ∧ DefC P w K mg base CX0 k x ps (spD K ps.length g)
theorem mkDefE {P : Program} {w : World} {K : PySem.W.Frag} {mg : Str → Option Value} {base : Heap} {x : Str} {st : Stmt} {N ps : List Str} {k : Nat} {Pre : List Sl → M → Prop} {Post : List Sl → M → Sl → M → Prop} (T : DefT K mg x st ps) (S : FnScope N ps (defScope st))
    (hb : ∃ t, (∀ (f : Addr) (cdv : Value) (A : Around) (outer : List Env) (s : Shared) (H : Hp) (E : XK), Room k (A.deeper (envOfC x (defScope st) s.heap.objs.size f cdv)) → PSs (cxOf CX0 P w K mg base N x (defScope st) f cdv A outer s H E).nox (defBody st) t) ∧
      ∀ rs m, Pre rs m → ∃ r m', Sv K m.length t (rs ++ List.replicate (N.length - rs.length) .no) m (.ret r m') ∧ m'.length = m.length ∧ r.plain = true ∧ Post rs m r m') : DefE P w K mg base (k + 1) x ps Pre Post := by
  obtain ⟨t, ht, q⟩ := hb
  refine ⟨fun rs m r m' => Sv K m.length t (rs ++ List.replicate (N.length - rs.length) .no) m (.ret r m') ∧ m'.length = m.length ∧ r.plain = true, fun rs m h => ?_, ?_⟩
  · obtain ⟨r, m', h1, h2, h3, h4⟩ := q rs m h
    exact ⟨r, m', ⟨h1, h2, h3⟩, h4⟩
  · exact mkDef T S rfl (fun rs m r m' h => h.2) fun f cdv A outer s H E hr => ⟨t, ht f cdv A outer s H E hr, fun rs m r m' _ h => h.1⟩

/-! ### dice -/
/-- there is a die at j -/
def DieAt (m : M) (j : Nat) : Prop := ∃ x c, m[j]? = some [.int x, .int c]
theorem DieAt.set {m : M} {j : Nat} {x c : Int} (h : j < m.length) : DieAt (m.set j [.int x, .int c]) j := ⟨x, c, List.getElem?_set_self h⟩
theorem DieAt.lt {m : M} {j : Nat} (h : DieAt m j) : j < m.length := by
  obtain ⟨x, c, e⟩ := h
  exact (List.getElem?_eq_some_iff.mp e).1
/-- only the die at j has changed -/
def Rolled (m : M) (j : Nat) (m' : M) : Prop := ∃ x c, m' = m.set j [.int x, .int c]
theorem Rolled.refl {m : M} {j : Nat} (h : DieAt m j) : Rolled m j m := by
  obtain ⟨x, c, e⟩ := h
  refine ⟨x, c, ?_⟩
  obtain ⟨h1, h2⟩ := List.getElem?_eq_some_iff.mp e
  rw [← h2, List.set_getElem_self]
theorem Rolled.trans {m m1 m2 : M} {j : Nat} (a : Rolled m j m1) (b : Rolled m1 j m2) : Rolled m j m2 := by
  obtain ⟨x, c, rfl⟩ := a
  obtain ⟨y, d, rfl⟩ := b
  exact ⟨y, d, by rw [List.set_set]⟩
theorem Rolled.die {m m1 : M} {j : Nat} (a : Rolled m j m1) (h : j < m.length) : DieAt m1 j := by
  obtain ⟨x, c, rfl⟩ := a
  exact .set h
theorem Rolled.len {m m1 : M} {j : Nat} (a : Rolled m j m1) : m1.length = m.length := by
  obtain ⟨x, c, rfl⟩ := a
  rw [List.length_set]
theorem Rolled.other {m m1 : M} {j i : Nat} (a : Rolled m j m1) (h : i ≠ j) : m1[i]? = m[i]? := by
  obtain ⟨x, c, rfl⟩ := a
  rw [List.getElem?_set_ne (Ne.symm h)]
theorem Rolled.app {m m1 : M} {j : Nat} (a : Rolled m j m1) (h : j < m.length) (l : M) : Rolled (m ++ l) j (m1 ++ l) := by
  obtain ⟨x, c, rfl⟩ := a
  exact ⟨x, c, by rw [List.set_append_left _ _ h]⟩
section
variable {K : PySem.W.Frag} {es : List Sl} {m m1 : M}
theorem ex_roll {i j : Nat} {n : Int} {te : TE} {E : XK} (hi : es[i]? = some (.c j)) (h : EvE K te es m (.d (.int n)) m) (hd : DieAt m j) (h1 : 0 < n) (h2 : n < 2 ^ 62) :
    ∃ (v : Int) (m' : M), EvE K (tCall (spD K 2 rollG) [] E (tCons (tVar i) (tCons te tNil))) es m (.d (.int v)) m' ∧ 0 ≤ v ∧ v < n ∧ Rolled m j m' := by
  obtain ⟨x, c, e⟩ := hd
  obtain ⟨y, d, ed⟩ := diceM_two (x := x) (c := c) (n := n)
  refine ⟨rollM x c n, m.set j (diceM x c n), ev_call (arg2 (ev_var hi nofun) h) ⟨j, x, c, n, rfl, e, h1, h2, rfl, rfl⟩ rfl, (roll_lt h1).1, (roll_lt h1).2, y, d, by rw [ed]⟩
theorem exR_seq {n : Nat} {t u : TS} {es1 : List Sl} {P : Sl → M → Prop} (h : Sv K n t es m (.nx es1 m1)) (h2 : ∃ r m', Sv K n u es1 m1 (.ret r m') ∧ P r m') : ∃ r m', Sv K n (tSeq t u) es m (.ret r m') ∧ P r m' := by
  obtain ⟨r, m', a, b⟩ := h2
  exact ⟨r, m', sv_seq h a, b⟩
theorem exR_for {n i : Nat} {wi : TI} {tb rest : TS} {ds : List PyData} {P : Sl → M → Prop} (J : Nat → List Sl → M → Prop) (hi : EvI K wi es m ds m1) (h0 : J 0 es m1)
    (st : ∀ (l : Nat) (d : PyData) (es : List Sl) (m : M), ds[l]? = some d → J l es m → ∃ es2 m2, (Sv K n tb (es.set i (.d d)) m (.nx es2 m2) ∨ Sv K n tb (es.set i (.d d)) m (.cnt es2 m2)) ∧ J (l + 1) es2 m2)
    (hd : ∀ es m, J ds.length es m → ∃ r m', Sv K n rest es m (.ret r m') ∧ P r m') : ∃ r m', Sv K n (tSeq (tFor wi (gName i) tb) rest) es m (.ret r m') ∧ P r m' := by
  obtain ⟨es', m', h1, h2⟩ := sv_forIe (n := n) (i := i) (tb := tb) J hi h0 st
  exact exR_seq h1 (hd es' m' h2)
theorem exR_ifT {n : Nat} {tt : TT} {a b u : TS} {P : Sl → M → Prop} (h : EvB K tt es m true m1) (h1 : ∃ r m', Sv K n (tSeq a u) es m1 (.ret r m') ∧ P r m') : ∃ r m', Sv K n (tSeq (tIfS tt a b) u) es m (.ret r m') ∧ P r m' := by
  obtain ⟨r, m', x, y⟩ := h1
  exact ⟨r, m', sv_ifs h (fun _ => x) (fun z => nomatch z), y⟩
theorem exR_ifF {n : Nat} {tt : TT} {a b u : TS} {P : Sl → M → Prop} (h : EvB K tt es m false m1) (h1 : ∃ r m', Sv K n (tSeq b u) es m1 (.ret r m') ∧ P r m') : ∃ r m', Sv K n (tSeq (tIfS tt a b) u) es m (.ret r m') ∧ P r m' := by
  obtain ⟨r, m', x, y⟩ := h1
  exact ⟨r, m', sv_ifs h (fun z => nomatch z) (fun _ => x), y⟩
theorem exLc {i : Nat} {vs : List Nat} {esw : List Sl} {te : TE} {J : M → Prop} {G : PyData → Prop} (hi : i ∈ vs) : ∀ (ds : List PyData) (m : M), J m → (∀ d m, d ∈ ds → J m → ∃ r m', EvE K te (esw.set i (.d d)) m (.d r) m' ∧ G r ∧ J m') →
    ∃ rs m', LcR K (gName i) tYes te esw vs ds m rs m' ∧ rs.length = ds.length ∧ (∀ r, r ∈ rs → G r) ∧ J m'
  | [], m, h0, _ => ⟨[], m, .nil, rfl, by simp, h0⟩
  | d :: ds, m, h0, st => by
    obtain ⟨r, m1, e1, g1, j1⟩ := st d m List.mem_cons_self h0
    obtain ⟨rs, m2, l2, n2, g2, j2⟩ := exLc hi ds m1 j1 fun d m hd => st d m (List.mem_cons_of_mem _ hd)
    refine ⟨r :: rs, m2, .yes gv_name (fun j hj => by rw [List.mem_singleton.mp hj]; exact hi) eb_yes e1 l2, by rw [List.length_cons, List.length_cons, n2], fun x hx => ?_, j2⟩
    rcases List.mem_cons.mp hx with h | h
    · rw [h]; exact g1
    · exact g2 x h
/-- tuple(x), x a cell -/
theorem ev_tupC {i j : Nat} {ds : List PyData} (hi : es[i]? = some (.c j)) (hm : m[j]? = some ds) :
    EvE K (tCB (fun xs H Q => ∃ p ys, xs = [V.ref p] ∧ ((SqL K H p ys ∧ ∀ l, H l = none → Q (.ref l) (upd H l (.tup ys))) ∨ (SqT K H p ys ∧ Q (.ref p) H))) (tCons (tVar i) tNil)) es m (.d (.tuple ds)) m := by
  intro σ H H0 ρ w e Q q
  rcases e.2 i _ hi with z | ⟨v, h1, p, rfl, h2⟩
  · cases z
  obtain ⟨vs, g1, g2⟩ := cell_get w h2 hm
  refine ⟨_, h1, p, vs, rfl, .inl ⟨.inl (.inl g1), fun l hl => ?_⟩⟩
  obtain ⟨w2, s2⟩ := w.new (n := ρ.length) (o := .tup vs) hl
  exact q _ _ _ s2 w2 (Dp.tup (.inl (.inl upd_same)) (dpAll_mono s2.ex g2))
theorem app_at {a : List PyData} : (m ++ [a])[m.length]? = some a := last_get
/-! ### while -/
inductive WhR (K : PySem.W.Frag) (n : Nat) (c : TT) (tb : TS) : Nat → List Sl → M → List Sl → M → Prop
  | stop {es : List Sl} {m m1 : M} : EvB K c es m false m1 → WhR K n c tb 0 es m es m1
  | go {k : Nat} {es es2 es3 : List Sl} {m m1 m2 m3 : M} : EvB K c es m true m1 → Sv K n tb es m1 (.nx es2 m2) → WhR K n c tb k es2 m2 es3 m3 → WhR K n c tb (k + 1) es m es3 m3
theorem sv_while {n k : Nat} {c : TT} {tb : TS} {es' : List Sl} {m' : M} (h : WhR K n c tb k es m es' m') : Sv K n (tWhile c tb) es m (.nx es' m') := by
  intro σ H H0 ρ hn w e D q
  refine ⟨fun k2 σ2 H2 => ∃ es2 m2 ρ2 H02, WhR K n c tb k2 es2 m2 es' m' ∧ Stp n ρ H0 H ρ2 H02 H2 ∧ Wd K H02 H2 ρ2 m2 ∧ EnvS K H02 ρ2 σ2 es2, ⟨k, es, m, ρ, H0, h, .refl, w, e⟩, ?_⟩
  rintro k2 σ2 H2 ⟨es2, m2, ρ2, H02, r, s2, w2, e2⟩
  cases r with
  | stop hb => exact hb σ2 H2 H02 ρ2 w2 e2 _ fun H3 H03 s3 w3 => iteF (q σ2 ρ2 H3 H03 (s2.trans w2.nd s3.low) w3 (e2.mono s3.ex))
  | @go k3 _ es4 _ _ m3 m4 _ hb ht hr =>
    refine hb σ2 H2 H02 ρ2 w2 e2 _ fun H3 H03 s3 w3 => iteT ⟨fun σ' H' => ∃ ρ4 H04, Stp n ρ H0 H ρ4 H04 H' ∧ Wd K H04 H' ρ4 m4 ∧ EnvS K H04 ρ4 σ' es4, ?_, ?_⟩
    · rintro σ' H' ⟨ρ4, H04, s4, w4, e4⟩
      exact ⟨k3, Nat.lt_succ_self _, es4, m4, ρ4, H04, hr, s4, w4, e4⟩
    · exact ht σ2 H3 H03 ρ2 (pre_len hn s2) w3 (e2.mono s3.ex) _ fun σ4 ρ4 H4 H04 s4 w4 e4 => ⟨ρ4, H04, (s2.trans w2.nd s3.low).trans w3.nd s4, w4, e4⟩
end
end HX

set_option Elab.async false
set_option linter.all false
set_option maxRecDepth 100000
namespace K31
open PySem PySem.Spec PyProof.Rows L2 DL
def topS (i : Nat) : Stmt := PySem.Challenge.pw_samepictures_k31_whole_drawings.main.body.getD i (.Pass ⟨0, 0, 0, 0⟩)
abbrev N_is_whole : List Str := ["value"]
abbrev st_is_whole : Stmt := topS 18
theorem S_is_whole : FnScope N_is_whole ["value"] (defScope st_is_whole) := ⟨rfl, rfl, rfl, by decide +kernel, rfl, by decide +kernel, by decide +kernel⟩
abbrev N_are_whole : List Str := ["value", "many", "low", "high", "number"]
abbrev st_are_whole : Stmt := topS 19
theorem S_are_whole : FnScope N_are_whole ["value", "many", "low", "high"] (defScope st_are_whole) := ⟨rfl, rfl, rfl, by decide +kernel, rfl, by decide +kernel, by decide +kernel⟩
abbrev N_is_loop : List Str := ["value", "pair"]
abbrev st_is_loop : Stmt := topS 26
theorem S_is_loop : FnScope N_is_loop ["value"] (defScope st_is_loop) := ⟨rfl, rfl, rfl, by decide +kernel, rfl, by decide +kernel, by decide +kernel⟩
abbrev N_is_shape : List Str := ["value", "rule", "loops", "loop"]
abbrev st_is_shape : Stmt := topS 27
theorem S_is_shape : FnScope N_is_shape ["value"] (defScope st_is_shape) := ⟨rfl, rfl, rfl, by decide +kernel, rfl, by decide +kernel, by decide +kernel⟩
abbrev N_is_colour : List Str := ["value"]
abbrev st_is_colour : Stmt := topS 28
theorem S_is_colour : FnScope N_is_colour ["value"] (defScope st_is_colour) := ⟨rfl, rfl, rfl, by decide +kernel, rfl, by decide +kernel, by decide +kernel⟩
abbrev N_is_opacity : List Str := ["value"]
abbrev st_is_opacity : Stmt := topS 29
theorem S_is_opacity : FnScope N_is_opacity ["value"] (defScope st_is_opacity) := ⟨rfl, rfl, rfl, by decide +kernel, rfl, by decide +kernel, by decide +kernel⟩
abbrev N_is_matrix : List Str := ["value", "a", "b", "c", "d"]
abbrev st_is_matrix : Stmt := topS 30
theorem S_is_matrix : FnScope N_is_matrix ["value"] (defScope st_is_matrix) := ⟨rfl, rfl, rfl, by decide +kernel, rfl, by decide +kernel, by decide +kernel⟩
abbrev N_is_fill : List Str := ["value"]
abbrev st_is_fill : Stmt := topS 31
theorem S_is_fill : FnScope N_is_fill ["value"] (defScope st_is_fill) := ⟨rfl, rfl, rfl, by decide +kernel, rfl, by decide +kernel, by decide +kernel⟩
abbrev N_is_rub : List Str := ["value"]
abbrev st_is_rub : Stmt := topS 32
theorem S_is_rub : FnScope N_is_rub ["value"] (defScope st_is_rub) := ⟨rfl, rfl, rfl, by decide +kernel, rfl, by decide +kernel, by decide +kernel⟩
abbrev N_is_group : List Str := ["value", "deepest", "_", "layers", "opacity", "clip", "matrix"]
abbrev st_is_group : Stmt := topS 33
theorem S_is_group : FnScope N_is_group ["value", "deepest"] (defScope st_is_group) := ⟨rfl, rfl, rfl, by decide +kernel, rfl, by decide +kernel, by decide +kernel⟩
abbrev N_is_nested_layer : List Str := ["value", "deepest"]
abbrev st_is_nested_layer : Stmt := topS 34
theorem S_is_nested_layer : FnScope N_is_nested_layer ["value", "deepest"] (defScope st_is_nested_layer) := ⟨rfl, rfl, rfl, by decide +kernel, rfl, by decide +kernel, by decide +kernel⟩
abbrev N_are_layers : List Str := ["value", "deepest", "layer"]
abbrev st_are_layers : Stmt := topS 35
theorem S_are_layers : FnScope N_are_layers ["value", "deepest"] (defScope st_are_layers) := ⟨rfl, rfl, rfl, by decide +kernel, rfl, by decide +kernel, by decide +kernel⟩
abbrev N_list_shapes : List Str := ["layers", "shapes", "layer"]
abbrev st_list_shapes : Stmt := topS 36
theorem S_list_shapes : FnScope N_list_shapes ["layers"] (defScope st_list_shapes) := ⟨rfl, rfl, rfl, by decide +kernel, rfl, by decide +kernel, by decide +kernel⟩
abbrev N_add_points : List Str := ["layers", "shape", "loop"]
abbrev st_add_points : Stmt := topS 37
theorem S_add_points : FnScope N_add_points ["layers"] (defScope st_add_points) := ⟨rfl, rfl, rfl, by decide +kernel, rfl, by decide +kernel, by decide +kernel⟩
abbrev N_is_layer : List Str := ["value"]
abbrev st_is_layer : Stmt := topS 38
theorem S_is_layer : FnScope N_is_layer ["value"] (defScope st_is_layer) := ⟨rfl, rfl, rfl, by decide +kernel, rfl, by decide +kernel, by decide +kernel⟩
abbrev N_is_drawing : List Str := ["value"]
abbrev st_is_drawing : Stmt := topS 39
theorem S_is_drawing : FnScope N_is_drawing ["value"] (defScope st_is_drawing) := ⟨rfl, rfl, rfl, by decide +kernel, rfl, by decide +kernel, by decide +kernel⟩
abbrev N_check_drawing : List Str := ["value"]
abbrev st_check_drawing : Stmt := topS 40
theorem S_check_drawing : FnScope N_check_drawing ["value"] (defScope st_check_drawing) := ⟨rfl, rfl, rfl, by decide +kernel, rfl, by decide +kernel, by decide +kernel⟩
abbrev N_count_points : List Str := ["drawing"]
abbrev st_count_points : Stmt := topS 41
theorem S_count_points : FnScope N_count_points ["drawing"] (defScope st_count_points) := ⟨rfl, rfl, rfl, by decide +kernel, rfl, by decide +kernel, by decide +kernel⟩
abbrev N__law_cell : List Str := ["_law_script", "_law_k"]
abbrev st__law_cell : Stmt := topS 43
theorem S__law_cell : FnScope N__law_cell ["_law_script", "_law_k"] (defScope st__law_cell) := ⟨rfl, rfl, rfl, by decide +kernel, rfl, by decide +kernel, by decide +kernel⟩
abbrev N__law_drawn : List Str := ["_law_cell_here", "_law_k", "_law_more"]
abbrev st__law_drawn : Stmt := topS 44
theorem S__law_drawn : FnScope N__law_drawn ["_law_cell_here", "_law_k"] (defScope st__law_drawn) := ⟨rfl, rfl, rfl, by decide +kernel, rfl, by decide +kernel, by decide +kernel⟩
abbrev N__law_roll : List Str := ["_law_dice", "_law_many", "_law_told_here"]
abbrev st__law_roll : Stmt := topS 45
theorem S__law_roll : FnScope N__law_roll ["_law_dice", "_law_many"] (defScope st__law_roll) := ⟨rfl, rfl, rfl, by decide +kernel, rfl, by decide +kernel, by decide +kernel⟩
abbrev N__law_rounds : List Str := ["_law_script", "_law_most", "_law_k"]
abbrev st__law_rounds : Stmt := topS 46
theorem S__law_rounds : FnScope N__law_rounds ["_law_script", "_law_most"] (defScope st__law_rounds) := ⟨rfl, rfl, rfl, by decide +kernel, rfl, by decide +kernel, by decide +kernel⟩
abbrev N__law_term : List Str := ["_law_e", "_law_flags", "_law_kinds", "_law_flag"]
abbrev st__law_term : Stmt := topS 47
theorem S__law_term : FnScope N__law_term ["_law_e"] (defScope st__law_term) := ⟨rfl, rfl, rfl, by decide +kernel, rfl, by decide +kernel, by decide +kernel⟩
abbrev N__law_told : List Str := ["_law_deed", "_law_e"]
abbrev st__law_told : Stmt := topS 48
theorem S__law_told : FnScope N__law_told ["_law_deed"] (defScope st__law_told) := ⟨rfl, rfl, rfl, by decide +kernel, rfl, by decide +kernel, by decide +kernel⟩
abbrev N__law_loop : List Str := ["_law_dice", "_law_far", "_law_some", "_law_turn"]
abbrev st__law_loop : Stmt := topS 49
theorem S__law_loop : FnScope N__law_loop ["_law_dice", "_law_far"] (defScope st__law_loop) := ⟨rfl, rfl, rfl, by decide +kernel, rfl, by decide +kernel, by decide +kernel⟩
abbrev N__law_shape : List Str := ["_law_dice", "_law_far", "_law_loops", "_law_turn"]
abbrev st__law_shape : Stmt := topS 50
theorem S__law_shape : FnScope N__law_shape ["_law_dice", "_law_far"] (defScope st__law_shape) := ⟨rfl, rfl, rfl, by decide +kernel, rfl, by decide +kernel, by decide +kernel⟩
abbrev N__law_opacity : List Str := ["_law_dice", "_law_bottom"]
abbrev st__law_opacity : Stmt := topS 51
theorem S__law_opacity : FnScope N__law_opacity ["_law_dice"] (defScope st__law_opacity) := ⟨rfl, rfl, rfl, by decide +kernel, rfl, by decide +kernel, by decide +kernel⟩
abbrev N__law_matrix : List Str := ["_law_dice", "_law_turns"]
abbrev st__law_matrix : Stmt := topS 52
theorem S__law_matrix : FnScope N__law_matrix ["_law_dice"] (defScope st__law_matrix) := ⟨rfl, rfl, rfl, by decide +kernel, rfl, by decide +kernel, by decide +kernel⟩
abbrev N__law_layer : List Str := ["_law_dice", "_law_far", "_law_deep", "_law_pick", "_law_inner", "_law_clip", "_law_colour", "_law_turn"]
abbrev st__law_layer : Stmt := topS 53
theorem S__law_layer : FnScope N__law_layer ["_law_dice", "_law_far", "_law_deep"] (defScope st__law_layer) := ⟨rfl, rfl, rfl, by decide +kernel, rfl, by decide +kernel, by decide +kernel⟩
abbrev N__law_drawing : List Str := ["_law_dice", "_law_many", "_law_far", "_law_found", "_law_turn"]
abbrev st__law_drawing : Stmt := topS 54
theorem S__law_drawing : FnScope N__law_drawing ["_law_dice", "_law_many", "_law_far"] (defScope st__law_drawing) := ⟨rfl, rfl, rfl, by decide +kernel, rfl, by decide +kernel, by decide +kernel⟩
abbrev N__law_size : List Str := ["_law_layers", "_law_count", "_law_layer_here", "_law_shape_here", "_law_loop_here"]
abbrev st__law_size : Stmt := topS 55
theorem S__law_size : FnScope N__law_size ["_law_layers"] (defScope st__law_size) := ⟨rfl, rfl, rfl, by decide +kernel, rfl, by decide +kernel, by decide +kernel⟩
abbrev N__law_bad_layers : List Str := ["_law_shape_here", "_law_bad", "_law_cases", "_law_matrix_here", "_law_inner", "_law_turn"]
abbrev st__law_bad_layers : Stmt := topS 56
theorem S__law_bad_layers : FnScope N__law_bad_layers ["_law_shape_here"] (defScope st__law_bad_layers) := ⟨rfl, rfl, rfl, by decide +kernel, rfl, by decide +kernel, by decide +kernel⟩
abbrev N_law : List Str := ["_law_script", "_law_dice", "_law_drawing_here", "_law_shape_here", "_law_bad", "_law_loop_here", "_law_wide", "_law_small", "_law_cases", "_law_layer_here"]
abbrev st_law : Stmt := topS 57
theorem S_law : FnScope N_law ["_law_script"] (defScope st_law) := ⟨rfl, rfl, rfl, by decide +kernel, rfl, by decide +kernel, by decide +kernel⟩
end K31

set_option Elab.async false
set_option linter.all false
set_option maxRecDepth 100000
set_option maxHeartbeats 4000000
namespace K31
variable [DL.Tbs]
open PySem PySem.Spec PyProof.Rows L2 DL

/-! ### what the program means, over data -/
def wholeM (v : PyData) : Bool := isInt v && !isBool v
def inR (lo hi : Int) : PyData → Bool
  | .int i => decide (lo ≤ i) && decide (i ≤ hi)
  | _ => false
def areM (v : PyData) (n lo hi : Int) : Bool := match v with
  | .tuple xs => decide ((xs.length : Int) = n) && xs.all (inR lo hi)
  | _ => false
def loopM (v : PyData) : Bool := match v with
  | .tuple xs => (decide ((3 : Int) ≤ (xs.length : Int)) && decide ((xs.length : Int) ≤ 8)) && xs.all fun p => areM p 2 (-9) 9
  | _ => false
def ruleM (r : PyData) : Bool := [PyData.str "odd", .str "turns"].any fun z => PyData.eqv z r
def loopsM (v : PyData) : Bool := match v with
  | .tuple ls => (decide ((1 : Int) ≤ (ls.length : Int)) && decide ((ls.length : Int) ≤ 3)) && ls.all loopM
  | _ => false
def shapeM (v : PyData) : Bool := match v with
  | .tuple [r, l] => ruleM r && loopsM l
  | _ => false
/-- the rule's place holds something flat -/
def okS (v : PyData) : Bool := match v with
  | .tuple [r, _] => flatD r
  | _ => true

def colourM (v : PyData) : Bool := areM v 3 0 9
def topLe (v : PyData) : Bool := match v with
  | .tuple [.int a, .int b] => decide (a ≤ b)
  | _ => false
def opacityM (v : PyData) : Bool := areM v 2 1 6 && topLe v
def detM (v : PyData) : Bool := match v with
  | .tuple (.int a :: .int b :: .int c :: .int d :: _) => !(a * d == b * c)
  | _ => false
def headT (v : PyData) : PyData := match v with
  | .tuple xs => .tuple (xs.take 4)
  | x => x
def tailT (v : PyData) : PyData := match v with
  | .tuple xs => .tuple (xs.drop 4)
  | x => x
def matrixM (v : PyData) : Bool := areM (headT v) 4 (-2) 2 && (detM v && areM (tailT v) 2 (-9) 9)
section
variable {P : Program} {w : World} {K : PySem.W.Frag} {mg : Str → Option Value} {base : Heap}
structure Blt (mg : Str → Option Value) : Prop where
  b_isinstance : mg "isinstance" = none
  b_tuple : mg "tuple" = none
  b_int : mg "int" = none
  b_bool : mg "bool" = none
  b_len : mg "len" = none
  b_all : mg "all" = none
  b_sum : mg "sum" = none

local macro_rules | `(tactic| trivial) => `(tactic| first
  | exact ev_int | exact ev_bl | exact ev_str | exact ev_non | exact ev_ty
  | exact ev_var rfl nofun
  | exact ea_nil
  | apply ea_cons
  | refine ev_and ?_ (fun _ => ?_)
  | refine ev_or ?_ (fun _ => ?_)
  | refine ev_not ?_
  | apply ev_cb
  | apply ev_op
  | apply ev_un
  | refine eb_val ?_ | refine eb_test ?_
  | refine eb_and ?_ (fun _ => ?_)
  | refine eb_or ?_ (fun _ => ?_)
  | refine eb_not ?_
  | exact c_tup | exact c_int | exact c_bool | exact c_str
  | exact c_len rfl
  | exact o_neg | exact o_i0b | exact o_addI | exact o_eqI | exact o_neI | exact o_eqS | exact o_neS)

theorem c_is_whole (T : Blt mg) (TD : DefT K mg "is_whole" st_is_whole ["value"]) : PureC P w K mg base 1 "is_whole" ["value"] (fun ds y => ∃ v, ds = [v] ∧ y = .bool (wholeM v)) := by
  refine mkPure TD S_is_whole fun f cdv A outer s H E hr => ⟨_, (pss_one (ps_ret (pe_and (pe_callB (kIsi (K := K)) (by rfl) T.b_isinstance (by decide +kernel) (pa_cons (pv 0) (pa_cons (pe_bltn (v := .ty "int") (u := .type "int") (by rfl) T.b_int (by decide +kernel) rfl) pa_nil))) (pe_one (pe_not (pe_callB (kIsi (K := K)) (by rfl) T.b_isinstance (by decide +kernel) (pa_cons (pv 0) (pa_cons (pe_bltn (v := .ty "bool") (u := .type "bool") (by rfl) T.b_bool (by decide +kernel) rfl) pa_nil)))))))), ?_⟩
  rintro ds m y hl ⟨v, rfl, rfl⟩
  refine sv_ret0 ?_
  repeat' trivial

theorem c_are_whole (T : Blt mg) (TD : DefT K mg "are_whole" st_are_whole ["value", "many", "low", "high"]) (D_is_whole : PureC P w K mg base 1 "is_whole" ["value"] (fun ds y => ∃ v, ds = [v] ∧ y = .bool (wholeM v))) :
    PureC P w K mg base 2 "are_whole" ["value", "many", "low", "high"] (fun ds y => ∃ v n lo hi, ds = [v, .int n, .int lo, .int hi] ∧ n ≤ 1000 ∧ y = .bool (areM v n lo hi)) := by
  refine mkPure TD S_are_whole fun f cdv A outer s H E hr => ?_
  have hu := hr.units
  refine ⟨_, (pss_one (ps_ret (pe_and (pe_callB (kIsi (K := K)) (by rfl) T.b_isinstance (by decide +kernel) (pa_cons (pv 0) (pa_cons (pe_bltn (v := .ty "tuple") (u := .type "tuple") (by rfl) T.b_tuple (by decide +kernel) rfl) pa_nil))) (pe_and (pe_cmpR (kEq (K := K) hu) (pe_callB (kLen (K := K)) (by rfl) T.b_len (by decide +kernel) (pa_cons (pv 0) pa_nil)) (pv 1) (nomark _)) (pe_one (pe_callB (kAll (K := K) rfl) (by rfl) T.b_all (by decide +kernel) (pa_cons (pe_lc (own := [("number", 4)]) (by rfl) S_are_whole.nd (kSeq (K := K) (pv 0)) (blkOk_by (N := N_are_whole) (sc := defScope st_are_whole) (by decide +kernel)) (fun _ _ _ _ _ => pg_name (i := 4) S_are_whole.nd rfl (by first | exact Or.inl rfl | exact Or.inr rfl)) (fun _ _ _ _ _ => pts_nil) (fun _ _ _ _ _ => (pe_and (pe_def D_is_whole (hr.mono (by omega)) (by rfl) pass0 (pa_cons (pv 4) pa_nil)) (pe_one (pe_chain op_le op_le (pv 2) (pv 4) (pv 3)))))) pa_nil))))))), ?_⟩
  rintro ds m y hl ⟨v, n, lo, hi, rfl, hn, rfl⟩
  refine sv_ret0 ?_
  cases v with
  | tuple xs =>
    refine ev_cast (r := .d (.bool (isTup (.tuple xs) && (((xs.length : Int) == n) && xs.all (inR lo hi))))) (ev_and (by repeat' trivial) fun _ => ev_and (by repeat' trivial) fun hlen => ?_) ?_
    · refine ev_all (ei_seqT (by repeat' trivial)) (by simp at hlen; omega) fun d hd => ?_
      cases d with
      | int i =>
        refine ev_and (a := true) (ev_pure (ea_cons (ev_var rfl nofun) ea_nil) (ds := [.int i]) rfl ⟨_, rfl, rfl⟩ rfl) fun _ => ?_
        exact ev_chain (ev_var rfl nofun) (ev_var rfl nofun) o_i0b (fun _ => ev_var rfl nofun) (fun _ => o_i0b)
      | _ => exact ev_andF (ev_pure (ea_cons (ev_var rfl nofun) ea_nil) (ds := [_]) rfl ⟨_, rfl, rfl⟩ rfl)
    · show Sl.d (.bool (true && _)) = _
      rw [Bool.true_and]
      rfl
  | _ => exact ev_andF (by repeat' trivial)

abbrev R_is_whole : List PyData → PyData → Prop := fun ds y => ∃ v, ds = [v] ∧ y = .bool (wholeM v)
abbrev R_are_whole : List PyData → PyData → Prop := fun ds y => ∃ v n lo hi, ds = [v, .int n, .int lo, .int hi] ∧ n ≤ 1000 ∧ y = .bool (areM v n lo hi)
theorem ev_are {E : XK} {es : List Sl} {m m1 : M} {t : TA} {v : PyData} {n lo hi : Int} (h : EvA K t es m [.d v, .d (.int n), .d (.int lo), .d (.int hi)] m1) (hn : n ≤ 1000) :
    EvE K (tCall (spD K 4 (pureG R_are_whole)) [] E t) es m (.d (.bool (areM v n lo hi))) m1 := ev_pure h (ds := [v, .int n, .int lo, .int hi]) rfl ⟨v, n, lo, hi, rfl, hn, rfl⟩ rfl

abbrev R_is_loop : List PyData → PyData → Prop := fun ds y => ∃ v, ds = [v] ∧ y = .bool (loopM v)
theorem c_is_loop (T : Blt mg) (TD : DefT K mg "is_loop" st_is_loop ["value"]) (D_are_whole : PureC P w K mg base 2 "are_whole" ["value", "many", "low", "high"] R_are_whole) (h_FARTHEST : ∃ t, mg "FARTHEST" = some (.int 9 t)) :
    PureC P w K mg base 3 "is_loop" ["value"] R_is_loop := by
  refine mkPure TD S_is_loop fun f cdv A outer s H E hr => ?_
  have hu := hr.units
  refine ⟨_, (pss_one (ps_ret (pe_and (pe_callB (kIsi (K := K)) (by rfl) T.b_isinstance (by decide +kernel) (pa_cons (pv 0) (pa_cons (pe_bltn (v := .ty "tuple") (u := .type "tuple") (by rfl) T.b_tuple (by decide +kernel) rfl) pa_nil))) (pe_and (pe_chain op_le op_le pe_int (pe_callB (kLen (K := K)) (by rfl) T.b_len (by decide +kernel) (pa_cons (pv 0) pa_nil)) pe_int) (pe_one (pe_callB (kAll (K := K) rfl) (by rfl) T.b_all (by decide +kernel) (pa_cons (pe_lc (own := [("pair", 1)]) (by rfl) S_is_loop.nd (kSeq (K := K) (pv 0)) (blkOk_by (N := N_is_loop) (sc := defScope st_is_loop) (by decide +kernel)) (fun _ _ _ _ _ => pg_name (i := 1) S_is_loop.nd rfl (by first | exact Or.inl rfl | exact Or.inr rfl)) (fun _ _ _ _ _ => pts_nil) (fun _ _ _ _ _ => (pe_def D_are_whole (hr.mono (by omega)) (by rfl) pass0 (pa_cons (pv 1) (pa_cons pe_int (pa_cons (pe_un un_neg (pe_glob (v := .int 9) (by rfl) h_FARTHEST.choose_spec ⟨_, rfl⟩)) (pa_cons (pe_glob (v := .int 9) (by rfl) h_FARTHEST.choose_spec ⟨_, rfl⟩) pa_nil))))))) pa_nil))))))), ?_⟩
  rintro ds m y hl ⟨v, rfl, rfl⟩
  refine sv_ret0 ?_
  cases v with
  | tuple xs =>
    refine ev_andT (by repeat' trivial) (ev_and (ev_chain (by repeat' trivial) (by repeat' trivial) o_i0b (fun _ => by repeat' trivial) (fun _ => o_i0b)) fun hlen => ?_)
    refine ev_all (ei_seqT (by repeat' trivial)) (by simp at hlen; omega) fun d hd => ?_
    exact ev_are (by repeat' trivial) (by decide)
  | _ => exact ev_andF (by repeat' trivial)

abbrev R_is_shape : List PyData → PyData → Prop := fun ds y => ∃ v, ds = [v] ∧ okS v = true ∧ y = .bool (shapeM v)
theorem c_is_shape (T : Blt mg) (TD : DefT K mg "is_shape" st_is_shape ["value"]) (D_is_loop : PureC P w K mg base 3 "is_loop" ["value"] R_is_loop)
    (h_RULES : ∃ a, mg "RULES" = some (.ref a) ∧ ∀ H, Dp K H (.ref a) (.tuple [.str "odd", .str "turns"])) :
    PureC P w K mg base 4 "is_shape" ["value"] R_is_shape := by
  refine mkPure TD S_is_shape fun f cdv A outer s H E hr => ?_
  have hu := hr.units
  have hu5 := hu5_of hr
  refine ⟨_, (pss_cons (ps_if (PW.pt (pw_or (pt_not (pt_val (pe_callB (kIsi (K := K)) (by rfl) T.b_isinstance (by decide +kernel) (pa_cons (pv 0) (pa_cons (pe_bltn (v := .ty "tuple") (u := .type "tuple") (by rfl) T.b_tuple (by decide +kernel) rfl) pa_nil))))) (pw_or1 (pt_cmpR (kNe (K := K) hu) (pe_callB (kLen (K := K)) (by rfl) T.b_len (by decide +kernel) (pa_cons (pv 0) pa_nil)) pe_int (nomark _))))) (pss_one (ps_ret pe_bl)) pss_nil)
      (pss_cons (ps_asg (pv 0) (kTupG (K := K) rfl (pgs_cons (pg_name (i := 1) S_is_shape.nd rfl (Or.inl rfl)) (pgs_cons (pg_name (i := 2) S_is_shape.nd rfl (Or.inl rfl)) pgs_nil))))
      (pss_one (ps_ret (pe_and (pe_cmpR (kIn (K := K) hu5) (pv 1) (pe_glob (v := .ref h_RULES.choose) (by rfl) h_RULES.choose_spec.1 rfl) (by rfl)) (pe_and (pe_callB (kIsi (K := K)) (by rfl) T.b_isinstance (by decide +kernel) (pa_cons (pv 2) (pa_cons (pe_bltn (v := .ty "tuple") (u := .type "tuple") (by rfl) T.b_tuple (by decide +kernel) rfl) pa_nil))) (pe_and (pe_chain op_le op_le pe_int (pe_callB (kLen (K := K)) (by rfl) T.b_len (by decide +kernel) (pa_cons (pv 2) pa_nil)) pe_int) (pe_one (pe_callB (kAll (K := K) rfl) (by rfl) T.b_all (by decide +kernel) (pa_cons (pe_lc (own := [("loop", 3)]) (by rfl) S_is_shape.nd (kSeq (K := K) (pv 2)) (blkOk_by (N := N_is_shape) (sc := defScope st_is_shape) (by decide +kernel)) (fun _ _ _ _ _ => pg_name (i := 3) S_is_shape.nd rfl (by first | exact Or.inl rfl | exact Or.inr rfl)) (fun _ _ _ _ _ => pts_nil) (fun _ _ _ _ _ => (pe_def D_is_loop (hr.mono (by omega)) (by rfl) pass0 (pa_cons (pv 3) pa_nil)))) pa_nil)))))))))), ?_⟩
  rintro ds m y hl ⟨v, rfl, hok, rfl⟩
  cases v with
  | tuple xs =>
    by_cases h2 : xs.length = 2
    · obtain ⟨r, l, rfl⟩ : ∃ r l, xs = [r, l] := by
        match xs, h2 with
        | [r, l], _ => exact ⟨r, l, rfl⟩
      refine sv_ifsF (m1 := m) (eb_orF (eb_notT (by repeat' trivial)) (by repeat' trivial)) ?_
      refine sv_seq (sv_asg (ev_var rfl nofun) (gv_tup (gvs_cons gv_name (gvs_cons gv_name gvs_nil)) rfl)) ?_
      refine sv_ret0 ?_
      refine ev_and (a := ruleM r) (ev_op (ev_var rfl nofun) (ev_c fun H0 ρ => h_RULES.choose_spec.2 H0) (o_inT hok rfl)) fun _ => ?_
      cases l with
      | tuple ls =>
        refine ev_andT (by repeat' trivial) (ev_and (ev_chain (by repeat' trivial) (by repeat' trivial) o_i0b (fun _ => by repeat' trivial) (fun _ => o_i0b)) fun hlen => ?_)
        refine ev_all (ei_seqT (by repeat' trivial)) (by simp at hlen; omega) fun d hd => ?_
        exact ev_pure (by repeat' trivial) (ds := [d]) rfl ⟨d, rfl, rfl⟩ rfl
      | _ => exact ev_andF (by repeat' trivial)
    · have e : shapeM (.tuple xs) = false := by
        unfold shapeM
        split
        · rename_i q
          cases q
          exact absurd rfl h2
        · rfl
      rw [e]
      refine sv_ifsT (m1 := m) (eb_orF (eb_notT (by repeat' trivial)) (eb_cast (b := !((xs.length : Int) == 2)) (by repeat' trivial) ?_)) rfl (sv_ret0 ev_bl)
      rw [Bool.not_eq_true']
      exact beq_eq_false_iff_ne.mpr (by omega)
  | _ => exact sv_ifsT (m1 := m) (eb_orT (eb_notF (by repeat' trivial))) rfl (sv_ret0 ev_bl)

abbrev R_is_colour : List PyData → PyData → Prop := fun ds y => ∃ v, ds = [v] ∧ y = .bool (colourM v)
theorem c_is_colour (T : Blt mg) (TD : DefT K mg "is_colour" st_is_colour ["value"]) (D_are_whole : PureC P w K mg base 2 "are_whole" ["value", "many", "low", "high"] R_are_whole) :
    PureC P w K mg base 3 "is_colour" ["value"] R_is_colour := by
  refine mkPure TD S_is_colour fun f cdv A outer s H E hr => ?_
  refine ⟨_, (pss_one (ps_ret (pe_def D_are_whole (hr.mono (by omega)) (by rfl) pass0 (pa_cons (pv 0) (pa_cons pe_int (pa_cons pe_int (pa_cons pe_int pa_nil))))))), ?_⟩
  rintro ds m y hl ⟨v, rfl, rfl⟩
  exact sv_ret0 (ev_are (by repeat' trivial) (by decide))

theorem inR_int {lo hi : Int} {x : PyData} (h : inR lo hi x = true) : ∃ i, x = .int i ∧ lo ≤ i ∧ i ≤ hi := by
  cases x with
  | int i =>
    have h : (decide (lo ≤ i) && decide (i ≤ hi)) = true := h
    rw [Bool.and_eq_true] at h
    exact ⟨i, rfl, of_decide_eq_true h.1, of_decide_eq_true h.2⟩
  | _ => cases h
theorem are_get {v : PyData} {n lo hi : Int} (h : areM v n lo hi = true) : ∃ xs, v = .tuple xs ∧ (xs.length : Int) = n ∧ ∀ x, x ∈ xs → ∃ i, x = .int i ∧ lo ≤ i ∧ i ≤ hi := by
  cases v with
  | tuple xs =>
    have h : (decide ((xs.length : Int) = n) && xs.all (inR lo hi)) = true := h
    rw [Bool.and_eq_true, List.all_eq_true] at h
    exact ⟨xs, rfl, of_decide_eq_true h.1, fun x hx => inR_int (h.2 x hx)⟩
  | _ => cases h
theorem are_two {v : PyData} {lo hi : Int} (h : areM v 2 lo hi = true) : ∃ a b, v = .tuple [.int a, .int b] ∧ (lo ≤ a ∧ a ≤ hi) ∧ (lo ≤ b ∧ b ≤ hi) := by
  obtain ⟨xs, rfl, hl, hx⟩ := are_get h
  match xs, hl, hx with
  | [x, y], _, hx =>
    obtain ⟨a, rfl, ha⟩ := hx x (by simp)
    obtain ⟨b, rfl, hb⟩ := hx y (by simp)
    exact ⟨a, b, rfl, ha, hb⟩
  | [], hl, _ => simp at hl
  | [_], hl, _ => simp at hl
  | _ :: _ :: _ :: _, hl, _ => simp at hl; omega
end
end K31

set_option Elab.async false
set_option linter.all false
set_option maxRecDepth 100000
set_option maxHeartbeats 4000000
namespace K31
variable [DL.Tbs]
open PySem PySem.Spec PyProof.Rows L2 DL
def fillM (xs : List PyData) : Bool := match xs with
  | [_, s, c, o] => shapeM s && (colourM c && opacityM o)
  | _ => false
def rubM (xs : List PyData) : Bool := match xs with
  | [_, s, o] => shapeM s && opacityM o
  | _ => false
def layersOf (f : PyData → Bool) (v : PyData) : Bool := match v with
  | .tuple ls => decide ((ls.length : Int) ≤ 4) && ls.all f
  | _ => false
def groupOf (f : PyData → Bool) (xs : List PyData) : Bool := match xs with
  | [_, l, o, c, mt] => layersOf f l && (opacityM o && ((isNone c || shapeM c) && matrixM mt))
  | _ => false
def kindIs (k : PyData) (s : Str) : Bool := match k with
  | .str x => decide (x = s)
  | _ => false
def nestedM : Nat → PyData → Bool
  | n, .tuple (.str k :: xs) => if k = "fill" then fillM (.str k :: xs) else if k = "rub" then rubM (.str k :: xs) else decide (k = "group") && (match n with
    | 0 => false
    | n + 1 => groupOf (nestedM n) (.str k :: xs))
  | _, _ => false
def okAt (xs : List PyData) (i : Nat) : Bool := match xs[i]? with
  | some d => okS d
  | none => true
def okHead (f : PyData → Bool) (xs : List PyData) : Bool := match xs with
  | .tuple ls :: _ => ls.all f
  | _ => true
/-- what stands where a shape is wanted has a flat rule; a layer's first word is a text -/
def okL : Nat → PyData → Bool
  | n, .tuple (.str k :: xs) => (decide (k = "group") || okAt xs 0) && okAt xs 2 && (match n with
    | 0 => true
    | n + 1 => if k = "group" then okHead (okL n) xs else true)
  | _, .tuple (_ :: _) => false
  | _, _ => true
theorem okL_get {n : Nat} {k : Str} {xs : List PyData} (h : okL n (.tuple (.str k :: xs)) = true) : (k ≠ "group" → okAt xs 0 = true) ∧ okAt xs 2 = true ∧ ∀ j, n = j + 1 → k = "group" → okHead (okL j) xs = true := by
  cases n with
  | zero =>
    unfold okL at h
    rw [Bool.and_eq_true, Bool.and_eq_true] at h
    exact ⟨fun hk => by
      have z := h.1.1
      rw [decide_eq_false hk] at z
      exact z, h.1.2, fun j e => by cases e⟩
  | succ n =>
    unfold okL at h
    rw [Bool.and_eq_true, Bool.and_eq_true] at h
    refine ⟨fun hk => by
      have z := h.1.1
      rw [decide_eq_false hk] at z
      exact z, h.1.2, fun j e hk => ?_⟩
    cases e
    have h2 : (if k = "group" then okHead (okL n) xs else true) = true := h.2
    rw [if_pos hk] at h2
    exact h2
section
variable {P : Program} {w : World} {K : PySem.W.Frag} {mg : Str → Option Value} {base : Heap}
local macro_rules | `(tactic| trivial) => `(tactic| first
  | exact ev_int | exact ev_bl | exact ev_str | exact ev_non | exact ev_ty
  | exact ev_var rfl nofun
  | exact ea_nil
  | apply ea_cons
  | refine ev_and ?_ (fun _ => ?_)
  | refine ev_or ?_ (fun _ => ?_)
  | refine ev_not ?_
  | apply ev_cb
  | apply ev_op
  | apply ev_un
  | refine eb_val ?_ | refine eb_test ?_
  | refine eb_and ?_ (fun _ => ?_)
  | refine eb_or ?_ (fun _ => ?_)
  | refine eb_not ?_
  | exact c_tup | exact c_int | exact c_bool | exact c_str
  | exact c_len rfl
  | exact o_neg | exact o_i0b | exact o_addI | exact o_eqI | exact o_neI | exact o_eqS | exact o_neS)

abbrev R_is_opacity : List PyData → PyData → Prop := fun ds y => ∃ v, ds = [v] ∧ y = .bool (opacityM v)
theorem c_is_opacity (T : Blt mg) (TD : DefT K mg "is_opacity" st_is_opacity ["value"]) (D_are_whole : PureC P w K mg base 2 "are_whole" ["value", "many", "low", "high"] R_are_whole) :
    PureC P w K mg base 3 "is_opacity" ["value"] R_is_opacity := by
  refine mkPure TD S_is_opacity fun f cdv A outer s H E hr => ?_
  refine ⟨_, (pss_one (ps_ret (pe_and (pe_def D_are_whole (hr.mono (by omega)) (by rfl) pass0 (pa_cons (pv 0) (pa_cons pe_int (pa_cons pe_int (pa_cons pe_int pa_nil))))) (pe_one (pe_cmpR op_le (pe_ix (kIx (K := K)) (pv 0) pe_int (fun _ _ => rfl)) (pe_ix (kIx (K := K)) (pv 0) pe_int (fun _ _ => rfl)) (nomark _)))))), ?_⟩
  rintro ds m y hl ⟨v, rfl, rfl⟩
  refine sv_ret0 (ev_and (ev_are (by repeat' trivial) (by decide)) fun h => ?_)
  obtain ⟨a, b, rfl, _, _⟩ := are_two h
  exact ev_op (ev_at (j := 0) rfl rfl rfl) (ev_at (j := 1) rfl rfl rfl) o_i0b

abbrev R_is_matrix : List PyData → PyData → Prop := fun ds y => ∃ v, ds = [v] ∧ y = .bool (matrixM v)
theorem c_is_matrix (T : Blt mg) (TD : DefT K mg "is_matrix" st_is_matrix ["value"]) (D_are_whole : PureC P w K mg base 2 "are_whole" ["value", "many", "low", "high"] R_are_whole) (h_FARTHEST : ∃ t, mg "FARTHEST" = some (.int 9 t)) :
    PureC P w K mg base 3 "is_matrix" ["value"] R_is_matrix := by
  refine mkPure TD S_is_matrix fun f cdv A outer s H E hr => ?_
  have hu := hr.units
  refine ⟨_, (pss_cons (ps_if (PW.pt (pw_or (pt_not (pt_val (pe_callB (kIsi (K := K)) (by rfl) T.b_isinstance (by decide +kernel) (pa_cons (pv 0) (pa_cons (pe_bltn (v := .ty "tuple") (u := .type "tuple") (by rfl) T.b_tuple (by decide +kernel) rfl) pa_nil))))) (pw_or1 (pt_not (pt_val (pe_def D_are_whole (hr.mono (by omega)) (by rfl) pass0 (pa_cons (pe_slice (kSl (K := K)) (pv 0) po_none (po_some pe_int)) (pa_cons pe_int (pa_cons (pe_un un_neg pe_int) (pa_cons pe_int pa_nil)))))))))) (pss_one (ps_ret pe_bl)) pss_nil)
      (pss_cons (ps_asg (pe_slice (kSl (K := K)) (pv 0) po_none (po_some pe_int)) (kTupG (K := K) rfl (pgs_cons (pg_name (i := 1) S_is_matrix.nd rfl (Or.inl rfl)) (pgs_cons (pg_name (i := 2) S_is_matrix.nd rfl (Or.inl rfl)) (pgs_cons (pg_name (i := 3) S_is_matrix.nd rfl (Or.inl rfl)) (pgs_cons (pg_name (i := 4) S_is_matrix.nd rfl (Or.inl rfl)) pgs_nil))))))
      (pss_one (ps_ret (pe_and (pe_cmpR (kNe (K := K) hu) (pe_op (kMul (K := K)) (pv 1) (pv 4)) (pe_op (kMul (K := K)) (pv 2) (pv 3)) (nomark _)) (pe_one (pe_def D_are_whole (hr.mono (by omega)) (by rfl) pass0 (pa_cons (pe_slice (kSl (K := K)) (pv 0) (po_some pe_int) po_none) (pa_cons pe_int (pa_cons (pe_un un_neg (pe_glob (v := .int 9) (by rfl) h_FARTHEST.choose_spec ⟨_, rfl⟩)) (pa_cons (pe_glob (v := .int 9) (by rfl) h_FARTHEST.choose_spec ⟨_, rfl⟩) pa_nil))))))))))), ?_⟩
  rintro ds m y hl ⟨v, rfl, rfl⟩
  cases v with
  | tuple xs =>
    have hsl : ∀ es : List Sl, es[0]? = some (.d (.tuple xs)) → EvE K (tSl (rSlA K) (tVar 0) tNoPart (tPart (tC (.int 4)))) es m (.d (headT (.tuple xs))) m := fun es he => ev_to (k := 4) (ev_var he nofun)
    have hsl2 : ∀ es : List Sl, es[0]? = some (.d (.tuple xs)) → EvE K (tSl (rSlA K) (tVar 0) (tPart (tC (.int 4))) tNoPart) es m (.d (tailT (.tuple xs))) m := fun es he => ev_from (k := 4) (ev_var he nofun)
    cases hh : areM (headT (.tuple xs)) 4 (-2) 2 with
    | false =>
      have e : matrixM (.tuple xs) = false := by
        unfold matrixM
        rw [hh]
        rfl
      rw [e]
      exact sv_ifsT (m1 := m) (eb_orF (eb_notT (by repeat' trivial)) (eb_notF (eb_cast (eb_val (ev_are (ea_cons (hsl _ rfl) (ea_cons ev_int (ea_cons (ev_un ev_int o_neg) (ea_cons ev_int ea_nil)))) (by decide))) hh))) rfl (sv_ret0 ev_bl)
    | true =>
      obtain ⟨ys, e1, e2, e3⟩ := are_get hh
      obtain ⟨a, b, c, d, rest, rfl, ha, hb, hc, hd⟩ : ∃ a b c d rest, xs = .int a :: .int b :: .int c :: .int d :: rest ∧ (-2 ≤ a ∧ a ≤ 2) ∧ (-2 ≤ b ∧ b ≤ 2) ∧ (-2 ≤ c ∧ c ≤ 2) ∧ (-2 ≤ d ∧ d ≤ 2) := by
        have e1 : xs.take 4 = ys := PyData.tuple.inj e1
        match xs, e1, e2, e3 with
        | x :: y :: z :: u :: rest, e1, e2, e3 =>
          have e1 : [x, y, z, u] = ys := e1
          subst e1
          obtain ⟨a, rfl, ha⟩ := e3 x (by simp)
          obtain ⟨b, rfl, hb⟩ := e3 y (by simp)
          obtain ⟨c, rfl, hc⟩ := e3 z (by simp)
          obtain ⟨d, rfl, hd⟩ := e3 u (by simp)
          exact ⟨a, b, c, d, rest, rfl, ha, hb, hc, hd⟩
        | [], e1, e2, _ => rw [← e1] at e2; exact absurd e2 (by decide)
        | [_], e1, e2, _ => rw [← e1] at e2; exact absurd e2 (by show ¬ ((1 : Nat) : Int) = 4; decide)
        | [_, _], e1, e2, _ => rw [← e1] at e2; exact absurd e2 (by show ¬ ((2 : Nat) : Int) = 4; decide)
        | [_, _, _], e1, e2, _ => rw [← e1] at e2; exact absurd e2 (by show ¬ ((3 : Nat) : Int) = 4; decide)
      refine sv_ifsF (m1 := m) (eb_orF (eb_notT (by repeat' trivial)) (eb_notT (eb_cast (eb_val (ev_are (ea_cons (hsl _ rfl) (ea_cons ev_int (ea_cons (ev_un ev_int o_neg) (ea_cons ev_int ea_nil)))) (by decide))) hh))) ?_
      refine sv_seq (m1 := m) (sv_asg (hsl _ rfl) (gv_tup (gvs_cons gv_name (gvs_cons gv_name (gvs_cons gv_name (gvs_cons gv_name gvs_nil)))) rfl)) ?_
      refine sv_ret0 (ev_cast (ev_and (ev_op (ev_op (ev_var rfl nofun) (ev_var rfl nofun) (o_mulII (mul_ok (by omega) (by omega)))) (ev_op (ev_var rfl nofun) (ev_var rfl nofun) (o_mulII (mul_ok (by omega) (by omega)))) o_neI) fun _ => ev_are (ea_cons (hsl2 _ rfl) (ea_cons ev_int (ea_cons (ev_un ev_int o_neg) (ea_cons ev_int ea_nil)))) (by decide)) ?_)
      unfold matrixM
      rw [hh]
      rfl
  | _ => exact sv_ifsT (m1 := m) (eb_orT (eb_notF (by repeat' trivial))) rfl (sv_ret0 ev_bl)
end
end K31

set_option Elab.async false
set_option linter.all false
set_option maxRecDepth 100000
set_option maxHeartbeats 4000000
namespace K31
variable [DL.Tbs]
open PySem PySem.Spec PyProof.Rows L2 DL
section
variable {P : Program} {w : World} {K : PySem.W.Frag} {mg : Str → Option Value} {base : Heap}
local macro_rules | `(tactic| trivial) => `(tactic| first
  | exact ev_int | exact ev_bl | exact ev_str | exact ev_non | exact ev_ty
  | exact ev_var rfl nofun
  | exact ea_nil
  | apply ea_cons
  | refine ev_and ?_ (fun _ => ?_)
  | refine ev_or ?_ (fun _ => ?_)
  | refine ev_not ?_
  | apply ev_cb
  | apply ev_op
  | apply ev_un
  | refine eb_val ?_ | refine eb_test ?_
  | refine eb_and ?_ (fun _ => ?_)
  | refine eb_or ?_ (fun _ => ?_)
  | refine eb_not ?_
  | exact c_tup | exact c_int | exact c_bool | exact c_str
  | exact c_len rfl
  | exact o_neg | exact o_i0b | exact o_addI | exact o_eqI | exact o_neI | exact o_eqS | exact o_neS)

theorem ev_shape {E : XK} {es : List Sl} {m m1 : M} {t : TA} {v : PyData} (h : EvA K t es m [.d v] m1) (hk : okS v = true) : EvE K (tCall (spD K 1 (pureG R_is_shape)) [] E t) es m (.d (.bool (shapeM v))) m1 := ev_pure h (ds := [v]) rfl ⟨v, rfl, hk, rfl⟩ rfl
theorem ev_colour {E : XK} {es : List Sl} {m m1 : M} {t : TA} {v : PyData} (h : EvA K t es m [.d v] m1) : EvE K (tCall (spD K 1 (pureG R_is_colour)) [] E t) es m (.d (.bool (colourM v))) m1 := ev_pure h (ds := [v]) rfl ⟨v, rfl, rfl⟩ rfl
theorem ev_opacity {E : XK} {es : List Sl} {m m1 : M} {t : TA} {v : PyData} (h : EvA K t es m [.d v] m1) : EvE K (tCall (spD K 1 (pureG R_is_opacity)) [] E t) es m (.d (.bool (opacityM v))) m1 := ev_pure h (ds := [v]) rfl ⟨v, rfl, rfl⟩ rfl
theorem ev_matrix {E : XK} {es : List Sl} {m m1 : M} {t : TA} {v : PyData} (h : EvA K t es m [.d v] m1) : EvE K (tCall (spD K 1 (pureG R_is_matrix)) [] E t) es m (.d (.bool (matrixM v))) m1 := ev_pure h (ds := [v]) rfl ⟨v, rfl, rfl⟩ rfl
abbrev R_is_fill : List PyData → PyData → Prop := fun ds y => ∃ xs, ds = [.tuple xs] ∧ okAt xs 1 = true ∧ y = .bool (fillM xs)
abbrev R_is_rub : List PyData → PyData → Prop := fun ds y => ∃ xs, ds = [.tuple xs] ∧ okAt xs 1 = true ∧ y = .bool (rubM xs)
theorem c_is_fill (T : Blt mg) (TD : DefT K mg "is_fill" st_is_fill ["value"]) (D_is_shape : PureC P w K mg base 4 "is_shape" ["value"] R_is_shape) (D_is_colour : PureC P w K mg base 3 "is_colour" ["value"] R_is_colour) (D_is_opacity : PureC P w K mg base 3 "is_opacity" ["value"] R_is_opacity) :
    PureC P w K mg base 5 "is_fill" ["value"] R_is_fill := by
  refine mkPure TD S_is_fill fun f cdv A outer s H E hr => ?_
  have hu := hr.units
  refine ⟨_, (pss_one (ps_ret (pe_and (pe_cmpR (kEq (K := K) hu) (pe_callB (kLen (K := K)) (by rfl) T.b_len (by decide +kernel) (pa_cons (pv 0) pa_nil)) pe_int (nomark _)) (pe_and (pe_def D_is_shape (hr.mono (by omega)) (by rfl) pass0 (pa_cons (pe_ix (kIx (K := K)) (pv 0) pe_int (fun _ _ => rfl)) pa_nil)) (pe_and (pe_def D_is_colour (hr.mono (by omega)) (by rfl) pass0 (pa_cons (pe_ix (kIx (K := K)) (pv 0) pe_int (fun _ _ => rfl)) pa_nil)) (pe_one (pe_def D_is_opacity (hr.mono (by omega)) (by rfl) pass0 (pa_cons (pe_ix (kIx (K := K)) (pv 0) pe_int (fun _ _ => rfl)) pa_nil)))))))), ?_⟩
  rintro ds m y hl ⟨xs, rfl, hk, rfl⟩
  refine sv_ret0 ?_
  by_cases h4 : xs.length = 4
  · obtain ⟨k, a, b, c, rfl⟩ : ∃ k a b c, xs = [k, a, b, c] := by
      match xs, h4 with
      | [k, a, b, c], _ => exact ⟨k, a, b, c, rfl⟩
    refine ev_andT (by repeat' trivial) ?_
    exact ev_and (ev_shape (arg1 (ev_at (j := 1) rfl rfl rfl)) hk) fun _ => ev_and (ev_colour (arg1 (ev_at (j := 2) rfl rfl rfl))) fun _ => ev_opacity (arg1 (ev_at (j := 3) rfl rfl rfl))
  · have e : fillM xs = false := by
      unfold fillM
      split
      · exact absurd rfl h4
      · rfl
    rw [e]
    refine ev_andF (ev_cast (r := .d (.bool ((xs.length : Int) == 4))) (by repeat' trivial) ?_)
    rw [beq_eq_false_iff_ne.mpr (by omega)]
theorem c_is_rub (T : Blt mg) (TD : DefT K mg "is_rub" st_is_rub ["value"]) (D_is_shape : PureC P w K mg base 4 "is_shape" ["value"] R_is_shape) (D_is_opacity : PureC P w K mg base 3 "is_opacity" ["value"] R_is_opacity) :
    PureC P w K mg base 5 "is_rub" ["value"] R_is_rub := by
  refine mkPure TD S_is_rub fun f cdv A outer s H E hr => ?_
  have hu := hr.units
  refine ⟨_, (pss_one (ps_ret (pe_and (pe_cmpR (kEq (K := K) hu) (pe_callB (kLen (K := K)) (by rfl) T.b_len (by decide +kernel) (pa_cons (pv 0) pa_nil)) pe_int (nomark _)) (pe_and (pe_def D_is_shape (hr.mono (by omega)) (by rfl) pass0 (pa_cons (pe_ix (kIx (K := K)) (pv 0) pe_int (fun _ _ => rfl)) pa_nil)) (pe_one (pe_def D_is_opacity (hr.mono (by omega)) (by rfl) pass0 (pa_cons (pe_ix (kIx (K := K)) (pv 0) pe_int (fun _ _ => rfl)) pa_nil))))))), ?_⟩
  rintro ds m y hl ⟨xs, rfl, hk, rfl⟩
  refine sv_ret0 ?_
  by_cases h4 : xs.length = 3
  · obtain ⟨k, a, b, rfl⟩ : ∃ k a b, xs = [k, a, b] := by
      match xs, h4 with
      | [k, a, b], _ => exact ⟨k, a, b, rfl⟩
    refine ev_andT (by repeat' trivial) ?_
    exact ev_and (ev_shape (arg1 (ev_at (j := 1) rfl rfl rfl)) hk) fun _ => ev_opacity (arg1 (ev_at (j := 2) rfl rfl rfl))
  · have e : rubM xs = false := by
      unfold rubM
      split
      · exact absurd rfl h4
      · rfl
    rw [e]
    refine ev_andF (ev_cast (r := .d (.bool ((xs.length : Int) == 3))) (by repeat' trivial) ?_)
    rw [beq_eq_false_iff_ne.mpr (by omega)]

/-! ### groups within groups -/
def okLs (n : Nat) (v : PyData) : Bool := match v with
  | .tuple ls => ls.all (okL n)
  | _ => true
abbrev R_layers (n : Nat) : List PyData → PyData → Prop := fun ds y => ∃ v, ds = [v, .int n] ∧ okLs n v = true ∧ y = .bool (layersOf (nestedM n) v)
abbrev R_nested (n : Nat) : List PyData → PyData → Prop := fun ds y => ∃ v, ds = [v, .int n] ∧ okL n v = true ∧ y = .bool (nestedM n v)
def groupN (n : Nat) (xs : List PyData) : Bool := match n with
  | 0 => false
  | n + 1 => groupOf (nestedM n) xs
def okG (n : Nat) (xs : List PyData) : Bool := match n with
  | 0 => true
  | n + 1 => okAt xs 3 && (match xs with
    | _ :: l :: _ => okLs n l
    | _ => true)
abbrev R_group (n : Nat) : List PyData → PyData → Prop := fun ds y => ∃ xs, ds = [.tuple xs, .int n] ∧ okG n xs = true ∧ y = .bool (groupN n xs)

theorem c_layers (T : Blt mg) (TD : DefT K mg "are_layers" st_are_layers ["value", "deepest"]) {n k : Nat} (D_is_nested_layer : PureC P w K mg base k "is_nested_layer" ["value", "deepest"] (R_nested n)) (h_MOST_LAYERS : ∃ t, mg "MOST_LAYERS" = some (.int 4 t)) :
    PureC P w K mg base (k + 1) "are_layers" ["value", "deepest"] (R_layers n) := by
  refine mkPure TD S_are_layers fun f cdv A outer s H E hr => ?_
  refine ⟨_, (pss_one (ps_ret (pe_and (pe_callB (kIsi (K := K)) (by rfl) T.b_isinstance (by decide +kernel) (pa_cons (pv 0) (pa_cons (pe_bltn (v := .ty "tuple") (u := .type "tuple") (by rfl) T.b_tuple (by decide +kernel) rfl) pa_nil))) (pe_and (pe_cmpR op_le (pe_callB (kLen (K := K)) (by rfl) T.b_len (by decide +kernel) (pa_cons (pv 0) pa_nil)) (pe_glob (v := .int 4) (by rfl) h_MOST_LAYERS.choose_spec ⟨_, rfl⟩) (nomark _)) (pe_one (pe_callB (kAll (K := K) rfl) (by rfl) T.b_all (by decide +kernel) (pa_cons (pe_lc (own := [("layer", 2)]) (by rfl) S_are_layers.nd (kSeq (K := K) (pv 0)) (blkOk_by (N := N_are_layers) (sc := defScope st_are_layers) (by decide +kernel)) (fun _ _ _ _ _ => pg_name (i := 2) S_are_layers.nd rfl (by first | exact Or.inl rfl | exact Or.inr rfl)) (fun _ _ _ _ _ => pts_nil) (fun _ _ _ _ _ => (pe_def D_is_nested_layer (hr.mono (by omega)) (by rfl) pass0 (pa_cons (pv 2) (pa_cons (pv 1) pa_nil))))) pa_nil))))))), ?_⟩
  rintro ds m y hl ⟨v, rfl, hk, rfl⟩
  refine sv_ret0 ?_
  cases v with
  | tuple ls =>
    refine ev_andT (by repeat' trivial) (ev_and (by repeat' trivial) fun hlen => ?_)
    refine ev_all (ei_seqT (by repeat' trivial)) (by have := of_decide_eq_true hlen; omega) fun d hd => ?_
    exact ev_pure (arg2 (ev_var rfl nofun) (ev_var rfl nofun)) (ds := [d, .int n]) rfl ⟨d, rfl, List.all_eq_true.mp hk d hd, rfl⟩ rfl
  | _ => exact ev_andF (by repeat' trivial)

theorem c_group {k n : Nat} (T : Blt mg) (TD : DefT K mg "is_group" st_is_group ["value", "deepest"]) {g : List Sl → M → Sl → M → Prop} (D_are_layers : DefC P w K mg base CX0 k "are_layers" ["value", "deepest"] (spD K 2 g))
    (hg : ∀ j, n = j + 1 → g = pureG (R_layers j)) (h4 : 4 ≤ k)
    (D_is_shape : PureC P w K mg base 4 "is_shape" ["value"] R_is_shape) (D_is_opacity : PureC P w K mg base 3 "is_opacity" ["value"] R_is_opacity) (D_is_matrix : PureC P w K mg base 3 "is_matrix" ["value"] R_is_matrix) :
    PureC P w K mg base (k + 1) "is_group" ["value", "deepest"] (R_group n) := by
  refine mkPure TD S_is_group fun f cdv A outer s H E hr => ?_
  have hu := hr.units
  refine ⟨_, (pss_cons (ps_if (PW.pt (pw_or (pt_cmpR (kNe (K := K) hu) (pe_callB (kLen (K := K)) (by rfl) T.b_len (by decide +kernel) (pa_cons (pv 0) pa_nil)) pe_int (nomark _)) (pw_or1 (pt_cmpR (kEq (K := K) hu) (pv 1) pe_int (nomark _))))) (pss_one (ps_ret pe_bl)) pss_nil)
      (pss_cons (ps_asg (pv 0) (kTupG (K := K) rfl (pgs_cons (pg_name (i := 2) S_is_group.nd rfl (Or.inl rfl)) (pgs_cons (pg_name (i := 3) S_is_group.nd rfl (Or.inl rfl)) (pgs_cons (pg_name (i := 4) S_is_group.nd rfl (Or.inl rfl)) (pgs_cons (pg_name (i := 5) S_is_group.nd rfl (Or.inl rfl)) (pgs_cons (pg_name (i := 6) S_is_group.nd rfl (Or.inl rfl)) pgs_nil)))))))
      (pss_one (ps_ret (pe_and (pe_def D_are_layers (hr.mono (by omega)) (by rfl) pass0 (pa_cons (pv 3) (pa_cons (pe_op op_sub (pv 1) pe_int) pa_nil))) (pe_and (pe_def D_is_opacity (hr.mono (by omega)) (by rfl) pass0 (pa_cons (pv 4) pa_nil)) (pe_and (pe_or (pe_cmpR op_isN (pv 5) pe_non (nomark _)) (pe_one (pe_def D_is_shape (hr.mono (by omega)) (by rfl) pass0 (pa_cons (pv 5) pa_nil)))) (pe_one (pe_def D_is_matrix (hr.mono (by omega)) (by rfl) pass0 (pa_cons (pv 6) pa_nil)))))))))), ?_⟩
  rintro ds m y hl ⟨xs, rfl, hk, rfl⟩
  by_cases h5 : xs.length = 5
  · obtain ⟨a, l, o, c, mt, rfl⟩ : ∃ a l o c mt, xs = [a, l, o, c, mt] := by
      match xs, h5 with
      | [a, l, o, c, mt], _ => exact ⟨a, l, o, c, mt, rfl⟩
    cases n with
    | zero => exact sv_ifsT (m1 := m) (eb_orF (by repeat' trivial) (by repeat' trivial)) rfl (sv_ret0 ev_bl)
    | succ n =>
      have e := hg n rfl
      subst e
      have hk : (okAt [a, l, o, c, mt] 3 && okLs n l) = true := hk
      rw [Bool.and_eq_true] at hk
      refine sv_ifsF (m1 := m) (eb_orF (by repeat' trivial) (eb_cast (b := (((n + 1 : Nat) : Int) == 0)) (by repeat' trivial) (beq_eq_false_iff_ne.mpr (by omega)))) ?_
      refine sv_seq (m1 := m) (sv_asg (ev_var rfl nofun) (gv_tup (gvs_cons gv_name (gvs_cons gv_name (gvs_cons gv_name (gvs_cons gv_name (gvs_cons gv_name gvs_nil))))) rfl)) ?_
      refine sv_ret0 ?_
      refine ev_and (ev_pure (arg2 (ev_var rfl nofun) (ev_op (ev_var rfl nofun) ev_int o_i0)) (ds := [l, .int n]) ?_ ⟨l, rfl, hk.2, rfl⟩ rfl) fun _ => ?_
      · show [Sl.d l, Sl.d (.int (((n + 1 : Nat) : Int) - 1))] = [Sl.d l, Sl.d (.int (n : Int))]
        rw [show ((n + 1 : Nat) : Int) - 1 = (n : Int) by omega]
      · refine ev_and (ev_opacity (arg1 (ev_var rfl nofun))) fun _ => ?_
        refine ev_and (ev_or (ev_op (ev_var rfl nofun) ev_non o_isN) fun _ => ev_shape (arg1 (ev_var rfl nofun)) hk.1) fun _ => ?_
        exact ev_matrix (arg1 (ev_var rfl nofun))
  · have e : groupN n xs = false := by
      cases n with
      | zero => rfl
      | succ n =>
        show groupOf (nestedM n) xs = false
        unfold groupOf
        split
        · exact absurd rfl h5
        · rfl
    rw [e]
    refine sv_ifsT (m1 := m) (eb_orT (eb_cast (b := !((xs.length : Int) == 5)) (by repeat' trivial) ?_)) rfl (sv_ret0 ev_bl)
    rw [beq_eq_false_iff_ne.mpr (by omega)]
    rfl

theorem c_nested {k n : Nat} (T : Blt mg) (TD : DefT K mg "is_nested_layer" st_is_nested_layer ["value", "deepest"]) (h5 : 5 ≤ k) (D_is_fill : PureC P w K mg base 5 "is_fill" ["value"] R_is_fill) (D_is_rub : PureC P w K mg base 5 "is_rub" ["value"] R_is_rub)
    (D_is_group : PureC P w K mg base k "is_group" ["value", "deepest"] (R_group n)) : PureC P w K mg base (k + 1) "is_nested_layer" ["value", "deepest"] (R_nested n) := by
  refine mkPure TD S_is_nested_layer fun f cdv A outer s H E hr => ?_
  have hu := hr.units
  refine ⟨_, (pss_cons (ps_if (PW.pt (pw_or (pt_not (pt_val (pe_callB (kIsi (K := K)) (by rfl) T.b_isinstance (by decide +kernel) (pa_cons (pv 0) (pa_cons (pe_bltn (v := .ty "tuple") (u := .type "tuple") (by rfl) T.b_tuple (by decide +kernel) rfl) pa_nil))))) (pw_or1 (pt_cmpR (kEq (K := K) hu) (pe_callB (kLen (K := K)) (by rfl) T.b_len (by decide +kernel) (pa_cons (pv 0) pa_nil)) pe_int (nomark _))))) (pss_one (ps_ret pe_bl)) pss_nil)
      (pss_cons (ps_if (pt_cmpR (kEq (K := K) hu) (pe_ix (kIx (K := K)) (pv 0) pe_int (fun _ _ => rfl)) pe_str (nomark _)) (pss_one (ps_ret (pe_def D_is_fill (hr.mono (by omega)) (by rfl) pass0 (pa_cons (pv 0) pa_nil)))) pss_nil)
      (pss_cons (ps_if (pt_cmpR (kEq (K := K) hu) (pe_ix (kIx (K := K)) (pv 0) pe_int (fun _ _ => rfl)) pe_str (nomark _)) (pss_one (ps_ret (pe_def D_is_rub (hr.mono (by omega)) (by rfl) pass0 (pa_cons (pv 0) pa_nil)))) pss_nil)
      (pss_one (ps_ret (pe_and (pe_cmpR (kEq (K := K) hu) (pe_ix (kIx (K := K)) (pv 0) pe_int (fun _ _ => rfl)) pe_str (nomark _)) (pe_one (pe_def D_is_group (hr.mono (by omega)) (by rfl) pass0 (pa_cons (pv 0) (pa_cons (pv 1) pa_nil)))))))))), ?_⟩
  rintro ds m y hl ⟨v, rfl, hk, rfl⟩
  cases v with
  | tuple xs =>
    cases xs with
    | nil =>
      have e : nestedM n (.tuple []) = false := by
        unfold nestedM
        rfl
      rw [e]
      exact sv_ifsT (m1 := m) (eb_orF (eb_notT (by repeat' trivial)) (by repeat' trivial)) rfl (sv_ret0 ev_bl)
    | cons x xs =>
      cases x with
      | str k =>
        obtain ⟨k0, k2, k3⟩ := okL_get hk
        have k0 : k ≠ "group" → okAt (.str k :: xs) 1 = true := k0
        have hne : ((((PyData.str k :: xs).length : Nat) : Int) == 0) = false := beq_eq_false_iff_ne.mpr (by rw [List.length_cons]; omega)
        refine sv_ifsF (m1 := m) (eb_orF (eb_notT (by repeat' trivial)) (eb_cast (b := ((((PyData.str k :: xs).length : Nat) : Int) == 0)) (by repeat' trivial) hne)) ?_
        have hat : ∀ es : List Sl, es[0]? = some (.d (.tuple (.str k :: xs))) → EvE K (tOp (rIx K) (tVar 0) (tC (.int 0))) es m (.d (.str k)) m := fun es he => ev_at (j := 0) he rfl rfl
        by_cases f1 : k = "fill"
        · refine sv_ifsT (m1 := m) (eb_cast (eb_test (ev_op (hat _ rfl) ev_str o_eqS)) (decide_eq_true f1)) rfl (sv_ret0 ?_)
          have e : nestedM n (.tuple (.str k :: xs)) = fillM (.str k :: xs) := by
            unfold nestedM
            rw [if_pos f1]
          rw [e]
          exact ev_pure (arg1 (ev_var rfl nofun)) (ds := [_]) rfl ⟨_, rfl, k0 (by rw [f1]; decide), rfl⟩ rfl
        · refine sv_ifsF (m1 := m) (eb_cast (eb_test (ev_op (hat _ rfl) ev_str o_eqS)) (decide_eq_false f1)) ?_
          by_cases f2 : k = "rub"
          · refine sv_ifsT (m1 := m) (eb_cast (eb_test (ev_op (hat _ rfl) ev_str o_eqS)) (decide_eq_true f2)) rfl (sv_ret0 ?_)
            have e : nestedM n (.tuple (.str k :: xs)) = rubM (.str k :: xs) := by
              unfold nestedM
              rw [if_neg f1, if_pos f2]
            rw [e]
            exact ev_pure (arg1 (ev_var rfl nofun)) (ds := [_]) rfl ⟨_, rfl, k0 (by rw [f2]; decide), rfl⟩ rfl
          · refine sv_ifsF (m1 := m) (eb_cast (eb_test (ev_op (hat _ rfl) ev_str o_eqS)) (decide_eq_false f2)) (sv_ret0 ?_)
            have e : nestedM n (.tuple (.str k :: xs)) = (decide (k = "group") && groupN n (.str k :: xs)) := by
              cases n <;> (unfold nestedM; rw [if_neg f1, if_neg f2]; rfl)
            rw [e]
            refine ev_and (ev_op (hat _ rfl) ev_str o_eqS) fun hg => ev_pure (arg2 (ev_var rfl nofun) (ev_var rfl nofun)) (ds := [_, _]) rfl ⟨_, rfl, ?_, rfl⟩ rfl
            cases n with
            | zero => rfl
            | succ n =>
              show (okAt xs 2 && _) = true
              rw [k2, Bool.true_and]
              cases xs with
              | nil => rfl
              | cons l r =>
                cases l with
                | tuple ls => exact k3 n rfl (of_decide_eq_true hg)
                | _ => rfl
      | _ => exact absurd hk (by unfold okL; exact Bool.false_ne_true)
  | _ =>
    have e : ∀ v, isTup v = false → nestedM n v = false := fun v hv => by
      cases v with
      | tuple _ => cases hv
      | _ => unfold nestedM; rfl
    rw [e _ rfl]
    exact sv_ifsT (m1 := m) (eb_orT (eb_notF (by repeat' trivial))) rfl (sv_ret0 ev_bl)
end
end K31

set_option Elab.async false
set_option linter.all false
set_option maxRecDepth 100000
set_option maxHeartbeats 4000000
namespace K31
variable [DL.Tbs]
open PySem PySem.Spec PyProof.Rows L2 DL
/-! ### what a valid layer is made of -/
theorem nested_get {n : Nat} {v : PyData} (h : nestedM n v = true) :
    (∃ k s r, v = .tuple (.str k :: s :: r) ∧ k ≠ "group" ∧ shapeM s = true) ∨
    (∃ j ls o c mt, n = j + 1 ∧ v = .tuple [.str "group", .tuple ls, o, c, mt] ∧ ls.length ≤ 4 ∧ ls.all (nestedM j) = true ∧ (isNone c = true ∨ shapeM c = true)) := by
  cases v with
  | tuple xs =>
    cases xs with
    | cons x xs =>
      cases x with
      | str k =>
        by_cases f1 : k = "fill"
        · have h' : fillM (.str k :: xs) = true := by
            unfold nestedM at h
            rw [if_pos f1] at h
            exact h
          clear h
          rename _ => h
          unfold fillM at h
          split at h
          · rename_i q
            cases q
            rw [Bool.and_eq_true] at h
            exact .inl ⟨_, _, _, rfl, by rw [f1]; decide, h.1⟩
          · cases h
        · by_cases f2 : k = "rub"
          · have h' : rubM (.str k :: xs) = true := by
              unfold nestedM at h
              rw [if_neg f1, if_pos f2] at h
              exact h
            clear h
            rename _ => h
            unfold rubM at h
            split at h
            · rename_i q
              cases q
              rw [Bool.and_eq_true] at h
              exact .inl ⟨_, _, _, rfl, by rw [f2]; decide, h.1⟩
            · cases h
          · have h' : (decide (k = "group") && groupN n (.str k :: xs)) = true := by
              cases n <;> (unfold nestedM at h; rw [if_neg f1, if_neg f2] at h; exact h)
            clear h
            rw [Bool.and_eq_true] at h'
            obtain ⟨f3, h⟩ := h'
            have f3 := of_decide_eq_true f3
            subst f3
            cases n with
            | zero => cases h
            | succ j =>
              have h' : groupOf (nestedM j) (.str "group" :: xs) = true := h
              clear h
              rename _ => h
              unfold groupOf at h
              split at h
              · rename_i l o c mt q
                cases q
                simp only [Bool.and_eq_true, Bool.or_eq_true] at h
                obtain ⟨hl, _, hc, _⟩ := h
                cases l with
                | tuple ls =>
                  have hl : (decide ((ls.length : Int) ≤ 4) && ls.all (nestedM j)) = true := hl
                  rw [Bool.and_eq_true] at hl
                  exact .inr ⟨j, ls, o, c, mt, rfl, rfl, by have := of_decide_eq_true hl.1; omega, hl.2, hc⟩
                | _ => cases hl
              · cases h
      | _ => unfold nestedM at h; cases h
    | nil => unfold nestedM at h; cases h
  | _ => unfold nestedM at h; cases h
theorem shape_get {v : PyData} (h : shapeM v = true) : ∃ r ls, v = .tuple [r, .tuple ls] ∧ ls.length ≤ 3 ∧ ∀ l, l ∈ ls → ∃ ps, l = .tuple ps ∧ ps.length ≤ 8 := by
  unfold shapeM at h
  split at h
  · rename_i r l
    rw [Bool.and_eq_true] at h
    have h := h.2
    cases l with
    | tuple ls =>
      have h : ((decide ((1 : Int) ≤ (ls.length : Int)) && decide ((ls.length : Int) ≤ 3)) && ls.all loopM) = true := h
      simp only [Bool.and_eq_true, List.all_eq_true] at h
      refine ⟨r, ls, rfl, by have := of_decide_eq_true h.1.2; omega, fun l hl => ?_⟩
      have q := h.2 l hl
      cases l with
      | tuple ps =>
        have q : ((decide ((3 : Int) ≤ (ps.length : Int)) && decide ((ps.length : Int) ≤ 8)) && ps.all fun p => areM p 2 (-9) 9) = true := q
        simp only [Bool.and_eq_true] at q
        exact ⟨ps, rfl, by have := of_decide_eq_true q.1.2; omega⟩
      | _ => cases q
    | _ => cases h
  · cases h

/-! ### the shapes of layers, their points -/
def clipOf (c : PyData) : List PyData := if isNone c then [] else [c]
def shapesOf (f : List PyData → List PyData) (v : PyData) : List PyData := match v with
  | .tuple (.str k :: s :: r) => if k = "group" then (match s, r with
    | .tuple ls, [_, c, _] => f ls ++ clipOf c
    | _, _ => []) else [s]
  | _ => []
def shapesM : Nat → List PyData → List PyData
  | 0, ls => ls.flatMap (shapesOf fun _ => [])
  | n + 1, ls => ls.flatMap (shapesOf (shapesM n))
def shapesJ (n : Nat) : List PyData → List PyData := match n with
  | 0 => fun _ => []
  | n + 1 => shapesM n
theorem shapesM_eq (n : Nat) (ls : List PyData) : shapesM n ls = ls.flatMap (shapesOf (shapesJ n)) := by cases n <;> rfl
def cap : Nat → Nat
  | 0 => 1
  | n + 1 => 4 * cap n + 1
theorem shapes_cap : ∀ (n : Nat) (ls : List PyData), ls.all (nestedM n) = true → (shapesM n ls).length ≤ ls.length * cap n
  | n, [], _ => by rw [shapesM_eq]; simp
  | n, v :: ls, h => by
    rw [List.all_cons, Bool.and_eq_true] at h
    have ih := shapes_cap n ls h.2
    rw [shapesM_eq] at ih ⊢
    rw [List.flatMap_cons, List.length_append, List.length_cons, Nat.add_mul, Nat.one_mul, Nat.add_comm]
    refine Nat.add_le_add ih ?_
    rcases nested_get h.1 with ⟨k, s, r, rfl, hk, _⟩ | ⟨j, l2, o, c, mt, rfl, rfl, h4, ha, _⟩
    · show (if k = "group" then _ else [s]).length ≤ _
      rw [if_neg hk]
      cases n with
      | zero => exact Nat.le_refl _
      | succ n => show 1 ≤ 4 * cap n + 1; omega
    · have e : shapesOf (shapesJ (j + 1)) (.tuple [.str "group", .tuple l2, o, c, mt]) = shapesM j l2 ++ clipOf c := by
        simp only [shapesOf, shapesJ, if_true]
      rw [e, List.length_append]
      have i2 := shapes_cap j l2 ha
      have i3 : l2.length * cap j ≤ 4 * cap j := Nat.mul_le_mul_right _ h4
      have i4 : (clipOf c).length ≤ 1 := by unfold clipOf; split <;> simp
      show _ ≤ 4 * cap j + 1
      omega
theorem shapes_ok : ∀ (n : Nat) (ls : List PyData), ls.all (nestedM n) = true → ∀ s, s ∈ shapesM n ls → shapeM s = true
  | n, [], _, s, hs => by rw [shapesM_eq] at hs; simp at hs
  | n, v :: ls, h, s, hs => by
    rw [List.all_cons, Bool.and_eq_true] at h
    rw [shapesM_eq, List.flatMap_cons, List.mem_append] at hs
    rcases hs with hs | hs
    · rcases nested_get h.1 with ⟨k, s', r, rfl, hk, h1⟩ | ⟨j, l2, o, c, mt, rfl, rfl, h4, ha, hc⟩
      · have hs : s ∈ (if k = "group" then _ else [s']) := hs
        rw [if_neg hk] at hs
        rw [List.mem_singleton.mp hs]
        exact h1
      · have e : shapesOf (shapesJ (j + 1)) (.tuple [.str "group", .tuple l2, o, c, mt]) = shapesM j l2 ++ clipOf c := by
          simp only [shapesOf, shapesJ, if_true]
        rw [e, List.mem_append] at hs
        rcases hs with hs | hs
        · exact shapes_ok j l2 ha s hs
        · unfold clipOf at hs
          rcases hc with hc | hc
          · rw [if_pos hc] at hs
            simp at hs
          · split at hs
            · simp at hs
            · rw [List.mem_singleton.mp hs]
              exact hc
    · exact shapes_ok n ls h.2 s (by rw [shapesM_eq]; exact hs)
def loopsOf (s : PyData) : List PyData := match s with
  | .tuple [_, .tuple ls] => ls
  | _ => []
def lenI (l : PyData) : Int := match l with
  | .tuple ps => (ps.length : Int)
  | _ => 0
def ptsM (ss : List PyData) : Int := (ss.flatMap fun s => (loopsOf s).map lenI).sum

section
variable {P : Program} {w : World} {K : PySem.W.Frag} {mg : Str → Option Value} {base : Heap}
local macro_rules | `(tactic| trivial) => `(tactic| first
  | exact ev_int | exact ev_bl | exact ev_str | exact ev_non | exact ev_ty
  | exact ev_var rfl nofun
  | exact ea_nil
  | apply ea_cons
  | refine ev_and ?_ (fun _ => ?_)
  | refine ev_or ?_ (fun _ => ?_)
  | refine ev_not ?_
  | apply ev_cb
  | apply ev_op
  | apply ev_un
  | refine eb_val ?_ | refine eb_test ?_
  | refine eb_and ?_ (fun _ => ?_)
  | refine eb_or ?_ (fun _ => ?_)
  | refine eb_not ?_
  | exact c_tup | exact c_int | exact c_bool | exact c_str
  | exact c_len rfl
  | exact o_neg | exact o_i0b | exact o_addI | exact o_eqI | exact o_neI | exact o_eqS | exact o_neS)

abbrev G_list_shapes (n : Nat) : List Sl → M → List PyData → M → Prop := fun rs m ds m' => ∃ ls, rs = [.d (.tuple ls)] ∧ ls.length ≤ 4 ∧ ls.all (nestedM n) = true ∧ ds = shapesM n ls ∧ m' = m
theorem c_list_shapes {k n : Nat} (T : Blt mg) (TD : DefT K mg "list_shapes" st_list_shapes ["layers"]) {g : List Sl → M → List PyData → M → Prop} (D_list_shapes : DefC P w K mg base CX0 k "list_shapes" ["layers"] (spL K 1 g)) (hg : ∀ j, n = j + 1 → g = G_list_shapes j) (hn : n ≤ 2) :
    DefC P w K mg base CX0 (k + 1) "list_shapes" ["layers"] (spL K 1 (G_list_shapes n)) := by
  refine mkDefL TD S_list_shapes rfl (by rintro rs m ds m' ⟨ls, _, _, _, _, rfl⟩; rfl) fun f cdv A outer s H E hr => ?_
  have hu := hr.units
  refine ⟨_, (pss_cons (ps_set (i := 1) S_list_shapes.nd rfl (Or.inl rfl) (pe_lst pa_nil))
      (pss_cons (ps_for PassesOwn.never rfl (kSeq (K := K) (pv 0)) (pg_name (i := 2) S_list_shapes.nd rfl (Or.inl rfl)) (pss_cons (ps_if (pt_cmpR (kNe (K := K) hu) (pe_ix (kIx (K := K)) (pv 2) pe_int (fun _ _ => rfl)) pe_str (nomark _)) (pss_cons (ps_expr (kBm (K := K) PySem.F.plainAttrs_list PySem.F.slot_list_append PySem.F.type_list_append mt_append (pv 1) (pa_cons (pe_ix (kIx (K := K)) (pv 2) pe_int (fun _ _ => rfl)) pa_nil)))
      (pss_one ps_continue)) pss_nil)
      (pss_cons (ps_expr (kBm (K := K) PySem.F.plainAttrs_list PySem.F.slot_list_extend PySem.F.type_list_extend mt_extend (pv 1) (pa_cons (pe_def D_list_shapes (hr.mono (by omega)) (by rfl) pass0 (pa_cons (pe_ix (kIx (K := K)) (pv 2) pe_int (fun _ _ => rfl)) pa_nil)) pa_nil)))
      (pss_one (ps_if (pt_cmpR op_notN (pe_ix (kIx (K := K)) (pv 2) pe_int (fun _ _ => rfl)) pe_non (nomark _)) (pss_one (ps_expr (kBm (K := K) PySem.F.plainAttrs_list PySem.F.slot_list_append PySem.F.type_list_append mt_append (pv 1) (pa_cons (pe_ix (kIx (K := K)) (pv 2) pe_int (fun _ _ => rfl)) pa_nil)))) pss_nil)))))
      (pss_one (ps_ret (pv 1))))), ?_⟩
  rintro rs m ds m' hl ⟨ls, rfl, h4, ha, rfl, rfl⟩
  have hcap : (shapesM n ls).length < 1000 := by
    have h1 := shapes_cap n ls ha
    have h2 : cap n ≤ 21 := by
      match n, hn with
      | 0, _ => decide
      | 1, _ => decide
      | 2, _ => decide
    have h3 : ls.length * cap n ≤ 4 * 21 := Nat.mul_le_mul h4 h2
    omega
  refine sv_seq (es1 := [.d (.tuple ls), .c m'.length, .no]) (m1 := m' ++ [[]]) (sv_cell el_new) ?_
  refine sv_forI (m1 := m' ++ [[]]) (fun k es m => ∃ z, es = [.d (.tuple ls), .c m'.length, z] ∧ m = m' ++ [shapesM n (ls.take k)]) (ei_seqT (ev_var (r := .d (.tuple ls)) rfl nofun)) (by exact ⟨.no, rfl, by rw [shapesM_eq]; rfl⟩) ?stp ?fin
  case stp =>
    intro k v es m hv hJ
    obtain ⟨z, rfl, rfl⟩ := hJ
    have hv1 : nestedM n v = true := List.all_eq_true.mp ha v (List.mem_of_getElem? hv)
    have el : shapesM n (ls.take (k + 1)) = shapesM n (ls.take k) ++ shapesOf (shapesJ n) v := by
      rw [shapesM_eq, shapesM_eq, List.take_add_one, hv, List.flatMap_append]
      simp
    have hlen : (shapesM n (ls.take (k + 1))).length < 1000 := by
      have e : shapesM n ls = shapesM n (ls.take (k + 1)) ++ shapesM n (ls.drop (k + 1)) := by
        rw [shapesM_eq, shapesM_eq, shapesM_eq, ← List.flatMap_append, List.take_append_drop]
      rw [e, List.length_append] at hcap
      omega
    refine ⟨[.d (.tuple ls), .c m'.length, .d v], m' ++ [shapesM n (ls.take (k + 1))], ?_, _, rfl, rfl⟩
    rw [el] at hlen ⊢
    generalize shapesM n (ls.take k) = acc at hlen ⊢
    rcases nested_get hv1 with ⟨k, s, r, rfl, hk, h1⟩ | ⟨j, l3, o, c, mt, rfl, rfl, h4, ha3, hc⟩
    · have es : shapesOf (shapesJ n) (.tuple (.str k :: s :: r)) = [s] := if_neg hk
      rw [es] at hlen ⊢
      rw [List.length_append] at hlen
      refine .inr ?_
      refine sv_ifsT (m1 := m' ++ [acc]) (eb_cast (eb_test (ev_op (ev_at (j := 0) rfl rfl rfl) ev_str o_neS)) (by rw [decide_eq_false hk]; rfl)) rfl ?_
      refine sv_seq (es1 := [.d (.tuple ls), .c m'.length, .d (.tuple (.str k :: s :: r))]) (m1 := m' ++ [acc ++ [s]]) ?_ sv_cont
      have q := sv_append (K := K) (n := m'.length) (es := [.d (.tuple ls), .c m'.length, .d (.tuple (.str k :: s :: r))]) (i := 1) (j := m'.length) (x := s) (ds := acc) rfl (ev_at (m := m' ++ [acc]) (i := 2) (j := 1) (k := 1) rfl rfl rfl) last_get ⟨_, last_get⟩ (by omega)
      rw [last_set] at q
      exact q
    · have es : shapesOf (shapesJ (j + 1)) (.tuple [.str "group", .tuple l3, o, c, mt]) = shapesM j l3 ++ clipOf c := by
        simp only [shapesOf, shapesJ, if_true]
      have e := hg j rfl
      subst e
      rw [es] at hlen ⊢
      rw [List.length_append, List.length_append] at hlen
      refine .inl ?_
      refine sv_ifsF (m1 := m' ++ [acc]) (eb_cast (eb_test (ev_op (ev_at (j := 0) rfl rfl rfl) ev_str o_neS)) rfl) ?_
      refine sv_seq (es1 := [.d (.tuple ls), .c m'.length, .d (.tuple [.str "group", .tuple l3, o, c, mt])]) (m1 := m' ++ [acc ++ shapesM j l3]) ?_ ?_
      · have q := sv_extend (K := K) (n := m'.length) (es := [.d (.tuple ls), .c m'.length, .d (.tuple [.str "group", .tuple l3, o, c, mt])]) (i := 1) (j := m'.length) (ys := shapesM j l3) (ds := acc) rfl
          (el_call (n := 1) (g := G_list_shapes j) (E := E0) (m := m' ++ [acc]) (arg1 (ev_at (i := 2) (j := 1) (k := 1) rfl rfl rfl)) ⟨l3, rfl, h4, ha3, rfl, rfl⟩ rfl) last_get ⟨_, last_get⟩ (by omega)
        rw [last_set] at q
        exact q
      · cases hn : isNone c with
        | true =>
          have e0 : clipOf c = [] := if_pos hn
          rw [e0, List.append_nil]
          exact sv_ifF (m1 := m' ++ [acc ++ shapesM j l3]) (eb_cast (eb_test (ev_op (ev_at (j := 3) rfl rfl rfl) ev_non o_notN)) (by rw [hn]; rfl)) sv_next
        | false =>
          have e0 : clipOf c = [c] := if_neg (by rw [hn]; exact Bool.false_ne_true)
          rw [e0] at hlen ⊢
          rw [← List.append_assoc]
          refine sv_ifT (m1 := m' ++ [acc ++ shapesM j l3]) (eb_cast (eb_test (ev_op (ev_at (j := 3) rfl rfl rfl) ev_non o_notN)) (by rw [hn]; rfl)) ?_
          have q := sv_append (K := K) (n := m'.length) (es := [.d (.tuple ls), .c m'.length, .d (.tuple [.str "group", .tuple l3, o, c, mt])]) (i := 1) (j := m'.length) (x := c) (ds := acc ++ shapesM j l3) rfl (ev_at (m := m' ++ [acc ++ shapesM j l3]) (i := 2) (j := 3) (k := 3) rfl rfl rfl) last_get ⟨_, last_get⟩ (by rw [List.length_append]; simp at hlen; omega)
          rw [last_set] at q
          exact q
  case fin =>
    intro es m hJ
    obtain ⟨z, rfl, rfl⟩ := hJ
    rw [List.take_length]
    exact sv_rtc rfl
end
end K31

set_option Elab.async false
set_option linter.all false
set_option maxRecDepth 100000
set_option maxHeartbeats 4000000
namespace K31
variable [DL.Tbs]
open PySem PySem.Spec PyProof.Rows L2 DL
def layerM (v : PyData) : Bool := nestedM 2 v && decide (ptsM (shapesM 2 [v]) ≤ 60)
def itemsOf (v : PyData) : List PyData := match v with
  | .tuple ls => ls
  | _ => []
def drawM (v : PyData) : Bool := layersOf (nestedM 2) v && decide (ptsM (shapesM 2 (itemsOf v)) ≤ 60)
theorem cap_le {n : Nat} (h : n ≤ 2) : cap n ≤ 21 := by
  match n, h with
  | 0, _ => decide
  | 1, _ => decide
  | 2, _ => decide
theorem flat_cap : ∀ (ss : List PyData), (∀ s, s ∈ ss → shapeM s = true) → (ss.flatMap fun s => (loopsOf s).map fun l => PyData.int (lenI l)).length ≤ 3 * ss.length
  | [], _ => by simp
  | s :: ss, h => by
    obtain ⟨r, ls, rfl, hl, _⟩ := shape_get (h s (by simp))
    have ih := flat_cap ss fun s hs => h s (by simp [hs])
    rw [List.flatMap_cons, List.length_append, List.length_cons, List.length_map]
    have e : loopsOf (.tuple [r, .tuple ls]) = ls := rfl
    rw [e]
    omega
theorem flat_ints (ss : List PyData) : (ss.flatMap fun s => (loopsOf s).map fun l => PyData.int (lenI l)) = (ss.flatMap fun s => (loopsOf s).map lenI).map .int := by
  induction ss with
  | nil => rfl
  | cons s ss ih =>
    rw [List.flatMap_cons, List.flatMap_cons, List.map_append, ih, List.map_map]
    rfl
section
variable {P : Program} {w : World} {K : PySem.W.Frag} {mg : Str → Option Value} {base : Heap}
local macro_rules | `(tactic| trivial) => `(tactic| first
  | exact ev_int | exact ev_bl | exact ev_str | exact ev_non | exact ev_ty
  | exact ev_var rfl nofun
  | exact ea_nil
  | apply ea_cons
  | refine ev_and ?_ (fun _ => ?_)
  | refine ev_or ?_ (fun _ => ?_)
  | refine ev_not ?_
  | apply ev_cb
  | apply ev_op
  | apply ev_un
  | refine eb_val ?_ | refine eb_test ?_
  | refine eb_and ?_ (fun _ => ?_)
  | refine eb_or ?_ (fun _ => ?_)
  | refine eb_not ?_
  | exact c_tup | exact c_int | exact c_bool | exact c_str
  | exact c_len rfl
  | exact o_neg | exact o_i0b | exact o_addI | exact o_eqI | exact o_neI | exact o_eqS | exact o_neS)

theorem lc2_pts {m : M} {x : Sl} : ∀ (ss : List PyData), (∀ s, s ∈ ss → shapeM s = true) →
    Lc2R K (gName 1) tYes (iSeq K (tOp (rIx K) (tVar 1) (tC (.int 1)))) (gName 2) tYes (tCB (fun xs H Q => ∃ x n, xs = [x] ∧ LenV K x H n ∧ Q (.int n) H) (tCons (tVar 2) tNil)) [x, .no, .no] [1, 2] [2] ss m (ss.flatMap fun s => (loopsOf s).map fun l => .int (lenI l)) m
  | [], _ => .nil
  | s :: ss, h => by
    obtain ⟨r, ls, rfl, hl, hp⟩ := shape_get (h s (by simp))
    rw [List.flatMap_cons]
    refine .yes (es2 := [x, .d (.tuple [r, .tuple ls]), .no]) (ds1 := ls) (m1 := m) (m2 := m) (m3 := m) gv_name (by simp) eb_yes (ei_seqT (ev_at (j := 1) rfl rfl rfl)) ?_ (lc2_pts ss fun s hs => h s (by simp [hs]))
    have e : loopsOf (.tuple [r, .tuple ls]) = ls := rfl
    rw [e]
    refine lcMap (by simp) fun d hd => ?_
    obtain ⟨ps, rfl, _⟩ := hp d hd
    exact ev_cb (arg1 (ev_var rfl nofun)) (c_len rfl)

abbrev R_add (n : Nat) : List PyData → PyData → Prop := fun ds y => ∃ ls, ds = [.tuple ls] ∧ ls.length ≤ 4 ∧ ls.all (nestedM n) = true ∧ y = .int (ptsM (shapesM n ls))
theorem c_add_points {k n : Nat} (T : Blt mg) (TD : DefT K mg "add_points" st_add_points ["layers"]) (D_list_shapes : DefC P w K mg base CX0 k "list_shapes" ["layers"] (spL K 1 (G_list_shapes n))) (hn : n ≤ 2) :
    PureC P w K mg base (k + 1) "add_points" ["layers"] (R_add n) := by
  refine mkPure TD S_add_points fun f cdv A outer s H E hr => ?_
  refine ⟨_, (pss_one (ps_ret (pe_callB (kSum (K := K) rfl) (by rfl) T.b_sum (by decide +kernel) (pa_cons (pe_lc2 (own := [("shape", 1), ("loop", 2)]) (vs1 := [2]) (by rfl) S_add_points.nd (kSeq (K := K) (pe_def D_list_shapes (hr.mono (by omega)) (by rfl) pass0 (pa_cons (pv 0) pa_nil))) (blkOk_by (N := N_add_points) (sc := defScope st_add_points) (by decide +kernel)) (by simp) (fun _ _ _ _ _ => pg_name (i := 1) S_add_points.nd rfl (by first | exact Or.inl rfl | exact Or.inr rfl)) (fun _ _ _ _ _ => pts_nil) (fun _ _ _ _ _ => (kSeq (K := K) (pe_ix (kIx (K := K)) (pv 1) pe_int (fun _ _ => rfl)))) (fun _ _ _ _ _ => pg_name (i := 2) S_add_points.nd rfl (by first | exact Or.inl rfl | exact Or.inr rfl)) (fun _ _ _ _ _ => pts_nil) (fun _ _ _ _ _ => (pe_callB (kLen (K := K)) (by rfl) T.b_len (by decide +kernel) (pa_cons (pv 2) pa_nil)))) pa_nil)))), ?_⟩
  rintro ds m y hl ⟨ls, rfl, h4, ha, rfl⟩
  have hok := shapes_ok n ls ha
  have hcap : (shapesM n ls).length ≤ 84 := by
    have h1 := shapes_cap n ls ha
    have h2 : cap n ≤ 21 := cap_le hn
    have h3 : ls.length * cap n ≤ 4 * 21 := Nat.mul_le_mul h4 h2
    exact Nat.le_trans h1 h3
  have h3 := flat_cap _ hok
  have q := lc2_pts (K := K) (m := m) (x := .d (.tuple ls)) (shapesM n ls) hok
  have q2 := el_d (el_lc2 (K := K) (vs := [1, 2]) (vs1 := [2]) (es := [.d (.tuple ls), .no, .no]) (ei_seqL (el_d (el_call (n := 1) (g := G_list_shapes n) (E := E0) (m := m) (arg1 (ev_var (i := 0) rfl nofun)) ⟨ls, rfl, h4, ha, rfl, rfl⟩ rfl))) q (Nat.le_trans h3 (by omega)))
  rw [flat_ints] at q2
  exact sv_ret0 (ev_cb (arg1 q2) c_sum)

abbrev R_is_layer : List PyData → PyData → Prop := fun ds y => ∃ v, ds = [v] ∧ okL 2 v = true ∧ y = .bool (layerM v)
abbrev R_is_drawing : List PyData → PyData → Prop := fun ds y => ∃ v, ds = [v] ∧ okLs 2 v = true ∧ y = .bool (drawM v)
theorem c_is_layer {k : Nat} (T : Blt mg) (TD : DefT K mg "is_layer" st_is_layer ["value"]) (D_is_nested_layer : PureC P w K mg base k "is_nested_layer" ["value", "deepest"] (R_nested 2)) (D_add_points : PureC P w K mg base k "add_points" ["layers"] (R_add 2))
    (h_DEEPEST : ∃ t, mg "DEEPEST" = some (.int 2 t)) (h_MOST_POINTS : ∃ t, mg "MOST_POINTS" = some (.int 60 t)) : PureC P w K mg base (k + 1) "is_layer" ["value"] R_is_layer := by
  refine mkPure TD S_is_layer fun f cdv A outer s H E hr => ?_
  refine ⟨_, (pss_one (ps_ret (pe_and (pe_def D_is_nested_layer (hr.mono (by omega)) (by rfl) pass0 (pa_cons (pv 0) (pa_cons (pe_glob (v := .int 2) (by rfl) h_DEEPEST.choose_spec ⟨_, rfl⟩) pa_nil))) (pe_one (pe_cmpR op_le (pe_def D_add_points (hr.mono (by omega)) (by rfl) pass0 (pa_cons (pe_tup (pa_cons (pv 0) pa_nil)) pa_nil)) (pe_glob (v := .int 60) (by rfl) h_MOST_POINTS.choose_spec ⟨_, rfl⟩) (nomark _)))))), ?_⟩
  rintro ds m y hl ⟨v, rfl, hk, rfl⟩
  refine sv_ret0 (ev_and (ev_pure (arg2 (ev_var rfl nofun) ev_int) (ds := [v, .int 2]) rfl ⟨v, rfl, hk, rfl⟩ rfl) fun hv => ?_)
  exact ev_op (ev_pure (arg1 (ev_tup (arg1 (ev_var rfl nofun)) (ds := [v]) rfl (by simp))) (ds := [.tuple [v]]) rfl ⟨[v], rfl, by simp, by rw [List.all_cons, hv]; rfl, rfl⟩ rfl) ev_int o_i0b
theorem c_is_drawing {k : Nat} (T : Blt mg) (TD : DefT K mg "is_drawing" st_is_drawing ["value"]) (D_are_layers : PureC P w K mg base k "are_layers" ["value", "deepest"] (R_layers 2)) (D_add_points : PureC P w K mg base k "add_points" ["layers"] (R_add 2))
    (h_DEEPEST : ∃ t, mg "DEEPEST" = some (.int 2 t)) (h_MOST_POINTS : ∃ t, mg "MOST_POINTS" = some (.int 60 t)) : PureC P w K mg base (k + 1) "is_drawing" ["value"] R_is_drawing := by
  refine mkPure TD S_is_drawing fun f cdv A outer s H E hr => ?_
  refine ⟨_, (pss_one (ps_ret (pe_and (pe_def D_are_layers (hr.mono (by omega)) (by rfl) pass0 (pa_cons (pv 0) (pa_cons (pe_glob (v := .int 2) (by rfl) h_DEEPEST.choose_spec ⟨_, rfl⟩) pa_nil))) (pe_one (pe_cmpR op_le (pe_def D_add_points (hr.mono (by omega)) (by rfl) pass0 (pa_cons (pv 0) pa_nil)) (pe_glob (v := .int 60) (by rfl) h_MOST_POINTS.choose_spec ⟨_, rfl⟩) (nomark _)))))), ?_⟩
  rintro ds m y hl ⟨v, rfl, hk, rfl⟩
  refine sv_ret0 (ev_and (ev_pure (arg2 (ev_var rfl nofun) ev_int) (ds := [v, .int 2]) rfl ⟨v, rfl, hk, rfl⟩ rfl) fun hv => ?_)
  cases v with
  | tuple ls =>
    have hv : (decide ((ls.length : Int) ≤ 4) && ls.all (nestedM 2)) = true := hv
    rw [Bool.and_eq_true] at hv
    exact ev_op (ev_pure (arg1 (ev_var rfl nofun)) (ds := [.tuple ls]) rfl ⟨ls, rfl, by have := of_decide_eq_true hv.1; omega, hv.2, rfl⟩ rfl) ev_int o_i0b
  | _ => cases hv
abbrev R_check : List PyData → PyData → Prop := fun ds y => ∃ v, ds = [v] ∧ okLs 2 v = true ∧ drawM v = true ∧ y = .none
theorem c_check {k : Nat} (T : Blt mg) (TD : DefT K mg "check_drawing" st_check_drawing ["value"]) (D_is_drawing : PureC P w K mg base k "is_drawing" ["value"] R_is_drawing) : PureC P w K mg base (k + 1) "check_drawing" ["value"] R_check := by
  refine mkPureN TD S_check_drawing (by rintro ds y ⟨v, _, _, _, rfl⟩; rfl) fun f cdv A outer s H E hr => ?_
  refine ⟨_, (pss_one (ps_if (pt_not (pt_val (pe_def D_is_drawing (hr.mono (by omega)) (by rfl) pass0 (pa_cons (pv 0) pa_nil)))) (pss_one ps_never) pss_nil)), ?_⟩
  rintro ds m y hl ⟨v, rfl, hk, hv, rfl⟩
  refine ⟨_, sv_ifF (m1 := m) (eb_notT (eb_cast (eb_val (ev_pure (arg1 (ev_var rfl nofun)) (ds := [v]) rfl ⟨v, rfl, hk, rfl⟩ rfl)) hv)) sv_next⟩
abbrev R_count : List PyData → PyData → Prop := fun ds y => ∃ ls, ds = [.tuple ls] ∧ okLs 2 (.tuple ls) = true ∧ drawM (.tuple ls) = true ∧ y = .int (ptsM (shapesM 2 ls))
theorem c_count {k : Nat} (T : Blt mg) (TD : DefT K mg "count_points" st_count_points ["drawing"]) (D_check_drawing : PureC P w K mg base k "check_drawing" ["value"] R_check) (D_add_points : PureC P w K mg base k "add_points" ["layers"] (R_add 2)) :
    PureC P w K mg base (k + 1) "count_points" ["drawing"] R_count := by
  refine mkPure TD S_count_points fun f cdv A outer s H E hr => ?_
  refine ⟨_, (pss_cons (ps_expr (pe_def D_check_drawing (hr.mono (by omega)) (by rfl) pass0 (pa_cons (pv 0) pa_nil)))
      (pss_one (ps_ret (pe_def D_add_points (hr.mono (by omega)) (by rfl) pass0 (pa_cons (pv 0) pa_nil))))), ?_⟩
  rintro ds m y hl ⟨ls, rfl, hk, hv, rfl⟩
  refine sv_seq (m1 := m) (sv_drop (ev_pure (arg1 (ev_var rfl nofun)) (ds := [.tuple ls]) rfl ⟨.tuple ls, rfl, hk, hv, rfl⟩ rfl)) (sv_ret0 ?_)
  have hv : ((decide ((ls.length : Int) ≤ 4) && ls.all (nestedM 2)) && decide (ptsM (shapesM 2 ls) ≤ 60)) = true := hv
  simp only [Bool.and_eq_true] at hv
  exact ev_pure (arg1 (ev_var rfl nofun)) (ds := [.tuple ls]) rfl ⟨ls, rfl, by have := of_decide_eq_true hv.1.1; omega, hv.1.2, rfl⟩ rfl
end
end K31

set_option Elab.async false
set_option linter.all false
set_option maxRecDepth 100000
set_option maxHeartbeats 4000000
namespace K31
variable [DL.Tbs]
open PySem PySem.Spec PyProof.Rows L2 DL
section
variable {P : Program} {w : World} {K : PySem.W.Frag} {mg : Str → Option Value} {base : Heap}
structure BltD (mg : Str → Option Value) : Prop where
  b_len : mg "len" = none
  b_max : mg "max" = none
  b_min : mg "min" = none
  b_range : mg "range" = none
abbrev R_cell : List PyData → PyData → Prop := fun ds y => ∃ (ns : List Int) (k : Int), ds = [.list (ns.map .int), .int k] ∧ ns.length ≤ 1000 ∧ 0 ≤ k ∧ y = .int (cellM ns k)
theorem c_cell (T : BltD mg) (TD : DefT K mg "_law_cell" st__law_cell ["_law_script", "_law_k"]) : PureC P w K mg base 1 "_law_cell" ["_law_script", "_law_k"] R_cell := by
  refine mkPure TD S__law_cell fun f cdv A outer s H E hr => ?_
  have hu := hr.units
  refine ⟨_, (pss_cons (ps_if (pt_cmpR (kEq (K := K) hu) (pv 0) (pe_lst pa_nil) (nomark _)) (pss_one (ps_ret (pe_op (kMul (K := K)) (pv 1) pe_int))) pss_nil)
      (pss_one (ps_ret (pe_op (kAdd (K := K)) (pe_ix (kIx (K := K)) (pv 0) (pe_op op_mod (pv 1) (pe_callB (kLen (K := K)) (by rfl) T.b_len (by decide +kernel) (pa_cons (pv 0) pa_nil))) (fun _ _ => rfl)) (pe_op (kMul (K := K)) (pe_op op_fdivW (pv 1) (pe_callB (kLen (K := K)) (by rfl) T.b_len (by decide +kernel) (pa_cons (pv 0) pa_nil))) pe_int))))), ?_⟩
  rintro ds m y hl ⟨ns, k, rfl, hn, hk, rfl⟩
  have big : ∀ j : Int, IntMulOk j 104729 ∧ IntMulOk j 7919 := fun j => ⟨.of_right (intBits_le_64 (by decide) (by decide)), .of_right (intBits_le_64 (by decide) (by decide))⟩
  cases ns with
  | nil =>
    refine sv_ifsT (m1 := m) (eb_cast (eb_test (ev_op (ev_var rfl nofun) (ev_lst ea_nil (ds := []) rfl (by decide)) (o_eqD (shaped_ints []) (shaped_ints [])))) (by simp [PyData.eqv, PyData.eqvAll])) rfl (sv_ret0 ?_)
    exact ev_op (ev_var rfl nofun) ev_int (o_mulII (big k).2)
  | cons n ns =>
    have hpos : (0 : Int) < ((n :: ns).length : Int) := by rw [List.length_cons]; omega
    have hlen : EvE K _ _ m (.d (.int (((n :: ns).length : Nat) : Int))) m := ev_cast (ev_cb (K := K) (es := [.d (.list ((n :: ns).map .int)), .d (.int k)]) (arg1 (ev_var (i := 0) rfl nofun)) (c_len rfl)) (by rw [List.length_map])
    refine sv_ifsF (m1 := m) (eb_cast (eb_test (ev_op (ev_var rfl nofun) (ev_lst ea_nil (ds := []) rfl (by decide)) (o_eqD (shaped_ints (n :: ns)) (shaped_ints [])))) (by simp [PyData.eqv, PyData.eqvAll])) (sv_ret0 ?_)
    have h1 := Int.emod_nonneg k (b := ((n :: ns).length : Int)) (by omega)
    have h2 := Int.emod_lt_of_pos k hpos
    have hix : ((n :: ns).map PyData.int)[(k % ((n :: ns).length : Int)).toNat]? = some (.int ((n :: ns).getD (k % ((n :: ns).length : Int)).toNat 0)) := by
      rw [List.getElem?_map, List.getD_eq_getElem?_getD, List.getElem?_eq_getElem (by omega)]
      rfl
    exact ev_cast (ev_op (ev_op (ev_var rfl nofun) (ev_op (ev_var rfl nofun) hlen (o_mod hpos)) (o_ixL (by omega) hix)) (ev_op (ev_op (ev_var rfl nofun) hlen (o_div (wide_div hpos (b := 10) (by omega) (by decide) (by decide)))) ev_int (o_mulII (big _).1)) o_addI) (by unfold cellM; rw [if_neg (by simp)])
abbrev R_drawn : List PyData → PyData → Prop := fun ds y => ∃ c k : Int, ds = [.int c, .int k] ∧ y = .int (drawnM c k)
theorem c_drawn (T : BltD mg) (TD : DefT K mg "_law_drawn" st__law_drawn ["_law_cell_here", "_law_k"]) : PureC P w K mg base 1 "_law_drawn" ["_law_cell_here", "_law_k"] R_drawn := by
  refine mkPure TD S__law_drawn fun f cdv A outer s H E hr => ?_
  refine ⟨_, (pss_cons (ps_set (i := 2) S__law_drawn.nd rfl (Or.inl rfl) (pe_op op_mod (pe_op (kAdd (K := K)) (pe_op (kMul (K := K)) (pv 0) pe_int) (pe_op (kMul (K := K)) (pe_op (kAdd (K := K)) (pv 1) pe_int) pe_int)) pe_int))
      (pss_cons (ps_set (i := 2) S__law_drawn.nd rfl (Or.inl rfl) (pe_op op_mod (pe_op (kMul (K := K)) (pv 2) (pv 2)) pe_int))
      (pss_cons (ps_set (i := 2) S__law_drawn.nd rfl (Or.inl rfl) (pe_op (kMul (K := K)) (pe_op (kMul (K := K)) (pe_op (kAdd (K := K)) (pe_op op_mod (pv 2) pe_int) pe_int) (pe_op (kAdd (K := K)) (pe_op op_fdivW (pv 2) pe_int) pe_int)) (pv 2)))
      (pss_one (ps_ret (pe_op op_mod (pv 2) pe_int)))))), ?_⟩
  rintro ds m y hl ⟨c, k, rfl, rfl⟩
  have right : ∀ i j : Int, -(2 ^ 64) < j → j < 2 ^ 64 → IntMulOk i j := fun i j h1 h2 => .of_right (intBits_le_64 h1 h2)
  have nat : ∀ {z : Int} {b : Nat}, 0 ≤ z → z < ((2 ^ b : Nat) : Int) → z.natAbs < 2 ^ b := fun h1 h2 => by omega
  refine sv_seq (es1 := [.d (.int c), .d (.int k), .d (.int (mix0M c k))]) (m1 := m) (sv_set (ev_op (ev_op (ev_op (ev_var rfl nofun) ev_int (o_mulII (right _ _ (by decide) (by decide)))) (ev_op (ev_op (ev_var rfl nofun) ev_int o_addI) ev_int (o_mulII (right _ _ (by decide) (by decide)))) o_addI) ev_int (o_mod (by decide)))) ?_
  have a := mix0_lt c k
  unfold drawnM
  generalize mix0M c k = x at a ⊢
  have ha : x.natAbs < 2 ^ 129 := nat a.1 (by have := a.2; omega)
  refine sv_seq (es1 := [.d (.int c), .d (.int k), .d (.int (mix1M x))]) (m1 := m) (sv_set (ev_op (ev_op (ev_var rfl nofun) (ev_var rfl nofun) (o_mulII (CMulW.ok (wide_mul ha ha (by decide) (by decide) (by decide))))) ev_int (o_mod (by decide)))) ?_
  have b := mix1_lt x
  generalize mix1M x = y at b ⊢
  have hy : y.natAbs < 2 ^ 128 := nat b.1 (by have := b.2; omega)
  have h1 := Int.emod_nonneg y (b := 18446744073709551557) (by decide)
  have h2 := Int.emod_lt_of_pos y (b := 18446744073709551557) (by decide)
  have h3 : (y % 18446744073709551557 + 1).natAbs < 2 ^ 65 := nat (by omega) (by omega)
  have h4 : (y / 18446744073709551557 + 1).natAbs < 2 ^ 129 := by
    have q1 : 0 ≤ y / 18446744073709551557 := Int.ediv_nonneg b.1 (by decide)
    have q2 : y / 18446744073709551557 ≤ y := Int.ediv_le_self _ b.1
    have b2 := b.2
    exact nat (by omega) (by omega)
  refine sv_seq (m1 := m) (sv_set (ev_op (ev_op (ev_op (ev_op (ev_var rfl nofun) ev_int (o_mod (j := 18446744073709551557) (by decide))) ev_int o_addI) (ev_op (ev_op (ev_var rfl nofun) ev_int (o_div (wide_div (j := 18446744073709551557) (by decide) (b := 65) (by decide) (by decide) (by decide)))) ev_int o_addI)
    (o_mulII (CMulW.ok (wide_mul h3 h4 (by decide) (by decide) (by decide))))) (ev_var rfl nofun) (o_mulII (CMulW.ok (wide_mul (wide_lt h3 h4) hy (by decide) (by decide) (by decide)))))) ?_
  exact sv_ret0 (ev_op (ev_var rfl nofun) ev_int (o_mod (j := 340282366920938463463374607431768211507) (by decide)))
theorem c_roll (T : BltD mg) (TD : DefT K mg "_law_roll" st__law_roll ["_law_dice", "_law_many"]) (D__law_drawn : PureC P w K mg base 1 "_law_drawn" ["_law_cell_here", "_law_k"] R_drawn) : DefC P w K mg base CX0 2 "_law_roll" ["_law_dice", "_law_many"] (spD K 2 rollG) := by
  refine mkDef TD S__law_roll rfl (by rintro rs m r m' ⟨j, x, c, n, _, _, _, _, rfl, rfl⟩; exact ⟨List.length_set, rfl⟩) fun f cdv A outer s H E hr => ?_
  refine ⟨_, (pss_cons (ps_if (pt_cmpR op_ge (pe_ix (kIx (K := K)) (pv 0) pe_int (fun _ _ => rfl)) (pe_op op_pow pe_int pe_int) (nomark _)) (pss_cons (ps_set (i := 2) S__law_roll.nd rfl (Or.inl rfl) (pe_op op_mod (pe_ix (kIx (K := K)) (pv 0) pe_int (fun _ _ => rfl)) (pv 1)))
      (pss_cons (ps_asg (pe_op op_fdivW (pe_ix (kIx (K := K)) (pv 0) pe_int (fun _ _ => rfl)) (pv 1)) (pg_sub (pv 0) pe_int set_list))
      (pss_one (ps_ret (pv 2))))) pss_nil)
      (pss_cons (ps_asg (pe_op (kAdd (K := K)) (pe_ix (kIx (K := K)) (pv 0) pe_int (fun _ _ => rfl)) pe_int) (pg_sub (pv 0) pe_int set_list))
      (pss_one (ps_ret (pe_op op_mod (pe_op op_fdivW (pe_def D__law_drawn (hr.mono (by omega)) (by rfl) pass0 (pa_cons (pe_ix (kIx (K := K)) (pv 0) pe_int (fun _ _ => rfl)) (pa_cons (pe_ix (kIx (K := K)) (pv 0) pe_int (fun _ _ => rfl)) pa_nil))) pe_int) (pv 1)))))), ?_⟩
  rintro rs m r m' hl ⟨j, x, c, n, rfl, hm, hn, hn2, rfl, rfl⟩
  have hj := (List.getElem?_eq_some_iff.mp hm).1
  have g1 : ∀ ds : List PyData, (m.set j ds)[j]? = some ds := fun ds => List.getElem?_set_self hj
  have div : CDivW x n := wide_div hn (b := 62) (by omega) (by decide) (by decide)
  have test : ∀ es : List Sl, es[0]? = some (.c j) → EvB K (tTest (tOp (rI0 fun i j => .bl (decide (j ≤ i))) (tOp (rIx K) (tVar 0) (tC (.int 0))) (tOp (rI CPow fun i j => .int (i ^ j.toNat)) (tC (.int 10)) (tC (.int 18))))) es m (decide ((10 : Int) ^ 18 ≤ x)) m := fun es he =>
    eb_test (ev_op (ev_cix (l := 0) he hm rfl rfl) (ev_op ev_int ev_int (o_pow ⟨by decide, by decide, by decide⟩)) o_i0b)
  by_cases hx : x ≥ 10 ^ 18
  · have e1 : rollM x c n = x % n := if_pos hx
    have e2 : diceM x c n = [.int (x / n), .int c] := if_pos hx
    rw [e1, e2]
    refine sv_ifsT (m1 := m) (eb_cast (test _ rfl) (decide_eq_true hx)) rfl ?_
    refine sv_seq (es1 := [.c j, .d (.int n), .d (.int (x % n))]) (m1 := m) (sv_set (ev_op (ev_cix (l := 0) rfl hm rfl rfl) (ev_var rfl nofun) (o_mod hn))) ?_
    refine sv_seq (es1 := [.c j, .d (.int n), .d (.int (x % n))]) (m1 := m.set j [.int (x / n), .int c]) ?_ (sv_ret0 (ev_var rfl nofun))
    exact sv_store (l := 0) (ds := [.int x, .int c]) rfl (ev_op (ev_cix (l := 0) rfl hm rfl rfl) (ev_var rfl nofun) (o_div div)) hm rfl (by simp)
  · have e1 : rollM x c n = drawnM x (c + 1) / 8 % n := if_neg hx
    have e2 : diceM x c n = [.int x, .int (c + 1)] := if_neg hx
    rw [e1, e2]
    refine sv_ifsF (m1 := m) (eb_cast (test _ rfl) (decide_eq_false hx)) ?_
    refine sv_seq (es1 := [.c j, .d (.int n), .no]) (m1 := m.set j [.int x, .int (c + 1)]) (sv_store (l := 1) (ds := [.int x, .int c]) rfl (ev_op (ev_cix (l := 1) rfl hm rfl rfl) ev_int o_addI) hm rfl (by simp)) ?_
    exact sv_ret0 (ev_op (ev_op (ev_pure (arg2 (ev_cix (l := 0) rfl (g1 _) rfl rfl) (ev_cix (l := 1) rfl (g1 _) rfl rfl)) (ds := [.int x, .int (c + 1)]) rfl ⟨x, c + 1, rfl, rfl⟩ rfl) ev_int (o_div (wide_div (j := 8) (by decide) (b := 4) (by decide) (by decide) (by decide)))) (ev_var rfl nofun) (o_mod hn))
theorem c_rounds (T : BltD mg) (TD : DefT K mg "_law_rounds" st__law_rounds ["_law_script", "_law_most"]) (D__law_cell : PureC P w K mg base 1 "_law_cell" ["_law_script", "_law_k"] R_cell) : DefC P w K mg base CX0 2 "_law_rounds" ["_law_script", "_law_most"] (spRounds K) := by
  obtain ⟨f, fd, F, hm, hB⟩ := TD.ex
  refine ⟨f, fd, F.ok S__law_rounds (fun vs H Q E h => by obtain ⟨_, a, ns, k, rfl, _⟩ := h; rfl) (fun cdv A outer s H vs Q E hr h => ?_), hm, F.kp, hB⟩
  obtain ⟨tb, a, ns, k, rfl, hS, hn, hk, q⟩ := h
  refine ⟨_, (pss_one (ps_ret (pe_lc (own := [("_law_k", 2)]) (by rfl) S__law_rounds.nd (pi_range1 (by rfl) T.b_range (pa_cons (pe_callB (call_max2 rfl) (by rfl) T.b_max (by decide +kernel) (pa_cons pe_int (pa_cons (pe_callB (call_min2 rfl) (by rfl) T.b_min (by decide +kernel) (pa_cons (pv 1) (pa_cons (pe_callB (kLen (K := K)) (by rfl) T.b_len (by decide +kernel) (pa_cons (pv 0) pa_nil)) pa_nil))) pa_nil))) pa_nil)) (blkOk_by (N := N__law_rounds) (sc := defScope st__law_rounds) (by decide +kernel)) (fun _ _ _ _ _ => pg_name (i := 2) S__law_rounds.nd rfl (by first | exact Or.inl rfl | exact Or.inr rfl)) (fun _ _ _ _ _ => pts_nil) (fun _ _ _ _ _ => (pe_lst (pa_cons (pe_def D__law_cell (hr.mono (by omega)) (by rfl) pass0 (pa_cons (pv 0) (pa_cons (pv 2) pa_nil))) (pa_cons pe_int pa_nil))))))), ?_⟩
  have hD : Dp K (nt H) (.ref a) (.list (ns.map .int)) := .lst (nt_l hS) (dp_ints ns)
  have e0 : EnvS K (nt H) [] (L2.start N__law_rounds [.ref a, .int k]) [.d (.list (ns.map .int)), .d (.int k), .no] := start_env (rs := [.d (.list (ns.map .int)), .d (.int k)]) (.cons hD (.cons (.int _) .nil))
  unfold tRet tLc iRng1
  refine runA (K := K) (es := [.d (.list (ns.map .int)), .d (.int k), .no]) (rs := [.d (.int (if (if ((ns.length : Nat) : Int) < (k : Int) then ((ns.length : Nat) : Int) else (k : Int)) > 1 then (if ((ns.length : Nat) : Int) < (k : Int) then ((ns.length : Nat) : Int) else (k : Int)) else 1))]) ?ev1 (nt_ex H) tb (nt_T tb) e0 fun vs H1 H01 s1 w1 kv => ?_
  case ev1 =>
    have hlen : EvE K _ [.d (.list (ns.map .int)), .d (.int k), .no] [] (.d (.int ((ns.length : Nat) : Int))) [] := ev_cast (ev_cb (arg1 (ev_var (i := 0) rfl nofun)) (c_len rfl)) (by rw [List.length_map])
    exact arg1 (ev_cb (arg2 ev_int (ev_cb (arg2 (ev_var rfl nofun) hlen) c_min2)) c_max2)
  generalize hj : (if (if ((ns.length : Nat) : Int) < (k : Int) then ((ns.length : Nat) : Int) else (k : Int)) > 1 then (if ((ns.length : Nat) : Int) < (k : Int) then ((ns.length : Nat) : Int) else (k : Int)) else 1) = j at kv
  have j1 : 1 ≤ j ∧ j ≤ 1000 := by
    rw [← hj]
    split <;> split <;> omega
  cases kv with
  | cons kx kt =>
    cases kt
    cases kx
    refine ⟨j, rfl, by omega, by omega, fun D hD1 => ?_⟩
    have eH : Evl.Ex (nt H) H1 := fun b o z => s1.keep b o (nt_some z).1 (by simp) (nt_some z).2
    have hD0 : H D = none := s1.dom D hD1
    refine lc_range (lo := 0) (n := j.toNat) (fun i H2 => ∃ (rs : List Addr) (xs : List Int), rs.length = i ∧ xs.length = i ∧ rs.Nodup ∧ D ∉ rs ∧ (∀ r, r ∈ rs → H r = none) ∧ (Evl.Ex (nt H) H2 ∧ LamX.Tabs Tbs.T H2 ∧ ∀ b, H2 b = none → H b = none) ∧ H2 D = some (.lst (rs.map V.ref)) ∧ ∀ (l : Nat) (r : Addr) (x : Int), rs[l]? = some r → xs[l]? = some x → H2 r = some (.lst [.int x, .int 0]))
      ⟨[], [], rfl, rfl, .nil, by simp, fun r h => absurd h (by simp), ⟨Evl.Ex.mut eH (nt_none hD0), tabs_mut w1.tab (.inl hD1), fun b z => s1.dom b (by
        by_cases hb : b = D
        · rw [hb]; exact hD1
        · rw [upd_ne hb] at z; exact z)⟩, upd_same, fun l r x z => by simp at z⟩ (fun i H2 hi hP => ?_) fun H2 hP => ?_
    · obtain ⟨rs, xs, l1, l2, nd, hDr, hfr, ⟨e2, t2, n2⟩, d2, x2⟩ := hP
      refine ⟨by rfl, ?_⟩
      unfold tYes
      dsimp only
      rw [if_pos rfl]
      have e3 : EnvS K (nt H) [] ((wipe (L2.start N__law_rounds [.ref a, .int k]) [2]).set 2 (some (.int (0 + (i : Int))))) [.d (.list (ns.map .int)), .d (.int k), .d (.int (0 + (i : Int)))] := (e0.wipe [2]).set (i := 2) (r := .d (.int (0 + (i : Int)))) (.int _)
      unfold tLst
      refine runA (K := K) (es := [.d (.list (ns.map .int)), .d (.int k), .d (.int (0 + (i : Int)))]) (rs := [.d (.int (cellM ns (0 + (i : Int)))), .d (.int 0)]) ?ev2 e2 t2 (nt_T tb) e3 fun vs H3 H03 s3 w3 kv => ?_
      case ev2 => exact arg2 (ev_pure (arg2 (ev_var rfl nofun) (ev_var rfl nofun)) (ds := [.list (ns.map .int), .int (0 + (i : Int))]) rfl ⟨ns, _, rfl, hn, by omega, rfl⟩ rfl) ev_int
      cases kv with
      | cons k1 kt =>
        cases kt with
        | cons k2 kt =>
          cases kt
          cases k1
          cases k2
          have e23 : ∀ b o, H2 b = some o → (∀ ps, o ≠ .tbl ps) → H3 b = some o := fun b o z nt => s3.keep b o z (by simp) nt
          refine ⟨by show 2 ≤ sizeLine; decide, fun p hp => ?_⟩
          have hp2 : H2 p = none := s3.dom p hp
          have hpD : p ≠ D := fun z => by rw [z, d2] at hp2; cases hp2
          have hpr : p ∉ rs := fun z => by
            obtain ⟨l, hl, el⟩ := List.getElem_of_mem z
            have := x2 l p (xs[l]'(by omega)) (by rw [List.getElem?_eq_getElem hl, el]) (List.getElem?_eq_getElem (by omega))
            rw [hp2] at this
            cases this
          have hpH : H p = none := n2 p hp2
          refine ⟨rs.map V.ref, by rw [upd_ne (Ne.symm hpD)]; exact e23 _ _ d2 (fun ps z => nomatch z), small1000 (by rw [List.length_map]; omega), rs ++ [p], xs ++ [cellM ns (0 + (i : Int))], by rw [List.length_append, l1]; rfl, by rw [List.length_append, l2]; rfl, ?_, ?_, ?_, ?_, ?_, ?_⟩
          · exact List.nodup_append.mpr ⟨nd, by simp, fun a ha b hb => by
              rcases List.mem_singleton.mp hb with rfl
              rintro rfl
              exact hpr ha⟩
          · intro z
            rcases List.mem_append.mp z with z | z
            · exact hDr z
            · exact hpD (List.mem_singleton.mp z).symm
          · intro r z
            rcases List.mem_append.mp z with z | z
            · exact hfr r z
            · rw [List.mem_singleton.mp z]; exact hpH
          · exact ⟨Evl.Ex.mut (Evl.Ex.mut (fun b o z => e23 b o (e2 b o z) (nt_some z).2) (nt_none hpH)) (nt_none hD0), tabs_mut (tabs_mut w3.tab (.inl hp)) (.inr ⟨_, by rw [upd_ne (Ne.symm hpD)]; exact e23 _ _ d2 (fun ps z => nomatch z)⟩), fun b z => by
              by_cases hb : b = D
              · rw [hb]; exact hD0
              by_cases hc : b = p
              · rw [hc]; exact hpH
              rw [upd_ne hb, upd_ne hc] at z
              exact n2 b (s3.dom b z)⟩
          · rw [upd_same, List.map_append]
            rfl
          · intro l r x z1 z2
            by_cases hl : l < rs.length
            · rw [List.getElem?_append_left hl] at z1
              rw [List.getElem?_append_left (by omega)] at z2
              have hr := List.mem_of_getElem? z1
              rw [upd_ne (fun e : r = D => hDr (e ▸ hr)), upd_ne (fun e : r = p => hpr (e ▸ hr))]
              exact e23 _ _ (x2 l r x z1 z2) (fun ps z => nomatch z)
            · rw [List.getElem?_append_right (by omega)] at z1 z2
              have e0 : l - rs.length = 0 := by
                cases hk : l - rs.length with
                | zero => rfl
                | succ k => rw [hk] at z1; simp at z1
              have e1 : l - xs.length = 0 := by omega
              rw [e0] at z1
              rw [e1] at z2
              cases z1
              cases z2
              rw [upd_ne hpD, upd_same]
    · obtain ⟨rs, xs, l1, l2, nd, hDr, hfr, ⟨e2, t2, n2⟩, d2, x2⟩ := hP
      exact q D rs xs H2 e2 t2 hD0 d2 (by omega) nd hDr hfr x2
end
end K31

set_option Elab.async false
set_option linter.all false
set_option maxRecDepth 100000
set_option maxHeartbeats 4000000
namespace K31
variable [DL.Tbs]
open PySem PySem.Spec PyProof.Rows L2 DL HX L2H
section
variable {P : Program} {w : World} {K : PySem.W.Frag} {mg : Str → Option Value} {base : Heap}
def R_term (K : PySem.W.Frag) (c : Cs) (D : Addr) (y : PyData) : Prop := ∃ k, k < 15 ∧ ErrD K c k D ∧ y = .tuple [.str "error", .str (kinds.getD k "")]
/-- the flags of the class at place k -/
abbrev fl (k i : Nat) : PyData := .bool (i == k)
theorem flags_cat (k : Nat) : ((([fl k 0, fl k 1, fl k 2] ++ [fl k 3, fl k 4, fl k 5]) ++ [fl k 6, fl k 7, fl k 8]) ++ [fl k 9, fl k 10, fl k 11]) ++ [fl k 12, fl k 13, fl k 14] = ((List.range 15).map fun i => (i == k)).map PyData.bool := rfl
theorem flags_sum : ∀ k, k < 15 → preSum (fun i => HX.b2i (((List.range 15).map fun i => (i == k)).getD i false)) ((List.range 15).map fun i => (i == k)).length = 1 := by decide
theorem flags_at : ∀ k, k < 15 → ((List.range 15).map fun i => (i == k))[k]? = some true := by decide
theorem flags_ahead : ∀ k, k < 15 → ∀ l, l < k → ((List.range 15).map fun i => (i == k))[l]? = some false := by decide
theorem kinds_at (k : Nat) (h : k < 15) : (kinds.map PyData.str)[k]? = some (.str (kinds.getD k "")) := by
  rw [List.getElem?_map, List.getD_eq_getElem?_getD, List.getElem?_eq_getElem (show k < kinds.length from h)]
  rfl
theorem c_term (bI : mg "isinstance" = none) (bS : mg "sum" = none) (bN : mg "int" = none) (TD : DefT K mg "_law_term" st__law_term ["_law_e"]) (bV : mg "ValueError" = none) {c : Cs} (hC : CsOk mg c) :
    ∃ f fd, mg "_law_term" = some (.ref f) ∧ PySem.W.keepIn K (.ref f) = true ∧ L2.Binds K fd ["_law_e"] [] ∧ FnP P w K mg base C8.CX0 1 f fd ["_law_e"] (spTerm K (R_term K c)) := by
  obtain ⟨f, fd, F, hm, hB⟩ := TD.ex
  refine ⟨f, fd, hm, F.kp, hB, ?_⟩
  obtain ⟨oc, od, kV, doc, pm, an, cdv, ct, osl, rfl, lk, hcd⟩ := F.ex
  refine fnP lk hcd S__law_term (fun p vs H Q E h => by rw [h.1]; rfl) ?_
  rintro A outer s H vs Q E p hot hp hr ⟨rfl, D, y, H0, ρ, m, ⟨k, hk, eD, rfl⟩, hz, hf, w0, q⟩
  have hc : HotC (cxH C8.CX0 P w K mg base N__law_term "_law_term" (defScope st__law_term) f cdv A outer s H E p) := ⟨p, hot, List.mem_singleton_self _⟩
  have hu : (cxH C8.CX0 P w K mg base N__law_term "_law_term" (defScope st__law_term) f cdv A outer s H E p).A.units + 64 < cLine := by
    have := hr.un
    show (A.deeper _).units + 64 < cLine
    omega
  have isK : CallR (cxH C8.CX0 P w K mg base N__law_term "_law_term" (defScope st__law_term) f cdv A outer s H E p) (.builtin "isinstance") (rIsE K D p.1) := isX (X := cxH C8.CX0 P w K mg base N__law_term "_law_term" (defScope st__law_term) f cdv A outer s H E p) (oe := p.2) eD.exc (List.mem_singleton_self _) hz.zc hf
  refine ⟨_, (pss_cons (ps_set (i := 1) S__law_term.nd rfl (Or.inl rfl) (pe_lst (pa_cons (pe_callB isK (by rfl) bI (by decide +kernel) (pa_cons (pv 0) (pa_cons (pe_glob (v := .ref c.InvalidNumber) (by rfl) hC.InvalidNumber rfl) pa_nil))) (pa_cons (pe_callB isK (by rfl) bI (by decide +kernel) (pa_cons (pv 0) (pa_cons (pe_glob (v := .ref c.InvalidPoint) (by rfl) hC.InvalidPoint rfl) pa_nil))) (pa_cons (pe_callB isK (by rfl) bI (by decide +kernel) (pa_cons (pv 0) (pa_cons (pe_glob (v := .ref c.InvalidShape) (by rfl) hC.InvalidShape rfl) pa_nil))) pa_nil)))))
      (pss_cons (ps_set (i := 1) S__law_term.nd rfl (Or.inl rfl) (pe_op (kAdd (K := K)) (pv 1) (pe_lst (pa_cons (pe_callB isK (by rfl) bI (by decide +kernel) (pa_cons (pv 0) (pa_cons (pe_glob (v := .ref c.InvalidLayer) (by rfl) hC.InvalidLayer rfl) pa_nil))) (pa_cons (pe_callB isK (by rfl) bI (by decide +kernel) (pa_cons (pv 0) (pa_cons (pe_glob (v := .ref c.InvalidDrawing) (by rfl) hC.InvalidDrawing rfl) pa_nil))) (pa_cons (pe_callB isK (by rfl) bI (by decide +kernel) (pa_cons (pv 0) (pa_cons (pe_glob (v := .ref c.InvalidRegion) (by rfl) hC.InvalidRegion rfl) pa_nil))) pa_nil))))))
      (pss_cons (ps_set (i := 1) S__law_term.nd rfl (Or.inl rfl) (pe_op (kAdd (K := K)) (pv 1) (pe_lst (pa_cons (pe_callB isK (by rfl) bI (by decide +kernel) (pa_cons (pv 0) (pa_cons (pe_glob (v := .ref c.InvalidPlan) (by rfl) hC.InvalidPlan rfl) pa_nil))) (pa_cons (pe_callB isK (by rfl) bI (by decide +kernel) (pa_cons (pv 0) (pa_cons (pe_glob (v := .ref c.InvalidIndex) (by rfl) hC.InvalidIndex rfl) pa_nil))) (pa_cons (pe_callB isK (by rfl) bI (by decide +kernel) (pa_cons (pv 0) (pa_cons (pe_glob (v := .ref c.InvalidBox) (by rfl) hC.InvalidBox rfl) pa_nil))) pa_nil))))))
      (pss_cons (ps_set (i := 1) S__law_term.nd rfl (Or.inl rfl) (pe_op (kAdd (K := K)) (pv 1) (pe_lst (pa_cons (pe_callB isK (by rfl) bI (by decide +kernel) (pa_cons (pv 0) (pa_cons (pe_glob (v := .ref c.InvalidMove) (by rfl) hC.InvalidMove rfl) pa_nil))) (pa_cons (pe_callB isK (by rfl) bI (by decide +kernel) (pa_cons (pv 0) (pa_cons (pe_glob (v := .ref c.InvalidText) (by rfl) hC.InvalidText rfl) pa_nil))) (pa_cons (pe_callB isK (by rfl) bI (by decide +kernel) (pa_cons (pv 0) (pa_cons (pe_glob (v := .ref c.OnEdge) (by rfl) hC.OnEdge rfl) pa_nil))) pa_nil))))))
      (pss_cons (ps_set (i := 1) S__law_term.nd rfl (Or.inl rfl) (pe_op (kAdd (K := K)) (pv 1) (pe_lst (pa_cons (pe_callB isK (by rfl) bI (by decide +kernel) (pa_cons (pv 0) (pa_cons (pe_glob (v := .ref c.Blank) (by rfl) hC.Blank rfl) pa_nil))) (pa_cons (pe_callB isK (by rfl) bI (by decide +kernel) (pa_cons (pv 0) (pa_cons (pe_glob (v := .ref c.TooMany) (by rfl) hC.TooMany rfl) pa_nil))) (pa_cons (pe_callB isK (by rfl) bI (by decide +kernel) (pa_cons (pv 0) (pa_cons (pe_glob (v := .ref c.NothingToUndo) (by rfl) hC.NothingToUndo rfl) pa_nil))) pa_nil))))))
      (pss_cons (ps_set (i := 2) S__law_term.nd rfl (Or.inl rfl) (pe_lst (pa_cons pe_str (pa_cons pe_str (pa_cons pe_str (pa_cons pe_str (pa_cons pe_str (pa_cons pe_str pa_nil))))))))
      (pss_cons (ps_set (i := 2) S__law_term.nd rfl (Or.inl rfl) (pe_op (kAdd (K := K)) (pv 2) (pe_lst (pa_cons pe_str (pa_cons pe_str (pa_cons pe_str (pa_cons pe_str (pa_cons pe_str (pa_cons pe_str pa_nil)))))))))
      (pss_cons (ps_set (i := 2) S__law_term.nd rfl (Or.inl rfl) (pe_op (kAdd (K := K)) (pv 2) (pe_lst (pa_cons pe_str (pa_cons pe_str (pa_cons pe_str pa_nil))))))
      (pss_cons (ps_if (PW.pt (pw_or (pt_cmpR (kNe (K := K) hu) (pe_sumints (i := 1) hc (by rfl) (by rfl) (by decide +kernel) (by rfl) bS bN) pe_int (nomark _)) (pw_or1 (pt_not (pt_val (pe_callB isK (by rfl) bI (by decide +kernel) (pa_cons (pv 0) (pa_cons (pe_bltn (v := .ty "ValueError") (u := .type "ValueError") (by rfl) bV (by decide +kernel) rfl) pa_nil)))))))) (pss_one (ps_ret (pe_tup (pa_cons pe_str (pa_cons pe_str pa_nil))))) pss_nil)
      (pss_one (ps_ret (pe_tup (pa_cons pe_str (pa_cons (pe_ix (kIx (K := K)) (pv 2) (kBm (K := K) PySem.F.plainAttrs_list PySem.F.slot_list_index PySem.F.type_list_index mt_index (pv 1) (pa_cons pe_bl pa_nil)) (fun _ _ => rfl)) pa_nil)))))))))))))), ?_⟩
  have isE : ∀ (i : Nat) {C : Addr} (es : List Sl) (m : M), c.all[i]? = some C → es[0]? = some (.v (.ref p.1)) → EvE K (tCB (rIsE K D p.1) (tCons (tVar 0) (tCons (tC (.ref C)) tNil))) es m (.d (fl k i)) m := fun i C es m h h0 =>
    ev_isE (arg2 (ev_var h0 nofun) ev_cls) (fun u h => h) (eD.test i h)
  refine (?_ : Sv K ρ.length _ [.v (.ref p.1), .no, .no, .no] m (.ret (.d (.tuple [.str "error", .str (kinds.getD k "")])) m)) (L2.start N__law_term [.ref p.1]) H H0 ρ (Nat.le_refl _) w0 (start_env (rs := [.v (.ref p.1)]) (.cons rfl .nil)) _ fun v ρ' H' H0' ml s' w2 k2 => ?_
  · refine sv_seq (sv_cell (el_lst (ds := [fl k 0, fl k 1, fl k 2]) (ea_cons (isE 0 _ _ rfl rfl) (ea_cons (isE 1 _ _ rfl rfl) (ea_cons (isE 2 _ _ rfl rfl) ea_nil))) rfl (by simp))) ?_
    refine sv_seq (sv_cell (el_cat rfl (el_lst (ds := [fl k 3, fl k 4, fl k 5]) (ea_cons (isE 3 _ _ rfl rfl) (ea_cons (isE 4 _ _ rfl rfl) (ea_cons (isE 5 _ _ rfl rfl) ea_nil))) rfl (by simp)) last_get (by simp))) ?_
    refine sv_seq (sv_cell (el_cat rfl (el_lst (ds := [fl k 6, fl k 7, fl k 8]) (ea_cons (isE 6 _ _ rfl rfl) (ea_cons (isE 7 _ _ rfl rfl) (ea_cons (isE 8 _ _ rfl rfl) ea_nil))) rfl (by simp)) last_get (by simp))) ?_
    refine sv_seq (sv_cell (el_cat rfl (el_lst (ds := [fl k 9, fl k 10, fl k 11]) (ea_cons (isE 9 _ _ rfl rfl) (ea_cons (isE 10 _ _ rfl rfl) (ea_cons (isE 11 _ _ rfl rfl) ea_nil))) rfl (by simp)) last_get (by simp))) ?_
    refine sv_seq (sv_cell (el_cat rfl (el_lst (ds := [fl k 12, fl k 13, fl k 14]) (ea_cons (isE 12 _ _ rfl rfl) (ea_cons (isE 13 _ _ rfl rfl) (ea_cons (isE 14 _ _ rfl rfl) ea_nil))) rfl (by simp)) last_get (by simp))) ?_
    refine sv_seq (sv_cell (el_lst (ds := [.str "InvalidNumber", .str "InvalidPoint", .str "InvalidShape", .str "InvalidLayer", .str "InvalidDrawing", .str "InvalidRegion"]) (ea_cons ev_str (ea_cons ev_str (ea_cons ev_str (ea_cons ev_str (ea_cons ev_str (ea_cons ev_str (ea_nil))))))) rfl (by simp))) ?_
    refine sv_seq (sv_cell (el_cat rfl (el_lst (ds := [.str "InvalidPlan", .str "InvalidIndex", .str "InvalidBox", .str "InvalidMove", .str "InvalidText", .str "OnEdge"]) (ea_cons ev_str (ea_cons ev_str (ea_cons ev_str (ea_cons ev_str (ea_cons ev_str (ea_cons ev_str (ea_nil))))))) rfl (by simp)) last_get (by simp))) ?_
    refine sv_seq (sv_cell (el_cat rfl (el_lst (ds := [.str "Blank", .str "TooMany", .str "NothingToUndo"]) (ea_cons ev_str (ea_cons ev_str (ea_cons ev_str (ea_nil)))) rfl (by simp)) last_get (by simp))) ?_
    refine sv_ifsF (m1 := _) (eb_orF (eb_cast (eb_test (ev_op (ev_sumC (bs := (List.range 15).map fun i => (i == k)) rfl (up_get (up_get (up_get last_get))) (flags_sum k hk)) ev_int o_neI)) rfl) (eb_notT (eb_val (ev_isE (arg2 (ev_var rfl nofun) ev_ty) (fun u h => h) eD.value)))) ?_
    refine sv_retA (ev_tup (ds := [.str "error", .str (kinds.getD k "")]) (ea_cons ev_str (ea_cons (ev_cixE rfl (ev_indexC (bs := (List.range 15).map fun i => (i == k)) rfl (up_get (up_get (up_get last_get))) (flags_at k hk) (flags_ahead k hk)) (ds := kinds.map PyData.str) last_get rfl (kinds_at k hk)) ea_nil)) rfl (by simp)) ?_
    repeat first | exact List.prefix_rfl | refine List.IsPrefix.trans ?_ (List.prefix_append _ _)
  · obtain ⟨s3, w3⟩ := retBack w0 s' w2
    exact q v H' H0' s3 w3 k2
end
end K31

set_option Elab.async false
set_option linter.all false
set_option maxRecDepth 100000
set_option maxHeartbeats 4000000
namespace K31
variable [DL.Tbs]
open PySem PySem.Spec PyProof.Rows L2 DL HX L2H
section
variable {P : Program} {w : World} {K : PySem.W.Frag} {mg : Str → Option Value} {base : Heap}
structure RaiseD (K : PySem.W.Frag) (D : Addr) : Prop where
  own : PySem.W.excIn K D [.type "ValueError", .type "Exception", .type "BaseException", .type "object"] "ValueError.__new__" = true
  kp : PySem.W.keepIn K (.ref D) = true
  bF : PySem.W.subIn K (.ref D) (.type "BaseException") = some true
  tF : PySem.W.typeIn K (.ref D) = some (.type "type")
def g_check (D : Addr) : List Sl → M → Res → M → Prop := fun rs m res m' => m' = m ∧ ∃ v, rs = [.d v] ∧ okLs 2 v = true ∧ res = if drawM v then .ok (.d .none) else .exc D
theorem c_checkX {k : Nat} (T : Blt mg) (TD : DefT K mg "check_drawing" st_check_drawing ["value"]) (D_is_drawing : PureC P w K mg base k "is_drawing" ["value"] R_is_drawing) {D : Addr} (gD : mg "InvalidDrawing" = some (.ref D)) (rD : RaiseD K D) :
    DefX P w K mg base (k + 1) "check_drawing" ["value"] (g_check D) := by
  refine mkDefX TD S_check_drawing ?_ fun f cdv A outer s H hr => ⟨fun E => _, fun E => (pss_one (ps_if (pt_not (pt_val (pe_def D_is_drawing (hr.mono (by omega)) (by rfl) pass0 (pa_cons (pv 0) pa_nil)))) (pss_one (L2N.ps_raise rfl takesN (L2N.pmk_own PySem.F.excBase_ValueError rD.own gD rD.kp (raises_own rD.bF rD.tF) (by rfl)))) pss_nil)), ?_⟩
  · rintro rs m r m' ⟨rfl, v, _, _, rfl⟩
    refine ⟨rfl, ?_⟩
    split <;> rfl
  rintro rs m r m' hl ⟨rfl, v, rfl, hk, rfl⟩
  cases hv : drawM v with
  | true => exact .inr ⟨rfl, _, fun E => sv_ifF (m1 := m') (eb_notT (eb_cast (eb_val (ev_pure (arg1 (ev_var rfl nofun)) (ds := [v]) rfl ⟨v, rfl, hk, rfl⟩ rfl)) hv)) sv_next⟩
  | false => exact sx_ifT (m1 := m') (eb_notF (eb_cast (eb_val (ev_pure (arg1 (ev_var rfl nofun)) (ds := [v]) rfl ⟨v, rfl, hk, rfl⟩ rfl)) hv)) (sx_raise rfl)
def g_count (D : Addr) : List Sl → M → Res → M → Prop := fun rs m res m' => m' = m ∧ ∃ v, rs = [.d v] ∧ okLs 2 v = true ∧ res = if drawM v then .ok (.d (.int (ptsM (shapesM 2 (itemsOf v))))) else .exc D
theorem c_countX {k : Nat} (T : Blt mg) (TD : DefT K mg "count_points" st_count_points ["drawing"]) {D : Addr} (D_check_drawing : DefX P w K mg base k "check_drawing" ["value"] (g_check D)) (D_add_points : PureC P w K mg base k "add_points" ["layers"] (R_add 2)) :
    DefX P w K mg base (k + 1) "count_points" ["drawing"] (g_count D) := by
  refine mkDefX TD S_count_points ?_ fun f cdv A outer s H hr => ⟨fun E => _, fun E => (pss_cons (ps_expr (pe_def D_check_drawing (hr.mono (by omega)) (by rfl) passN (pa_cons (pv 0) pa_nil)))
      (pss_one (ps_ret (pe_def D_add_points (hr.mono (by omega)) (by rfl) pass0 (pa_cons (pv 0) pa_nil))))), ?_⟩
  · rintro rs m r m' ⟨rfl, v, _, _, rfl⟩
    refine ⟨rfl, ?_⟩
    split <;> rfl
  rintro rs m r m' hl ⟨rfl, v, rfl, hk, rfl⟩
  cases hv : drawM v with
  | false => exact sx_fst (sx_drop (ex_call (arg1 (ev_var rfl nofun)) ⟨rfl, v, rfl, hk, by rw [hv]; rfl⟩ rfl))
  | true =>
    cases v with
    | tuple ls =>
      refine .inl fun E => sv_seq (m1 := m') (sv_drop (ok_call (r := .d .none) (arg1 (ev_var rfl nofun)) ⟨rfl, _, rfl, hk, by rw [hv]; rfl⟩ rfl)) (sv_ret0 ?_)
      have hv : ((decide ((ls.length : Int) ≤ 4) && ls.all (nestedM 2)) && decide (ptsM (shapesM 2 ls) ≤ 60)) = true := hv
      simp only [Bool.and_eq_true] at hv
      exact ev_pure (arg1 (ev_var rfl nofun)) (ds := [.tuple ls]) rfl ⟨ls, rfl, by have := of_decide_eq_true hv.1.1; omega, hv.1.2, rfl⟩ rfl
    | _ => cases hv
end
end K31

set_option Elab.async false
set_option linter.all false
set_option maxRecDepth 100000
set_option maxHeartbeats 4000000
namespace K31
variable [DL.Tbs]
open PySem PySem.Spec PyProof.Rows L2 DL HX
section
variable {P : Program} {w : World} {K : PySem.W.Frag} {mg : Str → Option Value} {base : Heap}
/-! ### what is drawn -/
def pairD (far : Int) (d : PyData) : Prop := ∃ a b, d = .tuple [.int a, .int b] ∧ -far ≤ a ∧ a ≤ far ∧ -far ≤ b ∧ b ≤ far
def loopD (far : Int) (v : PyData) : Prop := ∃ ps, v = .tuple ps ∧ 3 ≤ ps.length ∧ ps.length ≤ 5 ∧ ∀ p, p ∈ ps → pairD far p
def PreDF : List Sl → M → Prop := fun rs m => ∃ j far, rs = [.c j, .d (.int far)] ∧ DieAt m j ∧ 0 ≤ far ∧ far ≤ 1000
def PostDF (G : Int → PyData → Prop) : List Sl → M → Sl → M → Prop := fun rs m r m' => ∀ j far, rs = [.c j, .d (.int far)] → ∃ v, r = .d v ∧ G far v ∧ Rolled m j m'
theorem c_loop {k : Nat} (b_range : mg "range" = none) (b_tuple : mg "tuple" = none) (TD : DefT K mg "_law_loop" st__law_loop ["_law_dice", "_law_far"]) (D__law_roll : DefC P w K mg base CX0 k "_law_roll" ["_law_dice", "_law_many"] (spD K 2 rollG)) :
    DefE P w K mg base (k + 1) "_law_loop" ["_law_dice", "_law_far"] PreDF (PostDF loopD) := by
  refine mkDefE TD S__law_loop ⟨_, fun f cdv A outer s H E hr => (pss_cons (ps_set (i := 2) S__law_loop.nd rfl (Or.inl rfl) (pe_lst pa_nil))
      (pss_cons (ps_for PassesOwn.never rfl (pi_range1 (by rfl) b_range (pa_cons (pe_op (kAdd (K := K)) pe_int (pe_def D__law_roll (hr.mono (by omega)) (by rfl) pass0 (pa_cons (pv 0) (pa_cons pe_int pa_nil)))) pa_nil)) (pg_name (i := 3) S__law_loop.nd rfl (Or.inl rfl)) (pss_one (ps_expr (kBm (K := K) PySem.F.plainAttrs_list PySem.F.slot_list_append PySem.F.type_list_append mt_append (pv 2) (pa_cons (pe_tup (pa_cons (pe_op op_sub (pe_def D__law_roll (hr.mono (by omega)) (by rfl) pass0 (pa_cons (pv 0) (pa_cons (pe_op (kAdd (K := K)) (pe_op (kMul (K := K)) pe_int (pv 1)) pe_int) pa_nil))) (pv 1)) (pa_cons (pe_op op_sub (pe_def D__law_roll (hr.mono (by omega)) (by rfl) pass0 (pa_cons (pv 0) (pa_cons (pe_op (kAdd (K := K)) (pe_op (kMul (K := K)) pe_int (pv 1)) pe_int) pa_nil))) (pv 1)) pa_nil))) pa_nil)))))
      (pss_one (ps_ret (pe_callTy (kTup (K := K)) (by rfl) b_tuple (by decide +kernel) (pa_cons (pv 2) pa_nil)))))), ?_⟩
  rintro rs m ⟨j, far, rfl, hd, f0, f1⟩
  have hj := hd.lt
  have hd0 : DieAt (m ++ [[]]) j := by
    obtain ⟨x, c, e⟩ := hd
    exact ⟨x, c, up_get e⟩
  obtain ⟨v, m1, ev1, v0, v1, r1⟩ := ex_roll (K := K) (E := E0) (es := [.c j, .d (.int far), .c m.length, .no]) (i := 0) (te := tC (.int 3)) rfl ev_int hd0 (by omega) (by omega)
  have hi := ei_rng1 (K := K) (arg1 (ev_op (ev_int (i := 3)) ev1 o_addI)) (by omega) (by omega)
  have hm1 : ∃ m0, Rolled m j m0 ∧ m1 = m0 ++ [[]] := by
    obtain ⟨x, c, rfl⟩ := r1
    exact ⟨_, ⟨x, c, rfl⟩, by rw [List.set_append_left _ _ hj]⟩
  obtain ⟨m0, rm0, rfl⟩ := hm1
  refine exR_seq (sv_cell el_new) (exR_for (i := 3) (fun l es mm => ∃ s3 m0 ps, es = [.c j, .d (.int far), .c m.length, s3] ∧ Rolled m j m0 ∧ mm = m0 ++ [ps] ∧ ps.length = l ∧ ∀ p, p ∈ ps → pairD far p) hi ⟨_, m0, [], rfl, rm0, rfl, rfl, by simp⟩ ?_ ?_)
  · rintro l d es mm hd2 ⟨s3, m2, ps, rfl, rm, rfl, hl, hp⟩
    have hl5 : ps.length < 1000 := by
      have := (List.getElem?_eq_some_iff.mp hd2).1
      rw [rangeD_len] at this
      omega
    have dieA : ∀ {m2 : M} {ps : List PyData}, Rolled m j m2 → DieAt (m2 ++ [ps]) j := fun {m2 ps} rm => by
      obtain ⟨x, c, e⟩ := rm.die hj
      exact ⟨x, c, up_get e⟩
    have two : ∀ mm, EvE K (tOp (rAddU K) (tOp (rMulU K) (tC (.int 2)) (tVar 1)) (tC (.int 1))) [.c j, .d (.int far), .c m.length, .d d] mm (.d (.int (2 * far + 1))) mm := fun mm => ev_op (ev_op ev_int (ev_var rfl nofun) (o_mulII (mul_ok (by omega) (by omega)))) ev_int o_addI
    have split : ∀ {m2 m3 : M} {ps : List PyData}, Rolled m j m2 → Rolled (m2 ++ [ps]) j m3 → ∃ m4, Rolled m j m4 ∧ m3 = m4 ++ [ps] := fun {m2 m3 ps} a b => by
      obtain ⟨x, c, rfl⟩ := b
      exact ⟨m2.set j [.int x, .int c], a.trans ⟨x, c, rfl⟩, by rw [List.set_append_left _ _ (by rw [a.len]; exact hj)]⟩
    obtain ⟨a, ma, eva, a0, a1, ra⟩ := ex_roll (K := K) (E := E0) (i := 0) rfl (two _) (dieA rm) (by omega) (by omega)
    obtain ⟨m3, r3, rfl⟩ := split rm ra
    obtain ⟨b, mb, evb, b0, b1, rb⟩ := ex_roll (K := K) (E := E0) (i := 0) rfl (two _) (dieA r3) (by omega) (by omega)
    obtain ⟨m4, r4, rfl⟩ := split r3 rb
    have l4 : m4.length = m.length := r4.len
    have l2 : m2.length = m.length := rm.len
    refine ⟨_, _, .inl (sv_append (j := m.length) (ds := ps) rfl (ev_tup (ea_cons (ev_op eva (ev_var rfl nofun) o_i0) (ea_cons (ev_op evb (ev_var rfl nofun) o_i0) ea_nil)) (ds := [.int (a - far), .int (b - far)]) rfl (by simp)) (by rw [← l4]; exact last_get) ⟨ps, by rw [← l2]; exact last_get⟩ hl5), .d d, m4, ps ++ [.tuple [.int (a - far), .int (b - far)]], rfl, r4, by rw [← l4]; exact last_set, by rw [List.length_append, hl]; rfl, fun p h => ?_⟩
    rcases List.mem_append.mp h with h | h
    · exact hp p h
    · rw [List.mem_singleton.mp h]
      exact ⟨_, _, rfl, by omega, by omega, by omega, by omega⟩
  · rintro es mm ⟨s3, m2, ps, rfl, rm, rfl, hl, hp⟩
    rw [rangeD_len] at hl
    refine ⟨.d (.tuple ps), m2, sv_ret (ml := [ps]) (ev_tupC (j := m.length) rfl (by rw [← rm.len]; exact last_get)), rm.len, rfl, fun j' far' e => ?_⟩
    cases e
    exact ⟨_, rfl, ⟨ps, rfl, by omega, by omega, hp⟩, rm⟩
/-- a call of such a def -/
theorem ex_callE {Pre : List Sl → M → Prop} {Post : List Sl → M → Sl → M → Prop} {g : List Sl → M → Sl → M → Prop} {n : Nat} {ta : TA} {es rs : List Sl} {m m1 : M} {E : XK} (hg : ∀ rs m, Pre rs m → ∃ r m', g rs m r m' ∧ Post rs m r m') (h : EvA K ta es m rs m1) (hp : Pre rs m1) (hn : rs.length = n) :
    ∃ r m', EvE K (tCall (spD K n g) [] E ta) es m r m' ∧ Post rs m1 r m' := by
  obtain ⟨r, m', h1, h2⟩ := hg rs m1 hp
  exact ⟨r, m', ev_call h h1 hn, h2⟩
def ruleD (v : PyData) : Prop := v = .str "odd" ∨ v = .str "turns"
def shapeD (far : Int) (v : PyData) : Prop := ∃ r ls, v = .tuple [r, .tuple ls] ∧ ruleD r ∧ 1 ≤ ls.length ∧ ls.length ≤ 2 ∧ ∀ l, l ∈ ls → loopD far l
theorem c_shape {k : Nat} (b_range : mg "range" = none) (b_tuple : mg "tuple" = none) (TD : DefT K mg "_law_shape" st__law_shape ["_law_dice", "_law_far"]) (D__law_roll : DefC P w K mg base CX0 k "_law_roll" ["_law_dice", "_law_many"] (spD K 2 rollG))
    (DE : DefE P w K mg base k "_law_loop" ["_law_dice", "_law_far"] PreDF (PostDF loopD)) : DefE P w K mg base (k + 1) "_law_shape" ["_law_dice", "_law_far"] PreDF (PostDF shapeD) := by
  obtain ⟨gl, hgl, D__law_loop⟩ := DE
  refine mkDefE TD S__law_shape ⟨_, fun f cdv A outer s H E hr => (pss_cons (ps_set (i := 2) S__law_shape.nd rfl (Or.inl rfl) (pe_callTy (kTup (K := K)) (by rfl) b_tuple (by decide +kernel) (pa_cons (pe_lc (own := [("_law_turn", 3)]) (by rfl) S__law_shape.nd (pi_range1 (by rfl) b_range (pa_cons (pe_op (kAdd (K := K)) pe_int (pe_op op_fdivW (pe_def D__law_roll (hr.mono (by omega)) (by rfl) pass0 (pa_cons (pv 0) (pa_cons pe_int pa_nil))) pe_int)) pa_nil)) (blkOk_by (N := N__law_shape) (sc := defScope st__law_shape) (by decide +kernel)) (fun _ _ _ _ _ => pg_name (i := 3) S__law_shape.nd rfl (by first | exact Or.inl rfl | exact Or.inr rfl)) (fun _ _ _ _ _ => pts_nil) (fun _ _ _ _ _ => (pe_def D__law_loop (hr.mono (by omega)) (by rfl) pass0 (pa_cons (pv 0) (pa_cons (pv 1) pa_nil))))) pa_nil)))
      (pss_one (ps_ret (pe_tup (pa_cons (pe_ix (kIx (K := K)) (pe_lst (pa_cons pe_str (pa_cons pe_str pa_nil))) (pe_def D__law_roll (hr.mono (by omega)) (by rfl) pass0 (pa_cons (pv 0) (pa_cons pe_int pa_nil))) (fun _ _ => rfl)) (pa_cons (pv 2) pa_nil)))))), ?_⟩
  rintro rs m ⟨j, far, rfl, hd, f0, f1⟩
  have hj := hd.lt
  obtain ⟨v, m1, ev1, v0, v1, r1⟩ := ex_roll (K := K) (E := E0) (es := [.c j, .d (.int far), .no, .no]) (i := 0) (te := tC (.int 4)) rfl ev_int hd (by omega) (by omega)
  have hi := ei_rng1 (K := K) (arg1 (ev_op (ev_int (i := 1)) (ev_op ev1 (ev_int (i := 3)) (o_div (wide_div (j := 3) (by decide) (b := 3) (by omega) (by decide) (by decide)))) o_addI)) (by omega) (by omega)
  obtain ⟨ls, m2, hL, nL, gL, jL⟩ := exLc (K := K) (i := 3) (vs := [3]) (esw := wipeS [.c j, .d (.int far), .no, .no] [3]) (te := tCall (spD K 2 gl) [] E0 (tCons (tVar 0) (tCons (tVar 1) tNil))) (J := Rolled m j) (G := loopD far) (by simp) (rangeD 0 (1 + v / 3).toNat) m1 r1 (by
    intro d mm hd2 rm
    obtain ⟨r, m', e1, hp⟩ := ex_callE (K := K) (E := E0) (n := 2) hgl (ta := tCons (tVar 0) (tCons (tVar 1) tNil)) (es := [.c j, .d (.int far), .no, .d d]) (m := mm) (arg2 (ev_var rfl nofun) (ev_var rfl nofun)) ⟨j, far, rfl, rm.die hj, f0, f1⟩ rfl
    obtain ⟨x, rfl, gx, rx⟩ := hp j far rfl
    exact ⟨x, m', e1, gx, rm.trans rx⟩)
  rw [rangeD_len] at nL
  obtain ⟨u, m3, ev3, u0, u1, r3⟩ := ex_roll (K := K) (E := E0) (es := [.c j, .d (.int far), .d (.tuple ls), .no]) (i := 0) (te := tC (.int 2)) rfl ev_int (jL.die hj) (by omega) (by omega)
  refine exR_seq (sv_set (ev_cb (arg1 (el_d (el_lc hi hL (by rw [rangeD_len]; omega)))) c_tupL)) ?_
  have hr : ∃ r, [PyData.str "odd", .str "turns"][u.toNat]? = some r ∧ ruleD r := by
    have : u = 0 ∨ u = 1 := by omega
    rcases this with rfl | rfl
    · exact ⟨_, rfl, .inl rfl⟩
    · exact ⟨_, rfl, .inr rfl⟩
  obtain ⟨r, hr1, hr2⟩ := hr
  refine ⟨.d (.tuple [r, .tuple ls]), m3, sv_ret0 (ev_tup (ea_cons (ev_op (ev_lst (ea_cons ev_str (ea_cons ev_str ea_nil)) (ds := [.str "odd", .str "turns"]) rfl (by decide)) ev3 (o_ixL (by omega) hr1)) (ea_cons (ev_var rfl nofun) ea_nil)) rfl (by simp)), (jL.trans r3).len, rfl, fun j' far' e => ?_⟩
  cases e
  exact ⟨_, rfl, ⟨r, ls, rfl, hr2, by omega, by omega, gL⟩, jL.trans r3⟩
def PreD : List Sl → M → Prop := fun rs m => ∃ j, rs = [.c j] ∧ DieAt m j
def PostD (G : PyData → Prop) : List Sl → M → Sl → M → Prop := fun rs m r m' => ∀ j, rs = [.c j] → ∃ v, r = .d v ∧ G v ∧ Rolled m j m'
def opacityD (v : PyData) : Prop := ∃ a b, v = .tuple [.int a, .int b] ∧ 1 ≤ a ∧ a ≤ b ∧ b ≤ 4
theorem c_opacity {k : Nat} (TD : DefT K mg "_law_opacity" st__law_opacity ["_law_dice"]) (D__law_roll : DefC P w K mg base CX0 k "_law_roll" ["_law_dice", "_law_many"] (spD K 2 rollG)) :
    DefE P w K mg base (k + 1) "_law_opacity" ["_law_dice"] PreD (PostD opacityD) := by
  refine mkDefE TD S__law_opacity ⟨_, fun f cdv A outer s H E hr => have hu := hr.units; (pss_cons (ps_set (i := 1) S__law_opacity.nd rfl (Or.inl rfl) (pe_op (kAdd (K := K)) pe_int (pe_def D__law_roll (hr.mono (by omega)) (by rfl) pass0 (pa_cons (pv 0) (pa_cons pe_int pa_nil)))))
      (pss_one (ps_ret (pe_ifExp (pt_cmpR (kEq (K := K) hu) (pe_def D__law_roll (hr.mono (by omega)) (by rfl) pass0 (pa_cons (pv 0) (pa_cons pe_int pa_nil))) pe_int (nomark _)) (pe_tup (pa_cons pe_int (pa_cons pe_int pa_nil))) (pe_tup (pa_cons (pe_op (kAdd (K := K)) pe_int (pe_def D__law_roll (hr.mono (by omega)) (by rfl) pass0 (pa_cons (pv 0) (pa_cons (pv 1) pa_nil)))) (pa_cons (pv 1) pa_nil))))))), ?_⟩
  rintro rs m ⟨j, rfl, hd⟩
  have hj := hd.lt
  obtain ⟨v, m1, ev1, v0, v1, r1⟩ := ex_roll (K := K) (E := E0) (es := [.c j, .no]) (i := 0) (te := tC (.int 4)) rfl ev_int hd (by omega) (by omega)
  obtain ⟨u, m2, ev2, u0, u1, r2⟩ := ex_roll (K := K) (E := E0) (es := [.c j, .d (.int (1 + v))]) (i := 0) (te := tC (.int 2)) rfl ev_int (r1.die hj) (by omega) (by omega)
  refine exR_seq (sv_set (ev_op ev_int ev1 o_addI)) ?_
  by_cases h : u = 0
  · refine ⟨.d (.tuple [.int 1, .int 1]), m2, sv_ret0 (ev_ifT (eb_cast (eb_test (ev_op ev2 ev_int o_eqI)) (by simp [h])) (ev_tup (ea_cons ev_int (ea_cons ev_int ea_nil)) rfl (by simp))), (r1.trans r2).len, rfl, fun j' e => ?_⟩
    cases e
    exact ⟨_, rfl, ⟨1, 1, rfl, by omega, by omega, by omega⟩, r1.trans r2⟩
  · obtain ⟨t, m3, ev3, t0, t1, r3⟩ := ex_roll (K := K) (E := E0) (es := [.c j, .d (.int (1 + v))]) (i := 0) (te := tVar 1) rfl (ev_var rfl nofun) ((r1.trans r2).die hj) (by omega) (by omega)
    refine ⟨.d (.tuple [.int (1 + t), .int (1 + v)]), m3, sv_ret0 (ev_ifF (eb_cast (eb_test (ev_op ev2 ev_int o_eqI)) (by simp [h])) (ev_tup (ea_cons (ev_op ev_int ev3 o_addI) (ea_cons (ev_var rfl nofun) ea_nil)) rfl (by simp))), ((r1.trans r2).trans r3).len, rfl, fun j' e => ?_⟩
    cases e
    exact ⟨_, rfl, ⟨1 + t, 1 + v, rfl, by omega, by omega, by omega⟩, (r1.trans r2).trans r3⟩
def turnsL : List (List PyData) := [[.int 1, .int 0, .int 0, .int 1], [.int 0, .int 1, .int (-1), .int 0], [.int (-1), .int 0, .int 0, .int 1], [.int 1, .int 1, .int 0, .int 1], [.int 2, .int 0, .int 0, .int 1], [.int 1, .int 0, .int 1, .int (-1)], [.int 1, .int (-1), .int 1, .int 1]]
def matrixD (v : PyData) : Prop := ∃ t a b, v = .tuple (t ++ [.int a, .int b]) ∧ t ∈ turnsL ∧ -3 ≤ a ∧ a ≤ 3 ∧ -3 ≤ b ∧ b ≤ 3
theorem turns_len : ∀ t, t ∈ turnsL → t.length = 4 := by
  intro t h
  simp only [turnsL, List.mem_cons, List.not_mem_nil, or_false] at h
  rcases h with h | h | h | h | h | h | h <;> rw [h] <;> rfl
theorem c_matrix {k : Nat} (TD : DefT K mg "_law_matrix" st__law_matrix ["_law_dice"]) (D__law_roll : DefC P w K mg base CX0 k "_law_roll" ["_law_dice", "_law_many"] (spD K 2 rollG)) :
    DefE P w K mg base (k + 1) "_law_matrix" ["_law_dice"] PreD (PostD matrixD) := by
  refine mkDefE TD S__law_matrix ⟨_, fun f cdv A outer s H E hr => have hu := hr.units; (pss_cons (ps_set (i := 1) S__law_matrix.nd rfl (Or.inl rfl) (pe_lst (pa_cons (pe_tup (pa_cons pe_int (pa_cons pe_int (pa_cons pe_int (pa_cons pe_int pa_nil))))) (pa_cons (pe_tup (pa_cons pe_int (pa_cons pe_int (pa_cons (pe_un un_neg pe_int) (pa_cons pe_int pa_nil))))) (pa_cons (pe_tup (pa_cons (pe_un un_neg pe_int) (pa_cons pe_int (pa_cons pe_int (pa_cons pe_int pa_nil))))) (pa_cons (pe_tup (pa_cons pe_int (pa_cons pe_int (pa_cons pe_int (pa_cons pe_int pa_nil))))) (pa_cons (pe_tup (pa_cons pe_int (pa_cons pe_int (pa_cons pe_int (pa_cons pe_int pa_nil))))) (pa_cons (pe_tup (pa_cons pe_int (pa_cons pe_int (pa_cons pe_int (pa_cons (pe_un un_neg pe_int) pa_nil))))) (pa_cons (pe_tup (pa_cons pe_int (pa_cons (pe_un un_neg pe_int) (pa_cons pe_int (pa_cons pe_int pa_nil))))) pa_nil)))))))))
      (pss_one (ps_ret (pe_op (kAdd (K := K)) (pe_ix (kIx (K := K)) (pv 1) (pe_def D__law_roll (hr.mono (by omega)) (by rfl) pass0 (pa_cons (pv 0) (pa_cons pe_int pa_nil))) (fun _ _ => rfl)) (pe_tup (pa_cons (pe_op op_sub (pe_def D__law_roll (hr.mono (by omega)) (by rfl) pass0 (pa_cons (pv 0) (pa_cons pe_int pa_nil))) pe_int) (pa_cons (pe_op op_sub (pe_def D__law_roll (hr.mono (by omega)) (by rfl) pass0 (pa_cons (pv 0) (pa_cons pe_int pa_nil))) pe_int) pa_nil))))))), ?_⟩
  rintro rs m ⟨j, rfl, hd⟩
  have hj := hd.lt
  obtain ⟨v, m1, ev1, v0, v1, r1⟩ := ex_roll (K := K) (E := E0) (es := [.c j, .d (.list (turnsL.map .tuple))]) (i := 0) (te := tC (.int 7)) rfl ev_int hd (by omega) (by omega)
  obtain ⟨a, m2, ev2, a0, a1, r2⟩ := ex_roll (K := K) (E := E0) (es := [.c j, .d (.list (turnsL.map .tuple))]) (i := 0) (te := tC (.int 7)) rfl ev_int (r1.die hj) (by omega) (by omega)
  obtain ⟨b, m3, ev3, b0, b1, r3⟩ := ex_roll (K := K) (E := E0) (es := [.c j, .d (.list (turnsL.map .tuple))]) (i := 0) (te := tC (.int 7)) rfl ev_int ((r1.trans r2).die hj) (by omega) (by omega)
  have neg : ∀ (x : Int) (es : List Sl) (m : M), EvE K (tUn (rU fun i => .int (-i)) (tC (.int x))) es m (.d (.int (-x))) m := fun x es m => ev_un ev_int o_neg
  refine exR_seq (sv_set (r := .d (.list (turnsL.map .tuple))) (m1 := m) (ev_lst (ds := turnsL.map .tuple)
    (ea_cons (ev_tup (ea_cons ev_int (ea_cons ev_int (ea_cons ev_int (ea_cons ev_int ea_nil)))) rfl (by simp))
    (ea_cons (ev_tup (ea_cons ev_int (ea_cons ev_int (ea_cons (neg 1 _ _) (ea_cons ev_int ea_nil)))) rfl (by simp))
    (ea_cons (ev_tup (ea_cons (neg 1 _ _) (ea_cons ev_int (ea_cons ev_int (ea_cons ev_int ea_nil)))) rfl (by simp))
    (ea_cons (ev_tup (ea_cons ev_int (ea_cons ev_int (ea_cons ev_int (ea_cons ev_int ea_nil)))) rfl (by simp))
    (ea_cons (ev_tup (ea_cons ev_int (ea_cons ev_int (ea_cons ev_int (ea_cons ev_int ea_nil)))) rfl (by simp))
    (ea_cons (ev_tup (ea_cons ev_int (ea_cons ev_int (ea_cons ev_int (ea_cons (neg 1 _ _) ea_nil)))) rfl (by simp))
    (ea_cons (ev_tup (ea_cons ev_int (ea_cons (neg 1 _ _) (ea_cons ev_int (ea_cons ev_int ea_nil)))) rfl (by simp)) ea_nil))))))) rfl (by decide))) ?_
  have hv : v.toNat < turnsL.length := by
    show v.toNat < 7
    omega
  have ht : turnsL[v.toNat] ∈ turnsL := List.getElem_mem hv
  have hg : (turnsL.map PyData.tuple)[v.toNat]? = some (.tuple turnsL[v.toNat]) := by rw [List.getElem?_map, List.getElem?_eq_getElem hv]; rfl
  refine ⟨.d (.tuple (turnsL[v.toNat] ++ [.int (a - 3), .int (b - 3)])), m3, sv_ret0 (ev_op (ev_op (ev_var rfl nofun) ev1 (o_ixL (by omega) hg)) (ev_tup (ea_cons (ev_op ev2 ev_int o_i0) (ea_cons (ev_op ev3 ev_int o_i0) ea_nil)) rfl (by simp)) (o_addT (by rw [turns_len _ ht]; simp))), ((r1.trans r2).trans r3).len, rfl, fun j' e => ?_⟩
  cases e
  exact ⟨_, rfl, ⟨_, _, _, rfl, ht, by omega, by omega, by omega, by omega⟩, (r1.trans r2).trans r3⟩

/-! ### layers -/
def colourD (v : PyData) : Prop := ∃ a b c, v = .tuple [.int a, .int b, .int c] ∧ 0 ≤ a ∧ a ≤ 2 ∧ 0 ≤ b ∧ b ≤ 1 ∧ 0 ≤ c ∧ c ≤ 9
def plainD (far : Int) (v : PyData) : Prop := (∃ s o, v = .tuple [.str "rub", s, o] ∧ shapeD far s ∧ opacityD o) ∨ ∃ s c o, v = .tuple [.str "fill", s, c, o] ∧ shapeD far s ∧ colourD c ∧ opacityD o
def layerD (far : Int) : Nat → PyData → Prop
  | 0, v => plainD far v
  | n + 1, v => plainD far v ∨ ∃ ls o c mt, v = .tuple [.str "group", .tuple ls, o, c, mt] ∧ ls.length ≤ 2 ∧ (∀ l, l ∈ ls → layerD far n l) ∧ opacityD o ∧ (c = .none ∨ shapeD far c) ∧ matrixD mt
theorem layerD_plain {far : Int} {n : Nat} {v : PyData} (h : plainD far v) : layerD far n v := by
  cases n with
  | zero => exact h
  | succ n => exact .inl h
def PreL (n : Nat) : List Sl → M → Prop := fun rs m => ∃ j far, rs = [.c j, .d (.int far), .d (.int (n : Nat))] ∧ DieAt m j ∧ 0 ≤ far ∧ far ≤ 1000
def PostL (n : Nat) : List Sl → M → Sl → M → Prop := fun rs m r m' => ∀ j far, rs = [.c j, .d (.int far), .d (.int (n : Nat))] → ∃ v, r = .d v ∧ layerD far n v ∧ Rolled m j m'
end
end K31

set_option Elab.async false
set_option linter.all false
set_option maxRecDepth 100000
set_option maxHeartbeats 4000000
namespace K31
variable [DL.Tbs]
open PySem PySem.Spec PyProof.Rows L2 DL HX
section
variable {P : Program} {w : World} {K : PySem.W.Frag} {mg : Str → Option Value} {base : Heap}
theorem c_layer {k n : Nat} (hn : n ≤ 10) (b_range : mg "range" = none) (b_tuple : mg "tuple" = none) (TD : DefT K mg "_law_layer" st__law_layer ["_law_dice", "_law_far", "_law_deep"]) (D__law_roll : DefC P w K mg base CX0 k "_law_roll" ["_law_dice", "_law_many"] (spD K 2 rollG))
    (DS : DefE P w K mg base k "_law_shape" ["_law_dice", "_law_far"] PreDF (PostDF shapeD)) (DO : DefE P w K mg base k "_law_opacity" ["_law_dice"] PreD (PostD opacityD)) (DM : DefE P w K mg base k "_law_matrix" ["_law_dice"] PreD (PostD matrixD))
    {gL : List Sl → M → Sl → M → Prop} (hgL : ∀ i, n = i + 1 → ∀ rs m, PreL i rs m → ∃ r m', gL rs m r m' ∧ PostL i rs m r m') (D__law_layer : DefC P w K mg base CX0 k "_law_layer" ["_law_dice", "_law_far", "_law_deep"] (spD K 3 gL)) :
    DefE P w K mg base (k + 1) "_law_layer" ["_law_dice", "_law_far", "_law_deep"] (PreL n) (PostL n) := by
  obtain ⟨gs, hgs, D__law_shape⟩ := DS
  obtain ⟨go, hgo, D__law_opacity⟩ := DO
  obtain ⟨gm, hgm, D__law_matrix⟩ := DM
  refine mkDefE TD S__law_layer ⟨_, fun f cdv A outer s H E hr => have hu := hr.units; (pss_cons (ps_set (i := 3) S__law_layer.nd rfl (Or.inl rfl) (pe_def D__law_roll (hr.mono (by omega)) (by rfl) pass0 (pa_cons (pv 0) (pa_cons pe_int pa_nil))))
      (pss_cons (ps_if (pt_cmpR (kEq (K := K) hu) (pv 3) pe_int (nomark _)) (pss_one (ps_ret (pe_tup (pa_cons pe_str (pa_cons (pe_def D__law_shape (hr.mono (by omega)) (by rfl) pass0 (pa_cons (pv 0) (pa_cons (pv 1) pa_nil))) (pa_cons (pe_def D__law_opacity (hr.mono (by omega)) (by rfl) pass0 (pa_cons (pv 0) pa_nil)) pa_nil)))))) pss_nil)
      (pss_cons (ps_if (PW.pt (pw_and (pt_cmpR (kEq (K := K) hu) (pv 3) pe_int (nomark _)) (pw_and1 (pt_cmpR op_gt (pv 2) pe_int (nomark _))))) (pss_cons (ps_set (i := 4) S__law_layer.nd rfl (Or.inl rfl) (pe_callTy (kTup (K := K)) (by rfl) b_tuple (by decide +kernel) (pa_cons (pe_lc (own := [("_law_turn", 7)]) (by rfl) S__law_layer.nd (pi_range1 (by rfl) b_range (pa_cons (pe_def D__law_roll (hr.mono (by omega)) (by rfl) pass0 (pa_cons (pv 0) (pa_cons pe_int pa_nil))) pa_nil)) (blkOk_by (N := N__law_layer) (sc := defScope st__law_layer) (by decide +kernel)) (fun _ _ _ _ _ => pg_name (i := 7) S__law_layer.nd rfl (by first | exact Or.inl rfl | exact Or.inr rfl)) (fun _ _ _ _ _ => pts_nil) (fun _ _ _ _ _ => (pe_def D__law_layer (hr.mono (by omega)) (by rfl) pass0 (pa_cons (pv 0) (pa_cons (pv 1) (pa_cons (pe_op op_sub (pv 2) pe_int) pa_nil)))))) pa_nil)))
      (pss_cons (ps_set (i := 5) S__law_layer.nd rfl (Or.inl rfl) (pe_ifExp (pt_cmpR (kEq (K := K) hu) (pe_def D__law_roll (hr.mono (by omega)) (by rfl) pass0 (pa_cons (pv 0) (pa_cons pe_int pa_nil))) pe_int (nomark _)) (pe_def D__law_shape (hr.mono (by omega)) (by rfl) pass0 (pa_cons (pv 0) (pa_cons (pv 1) pa_nil))) pe_non))
      (pss_one (ps_ret (pe_tup (pa_cons pe_str (pa_cons (pv 4) (pa_cons (pe_def D__law_opacity (hr.mono (by omega)) (by rfl) pass0 (pa_cons (pv 0) pa_nil)) (pa_cons (pv 5) (pa_cons (pe_def D__law_matrix (hr.mono (by omega)) (by rfl) pass0 (pa_cons (pv 0) pa_nil)) pa_nil)))))))))) pss_nil)
      (pss_cons (ps_set (i := 6) S__law_layer.nd rfl (Or.inl rfl) (pe_tup (pa_cons (pe_def D__law_roll (hr.mono (by omega)) (by rfl) pass0 (pa_cons (pv 0) (pa_cons pe_int pa_nil))) (pa_cons (pe_def D__law_roll (hr.mono (by omega)) (by rfl) pass0 (pa_cons (pv 0) (pa_cons pe_int pa_nil))) (pa_cons (pe_op (kMul (K := K)) (pe_def D__law_roll (hr.mono (by omega)) (by rfl) pass0 (pa_cons (pv 0) (pa_cons pe_int pa_nil))) pe_int) pa_nil)))))
      (pss_one (ps_ret (pe_tup (pa_cons pe_str (pa_cons (pe_def D__law_shape (hr.mono (by omega)) (by rfl) pass0 (pa_cons (pv 0) (pa_cons (pv 1) pa_nil))) (pa_cons (pv 6) (pa_cons (pe_def D__law_opacity (hr.mono (by omega)) (by rfl) pass0 (pa_cons (pv 0) pa_nil)) pa_nil))))))))))), ?_⟩
  rintro rs m ⟨j, far, rfl, hd, f0, f1⟩
  have hj := hd.lt
  have shape : ∀ (es : List Sl) (mm : M), es[0]? = some (.c j) → es[1]? = some (.d (.int far)) → Rolled m j mm → ∃ v m', EvE K (tCall (spD K 2 gs) [] E0 (tCons (tVar 0) (tCons (tVar 1) tNil))) es mm (.d v) m' ∧ shapeD far v ∧ Rolled m j m' := fun es mm h0 h1 rm => by
    obtain ⟨r, m', e1, hp⟩ := ex_callE (K := K) (E := E0) (n := 2) hgs (ta := tCons (tVar 0) (tCons (tVar 1) tNil)) (es := es) (m := mm) (arg2 (ev_var h0 nofun) (ev_var h1 nofun)) ⟨j, far, rfl, rm.die hj, f0, f1⟩ rfl
    obtain ⟨x, rfl, gx, rx⟩ := hp j far rfl
    exact ⟨x, m', e1, gx, rm.trans rx⟩
  have opac : ∀ (es : List Sl) (mm : M), es[0]? = some (.c j) → Rolled m j mm → ∃ v m', EvE K (tCall (spD K 1 go) [] E0 (tCons (tVar 0) tNil)) es mm (.d v) m' ∧ opacityD v ∧ Rolled m j m' := fun es mm h0 rm => by
    obtain ⟨r, m', e1, hp⟩ := ex_callE (K := K) (E := E0) (n := 1) hgo (ta := tCons (tVar 0) tNil) (es := es) (m := mm) (arg1 (ev_var h0 nofun)) ⟨j, rfl, rm.die hj⟩ rfl
    obtain ⟨x, rfl, gx, rx⟩ := hp j rfl
    exact ⟨x, m', e1, gx, rm.trans rx⟩
  have matr : ∀ (es : List Sl) (mm : M), es[0]? = some (.c j) → Rolled m j mm → ∃ v m', EvE K (tCall (spD K 1 gm) [] E0 (tCons (tVar 0) tNil)) es mm (.d v) m' ∧ matrixD v ∧ Rolled m j m' := fun es mm h0 rm => by
    obtain ⟨r, m', e1, hp⟩ := ex_callE (K := K) (E := E0) (n := 1) hgm (ta := tCons (tVar 0) tNil) (es := es) (m := mm) (arg1 (ev_var h0 nofun)) ⟨j, rfl, rm.die hj⟩ rfl
    obtain ⟨x, rfl, gx, rx⟩ := hp j rfl
    exact ⟨x, m', e1, gx, rm.trans rx⟩
  have roll : ∀ (es : List Sl) (mm : M) (q : Int), es[0]? = some (.c j) → 0 < q → q < 1000 → Rolled m j mm → ∃ v m', EvE K (tCall (spD K 2 rollG) [] E0 (tCons (tVar 0) (tCons (tC (.int q)) tNil))) es mm (.d (.int v)) m' ∧ 0 ≤ v ∧ v < q ∧ Rolled m j m' := fun es mm q h0 q0 q1 rm => by
    obtain ⟨v, m', e1, a, b, r⟩ := ex_roll (K := K) (E := E0) (te := tC (.int q)) h0 ev_int (rm.die hj) q0 (by omega)
    exact ⟨v, m', e1, a, b, rm.trans r⟩
  have fin : ∀ {m' : M} {v : PyData}, Rolled m j m' → layerD far n v → m'.length = m.length ∧ (Sl.d v).plain = true ∧ PostL n [.c j, .d (.int far), .d (.int (n : Nat))] m (.d v) m' := fun {m' v} r h => ⟨r.len, rfl, fun j' far' e => by
    cases e
    exact ⟨v, rfl, h, r⟩⟩
  obtain ⟨pick, m1, ev1, p0, p1, r1⟩ := roll [.c j, .d (.int far), .d (.int (n : Nat)), .no, .no, .no, .no, .no] m 6 rfl (by omega) (by omega) (Rolled.refl hd)
  refine exR_seq (sv_set ev1) ?_
  by_cases hp0 : pick = 0
  · obtain ⟨s, m2, e2, g2, r2⟩ := shape [.c j, .d (.int far), .d (.int (n : Nat)), .d (.int pick), .no, .no, .no, .no] m1 rfl rfl r1
    obtain ⟨o, m3, e3, g3, r3⟩ := opac [.c j, .d (.int far), .d (.int (n : Nat)), .d (.int pick), .no, .no, .no, .no] m2 rfl r2
    refine ⟨.d (.tuple [.str "rub", s, o]), m3, sv_ifsT (m1 := m1) (eb_cast (eb_test (ev_op (ev_var rfl nofun) ev_int o_eqI)) (by simp [hp0])) rfl (sv_ret0 (ev_tup (ea_cons ev_str (ea_cons e2 (ea_cons e3 ea_nil))) rfl (by simp))), fin r3 (layerD_plain (.inl ⟨s, o, rfl, g2, g3⟩))⟩
  refine exR_ifF (m1 := m1) (eb_cast (eb_test (ev_op (ev_var rfl nofun) ev_int o_eqI)) (by simp [hp0])) (exR_seq sv_next ?_)
  by_cases hg : pick = 1 ∧ 0 < n
  · obtain ⟨rfl, hn0⟩ := hg
    obtain ⟨i, rfl⟩ : ∃ i, n = i + 1 := ⟨n - 1, by omega⟩
    refine exR_ifT (m1 := m1) (eb_cast (eb_and (a := true) (b := true) (eb_cast (eb_test (ev_op (ev_var rfl nofun) ev_int o_eqI)) rfl) (fun _ => eb_cast (eb_test (ev_op (ev_var rfl nofun) ev_int o_i0b)) (by simp))) rfl) ?_
    obtain ⟨v, m2, e2, v0, v1, r2⟩ := roll [.c j, .d (.int far), .d (.int ((i + 1 : Nat) : Int)), .d (.int 1), .no, .no, .no, .no] m1 3 rfl (by omega) (by omega) r1
    have hi := ei_rng1 (K := K) (arg1 e2) (by omega) (by omega)
    obtain ⟨ls, m3, hL, nL, gLs, r3⟩ := exLc (K := K) (i := 7) (vs := [7]) (esw := wipeS [.c j, .d (.int far), .d (.int ((i + 1 : Nat) : Int)), .d (.int 1), .no, .no, .no, .no] [7])
      (te := tCall (spD K 3 gL) [] E0 (tCons (tVar 0) (tCons (tVar 1) (tCons (tOp (rI0 fun i j => .int (i - j)) (tVar 2) (tC (.int 1))) tNil)))) (J := Rolled m j) (G := layerD far i) (by simp) (rangeD 0 v.toNat) m2 r2 (by
      intro d mm hd2 rm
      obtain ⟨r, m', e1, hp⟩ := ex_callE (K := K) (E := E0) (n := 3) (hgL i rfl) (ta := tCons (tVar 0) (tCons (tVar 1) (tCons (tOp (rI0 fun i j => .int (i - j)) (tVar 2) (tC (.int 1))) tNil))) (es := [.c j, .d (.int far), .d (.int ((i + 1 : Nat) : Int)), .d (.int 1), .no, .no, .no, .d d]) (m := mm)
        (rs := [.c j, .d (.int far), .d (.int (i : Nat))]) (ea_cons (ev_var rfl nofun) (arg2 (ev_var rfl nofun) (ev_cast (ev_op (ev_var rfl nofun) ev_int o_i0) (by congr 2; omega)))) ⟨j, far, rfl, rm.die hj, f0, f1⟩ rfl
      obtain ⟨x, rfl, gx, rx⟩ := hp j far rfl
      exact ⟨x, m', e1, gx, rm.trans rx⟩)
    rw [rangeD_len] at nL
    obtain ⟨u, m4, e4, u0, u1, r4⟩ := roll [.c j, .d (.int far), .d (.int ((i + 1 : Nat) : Int)), .d (.int 1), .d (.tuple ls), .no, .no, .no] m3 2 rfl (by omega) (by omega) r3
    have rest : ∀ (c : PyData) (m5 : M), Rolled m j m5 → (c = .none ∨ shapeD far c) → ∃ o mt m7, EvE K (tTup (tCons (tC (.str "group")) (tCons (tVar 4) (tCons (tCall (spD K 1 go) [] E0 (tCons (tVar 0) tNil)) (tCons (tVar 5) (tCons (tCall (spD K 1 gm) [] E0 (tCons (tVar 0) tNil)) tNil))))))
        [.c j, .d (.int far), .d (.int ((i + 1 : Nat) : Int)), .d (.int 1), .d (.tuple ls), .d c, .no, .no] m5 (.d (.tuple [.str "group", .tuple ls, o, c, mt])) m7 ∧ opacityD o ∧ matrixD mt ∧ Rolled m j m7 := fun c m5 r5 hc => by
      obtain ⟨o, m6, e6, g6, r6⟩ := opac [.c j, .d (.int far), .d (.int ((i + 1 : Nat) : Int)), .d (.int 1), .d (.tuple ls), .d c, .no, .no] m5 rfl r5
      obtain ⟨mt, m7, e7, g7, r7⟩ := matr [.c j, .d (.int far), .d (.int ((i + 1 : Nat) : Int)), .d (.int 1), .d (.tuple ls), .d c, .no, .no] m6 rfl r6
      exact ⟨o, mt, m7, ev_tup (ea_cons ev_str (ea_cons (ev_var rfl nofun) (ea_cons e6 (ea_cons (ev_var rfl nofun) (ea_cons e7 ea_nil))))) rfl (by simp), g6, g7, r7⟩
    by_cases hu0 : u = 0
    · obtain ⟨c, m5, e5, g5, r5⟩ := shape [.c j, .d (.int far), .d (.int ((i + 1 : Nat) : Int)), .d (.int 1), .d (.tuple ls), .no, .no, .no] m4 rfl rfl r4
      obtain ⟨o, mt, m7, e7, go7, gm7, r7⟩ := rest c m5 r5 (.inr g5)
      obtain ⟨l1, l2, l3⟩ := fin r7 (.inr ⟨ls, o, c, mt, rfl, by omega, gLs, go7, .inr g5, gm7⟩)
      exact ⟨.d (.tuple [.str "group", .tuple ls, o, c, mt]), m7, sv_out rfl (sv_seq (sv_set (ev_cb (arg1 (el_d (el_lc hi hL (by rw [rangeD_len]; omega)))) c_tupL)) (sv_seq (sv_set (ev_ifT (eb_cast (eb_test (ev_op e4 ev_int o_eqI)) (by simp [hu0])) e5)) (sv_ret0 e7))), l1, l2, l3⟩
    · obtain ⟨o, mt, m7, e7, go7, gm7, r7⟩ := rest .none m4 r4 (.inl rfl)
      obtain ⟨l1, l2, l3⟩ := fin r7 (.inr ⟨ls, o, .none, mt, rfl, by omega, gLs, go7, .inl rfl, gm7⟩)
      exact ⟨.d (.tuple [.str "group", .tuple ls, o, .none, mt]), m7, sv_out rfl (sv_seq (sv_set (ev_cb (arg1 (el_d (el_lc hi hL (by rw [rangeD_len]; omega)))) c_tupL)) (sv_seq (sv_set (ev_ifF (eb_cast (eb_test (ev_op e4 ev_int o_eqI)) (by simp [hu0])) ev_non)) (sv_ret0 e7))), l1, l2, l3⟩
  · refine exR_ifF (m1 := m1) ?_ (exR_seq sv_next ?_)
    · by_cases h1 : pick = 1
      · have hn0 : n = 0 := by omega
        subst hn0
        exact eb_andT (eb_cast (eb_test (ev_op (ev_var rfl nofun) ev_int o_eqI)) (by simp [h1])) (eb_cast (eb_test (ev_op (ev_var rfl nofun) ev_int o_i0b)) (by simp))
      · exact eb_andF (eb_cast (eb_test (ev_op (ev_var rfl nofun) ev_int o_eqI)) (by simp [h1]))
    obtain ⟨a, m2, ea, a0, a1, r2⟩ := roll [.c j, .d (.int far), .d (.int (n : Nat)), .d (.int pick), .no, .no, .no, .no] m1 3 rfl (by omega) (by omega) r1
    obtain ⟨b, m3, eb, b0, b1, r3⟩ := roll [.c j, .d (.int far), .d (.int (n : Nat)), .d (.int pick), .no, .no, .no, .no] m2 2 rfl (by omega) (by omega) r2
    obtain ⟨c, m4, ec, c0, c1, r4⟩ := roll [.c j, .d (.int far), .d (.int (n : Nat)), .d (.int pick), .no, .no, .no, .no] m3 2 rfl (by omega) (by omega) r3
    refine exR_seq (sv_set (r := .d (.tuple [.int a, .int b, .int (c * 9)])) (m1 := m4) (ev_tup (ea_cons ea (ea_cons eb (ea_cons (ev_op ec ev_int (o_mulII (mul_ok (by omega) (by omega)))) ea_nil))) rfl (by simp))) ?_
    obtain ⟨s, m5, e5, g5, r5⟩ := shape [.c j, .d (.int far), .d (.int (n : Nat)), .d (.int pick), .no, .no, .d (.tuple [.int a, .int b, .int (c * 9)]), .no] m4 rfl rfl r4
    obtain ⟨o, m6, e6, g6, r6⟩ := opac [.c j, .d (.int far), .d (.int (n : Nat)), .d (.int pick), .no, .no, .d (.tuple [.int a, .int b, .int (c * 9)]), .no] m5 rfl r5
    exact ⟨.d (.tuple [.str "fill", s, .tuple [.int a, .int b, .int (c * 9)], o]), m6, sv_ret0 (ev_tup (ea_cons ev_str (ea_cons e5 (ea_cons (ev_var rfl nofun) (ea_cons e6 ea_nil)))) rfl (by simp)), fin r6 (layerD_plain (.inr ⟨s, _, o, rfl, g5, ⟨a, b, c * 9, rfl, by omega, by omega, by omega, by omega, by omega, by omega⟩, g6⟩))⟩
end
end K31

set_option Elab.async false
set_option linter.all false
set_option maxRecDepth 100000
set_option maxHeartbeats 4000000
namespace K31
variable [DL.Tbs]
open PySem PySem.Spec PyProof.Rows L2 DL HX
theorem sum_app : ∀ a b : List Int, (a ++ b).sum = a.sum + b.sum
  | [], b => by simp
  | x :: a, b => by rw [List.cons_append, List.sum_cons, List.sum_cons, sum_app a b]; omega
theorem pts_app (a b : List PyData) : ptsM (a ++ b) = ptsM a + ptsM b := by
  unfold ptsM
  rw [List.flatMap_append, sum_app]
theorem pts_one (s : PyData) : ptsM [s] = ((loopsOf s).map lenI).sum := by
  unfold ptsM
  simp
section
variable {P : Program} {w : World} {K : PySem.W.Frag} {mg : Str → Option Value} {base : Heap}
abbrev R_size (n : Nat) : List PyData → PyData → Prop := fun ds y => ∃ ls, ds = [.tuple ls] ∧ ls.length ≤ 4 ∧ ls.all (nestedM n) = true ∧ y = .int (ptsM (shapesM n ls))
theorem c_size {k n : Nat} (b_len : mg "len" = none) (b_sum : mg "sum" = none) (TD : DefT K mg "_law_size" st__law_size ["_law_layers"]) {R : List PyData → PyData → Prop} (D__law_size : PureC P w K mg base k "_law_size" ["_law_layers"] R) (hR : ∀ i, n = i + 1 → R = R_size i) :
    PureC P w K mg base (k + 1) "_law_size" ["_law_layers"] (R_size n) := by
  refine mkPure TD S__law_size fun f cdv A outer s H E hr => ?_
  have hu := hr.units
  refine ⟨_, (pss_cons (ps_set (i := 1) S__law_size.nd rfl (Or.inl rfl) pe_int)
      (pss_cons (ps_for PassesOwn.never rfl (kSeq (K := K) (pv 0)) (pg_name (i := 2) S__law_size.nd rfl (Or.inl rfl)) (pss_cons (ps_set (i := 3) S__law_size.nd rfl (Or.inl rfl) (pe_ifExp (pt_cmpR (kEq (K := K) hu) (pe_ix (kIx (K := K)) (pv 2) pe_int (fun _ _ => rfl)) pe_str (nomark _)) (pe_ix (kIx (K := K)) (pv 2) pe_int (fun _ _ => rfl)) (pe_ix (kIx (K := K)) (pv 2) pe_int (fun _ _ => rfl))))
      (pss_cons (ps_if (pt_cmpR (kEq (K := K) hu) (pe_ix (kIx (K := K)) (pv 2) pe_int (fun _ _ => rfl)) pe_str (nomark _)) (pss_one (ps_set (i := 1) S__law_size.nd rfl (Or.inl rfl) (pe_op (kAdd (K := K)) (pv 1) (pe_def D__law_size (hr.mono (by omega)) (by rfl) pass0 (pa_cons (pe_ix (kIx (K := K)) (pv 2) pe_int (fun _ _ => rfl)) pa_nil))))) pss_nil)
      (pss_one (ps_if (pt_cmpR op_notN (pv 3) pe_non (nomark _)) (pss_one (ps_set (i := 1) S__law_size.nd rfl (Or.inl rfl) (pe_op (kAdd (K := K)) (pv 1) (pe_callB (kSum (K := K) rfl) (by rfl) b_sum (by decide +kernel) (pa_cons (pe_lc (own := [("_law_loop_here", 4)]) (by rfl) S__law_size.nd (kSeq (K := K) (pe_ix (kIx (K := K)) (pv 3) pe_int (fun _ _ => rfl))) (blkOk_by (N := N__law_size) (sc := defScope st__law_size) (by decide +kernel)) (fun _ _ _ _ _ => pg_name (i := 4) S__law_size.nd rfl (by first | exact Or.inl rfl | exact Or.inr rfl)) (fun _ _ _ _ _ => pts_nil) (fun _ _ _ _ _ => (pe_callB (kLen (K := K)) (by rfl) b_len (by decide +kernel) (pa_cons (pv 4) pa_nil)))) pa_nil))))) pss_nil)))))
      (pss_one (ps_ret (pv 1))))), ?_⟩
  rintro ds m y hl ⟨ls, rfl, h4, ha, rfl⟩
  have sumS : ∀ (s a0 a1 a2 : PyData), shapeM s = true → EvE K (tCB (rSum K) (tCons (tLc (iSeq K (tOp (rIx K) (tVar 3) (tC (.int 1)))) (gName 4) tYes (tCB (fun xs H Q => ∃ x n, xs = [x] ∧ LenV K x H n ∧ Q (.int n) H) (tCons (tVar 4) tNil)) [4]) tNil)) [.d a0, .d a1, .d a2, .d s, .no] m (.d (.int (ptsM [s]))) m := fun s a0 a1 a2 hs => by
    obtain ⟨r, lo, rfl, hl3, hp⟩ := shape_get hs
    have q := lcMap (K := K) (te := tCB (fun xs H Q => ∃ x n, xs = [x] ∧ LenV K x H n ∧ Q (.int n) H) (tCons (tVar 4) tNil)) (i := 4) (vs := [4]) (esw := wipeS [.d a0, .d a1, .d a2, .d (.tuple [r, .tuple lo]), .no] [4]) (m := m) (ds := lo) (f := fun l => .int (lenI l)) (by simp) fun d hd => by
      obtain ⟨ps, rfl, _⟩ := hp d hd
      exact ev_cb (arg1 (ev_var rfl nofun)) (c_len rfl)
    have q2 := el_d (el_lc (K := K) (es := [.d a0, .d a1, .d a2, .d (.tuple [r, .tuple lo]), .no]) (ei_seqT (ev_at (i := 3) (j := 1) (k := 1) (m := m) rfl rfl rfl)) q (by omega))
    have e : (lo.map fun l => PyData.int (lenI l)) = (lo.map lenI).map .int := by rw [List.map_map]; rfl
    rw [e] at q2
    have q3 := ev_cb (arg1 q2) (c_sum (K := K))
    rw [pts_one]
    exact q3
  have notN : ∀ s, shapeM s = true → isNone s = false := fun s hs => by
    obtain ⟨r, lo, rfl, _⟩ := shape_get hs
    rfl
  refine sv_seq (sv_set (r := .d (.int 0)) (m1 := m) ev_int) ?_
  refine sv_forI (m1 := m) (i := 2) (fun l es mm => ∃ a b, es = [.d (.tuple ls), .d (.int (ptsM (shapesM n (ls.take l)))), a, b, .no] ∧ mm = m) (ei_seqT (ev_var (r := .d (.tuple ls)) rfl nofun)) ⟨.no, .no, by rw [shapesM_eq]; rfl, rfl⟩ ?stp ?fin
  case fin =>
    rintro es mm ⟨a, b, rfl, rfl⟩
    rw [List.take_length]
    exact sv_ret0 (ev_var rfl nofun)
  case stp =>
    rintro l v es mm hv ⟨a, b, rfl, rfl⟩
    have hv1 : nestedM n v = true := List.all_eq_true.mp ha v (List.mem_of_getElem? hv)
    have el : shapesM n (ls.take (l + 1)) = shapesM n (ls.take l) ++ shapesOf (shapesJ n) v := by
      rw [shapesM_eq, shapesM_eq, List.take_add_one, hv, List.flatMap_append]
      simp
    rw [el, pts_app]
    generalize ptsM (shapesM n (ls.take l)) = acc
    rcases nested_get hv1 with ⟨k, s, r, rfl, hk, h1⟩ | ⟨i, l3, o, c, mt, rfl, rfl, h4, ha3, hc⟩
    · have es : shapesOf (shapesJ n) (.tuple (.str k :: s :: r)) = [s] := if_neg hk
      rw [es]
      refine ⟨_, mm, .inl ?_, .d (.tuple (.str k :: s :: r)), .d s, rfl, rfl⟩
      refine sv_seq (sv_set (ev_ifF (eb_cast (eb_test (ev_op (ev_at (i := 2) (j := 0) rfl rfl rfl) ev_str o_eqS)) (decide_eq_false hk)) (ev_at (i := 2) (j := 1) rfl rfl rfl))) ?_
      refine sv_seq (sv_ifF (eb_cast (eb_test (ev_op (ev_at (i := 2) (j := 0) rfl rfl rfl) ev_str o_eqS)) (decide_eq_false hk)) sv_next) ?_
      exact sv_ifT (eb_cast (eb_test (ev_op (ev_var rfl nofun) ev_non o_notN)) (by rw [notN s h1]; rfl)) (sv_set (ev_op (ev_var rfl nofun) (sumS s _ _ _ h1) o_addI))
    · have es : shapesOf (shapesJ (i + 1)) (.tuple [.str "group", .tuple l3, o, c, mt]) = shapesM i l3 ++ clipOf c := by
        simp only [shapesOf, shapesJ, if_true]
      rw [es, pts_app]
      refine ⟨_, mm, .inl ?_, .d (.tuple [.str "group", .tuple l3, o, c, mt]), .d c, rfl, rfl⟩
      have e := hR i rfl
      subst e
      refine sv_seq (sv_set (ev_ifT (eb_cast (eb_test (ev_op (ev_at (i := 2) (j := 0) rfl rfl rfl) ev_str o_eqS)) rfl) (ev_at (i := 2) (j := 3) rfl rfl rfl))) ?_
      refine sv_seq (sv_ifT (eb_cast (eb_test (ev_op (ev_at (i := 2) (j := 0) rfl rfl rfl) ev_str o_eqS)) rfl) (sv_set (ev_op (ev_var rfl nofun) (ev_pure (arg1 (ev_at (i := 2) (j := 1) rfl rfl rfl)) (ds := [.tuple l3]) rfl ⟨l3, rfl, h4, ha3, rfl⟩ rfl) o_addI))) ?_
      cases hn : isNone c with
      | true =>
        have e0 : clipOf c = [] := if_pos hn
        have e1 : acc + (ptsM (shapesM i l3) + ptsM (clipOf c)) = acc + ptsM (shapesM i l3) := by
          rw [e0, show ptsM [] = 0 from rfl, Int.add_zero]
        rw [e1]
        exact sv_ifF (eb_cast (eb_test (ev_op (ev_var rfl nofun) ev_non o_notN)) (by rw [hn]; rfl)) sv_next
      | false =>
        have e0 : clipOf c = [c] := if_neg (by rw [hn]; exact Bool.false_ne_true)
        rw [e0, ← Int.add_assoc]
        have hs : shapeM c = true := hc.resolve_left (by rw [hn]; exact Bool.false_ne_true)
        exact sv_ifT (eb_cast (eb_test (ev_op (ev_var rfl nofun) ev_non o_notN)) (by rw [hn]; rfl)) (sv_set (ev_op (ev_var rfl nofun) (sumS c _ _ _ hs) o_addI))
end
end K31

set_option Elab.async false
set_option linter.all false
set_option maxRecDepth 100000
set_option maxHeartbeats 4000000
namespace K31
variable [DL.Tbs]
open PySem PySem.Spec PyProof.Rows L2 DL HX
/-! ### what is drawn is valid -/
theorem loop_ok {far : Int} (hf : far ≤ 9) {v : PyData} (h : loopD far v) : loopM v = true := by
  obtain ⟨ps, rfl, h3, h5, hp⟩ := h
  show ((decide ((3 : Int) ≤ (ps.length : Int)) && decide ((ps.length : Int) ≤ 8)) && ps.all fun p => areM p 2 (-9) 9) = true
  simp only [Bool.and_eq_true, decide_eq_true_eq, List.all_eq_true]
  refine ⟨⟨by omega, by omega⟩, fun p h => ?_⟩
  obtain ⟨a, b, rfl, h1, h2, h3, h4⟩ := hp p h
  simp [areM, inR]
  omega
theorem shape_ok {far : Int} (hf : far ≤ 9) {v : PyData} (h : shapeD far v) : shapeM v = true ∧ okS v = true := by
  obtain ⟨r, ls, rfl, hr, h1, h2, hl⟩ := h
  have hls : loopsM (.tuple ls) = true := by
    show ((decide ((1 : Int) ≤ (ls.length : Int)) && decide ((ls.length : Int) ≤ 3)) && ls.all loopM) = true
    simp only [Bool.and_eq_true, decide_eq_true_eq, List.all_eq_true]
    exact ⟨⟨by omega, by omega⟩, fun l h => loop_ok hf (hl l h)⟩
  have hrm : ruleM r = true ∧ flatD r = true := by
    rcases hr with rfl | rfl
    · exact ⟨by decide, by decide⟩
    · exact ⟨by decide, by decide⟩
  refine ⟨?_, hrm.2⟩
  show (ruleM r && loopsM (.tuple ls)) = true
  rw [hrm.1, hls]; rfl
theorem opacity_ok {v : PyData} (h : opacityD v) : opacityM v = true := by
  obtain ⟨a, b, rfl, h1, h2, h3⟩ := h
  simp [opacityM, areM, inR, topLe]
  omega
theorem colour_ok {v : PyData} (h : colourD v) : colourM v = true := by
  obtain ⟨a, b, c, rfl, h1, h2, h3, h4, h5, h6⟩ := h
  simp [colourM, areM, inR]
  omega
theorem matrix_ok {v : PyData} (h : matrixD v) : matrixM v = true := by
  obtain ⟨t, a, b, rfl, ht, a0, a1, b0, b1⟩ := h
  have tl : ∀ xs : List PyData, xs = [.int a, .int b] → areM (.tuple xs) 2 (-9) 9 = true := fun xs e => by
    subst e
    simp [areM, inR]
    omega
  simp only [turnsL, List.mem_cons, List.not_mem_nil, or_false] at ht
  rcases ht with rfl | rfl | rfl | rfl | rfl | rfl | rfl <;>
  · unfold matrixM
    rw [Bool.and_eq_true, Bool.and_eq_true]
    exact ⟨rfl, rfl, tl _ rfl⟩
theorem plain_ok {far : Int} (hf : far ≤ 9) {v : PyData} (h : plainD far v) (n : Nat) : nestedM n v = true ∧ okL n v = true := by
  rcases h with ⟨s, o, rfl, hs, ho⟩ | ⟨s, c, o, rfl, hs, hc, ho⟩
  · obtain ⟨s1, s2⟩ := shape_ok hf hs
    have o1 := opacity_ok ho
    refine ⟨?_, ?_⟩
    · unfold nestedM
      rw [if_neg (by decide), if_pos rfl]
      show (shapeM s && opacityM o) = true
      rw [s1, o1]; rfl
    · unfold okL
      show ((decide (("rub" : Str) = "group") || okS s) && true && _) = true
      rw [s2, Bool.or_true]
      cases n with
      | zero => rfl
      | succ n =>
        show (true && true && (if ("rub" : Str) = "group" then _ else true)) = true
        rw [if_neg (by decide)]; rfl
  · obtain ⟨s1, s2⟩ := shape_ok hf hs
    have o1 := opacity_ok ho
    have c1 := colour_ok hc
    have okO : okS o = true := by
      obtain ⟨a, b, rfl, _⟩ := ho
      rfl
    refine ⟨?_, ?_⟩
    · unfold nestedM
      rw [if_pos rfl]
      show (shapeM s && (colourM c && opacityM o)) = true
      rw [s1, c1, o1]; rfl
    · unfold okL
      show ((decide (("fill" : Str) = "group") || okS s) && okS o && _) = true
      rw [s2, okO, Bool.or_true]
      cases n with
      | zero => rfl
      | succ n =>
        show (true && true && (if ("fill" : Str) = "group" then _ else true)) = true
        rw [if_neg (by decide)]; rfl
theorem layer_ok {far : Int} (hf : far ≤ 9) : ∀ (n : Nat) {v : PyData}, layerD far n v → nestedM (n + 1) v = true ∧ okL (n + 1) v = true
  | 0, v, h => plain_ok hf h 1
  | n + 1, v, h => by
    rcases h with h | ⟨ls, o, c, mt, rfl, hl, ha, ho, hc, hm⟩
    · exact plain_ok hf h _
    have o1 := opacity_ok ho
    have m1 := matrix_ok hm
    have c1 : (isNone c || shapeM c) = true ∧ okS c = true := by
      rcases hc with rfl | hc
      · exact ⟨rfl, rfl⟩
      · obtain ⟨s1, s2⟩ := shape_ok hf hc
        exact ⟨by rw [s1, Bool.or_true], s2⟩
    have i1 : ls.all (nestedM (n + 1)) = true := List.all_eq_true.mpr fun l h => (layer_ok hf n (ha l h)).1
    have i2 : ls.all (okL (n + 1)) = true := List.all_eq_true.mpr fun l h => (layer_ok hf n (ha l h)).2
    refine ⟨?_, ?_⟩
    · unfold nestedM
      rw [if_neg (by decide), if_neg (by decide)]
      show (true && ((decide ((ls.length : Int) ≤ 4) && ls.all (nestedM (n + 1))) && (opacityM o && ((isNone c || shapeM c) && matrixM mt)))) = true
      rw [i1, o1, c1.1, m1, decide_eq_true (by omega)]; rfl
    · unfold okL
      show (true && okS c && (if ("group" : Str) = "group" then ls.all (okL (n + 1)) else true)) = true
      rw [if_pos rfl, c1.2, i2]; rfl
end K31

set_option Elab.async false
set_option linter.all false
set_option maxRecDepth 100000
set_option maxHeartbeats 4000000
namespace K31
variable [DL.Tbs]
open PySem PySem.Spec PyProof.Rows L2 DL HX
section
variable {P : Program} {w : World} {K : PySem.W.Frag} {mg : Str → Option Value} {base : Heap}
theorem cut_m1 (xs : List PyData) : DL.cutD xs none (some (-1)) = xs.take (xs.length - 1) := by
  unfold DL.cutD
  rw [HT.sIx_none, List.drop_zero]
  congr 1
  have e : HT.sIx xs.length xs.length (some (-1)) = ((-1 : Int) + (xs.length : Int)).toNat := by
    unfold HT.sIx
    simp
  rw [e]
  omega
def goodD (far : Int) (ls : List PyData) : Prop := (∀ l, l ∈ ls → layerD far 1 l) ∧ ptsM (shapesM 2 ls) ≤ 45
def PreDr : List Sl → M → Prop := fun rs m => ∃ j many far, rs = [.c j, .d (.int many), .d (.int far)] ∧ DieAt m j ∧ 0 ≤ many ∧ many ≤ 4 ∧ 0 ≤ far ∧ far ≤ 9
def PostDr : List Sl → M → Sl → M → Prop := fun rs m r m' => ∀ j many far, rs = [.c j, .d (.int many), .d (.int far)] → ∃ ls, r = .d (.tuple ls) ∧ (ls.length : Int) ≤ many ∧ goodD far ls ∧ Rolled m j m'
theorem while_cut {k : Nat} {far : Int} (hf : far ≤ 9) (D__law_size : PureC P w K mg base k "_law_size" ["_law_layers"] (R_size 2)) {n : Nat} {s0 s1 s2 s4 : Sl} {m : M} :
    ∀ (q : Nat) (ls : List PyData), ls.length = q → q ≤ 4 → (∀ l, l ∈ ls → layerD far 1 l) → ∃ i ls', WhR K n (tTest (tOp (rI0 fun i j => .bl (decide (i > j))) (tCall (spD K 1 (pureG (R_size 2))) [] E0 (tCons (tVar 3) tNil)) (tC (.int 45))))
      (tAsg (tSl (rSlA K) (tVar 3) tNoPart (tPart (tUn (rU fun i => .int (-i)) (tC (.int 1))))) (gName 3)) i [s0, s1, s2, .d (.tuple ls), s4] m [s0, s1, s2, .d (.tuple ls'), s4] m ∧ ls'.length ≤ q ∧ goodD far ls' := by
  intro q
  induction q with
  | zero =>
    intro ls hl h4 ha
    obtain rfl := List.eq_nil_of_length_eq_zero hl
    refine ⟨0, [], .stop (eb_cast (eb_test (ev_op (ev_pure (arg1 (ev_var rfl nofun)) (ds := [.tuple []]) rfl ⟨[], rfl, by simp, rfl, rfl⟩ rfl) ev_int o_i0b)) (by decide)), Nat.le_refl _, ha, by decide⟩
  | succ q ih =>
    intro ls hl h4 ha
    have hn : ls.all (nestedM 2) = true := List.all_eq_true.mpr fun l h => (layer_ok hf 1 (ha l h)).1
    have size := ev_pure (K := K) (P := R_size 2) (n := 1) (E := E0) (es := [s0, s1, s2, .d (.tuple ls), s4]) (m := m) (arg1 (ev_var (i := 3) rfl nofun)) (ds := [.tuple ls]) rfl ⟨ls, rfl, by omega, hn, rfl⟩ rfl
    by_cases hs : ptsM (shapesM 2 ls) > 45
    · obtain ⟨i, ls', h1, h2, h3⟩ := ih (ls.take (ls.length - 1)) (by rw [List.length_take]; omega) (by omega) fun l h => ha l (List.mem_of_mem_take h)
      refine ⟨i + 1, ls', .go (eb_cast (eb_test (ev_op size ev_int o_i0b)) (decide_eq_true hs)) (sv_set (r := .d (.tuple (ls.take (ls.length - 1)))) (m1 := m) ?_) h1, Nat.le_succ_of_le h2, h3⟩
      rw [← cut_m1]
      exact ev_sl (ev_var rfl nofun) eo_none (eo_some (ev_un ev_int o_neg))
    · exact ⟨0, ls, .stop (eb_cast (eb_test (ev_op size ev_int o_i0b)) (decide_eq_false hs)), Nat.le_of_eq hl, ha, by omega⟩
theorem c_drawing {k : Nat} (b_range : mg "range" = none) (b_tuple : mg "tuple" = none) (TD : DefT K mg "_law_drawing" st__law_drawing ["_law_dice", "_law_many", "_law_far"]) (D__law_roll : DefC P w K mg base CX0 k "_law_roll" ["_law_dice", "_law_many"] (spD K 2 rollG))
    (DE : DefE P w K mg base k "_law_layer" ["_law_dice", "_law_far", "_law_deep"] (PreL 1) (PostL 1)) (D__law_size : PureC P w K mg base k "_law_size" ["_law_layers"] (R_size 2)) :
    DefE P w K mg base (k + 1) "_law_drawing" ["_law_dice", "_law_many", "_law_far"] PreDr PostDr := by
  obtain ⟨gl, hgl, D__law_layer⟩ := DE
  refine mkDefE TD S__law_drawing ⟨_, fun f cdv A outer s H E hr => (pss_cons (ps_set (i := 3) S__law_drawing.nd rfl (Or.inl rfl) (pe_callTy (kTup (K := K)) (by rfl) b_tuple (by decide +kernel) (pa_cons (pe_lc (own := [("_law_turn", 4)]) (by rfl) S__law_drawing.nd (pi_range1 (by rfl) b_range (pa_cons (pe_def D__law_roll (hr.mono (by omega)) (by rfl) pass0 (pa_cons (pv 0) (pa_cons (pe_op (kAdd (K := K)) (pv 1) pe_int) pa_nil))) pa_nil)) (blkOk_by (N := N__law_drawing) (sc := defScope st__law_drawing) (by decide +kernel)) (fun _ _ _ _ _ => pg_name (i := 4) S__law_drawing.nd rfl (by first | exact Or.inl rfl | exact Or.inr rfl)) (fun _ _ _ _ _ => pts_nil) (fun _ _ _ _ _ => (pe_def D__law_layer (hr.mono (by omega)) (by rfl) pass0 (pa_cons (pv 0) (pa_cons (pv 2) (pa_cons pe_int pa_nil)))))) pa_nil)))
      (pss_cons (ps_while PassesOwn.never (pt_cmpR op_gt (pe_def D__law_size (hr.mono (by omega)) (by rfl) pass0 (pa_cons (pv 3) pa_nil)) pe_int (nomark _)) (pss_one (ps_set (i := 3) S__law_drawing.nd rfl (Or.inl rfl) (pe_slice (kSl (K := K)) (pv 3) po_none (po_some (pe_un un_neg pe_int))))))
      (pss_one (ps_ret (pv 3))))), ?_⟩
  rintro rs m ⟨j, many, far, rfl, hd, y0, y1, f0, f1⟩
  have hj := hd.lt
  obtain ⟨v, m1, ev1, v0, v1, r1⟩ := ex_roll (K := K) (E := E0) (es := [.c j, .d (.int many), .d (.int far), .no, .no]) (i := 0) (te := tOp (rAddU K) (tVar 1) (tC (.int 1))) rfl (ev_op (ev_var rfl nofun) ev_int o_addI) hd (by omega) (by omega)
  have hi := ei_rng1 (K := K) (arg1 ev1) (by omega) (by omega)
  obtain ⟨ls, m2, hL, nL, gL, jL⟩ := exLc (K := K) (i := 4) (vs := [4]) (esw := wipeS [.c j, .d (.int many), .d (.int far), .no, .no] [4]) (te := tCall (spD K 3 gl) [] E0 (tCons (tVar 0) (tCons (tVar 2) (tCons (tC (.int 1)) tNil)))) (J := Rolled m j) (G := layerD far 1) (by simp) (rangeD 0 v.toNat) m1 r1 (by
    intro d mm hd2 rm
    obtain ⟨r, m', e1, hp⟩ := ex_callE (K := K) (E := E0) (n := 3) hgl (ta := tCons (tVar 0) (tCons (tVar 2) (tCons (tC (.int 1)) tNil))) (es := [.c j, .d (.int many), .d (.int far), .no, .d d]) (m := mm) (ea_cons (ev_var rfl nofun) (arg2 (ev_var rfl nofun) ev_int)) ⟨j, far, rfl, rm.die hj, f0, by omega⟩ rfl
    obtain ⟨x, rfl, gx, rx⟩ := hp j far rfl
    exact ⟨x, m', e1, gx, rm.trans rx⟩)
  rw [rangeD_len] at nL
  obtain ⟨i, ls', h1, h2, h3⟩ := while_cut (n := m.length) (s0 := .c j) (s1 := .d (.int many)) (s2 := .d (.int far)) (s4 := .no) (m := m2) f1 D__law_size v.toNat ls nL (by omega) gL
  refine exR_seq (sv_set (ev_cb (arg1 (el_d (el_lc hi hL (by rw [rangeD_len]; omega)))) c_tupL)) (exR_seq (sv_while h1) ⟨.d (.tuple ls'), m2, sv_ret0 (ev_var rfl nofun), jL.len, rfl, fun j' many' far' e => ?_⟩)
  cases e
  exact ⟨ls', rfl, by omega, h3, jL⟩
end
end K31

set_option Elab.async false
set_option linter.all false
set_option maxRecDepth 100000
set_option maxHeartbeats 4000000
namespace K31
variable [DL.Tbs]
open PySem PySem.Spec PyProof.Rows L2 DL HX LamX
/-- _law_told(lambda: ..) -/
theorem pe_toldL {X : Cx} {T : List (Addr × Str)} {CS c Pt fT g : Addr} {fd fdT : FuncData} {spT : SpP} {t : XK → TE} {k : Nat} {params : Arguments} {body : Expr} {scope : Scope} {p lpos pos : Pos} (hg : Gl X "_law_told") (F : Fun X.K "_law_told" "_law_told" st__law_told g fd) (hm : X.mg "_law_told" = some (.ref g)) (hB : L2.Binds X.K fd ["_law_deed"] [])
    (mx : X.mg "PictureError" = some (.ref CS)) (mt : X.mg "_law_term" = some (.ref fT)) (kt : PySem.W.keepIn X.K (.ref fT) = true) (hbT : L2.Binds X.K fdT ["_law_e"] []) (FT : FnP X.prog X.w X.K X.mg X.base C8.CX0 1 fT fdT ["_law_e"] spT)
    (TB : TabB X.base X.mg c Pt) (hcode : X.env.code = .ref c) (hmT : (Pt, X.env.qual ++ "<lambda>") ∈ T) (hu : ∀ p ∈ T, p.1 = Pt → p.2 = X.env.qual ++ "<lambda>") (hr : Room (k + 2) X.A) (L : LamS X.env.scope scope) (hdef : defaultsOf params X.env = ([], []))
    (hbind : ∀ (q : Str) (cl : List (Str × Addr)) (pm cv ctv : Value), bindArgs (PySem.W.kla_fn "<lambda>" q params body scope cl pm cv ctv) ⟨[], []⟩ = pure [])
    (hbody : ∀ (A : Around) (outer : List Env) (s : Shared) (H : Hp) (E : XK) (f c' : Addr), Room k (A.deeper (lamEnv X scope s.heap.objs.size f c')) → PE (lamN X A outer s H E scope f c') body (t E)) :
    PE X (.Call (.Name "_law_told" p) [.Lambda params body scope lpos] [] pos) (tTold X.K T Pt CS spT t) := by
  obtain ⟨oc, od, kV, doc, pm, an, cdv, ct, osl, rfl, lk, hcd⟩ := F.ex
  exact pe_told (en := "_law_e") (Ng := N__law_told) hg hm F.kp lk hcd hB S__law_told rfl rfl (.inl rfl) rfl rfl rfl mx mt kt hbT FT (by omega) TB hcode hmT hu hr L hdef hbind hbody (by decide) (by decide) (by decide) (by decide) (by decide) (by decide) (by decide)
theorem passL {X : Cx} {A : Around} {outer : List Env} {s : Shared} {H : Hp} {E : XK} {scope : Scope} {f c' : Addr} : Passes (L2N.CX X.prog X.w) (lamN X A outer s H E scope f c') E :=
  L2N.passes_call (X := lamN X A outer s H E scope f c') (L2N.takes_of rfl rfl rfl rfl) fun _ _ _ _ h => h
/-- the body count_points((_law_bad,)) -/
theorem pe_lamBody {X : Cx} {k i : Nat} {g : List Sl → M → Res → M → Prop} {scope : Scope} {p1 p2 p3 p4 : Pos} {j : Nat} (D : DefX X.prog X.w X.K X.mg X.base k "count_points" ["drawing"] g) (hs : scope.names.lookup ("count_points" : Str) = some .globalImplicit) (hf : scope.names.lookup ("_law_bad" : Str) = some .free)
    (hN : X.N[i]? = some "_law_bad") (A : Around) (outer : List Env) (s : Shared) (H : Hp) (E : XK) (f c' : Addr) (hr : Room k (A.deeper (lamEnv X scope s.heap.objs.size f c'))) :
    PE (lamN X A outer s H E scope f c') (.Call (.Name "count_points" p1) [.Tuple [.Name "_law_bad" p2] j p3] [] p4) (tCall (spX X.K 1 g) [] E (tCons (tTup (tCons (tVar i) tNil)) tNil)) :=
  pe_def (X := lamN X A outer s H E scope f c') D hr hs passL (pa_cons (pe_tup (pa_cons (pe_var hN (.inr (.inr hf))) pa_nil)) pa_nil)
end K31

set_option Elab.async false
set_option linter.all false
set_option maxRecDepth 100000
set_option maxHeartbeats 4000000
namespace K31
variable [DL.Tbs]
open PySem PySem.Spec PyProof.Rows L2 DL HX
abbrev tI (l : List Int) : PyData := .tuple (l.map .int)
def badA (s : PyData) : List PyData := [.none, .int 5, .tuple [], .tuple [.str "fill", s, tI [1, 2, 3]], .tuple [.str "fill", s, tI [1, 2], tI [1, 1]]]
def badB (s : PyData) : List PyData := [.tuple [.str "fill", s, tI [1, 2, 10], tI [1, 1]]]
def badC (s : PyData) : List PyData := [.tuple [.str "fill", s, tI [1, 2, 3], tI [0, 1]], .tuple [.str "fill", s, tI [1, 2, 3], tI [2, 1]]]
def badD (s : PyData) : List PyData := [.tuple [.str "fill", s, tI [1, 2, 3], tI [1, 7]]]
def badE (s : PyData) : List PyData := [.tuple [.str "rub", s], .tuple [.str "rub", s, tI [1, 1], .int 0], .tuple [.str "rub", .none, tI [1, 1]], .list [.str "rub", s, tI [1, 1]]]
def badF (s : PyData) : List PyData := [.tuple [.str "fill", s, .tuple [.bool true, .int 2, .int 3], tI [1, 1]], .tuple [.str "group", .tuple [], tI [1, 1], .none]]
def badG (s : PyData) : List PyData := [.tuple [.str "lay", s, tI [1, 1]]]
def grp (ls : List PyData) (mt : PyData) : PyData := .tuple [.str "group", .tuple ls, tI [1, 1], .none, mt]
def unitT : PyData := tI [1, 0, 0, 1, 0, 0]
def casesA : List PyData := [tI [1, 0, 0, 0, 0, 0], tI [1, 1, 1, 1, 0, 0], tI [3, 0, 0, 1, 0, 0], tI [1, 0, 0, 1, 10, 0]]
def casesB : List PyData := [tI [1, 0, 0, 1, 0], .none]
def bad0 (s : PyData) : List PyData := (((((badA s ++ badB s) ++ badC s) ++ badD s) ++ badE s) ++ badF s) ++ badG s
def badZ (s : PyData) : List PyData := [grp [grp [grp [] unitT] unitT] unitT, grp (List.replicate 5 (.tuple [.str "rub", s, tI [1, 1]])) unitT]
def wrapN : Nat → PyData
  | 0 => grp [] unitT
  | n + 1 => grp [wrapN n] unitT
def badL (s : PyData) : List PyData := (bad0 s ++ (casesA ++ casesB).map (grp [])) ++ badZ s
section
variable {P : Program} {w : World} {K : PySem.W.Frag} {mg : Str → Option Value} {base : Heap}
theorem ev_tupD {t : TA} {es : List Sl} {m : M} {ds : List PyData} (h : EvA K t es m (ds.map .d) m) (hl : ds.length ≤ 1000) : EvE K (tTup t) es m (.d (.tuple ds)) m := ev_tup h rfl hl
theorem ev_lstD {t : TA} {es : List Sl} {m : M} {ds : List PyData} (h : EvA K t es m (ds.map .d) m) (hl : ds.length ≤ 1000) : EvE K (tLst t) es m (.d (.list ds)) m := ev_lst h rfl hl
theorem el_lstD {t : TA} {es : List Sl} {m : M} {ds : List PyData} (h : EvA K t es m (ds.map .d) m) (hl : ds.length ≤ 1000) : EvL K (tLst t) es m ds m := el_lst h rfl hl
theorem ea_c {te : TE} {t : TA} {es rs : List Sl} {r : Sl} {m : M} (h1 : EvE K te es m r m) (h2 : EvA K t es m rs m) : EvA K (tCons te t) es m (r :: rs) m := ea_cons h1 h2
theorem ev_neg {i : Int} {es : List Sl} {m : M} : EvE K (tUn (rU fun i => .int (-i)) (tC (.int i))) es m (.d (.int (-i))) m := ev_un ev_int o_neg
theorem c_bad {k : Nat} (b_range : mg "range" = none) (TD : DefT K mg "_law_bad_layers" st__law_bad_layers ["_law_shape_here"]) :
    PureC P w K mg base (k + 1) "_law_bad_layers" ["_law_shape_here"] (fun ds y => ∃ s, ds = [s] ∧ y = .list (badL s)) := by
  refine mkPure TD S__law_bad_layers fun f cdv A outer s H E hr => ?_
  have hu := hr.units
  refine ⟨_, (pss_cons (ps_set (i := 1) S__law_bad_layers.nd rfl (Or.inl rfl) (pe_lst (pa_cons pe_non (pa_cons pe_int (pa_cons (pe_tup pa_nil) (pa_cons (pe_tup (pa_cons pe_str (pa_cons (pv 0) (pa_cons (pe_tup (pa_cons pe_int (pa_cons pe_int (pa_cons pe_int pa_nil)))) pa_nil)))) (pa_cons (pe_tup (pa_cons pe_str (pa_cons (pv 0) (pa_cons (pe_tup (pa_cons pe_int (pa_cons pe_int pa_nil))) (pa_cons (pe_tup (pa_cons pe_int (pa_cons pe_int pa_nil))) pa_nil))))) pa_nil)))))))
      (pss_cons (ps_set (i := 1) S__law_bad_layers.nd rfl (Or.inl rfl) (pe_op (kAdd (K := K)) (pv 1) (pe_lst (pa_cons (pe_tup (pa_cons pe_str (pa_cons (pv 0) (pa_cons (pe_tup (pa_cons pe_int (pa_cons pe_int (pa_cons pe_int pa_nil)))) (pa_cons (pe_tup (pa_cons pe_int (pa_cons pe_int pa_nil))) pa_nil))))) pa_nil))))
      (pss_cons (ps_set (i := 1) S__law_bad_layers.nd rfl (Or.inl rfl) (pe_op (kAdd (K := K)) (pv 1) (pe_lst (pa_cons (pe_tup (pa_cons pe_str (pa_cons (pv 0) (pa_cons (pe_tup (pa_cons pe_int (pa_cons pe_int (pa_cons pe_int pa_nil)))) (pa_cons (pe_tup (pa_cons pe_int (pa_cons pe_int pa_nil))) pa_nil))))) (pa_cons (pe_tup (pa_cons pe_str (pa_cons (pv 0) (pa_cons (pe_tup (pa_cons pe_int (pa_cons pe_int (pa_cons pe_int pa_nil)))) (pa_cons (pe_tup (pa_cons pe_int (pa_cons pe_int pa_nil))) pa_nil))))) pa_nil)))))
      (pss_cons (ps_set (i := 1) S__law_bad_layers.nd rfl (Or.inl rfl) (pe_op (kAdd (K := K)) (pv 1) (pe_lst (pa_cons (pe_tup (pa_cons pe_str (pa_cons (pv 0) (pa_cons (pe_tup (pa_cons pe_int (pa_cons pe_int (pa_cons pe_int pa_nil)))) (pa_cons (pe_tup (pa_cons pe_int (pa_cons pe_int pa_nil))) pa_nil))))) pa_nil))))
      (pss_cons (ps_set (i := 1) S__law_bad_layers.nd rfl (Or.inl rfl) (pe_op (kAdd (K := K)) (pv 1) (pe_lst (pa_cons (pe_tup (pa_cons pe_str (pa_cons (pv 0) pa_nil))) (pa_cons (pe_tup (pa_cons pe_str (pa_cons (pv 0) (pa_cons (pe_tup (pa_cons pe_int (pa_cons pe_int pa_nil))) (pa_cons pe_int pa_nil))))) (pa_cons (pe_tup (pa_cons pe_str (pa_cons pe_non (pa_cons (pe_tup (pa_cons pe_int (pa_cons pe_int pa_nil))) pa_nil)))) (pa_cons (pe_lst (pa_cons pe_str (pa_cons (pv 0) (pa_cons (pe_tup (pa_cons pe_int (pa_cons pe_int pa_nil))) pa_nil)))) pa_nil)))))))
      (pss_cons (ps_set (i := 1) S__law_bad_layers.nd rfl (Or.inl rfl) (pe_op (kAdd (K := K)) (pv 1) (pe_lst (pa_cons (pe_tup (pa_cons pe_str (pa_cons (pv 0) (pa_cons (pe_tup (pa_cons pe_bl (pa_cons pe_int (pa_cons pe_int pa_nil)))) (pa_cons (pe_tup (pa_cons pe_int (pa_cons pe_int pa_nil))) pa_nil))))) (pa_cons (pe_tup (pa_cons pe_str (pa_cons (pe_tup pa_nil) (pa_cons (pe_tup (pa_cons pe_int (pa_cons pe_int pa_nil))) (pa_cons pe_non pa_nil))))) pa_nil)))))
      (pss_cons (ps_set (i := 1) S__law_bad_layers.nd rfl (Or.inl rfl) (pe_op (kAdd (K := K)) (pv 1) (pe_lst (pa_cons (pe_tup (pa_cons pe_str (pa_cons (pv 0) (pa_cons (pe_tup (pa_cons pe_int (pa_cons pe_int pa_nil))) pa_nil)))) pa_nil))))
      (pss_cons (ps_set (i := 2) S__law_bad_layers.nd rfl (Or.inl rfl) (pe_lst (pa_cons (pe_tup (pa_cons pe_int (pa_cons pe_int (pa_cons pe_int (pa_cons pe_int (pa_cons pe_int (pa_cons pe_int pa_nil))))))) (pa_cons (pe_tup (pa_cons pe_int (pa_cons pe_int (pa_cons pe_int (pa_cons pe_int (pa_cons pe_int (pa_cons pe_int pa_nil))))))) (pa_cons (pe_tup (pa_cons pe_int (pa_cons pe_int (pa_cons pe_int (pa_cons pe_int (pa_cons pe_int (pa_cons pe_int pa_nil))))))) (pa_cons (pe_tup (pa_cons pe_int (pa_cons pe_int (pa_cons pe_int (pa_cons pe_int (pa_cons pe_int (pa_cons pe_int pa_nil))))))) pa_nil))))))
      (pss_cons (ps_set (i := 2) S__law_bad_layers.nd rfl (Or.inl rfl) (pe_op (kAdd (K := K)) (pv 2) (pe_lst (pa_cons (pe_tup (pa_cons pe_int (pa_cons pe_int (pa_cons pe_int (pa_cons pe_int (pa_cons pe_int pa_nil)))))) (pa_cons pe_non pa_nil)))))
      (pss_cons (ps_for PassesOwn.never rfl (kSeq (K := K) (pv 2)) (pg_name (i := 3) S__law_bad_layers.nd rfl (Or.inl rfl)) (pss_one (ps_expr (kBm (K := K) PySem.F.plainAttrs_list PySem.F.slot_list_append PySem.F.type_list_append mt_append (pv 1) (pa_cons (pe_tup (pa_cons pe_str (pa_cons (pe_tup pa_nil) (pa_cons (pe_tup (pa_cons pe_int (pa_cons pe_int pa_nil))) (pa_cons pe_non (pa_cons (pv 3) pa_nil)))))) pa_nil)))))
      (pss_cons (ps_set (i := 4) S__law_bad_layers.nd rfl (Or.inl rfl) (pe_tup (pa_cons pe_str (pa_cons (pe_tup pa_nil) (pa_cons (pe_tup (pa_cons pe_int (pa_cons pe_int pa_nil))) (pa_cons pe_non (pa_cons (pe_tup (pa_cons pe_int (pa_cons pe_int (pa_cons pe_int (pa_cons pe_int (pa_cons pe_int (pa_cons pe_int pa_nil))))))) pa_nil)))))))
      (pss_cons (ps_for PassesOwn.never rfl (pi_range1 (by rfl) b_range (pa_cons pe_int pa_nil)) (pg_name (i := 5) S__law_bad_layers.nd rfl (Or.inl rfl)) (pss_one (ps_set (i := 4) S__law_bad_layers.nd rfl (Or.inl rfl) (pe_tup (pa_cons pe_str (pa_cons (pe_tup (pa_cons (pv 4) pa_nil)) (pa_cons (pe_tup (pa_cons pe_int (pa_cons pe_int pa_nil))) (pa_cons pe_non (pa_cons (pe_tup (pa_cons pe_int (pa_cons pe_int (pa_cons pe_int (pa_cons pe_int (pa_cons pe_int (pa_cons pe_int pa_nil))))))) pa_nil)))))))))
      (pss_one (ps_ret (pe_op (kAdd (K := K)) (pv 1) (pe_lst (pa_cons (pv 4) (pa_cons (pe_tup (pa_cons pe_str (pa_cons (pe_op (kMul (K := K)) (pe_tup (pa_cons (pe_tup (pa_cons pe_str (pa_cons (pv 0) (pa_cons (pe_tup (pa_cons pe_int (pa_cons pe_int pa_nil))) pa_nil)))) pa_nil)) pe_int) (pa_cons (pe_tup (pa_cons pe_int (pa_cons pe_int pa_nil))) (pa_cons pe_non (pa_cons (pe_tup (pa_cons pe_int (pa_cons pe_int (pa_cons pe_int (pa_cons pe_int (pa_cons pe_int (pa_cons pe_int pa_nil))))))) pa_nil)))))) pa_nil)))))))))))))))))), ?_⟩
  rintro ds m y hl ⟨s, rfl, rfl⟩
  refine sv_seq (sv_cell (ds := badA s) (el_lstD (by (repeat' (first | exact ev_int | exact ev_bl | exact ev_str | exact ev_non | exact ev_var rfl nofun | exact ea_nil | apply ea_c | apply ev_tupD | apply ev_lstD | decide | (simp only [List.length_cons, List.length_nil]; decide)))) (by simp [badA, badB, badC, badD, badE, badF, badG, casesA, casesB]))) ?_
  refine sv_seq (sv_cell (el_cat rfl (el_lstD (ds := badB s) (by (repeat' (first | exact ev_int | exact ev_bl | exact ev_str | exact ev_non | exact ev_var rfl nofun | exact ea_nil | apply ea_c | apply ev_tupD | apply ev_lstD | decide | (simp only [List.length_cons, List.length_nil]; decide)))) (by simp [badA, badB, badC, badD, badE, badF, badG, casesA, casesB])) last_get (by simp [badA, badB, badC, badD, badE, badF, badG, casesA, casesB]))) ?_
  refine sv_seq (sv_cell (el_cat rfl (el_lstD (ds := badC s) (by (repeat' (first | exact ev_int | exact ev_bl | exact ev_str | exact ev_non | exact ev_var rfl nofun | exact ea_nil | apply ea_c | apply ev_tupD | apply ev_lstD | decide | (simp only [List.length_cons, List.length_nil]; decide)))) (by simp [badA, badB, badC, badD, badE, badF, badG, casesA, casesB])) last_get (by simp [badA, badB, badC, badD, badE, badF, badG, casesA, casesB]))) ?_
  refine sv_seq (sv_cell (el_cat rfl (el_lstD (ds := badD s) (by (repeat' (first | exact ev_int | exact ev_bl | exact ev_str | exact ev_non | exact ev_var rfl nofun | exact ea_nil | apply ea_c | apply ev_tupD | apply ev_lstD | decide | (simp only [List.length_cons, List.length_nil]; decide)))) (by simp [badA, badB, badC, badD, badE, badF, badG, casesA, casesB])) last_get (by simp [badA, badB, badC, badD, badE, badF, badG, casesA, casesB]))) ?_
  refine sv_seq (sv_cell (el_cat rfl (el_lstD (ds := badE s) (by (repeat' (first | exact ev_int | exact ev_bl | exact ev_str | exact ev_non | exact ev_var rfl nofun | exact ea_nil | apply ea_c | apply ev_tupD | apply ev_lstD | decide | (simp only [List.length_cons, List.length_nil]; decide)))) (by simp [badA, badB, badC, badD, badE, badF, badG, casesA, casesB])) last_get (by simp [badA, badB, badC, badD, badE, badF, badG, casesA, casesB]))) ?_
  refine sv_seq (sv_cell (el_cat rfl (el_lstD (ds := badF s) (by (repeat' (first | exact ev_int | exact ev_bl | exact ev_str | exact ev_non | exact ev_var rfl nofun | exact ea_nil | apply ea_c | apply ev_tupD | apply ev_lstD | decide | (simp only [List.length_cons, List.length_nil]; decide)))) (by simp [badA, badB, badC, badD, badE, badF, badG, casesA, casesB])) last_get (by simp [badA, badB, badC, badD, badE, badF, badG, casesA, casesB]))) ?_
  refine sv_seq (sv_cell (el_cat rfl (el_lstD (ds := badG s) (by (repeat' (first | exact ev_int | exact ev_bl | exact ev_str | exact ev_non | exact ev_var rfl nofun | exact ea_nil | apply ea_c | apply ev_tupD | apply ev_lstD | decide | (simp only [List.length_cons, List.length_nil]; decide)))) (by simp [badA, badB, badC, badD, badE, badF, badG, casesA, casesB])) last_get (by simp [badA, badB, badC, badD, badE, badF, badG, casesA, casesB]))) ?_
  refine sv_seq (sv_cell (el_lstD (ds := casesA) (by (repeat' (first | exact ev_int | exact ev_bl | exact ev_str | exact ev_non | exact ev_var rfl nofun | exact ea_nil | apply ea_c | apply ev_tupD | apply ev_lstD | decide | (simp only [List.length_cons, List.length_nil]; decide)))) (by simp [badA, badB, badC, badD, badE, badF, badG, casesA, casesB]))) ?_
  refine sv_seq (sv_set (el_d (el_cat rfl (el_lstD (ds := casesB) (by (repeat' (first | exact ev_int | exact ev_bl | exact ev_str | exact ev_non | exact ev_var rfl nofun | exact ea_nil | apply ea_c | apply ev_tupD | apply ev_lstD | decide | (simp only [List.length_cons, List.length_nil]; decide)))) (by simp [badA, badB, badC, badD, badE, badF, badG, casesA, casesB])) last_get (by simp [badA, badB, badC, badD, badE, badF, badG, casesA, casesB])))) ?_
  refine (?key : ∀ m8 : M, m <+: m8 → Sv K m.length _ [.d s, .c m8.length, .d (.list (casesA ++ casesB)), .no, .no, .no] ((m8 ++ [bad0 s]) ++ [casesA]) (.ret (.d (.list (badL s))) m)) _ ?pre
  case pre => repeat first | exact List.prefix_rfl | refine List.IsPrefix.trans ?_ (List.prefix_append _ _)
  intro m8 hpre
  have at8 : ∀ {a c : List PyData}, ((m8 ++ [a]) ++ [c])[m8.length]? = some a := up_get last_get
  have set8 : ∀ {a b c : List PyData}, ((m8 ++ [a]) ++ [c]).set m8.length b = (m8 ++ [b]) ++ [c] := fun {a b c} => by
    rw [List.set_append_left _ _ (by simp), last_set]
  have l0 : (bad0 s).length = 16 := by simp [bad0, badA, badB, badC, badD, badE, badF, badG]
  refine sv_forI (m1 := (m8 ++ [bad0 s]) ++ [casesA]) (i := 3) (ds := casesA ++ casesB) (fun l es mm => ∃ a, es = [.d s, .c m8.length, .d (.list (casesA ++ casesB)), a, .no, .no] ∧ mm = (m8 ++ [bad0 s ++ ((casesA ++ casesB).take l).map (grp [])]) ++ [casesA]) (ei_seqL (ev_var rfl nofun)) ⟨.no, rfl, by simp⟩ ?stp ?fin
  case stp =>
    rintro l d es mm hd ⟨a, rfl, rfl⟩
    have q := sv_append (K := K) (n := m.length) (es := [.d s, .c m8.length, .d (.list (casesA ++ casesB)), .d d, .no, .no]) (i := 1) (j := m8.length) (x := grp [] d) (m := (m8 ++ [bad0 s ++ ((casesA ++ casesB).take l).map (grp [])]) ++ [casesA]) (te := tTup (tCons (tC (.str "group")) (tCons (tTup tNil) (tCons (tTup (tCons (tC (.int 1)) (tCons (tC (.int 1)) tNil))) (tCons (tC .non) (tCons (tVar 3) tNil)))))) rfl
      (ev_tupD (ds := [.str "group", .tuple [], tI [1, 1], .none, d]) (by (repeat' (first | exact ev_int | exact ev_bl | exact ev_str | exact ev_non | exact ev_var rfl nofun | exact ea_nil | apply ea_c | apply ev_tupD | apply ev_lstD | decide | (simp only [List.length_cons, List.length_nil]; decide)))) (by simp)) at8 ⟨_, at8⟩ (by
        rw [List.length_append, l0, List.length_map, List.length_take]
        have : (casesA ++ casesB).length = 6 := rfl
        omega)
    rw [set8] at q
    refine ⟨_, _, .inl q, .d d, rfl, ?_⟩
    rw [List.take_add_one, hd, List.map_append, ← List.append_assoc]
    rfl
  case fin =>
    rintro es mm ⟨a, rfl, rfl⟩
    rw [List.take_length]
    have len1 : (bad0 s ++ (casesA ++ casesB).map (grp [])).length + (badZ s).length ≤ 1000 := by
      rw [List.length_append, l0, List.length_map]
      simp [casesA, casesB, badZ]
    have eL : badL s = (bad0 s ++ (casesA ++ casesB).map (grp [])) ++ badZ s := rfl
    rw [eL]
    generalize bad0 s ++ (casesA ++ casesB).map (grp []) = bs at len1 ⊢
    refine sv_seq (sv_set (r := .d (grp [] unitT)) (m1 := (m8 ++ [bs]) ++ [casesA]) (ev_tupD (ds := [.str "group", .tuple [], tI [1, 1], .none, unitT]) (by (repeat' (first | exact ev_int | exact ev_bl | exact ev_str | exact ev_non | exact ev_var rfl nofun | exact ea_nil | apply ea_c | apply ev_tupD | apply ev_lstD | decide | (simp only [List.length_cons, List.length_nil]; decide)))) (by simp))) ?_
    refine sv_forI (m1 := (m8 ++ [bs]) ++ [casesA]) (i := 5) (ds := rangeD 0 (2 : Int).toNat) (fun l es mm => ∃ b, es = [.d s, .c m8.length, .d (.list (casesA ++ casesB)), a, .d (wrapN l), b] ∧ mm = (m8 ++ [bs]) ++ [casesA]) (ei_rng1 (arg1 ev_int) (by omega) (by omega)) ⟨.no, rfl, rfl⟩ ?stp2 ?fin2
    case stp2 =>
      rintro l d es mm hd ⟨b, rfl, rfl⟩
      refine ⟨_, _, .inl (sv_set (r := .d (wrapN (l + 1))) (ev_tupD (ds := [.str "group", .tuple [wrapN l], tI [1, 1], .none, unitT]) (by (repeat' (first | exact ev_int | exact ev_bl | exact ev_str | exact ev_non | exact ev_var rfl nofun | exact ea_nil | apply ea_c | apply ev_tupD | apply ev_lstD | decide | (simp only [List.length_cons, List.length_nil]; decide)))) (by simp))), .d d, rfl, rfl⟩
    case fin2 =>
      rintro es mm ⟨b, rfl, rfl⟩
      have five : EvE K (tOp (rMulU K) (tTup (tCons (tTup (tCons (tC (.str "rub")) (tCons (tVar 0) (tCons (tTup (tCons (tC (.int 1)) (tCons (tC (.int 1)) tNil))) tNil)))) tNil)) (tC (.int 5))) [.d s, .c m8.length, .d (.list (casesA ++ casesB)), a, .d (wrapN (rangeD 0 (2 : Int).toNat).length), b] ((m8 ++ [bs]) ++ [casesA])
          (.d (.tuple (List.replicate 5 (.tuple [.str "rub", s, tI [1, 1]])))) ((m8 ++ [bs]) ++ [casesA]) := ev_cast (ev_op (ev_tupD (ds := [.tuple [.str "rub", s, tI [1, 1]]]) (by (repeat' (first | exact ev_int | exact ev_bl | exact ev_str | exact ev_non | exact ev_var rfl nofun | exact ea_nil | apply ea_c | apply ev_tupD | apply ev_lstD | decide | (simp only [List.length_cons, List.length_nil]; decide)))) (by simp)) ev_int (o_mulT (by simp) (by decide) (by decide) (by simp))) rfl
      refine sv_retA (el_d (el_cat (i := 1) (xs := bs) (ds := badZ s) rfl (el_lstD (ea_c (ev_var (i := 4) rfl nofun) (ea_c (ev_tupD (ds := [.str "group", .tuple (List.replicate 5 (.tuple [.str "rub", s, tI [1, 1]])), tI [1, 1], .none, unitT]) (ea_c ev_str (ea_c five (by (repeat' (first | exact ev_int | exact ev_bl | exact ev_str | exact ev_non | exact ev_var rfl nofun | exact ea_nil | apply ea_c | apply ev_tupD | apply ev_lstD | decide | (simp only [List.length_cons, List.length_nil]; decide)))))) (by simp)) ea_nil)) (by simp [badZ])) at8 len1)) ?_
      exact (hpre.trans (List.prefix_append _ _)).trans (List.prefix_append _ _)
end
end K31

set_option Elab.async false
set_option linter.all false
set_option maxRecDepth 100000
set_option maxHeartbeats 4000000
namespace K31
variable [DL.Tbs]
open PySem PySem.Spec PyProof.Rows L2 DL HX
theorem okL_non {n : Nat} {k : Str} {xs : List PyData} (hk : k ≠ "group") (h0 : okAt xs 0 = true) (h2 : okAt xs 2 = true) : okL n (.tuple (.str k :: xs)) = true := by
  unfold okL
  rw [h0, h2, Bool.or_true]
  cases n with
  | zero => rfl
  | succ n =>
    show (true && true && (if k = "group" then _ else true)) = true
    rw [if_neg hk]; rfl
theorem okL_grp {n : Nat} {ls : List PyData} {mt : PyData} (h : ls.all (okL n) = true) : okL (n + 1) (grp ls mt) = true := by
  unfold grp okL
  show (true && true && (if ("group" : Str) = "group" then ls.all (okL n) else true)) = true
  rw [if_pos rfl, h]; rfl
theorem bad_no {s : PyData} (h2 : okS s = true) : ∀ d, d ∈ badL s → nestedM 2 d = false ∧ okL 2 d = true := by
  intro d hd
  simp only [badL, bad0, badA, badB, badC, badD, badE, badF, badG, badZ, casesA, casesB, List.mem_append, List.mem_cons, List.not_mem_nil, or_false, List.map_cons, List.map_nil, List.cons_append, List.nil_append] at hd
  rcases hd with rfl | rfl | rfl | rfl | rfl | rfl | rfl | rfl | rfl | rfl | rfl | rfl | rfl | rfl | rfl | rfl | rfl | rfl | rfl | rfl | rfl | rfl | rfl | rfl
  all_goals first
    | exact ⟨by decide, by decide⟩
    | (refine ⟨?_, okL_non (by decide) h2 rfl⟩; simp [nestedM, fillM, rubM, groupOf, layersOf, colourM, opacityM, areM, inR, topLe, tI] <;> (intro _ h; exact absurd h (by decide)))
    | (refine ⟨?_, ?_⟩
       · unfold nestedM; rfl
       · unfold okL; rfl)
    | (refine ⟨?_, okL_grp (n := 1) (List.all_eq_true.mpr fun l hl => ?_)⟩
       · unfold grp nestedM
         rw [if_neg (by decide), if_neg (by decide)]
         rfl
       · rw [(List.mem_replicate.mp hl).2]
         exact okL_non (by decide) h2 rfl)
def loopH : List PyData := [tI [0, 0], tI [9, -9], tI [-9, 9], tI [0, 1], tI [1, 0], tI [2, 2], tI [3, 3], tI [4, 4]]
def wideD : PyData := .tuple [.str "rub", .tuple [.str "turns", .tuple (List.replicate 3 (.tuple loopH))], tI [6, 6]]
def smallD : PyData := .tuple [.str "rub", .tuple [.str "odd", .tuple [.tuple (loopH.take 3)]], tI [1, 6]]
def cases1 : List PyData := [.tuple [.str "odd", .tuple [.tuple (loopH ++ loopH.take 1)]], .tuple [.str "odd", .tuple (List.replicate 4 (.tuple loopH))], .tuple [.str "odd", .tuple [.tuple (loopH.take 2)]]]
def cases2 : List PyData := [.tuple [.str "odd", .tuple loopH], .none, .tuple [.str "odd"]]
theorem wide_facts : okL 2 wideD = true ∧ layerM wideD = true ∧ drawM (.tuple [wideD, wideD]) = true ∧ drawM (.tuple [wideD, wideD, wideD]) = false := by decide +kernel
theorem small_facts : okL 2 smallD = true ∧ drawM (.tuple (List.replicate 4 smallD)) = true ∧ drawM (.tuple (List.replicate 5 smallD)) = false ∧ drawM (.list [smallD]) = false := by decide +kernel
def rubC (d : PyData) : PyData := .tuple [.str "rub", d, tI [1, 1]]
theorem case_all : (cases1 ++ cases2).all (fun d => okS d && (!shapeM d && (okL 2 (rubC d) && !layerM (rubC d)))) = true := by decide +kernel
theorem case_facts {d : PyData} (h : d ∈ cases1 ++ cases2) : okS d = true ∧ shapeM d = false ∧ okL 2 (rubC d) = true ∧ layerM (rubC d) = false := by
  have z := List.all_eq_true.mp case_all d h
  simp only [Bool.and_eq_true, Bool.not_eq_true'] at z
  exact ⟨z.1, z.2.1, z.2.2.1, z.2.2.2⟩
theorem layer_no {v : PyData} (h : nestedM 2 v = false) : layerM v = false := by
  unfold layerM
  rw [h]
  rfl
theorem draw_no {v : PyData} (h : nestedM 2 v = false) : drawM (.tuple [v]) = false := by
  have e : layersOf (nestedM 2) (.tuple [v]) = (decide ((([v] : List PyData).length : Int) ≤ 4) && [v].all (nestedM 2)) := rfl
  unfold drawM
  rw [e, List.all_cons, h]
  rfl
theorem draw_yes {ls : List PyData} (hl : ls.length ≤ 4) (hn : ls.all (nestedM 2) = true) (hp : ptsM (shapesM 2 ls) ≤ 60) : drawM (.tuple ls) = true := by
  have e : layersOf (nestedM 2) (.tuple ls) = (decide ((ls.length : Int) ≤ 4) && ls.all (nestedM 2)) := rfl
  have e2 : itemsOf (.tuple ls) = ls := rfl
  unfold drawM
  rw [e, e2, hn, decide_eq_true (by omega), decide_eq_true hp]
  rfl
theorem shapesM_mem {ls : List PyData} {l : PyData} (h : l ∈ ls) : ptsM (shapesM 2 [l]) ≤ ptsM (shapesM 2 ls) := by
  have pts0 : ∀ ss : List PyData, 0 ≤ ptsM ss := fun ss => by
    unfold ptsM
    have : ∀ xs : List Int, (∀ x, x ∈ xs → 0 ≤ x) → 0 ≤ xs.sum := by
      intro xs
      induction xs with
      | nil => intro _; exact Int.le_refl _
      | cons x xs ih =>
        intro hx
        rw [List.sum_cons]
        have := hx x List.mem_cons_self
        have := ih fun y hy => hx y (List.mem_cons_of_mem _ hy)
        omega
    refine this _ fun x hx => ?_
    obtain ⟨s, _, hs⟩ := List.mem_flatMap.mp hx
    obtain ⟨l, _, rfl⟩ := List.mem_map.mp hs
    unfold lenI
    split <;> omega
  obtain ⟨a, b, rfl⟩ := List.append_of_mem h
  have e1 : ptsM (shapesM 2 [l]) = ptsM (shapesOf (shapesJ 2) l) := by rw [shapesM_eq, List.flatMap_cons, List.flatMap_nil, List.append_nil]
  have e2 : ptsM (shapesM 2 (a ++ l :: b)) = ptsM (a.flatMap (shapesOf (shapesJ 2))) + (ptsM (shapesOf (shapesJ 2) l) + ptsM (b.flatMap (shapesOf (shapesJ 2)))) := by rw [shapesM_eq, List.flatMap_append, List.flatMap_cons, pts_app, pts_app]
  rw [e1, e2]
  have := pts0 (a.flatMap (shapesOf (shapesJ 2)))
  have := pts0 (b.flatMap (shapesOf (shapesJ 2)))
  omega
theorem layer_yes {ls : List PyData} (hn : ls.all (nestedM 2) = true) (hp : ptsM (shapesM 2 ls) ≤ 60) {l : PyData} (h : l ∈ ls) : layerM l = true := by
  unfold layerM
  have := shapesM_mem h
  rw [List.all_eq_true.mp hn l h, decide_eq_true (by omega)]
  rfl
section
variable {P : Program} {w : World} {K : PySem.W.Frag} {mg : Str → Option Value} {base : Heap}
theorem evLayer {E : XK} {es : List Sl} {m m1 : M} {t : TA} {v : PyData} {b : Bool} (h : EvA K t es m [.d v] m1) (hk : okL 2 v = true) (e : layerM v = b) : EvB K (tB (tCall (spD K 1 (pureG R_is_layer)) [] E t)) es m b m1 := eb_val (e ▸ ev_pure h (ds := [v]) rfl ⟨v, rfl, hk, rfl⟩ rfl)
theorem evDrawing {E : XK} {es : List Sl} {m m1 : M} {t : TA} {v : PyData} {b : Bool} (h : EvA K t es m [.d v] m1) (hk : okLs 2 v = true) (e : drawM v = b) : EvB K (tB (tCall (spD K 1 (pureG R_is_drawing)) [] E t)) es m b m1 := eb_val (e ▸ ev_pure h (ds := [v]) rfl ⟨v, rfl, hk, rfl⟩ rfl)
theorem evShape {E : XK} {es : List Sl} {m m1 : M} {t : TA} {v : PyData} {b : Bool} (h : EvA K t es m [.d v] m1) (hk : okS v = true) (e : shapeM v = b) : EvB K (tB (tCall (spD K 1 (pureG R_is_shape)) [] E t)) es m b m1 := eb_val (e ▸ ev_pure h (ds := [v]) rfl ⟨v, rfl, hk, rfl⟩ rfl)
theorem ev_repD {te : TE} {es : List Sl} {m m1 : M} {d : PyData} {k : Int} (h : EvE K te es m (.d d) m1) (h2 : 2 ≤ k) (h3 : k ≤ 1000) : EvE K (tOp (rMulU K) (tTup (tCons te tNil)) (tC (.int k))) es m (.d (.tuple (List.replicate k.toNat d))) m1 := by
  have q := ev_op (ev_tup (arg1 h) (ds := [d]) rfl (by simp)) (ev_int (K := K) (es := es) (m := m1) (i := k)) (o_mulT (K := K) (xs := [d]) (k := k) (by simp) h2 h3 (by simp))
  have e : (List.replicate k.toNat [d]).flatten = List.replicate k.toNat d := by
    generalize k.toNat = n
    induction n with
    | zero => rfl
    | succ n ih => rw [List.replicate_succ, List.flatten_cons, ih, List.replicate_succ]; rfl
  rw [e] at q
  exact q
theorem turn_of {tb : TS} {es : List Sl} {m : M} {a : Addr} {k : Nat} (h : ∃ es2 m2, Sv K 0 tb es m (.nx es2 m2) ∧ ∃ es', es2 = .v (.ref a) :: es' ∧ es'.length = k) : ∃ es' m', Sv K 0 tb es m (.nx (.v (.ref a) :: es') m') ∧ es'.length = k := by
  obtain ⟨es2, m2, h, es', rfl, hl⟩ := h
  exact ⟨es', m2, h, hl⟩
theorem exN_for {es : List Sl} {m m1 : M} {n i : Nat} {wi : TI} {tb rest : TS} {ds : List PyData} {Q : List Sl → M → Prop} (J : Nat → List Sl → M → Prop) (hi : EvI K wi es m ds m1) (h0 : J 0 es m1)
    (st : ∀ (l : Nat) (d : PyData) (es : List Sl) (m : M), ds[l]? = some d → J l es m → ∃ es2 m2, (Sv K n tb (es.set i (.d d)) m (.nx es2 m2) ∨ Sv K n tb (es.set i (.d d)) m (.cnt es2 m2)) ∧ J (l + 1) es2 m2)
    (hd : ∀ es m, J ds.length es m → ∃ es2 m2, Sv K n rest es m (.nx es2 m2) ∧ Q es2 m2) : ∃ es2 m2, Sv K n (tSeq (tFor wi (gName i) tb) rest) es m (.nx es2 m2) ∧ Q es2 m2 := by
  obtain ⟨es', m', h1, h2⟩ := sv_forIe (n := n) (i := i) (tb := tb) J hi h0 st
  exact ex_then h1 (hd es' m' h2)
theorem wide_ok2 : okLs 2 (.tuple [wideD, wideD]) = true := by decide +kernel
theorem wide_ok3 : okLs 2 (.tuple [wideD, wideD, wideD]) = true := by decide +kernel
theorem small_ok4 : okLs 2 (.tuple (List.replicate 4 smallD)) = true := by decide +kernel
theorem small_ok5 : okLs 2 (.tuple (List.replicate 5 smallD)) = true := by decide +kernel
theorem shape_list (r : PyData) (ls : List PyData) : shapeM (.tuple [r, .list ls]) = false := by
  show (ruleM r && loopsM (.list ls)) = false
  rw [show loopsM (.list ls) = false from rfl, Bool.and_false]
def spLaw (K : PySem.W.Frag) : Sp := fun vs H Q _ => LamX.Tabs Tbs.T H ∧ ∃ (a : Addr) (ns : List Int), vs = [.ref a] ∧ SqL K H a (ns.map V.int) ∧ ns.length ≤ 63 ∧ ∀ H', Q (.bl true) H'
theorem c_law {k0 : Nat} (hk0 : 4 ≤ k0) {f cc Pt CS fT gT : Addr} {fd fdT fdTold : FuncData} {D : Addr} {cs : Cs} (F : Fun K "law" "law" st_law f fd) (hcc : fd.code = .ref cc) (T : Blt mg) (bList : mg "list" = none)
    (D__law_rounds : DefC P w K mg base CX0 k0 "_law_rounds" ["_law_script", "_law_most"] (spRounds K)) (DEdr : DefE P w K mg base k0 "_law_drawing" ["_law_dice", "_law_many", "_law_far"] PreDr PostDr)
    (D_is_drawing : PureC P w K mg base k0 "is_drawing" ["value"] R_is_drawing) (D_count_points : DefX P w K mg base k0 "count_points" ["drawing"] (g_count D)) (D__law_size : PureC P w K mg base k0 "_law_size" ["_law_layers"] (R_size 2))
    (D_is_layer : PureC P w K mg base k0 "is_layer" ["value"] R_is_layer) (DEsh : DefE P w K mg base k0 "_law_shape" ["_law_dice", "_law_far"] PreDF (PostDF shapeD))
    (D__law_bad_layers : PureC P w K mg base k0 "_law_bad_layers" ["_law_shape_here"] (fun ds y => ∃ s, ds = [s] ∧ y = .list (badL s))) (D_is_shape : PureC P w K mg base k0 "is_shape" ["value"] R_is_shape)
    (FTold : Fun K "_law_told" "_law_told" st__law_told gT fdTold) (mTold : mg "_law_told" = some (.ref gT)) (bTold : L2.Binds K fdTold ["_law_deed"] []) (mPE : mg "PictureError" = some (.ref CS)) (mTerm : mg "_law_term" = some (.ref fT)) (kTerm : PySem.W.keepIn K (.ref fT) = true) (bTerm : L2.Binds K fdT ["_law_e"] [])
    (FTerm : FnP P w K mg base C8.CX0 1 fT fdT ["_law_e"] (spTerm K (R_term K cs))) (TB : LamX.TabB base mg cc Pt) (hmT : (Pt, ("law.<locals>." : Str) ++ "<lambda>") ∈ Tbs.T) (huT : ∀ p ∈ Tbs.T, p.1 = Pt → p.2 = ("law.<locals>." : Str) ++ "<lambda>")
    (eD : ErrD K cs 4 D) (hPE : cs.PictureError = CS) : FnOk P w K mg base CX0 (k0 + 3) f fd ["_law_script"] (spLaw K) := by
  obtain ⟨oc, od, kV, doc, pm, an, cdv, ct, osl, rfl, lk, hcd⟩ := F.ex
  obtain rfl : cdv = .ref cc := hcc
  subst hPE
  obtain ⟨gD, hgD, D__law_drawing⟩ := DEdr
  obtain ⟨gS, hgS, D__law_shape⟩ := DEsh
  refine fn_of lk hcd S_law (fun vs H Q E h => by obtain ⟨_, a, ns, rfl, _⟩ := h; rfl) fun A outer s H vs Q E hr h => ?_
  obtain ⟨tb0, a, ns, rfl, hS, hn, q⟩ := h
  have hu := hr.units
  have hrT := hr
  have hcode : (cxOf CX0 P w K mg base N_law "law" (defScope st_law) f (.ref cc) A outer s H E).nox.env.code = .ref cc := rfl
  refine ⟨_, L2.PSs.nox (pss_cons (ps_for PassesOwn.never rfl (kSeq (K := K) (pe_def D__law_rounds (hr.mono (by omega)) (by rfl) pass0 (pa_cons (pv 0) (pa_cons pe_int pa_nil)))) (pg_name (i := 1) S_law.nd rfl (Or.inl rfl)) (pss_cons (ps_set (i := 2) S_law.nd rfl (Or.inl rfl) (pe_def D__law_drawing (hr.mono (by omega)) (by rfl) pass0 (pa_cons (pv 1) (pa_cons pe_int (pa_cons pe_int pa_nil)))))
      (pss_cons (ps_if (PW.pt (pw_or (pt_not (pt_val (pe_def D_is_drawing (hr.mono (by omega)) (by rfl) pass0 (pa_cons (pv 2) pa_nil)))) (pw_or1 (pt_cmpR (kNe (K := K) hu) (pe_def D_count_points (hr.mono (by omega)) (by rfl) passN0 (pa_cons (pv 2) pa_nil)) (pe_def D__law_size (hr.mono (by omega)) (by rfl) pass0 (pa_cons (pv 2) pa_nil)) (nomark _))))) (pss_one (ps_ret pe_bl)) pss_nil)
      (pss_cons (ps_if (pt_not (pt_val (pe_callB (kAll (K := K) rfl) (by rfl) T.b_all (by decide +kernel) (pa_cons (pe_lc (own := [("_law_layer_here", 9)]) (by rfl) S_law.nd (kSeq (K := K) (pv 2)) (blkOk_by (N := N_law) (sc := defScope st_law) (by decide +kernel)) (fun _ _ _ _ _ => pg_name (i := 9) S_law.nd rfl (by first | exact Or.inl rfl | exact Or.inr rfl)) (fun _ _ _ _ _ => pts_nil) (fun _ _ _ _ _ => (pe_def D_is_layer (hr.mono (by omega)) (by rfl) pass0 (pa_cons (pv 9) pa_nil)))) pa_nil)))) (pss_one (ps_ret pe_bl)) pss_nil)
      (pss_cons (ps_set (i := 3) S_law.nd rfl (Or.inl rfl) (pe_def D__law_shape (hr.mono (by omega)) (by rfl) pass0 (pa_cons (pv 1) (pa_cons pe_int pa_nil))))
      (pss_cons (ps_for PassesOwn.never rfl (kSeq (K := K) (pe_def D__law_bad_layers (hr.mono (by omega)) (by rfl) pass0 (pa_cons (pv 3) pa_nil))) (pg_name (i := 4) S_law.nd rfl (Or.inr rfl)) (pss_cons (ps_if (PW.pt (pw_or (pt_val (pe_def D_is_layer (hr.mono (by omega)) (by rfl) pass0 (pa_cons (pv 4) pa_nil))) (pw_or1 (pt_val (pe_def D_is_drawing (hr.mono (by omega)) (by rfl) pass0 (pa_cons (pe_tup (pa_cons (pv 4) pa_nil)) pa_nil)))))) (pss_one (ps_ret pe_bl)) pss_nil)
      (pss_one (ps_if (pt_cmpR (kNe (K := K) hu) (pe_toldL (T := Tbs.T) (by rfl) FTold mTold bTold mPE mTerm kTerm bTerm FTerm TB hcode hmT huT hrT (LamX.lamS_by (sc := defScope st_law) (by decide +kernel)) rfl (fun _ _ _ _ _ => rfl) (fun A o s H E f c' r => pe_lamBody D_count_points (by rfl) (by rfl) (i := 4) rfl A o s H E f c' r)) (pe_tup (pa_cons pe_str (pa_cons pe_str pa_nil))) (nomark _)) (pss_one (ps_ret pe_bl)) pss_nil))))
      (pss_cons (ps_set (i := 5) S_law.nd rfl (Or.inl rfl) (pe_tup (pa_cons (pe_tup (pa_cons pe_int (pa_cons pe_int pa_nil))) (pa_cons (pe_tup (pa_cons pe_int (pa_cons (pe_un un_neg pe_int) pa_nil))) (pa_cons (pe_tup (pa_cons (pe_un un_neg pe_int) (pa_cons pe_int pa_nil))) (pa_cons (pe_tup (pa_cons pe_int (pa_cons pe_int pa_nil))) (pa_cons (pe_tup (pa_cons pe_int (pa_cons pe_int pa_nil))) (pa_cons (pe_tup (pa_cons pe_int (pa_cons pe_int pa_nil))) (pa_cons (pe_tup (pa_cons pe_int (pa_cons pe_int pa_nil))) (pa_cons (pe_tup (pa_cons pe_int (pa_cons pe_int pa_nil))) pa_nil))))))))))
      (pss_cons (ps_set (i := 6) S_law.nd rfl (Or.inl rfl) (pe_tup (pa_cons pe_str (pa_cons (pe_tup (pa_cons pe_str (pa_cons (pe_op (kMul (K := K)) (pe_tup (pa_cons (pv 5) pa_nil)) pe_int) pa_nil))) (pa_cons (pe_tup (pa_cons pe_int (pa_cons pe_int pa_nil))) pa_nil)))))
      (pss_cons (ps_if (PW.pt (pw_or (pt_not (pt_val (pe_def D_is_layer (hr.mono (by omega)) (by rfl) pass0 (pa_cons (pv 6) pa_nil)))) (pw_or (pt_not (pt_val (pe_def D_is_drawing (hr.mono (by omega)) (by rfl) pass0 (pa_cons (pe_tup (pa_cons (pv 6) (pa_cons (pv 6) pa_nil))) pa_nil)))) (pw_or1 (pt_val (pe_def D_is_drawing (hr.mono (by omega)) (by rfl) pass0 (pa_cons (pe_tup (pa_cons (pv 6) (pa_cons (pv 6) (pa_cons (pv 6) pa_nil)))) pa_nil))))))) (pss_one (ps_ret pe_bl)) pss_nil)
      (pss_cons (ps_set (i := 7) S_law.nd rfl (Or.inl rfl) (pe_tup (pa_cons pe_str (pa_cons (pe_tup (pa_cons pe_str (pa_cons (pe_tup (pa_cons (pe_slice (kSl (K := K)) (pv 5) po_none (po_some pe_int)) pa_nil)) pa_nil))) (pa_cons (pe_tup (pa_cons pe_int (pa_cons pe_int pa_nil))) pa_nil)))))
      (pss_cons (ps_if (PW.pt (pw_or (pt_not (pt_val (pe_def D_is_drawing (hr.mono (by omega)) (by rfl) pass0 (pa_cons (pe_op (kMul (K := K)) (pe_tup (pa_cons (pv 7) pa_nil)) pe_int) pa_nil)))) (pw_or (pt_val (pe_def D_is_drawing (hr.mono (by omega)) (by rfl) pass0 (pa_cons (pe_op (kMul (K := K)) (pe_tup (pa_cons (pv 7) pa_nil)) pe_int) pa_nil))) (pw_or1 (pt_val (pe_def D_is_drawing (hr.mono (by omega)) (by rfl) pass0 (pa_cons (pe_lst (pa_cons (pv 7) pa_nil)) pa_nil))))))) (pss_one (ps_ret pe_bl)) pss_nil)
      (pss_cons (ps_set (i := 8) S_law.nd rfl (Or.inl rfl) (pe_lst (pa_cons (pe_tup (pa_cons pe_str (pa_cons (pe_tup (pa_cons (pe_op (kAdd (K := K)) (pv 5) (pe_slice (kSl (K := K)) (pv 5) po_none (po_some pe_int))) pa_nil)) pa_nil))) (pa_cons (pe_tup (pa_cons pe_str (pa_cons (pe_op (kMul (K := K)) (pe_tup (pa_cons (pv 5) pa_nil)) pe_int) pa_nil))) (pa_cons (pe_tup (pa_cons pe_str (pa_cons (pe_tup (pa_cons (pe_slice (kSl (K := K)) (pv 5) po_none (po_some pe_int)) pa_nil)) pa_nil))) pa_nil)))))
      (pss_cons (ps_set (i := 8) S_law.nd rfl (Or.inl rfl) (pe_op (kAdd (K := K)) (pv 8) (pe_lst (pa_cons (pe_tup (pa_cons pe_str (pa_cons (pv 5) pa_nil))) (pa_cons pe_non (pa_cons (pe_tup (pa_cons pe_str pa_nil)) pa_nil))))))
      (pss_cons (ps_for PassesOwn.never rfl (kSeq (K := K) (pv 8)) (pg_name (i := 4) S_law.nd rfl (Or.inr rfl)) (pss_one (ps_if (PW.pt (pw_or (pt_val (pe_def D_is_shape (hr.mono (by omega)) (by rfl) pass0 (pa_cons (pv 4) pa_nil))) (pw_or1 (pt_val (pe_def D_is_layer (hr.mono (by omega)) (by rfl) pass0 (pa_cons (pe_tup (pa_cons pe_str (pa_cons (pv 4) (pa_cons (pe_tup (pa_cons pe_int (pa_cons pe_int pa_nil))) pa_nil)))) pa_nil)))))) (pss_one (ps_ret pe_bl)) pss_nil)))
      (pss_one (ps_if (PW.pt (pw_or (pt_not (pt_val (pe_def D_is_shape (hr.mono (by omega)) (by rfl) pass0 (pa_cons (pv 3) pa_nil)))) (pw_or1 (pt_val (pe_def D_is_shape (hr.mono (by omega)) (by rfl) pass0 (pa_cons (pe_tup (pa_cons (pe_ix (kIx (K := K)) (pv 3) pe_int (fun _ _ => rfl)) (pa_cons (pe_callTy (kList (K := K)) (by rfl) bList (by decide +kernel) (pa_cons (pe_ix (kIx (K := K)) (pv 3) pe_int (fun _ _ => rfl)) pa_nil)) pa_nil))) pa_nil)))))) (pss_one (ps_ret pe_bl)) pss_nil))))))))))))))))
      (pss_one (ps_ret pe_bl))), ?_⟩
  refine law_loop (K := K) (a := a) (L := 10) (es0 := [.no, .no, .no, .no, .no, .no, .no, .no]) rfl rfl (by simp) (fun R hR => ?_) (fun x => ?_) (fun σ' H' => q H') tb0
  · exact .inr ⟨_, rfl, ⟨tb0, a, ns, 4, rfl, hS, by omega, by decide, fun D rs xs H' e1 t1 e2 e3 e4 e5 e6 e7 e8 => ⟨D, rfl, ⟨_, .inl (.inl e3)⟩, hR D rs xs H' e1 t1 e2 e3 e4 e5 e6 e7 e8⟩⟩⟩
  · clear hr hu hrT
    obtain ⟨r1, m1, ev1, p1⟩ := ex_callE (K := K) (E := E0) (n := 3) hgD (ta := tCons (tVar 1) (tCons (tC (.int 4)) (tCons (tC (.int 9)) tNil))) (es := [.v (.ref a), .c 0, .no, .no, .no, .no, .no, .no, .no, .no]) (m := [[.int x, .int 0]]) (ea_cons (ev_var rfl nofun) (arg2 ev_int ev_int)) ⟨0, 4, 9, rfl, ⟨x, 0, rfl⟩, by decide, by decide, by decide, by decide⟩ rfl
    obtain ⟨ls, rfl, hl4, ⟨hls, hpts⟩, hro⟩ := p1 0 4 9 rfl
    have hl4 : ls.length ≤ 4 := by omega
    have hnest : ls.all (nestedM 2) = true := List.all_eq_true.mpr fun l h => (layer_ok (by decide) 1 (hls l h)).1
    have hok : ls.all (okL 2) = true := List.all_eq_true.mpr fun l h => (layer_ok (by decide) 1 (hls l h)).2
    have hdie := hro.die (show 0 < [[PyData.int x, PyData.int 0]].length from Nat.succ_pos 0)
    have hdraw := draw_yes hl4 hnest (by omega)
    obtain ⟨r2, m2, ev2, p2⟩ := ex_callE (K := K) (E := E0) (n := 2) hgS (ta := tCons (tVar 1) (tCons (tC (.int 9)) tNil)) (es := [.v (.ref a), .c 0, .d (.tuple ls), .no, .no, .no, .no, .no, .no, .no]) (m := m1) (arg2 (ev_var rfl nofun) ev_int) ⟨0, 9, rfl, hdie, by decide, by decide⟩ rfl
    obtain ⟨sh, rfl, hsh, hro2⟩ := p2 0 9 rfl
    obtain ⟨sh1, sh2⟩ := shape_ok (by decide) hsh
    obtain ⟨rr, lp, rfl, hrule, _⟩ := id hsh
    have len2 : m2.length = 1 := by rw [hro2.len, hro.len]; rfl
    have okB : ∀ {d : PyData}, okL 2 d = true → okLs 2 (.tuple [d]) = true := fun {d} h => by
      show [d].all (okL 2) = true
      rw [List.all_cons, h]; rfl
    refine turn_of ?_
    refine ex_then (sv_set ev1) ?_
    refine ex_then (sv_ifF (m1 := m1) (eb_orF (eb_notT (evDrawing (arg1 (ev_var rfl nofun)) hok hdraw)) (eb_cast (eb_test (ev_op (ok_call (r := .d (.int (ptsM (shapesM 2 ls)))) (arg1 (ev_var rfl nofun)) ⟨rfl, .tuple ls, rfl, hok, by rw [hdraw]; rfl⟩ rfl) (ev_pure (arg1 (ev_var rfl nofun)) (ds := [.tuple ls]) rfl ⟨ls, rfl, hl4, hnest, rfl⟩ rfl) o_neI)) (by simp))) sv_next) ?_
    refine ex_then (sv_ifF (m1 := m1) (eb_notT (eb_cast (eb_val (ev_all (ds := ls) (p := layerM) (ei_seqT (ev_var rfl nofun)) (by omega) fun d hd => ev_pure (arg1 (ev_var rfl nofun)) (ds := [d]) rfl ⟨d, rfl, List.all_eq_true.mp hok d hd, rfl⟩ rfl)) (List.all_eq_true.mpr fun l h => layer_yes hnest (by omega) h))) sv_next) ?_
    refine ex_then (sv_set ev2) ?_
    generalize hshape : PyData.tuple [rr, .tuple lp] = sh at sh1 sh2 ⊢
    refine exN_for (i := 4) (ds := badL sh) (m1 := m2) (fun _ es mm => mm = m2 ∧ ∃ b, es = [.v (.ref a), .c 0, .d (.tuple ls), .d sh, b, .no, .no, .no, .no, .no]) (ei_seqL (ev_pure (arg1 (ev_var rfl nofun)) (ds := [sh]) rfl ⟨sh, rfl, rfl⟩ rfl)) ⟨rfl, .no, rfl⟩ ?st5 ?fin5
    case st5 =>
      rintro l d es mm hd ⟨rfl, b, rfl⟩
      obtain ⟨bn, bk⟩ := bad_no sh2 d (List.mem_of_getElem? hd)
      refine ex_seq (m1 := mm) (sv_ifF (m1 := mm) (eb_orF (evLayer (arg1 (ev_var rfl nofun)) bk (layer_no bn)) (evDrawing (arg1 (ev_tup (arg1 (ev_var rfl nofun)) (ds := [d]) rfl (by simp))) (okB bk) (draw_no bn))) sv_next) ?_
      exact ⟨_, _, sv_ifF (m1 := mm) (eb_cast (eb_test (ev_op (ev_told (D := D) (y := .tuple [.str "error", .str "InvalidDrawing"]) hmT (ex_call (arg1 (ev_tup (arg1 (ev_var rfl nofun)) (ds := [d]) rfl (by simp))) ⟨rfl, .tuple [d], rfl, okB bk, by rw [draw_no bn]; rfl⟩ rfl) eD.caught ⟨4, by decide, eD, rfl⟩) (ev_tup (arg2 ev_str ev_str) (ds := [.str "error", .str "InvalidDrawing"]) rfl (by simp)) (o_neD (by decide +kernel) (by decide +kernel)))) (by decide +kernel)) sv_next, rfl, .d d, rfl⟩
    case fin5 =>
      rintro es mm ⟨rfl, b, rfl⟩
      refine ex_then (sv_set (r := .d (.tuple loopH)) (m1 := mm) (ev_tupD (ds := loopH) (by (repeat' (first | exact ev_int | exact ev_bl | exact ev_str | exact ev_non | exact ev_neg | exact ev_var rfl nofun | exact ea_nil | apply ea_c | apply ev_tupD | apply ev_lstD | decide | (simp only [List.length_cons, List.length_nil]; decide)))) (by decide))) ?_
      refine ex_then (sv_set (r := .d wideD) (m1 := mm) (ev_tupD (ds := [.str "rub", .tuple [.str "turns", .tuple (List.replicate 3 (.tuple loopH))], tI [6, 6]]) (ea_c ev_str (ea_c (ev_tupD (ds := [.str "turns", .tuple (List.replicate 3 (.tuple loopH))]) (ea_c ev_str (ea_c (ev_repD (k := 3) (ev_var rfl nofun) (by decide) (by decide)) ea_nil)) (by simp)) (by (repeat' (first | exact ev_int | exact ev_bl | exact ev_str | exact ev_non | exact ev_neg | exact ev_var rfl nofun | exact ea_nil | apply ea_c | apply ev_tupD | apply ev_lstD | decide | (simp only [List.length_cons, List.length_nil]; decide)))))) (by simp))) ?_
      refine ex_then (sv_ifF (m1 := mm) (eb_orF (eb_notT (evLayer (arg1 (ev_var rfl nofun)) wide_facts.1 wide_facts.2.1)) (eb_orF (eb_notT (evDrawing (arg1 (ev_tup (arg2 (ev_var rfl nofun) (ev_var rfl nofun)) (ds := [wideD, wideD]) rfl (by simp))) wide_ok2 wide_facts.2.2.1)) (evDrawing (arg1 (ev_tup (ea_cons (ev_var rfl nofun) (arg2 (ev_var rfl nofun) (ev_var rfl nofun))) (ds := [wideD, wideD, wideD]) rfl (by simp))) wide_ok3 wide_facts.2.2.2))) sv_next) ?_
      refine ex_then (sv_set (r := .d smallD) (m1 := mm) (ev_tupD (ds := [.str "rub", .tuple [.str "odd", .tuple [.tuple (loopH.take 3)]], tI [1, 6]]) (ea_c ev_str (ea_c (ev_tupD (ds := [.str "odd", .tuple [.tuple (loopH.take 3)]]) (ea_c ev_str (ea_c (ev_tupD (ds := [.tuple (loopH.take 3)]) (ea_c (ev_to (k := 3) (ev_var rfl nofun)) ea_nil) (by simp)) ea_nil)) (by simp)) (by (repeat' (first | exact ev_int | exact ev_bl | exact ev_str | exact ev_non | exact ev_neg | exact ev_var rfl nofun | exact ea_nil | apply ea_c | apply ev_tupD | apply ev_lstD | decide | (simp only [List.length_cons, List.length_nil]; decide)))))) (by simp))) ?_
      refine ex_then (sv_ifF (m1 := mm) (eb_orF (eb_notT (evDrawing (arg1 (ev_repD (k := 4) (ev_var rfl nofun) (by decide) (by decide))) small_ok4 small_facts.2.1)) (eb_orF (evDrawing (arg1 (ev_repD (k := 5) (ev_var rfl nofun) (by decide) (by decide))) small_ok5 small_facts.2.2.1) (evDrawing (arg1 (ev_lst (arg1 (ev_var rfl nofun)) (ds := [smallD]) rfl (by simp))) rfl small_facts.2.2.2))) sv_next) ?_
      refine ex_then (sv_cell (ds := cases1) (m1 := mm) (el_lstD (ea_c (ev_tupD (ds := [.str "odd", .tuple [.tuple (loopH ++ loopH.take 1)]]) (ea_c ev_str (ea_c (ev_tupD (ds := [.tuple (loopH ++ loopH.take 1)]) (ea_c (ev_op (ev_var rfl nofun) (ev_to (k := 1) (ev_var rfl nofun)) (o_addT (by decide))) ea_nil) (by simp)) ea_nil)) (by simp))
        (ea_c (ev_tupD (ds := [.str "odd", .tuple (List.replicate 4 (.tuple loopH))]) (ea_c ev_str (ea_c (ev_repD (k := 4) (ev_var rfl nofun) (by decide) (by decide)) ea_nil)) (by simp))
        (ea_c (ev_tupD (ds := [.str "odd", .tuple [.tuple (loopH.take 2)]]) (ea_c ev_str (ea_c (ev_tupD (ds := [.tuple (loopH.take 2)]) (ea_c (ev_to (k := 2) (ev_var rfl nofun)) ea_nil) (by simp)) ea_nil)) (by simp)) ea_nil))) (by decide))) ?_
      refine ex_then (sv_set (r := .d (.list (cases1 ++ cases2))) (m1 := mm ++ [cases1]) (el_d (el_cat rfl (el_lstD (ds := cases2) (by (repeat' (first | exact ev_int | exact ev_bl | exact ev_str | exact ev_non | exact ev_neg | exact ev_var rfl nofun | exact ea_nil | apply ea_c | apply ev_tupD | apply ev_lstD | decide | (simp only [List.length_cons, List.length_nil]; decide)))) (by decide)) last_get (by decide)))) ?_
      refine exN_for (i := 4) (ds := cases1 ++ cases2) (m1 := mm ++ [cases1]) (fun _ es m3 => m3 = mm ++ [cases1] ∧ ∃ b, es = [.v (.ref a), .c 0, .d (.tuple ls), .d sh, b, .d (.tuple loopH), .d wideD, .d smallD, .d (.list (cases1 ++ cases2)), .no]) (ei_seqL (ev_var rfl nofun)) ⟨rfl, b, rfl⟩ ?st13 ?fin13
      case st13 =>
        rintro l d es m3 hd ⟨rfl, b, rfl⟩
        obtain ⟨f1, f2, f3, f4⟩ := case_facts (List.mem_of_getElem? hd)
        exact ex_one ⟨_, _, sv_ifF (m1 := mm ++ [cases1]) (eb_orF (evShape (arg1 (ev_var rfl nofun)) f1 f2) (evLayer (arg1 (ev_tupD (ds := [.str "rub", d, tI [1, 1]]) (by (repeat' (first | exact ev_int | exact ev_bl | exact ev_str | exact ev_non | exact ev_neg | exact ev_var rfl nofun | exact ea_nil | apply ea_c | apply ev_tupD | apply ev_lstD | decide | (simp only [List.length_cons, List.length_nil]; decide)))) (by simp))) f3 f4)) sv_next, rfl, .d d, rfl⟩
      case fin13 =>
        rintro es m3 ⟨rfl, b, rfl⟩
        subst hshape
        refine ⟨_, _, sv_ifF (m1 := mm ++ [cases1]) (eb_orF (eb_notT (evShape (arg1 (ev_var rfl nofun)) sh2 sh1)) (evShape (v := .tuple [rr, .list lp]) (arg1 (ev_tup (arg2 (ev_op (ev_var rfl nofun) ev_int (o_ixT (j := 0) rfl rfl)) (ev_cb (arg1 (ev_op (ev_var rfl nofun) ev_int (o_ixT (j := 1) rfl rfl))) c_listT)) (ds := [rr, .list lp]) rfl (by simp))) sh2 (shape_list rr lp))) sv_next, _, rfl, rfl⟩
end
end K31

set_option Elab.async false
set_option linter.all false
set_option maxRecDepth 100000
set_option maxHeartbeats 4000000
namespace K31
open PySem PySem.Spec PyProof.Rows L2 DL
structure Top (K : PySem.W.Frag) (mg : Str → Option Value) : Prop where
  d_is_whole : DefT K mg "is_whole" st_is_whole ["value"]
  d_are_whole : DefT K mg "are_whole" st_are_whole ["value", "many", "low", "high"]
  d_is_loop : DefT K mg "is_loop" st_is_loop ["value"]
  d_is_shape : DefT K mg "is_shape" st_is_shape ["value"]
  d_is_colour : DefT K mg "is_colour" st_is_colour ["value"]
  d_is_opacity : DefT K mg "is_opacity" st_is_opacity ["value"]
  d_is_matrix : DefT K mg "is_matrix" st_is_matrix ["value"]
  d_is_fill : DefT K mg "is_fill" st_is_fill ["value"]
  d_is_rub : DefT K mg "is_rub" st_is_rub ["value"]
  d_is_group : DefT K mg "is_group" st_is_group ["value", "deepest"]
  d_is_nested_layer : DefT K mg "is_nested_layer" st_is_nested_layer ["value", "deepest"]
  d_are_layers : DefT K mg "are_layers" st_are_layers ["value", "deepest"]
  d_list_shapes : DefT K mg "list_shapes" st_list_shapes ["layers"]
  d_add_points : DefT K mg "add_points" st_add_points ["layers"]
  d_is_layer : DefT K mg "is_layer" st_is_layer ["value"]
  d_is_drawing : DefT K mg "is_drawing" st_is_drawing ["value"]
  d_check_drawing : DefT K mg "check_drawing" st_check_drawing ["value"]
  d_count_points : DefT K mg "count_points" st_count_points ["drawing"]
  d__law_cell : DefT K mg "_law_cell" st__law_cell ["_law_script", "_law_k"]
  d__law_drawn : DefT K mg "_law_drawn" st__law_drawn ["_law_cell_here", "_law_k"]
  d__law_roll : DefT K mg "_law_roll" st__law_roll ["_law_dice", "_law_many"]
  d__law_rounds : DefT K mg "_law_rounds" st__law_rounds ["_law_script", "_law_most"]
  d__law_term : DefT K mg "_law_term" st__law_term ["_law_e"]
  d__law_told : DefT K mg "_law_told" st__law_told ["_law_deed"]
  d__law_loop : DefT K mg "_law_loop" st__law_loop ["_law_dice", "_law_far"]
  d__law_shape : DefT K mg "_law_shape" st__law_shape ["_law_dice", "_law_far"]
  d__law_opacity : DefT K mg "_law_opacity" st__law_opacity ["_law_dice"]
  d__law_matrix : DefT K mg "_law_matrix" st__law_matrix ["_law_dice"]
  d__law_layer : DefT K mg "_law_layer" st__law_layer ["_law_dice", "_law_far", "_law_deep"]
  d__law_drawing : DefT K mg "_law_drawing" st__law_drawing ["_law_dice", "_law_many", "_law_far"]
  d__law_size : DefT K mg "_law_size" st__law_size ["_law_layers"]
  d__law_bad_layers : DefT K mg "_law_bad_layers" st__law_bad_layers ["_law_shape_here"]
  b_isinstance : mg "isinstance" = none
  b_tuple : mg "tuple" = none
  b_int : mg "int" = none
  b_bool : mg "bool" = none
  b_len : mg "len" = none
  b_all : mg "all" = none
  b_sum : mg "sum" = none
  b_max : mg "max" = none
  b_min : mg "min" = none
  b_range : mg "range" = none
  b_list : mg "list" = none
  b_ValueError : mg "ValueError" = none
  RULES : ∃ a, mg "RULES" = some (.ref a) ∧ ∀ H, Dp K H (.ref a) (.tuple [.str "odd", .str "turns"])
  FARTHEST : ∃ t, mg "FARTHEST" = some (.int 9 t)
  MOST_LAYERS : ∃ t, mg "MOST_LAYERS" = some (.int 4 t)
  MOST_POINTS : ∃ t, mg "MOST_POINTS" = some (.int 60 t)
  DEEPEST : ∃ t, mg "DEEPEST" = some (.int 2 t)
end K31

set_option Elab.async false
set_option linter.all false
set_option maxRecDepth 100000
set_option maxHeartbeats 4000000
namespace K31
variable [DL.Tbs]
open PySem PySem.Spec PyProof.Rows L2 DL HX
section
variable {P : Program} {w : World} {K : PySem.W.Frag} {mg : Str → Option Value} {base : Heap}
theorem neverP {x : Str} {st : Stmt} {ps : List Str} (T : DefT K mg x st ps) : PureC P w K mg base 0 x ps (fun _ _ => False) := by
  obtain ⟨f, fd, F, hm, hB⟩ := T.ex
  refine ⟨f, fd, ⟨fun vs H Q E h => h.1, fun A outer s H args us vs Q E hr he hb hv h => ?_⟩, hm, F.kp, hB⟩
  obtain ⟨_, _, _, _, _, _, _, _, _, ⟨_, _, _, h, _⟩, _⟩ := h
  exact h.elim
theorem DefE.mono {x : Str} {ps : List Str} {k k' : Nat} {Pre : List Sl → M → Prop} {Post : List Sl → M → Sl → M → Prop} (h : DefE P w K mg base k x ps Pre Post) (hk : k ≤ k') : DefE P w K mg base k' x ps Pre Post := by
  obtain ⟨g, a, b⟩ := h
  exact ⟨g, a, b.mono hk⟩
theorem tower (T : Top K mg) (B : Blt mg) (sh : PureC P w K mg base 4 "is_shape" ["value"] R_is_shape) (co : PureC P w K mg base 3 "is_colour" ["value"] R_is_colour) (op : PureC P w K mg base 3 "is_opacity" ["value"] R_is_opacity) (mx : PureC P w K mg base 3 "is_matrix" ["value"] R_is_matrix)
    (fi : PureC P w K mg base 5 "is_fill" ["value"] R_is_fill) (ru : PureC P w K mg base 5 "is_rub" ["value"] R_is_rub) : ∀ n : Nat, PureC P w K mg base (6 + 3 * n) "is_nested_layer" ["value", "deepest"] (R_nested n) ∧ PureC P w K mg base (7 + 3 * n) "are_layers" ["value", "deepest"] (R_layers n)
  | 0 => by
    have g0 := c_group (n := 0) (k := 4) B T.d_is_group ((never (N := []) (n := 2) T.d_are_layers).mono (Nat.zero_le 4)) (fun j e => by cases e) (Nat.le_refl _) sh op mx
    have n0 := c_nested (n := 0) B T.d_is_nested_layer (Nat.le_refl _) fi ru g0
    exact ⟨n0, c_layers B T.d_are_layers n0 T.MOST_LAYERS⟩
  | n + 1 => by
    obtain ⟨_, l⟩ := tower T B sh co op mx fi ru n
    have g1 := c_group (n := n + 1) B T.d_is_group l (fun j e => by cases e; rfl) (by omega) sh op mx
    have n1 := c_nested (n := n + 1) B T.d_is_nested_layer (by omega) fi ru g1
    exact ⟨n1.mono (by omega), (c_layers B T.d_are_layers n1 T.MOST_LAYERS).mono (by omega)⟩
theorem shapes_tower (T : Top K mg) (B : Blt mg) : DefC P w K mg base CX0 3 "list_shapes" ["layers"] (spL K 1 (G_list_shapes 2)) := by
  have z : DefC P w K mg base CX0 0 "list_shapes" ["layers"] (spL K 1 fun _ _ _ _ => False) := by
    obtain ⟨f, fd, F, hm, hB⟩ := T.d_list_shapes.ex
    refine ⟨f, fd, ⟨fun vs H Q E h => h.1, fun A outer s H args us vs Q E hr he hb hv h => ?_⟩, hm, F.kp, hB⟩
    obtain ⟨_, _, _, _, _, _, _, _, _, h, _⟩ := h
    exact h.elim
  have s0 := c_list_shapes (n := 0) B T.d_list_shapes z (fun j e => by cases e) (by decide)
  have s1 := c_list_shapes (n := 1) B T.d_list_shapes s0 (fun j e => by cases e; rfl) (by decide)
  exact c_list_shapes (n := 2) B T.d_list_shapes s1 (fun j e => by cases e; rfl) (by decide)
theorem law_all (T : Top K mg) {f cc Pt : Addr} {fd : FuncData} {cs : Cs} (hC : CsOk mg cs) (eD : ErrD K cs 4 cs.InvalidDrawing) (rD : RaiseD K cs.InvalidDrawing) (F : Fun K "law" "law" st_law f fd) (hcc : fd.code = .ref cc)
    (TB : LamX.TabB base mg cc Pt) (hmT : (Pt, ("law.<locals>." : Str) ++ "<lambda>") ∈ Tbs.T) (huT : ∀ p ∈ Tbs.T, p.1 = Pt → p.2 = ("law.<locals>." : Str) ++ "<lambda>") : FnOk P w K mg base CX0 19 f fd ["_law_script"] (spLaw K) := by
  have B : Blt mg := ⟨T.b_isinstance, T.b_tuple, T.b_int, T.b_bool, T.b_len, T.b_all, T.b_sum⟩
  have D : BltD mg := ⟨T.b_len, T.b_max, T.b_min, T.b_range⟩
  have d1 := c_is_whole (P := P) (w := w) (K := K) (base := base) B T.d_is_whole
  have d2 := c_are_whole B T.d_are_whole d1
  have d3 := c_is_loop B T.d_is_loop d2 T.FARTHEST
  have d4 := c_is_shape B T.d_is_shape d3 T.RULES
  have d5 := c_is_colour B T.d_is_colour d2
  have d6 := c_is_opacity B T.d_is_opacity d2
  have d7 := c_is_matrix B T.d_is_matrix d2 T.FARTHEST
  have d8 := c_is_fill B T.d_is_fill d4 d5 d6
  have d9 := c_is_rub B T.d_is_rub d4 d6
  obtain ⟨n2, l2⟩ := tower T B d4 d5 d6 d7 d8 d9 2
  have ls := shapes_tower (P := P) (w := w) (base := base) T B
  have ap := c_add_points B T.d_add_points ls (Nat.le_refl _)
  have ly := c_is_layer (k := 13) B T.d_is_layer (n2.mono (by decide)) (ap.mono (by decide)) T.DEEPEST T.MOST_POINTS
  have dr := c_is_drawing (k := 13) B T.d_is_drawing l2 (ap.mono (by decide)) T.DEEPEST T.MOST_POINTS
  have ck := c_checkX B T.d_check_drawing dr hC.InvalidDrawing rD
  have cp := c_countX B T.d_count_points ck (ap.mono (by decide))
  have ce := c_cell (P := P) (w := w) (K := K) (base := base) D T.d__law_cell
  have dn := c_drawn (P := P) (w := w) (K := K) (base := base) D T.d__law_drawn
  have ro := c_roll D T.d__law_roll dn
  have rn := c_rounds D T.d__law_rounds ce
  obtain ⟨fT, fdT, mTerm, kTerm, bTerm, FTerm⟩ := c_term (P := P) (w := w) (K := K) (base := base) T.b_isinstance T.b_sum T.b_int T.d__law_term T.b_ValueError hC
  have g1 := c_loop T.b_range T.b_tuple T.d__law_loop ro
  have g2 := c_shape T.b_range T.b_tuple T.d__law_shape (ro.mono (by decide)) g1
  have g3 := c_opacity T.d__law_opacity ro
  have g4 := c_matrix T.d__law_matrix ro
  have y0 := c_layer (k := 4) (n := 0) (by decide) T.b_range T.b_tuple T.d__law_layer (ro.mono (by decide)) g2 (DefE.mono g3 (by decide)) (DefE.mono g4 (by decide)) (fun i e => by cases e) ((never (N := []) (n := 3) T.d__law_layer).mono (by decide))
  obtain ⟨gL, hgL, y0'⟩ := y0
  have y1 := c_layer (k := 5) (n := 1) (by decide) T.b_range T.b_tuple T.d__law_layer (ro.mono (by decide)) (DefE.mono g2 (by decide)) (DefE.mono g3 (by decide)) (DefE.mono g4 (by decide)) (gL := gL) (fun i e => by cases e; exact hgL) y0'
  have z0 := c_size (k := 0) (n := 0) T.b_len T.b_sum T.d__law_size (neverP (P := P) (w := w) (base := base) T.d__law_size) (fun i e => by cases e)
  have z1 := c_size (n := 1) T.b_len T.b_sum T.d__law_size z0 (fun i e => by cases e; rfl)
  have z2 := c_size (n := 2) T.b_len T.b_sum T.d__law_size z1 (fun i e => by cases e; rfl)
  have gd := c_drawing (k := 6) T.b_range T.b_tuple T.d__law_drawing (ro.mono (by decide)) y1 (z2.mono (by decide))
  have bl := c_bad (k := 0) (P := P) (w := w) (base := base) T.b_range T.d__law_bad_layers
  obtain ⟨gT, fdTold, FTold, mTold, bTold⟩ := T.d__law_told.ex
  exact c_law (k0 := 16) (by decide) F hcc B T.b_list (rn.mono (by decide)) (DefE.mono gd (by decide)) (dr.mono (by decide)) (cp.mono (by decide)) (z2.mono (by decide)) (ly.mono (by decide)) (DefE.mono g2 (by decide)) (bl.mono (by decide)) (d4.mono (by decide))
    FTold mTold bTold hC.PictureError mTerm kTerm bTerm FTerm TB hmT huT eD rfl
end

theorem errs_mk {K : PySem.W.Frag} {h0 : Heap} {mg : Str → Option Value} {a_InvalidNumber a_InvalidPoint a_InvalidShape a_InvalidLayer a_InvalidDrawing a_InvalidRegion a_InvalidPlan a_InvalidIndex a_InvalidBox a_InvalidMove a_InvalidText a_OnEdge a_Blank a_TooMany a_NothingToUndo a_PictureError : Addr}
    (_ : K.In h0) (m_InvalidNumber : mg "InvalidNumber" = some (.ref a_InvalidNumber)) (m_InvalidPoint : mg "InvalidPoint" = some (.ref a_InvalidPoint)) (m_InvalidShape : mg "InvalidShape" = some (.ref a_InvalidShape)) (m_InvalidLayer : mg "InvalidLayer" = some (.ref a_InvalidLayer)) (m_InvalidDrawing : mg "InvalidDrawing" = some (.ref a_InvalidDrawing)) (m_InvalidRegion : mg "InvalidRegion" = some (.ref a_InvalidRegion)) (m_InvalidPlan : mg "InvalidPlan" = some (.ref a_InvalidPlan)) (m_InvalidIndex : mg "InvalidIndex" = some (.ref a_InvalidIndex)) (m_InvalidBox : mg "InvalidBox" = some (.ref a_InvalidBox)) (m_InvalidMove : mg "InvalidMove" = some (.ref a_InvalidMove)) (m_InvalidText : mg "InvalidText" = some (.ref a_InvalidText)) (m_OnEdge : mg "OnEdge" = some (.ref a_OnEdge)) (m_Blank : mg "Blank" = some (.ref a_Blank)) (m_TooMany : mg "TooMany" = some (.ref a_TooMany)) (m_NothingToUndo : mg "NothingToUndo" = some (.ref a_NothingToUndo)) (m_PictureError : mg "PictureError" = some (.ref a_PictureError))
    (hg : PySem.W.findIn K (.ref a_InvalidDrawing) "__getattribute__" = some (some (.builtin "BaseException.__getattribute__"))) (hk : PySem.W.findIn K (.ref a_InvalidDrawing) "__getattr__" = some none) (hs : PySem.W.subIn K (.ref a_InvalidDrawing) (.type "BaseException") = some true) (hd : PySem.W.hasDictIn K a_InvalidDrawing = true)
    (ha : PySem.W.findIn K (.ref a_InvalidDrawing) "__class__" = some (some (.builtin "object.__class__"))) (hn : PySem.W.specialIn K (.builtin "object.__class__") "__get__" = some (some (.builtin "getset_descriptor.__get__"))) (ht : PySem.W.takesIn K (.builtin "object.__class__") = some true) (hm : PySem.W.mroIn K a_InvalidDrawing (.type "object") = some true)
    (tests : [a_InvalidNumber, a_InvalidPoint, a_InvalidShape, a_InvalidLayer, a_InvalidDrawing, a_InvalidRegion, a_InvalidPlan, a_InvalidIndex, a_InvalidBox, a_InvalidMove, a_InvalidText, a_OnEdge, a_Blank, a_TooMany, a_NothingToUndo].map (fun C => PySem.W.kitOne K (.ref a_InvalidDrawing) (.ref C)) = (List.range 15).map fun i => some (i == 4)) (value : PySem.W.kitOne K (.ref a_InvalidDrawing) (.type "ValueError") = some true) (caught : PySem.W.exmOne K (.ref a_InvalidDrawing) (.ref a_PictureError) = some true)
    (own : PySem.W.excIn K a_InvalidDrawing [.type "ValueError", .type "Exception", .type "BaseException", .type "object"] "ValueError.__new__" = true) (kp : PySem.W.keepIn K (.ref a_InvalidDrawing) = true) (tF : PySem.W.typeIn K (.ref a_InvalidDrawing) = some (.type "type")) :
    ∃ cs : Cs, CsOk mg cs ∧ ErrD K cs 4 cs.InvalidDrawing ∧ RaiseD K cs.InvalidDrawing :=
  ⟨⟨a_InvalidNumber, a_InvalidPoint, a_InvalidShape, a_InvalidLayer, a_InvalidDrawing, a_InvalidRegion, a_InvalidPlan, a_InvalidIndex, a_InvalidBox, a_InvalidMove, a_InvalidText, a_OnEdge, a_Blank, a_TooMany, a_NothingToUndo, a_PictureError⟩, ⟨m_InvalidNumber, m_InvalidPoint, m_InvalidShape, m_InvalidLayer, m_InvalidDrawing, m_InvalidRegion, m_InvalidPlan, m_InvalidIndex, m_InvalidBox, m_InvalidMove, m_InvalidText, m_OnEdge, m_Blank, m_TooMany, m_NothingToUndo, m_PictureError⟩, ⟨⟨hg, hk, hs, hd, ha, hn, ht, hm⟩, tests, value, caught⟩, ⟨own, kp, hs, tF⟩⟩
end K31

set_option Elab.async false
set_option linter.all false
set_option maxRecDepth 100000
set_option maxHeartbeats 4000000
namespace DL
open PySem PySem.Spec PyProof.Rows L2
theorem lawU_mk {K : PySem.W.Frag} {h : Heap} {mg : Str → Option Value} {f fa c Pt : Addr} {x p : Str} {st : Stmt} {oc kV doc pm ct ec : Value} {od an dc : Option Addr} {osl sl : Array (Option Value)} {vs : Array Value} (X : K.In h) (G : h.Ns mainGlobals mg) (hfa : mg x = some (.ref fa))
    (a : PySem.W.nsIn K mainGlobals x = some (some (.ref f))) (l : K.lookup f = some ⟨oc, od, .func (PySem.W.fnOf x x (defArgs st) (defBody st) (defScope st) .none kV doc pm an (.ref c) ct), osl⟩) (ci : PySem.W.codeIn K (.ref c) x = true) (k : PySem.W.keepIn K (.ref f) = true)
    (lc : K.lookup c = some ⟨ec, dc, .fields vs, sl⟩) (h11 : vs[11]? = some (.ref Pt)) (hd : PySem.W.codeHdIn K c Pt = true) (nP : K.lookup Pt = none) (hT : h.get? Pt = some { cls := .none, data := .fields #[] })
    (b : ∀ (s : Shared) (kV doc pm : Value) (an : Option Addr) (cdv ct : Value) (v : Value), BindsTo s (PySem.W.fnOf x x (defArgs st) (defBody st) (defScope st) .none kV doc pm an cdv ct) ⟨[v], []⟩ [(p, v)]) :
    ∃ (fd : FuncData) (c Pt : Addr), (Fun K x x st fa fd ∧ ∀ (s : Shared) (v : Value), BindsTo s fd ⟨[v], []⟩ [(p, v)]) ∧ fd.code = .ref c ∧ h.get? Pt = some { cls := .none, data := .fields #[] } ∧ K.lookup Pt = none ∧ PySem.W.CodeHd h c Pt := by
  have e := hfa.symm.trans (PySem.W.mg_of X G a)
  cases e
  exact ⟨_, c, Pt, ⟨fun_mk (st := st) l ci k, fun s v => b s kV doc pm an _ ct v⟩, rfl, hT, nP, PySem.W.codeHd_of_K X hd⟩
theorem strs_mk {K : PySem.W.Frag} {h : Heap} {mg : Str → Option Value} {a : Addr} {x : Str} {ss : List Str} {n : Nat} {od : Option Addr} {osl : Array (Option Value)} {its : Array Value} (X : K.In h) (G : h.Ns mainGlobals mg)
    (hn : PySem.W.nsIn K mainGlobals x = some (some (.ref a))) (l : K.lookup a = some ⟨.type "tuple", od, .seq its n, osl⟩) (z : its.size ≤ sizeLine) (v : Vals (ss.map V.str) its.toList) : ∃ a, mg x = some (.ref a) ∧ ∀ H, Dp K H (.ref a) (.tuple (ss.map .str)) :=
  ⟨a, PySem.W.mg_of X G hn, dp_strs l rfl rfl z v⟩
end DL
open PySem PySem.W PyProof.Rows
set_option maxHeartbeats 0 in
theorem PySem.Challenge.cw_samepictures_k31_whole_drawings_holds : PySem.Challenge.rw_samepictures_k31_whole_drawings.Holds := by
  w_on; o_law; k_head; (case hw => w_witness2)
  k_fill
  refine LamX.walk_ofTs (l := PySem.Challenge.rw_samepictures_k31_whole_drawings) (n := 63) (k := 19) (x := "_law_script") (CX := fun _ => L2.CX0) rfl (by decide) rfl ⟨rfl, by decide, by decide⟩ (fun w h Y => PySem.W.km_in_of Y) ?F (fun _ _ _ _ _ h => h)
  case F =>
    intro w mg fa h Y KX G hmg
    have d_is_whole := (DL.defT_mk (x := "is_whole") (st := K31.st_is_whole) (ps := ["value"]) KX G (by k_is) (by k_is) (by k_is) (by k_is) (fun _ _ _ _ _ _ us hl => match us, hl with | [_], _ => rfl))
    have d_are_whole := (DL.defT_mk (x := "are_whole") (st := K31.st_are_whole) (ps := ["value", "many", "low", "high"]) KX G (by k_is) (by k_is) (by k_is) (by k_is) (fun _ _ _ _ _ _ us hl => match us, hl with | [_, _, _, _], _ => rfl))
    have d_is_loop := (DL.defT_mk (x := "is_loop") (st := K31.st_is_loop) (ps := ["value"]) KX G (by k_is) (by k_is) (by k_is) (by k_is) (fun _ _ _ _ _ _ us hl => match us, hl with | [_], _ => rfl))
    have d_is_shape := (DL.defT_mk (x := "is_shape") (st := K31.st_is_shape) (ps := ["value"]) KX G (by k_is) (by k_is) (by k_is) (by k_is) (fun _ _ _ _ _ _ us hl => match us, hl with | [_], _ => rfl))
    have d_is_colour := (DL.defT_mk (x := "is_colour") (st := K31.st_is_colour) (ps := ["value"]) KX G (by k_is) (by k_is) (by k_is) (by k_is) (fun _ _ _ _ _ _ us hl => match us, hl with | [_], _ => rfl))
    have d_is_opacity := (DL.defT_mk (x := "is_opacity") (st := K31.st_is_opacity) (ps := ["value"]) KX G (by k_is) (by k_is) (by k_is) (by k_is) (fun _ _ _ _ _ _ us hl => match us, hl with | [_], _ => rfl))
    have d_is_matrix := (DL.defT_mk (x := "is_matrix") (st := K31.st_is_matrix) (ps := ["value"]) KX G (by k_is) (by k_is) (by k_is) (by k_is) (fun _ _ _ _ _ _ us hl => match us, hl with | [_], _ => rfl))
    have d_is_fill := (DL.defT_mk (x := "is_fill") (st := K31.st_is_fill) (ps := ["value"]) KX G (by k_is) (by k_is) (by k_is) (by k_is) (fun _ _ _ _ _ _ us hl => match us, hl with | [_], _ => rfl))
    have d_is_rub := (DL.defT_mk (x := "is_rub") (st := K31.st_is_rub) (ps := ["value"]) KX G (by k_is) (by k_is) (by k_is) (by k_is) (fun _ _ _ _ _ _ us hl => match us, hl with | [_], _ => rfl))
    have d_is_group := (DL.defT_mk (x := "is_group") (st := K31.st_is_group) (ps := ["value", "deepest"]) KX G (by k_is) (by k_is) (by k_is) (by k_is) (fun _ _ _ _ _ _ us hl => match us, hl with | [_, _], _ => rfl))
    have d_is_nested_layer := (DL.defT_mk (x := "is_nested_layer") (st := K31.st_is_nested_layer) (ps := ["value", "deepest"]) KX G (by k_is) (by k_is) (by k_is) (by k_is) (fun _ _ _ _ _ _ us hl => match us, hl with | [_, _], _ => rfl))
    have d_are_layers := (DL.defT_mk (x := "are_layers") (st := K31.st_are_layers) (ps := ["value", "deepest"]) KX G (by k_is) (by k_is) (by k_is) (by k_is) (fun _ _ _ _ _ _ us hl => match us, hl with | [_, _], _ => rfl))
    have d_list_shapes := (DL.defT_mk (x := "list_shapes") (st := K31.st_list_shapes) (ps := ["layers"]) KX G (by k_is) (by k_is) (by k_is) (by k_is) (fun _ _ _ _ _ _ us hl => match us, hl with | [_], _ => rfl))
    have d_add_points := (DL.defT_mk (x := "add_points") (st := K31.st_add_points) (ps := ["layers"]) KX G (by k_is) (by k_is) (by k_is) (by k_is) (fun _ _ _ _ _ _ us hl => match us, hl with | [_], _ => rfl))
    have d_is_layer := (DL.defT_mk (x := "is_layer") (st := K31.st_is_layer) (ps := ["value"]) KX G (by k_is) (by k_is) (by k_is) (by k_is) (fun _ _ _ _ _ _ us hl => match us, hl with | [_], _ => rfl))
    have d_is_drawing := (DL.defT_mk (x := "is_drawing") (st := K31.st_is_drawing) (ps := ["value"]) KX G (by k_is) (by k_is) (by k_is) (by k_is) (fun _ _ _ _ _ _ us hl => match us, hl with | [_], _ => rfl))
    have d_check_drawing := (DL.defT_mk (x := "check_drawing") (st := K31.st_check_drawing) (ps := ["value"]) KX G (by k_is) (by k_is) (by k_is) (by k_is) (fun _ _ _ _ _ _ us hl => match us, hl with | [_], _ => rfl))
    have d_count_points := (DL.defT_mk (x := "count_points") (st := K31.st_count_points) (ps := ["drawing"]) KX G (by k_is) (by k_is) (by k_is) (by k_is) (fun _ _ _ _ _ _ us hl => match us, hl with | [_], _ => rfl))
    have d__law_cell := (DL.defT_mk (x := "_law_cell") (st := K31.st__law_cell) (ps := ["_law_script", "_law_k"]) KX G (by k_is) (by k_is) (by k_is) (by k_is) (fun _ _ _ _ _ _ us hl => match us, hl with | [_, _], _ => rfl))
    have d__law_drawn := (DL.defT_mk (x := "_law_drawn") (st := K31.st__law_drawn) (ps := ["_law_cell_here", "_law_k"]) KX G (by k_is) (by k_is) (by k_is) (by k_is) (fun _ _ _ _ _ _ us hl => match us, hl with | [_, _], _ => rfl))
    have d__law_roll := (DL.defT_mk (x := "_law_roll") (st := K31.st__law_roll) (ps := ["_law_dice", "_law_many"]) KX G (by k_is) (by k_is) (by k_is) (by k_is) (fun _ _ _ _ _ _ us hl => match us, hl with | [_, _], _ => rfl))
    have d__law_rounds := (DL.defT_mk (x := "_law_rounds") (st := K31.st__law_rounds) (ps := ["_law_script", "_law_most"]) KX G (by k_is) (by k_is) (by k_is) (by k_is) (fun _ _ _ _ _ _ us hl => match us, hl with | [_, _], _ => rfl))
    have d__law_term := (DL.defT_mk (x := "_law_term") (st := K31.st__law_term) (ps := ["_law_e"]) KX G (by k_is) (by k_is) (by k_is) (by k_is) (fun _ _ _ _ _ _ us hl => match us, hl with | [_], _ => rfl))
    have d__law_told := (DL.defT_mk (x := "_law_told") (st := K31.st__law_told) (ps := ["_law_deed"]) KX G (by k_is) (by k_is) (by k_is) (by k_is) (fun _ _ _ _ _ _ us hl => match us, hl with | [_], _ => rfl))
    have d__law_loop := (DL.defT_mk (x := "_law_loop") (st := K31.st__law_loop) (ps := ["_law_dice", "_law_far"]) KX G (by k_is) (by k_is) (by k_is) (by k_is) (fun _ _ _ _ _ _ us hl => match us, hl with | [_, _], _ => rfl))
    have d__law_shape := (DL.defT_mk (x := "_law_shape") (st := K31.st__law_shape) (ps := ["_law_dice", "_law_far"]) KX G (by k_is) (by k_is) (by k_is) (by k_is) (fun _ _ _ _ _ _ us hl => match us, hl with | [_, _], _ => rfl))
    have d__law_opacity := (DL.defT_mk (x := "_law_opacity") (st := K31.st__law_opacity) (ps := ["_law_dice"]) KX G (by k_is) (by k_is) (by k_is) (by k_is) (fun _ _ _ _ _ _ us hl => match us, hl with | [_], _ => rfl))
    have d__law_matrix := (DL.defT_mk (x := "_law_matrix") (st := K31.st__law_matrix) (ps := ["_law_dice"]) KX G (by k_is) (by k_is) (by k_is) (by k_is) (fun _ _ _ _ _ _ us hl => match us, hl with | [_], _ => rfl))
    have d__law_layer := (DL.defT_mk (x := "_law_layer") (st := K31.st__law_layer) (ps := ["_law_dice", "_law_far", "_law_deep"]) KX G (by k_is) (by k_is) (by k_is) (by k_is) (fun _ _ _ _ _ _ us hl => match us, hl with | [_, _, _], _ => rfl))
    have d__law_drawing := (DL.defT_mk (x := "_law_drawing") (st := K31.st__law_drawing) (ps := ["_law_dice", "_law_many", "_law_far"]) KX G (by k_is) (by k_is) (by k_is) (by k_is) (fun _ _ _ _ _ _ us hl => match us, hl with | [_, _, _], _ => rfl))
    have d__law_size := (DL.defT_mk (x := "_law_size") (st := K31.st__law_size) (ps := ["_law_layers"]) KX G (by k_is) (by k_is) (by k_is) (by k_is) (fun _ _ _ _ _ _ us hl => match us, hl with | [_], _ => rfl))
    have d__law_bad_layers := (DL.defT_mk (x := "_law_bad_layers") (st := K31.st__law_bad_layers) (ps := ["_law_shape_here"]) KX G (by k_is) (by k_is) (by k_is) (by k_is) (fun _ _ _ _ _ _ us hl => match us, hl with | [_], _ => rfl))
    have b_isinstance : mg "isinstance" = none := PySem.W.mg_none_of KX G (by k_is)
    have b_tuple : mg "tuple" = none := PySem.W.mg_none_of KX G (by k_is)
    have b_int : mg "int" = none := PySem.W.mg_none_of KX G (by k_is)
    have b_bool : mg "bool" = none := PySem.W.mg_none_of KX G (by k_is)
    have b_len : mg "len" = none := PySem.W.mg_none_of KX G (by k_is)
    have b_all : mg "all" = none := PySem.W.mg_none_of KX G (by k_is)
    have b_sum : mg "sum" = none := PySem.W.mg_none_of KX G (by k_is)
    have b_max : mg "max" = none := PySem.W.mg_none_of KX G (by k_is)
    have b_min : mg "min" = none := PySem.W.mg_none_of KX G (by k_is)
    have b_range : mg "range" = none := PySem.W.mg_none_of KX G (by k_is)
    have b_list : mg "list" = none := PySem.W.mg_none_of KX G (by k_is)
    have b_ValueError : mg "ValueError" = none := PySem.W.mg_none_of KX G (by k_is)
    have c_RULES := DL.strs_mk (x := "RULES") (ss := ["odd", "turns"]) KX G (by k_is) (by k_is) (by decide) (.cons ⟨_, rfl⟩ (.cons ⟨_, rfl⟩ (.nil)))
    have c_FARTHEST : ∃ t, mg "FARTHEST" = some (.int 9 t) := ⟨_, PySem.W.mg_of KX G (by k_is)⟩
    have c_MOST_LAYERS : ∃ t, mg "MOST_LAYERS" = some (.int 4 t) := ⟨_, PySem.W.mg_of KX G (by k_is)⟩
    have c_MOST_POINTS : ∃ t, mg "MOST_POINTS" = some (.int 60 t) := ⟨_, PySem.W.mg_of KX G (by k_is)⟩
    have c_DEEPEST : ∃ t, mg "DEEPEST" = some (.int 2 t) := ⟨_, PySem.W.mg_of KX G (by k_is)⟩
    have m_InvalidNumber := PySem.W.mg_of KX G (n := "InvalidNumber") (by k_is)
    have m_InvalidPoint := PySem.W.mg_of KX G (n := "InvalidPoint") (by k_is)
    have m_InvalidShape := PySem.W.mg_of KX G (n := "InvalidShape") (by k_is)
    have m_InvalidLayer := PySem.W.mg_of KX G (n := "InvalidLayer") (by k_is)
    have m_InvalidDrawing := PySem.W.mg_of KX G (n := "InvalidDrawing") (by k_is)
    have m_InvalidRegion := PySem.W.mg_of KX G (n := "InvalidRegion") (by k_is)
    have m_InvalidPlan := PySem.W.mg_of KX G (n := "InvalidPlan") (by k_is)
    have m_InvalidIndex := PySem.W.mg_of KX G (n := "InvalidIndex") (by k_is)
    have m_InvalidBox := PySem.W.mg_of KX G (n := "InvalidBox") (by k_is)
    have m_InvalidMove := PySem.W.mg_of KX G (n := "InvalidMove") (by k_is)
    have m_InvalidText := PySem.W.mg_of KX G (n := "InvalidText") (by k_is)
    have m_OnEdge := PySem.W.mg_of KX G (n := "OnEdge") (by k_is)
    have m_Blank := PySem.W.mg_of KX G (n := "Blank") (by k_is)
    have m_TooMany := PySem.W.mg_of KX G (n := "TooMany") (by k_is)
    have m_NothingToUndo := PySem.W.mg_of KX G (n := "NothingToUndo") (by k_is)
    have m_PictureError := PySem.W.mg_of KX G (n := "PictureError") (by k_is)
    obtain ⟨cs, hC, eD, rD⟩ := K31.errs_mk KX m_InvalidNumber m_InvalidPoint m_InvalidShape m_InvalidLayer m_InvalidDrawing m_InvalidRegion m_InvalidPlan m_InvalidIndex m_InvalidBox m_InvalidMove m_InvalidText m_OnEdge m_Blank m_TooMany m_NothingToUndo m_PictureError
      (by k_is) (by k_is) (by k_is) (by k_is) (by k_is) (by k_is) (by k_is) (by k_is) (by kernel_rfl) (by kernel_rfl) (by kernel_rfl) (by kernel_rfl) (by k_is) (by k_is)
    obtain ⟨fd, cc, Pt, ⟨F, hb⟩, hcc, hT, nT, C⟩ := DL.lawU_mk (x := "law") (p := "_law_script") (st := K31.st_law) KX G hmg (by k_is) (by k_is) (by k_is) (by k_is) (by k_is) (by rfl) (by kernel_rfl) (by kernel_rfl) (by exact PySem.W.km_tabs_of Y _ (List.mem_singleton_self _)) (fun s kV doc pm an cdv ct v => .of_eq rfl)
    have one : ∀ p ∈ [(cc, Pt)], p = (cc, Pt) := fun p hp => List.mem_singleton.mp hp
    exact ⟨fd, [(cc, Pt)], @K31.spLaw ⟨[(Pt, "law.<locals>.<lambda>")]⟩ _, fun p hp => one p hp ▸ hT, fun p hp => one p hp ▸ nT, fun p hp => one p hp ▸ C, hb,
      fun H a ns hl _ hH hS => ⟨fun p hp => by rw [List.mem_singleton.mp hp]; exact LamX.TabS.nil (hH _ (List.mem_singleton_self _)), a, ns, rfl, hS, hl, fun _ => rfl⟩,
      fun base _ _ TB => @K31.law_all ⟨[(Pt, "law.<locals>.<lambda>")]⟩ _ _ _ _ _ ⟨d_is_whole, d_are_whole, d_is_loop, d_is_shape, d_is_colour, d_is_opacity, d_is_matrix, d_is_fill, d_is_rub, d_is_group, d_is_nested_layer, d_are_layers, d_list_shapes, d_add_points, d_is_layer, d_is_drawing, d_check_drawing, d_count_points, d__law_cell, d__law_drawn, d__law_roll, d__law_rounds, d__law_term, d__law_told, d__law_loop, d__law_shape, d__law_opacity, d__law_matrix, d__law_layer, d__law_drawing, d__law_size, d__law_bad_layers, b_isinstance, b_tuple, b_int, b_bool, b_len, b_all, b_sum, b_max, b_min, b_range, b_list, b_ValueError, c_RULES, c_FARTHEST, c_MOST_LAYERS, c_MOST_POINTS, c_DEEPEST⟩ _ _ _ _ cs hC eD rD F hcc (TB _ (List.mem_singleton_self _)) (List.mem_singleton_self _) (fun p hp _ => by rw [List.mem_singleton.mp hp]; rfl)⟩
