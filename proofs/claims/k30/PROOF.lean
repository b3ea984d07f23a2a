import PyProof.Rows.All
import Wide.All
import OpenK.AllK
import Wide.FinOn
import HandS.ForMost
import HandS.IsInst
import HandS.TupAny
import HandS.TupMul
import HandS.Deep
import HandS.Evl
import HandS.Wide
import HandS.Lambda
import HandS.Flow
import HandS.Style
import PySem.Challenge.RW_samepictures_k30_whole_texts
import HandS.Text
import PyProof.Rows.StrSplitMax
import PyProof.Rows.RegReprOcc
import HandS.HotCalls
import HandS.ExcIs
import KE.GoesComp
import PyProof.SumWalk
import PyProof.Walks
import KE.GoesMore
import HandS.SuiteRaise
import HandS.WordsExc
import HandS.StrSplit
import HandS.StrMore
import HandS.FStr
import HandS.TryOnly
import HandS.EndOwn
import KE.KNestM
set_option Elab.async false
set_option linter.all false
set_option maxRecDepth 100000
namespace DL
open PySem PySem.Spec PyProof.Rows L2


abbrev M : Type := List (List PyData)
/-- the tables of code objects, with the names of what is made there -/
class Tbs where
  T : List (Addr × Str)
instance (priority := low) noTbs : Tbs := ⟨[]⟩
variable [Tbs]

/-- what a slot or a result is, by its data -/
inductive Sl where
  | no
  | d (x : PyData)
  | c (j : Nat)
  | v (x : V)

section
variable (K : PySem.W.Frag)

structure Wd (H0 H : Hp) (ρ : List Addr) (m : M) : Prop where
  ex : Evl.Ex H0 H
  len : ρ.length = m.length
  nd : ρ.Nodup
  cel : ∀ (j : Nat) (p : Addr) (ds : List PyData), ρ[j]? = some p → m[j]? = some ds → H0 p = none ∧ ∃ vs, H p = some (.lst vs) ∧ DpAll K H0 vs ds
  tab : LamX.Tabs Tbs.T H
  nT : ∀ p ∈ Tbs.T, H0 p.1 = none

def SlOk (H0 : Hp) (ρ : List Addr) (v : V) : Sl → Prop
  | .no => True
  | .d x => Dp K H0 v x
  | .c j => ∃ p, v = .ref p ∧ ρ[j]? = some p
  | .v x => v = x

inductive SlAll (H0 : Hp) (ρ : List Addr) : List V → List Sl → Prop
  | nil : SlAll H0 ρ [] []
  | cons {v vs r rs} : SlOk K H0 ρ v r → SlAll H0 ρ vs rs → SlAll H0 ρ (v :: vs) (r :: rs)

def EnvS (H0 : Hp) (ρ : List Addr) (σ : L2.St) (es : List Sl) : Prop :=
  σ.length = es.length ∧ ∀ (i : Nat) (s : Sl), es[i]? = some s → s = .no ∨ ∃ v, σ[i]? = some (some v) ∧ SlOk K H0 ρ v s
end

/-- a step: n cells are the caller's -/
structure Stp (n : Nat) (ρ : List Addr) (H0 H : Hp) (ρ' : List Addr) (H0' H' : Hp) : Prop where
  ex : Evl.Ex H0 H0'
  keep : ∀ b o, H b = some o → b ∉ ρ → (∀ ps, o ≠ .tbl ps) → H' b = some o
  dom : ∀ b, H' b = none → H b = none
  fresh : ∀ b o, H0' b = some o → H0 b = some o ∨ H b = none ∨ b ∈ ρ.drop n
  pre : ρ'.take n = ρ.take n
  cel : ∀ b, b ∈ ρ' → b ∈ ρ ∨ H b = none

section
variable {K : PySem.W.Frag} {H0 H H0' H' H0'' H'' : Hp} {ρ ρ' ρ'' : List Addr} {m m' : M} {σ : L2.St} {es : List Sl} {n : Nat}

theorem Stp.refl : Stp n ρ H0 H ρ H0 H := ⟨Evl.Ex.refl _, fun _ _ h _ _ => h, fun _ h => h, fun _ _ h => .inl h, rfl, fun _ h => .inl h⟩
theorem nd_split {ρ : List Addr} (nd : ρ.Nodup) {b : Addr} (h1 : b ∈ ρ.take n) (h2 : b ∈ ρ.drop n) : False := by
  have e := List.take_append_drop n ρ
  rw [← e] at nd
  exact (List.nodup_append.mp nd).2.2 b h1 b h2 rfl
theorem Stp.trans (nd : ρ'.Nodup) (a : Stp n ρ H0 H ρ' H0' H') (b : Stp n ρ' H0' H' ρ'' H0'' H'') : Stp n ρ H0 H ρ'' H0'' H'' where
  ex := a.ex.trans b.ex
  keep := fun x o h hn nt => b.keep x o (a.keep x o h hn nt) (fun hx => by
    rcases a.cel x hx with z | z
    · exact hn z
    · rw [z] at h; cases h) nt
  dom := fun x h => a.dom x (b.dom x h)
  fresh := fun x o h => by
    rcases b.fresh x o h with z | z | z
    · exact a.fresh x o z
    · exact .inr (.inl (a.dom x z))
    · rcases a.cel x (List.mem_of_mem_drop z) with y | y
      · rw [← List.take_append_drop n ρ] at y
        rcases List.mem_append.mp y with y | y
        · rw [← a.pre] at y
          exact (nd_split nd y z).elim
        · exact .inr (.inr y)
      · exact .inr (.inl y)
  pre := b.pre.trans a.pre
  cel := fun x h => by
    rcases b.cel x h with z | z
    · exact a.cel x z
    · exact .inr (a.dom x z)

mutual
theorem dp_mono (e : Evl.Ex H H') : ∀ {v : V} {d : PyData}, Dp K H v d → Dp K H' v d
  | _, _, .non => .non
  | _, _, .bl b => .bl b
  | _, _, .int i => .int i
  | _, _, .str x => .str x
  | _, _, .lst h a => .lst (Evl.ex_l e h) (dpAll_mono e a)
  | _, _, .tup h a => .tup (Evl.ex_t e h) (dpAll_mono e a)
theorem dpAll_mono (e : Evl.Ex H H') : ∀ {vs : List V} {ds : List PyData}, DpAll K H vs ds → DpAll K H' vs ds
  | _, _, .nil => .nil
  | _, _, .cons h t => .cons (dp_mono e h) (dpAll_mono e t)
end
theorem SlOk.mono (e : Evl.Ex H0 H0') {v : V} : ∀ {r : Sl}, SlOk K H0 ρ v r → SlOk K H0' ρ v r
  | .no, _ => trivial
  | .d _, h => dp_mono e h
  | .c _, h => h
  | .v _, h => h
theorem SlAll.mono (e : Evl.Ex H0 H0') {vs : List V} {rs : List Sl} (h : SlAll K H0 ρ vs rs) : SlAll K H0' ρ vs rs := by
  induction h with
  | nil => exact .nil
  | cons a _ ih => exact .cons (a.mono e) ih
theorem SlAll.length {vs : List V} {rs : List Sl} (h : SlAll K H0 ρ vs rs) : vs.length = rs.length := by
  induction h with
  | nil => rfl
  | cons a _ ih => rw [List.length_cons, List.length_cons, ih]
theorem EnvS.mono (e : Evl.Ex H0 H0') (h : EnvS K H0 ρ σ es) : EnvS K H0' ρ σ es := ⟨h.1, fun i s q => by
  rcases h.2 i s q with z | ⟨v, a, b⟩
  · exact .inl z
  · exact .inr ⟨v, a, b.mono e⟩⟩
theorem EnvS.set {i : Nat} {v : V} {r : Sl} (h : EnvS K H0 ρ σ es) (hv : SlOk K H0 ρ v r) : EnvS K H0 ρ (σ.set i (some v)) (es.set i r) := by
  refine ⟨by rw [List.length_set, List.length_set]; exact h.1, fun j s q => ?_⟩
  by_cases hj : i = j
  · subst hj
    by_cases hl : i < es.length
    · rw [List.getElem?_set_self hl] at q
      cases q
      exact .inr ⟨v, by rw [List.getElem?_set_self (by rw [h.1]; exact hl)], hv⟩
    · rw [List.getElem?_eq_none (by rw [List.length_set]; omega)] at q
      cases q
  · rw [List.getElem?_set_ne hj] at q
    rcases h.2 j s q with z | ⟨v', a, b⟩
    · exact .inl z
    · exact .inr ⟨v', by rw [List.getElem?_set_ne hj]; exact a, b⟩
theorem EnvS.unset {i : Nat} (h : EnvS K H0 ρ σ es) : EnvS K H0 ρ (σ.set i none) (es.set i .no) := by
  refine ⟨by rw [List.length_set, List.length_set]; exact h.1, fun j s q => ?_⟩
  by_cases hj : i = j
  · subst hj
    by_cases hl : i < es.length
    · rw [List.getElem?_set_self hl] at q
      cases q
      exact .inl rfl
    · rw [List.getElem?_eq_none (by rw [List.length_set]; omega)] at q
      cases q
  · rw [List.getElem?_set_ne hj] at q
    rcases h.2 j s q with z | ⟨v', a, b⟩
    · exact .inl z
    · exact .inr ⟨v', by rw [List.getElem?_set_ne hj]; exact a, b⟩
def wipeS (es : List Sl) : List Nat → List Sl
  | [] => es
  | v :: vs => (wipeS es vs).set v .no
theorem EnvS.wipe (h : EnvS K H0 ρ σ es) : ∀ vs : List Nat, EnvS K H0 ρ (wipe σ vs) (wipeS es vs)
  | [] => h
  | v :: vs => by
    unfold L2.wipe wipeS
    exact (EnvS.wipe h vs).unset
theorem Wd.nT_fresh (w : Wd K H0 H ρ m) (p : Addr × Str) (hp : p ∈ Tbs.T) (h : ∀ o, H0' p.1 = some o → H0 p.1 = some o ∨ H p.1 = none) : H0' p.1 = none := by
  cases q : H0' p.1 with
  | none => rfl
  | some o =>
    obtain ⟨ps, e, _⟩ := w.tab p hp
    rcases h o q with z | z
    · rw [w.nT p hp] at z; cases z
    · rw [e] at z; cases z
theorem Wd.grow {n : Nat} (w : Wd K H0 H ρ m) (ex : Evl.Ex H0 H0') (ex2 : Evl.Ex H0' H') (k : Evl.Ex H H') (fresh : ∀ b o, H0' b = some o → H0 b = some o ∨ H b = none) : Wd K H0' H' ρ m ∧ Stp n ρ H0 H ρ H0' H' := by
  refine ⟨⟨ex2, w.len, w.nd, fun j p ds a b => ?_, w.tab.ext k, fun p hp => w.nT_fresh p hp fun o h => fresh _ o h⟩, ⟨ex, fun b o h _ _ => k b o h, fun b h => ?_, fun b o h => ?_, rfl, fun b h => .inl h⟩⟩
  · obtain ⟨h1, vs, h2, h3⟩ := w.cel j p ds a b
    refine ⟨?_, vs, k _ _ h2, dpAll_mono ex h3⟩
    cases q : H0' p with
    | none => rfl
    | some o =>
      rcases fresh p o q with z | z
      · rw [h1] at z; cases z
      · rw [h2] at z; cases z
  · exact Evl.fresh_back k h
  · rcases fresh b o h with z | z
    · exact .inl z
    · exact .inr (.inl z)
theorem Wd.new {n : Nat} {p : Addr} {o : HO} (w : Wd K H0 H ρ m) (hp : H p = none) : Wd K (upd H0 p o) (upd H p o) ρ m ∧ Stp n ρ H0 H ρ (upd H0 p o) (upd H p o) := by
  have h0 : H0 p = none := Evl.fresh_back w.ex hp
  refine w.grow (Evl.Ex.new h0) (fun b u h => ?_) (Evl.Ex.new hp) fun b u h => ?_
  · by_cases e : b = p
    · subst e
      rw [upd_same] at h ⊢
      exact h
    · rw [upd_ne e] at h ⊢
      exact w.ex _ _ h
  · by_cases e : b = p
    · subst e
      exact .inr hp
    · rw [upd_ne e] at h
      exact .inl h
end

/-! ### judgements -/
section
variable (K : PySem.W.Frag)
def EvE (te : TE) (es : List Sl) (m : M) (r : Sl) (m' : M) : Prop := ∀ σ H H0 ρ, Wd K H0 H ρ m → EnvS K H0 ρ σ es → ∀ Q : VK,
  (∀ v H' H0', Stp ρ.length ρ H0 H ρ H0' H' → Wd K H0' H' ρ m' → SlOk K H0' ρ v r → Q v H') → te σ H Q
def EvB (tt : TT) (es : List Sl) (m : M) (b : Bool) (m' : M) : Prop := ∀ σ H H0 ρ, Wd K H0 H ρ m → EnvS K H0 ρ σ es → ∀ Q : Bool → Hp → Prop,
  (∀ H' H0', Stp ρ.length ρ H0 H ρ H0' H' → Wd K H0' H' ρ m' → Q b H') → tt σ H Q
def EvA (ta : TA) (es : List Sl) (m : M) (rs : List Sl) (m' : M) : Prop := ∀ σ H H0 ρ, Wd K H0 H ρ m → EnvS K H0 ρ σ es → ∀ Q : List V → Hp → Prop,
  (∀ vs H' H0', Stp ρ.length ρ H0 H ρ H0' H' → Wd K H0' H' ρ m' → SlAll K H0' ρ vs rs → Q vs H') → ta σ H Q
def EvO (to : TO) (es : List Sl) (m : M) (o : Option Int) (m' : M) : Prop := ∀ σ H H0 ρ, Wd K H0 H ρ m → EnvS K H0 ρ σ es → ∀ Q : Option Int → Hp → Prop,
  (∀ H' H0', Stp ρ.length ρ H0 H ρ H0' H' → Wd K H0' H' ρ m' → Q o H') → to σ H Q
/-- an operation on values: new objects only -/
def Op2 (r : R2) (x y z : PyData) : Prop := ∀ H0 H, Evl.Ex H0 H → ∀ v w, Dp K H0 v x → Dp K H0 w y → ∀ Q : VK,
  (∀ u H' H0', Evl.Ex H0 H0' → Evl.Ex H0' H' → Evl.Ex H H' → (∀ b o, H0' b = some o → H0 b = some o ∨ H b = none) → Dp K H0' u z → Q u H') → r v w H Q
def Op1 (r : V → Hp → VK → Prop) (x z : PyData) : Prop := ∀ H0 H, Evl.Ex H0 H → ∀ v, Dp K H0 v x → ∀ Q : VK,
  (∀ u H' H0', Evl.Ex H0 H0' → Evl.Ex H0' H' → Evl.Ex H H' → (∀ b o, H0' b = some o → H0 b = some o ∨ H b = none) → Dp K H0' u z → Q u H') → r v H Q
/-- a call on values -/
def OpC (r : List V → Hp → VK → Prop) (rs : List Sl) (z : PyData) : Prop := ∀ H0 H ρ, Evl.Ex H0 H → ∀ vs, SlAll K H0 ρ vs rs → ∀ Q : VK,
  (∀ u H' H0', Evl.Ex H0 H0' → Evl.Ex H0' H' → Evl.Ex H H' → (∀ b o, H0' b = some o → H0 b = some o ∨ H b = none) → Dp K H0' u z → Q u H') → r vs H Q
end

section
variable {K : PySem.W.Frag} {te ta tb tc : TE} {tt tu : TT} {es : List Sl} {m m1 m2 m3 : M} {r x y z : Sl} {a b c : Bool}

theorem ev_var {i : Nat} (h : es[i]? = some r) (hn : r ≠ .no) : EvE K (tVar i) es m r m := fun σ H H0 ρ w e Q q => by
  rcases e.2 i r h with z | ⟨v, h1, h2⟩
  · exact (hn z).elim
  · exact ⟨v, h1, q v H H0 .refl w h2⟩
theorem ev_c {v : V} (h : ∀ H0 ρ, SlOk K H0 ρ v r) : EvE K (tC v) es m r m := fun σ H H0 ρ w e Q q => q v H H0 .refl w (h H0 ρ)
theorem ev_int {i : Int} : EvE K (tC (.int i)) es m (.d (.int i)) m := ev_c fun _ _ => .int i
theorem ev_bl {i : Bool} : EvE K (tC (.bl i)) es m (.d (.bool i)) m := ev_c fun _ _ => .bl i
theorem ev_str {i : Str} : EvE K (tC (.str i)) es m (.d (.str i)) m := ev_c fun _ _ => .str i
theorem ev_non : EvE K (tC .non) es m (.d .none) m := ev_c fun _ _ => .non
theorem ev_ty {n : String} : EvE K (tC (.ty n)) es m (.v (.ty n)) m := ev_c fun _ _ => rfl
theorem ev_cast {r' : Sl} (h : EvE K te es m r m1) (e : r = r') : EvE K te es m r' m1 := e ▸ h
theorem eb_cast {b' : Bool} (h : EvB K tt es m b m1) (e : b = b') : EvB K tt es m b' m1 := e ▸ h

theorem two (h1 : EvE K ta es m x m1) (h2 : EvE K tb es m1 y m2) {R : V → V → Hp → Prop} {σ H H0 ρ} (w : Wd K H0 H ρ m) (e : EnvS K H0 ρ σ es)
    (hR : ∀ u v H' H0', Stp ρ.length ρ H0 H ρ H0' H' → Wd K H0' H' ρ m2 → SlOk K H0' ρ u x → SlOk K H0' ρ v y → R u v H') : ta σ H fun u H1 => tb σ H1 fun v H2 => R u v H2 :=
  h1 σ H H0 ρ w e _ fun u H1 H01 s1 w1 k1 => h2 σ H1 H01 ρ w1 (e.mono s1.ex) _ fun v H2 H02 s2 w2 k2 => hR u v H2 H02 (s1.trans w1.nd s2) w2 (k1.mono s2.ex) k2

theorem ev_op {rr : R2} {x y z : PyData} (h1 : EvE K ta es m (.d x) m1) (h2 : EvE K tb es m1 (.d y) m2) (hr : Op2 K rr x y z) : EvE K (tOp rr ta tb) es m (.d z) m2 := fun σ H H0 ρ w e Q q =>
  two h1 h2 w e fun u v H' H0' s' w' ku kv => hr H0' H' w'.ex u v ku kv Q fun z' H2 H02 e1 e2 e3 fr kz => by
    obtain ⟨w2, s2⟩ := w'.grow (n := ρ.length) e1 e2 e3 fr
    exact q z' H2 H02 (s'.trans w'.nd s2) w2 kz
theorem ev_un {rr : V → Hp → VK → Prop} {x z : PyData} (h1 : EvE K ta es m (.d x) m1) (hr : Op1 K rr x z) : EvE K (tUn rr ta) es m (.d z) m1 := fun σ H H0 ρ w e Q q =>
  h1 σ H H0 ρ w e _ fun u H' H0' s' w' ku => hr H0' H' w'.ex u ku Q fun z' H2 H02 e1 e2 e3 fr kz => by
    obtain ⟨w2, s2⟩ := w'.grow (n := ρ.length) e1 e2 e3 fr
    exact q z' H2 H02 (s'.trans w'.nd s2) w2 kz
theorem ea_nil : EvA K tNil es m [] m := fun σ H H0 ρ w e Q q => q [] H H0 .refl w .nil
theorem ea_cons {t : TA} {rs : List Sl} (h1 : EvE K ta es m r m1) (h2 : EvA K t es m1 rs m2) : EvA K (tCons ta t) es m (r :: rs) m2 := fun σ H H0 ρ w e Q q =>
  h1 σ H H0 ρ w e _ fun u H' H0' s' w' ku => h2 σ H' H0' ρ w' (e.mono s'.ex) _ fun vs H2 H02 s2 w2 kv => q (u :: vs) H2 H02 (s'.trans w'.nd s2) w2 (.cons (ku.mono s2.ex) kv)
theorem slAll_d {H0 : Hp} {ρ : List Addr} : ∀ {ds : List PyData} {vs : List V}, SlAll K H0 ρ vs (ds.map .d) → DpAll K H0 vs ds
  | [], _, h => by cases h; exact .nil
  | d :: ds, _, h => by
    cases h with
    | cons a t => exact .cons a (slAll_d t)
theorem dpAll_len {H0 : Hp} : ∀ {vs : List V} {ds : List PyData}, DpAll K H0 vs ds → vs.length = ds.length
  | _, _, .nil => rfl
  | _, _, .cons _ t => by rw [List.length_cons, List.length_cons, dpAll_len t]
theorem ev_tup {t : TA} {rs : List Sl} {ds : List PyData} (h : EvA K t es m rs m1) (e : rs = ds.map .d) (hl : ds.length ≤ 1000) : EvE K (tTup t) es m (.d (.tuple ds)) m1 := fun σ H H0 ρ w ee Q q => by
  subst e
  refine h σ H H0 ρ w ee _ fun vs H' H0' s' w' kv => ?_
  have hd := slAll_d kv
  refine ⟨Nat.le_of_lt (small1000 (by rw [dpAll_len hd]; exact hl)), fun p hp => ?_⟩
  obtain ⟨w2, s2⟩ := w'.new (n := ρ.length) (o := .tup vs) hp
  exact q _ _ _ (s'.trans w'.nd s2) w2 (Dp.tup (.inl (.inl upd_same)) (dpAll_mono s2.ex hd))
theorem ev_lst {t : TA} {rs : List Sl} {ds : List PyData} (h : EvA K t es m rs m1) (e : rs = ds.map .d) (hl : ds.length ≤ 1000) : EvE K (tLst t) es m (.d (.list ds)) m1 := fun σ H H0 ρ w ee Q q => by
  subst e
  refine h σ H H0 ρ w ee _ fun vs H' H0' s' w' kv => ?_
  have hd := slAll_d kv
  refine ⟨Nat.le_of_lt (small1000 (by rw [dpAll_len hd]; exact hl)), fun p hp => ?_⟩
  obtain ⟨w2, s2⟩ := w'.new (n := ρ.length) (o := .lst vs) hp
  exact q _ _ _ (s'.trans w'.nd s2) w2 (Dp.lst (.inl (.inl upd_same)) (dpAll_mono s2.ex hd))
/-- a built-in's call -/
theorem ev_cb {rr : List V → Hp → VK → Prop} {t : TA} {rs : List Sl} {z : PyData} (h : EvA K t es m rs m1) (hr : OpC K rr rs z) : EvE K (tCB rr t) es m (.d z) m1 := fun σ H H0 ρ w e Q q =>
  h σ H H0 ρ w e _ fun vs H' H0' s' w' kv => hr H0' H' ρ w'.ex vs kv Q fun z' H2 H02 e1 e2 e3 fr kz => by
    obtain ⟨w2, s2⟩ := w'.grow (n := ρ.length) e1 e2 e3 fr
    exact q z' H2 H02 (s'.trans w'.nd s2) w2 kz

/-! ### and, or, not, tests -/
theorem ev_and (h1 : EvE K ta es m (.d (.bool a)) m1) (h2 : a = true → EvE K tb es m1 (.d (.bool b)) m1) : EvE K (tAndV ta tb) es m (.d (.bool (a && b))) m1 := fun σ H H0 ρ w e Q q =>
  h1 σ H H0 ρ w e _ fun u H' H0' s' w' ku => by
    cases ku
    refine ⟨a, rfl, ?_⟩
    cases a with
    | true => exact iteT (h2 rfl σ H' H0' ρ w' (e.mono s'.ex) Q fun v H2 H02 s2 w2 k2 => q v H2 H02 (s'.trans w'.nd s2) w2 k2)
    | false => exact iteF (q _ H' H0' s' w' (.bl false))
theorem ev_or (h1 : EvE K ta es m (.d (.bool a)) m1) (h2 : a = false → EvE K tb es m1 (.d (.bool b)) m1) : EvE K (tOrV ta tb) es m (.d (.bool (a || b))) m1 := fun σ H H0 ρ w e Q q =>
  h1 σ H H0 ρ w e _ fun u H' H0' s' w' ku => by
    cases ku
    refine ⟨a, rfl, ?_⟩
    cases a with
    | true => exact iteT (q _ H' H0' s' w' (.bl true))
    | false => exact iteF (h2 rfl σ H' H0' ρ w' (e.mono s'.ex) Q fun v H2 H02 s2 w2 k2 => q v H2 H02 (s'.trans w'.nd s2) w2 k2)
theorem ev_not (h1 : EvE K ta es m (.d (.bool a)) m1) : EvE K (tNotV ta) es m (.d (.bool (!a))) m1 := fun σ H H0 ρ w e Q q =>
  h1 σ H H0 ρ w e _ fun u H' H0' s' w' ku => by
    cases ku
    exact ⟨a, rfl, q _ H' H0' s' w' (.bl _)⟩
theorem eb_val (h1 : EvE K ta es m (.d (.bool a)) m1) : EvB K (tB ta) es m a m1 := fun σ H H0 ρ w e Q q =>
  h1 σ H H0 ρ w e _ fun u H' H0' s' w' ku => by
    cases ku
    exact ⟨a, rfl, q H' H0' s' w'⟩
theorem eb_test (h1 : EvE K ta es m (.d (.bool a)) m1) : EvB K (tTest ta) es m a m1 := fun σ H H0 ρ w e Q q =>
  h1 σ H H0 ρ w e _ fun u H' H0' s' w' ku => by
    cases ku
    exact ⟨a, rfl, q H' H0' s' w'⟩
theorem eb_and (h1 : EvB K tt es m a m1) (h2 : a = true → EvB K tu es m1 b m1) : EvB K (tAnd tt tu) es m (a && b) m1 := fun σ H H0 ρ w e Q q =>
  h1 σ H H0 ρ w e _ fun H' H0' s' w' => by
    cases a with
    | true => exact iteT (h2 rfl σ H' H0' ρ w' (e.mono s'.ex) Q fun H2 H02 s2 w2 => q H2 H02 (s'.trans w'.nd s2) w2)
    | false => exact iteF (q H' H0' s' w')
theorem eb_or (h1 : EvB K tt es m a m1) (h2 : a = false → EvB K tu es m1 b m1) : EvB K (tOr tt tu) es m (a || b) m1 := fun σ H H0 ρ w e Q q =>
  h1 σ H H0 ρ w e _ fun H' H0' s' w' => by
    cases a with
    | true => exact iteT (q H' H0' s' w')
    | false => exact iteF (h2 rfl σ H' H0' ρ w' (e.mono s'.ex) Q fun H2 H02 s2 w2 => q H2 H02 (s'.trans w'.nd s2) w2)
theorem eb_not (h1 : EvB K tt es m a m1) : EvB K (tNot tt) es m (!a) m1 := fun σ H H0 ρ w e Q q =>
  h1 σ H H0 ρ w e _ fun H' H0' s' w' => q H' H0' s' w'
theorem ev_if (h1 : EvB K tt es m a m1) (h2 : a = true → EvE K ta es m1 r m2) (h3 : a = false → EvE K tb es m1 r m2) : EvE K (tIf tt ta tb) es m r m2 := fun σ H H0 ρ w e Q q =>
  h1 σ H H0 ρ w e _ fun H' H0' s' w' => by
    cases a with
    | true => exact iteT (h2 rfl σ H' H0' ρ w' (e.mono s'.ex) Q fun v H2 H02 s2 w2 k2 => q v H2 H02 (s'.trans w'.nd s2) w2 k2)
    | false => exact iteF (h3 rfl σ H' H0' ρ w' (e.mono s'.ex) Q fun v H2 H02 s2 w2 k2 => q v H2 H02 (s'.trans w'.nd s2) w2 k2)
/-- a < b < c -/
theorem ev_chain {rr rs : R2} {x y z : PyData} (h1 : EvE K ta es m (.d x) m1) (h2 : EvE K tb es m1 (.d y) m2) (hr : Op2 K rr x y (.bool a)) (h3 : a = true → EvE K tc es m2 (.d z) m2) (hs : a = true → Op2 K rs y z (.bool b)) :
    EvE K (tChain rr rs ta tb tc) es m (.d (.bool (a && b))) m2 := fun σ H H0 ρ w e Q q =>
  two h1 h2 w e fun u v H' H0' s' w' ku kv => hr H0' H' w'.ex u v ku kv _ fun z' H2 H02 e1 e2 e3 fr kz => by
    obtain ⟨w2, s2⟩ := w'.grow (n := ρ.length) e1 e2 e3 fr
    have s3 := s'.trans w'.nd s2
    cases kz
    refine ⟨a, rfl, ?_⟩
    cases a with
    | true =>
      refine iteT (h3 rfl σ H2 H02 ρ w2 (e.mono s3.ex) _ fun t H4 H04 s4 w4 kt => hs rfl H04 H4 w4.ex v t (dp_mono (s2.ex.trans s4.ex) kv) kt Q fun z5 H5 H05 e1 e2 e3 fr kz => ?_)
      obtain ⟨w5, s5⟩ := w4.grow (n := ρ.length) e1 e2 e3 fr
      exact q z5 H5 H05 ((s3.trans w2.nd s4).trans w4.nd s5) w5 kz
    | false => exact iteF (q _ H2 H02 s3 w2 (.bl false))
end
end DL

set_option Elab.async false
set_option linter.all false
set_option maxRecDepth 100000
namespace DL
variable [Tbs]
open PySem PySem.Spec PyProof.Rows L2

/-! ### defs -/
section
variable (K : PySem.W.Frag)
def spD (n : Nat) (g : List Sl → M → Sl → M → Prop) : Sp := fun vs H Q E => vs.length = n ∧ ∃ H0 ρ m rs r m', Wd K H0 H ρ m ∧ SlAll K H0 ρ vs rs ∧ g rs m r m' ∧
  ∀ v H' H0', Stp ρ.length ρ H0 H ρ H0' H' → Wd K H0' H' ρ m' → SlOk K H0' ρ v r → Q v H'
end
structure DefC (P : Program) (w : World) (K : PySem.W.Frag) (mg : Str → Option Value) (base : Heap) (CX : CXT) (k : Nat) (x : Str) (ps : List Str) (sp : Sp) : Prop where
  ex : ∃ f fd, FnOk P w K mg base CX k f fd ps sp ∧ mg x = some (.ref f) ∧ PySem.W.keepIn K (.ref f) = true ∧ Binds K fd ps []
structure DefT (K : PySem.W.Frag) (mg : Str → Option Value) (x : Str) (st : Stmt) (ps : List Str) : Prop where
  ex : ∃ f fd, Fun K x x st f fd ∧ mg x = some (.ref f) ∧ Binds K fd ps []
theorem DefC.mono {P : Program} {w : World} {K : PySem.W.Frag} {mg : Str → Option Value} {base : Heap} {CX : CXT} {j k : Nat} {x : Str} {ps : List Str} {sp : Sp} (D : DefC P w K mg base CX j x ps sp) (h : j ≤ k) : DefC P w K mg base CX k x ps sp := by
  obtain ⟨f, fd, F, r⟩ := D.ex
  exact ⟨f, fd, F.mono h, r⟩
theorem pe_def {X : Cx} {CX : CXT} {k : Nat} {x : Str} {ps : List Str} {sp : Sp} {E : XK} {e : Expr} {es : List Expr} {t : TA} {p pos : Pos} (D : DefC X.prog X.w X.K X.mg X.base CX k x ps sp) (hr : Room k X.A) (hg : Gl X x) (hx : Passes CX X E)
    (ha : PA X (e :: es) t) (hdb : (x == ("__debug__" : Str)) = false := by decide) (he : starEach (e :: es) X.env = (false, eval e X.env) :: starEach es X.env := by rfl) (hpl : (backTo pos (starEach es X.env)).any (·.1) = false := by rfl) :
    PE X (.Call (.Name x p) (e :: es) [] pos) (tCall sp [] E t) := by
  obtain ⟨f, fd, F, hm, hk, hb⟩ := D.ex
  exact pe_call F hr hg hm hk hb .nil hx ha hdb he hpl
theorem opOr {X : Cx} {f : Value → Value → Sem Value} {r1 r2 : R2} (h1 : OpR X f r1) (h2 : OpR X f r2) : OpR X f (fun x y H Q => r1 x y H Q ∨ r2 x y H Q) := by
  intro pins s σ H x y v u Q I rx ry h
  rcases h with h | h
  · exact h1 pins s σ H x y v u Q I rx ry h
  · exact h2 pins s σ H x y v u Q I rx ry h
theorem callOr {X : Cx} {f : Value} {r1 r2 : List V → Hp → VK → Prop} (h1 : CallR X f r1) (h2 : CallR X f r2) : CallR X f (fun x H Q => r1 x H Q ∨ r2 x H Q) := by
  intro pins s σ H xs us Q I r h
  rcases h with h | h
  · exact h1 pins s σ H xs us Q I r h
  · exact h2 pins s σ H xs us Q I r h
theorem piOr {X : Cx} {tg iter : Expr} {w1 w2 : TI} (h1 : PI X tg iter w1) (h2 : PI X tg iter w2) : PI X tg iter (fun σ H R => w1 σ H R ∨ w2 σ H R) := by
  refine ⟨fun pins s σ H R I h => ?_⟩
  rcases h with h | h
  · exact h1.run pins s σ H R I h
  · exact h2.run pins s σ H R I h
theorem peOr {X : Cx} {e : Expr} {t1 t2 : TE} (h1 : PE X e t1) (h2 : PE X e t2) : PE X e (fun σ H Q => t1 σ H Q ∨ t2 σ H Q) := by
  refine ⟨fun pins s σ H Q I h => ?_⟩
  rcases h with h | h
  · exact h1.run pins s σ H Q I h
  · exact h2.run pins s σ H Q I h

section
variable {K : PySem.W.Frag} {te ta tb tc : TE} {tt tu : TT} {es : List Sl} {m m1 m2 m3 : M} {r x y z : Sl} {a b c : Bool}
theorem ev_call {n : Nat} {g : List Sl → M → Sl → M → Prop} {E : XK} {t : TA} {rs : List Sl} (h : EvA K t es m rs m1) (hg : g rs m1 r m2) (hn : rs.length = n) : EvE K (tCall (spD K n g) [] E t) es m r m2 := fun σ H H0 ρ w e Q q =>
  h σ H H0 ρ w e _ fun vs H' H0' s' w' kv => by
    rw [List.append_nil]
    exact ⟨by rw [kv.length]; exact hn, H0', ρ, m1, rs, r, m2, w', kv, hg, fun v H2 H02 s2 w2 k2 => q v H2 H02 (s'.trans w'.nd s2) w2 k2⟩
theorem ev_orL {t1 t2 : TE} (h : EvE K t1 es m r m1) : EvE K (fun σ H Q => t1 σ H Q ∨ t2 σ H Q) es m r m1 := fun σ H H0 ρ w e Q q => .inl (h σ H H0 ρ w e Q q)
theorem ev_orR {t1 t2 : TE} (h : EvE K t2 es m r m1) : EvE K (fun σ H Q => t1 σ H Q ∨ t2 σ H Q) es m r m1 := fun σ H H0 ρ w e Q q => .inr (h σ H H0 ρ w e Q q)

/-! ### statements -/
inductive Out where
  | nx (es : List Sl) (m : M)
  | ret (r : Sl) (m : M)
  | brk (es : List Sl) (m : M)
  | cnt (es : List Sl) (m : M)
  /-- hands back the cell behind m, a new list of these -/
  | rtc (ds : List PyData) (m : M)
variable (K) in
def SvO (D : Ends) (n : Nat) (ρ : List Addr) (H0 H : Hp) : Out → Prop
  | .nx es' m' => ∀ σ' ρ' H' H0', Stp n ρ H0 H ρ' H0' H' → Wd K H0' H' ρ' m' → EnvS K H0' ρ' σ' es' → D.nx σ' H'
  | .ret r m' => ∀ v ρ' H' H0' ml, Stp n ρ H0 H ρ' H0' H' → Wd K H0' H' ρ' (m' ++ ml) → SlOk K H0' ρ' v r → D.rt v H'
  | .brk es' m' => ∀ σ' ρ' H' H0', Stp n ρ H0 H ρ' H0' H' → Wd K H0' H' ρ' m' → EnvS K H0' ρ' σ' es' → D.bk σ' H'
  | .cnt es' m' => ∀ σ' ρ' H' H0', Stp n ρ H0 H ρ' H0' H' → Wd K H0' H' ρ' m' → EnvS K H0' ρ' σ' es' → D.ct σ' H'
  | .rtc ds m' => ∀ p ρ' H' H0', Stp n ρ H0 H ρ' H0' H' → Wd K H0' H' ρ' (m' ++ [ds]) → ρ'[m'.length]? = some p → D.rt (.ref p) H'
variable (K) in
def Sv (n : Nat) (t : TS) (es : List Sl) (m : M) (o : Out) : Prop := ∀ σ H H0 ρ, n ≤ ρ.length → Wd K H0 H ρ m → EnvS K H0 ρ σ es → ∀ D : Ends, SvO K D n ρ H0 H o → t D σ H

theorem SvO.step {D : Ends} {n : Nat} {ρ ρ' : List Addr} {H0 H H0' H' : Hp} (nd : ρ'.Nodup) (s : Stp n ρ H0 H ρ' H0' H') : ∀ {o : Out}, SvO K D n ρ H0 H o → SvO K D n ρ' H0' H' o
  | .nx _ _, h => fun σ2 ρ2 H2 H02 s2 w2 e2 => h σ2 ρ2 H2 H02 (s.trans nd s2) w2 e2
  | .ret _ _, h => fun v ρ2 H2 H02 ml s2 w2 e2 => h v ρ2 H2 H02 ml (s.trans nd s2) w2 e2
  | .brk _ _, h => fun σ2 ρ2 H2 H02 s2 w2 e2 => h σ2 ρ2 H2 H02 (s.trans nd s2) w2 e2
  | .cnt _ _, h => fun σ2 ρ2 H2 H02 s2 w2 e2 => h σ2 ρ2 H2 H02 (s.trans nd s2) w2 e2
  | .rtc _ _, h => fun p ρ2 H2 H02 s2 w2 e2 => h p ρ2 H2 H02 (s.trans nd s2) w2 e2
theorem Stp.low {n : Nat} {ρ : List Addr} {H0 H H0' H' : Hp} (s : Stp ρ.length ρ H0 H ρ H0' H') : Stp n ρ H0 H ρ H0' H' :=
  ⟨s.ex, s.keep, s.dom, fun b o h => by
    rcases s.fresh b o h with z | z | z
    · exact .inl z
    · exact .inr (.inl z)
    · rw [List.drop_length] at z
      exact absurd z (by simp), rfl, fun b h => .inl h⟩

theorem sv_cast {n : Nat} {t : TS} {o o' : Out} (h : Sv K n t es m o) (e : o = o') : Sv K n t es m o' := e ▸ h
theorem sv_seq {n : Nat} {t u : TS} {es1 : List Sl} {o : Out} (h1 : Sv K n t es m (.nx es1 m1)) (h2 : Sv K n u es1 m1 o) : Sv K n (tSeq t u) es m o := fun σ H H0 ρ hn w e D q =>
  h1 σ H H0 ρ hn w e _ fun σ1 ρ1 H1 H01 s1 w1 e1 => h2 σ1 H1 H01 ρ1 (by
    have := congrArg List.length s1.pre
    rw [List.length_take, List.length_take] at this
    omega) w1 e1 D (q.step w1.nd s1)
def Out.no : Out → Bool
  | .nx _ _ => false
  | _ => true
theorem sv_out {n : Nat} {t u : TS} : ∀ {o : Out}, o.no = true → Sv K n t es m o → Sv K n (tSeq t u) es m o
  | .nx _ _, h, _ => by cases h
  | .ret _ _, _, h => fun σ H H0 ρ hn w e D q => h σ H H0 ρ hn w e _ q
  | .brk _ _, _, h => fun σ H H0 ρ hn w e D q => h σ H H0 ρ hn w e _ q
  | .cnt _ _, _, h => fun σ H H0 ρ hn w e D q => h σ H H0 ρ hn w e _ q
  | .rtc _ _, _, h => fun σ H H0 ρ hn w e D q => h σ H H0 ρ hn w e _ q
theorem sv_if {n : Nat} {t u : TS} {o : Out} (h : EvB K tt es m a m1) (h1 : a = true → Sv K n t es m1 o) (h2 : a = false → Sv K n u es m1 o) : Sv K n (tIfS tt t u) es m o := fun σ H H0 ρ hn w e D q =>
  h σ H H0 ρ w e _ fun H1 H01 s1 w1 => by
    cases a with
    | true => exact iteT (h1 rfl σ H1 H01 ρ hn w1 (e.mono s1.ex) D (q.step w1.nd s1.low))
    | false => exact iteF (h2 rfl σ H1 H01 ρ hn w1 (e.mono s1.ex) D (q.step w1.nd s1.low))
/-- if, and what comes behind it -/
theorem sv_ifs {n : Nat} {t u v : TS} {o : Out} (h : EvB K tt es m a m1) (h1 : a = true → Sv K n (tSeq t v) es m1 o) (h2 : a = false → Sv K n (tSeq u v) es m1 o) : Sv K n (tSeq (tIfS tt t u) v) es m o := fun σ H H0 ρ hn w e D q =>
  h σ H H0 ρ w e _ fun H1 H01 s1 w1 => by
    cases a with
    | true => exact iteT (h1 rfl σ H1 H01 ρ hn w1 (e.mono s1.ex) D (q.step w1.nd s1.low))
    | false => exact iteF (h2 rfl σ H1 H01 ρ hn w1 (e.mono s1.ex) D (q.step w1.nd s1.low))
theorem sv_next {n : Nat} : Sv K n tNext es m (.nx es m) := fun σ H H0 ρ hn w e D q => q σ ρ H H0 .refl w e
theorem sv_skip {n : Nat} {v : TS} {o : Out} (h : Sv K n v es m o) : Sv K n (tSeq tNext v) es m o := sv_seq sv_next h
theorem sv_ret {n : Nat} {ml : M} (h : EvE K te es m r (m1 ++ ml)) : Sv K n (tRet te) es m (.ret r m1) := fun σ H H0 ρ hn w e D q =>
  h σ H H0 ρ w e _ fun v H1 H01 s1 w1 k1 => q v ρ H1 H01 ml s1.low w1 k1
theorem sv_ret0 {n : Nat} (h : EvE K te es m r m1) : Sv K n (tRet te) es m (.ret r m1) := sv_ret (ml := []) (by rw [List.append_nil]; exact h)
/-- return of a cell -/
theorem sv_rtc {n i : Nat} {ds : List PyData} (hi : es[i]? = some (.c m.length)) : Sv K n (tRet (tVar i)) es (m ++ [ds]) (.rtc ds m) := fun σ H H0 ρ hn w e D q => by
  rcases e.2 i _ hi with z | ⟨v, h1, p, rfl, h2⟩
  · cases z
  · exact ⟨_, h1, q p ρ H H0 .refl w h2⟩
theorem sv_break {n : Nat} : Sv K n tBreak es m (.brk es m) := fun σ H H0 ρ hn w e D q => q σ ρ H H0 .refl w e
theorem sv_cont {n : Nat} : Sv K n tCont es m (.cnt es m) := fun σ H H0 ρ hn w e D q => q σ ρ H H0 .refl w e
theorem sv_drop {n : Nat} (h : EvE K te es m r m1) : Sv K n (tDrop te) es m (.nx es m1) := fun σ H H0 ρ hn w e D q =>
  h σ H H0 ρ w e _ fun v H1 H01 s1 w1 k1 => q σ ρ H1 H01 s1.low w1 (e.mono s1.ex)

/-! ### targets -/
variable (K) in
def Gv (g : TG) (is : List Nat) (r : Sl) (es es' : List Sl) : Prop := ∀ σ H H0 ρ v, Evl.Ex H0 H → EnvS K H0 ρ σ es → SlOk K H0 ρ v r → ∀ Q : L2.St → Hp → Prop,
  (∀ σ', EnvS K H0 ρ σ' es' → (∀ vs : List Nat, (∀ i, i ∈ is → i ∈ vs) → wipe σ' vs = wipe σ vs) → Q σ' H) → g v σ H Q
variable (K) in
def Gvs (g : TGs) (is : List Nat) (rs : List PyData) (es es' : List Sl) : Prop := ∀ σ H H0 ρ vs, Evl.Ex H0 H → EnvS K H0 ρ σ es → DpAll K H0 vs rs → ∀ Q : L2.St → Hp → Prop,
  (∀ σ', EnvS K H0 ρ σ' es' → (∀ vs : List Nat, (∀ i, i ∈ is → i ∈ vs) → wipe σ' vs = wipe σ vs) → Q σ' H) → g vs σ H Q
theorem wipe_get : ∀ (vs : List Nat) (σ : L2.St) (i : Nat), (wipe σ vs)[i]? = if i ∈ vs then σ[i]?.map (fun _ => none) else σ[i]?
  | [], σ, i => by simp [wipe]
  | v :: vs, σ, i => by
    have ih := wipe_get vs σ i
    show ((wipe σ vs).set v none)[i]? = _
    by_cases h : v = i
    · subst h
      rw [if_pos List.mem_cons_self]
      by_cases hl : v < (wipe σ vs).length
      · rw [List.getElem?_set_self hl]
        rw [wipe_length] at hl
        rw [List.getElem?_eq_getElem hl]
        rfl
      · rw [List.getElem?_eq_none (by rw [List.length_set]; omega)]
        rw [wipe_length] at hl
        rw [List.getElem?_eq_none (by omega)]
        rfl
    · rw [List.getElem?_set_ne h, ih]
      by_cases hm : i ∈ vs
      · rw [if_pos hm, if_pos (List.mem_cons_of_mem _ hm)]
      · rw [if_neg hm, if_neg (fun z => by
          rcases List.mem_cons.mp z with z | z
          · exact h z.symm
          · exact hm z)]
theorem wipe_ext {σ τ : L2.St} {vs : List Nat} (hl : σ.length = τ.length) (h : ∀ i, i ∉ vs → σ[i]? = τ[i]?) : wipe σ vs = wipe τ vs := by
  refine List.ext_getElem? fun i => ?_
  rw [wipe_get, wipe_get]
  by_cases hm : i ∈ vs
  · rw [if_pos hm, if_pos hm]
    by_cases hi : i < σ.length
    · rw [List.getElem?_eq_getElem hi, List.getElem?_eq_getElem (by omega)]
      rfl
    · rw [List.getElem?_eq_none (by omega), List.getElem?_eq_none (by omega)]
  · rw [if_neg hm, if_neg hm]
    exact h i hm
theorem wipe_set {σ : L2.St} {vs : List Nat} {i : Nat} {x : Option V} (h : i ∈ vs) : wipe (σ.set i x) vs = wipe σ vs :=
  wipe_ext (by rw [List.length_set]) fun j hj => by
    rw [List.getElem?_set_ne]
    rintro rfl
    exact hj h
theorem wipe_wipe {σ : L2.St} {vs : List Nat} : wipe (wipe σ vs) vs = wipe σ vs :=
  wipe_ext (by rw [wipe_length]) fun j hj => by rw [wipe_get, if_neg hj]
theorem gv_name {i : Nat} : Gv K (gName i) [i] r es (es.set i r) := fun σ H H0 ρ v ex e k Q q => q _ (e.set k) fun vs h => wipe_set (h i (by simp))
theorem gvs_nil : Gvs K gNil [] [] es es := fun σ H H0 ρ vs ex e k Q q => by
  cases k
  exact ⟨rfl, q σ e fun _ _ => rfl⟩
theorem gvs_cons {g : TG} {gs : TGs} {is js : List Nat} {d : PyData} {ds : List PyData} {es1 es2 : List Sl} (h1 : Gv K g is (.d d) es es1) (h2 : Gvs K gs js ds es1 es2) : Gvs K (gCons g gs) (is ++ js) (d :: ds) es es2 := fun σ H H0 ρ vs ex e k Q q => by
  cases k with
  | cons a t =>
    refine ⟨_, _, rfl, h1 σ H H0 ρ _ ex e a _ fun σ1 e1 w1 => h2 σ1 H H0 ρ _ ex e1 t _ fun σ2 e2 w2 => q σ2 e2 fun vs h => ?_⟩
    rw [w2 vs fun i hi => h i (List.mem_append_right _ hi), w1 vs fun i hi => h i (List.mem_append_left _ hi)]
theorem gv_tup {n : Nat} {gs : TGs} {is : List Nat} {ds : List PyData} {es1 : List Sl} (h : Gvs K gs is ds es es1) (hn : ds.length = n) : Gv K (gTup K n gs) is (.d (.tuple ds)) es es1 := fun σ H H0 ρ v ex e k Q q => by
  cases k with
  | tup hs ha => exact ⟨_, _, rfl, Evl.ex_t ex hs, by rw [dpAll_len ha]; exact hn, h σ H H0 ρ _ ex e ha Q q⟩
theorem sv_asg {n : Nat} {g : TG} {is : List Nat} {es1 : List Sl} (h : EvE K te es m r m1) (hg : Gv K g is r es es1) : Sv K n (tAsg te g) es m (.nx es1 m1) := fun σ H H0 ρ hn w e D q =>
  h σ H H0 ρ w e _ fun v H1 H01 s1 w1 k1 => hg σ H1 H01 ρ v w1.ex (e.mono s1.ex) k1 _ fun σ' e' _ => q σ' ρ H1 H01 s1.low w1 e'
theorem sv_set {n : Nat} {i : Nat} (h : EvE K te es m r m1) : Sv K n (tAsg te (gName i)) es m (.nx (es.set i r) m1) := sv_asg h gv_name

/-! ### what is walked -/
variable (K) in
def ItOk (J : It) (H0 : Hp) (ds : List PyData) : Prop := ∀ (i : Nat) (H : Hp), Evl.Ex H0 H → (i < ds.length → J.go i H) ∧ (ds.length ≤ i → J.stop i H) ∧ ∀ x H', i < ds.length → J.yld i H x H' → H' = H ∧ ∃ d, ds[i]? = some d ∧ Dp K H0 x d
theorem ItOk.mono {J : It} {H0 H0' : Hp} {ds : List PyData} (e : Evl.Ex H0 H0') (h : ItOk K J H0 ds) : ItOk K J H0' ds := fun i H ex => by
  obtain ⟨h1, h2, h3⟩ := h i H (e.trans ex)
  refine ⟨h1, h2, fun x H' hi y => ?_⟩
  obtain ⟨e1, d, e2, e3⟩ := h3 x H' hi y
  exact ⟨e1, d, e2, dp_mono e e3⟩
variable (K) in
def EvI (wi : TI) (es : List Sl) (m : M) (ds : List PyData) (m' : M) : Prop := ∀ σ H H0 ρ, Wd K H0 H ρ m → EnvS K H0 ρ σ es → ∀ R : It → Hp → Prop,
  (∀ J H' H0', Stp ρ.length ρ H0 H ρ H0' H' → Wd K H0' H' ρ m' → ItOk K J H0' ds → R J H') → wi σ H R
theorem dpAll_get {H0 : Hp} : ∀ {vs : List V} {ds : List PyData} {i : Nat} {v : V}, DpAll K H0 vs ds → vs[i]? = some v → ∃ d, ds[i]? = some d ∧ Dp K H0 v d
  | _, _, _, _, .nil, h => by simp at h
  | _, _, 0, _, .cons a _, h => by
    cases h
    exact ⟨_, rfl, a⟩
  | _, _, i + 1, _, .cons _ t, h => dpAll_get (i := i) t h
theorem dpAll_get' {H0 : Hp} : ∀ {vs : List V} {ds : List PyData} {i : Nat} {d : PyData}, DpAll K H0 vs ds → ds[i]? = some d → ∃ v, vs[i]? = some v ∧ Dp K H0 v d
  | _, _, _, _, .nil, h => by simp at h
  | _, _, 0, _, .cons a _, h => by
    cases h
    exact ⟨_, rfl, a⟩
  | _, _, i + 1, _, .cons _ t, h => dpAll_get' (i := i) t h
theorem itOk_l {a : Addr} {xs : List V} {H0 : Hp} {ds : List PyData} (hs : SqL K H0 a xs) (ha : DpAll K H0 xs ds) : ItOk K (Itl K a) H0 ds := fun i H ex => by
  have hl := dpAll_len ha
  refine ⟨fun h => ⟨xs, xs[i], Evl.ex_l ex hs, List.getElem?_eq_getElem (by omega)⟩, fun h => ⟨xs, Evl.ex_l ex hs, by omega⟩, fun x H' _ y => ?_⟩
  obtain ⟨e, q⟩ := y
  exact ⟨e, dpAll_get ha (q xs (Evl.ex_l ex hs))⟩
theorem itOk_t {a : Addr} {xs : List V} {H0 : Hp} {ds : List PyData} (hs : SqT K H0 a xs) (ha : DpAll K H0 xs ds) : ItOk K (Itt K a) H0 ds := fun i H ex => by
  have hl := dpAll_len ha
  refine ⟨fun h => ⟨xs, xs[i], Evl.ex_t ex hs, List.getElem?_eq_getElem (by omega)⟩, fun h => ⟨xs, Evl.ex_t ex hs, by omega⟩, fun x H' _ y => ?_⟩
  obtain ⟨e, q⟩ := y
  exact ⟨e, dpAll_get ha (q xs (Evl.ex_t ex hs))⟩
theorem ei_list {ds : List PyData} (h : EvE K te es m (.d (.list ds)) m1) : EvI K (iList K te) es m ds m1 := fun σ H H0 ρ w e R q =>
  h σ H H0 ρ w e _ fun v H1 H01 s1 w1 k1 => by
    cases k1 with
    | lst hs ha => exact ⟨_, rfl, ⟨_, Evl.ex_l w1.ex hs⟩, q _ H1 H01 s1 w1 (itOk_l hs ha)⟩
theorem ei_tup {ds : List PyData} (h : EvE K te es m (.d (.tuple ds)) m1) : EvI K (iTup K te) es m ds m1 := fun σ H H0 ρ w e R q =>
  h σ H H0 ρ w e _ fun v H1 H01 s1 w1 k1 => by
    cases k1 with
    | tup hs ha => exact ⟨_, rfl, ⟨_, Evl.ex_t w1.ex hs⟩, q _ H1 H01 s1 w1 (itOk_t hs ha)⟩
theorem ei_orL {w1 w2 : TI} {ds : List PyData} (h : EvI K w1 es m ds m1) : EvI K (fun σ H R => w1 σ H R ∨ w2 σ H R) es m ds m1 := fun σ H H0 ρ w e R q => .inl (h σ H H0 ρ w e R q)
theorem ei_orR {w1 w2 : TI} {ds : List PyData} (h : EvI K w2 es m ds m1) : EvI K (fun σ H R => w1 σ H R ∨ w2 σ H R) es m ds m1 := fun σ H H0 ρ w e R q => .inr (h σ H H0 ρ w e R q)
def rangeD (lo : Int) (n : Nat) : List PyData := (List.range n).map fun (i : Nat) => PyData.int (lo + i)
theorem rangeD_len {lo : Int} {n : Nat} : (rangeD lo n).length = n := by unfold rangeD; simp
theorem itOk_r {lo : Int} {n : Nat} {H0 : Hp} : ItOk K (Itr lo n) H0 (rangeD lo n) := fun i H ex => by
  rw [rangeD_len]
  refine ⟨id, id, fun x H' hi y => ?_⟩
  obtain ⟨e, q⟩ := y
  subst q
  refine ⟨e, .int (lo + i), ?_, .int _⟩
  unfold rangeD
  rw [List.getElem?_map, List.getElem?_range hi]
  rfl
theorem ei_rng1 {ta : TA} {j : Int} (h : EvA K ta es m [.d (.int j)] m1) (h1 : -(2 ^ 62) ≤ j) (h2 : j < 2 ^ 62) : EvI K (iRng1 ta) es m (rangeD 0 j.toNat) m1 := fun σ H H0 ρ w e R q =>
  h σ H H0 ρ w e _ fun vs H1 H01 s1 w1 k1 => by
    cases k1 with
    | cons a t =>
      cases t
      cases a
      exact ⟨j, rfl, h1, h2, q _ H1 H01 s1 w1 itOk_r⟩

/-! ### for -/
inductive ForR (K : PySem.W.Frag) (n : Nat) (g : TG) (tb : TS) : List PyData → List Sl → M → Out → Prop
  | nil {es : List Sl} {m : M} : ForR K n g tb [] es m (.nx es m)
  | nx {d : PyData} {ds : List PyData} {is : List Nat} {es : List Sl} {es1 : List Sl} {es2 : List Sl} {m : M} {m2 : M} {o : Out} : Gv K g is (.d d) es es1 → Sv K n tb es1 m (.nx es2 m2) → ForR K n g tb ds es2 m2 o → ForR K n g tb (d :: ds) es m o
  | cnt {d : PyData} {ds : List PyData} {is : List Nat} {es : List Sl} {es1 : List Sl} {es2 : List Sl} {m : M} {m2 : M} {o : Out} : Gv K g is (.d d) es es1 → Sv K n tb es1 m (.cnt es2 m2) → ForR K n g tb ds es2 m2 o → ForR K n g tb (d :: ds) es m o
  | brk {d : PyData} {ds : List PyData} {is : List Nat} {es : List Sl} {es1 : List Sl} {es2 : List Sl} {m : M} {m2 : M} : Gv K g is (.d d) es es1 → Sv K n tb es1 m (.brk es2 m2) → ForR K n g tb (d :: ds) es m (.nx es2 m2)
  | ret {d : PyData} {ds : List PyData} {is : List Nat} {es : List Sl} {es1 : List Sl} {r : Sl} {m : M} {m2 : M} : Gv K g is (.d d) es es1 → Sv K n tb es1 m (.ret r m2) → ForR K n g tb (d :: ds) es m (.ret r m2)
theorem pre_len {n : Nat} {ρ ρ' : List Addr} {H0 H H0' H' : Hp} (hn : n ≤ ρ.length) (s : Stp n ρ H0 H ρ' H0' H') : n ≤ ρ'.length := by
  have := congrArg List.length s.pre
  rw [List.length_take, List.length_take] at this
  omega
theorem drop_cons {α : Type} {l : List α} {i : Nat} {d : α} (h : l[i]? = some d) : l.drop i = d :: l.drop (i + 1) := by
  obtain ⟨h1, h2⟩ := List.getElem?_eq_some_iff.mp h
  rw [← h2]
  exact List.drop_eq_getElem_cons h1
theorem sv_for {n : Nat} {wi : TI} {g : TG} {tb : TS} {ds : List PyData} {o : Out} (hi : EvI K wi es m ds m1) (h : ForR K n g tb ds es m1 o) : Sv K n (tFor wi g tb) es m o := fun σ H H0 ρ hn w e D q =>
  hi σ H H0 ρ w e _ fun J H1 H01 s1 w1 it => by
    refine ⟨fun i k σ2 H2 => k = ds.length - i ∧ i ≤ ds.length ∧ ∃ es2 m2 ρ2 H02, ForR K n g tb (ds.drop i) es2 m2 o ∧ Stp n ρ H0 H ρ2 H02 H2 ∧ Wd K H02 H2 ρ2 m2 ∧ EnvS K H02 ρ2 σ2 es2 ∧ ItOk K J H02 ds,
      ⟨ds.length, by omega, Nat.zero_le _, es, m1, ρ, H01, h, s1.low, w1, e.mono s1.ex, it⟩, fun i k σ2 H2 hW => ?_⟩
    obtain ⟨rfl, hle, es2, m2, ρ2, H02, fr, s2, w2, e2, it2⟩ := hW
    have hn2 := pre_len hn s2
    obtain ⟨g1, g2, g3⟩ := it2 i H2 w2.ex
    by_cases hlt : i < ds.length
    · refine .inr ⟨g1 hlt, ?_⟩
      have hd : ds[i]? = some ds[i] := List.getElem?_eq_getElem hlt
      rw [drop_cons hd] at fr
      have fin : ∀ {x H'}, J.yld i H2 x H' → H' = H2 ∧ Dp K H02 x ds[i] := fun {x H'} y => by
        obtain ⟨e1, d, q1, q2⟩ := g3 x H' hlt y
        rw [hd] at q1
        cases q1
        exact ⟨e1, q2⟩
      cases fr with
      | @nx _ _ is _ es3 es4 _ m4 _ hg hb hr =>
        refine ⟨fun σ' H' => ∃ ρ4 H04, Stp n ρ H0 H ρ4 H04 H' ∧ Wd K H04 H' ρ4 m4 ∧ EnvS K H04 ρ4 σ' es4 ∧ ItOk K J H04 ds, fun σ' H' ⟨ρ4, H04, s4, w4, e4, it4⟩ => ⟨ds.length - (i + 1), by omega, rfl, hlt, es4, m4, ρ4, H04, hr, s4, w4, e4, it4⟩, fun x H' y => ?_⟩
        obtain ⟨rfl, kx⟩ := fin y
        exact hg σ2 _ H02 ρ2 x w2.ex e2 kx _ fun σ3 e3 _ => hb σ3 _ H02 ρ2 hn2 w2 e3 _ fun σ4 ρ4 H4 H04 s4 w4 e4 => ⟨ρ4, H04, s2.trans w2.nd s4, w4, e4, it2.mono s4.ex⟩
      | @cnt _ _ is _ es3 es4 _ m4 _ hg hb hr =>
        refine ⟨fun σ' H' => ∃ ρ4 H04, Stp n ρ H0 H ρ4 H04 H' ∧ Wd K H04 H' ρ4 m4 ∧ EnvS K H04 ρ4 σ' es4 ∧ ItOk K J H04 ds, fun σ' H' ⟨ρ4, H04, s4, w4, e4, it4⟩ => ⟨ds.length - (i + 1), by omega, rfl, hlt, es4, m4, ρ4, H04, hr, s4, w4, e4, it4⟩, fun x H' y => ?_⟩
        obtain ⟨rfl, kx⟩ := fin y
        exact hg σ2 _ H02 ρ2 x w2.ex e2 kx _ fun σ3 e3 _ => hb σ3 _ H02 ρ2 hn2 w2 e3 _ fun σ4 ρ4 H4 H04 s4 w4 e4 => ⟨ρ4, H04, s2.trans w2.nd s4, w4, e4, it2.mono s4.ex⟩
      | @brk _ _ is _ es3 es4 _ m4 hg hb =>
        refine ⟨fun _ _ => False, fun _ _ z => z.elim, fun x H' y => ?_⟩
        obtain ⟨rfl, kx⟩ := fin y
        exact hg σ2 _ H02 ρ2 x w2.ex e2 kx _ fun σ3 e3 _ => hb σ3 _ H02 ρ2 hn2 w2 e3 _ fun σ4 ρ4 H4 H04 s4 w4 e4 => q σ4 ρ4 H4 H04 (s2.trans w2.nd s4) w4 e4
      | @ret _ _ is _ es3 r _ m4 hg hb =>
        refine ⟨fun _ _ => False, fun _ _ z => z.elim, fun x H' y => ?_⟩
        obtain ⟨rfl, kx⟩ := fin y
        exact hg σ2 _ H02 ρ2 x w2.ex e2 kx _ fun σ3 e3 _ => hb σ3 _ H02 ρ2 hn2 w2 e3 _ fun v ρ4 H4 H04 ml s4 w4 k4 => q v ρ4 H4 H04 ml (s2.trans w2.nd s4) w4 k4
    · have ei : i = ds.length := by omega
      subst ei
      rw [List.drop_length] at fr
      cases fr with
      | nil => exact .inl ⟨g2 (Nat.le_refl _), q σ2 ρ2 H2 H02 s2 w2 e2⟩

/-! ### comprehensions -/
inductive LcR (K : PySem.W.Frag) (g : TG) (tt : TT) (te : TE) (esw : List Sl) (vs : List Nat) : List PyData → M → List PyData → M → Prop
  | nil {m : M} : LcR K g tt te esw vs [] m [] m
  | yes {d : PyData} {ds : List PyData} {es2 : List Sl} {m : M} {m1 : M} {m2 : M} {m3 : M} {r : PyData} {rs : List PyData} {is : List Nat} : Gv K g is (.d d) esw es2 → (∀ i, i ∈ is → i ∈ vs) → EvB K tt es2 m true m1 → EvE K te es2 m1 (.d r) m2 → LcR K g tt te esw vs ds m2 rs m3 → LcR K g tt te esw vs (d :: ds) m (r :: rs) m3
  | not {d : PyData} {ds : List PyData} {es2 : List Sl} {m : M} {m1 : M} {m3 : M} {rs : List PyData} {is : List Nat} : Gv K g is (.d d) esw es2 → (∀ i, i ∈ is → i ∈ vs) → EvB K tt es2 m false m1 → LcR K g tt te esw vs ds m1 rs m3 → LcR K g tt te esw vs (d :: ds) m rs m3
theorem LcR.len {g : TG} {esw : List Sl} {vs : List Nat} {ds rs : List PyData} (h : LcR K g tt te esw vs ds m rs m1) : rs.length ≤ ds.length := by
  induction h with
  | nil => exact Nat.le_refl _
  | yes _ _ _ _ _ ih => rw [List.length_cons, List.length_cons]; omega
  | not _ _ _ _ ih => rw [List.length_cons]; omega
theorem eb_yes : EvB K tYes es m true m := fun σ H H0 ρ w e Q q => q H H0 .refl w
variable (K) in
/-- a new list that nobody else holds -/
def EvL (te : TE) (es : List Sl) (m : M) (ds : List PyData) (m' : M) : Prop := ∀ σ H H0 ρ, Wd K H0 H ρ m → EnvS K H0 ρ σ es → ∀ Q : VK,
  (∀ p vs H' H0', Stp ρ.length ρ H0 H ρ H0' H' → Wd K H0' H' ρ m' → H p = none → H0' p = none → p ∉ ρ → H' p = some (.lst vs) → DpAll K H0' vs ds → Q (.ref p) H') → te σ H Q
theorem dpAll_app {H0 : Hp} : ∀ {vs us : List V} {ds es : List PyData}, DpAll K H0 vs ds → DpAll K H0 us es → DpAll K H0 (vs ++ us) (ds ++ es)
  | _, _, _, _, .nil, h => h
  | _, _, _, _, .cons a t, h => .cons a (dpAll_app t h)
theorem Wd.notin {H0 H : Hp} {ρ : List Addr} (w : Wd K H0 H ρ m) {p : Addr} (h : H p = none) : p ∉ ρ := fun hp => by
  obtain ⟨j, hj, e⟩ := List.getElem_of_mem hp
  have hj' : j < m.length := by rw [← w.len]; exact hj
  obtain ⟨_, vs, q, _⟩ := w.cel j p m[j] (by rw [List.getElem?_eq_getElem hj, e]) (List.getElem?_eq_getElem hj')
  rw [h] at q
  cases q
theorem tabs_mut {T : List (Addr × Str)} {H : Hp} {p : Addr} {o : HO} (t : LamX.Tabs T H) (hp : H p = none ∨ ∃ vs, H p = some (.lst vs)) : LamX.Tabs T (upd H p o) := fun q hq => by
  obtain ⟨ps, h1, h2, h3⟩ := t q hq
  have n1 : q.1 ≠ p := by
    rintro e
    rw [e] at h1
    rcases hp with z | ⟨vs, z⟩ <;> rw [z] at h1 <;> cases h1
  refine ⟨ps, by rw [upd_ne n1]; exact h1, h2, fun pos cv hc => ?_⟩
  obtain ⟨c, e1, e2⟩ := h3 pos cv hc
  have n2 : c ≠ p := by
    rintro e
    rw [e] at e2
    rcases hp with z | ⟨vs, z⟩
    · rw [z] at e2; cases e2
    · rw [z] at e2
      unfold LamX.CodeO at e2
      cases e2
  exact ⟨c, e1, by rw [upd_ne n2]; exact e2⟩
/-- an object outside of all that is told may change -/
theorem Wd.off {H0 H : Hp} {ρ : List Addr} {p : Addr} {o : HO} (w : Wd K H0 H ρ m) (h0 : H0 p = none) (hp : p ∉ ρ) (hm : H p = none ∨ ∃ vs, H p = some (.lst vs)) : Wd K H0 (upd H p o) ρ m := by
  refine ⟨Evl.Ex.mut w.ex h0, w.len, w.nd, fun j q ds a b => ?_, tabs_mut w.tab hm, w.nT⟩
  obtain ⟨h1, vs, h2, h3⟩ := w.cel j q ds a b
  refine ⟨h1, vs, ?_, h3⟩
  rw [upd_ne]
  · exact h2
  · rintro rfl
    exact hp (List.mem_of_getElem? a)
theorem Stp.off {n : Nat} {ρ ρ' : List Addr} {H0 H H0' H' : Hp} {p : Addr} {o : HO} (s : Stp n ρ H0 H ρ' H0' H') (hp : H p = none) : Stp n ρ H0 H ρ' H0' (upd H' p o) :=
  ⟨s.ex, fun b u h hb nt => by
    rw [upd_ne (ne_of_none h hp)]
    exact s.keep b u h hb nt, fun b h => by
    by_cases e : b = p
    · rw [e]; exact hp
    · rw [upd_ne e] at h
      exact s.dom b h, s.fresh, s.pre, s.cel⟩
theorem el_lc {wi : TI} {g : TG} {vs : List Nat} {ds rs : List PyData} (hi : EvI K wi es m ds m1) (h : LcR K g tt te (wipeS es vs) vs ds m1 rs m2) (hl : ds.length ≤ 1000) : EvL K (tLc wi g tt te vs) es m rs m2 := fun σ H H0 ρ w e Q q =>
  hi σ H H0 ρ w e _ fun J H1 H01 s1 w1 it => fun D hD => by
    have hD0 : H D = none := s1.dom D hD
    have hDρ : D ∉ ρ := w1.notin hD
    refine ⟨fun i k H2 => k = ds.length - i ∧ i ≤ ds.length ∧ ∃ acc va rs1 m3 H02, rs = acc ++ rs1 ∧ acc.length ≤ i ∧ LcR K g tt te (wipeS es vs) vs (ds.drop i) m3 rs1 m2 ∧ Stp ρ.length ρ H0 H ρ H02 H2 ∧ Wd K H02 H2 ρ m3 ∧ EnvS K H02 ρ σ es ∧ ItOk K J H02 ds ∧ H02 D = none ∧ H2 D = some (.lst va) ∧ DpAll K H02 va acc,
      ⟨ds.length, by omega, Nat.zero_le _, [], [], rs, m1, H01, rfl, Nat.le_refl _, h, s1.off hD0, w1.off (Evl.fresh_back w1.ex hD) hDρ (.inl hD), e.mono s1.ex, it, Evl.fresh_back w1.ex hD, upd_same, .nil⟩, fun i k H2 hW => ?_⟩
    obtain ⟨rfl, hle, acc, va, rs1, m3, H02, er, hacc, fr, s2, w2, e2, it2, d0, d2, da⟩ := hW
    obtain ⟨g1, g2, g3⟩ := it2 i H2 w2.ex
    by_cases hlt : i < ds.length
    · refine .inr ⟨g1 hlt, ?_⟩
      have hd : ds[i]? = some ds[i] := List.getElem?_eq_getElem hlt
      rw [drop_cons hd] at fr
      have fin : ∀ {x H'}, J.yld i H2 x H' → H' = H2 ∧ Dp K H02 x ds[i] := fun {x H'} y => by
        obtain ⟨e1, d, q1, q2⟩ := g3 x H' hlt y
        rw [hd] at q1
        cases q1
        exact ⟨e1, q2⟩
      -- the new list through a step
      have keepD : ∀ {H3 H03 : Hp}, Stp ρ.length ρ H02 H2 ρ H03 H3 → H03 D = none ∧ H3 D = some (.lst va) := fun {H3 H03} s3 => by
        refine ⟨?_, s3.keep D _ d2 hDρ fun ps z => nomatch z⟩
        cases z : H03 D with
        | none => rfl
        | some u =>
          rcases s3.fresh D u z with y | y | y
          · rw [d0] at y; cases y
          · rw [d2] at y; cases y
          · rw [List.drop_length] at y
            exact absurd y (by simp)
      have hvl := dpAll_len da
      cases fr with
      | @yes _ _ es3 _ m4 m5 _ r rs2 is hg hiv hb he hr =>
        refine ⟨fun H' => ∃ va' H04, Stp ρ.length ρ H0 H ρ H04 H' ∧ Wd K H04 H' ρ m5 ∧ EnvS K H04 ρ σ es ∧ ItOk K J H04 ds ∧ H04 D = none ∧ H' D = some (.lst va') ∧ DpAll K H04 va' (acc ++ [r]),
          fun H' ⟨va', H04, s4, w4, e4, it4, z0, z1, z2⟩ => ⟨ds.length - (i + 1), by omega, rfl, hlt, acc ++ [r], va', rs2, m5, H04, by rw [er, List.append_assoc]; rfl, by rw [List.length_append, List.length_singleton]; omega, hr, s4, w4, e4, it4, z0, z1, z2⟩, fun x H' y => ?_⟩
        obtain ⟨rfl, kx⟩ := fin y
        refine hg _ _ H02 ρ x w2.ex (e2.wipe vs) kx _ fun σ3 e3 hw => ⟨by rw [hw vs hiv, wipe_wipe], ?_⟩
        refine hb σ3 _ H02 ρ w2 e3 _ fun H3 H03 s3 w3 => ?_
        refine iteT (he σ3 H3 H03 ρ w3 (e3.mono s3.ex) _ fun y H4 H04 s4 w4 ky => ?_)
        have s5 := s3.trans w3.nd s4
        obtain ⟨k1, k2⟩ := keepD s5
        refine ⟨va, k2, small1000 (by omega), va ++ [y], H04, (s2.trans w2.nd s5).off hD0, w4.off k1 hDρ (.inr ⟨_, k2⟩), e2.mono s5.ex, it2.mono s5.ex, k1, upd_same, dpAll_app (dpAll_mono s5.ex da) (.cons ky .nil)⟩
      | @not _ _ es3 _ m4 _ _ is hg hiv hb hr =>
        refine ⟨fun H' => ∃ H04, Stp ρ.length ρ H0 H ρ H04 H' ∧ Wd K H04 H' ρ m4 ∧ EnvS K H04 ρ σ es ∧ ItOk K J H04 ds ∧ H04 D = none ∧ H' D = some (.lst va) ∧ DpAll K H04 va acc,
          fun H' ⟨H04, s4, w4, e4, it4, z0, z1, z2⟩ => ⟨ds.length - (i + 1), by omega, rfl, hlt, acc, va, rs1, m4, H04, er, by omega, hr, s4, w4, e4, it4, z0, z1, z2⟩, fun x H' y => ?_⟩
        obtain ⟨rfl, kx⟩ := fin y
        refine hg _ _ H02 ρ x w2.ex (e2.wipe vs) kx _ fun σ3 e3 hw => ⟨by rw [hw vs hiv, wipe_wipe], ?_⟩
        refine hb σ3 _ H02 ρ w2 e3 _ fun H3 H03 s3 w3 => ?_
        obtain ⟨k1, k2⟩ := keepD s3
        exact iteF ⟨H03, s2.trans w2.nd s3, w3, e2.mono s3.ex, it2.mono s3.ex, k1, k2, dpAll_mono s3.ex da⟩
    · have ei : i = ds.length := by omega
      subst ei
      rw [List.drop_length] at fr
      cases fr with
      | nil =>
        refine .inl ⟨g2 (Nat.le_refl _), ?_⟩
        rw [List.append_nil] at er
        subst er
        exact q D va H2 H02 s2 w2 hD0 d0 hDρ d2 da
/-- a new list as data -/
theorem el_d {ds : List PyData} (h : EvL K te es m ds m1) : EvE K te es m (.d (.list ds)) m1 := fun σ H H0 ρ w e Q q =>
  h σ H H0 ρ w e _ fun p vs H1 H01 s1 w1 hp hp0 hpρ e1 ha => by
    have hx : Evl.Ex H01 (upd H01 p (.lst vs)) := Evl.Ex.new hp0
    refine q _ H1 (upd H01 p (.lst vs)) ⟨s1.ex.trans hx, s1.keep, s1.dom, fun b o z => ?_, rfl, fun b z => .inl z⟩ ⟨fun b o z => ?_, w1.len, w1.nd, fun j a ds' z1 z2 => ?_, w1.tab, fun q hq => by
        rw [upd_ne]
        · exact w1.nT q hq
        · obtain ⟨_, z, _⟩ := w1.tab q hq
          exact ne_of z e1 (fun z => nomatch z)⟩ (.lst (.inl (.inl upd_same)) (dpAll_mono hx ha))
    · by_cases e : b = p
      · rw [e]; exact .inr (.inl hp)
      · rw [upd_ne e] at z
        exact s1.fresh b o z
    · by_cases e : b = p
      · subst e
        rw [upd_same] at z
        rw [e1]
        exact z
      · rw [upd_ne e] at z
        exact w1.ex b o z
    · obtain ⟨y1, ws, y2, y3⟩ := w1.cel j a ds' z1 z2
      refine ⟨?_, ws, y2, dpAll_mono hx y3⟩
      rw [upd_ne]
      · exact y1
      · rintro rfl
        exact hpρ (List.mem_of_getElem? z1)
/-- a new list kept by a name: a cell -/
theorem sv_cell {n : Nat} {i : Nat} {ds : List PyData} (h : EvL K te es m ds m1) : Sv K n (tAsg te (gName i)) es m (.nx (es.set i (.c m1.length)) (m1 ++ [ds])) := fun σ H H0 ρ hn w e D q =>
  h σ H H0 ρ w e _ fun p vs H1 H01 s1 w1 hp hp0 hpρ e1 ha => by
    have nd : (ρ ++ [p]).Nodup := List.nodup_append.mpr ⟨w1.nd, by simp, fun a ha b hb => by
      rcases List.mem_singleton.mp hb with rfl
      rintro rfl
      exact hpρ ha⟩
    have w2 : Wd K H01 H1 (ρ ++ [p]) (m1 ++ [ds]) := by
      refine ⟨w1.ex, by rw [List.length_append, List.length_append, w1.len]; rfl, nd, fun j a ds' z1 z2 => ?_, w1.tab, w1.nT⟩
      by_cases hj : j < ρ.length
      · rw [List.getElem?_append_left hj] at z1
        rw [List.getElem?_append_left (by rw [← w1.len]; exact hj)] at z2
        exact w1.cel j a ds' z1 z2
      · rw [List.getElem?_append_right (by omega)] at z1
        rw [List.getElem?_append_right (by rw [← w1.len]; omega)] at z2
        rw [← w1.len] at z2
        have e0 : j - ρ.length = 0 := by
          cases hk : j - ρ.length with
          | zero => rfl
          | succ k => rw [hk] at z1; simp at z1
        rw [e0] at z1 z2
        cases z1
        cases z2
        exact ⟨hp0, vs, e1, ha⟩
    have s2 : Stp n ρ H0 H (ρ ++ [p]) H01 H1 := ⟨s1.ex, s1.keep, s1.dom, s1.low.fresh, List.take_append_of_le_length hn, fun b z => by
      rcases List.mem_append.mp z with z | z
      · exact .inl z
      · rw [List.mem_singleton.mp z]; exact .inr hp⟩
    have e2 : EnvS K H01 (ρ ++ [p]) σ es := by
      refine ⟨e.1, fun j s z => ?_⟩
      rcases (e.mono s1.ex).2 j s z with y | ⟨v, y1, y2⟩
      · exact .inl y
      · refine .inr ⟨v, y1, ?_⟩
        cases s with
        | no => trivial
        | d x => exact y2
        | v x => exact y2
        | c k =>
          obtain ⟨a, h1, h2⟩ := y2
          refine ⟨a, h1, ?_⟩
          rw [List.getElem?_append_left (List.getElem?_eq_some_iff.mp h2).1]
          exact h2
    refine q _ (ρ ++ [p]) H1 H01 s2 w2 (e2.set ⟨p, rfl, ?_⟩)
    rw [← w1.len, List.getElem?_append_right (Nat.le_refl _), Nat.sub_self]
    rfl
end
end DL

set_option Elab.async false
set_option linter.all false
set_option maxRecDepth 100000
namespace DL
variable [Tbs]
open PySem PySem.Spec PyProof.Rows L2

section
variable {K : PySem.W.Frag} {te ta tb tc : TE} {tt tu : TT} {es : List Sl} {m m1 m2 m3 : M} {r : Sl} {a b c : Bool}

/-- no new object -/
theorem here {H0 H : Hp} {u : V} {z : PyData} {Q : VK} (ex : Evl.Ex H0 H) (k : Dp K H0 u z)
    (q : ∀ u H' H0', Evl.Ex H0 H0' → Evl.Ex H0' H' → Evl.Ex H H' → (∀ b o, H0' b = some o → H0 b = some o ∨ H b = none) → Dp K H0' u z → Q u H') : Q u H :=
  q u H H0 (Evl.Ex.refl _) ex (Evl.Ex.refl _) (fun _ _ h => .inl h) k
/-- a new tuple -/
theorem newT {H0 H : Hp} {p : Addr} {xs : List V} {ds : List PyData} {Q : VK} (ex : Evl.Ex H0 H) (hp : H p = none) (k : DpAll K H0 xs ds)
    (q : ∀ u H' H0', Evl.Ex H0 H0' → Evl.Ex H0' H' → Evl.Ex H H' → (∀ b o, H0' b = some o → H0 b = some o ∨ H b = none) → Dp K H0' u (.tuple ds) → Q u H') : Q (.ref p) (upd H p (.tup xs)) := by
  have h0 : H0 p = none := Evl.fresh_back ex hp
  refine q _ _ (upd H0 p (.tup xs)) (Evl.Ex.new h0) (fun b o h => ?_) (Evl.Ex.new hp) (fun b o h => ?_) (.tup (.inl (.inl upd_same)) (dpAll_mono (Evl.Ex.new h0) k))
  · by_cases e : b = p
    · subst e
      rw [upd_same] at h ⊢
      exact h
    · rw [upd_ne e] at h ⊢
      exact ex _ _ h
  · by_cases e : b = p
    · rw [e]; exact .inr hp
    · rw [upd_ne e] at h
      exact .inl h
theorem newL {H0 H : Hp} {p : Addr} {xs : List V} {ds : List PyData} {Q : VK} (ex : Evl.Ex H0 H) (hp : H p = none) (k : DpAll K H0 xs ds)
    (q : ∀ u H' H0', Evl.Ex H0 H0' → Evl.Ex H0' H' → Evl.Ex H H' → (∀ b o, H0' b = some o → H0 b = some o ∨ H b = none) → Dp K H0' u (.list ds) → Q u H') : Q (.ref p) (upd H p (.lst xs)) := by
  have h0 : H0 p = none := Evl.fresh_back ex hp
  refine q _ _ (upd H0 p (.lst xs)) (Evl.Ex.new h0) (fun b o h => ?_) (Evl.Ex.new hp) (fun b o h => ?_) (.lst (.inl (.inl upd_same)) (dpAll_mono (Evl.Ex.new h0) k))
  · by_cases e : b = p
    · subst e
      rw [upd_same] at h ⊢
      exact h
    · rw [upd_ne e] at h ⊢
      exact ex _ _ h
  · by_cases e : b = p
    · rw [e]; exact .inr hp
    · rw [upd_ne e] at h
      exact .inl h

/-! ### operators by data -/
theorem o_eq {x y : PyData} (hx : SeqAt.shaped x = true) (hy : SeqAt.shaped y = true) : Op2 K (rEqD K) x y (.bool (PyData.eqv x y)) := fun H0 H ex v w kv kw Q q => ⟨x, y, dp_mono ex kv, dp_mono ex kw, hx, hy, here ex (.bl _) q⟩
theorem o_ne {x y : PyData} (hx : SeqAt.shaped x = true) (hy : SeqAt.shaped y = true) : Op2 K (rNeD K) x y (.bool (!PyData.eqv x y)) := fun H0 H ex v w kv kw Q q => ⟨x, y, dp_mono ex kv, dp_mono ex kw, hx, hy, here ex (.bl _) q⟩
theorem o_i0b {f : Int → Int → Bool} {i j : Int} : Op2 K (rI0 fun i j => .bl (f i j)) (.int i) (.int j) (.bool (f i j)) := fun H0 H ex v w kv kw Q q => by
  cases kv
  cases kw
  exact ⟨i, j, rfl, rfl, here ex (.bl _) q⟩
theorem o_i0 {f : Int → Int → Int} {i j : Int} : Op2 K (rI0 fun i j => .int (f i j)) (.int i) (.int j) (.int (f i j)) := fun H0 H ex v w kv kw Q q => by
  cases kv
  cases kw
  exact ⟨i, j, rfl, rfl, here ex (.int _) q⟩
theorem o_i {C : Int → Int → Prop} {f : Int → Int → Int} {i j : Int} (h : C i j) : Op2 K (rI C fun i j => .int (f i j)) (.int i) (.int j) (.int (f i j)) := fun H0 H ex v w kv kw Q q => by
  cases kv
  cases kw
  exact ⟨i, j, rfl, rfl, h, here ex (.int _) q⟩
theorem o_orL {r1 r2 : R2} {x y z : PyData} (h : Op2 K r1 x y z) : Op2 K (fun x y H Q => r1 x y H Q ∨ r2 x y H Q) x y z := fun H0 H ex v w kv kw Q q => .inl (h H0 H ex v w kv kw Q q)
theorem o_orR {r1 r2 : R2} {x y z : PyData} (h : Op2 K r2 x y z) : Op2 K (fun x y H Q => r1 x y H Q ∨ r2 x y H Q) x y z := fun H0 H ex v w kv kw Q q => .inr (h H0 H ex v w kv kw Q q)
theorem o_neg {i : Int} : Op1 K (rU fun i => .int (-i)) (.int i) (.int (-i)) := fun H0 H ex v kv Q q => by
  cases kv
  exact ⟨i, rfl, here ex (.int _) q⟩
def isNone : PyData → Bool
  | .none => true
  | _ => false
theorem isNone_v {H0 : Hp} {v : V} {x : PyData} (k : Dp K H0 v x) : decide (v = .non) = isNone x := by cases k <;> rfl
theorem o_isN {x : PyData} : Op2 K (fun x y H Q => y = .non ∧ Q (.bl (decide (x = .non))) H) x .none (.bool (isNone x)) := fun H0 H ex v w kv kw Q q => by
  cases kw
  refine ⟨rfl, ?_⟩
  rw [isNone_v kv]
  exact here ex (.bl _) q
theorem o_notN {x : PyData} : Op2 K (fun x y H Q => y = .non ∧ Q (.bl (!decide (x = .non))) H) x .none (.bool (!isNone x)) := fun H0 H ex v w kv kw Q q => by
  cases kw
  refine ⟨rfl, ?_⟩
  rw [isNone_v kv]
  exact here ex (.bl _) q
/-- flat data -/
def flatD : PyData → Bool
  | .none => true
  | .bool _ => true
  | .int _ => true
  | .str _ => true
  | _ => false
theorem flat_v {H0 : Hp} {v : V} {x : PyData} (k : Dp K H0 v x) (h : flatD x = true) : flatV v = true := by
  cases k <;> first | rfl | cases h
theorem eqV_v {H0 : Hp} {v w : V} {x y : PyData} (k : Dp K H0 v x) (l : Dp K H0 w y) (h : flatD x = true) (h' : flatD y = true) : eqV v w = PyData.eqv x y := by
  cases k <;> cases l <;> first
    | (simp only [eqV, PyData.eqv]; done)
    | rfl
    | (exact absurd h Bool.false_ne_true)
    | (exact absurd h' Bool.false_ne_true)
theorem inV_v {H0 : Hp} {v : V} {x : PyData} (k : Dp K H0 v x) (h : flatD x = true) : ∀ {ws : List V} {ds : List PyData}, DpAll K H0 ws ds → ds.all flatD = true → ws.all flatV = true ∧ inV v ws = ds.any fun z => PyData.eqv z x
  | _, _, .nil, _ => ⟨rfl, rfl⟩
  | _, _, .cons a t, ha => by
    rw [List.all_cons, Bool.and_eq_true] at ha
    obtain ⟨h1, h2⟩ := inV_v k h t ha.2
    refine ⟨by rw [List.all_cons, flat_v a ha.1, h1]; rfl, ?_⟩
    show (_ :: _).any _ = _
    rw [List.any_cons, List.any_cons, eqV_v a k ha.1 h]
    congr 1
theorem o_in {x : PyData} {ds : List PyData} (h : flatD x = true) (ha : ds.all flatD = true) : Op2 K (rIn K false) x (.tuple ds) (.bool (ds.any fun z => PyData.eqv z x)) := fun H0 H ex v w kv kw Q q => by
  cases kw with
  | tup hs hd =>
    obtain ⟨h1, h2⟩ := inV_v kv h hd ha
    refine ⟨_, _, rfl, .inr (Evl.ex_t ex hs), flat_v kv h, h1, ?_⟩
    rw [if_neg Bool.false_ne_true, h2]
    exact here ex (.bl _) q
theorem o_inL {x : PyData} {ds : List PyData} (h : SeqAt.shaped x = true) (h' : SeqAt.shaped (.list ds) = true) : Op2 K (rInD K) x (.list ds) (.bool (ds.any fun z => PyData.eqv z x)) := fun H0 H ex v w kv kw Q q =>
  ⟨x, ds, dp_mono ex kv, dp_mono ex kw, h, h', here ex (.bl _) q⟩
theorem o_ixT {ds : List PyData} {i : Int} {j : Nat} {d : PyData} (e : i = (j : Int)) (h : ds[j]? = some d) : Op2 K (rIx K) (.tuple ds) (.int i) d := fun H0 H ex v w kv kw Q q => by
  cases kw
  cases kv with
  | tup hs hd =>
    obtain ⟨v, hv, k⟩ := dpAll_get' hd h
    exact .inr (.inl ⟨_, _, _, v, rfl, rfl, Evl.ex_t ex hs, at_of e hv, here ex k q⟩)
theorem o_ixL {ds : List PyData} {i : Int} {j : Nat} {d : PyData} (e : i = (j : Int)) (h : ds[j]? = some d) : Op2 K (rIx K) (.list ds) (.int i) d := fun H0 H ex v w kv kw Q q => by
  cases kw
  cases kv with
  | lst hs hd =>
    obtain ⟨v, hv, k⟩ := dpAll_get' hd h
    exact .inl ⟨_, _, _, v, rfl, rfl, Evl.ex_l ex hs, at_of e hv, here ex k q⟩
theorem dpAll_nil {H0 : Hp} {ds : List PyData} (h : DpAll K H0 [] ds) : ds = [] := by cases h; rfl
theorem dpAll_nil' {H0 : Hp} {vs : List V} (h : DpAll K H0 vs []) : vs = [] := by cases h; rfl
theorem o_cat {xs ys : List PyData} (hl : xs.length + ys.length ≤ 1000) : Op2 K (rCatA K) (.tuple xs) (.tuple ys) (.tuple (xs ++ ys)) := fun H0 H ex v w kv kw Q q => by
  cases kv with
  | tup hs hd =>
    cases kw with
    | tup hs' hd' =>
      refine ⟨_, _, _, _, rfl, rfl, Evl.ex_t ex hs, Evl.ex_t ex hs', Nat.le_of_lt (small1000 (by rw [dpAll_len hd, dpAll_len hd']; exact hl)), fun e => ?_, fun e e' => ?_, fun e e' p hp => newT ex hp (dpAll_app hd hd') q⟩
      · subst e
        rw [dpAll_nil hd] at q
        exact here ex (.tup hs' hd') q
      · subst e'
        rw [dpAll_nil hd', List.append_nil] at q
        exact here ex (.tup hs hd) q
theorem dpAll_rep {H0 : Hp} {vs : List V} {ds : List PyData} (h : DpAll K H0 vs ds) : ∀ n : Nat, DpAll K H0 (List.replicate n vs).flatten (List.replicate n ds).flatten
  | 0 => .nil
  | n + 1 => by
    rw [List.replicate_succ, List.replicate_succ, List.flatten_cons, List.flatten_cons]
    exact dpAll_app h (dpAll_rep h n)
theorem o_rep {xs : List PyData} {k : Int} (hx : xs ≠ []) (h2 : 2 ≤ k) (h3 : k ≤ 1000) (hl : xs.length ≤ 1000) : Op2 K (rRepT K) (.tuple xs) (.int k) (.tuple (List.replicate k.toNat xs).flatten) := fun H0 H ex v w kv kw Q q => by
  cases kw
  cases kv with
  | tup hs hd =>
    refine ⟨_, k, _, rfl, rfl, Evl.ex_t ex hs, ?_, h2, h3, by rw [dpAll_len hd]; exact hl, fun p hp => newT ex hp (dpAll_rep hd _) q⟩
    rintro rfl
    exact hx (dpAll_nil hd)

/-! ### slices -/
theorem eo_none : EvO K tNoPart es m none m := fun σ H H0 ρ w e Q q => q H H0 .refl w
theorem eo_some {i : Int} (h : EvE K te es m (.d (.int i)) m1) : EvO K (tPart te) es m (some i) m1 := fun σ H H0 ρ w e Q q =>
  h σ H H0 ρ w e _ fun u H' H0' s' w' ku => by
    cases ku
    exact ⟨i, rfl, q H' H0' s' w'⟩
def cutD (xs : List PyData) (lo hi : Option Int) : List PyData := (xs.drop (HT.sIx xs.length 0 lo)).take (HT.sIx xs.length xs.length hi - HT.sIx xs.length 0 lo)
theorem dpAll_drop {H0 : Hp} : ∀ {vs : List V} {ds : List PyData} (n : Nat), DpAll K H0 vs ds → DpAll K H0 (vs.drop n) (ds.drop n)
  | _, _, 0, h => h
  | _, _, n + 1, .nil => .nil
  | _, _, n + 1, .cons _ t => dpAll_drop n t
theorem dpAll_take {H0 : Hp} : ∀ {vs : List V} {ds : List PyData} (n : Nat), DpAll K H0 vs ds → DpAll K H0 (vs.take n) (ds.take n)
  | _, _, 0, h => .nil
  | _, _, n + 1, .nil => .nil
  | _, _, n + 1, .cons a t => .cons a (dpAll_take n t)
theorem ev_sl {xs : List PyData} {lo hi : Option Int} {tl th : TO} (h : EvE K te es m (.d (.tuple xs)) m1) (hl : EvO K tl es m1 lo m2) (hh : EvO K th es m2 hi m3) : EvE K (tSl (rSlA K) te tl th) es m (.d (.tuple (cutD xs lo hi))) m3 := fun σ H H0 ρ w e Q q =>
  h σ H H0 ρ w e _ fun v H1 H01 s1 w1 k1 => hl σ H1 H01 ρ w1 (e.mono s1.ex) _ fun H2 H02 s2 w2 => hh σ H2 H02 ρ w2 (e.mono (s1.ex.trans s2.ex)) _ fun H3 H03 s3 w3 => by
    have s4 := (s1.trans w1.nd s2).trans w2.nd s3
    cases dp_mono (s2.ex.trans s3.ex) k1 with
    | @tup _ vs _ hs hd =>
      have hl := dpAll_len hd
      refine ⟨_, _, rfl, Evl.ex_t w3.ex hs, fun hw => ?_, fun hw p hp => ?_⟩
      · have e : cutD xs lo hi = xs := by
          unfold cutD
          rw [← hl, hw.1, hw.2, Nat.sub_zero, List.drop_zero, hl, List.take_length]
        rw [e] at q
        exact q _ H3 H03 s4 w3 (.tup hs hd)
      · have hc : DpAll K H03 (cutV vs lo hi) (cutD xs lo hi) := by
          unfold cutV cutD
          rw [hl]
          exact dpAll_take _ (dpAll_drop _ hd)
        obtain ⟨w5, s5⟩ := w3.new (n := ρ.length) (o := .tup (cutV vs lo hi)) hp
        exact q _ _ _ (s4.trans w3.nd s5) w5 (.tup (.inl (.inl upd_same)) (dpAll_mono s5.ex hc))

/-! ### built-in calls by data -/
def lenD : PyData → Option Nat
  | .list xs => some xs.length
  | .tuple xs => some xs.length
  | .str x => if x.length ≤ 1000000 then some x.length else none
  | _ => none
theorem c_len {x : PyData} {n : Nat} (h : lenD x = some n) : OpC K (fun xs H Q => ∃ x n, xs = [x] ∧ LenV K x H n ∧ Q (.int n) H) [.d x] (.int n) := fun H0 H ρ ex vs k Q q => by
  cases k with
  | cons a t =>
    cases t
    refine ⟨_, n, rfl, ?_, here ex (.int _) q⟩
    cases a with
    | lst hs hd =>
      cases h
      exact .inl ⟨_, Evl.ex_l ex hs, (dpAll_len hd).symm⟩
    | tup hs hd =>
      cases h
      exact .inr ⟨_, Evl.ex_t ex hs, (dpAll_len hd).symm⟩
    | str x =>
      have h' : (if x.length ≤ 1000000 then some x.length else none) = some n := h
      split at h'
      · cases h'
        exact ⟨Nat.le_trans (by assumption) (by decide), rfl⟩
      · cases h'
    | non => cases h
    | bl _ => cases h
    | int _ => cases h
/-- the type of data -/
def tyD : PyData → String
  | .none => "NoneType"
  | .bool _ => "bool"
  | .int _ => "int"
  | .str _ => "str"
  | .list _ => "list"
  | .tuple _ => "tuple"
  | .dict _ => "dict"
theorem tyX_v {H0 H : Hp} (ex : Evl.Ex H0 H) {v : V} {x : PyData} (k : Dp K H0 v x) : TyX K H v (.type (tyD x)) := by
  cases k with
  | non => exact .base .non
  | bl b => exact .base (.bl b)
  | int i => exact .base (.int i)
  | str x => exact .base (.str x)
  | lst hs _ =>
    rcases Evl.ex_l ex hs with (h | ⟨o, h⟩) | ⟨o, its, n, h, c, _⟩
    · exact .base (.lst h)
    · exact .base (.frz h)
    · exact .kList h c
  | tup hs _ =>
    rcases Evl.ex_t ex hs with (h | ⟨o, h⟩) | ⟨o, its, n, h, c, _⟩
    · exact .base (.tup h)
    · exact .fTuple h
    · exact .kTuple h c
theorem c_isi {x : PyData} {T : String} {b : Bool} (h : kitB (tyD x) T = some b) : OpC K (rIsi K) [.d x, .v (.ty T)] (.bool b) := fun H0 H ρ ex vs k Q q => by
  cases k with
  | cons a t =>
    cases t with
    | cons a2 t2 =>
      cases t2
      cases a2
      exact ⟨_, _, _, _, b, rfl, .ty T, tyX_v ex a, kit_ty h, here ex (.bl b) q⟩
def isTup : PyData → Bool
  | .tuple _ => true
  | _ => false
def isInt : PyData → Bool
  | .int _ => true
  | .bool _ => true
  | _ => false
def isBool : PyData → Bool
  | .bool _ => true
  | _ => false
def isStr : PyData → Bool
  | .str _ => true
  | _ => false
theorem kit_tup (x : PyData) (h : tyD x ≠ "dict") : kitB (tyD x) "tuple" = some (isTup x) := by
  cases x with
  | none => exact (by decide +kernel : kitB "NoneType" "tuple" = some false)
  | bool _ => exact (by decide +kernel : kitB "bool" "tuple" = some false)
  | int _ => exact (by decide +kernel : kitB "int" "tuple" = some false)
  | str _ => exact (by decide +kernel : kitB "str" "tuple" = some false)
  | list _ => exact (by decide +kernel : kitB "list" "tuple" = some false)
  | tuple _ => exact (by decide +kernel : kitB "tuple" "tuple" = some true)
  | dict _ => exact absurd rfl h
theorem kit_int (x : PyData) (h : tyD x ≠ "dict") : kitB (tyD x) "int" = some (isInt x) := by
  cases x with
  | none => exact (by decide +kernel : kitB "NoneType" "int" = some false)
  | bool _ => exact (by decide +kernel : kitB "bool" "int" = some true)
  | int _ => exact (by decide +kernel : kitB "int" "int" = some true)
  | str _ => exact (by decide +kernel : kitB "str" "int" = some false)
  | list _ => exact (by decide +kernel : kitB "list" "int" = some false)
  | tuple _ => exact (by decide +kernel : kitB "tuple" "int" = some false)
  | dict _ => exact absurd rfl h
theorem kit_bool (x : PyData) (h : tyD x ≠ "dict") : kitB (tyD x) "bool" = some (isBool x) := by
  cases x with
  | none => exact (by decide +kernel : kitB "NoneType" "bool" = some false)
  | bool _ => exact (by decide +kernel : kitB "bool" "bool" = some true)
  | int _ => exact (by decide +kernel : kitB "int" "bool" = some false)
  | str _ => exact (by decide +kernel : kitB "str" "bool" = some false)
  | list _ => exact (by decide +kernel : kitB "list" "bool" = some false)
  | tuple _ => exact (by decide +kernel : kitB "tuple" "bool" = some false)
  | dict _ => exact absurd rfl h
theorem kit_str (x : PyData) (h : tyD x ≠ "dict") : kitB (tyD x) "str" = some (isStr x) := by
  cases x with
  | none => exact (by decide +kernel : kitB "NoneType" "str" = some false)
  | bool _ => exact (by decide +kernel : kitB "bool" "str" = some false)
  | int _ => exact (by decide +kernel : kitB "int" "str" = some false)
  | str _ => exact (by decide +kernel : kitB "str" "str" = some true)
  | list _ => exact (by decide +kernel : kitB "list" "str" = some false)
  | tuple _ => exact (by decide +kernel : kitB "tuple" "str" = some false)
  | dict _ => exact absurd rfl h
theorem dp_nodict {H0 : Hp} {v : V} {x : PyData} (k : Dp K H0 v x) : tyD x ≠ "dict" := by
  cases k <;> first
    | exact (by decide : "NoneType" ≠ "dict")
    | exact (by decide : "bool" ≠ "dict")
    | exact (by decide : "int" ≠ "dict")
    | exact (by decide : "str" ≠ "dict")
    | exact (by decide : "list" ≠ "dict")
    | exact (by decide : "tuple" ≠ "dict")
theorem c_isi' {x : PyData} {T : String} {f : PyData → Bool} (h : ∀ x, tyD x ≠ "dict" → kitB (tyD x) T = some (f x)) : OpC K (rIsi K) [.d x, .v (.ty T)] (.bool (f x)) := fun H0 H ρ ex vs k Q q => by
  have hx : tyD x ≠ "dict" := by
    cases k with
    | cons a t => exact dp_nodict a
  exact c_isi (h x hx) H0 H ρ ex vs k Q q
theorem c_tup {x : PyData} : OpC K (rIsi K) [.d x, .v (.ty "tuple")] (.bool (isTup x)) := c_isi' kit_tup
theorem c_int {x : PyData} : OpC K (rIsi K) [.d x, .v (.ty "int")] (.bool (isInt x)) := c_isi' kit_int
theorem c_bool {x : PyData} : OpC K (rIsi K) [.d x, .v (.ty "bool")] (.bool (isBool x)) := c_isi' kit_bool
theorem c_str {x : PyData} : OpC K (rIsi K) [.d x, .v (.ty "str")] (.bool (isStr x)) := c_isi' kit_str
theorem dpAll_bools {H0 : Hp} : ∀ {bs : List Bool} {vs : List V}, DpAll K H0 vs (bs.map .bool) → vs = bs.map V.bl
  | [], _, h => by cases h; rfl
  | b :: bs, _, h => by
    cases h with
    | cons a t =>
      cases a
      rw [dpAll_bools t]
      rfl
theorem dpAll_ints {H0 : Hp} : ∀ {ns : List Int} {vs : List V}, DpAll K H0 vs (ns.map .int) → vs = ns.map V.int
  | [], _, h => by cases h; rfl
  | b :: bs, _, h => by
    cases h with
    | cons a t =>
      cases a
      rw [dpAll_ints t]
      rfl
theorem c_all {bs : List Bool} : OpC K (rAll K) [.d (.list (bs.map .bool))] (.bool (bs.all id)) := fun H0 H ρ ex vs k Q q => by
  cases k with
  | cons a t =>
    cases t
    cases a with
    | lst hs hd =>
      rw [dpAll_bools hd] at hs
      exact ⟨_, bs, rfl, Evl.ex_l ex hs, here ex (.bl _) q⟩
theorem c_any {bs : List Bool} : OpC K (rAny K) [.d (.list (bs.map .bool))] (.bool (bs.any id)) := fun H0 H ρ ex vs k Q q => by
  cases k with
  | cons a t =>
    cases t
    cases a with
    | lst hs hd =>
      rw [dpAll_bools hd] at hs
      exact ⟨_, bs, rfl, Evl.ex_l ex hs, here ex (.bl _) q⟩
theorem c_sum {ns : List Int} : OpC K (rSum K) [.d (.list (ns.map .int))] (.int ns.sum) := fun H0 H ρ ex vs k Q q => by
  cases k with
  | cons a t =>
    cases t
    cases a with
    | lst hs hd =>
      rw [dpAll_ints hd] at hs
      exact ⟨_, ns, rfl, Evl.ex_l ex hs, here ex (.int _) q⟩
theorem c_max2 {i j : Int} : OpC K (fun xs H Q => ∃ i j, xs = [.int i, .int j] ∧ Q (.int (if j > i then j else i)) H) [.d (.int i), .d (.int j)] (.int (if j > i then j else i)) := fun H0 H ρ ex vs k Q q => by
  cases k with
  | cons a t =>
    cases a
    cases t with
    | cons a t =>
      cases a
      cases t
      exact ⟨i, j, rfl, here ex (.int _) q⟩
theorem c_min2 {i j : Int} : OpC K (fun xs H Q => ∃ i j, xs = [.int i, .int j] ∧ Q (.int (if j < i then j else i)) H) [.d (.int i), .d (.int j)] (.int (if j < i then j else i)) := fun H0 H ρ ex vs k Q q => by
  cases k with
  | cons a t =>
    cases a
    cases t with
    | cons a t =>
      cases a
      cases t
      exact ⟨i, j, rfl, here ex (.int _) q⟩
theorem c_tupL {ds : List PyData} : OpC K (fun xs H Q => ∃ p ys, xs = [.ref p] ∧ ((SqL K H p ys ∧ ∀ l, H l = none → Q (.ref l) (upd H l (.tup ys))) ∨ (SqT K H p ys ∧ Q (.ref p) H))) [.d (.list ds)] (.tuple ds) := fun H0 H ρ ex vs k Q q => by
  cases k with
  | cons a t =>
    cases t
    cases a with
    | lst hs hd => exact ⟨_, _, rfl, .inl ⟨Evl.ex_l ex hs, fun l hl => newT ex hl hd q⟩⟩
theorem c_tupT {ds : List PyData} : OpC K (fun xs H Q => ∃ p ys, xs = [.ref p] ∧ ((SqL K H p ys ∧ ∀ l, H l = none → Q (.ref l) (upd H l (.tup ys))) ∨ (SqT K H p ys ∧ Q (.ref p) H))) [.d (.tuple ds)] (.tuple ds) := fun H0 H ρ ex vs k Q q => by
  cases k with
  | cons a t =>
    cases t
    cases a with
    | tup hs hd => exact ⟨_, _, rfl, .inr ⟨Evl.ex_t ex hs, here ex (.tup hs hd) q⟩⟩
theorem c_listT {ds : List PyData} : OpC K (fun xs H Q => ∃ p ys, xs = [.ref p] ∧ (SqL K H p ys ∨ SqT K H p ys) ∧ ∀ l, H l = none → Q (.ref l) (upd H l (.lst ys))) [.d (.tuple ds)] (.list ds) := fun H0 H ρ ex vs k Q q => by
  cases k with
  | cons a t =>
    cases t
    cases a with
    | tup hs hd => exact ⟨_, _, rfl, .inr (Evl.ex_t ex hs), fun l hl => newL ex hl hd q⟩
/-- a constant of the written part -/
theorem dp_strs {a : Addr} {o : Obj} {its : Array Value} {n : Nat} {ss : List Str} (l : K.lookup a = some o) (c : o.cls = .type "tuple") (d : o.data = .seq its n) (z : its.size ≤ sizeLine) (v : Vals (ss.map V.str) its.toList) : ∀ H, Dp K H (.ref a) (.tuple (ss.map .str)) := fun H =>
  .tup (.inr ⟨o, its, n, l, c, d, z, v⟩) (by
    clear v
    induction ss with
    | nil => exact .nil
    | cons s ss ih => exact .cons (.str s) ih)

/-! ### cells -/
theorem ea1 {i : Nat} (h : es[i]? = some r) (hn : r ≠ .no) : EvE K (tVar i) es m r m := ev_var h hn
theorem cell_get {H0 H : Hp} {ρ : List Addr} {j : Nat} {p : Addr} {ds : List PyData} (w : Wd K H0 H ρ m) (h : ρ[j]? = some p) (hm : m[j]? = some ds) : ∃ vs, H p = some (.lst vs) ∧ DpAll K H0 vs ds := (w.cel j p ds h hm).2
theorem cell_put {n : Nat} {H0 H : Hp} {ρ : List Addr} {j : Nat} {p : Addr} {ds : List PyData} {vs : List V} (w : Wd K H0 H ρ m) (h : ρ[j]? = some p) (k : DpAll K H0 vs ds) : Wd K H0 (upd H p (.lst vs)) ρ (m.set j ds) ∧ Stp n ρ H0 H ρ H0 (upd H p (.lst vs)) := by
  have hj := (List.getElem?_eq_some_iff.mp h).1
  have hj2 : j < m.length := by rw [← w.len]; exact hj
  have h0 : H0 p = none := (w.cel j p (m[j]'hj2) h (List.getElem?_eq_getElem hj2)).1
  refine ⟨⟨Evl.Ex.mut w.ex h0, by rw [List.length_set]; exact w.len, w.nd, fun i q es a b => ?_, tabs_mut w.tab (.inr (let ⟨vs, e, _⟩ := cell_get w h (List.getElem?_eq_getElem hj2); ⟨vs, e⟩)), w.nT⟩, ⟨Evl.Ex.refl _, fun b o hb hn _ => ?_, fun b hb => ?_, fun b o hb => .inl hb, rfl, fun b hb => .inl hb⟩⟩
  · by_cases hi : j = i
    · subst hi
      rw [List.getElem?_set_self (by rw [← w.len]; exact hj)] at b
      cases b
      rw [h] at a
      cases a
      exact ⟨h0, vs, upd_same, k⟩
    · rw [List.getElem?_set_ne hi] at b
      obtain ⟨y1, ws, y2, y3⟩ := w.cel i q es a b
      refine ⟨y1, ws, ?_, y3⟩
      rw [upd_ne]
      · exact y2
      · rintro rfl
        exact hi (nd_ix w.nd h a)
  · rw [upd_ne]
    · exact hb
    · rintro rfl
      exact hn (List.mem_of_getElem? h)
  · by_cases e : b = p
    · subst e
      rw [upd_same] at hb
      cases hb
    · rw [upd_ne e] at hb
      exact hb
/-- xs.append(e) -/
theorem sv_append {n i j : Nat} {x : PyData} {ds : List PyData} (hi : es[i]? = some (.c j)) (h : EvE K te es m (.d x) m1) (hm : m1[j]? = some ds) (hm0 : ∃ d0, m[j]? = some d0) (hl : ds.length < 1000) : Sv K n (tDrop (tBM K "list" rAppend (tVar i) (tCons te tNil))) es m (.nx es (m1.set j (ds ++ [x]))) := fun σ H H0 ρ hn w e D q => by
  rcases e.2 i _ hi with z | ⟨v, h1, p, rfl, h2⟩
  · cases z
  · obtain ⟨d0, hm0⟩ := hm0
    obtain ⟨vs0, g0, _⟩ := cell_get w h2 hm0
    refine ⟨_, h1, .inl ⟨rfl, vs0, .inl (.inl g0)⟩, h σ H H0 ρ w e _ fun v H1 H01 s1 w1 k1 => ?_⟩
    obtain ⟨vs, g1, g2⟩ := cell_get w1 h2 hm
    obtain ⟨w2, s2⟩ := cell_put (n := n) w1 h2 (dpAll_app g2 (.cons k1 .nil))
    exact ⟨p, vs, v, rfl, rfl, g1, small1000 (by rw [dpAll_len g2]; omega), q σ ρ _ _ (s1.low.trans w1.nd s2) w2 (e.mono s1.ex)⟩
/-- xs.extend(e), e a list that was just made -/
theorem sv_extend {n i j : Nat} {ys ds : List PyData} (hi : es[i]? = some (.c j)) (h : EvL K te es m ys m1) (hm : m1[j]? = some ds) (hm0 : ∃ d0, m[j]? = some d0) (hl : ds.length + ys.length < 1000) : Sv K n (tDrop (tBM K "list" rExtend (tVar i) (tCons te tNil))) es m (.nx es (m1.set j (ds ++ ys))) := fun σ H H0 ρ hn w e D q => by
  rcases e.2 i _ hi with z | ⟨v, h1, p, rfl, h2⟩
  · cases z
  · obtain ⟨d0, hm0⟩ := hm0
    obtain ⟨vs0, g0, _⟩ := cell_get w h2 hm0
    refine ⟨_, h1, .inl ⟨rfl, vs0, .inl (.inl g0)⟩, h σ H H0 ρ w e _ fun b us H1 H01 s1 w1 hb hb0 hbρ e1 k1 => ?_⟩
    obtain ⟨vs, g1, g2⟩ := cell_get w1 h2 hm
    obtain ⟨w2, s2⟩ := cell_put (n := n) w1 h2 (dpAll_app g2 k1)
    exact ⟨p, b, vs, us, rfl, rfl, g1, e1, Nat.le_of_lt (small1000 (by rw [dpAll_len g2, dpAll_len k1]; omega)), q σ ρ _ _ (s1.low.trans w1.nd s2) w2 (e.mono s1.ex)⟩
/-- the item of a cell -/
theorem ev_cix {i j l : Nat} {k : Int} {ds : List PyData} {d : PyData} (hi : es[i]? = some (.c j)) (hm : m[j]? = some ds) (hk : k = (l : Int)) (h : ds[l]? = some d) : EvE K (tOp (rIx K) (tVar i) (tC (.int k))) es m (.d d) m := fun σ H H0 ρ w e Q q => by
  rcases e.2 i _ hi with z | ⟨v, h1, p, rfl, h2⟩
  · cases z
  · obtain ⟨vs, g1, g2⟩ := cell_get w h2 hm
    obtain ⟨v, hv, kv⟩ := dpAll_get' g2 h
    exact ⟨_, h1, .inl ⟨_, _, _, v, rfl, rfl, .inl (.inl g1), at_of hk hv, q v H H0 .refl w kv⟩⟩
theorem dpAll_set {H0 : Hp} {v : V} {x : PyData} : ∀ {vs : List V} {ds : List PyData} {l : Nat}, DpAll K H0 vs ds → Dp K H0 v x → DpAll K H0 (vs.set l v) (ds.set l x)
  | _, _, _, .nil, _ => .nil
  | _, _, 0, .cons _ t, k => .cons k t
  | _, _, l + 1, .cons a t, k => .cons a (dpAll_set (l := l) t k)
/-- xs[k] = e -/
theorem sv_store {n i j l : Nat} {k : Int} {x : PyData} {ds : List PyData} (hi : es[i]? = some (.c j)) (h : EvE K te es m (.d x) m1) (hm : m1[j]? = some ds) (hk : k = (l : Int)) (hl : l < ds.length) : Sv K n (tAsg te (gSub (tVar i) (tC (.int k)) rSetL)) es m (.nx es (m1.set j (ds.set l x))) := fun σ H H0 ρ hn w e D q => by
  rcases e.2 i _ hi with z | ⟨v, h1, p, rfl, h2⟩
  · cases z
  · refine h σ H H0 ρ w e _ fun v H1 H01 s1 w1 k1 => ?_
    obtain ⟨vs, g1, g2⟩ := cell_get w1 h2 hm
    have hx : DpAll K H01 (vs.set l v) (ds.set l x) := dpAll_set g2 k1
    obtain ⟨w2, s2⟩ := cell_put (n := n) w1 h2 hx
    refine ⟨_, h1, p, vs, k, l, rfl, rfl, g1, ?_, q σ ρ _ _ (s1.low.trans w1.nd s2) w2 (e.mono s1.ex)⟩
    have hlen := dpAll_len g2
    unfold ixN
    rw [if_pos (by omega), if_pos (by omega), hk]
    rfl
/-- the last cell as data -/
def fzS (j : Nat) (ds : List PyData) : Sl → Sl
  | .c k => if k = j then .d (.list ds) else .c k
  | s => s
theorem sv_freeze {n : Nat} {t : TS} {ds : List PyData} {o : Out} (hn : n ≤ m.length) (h : Sv K n t (es.map (fzS m.length ds)) m o) : Sv K n t es (m ++ [ds]) o := fun σ H H0 ρ hnρ w e D q => by
  have hl : ρ.length = m.length + 1 := by rw [w.len, List.length_append]; rfl
  have hp : ρ[m.length]? = some ρ[m.length] := List.getElem?_eq_getElem (by omega)
  have hm : (m ++ [ds])[m.length]? = some ds := by rw [List.getElem?_append_right (Nat.le_refl _), Nat.sub_self]; rfl
  obtain ⟨h0, vs, g1, g2⟩ := w.cel _ _ _ hp hm
  have hx : Evl.Ex H0 (upd H0 ρ[m.length] (.lst vs)) := Evl.Ex.new h0
  have sub : ∀ (j : Nat) (a : Addr), (ρ.take m.length)[j]? = some a → j < m.length ∧ ρ[j]? = some a := fun j a h => by
    have hj : j < m.length := by
      have := (List.getElem?_eq_some_iff.mp h).1
      rw [List.length_take] at this
      omega
    rw [List.getElem?_take_of_lt hj] at h
    exact ⟨hj, h⟩
  have w2 : Wd K (upd H0 ρ[m.length] (.lst vs)) H (ρ.take m.length) m := by
    refine ⟨fun b o z => ?_, by rw [List.length_take]; omega, w.nd.sublist (List.take_sublist _ _), fun j a es' z1 z2 => ?_, w.tab, fun q hq => by
      rw [upd_ne]
      · exact w.nT q hq
      · obtain ⟨_, z, _⟩ := w.tab q hq
        exact ne_of z g1 (fun z => nomatch z)⟩
    · by_cases eb : b = ρ[m.length]
      · subst eb
        rw [upd_same] at z
        rw [g1]
        exact z
      · rw [upd_ne eb] at z
        exact w.ex b o z
    · obtain ⟨hj, z3⟩ := sub j a z1
      obtain ⟨y1, ws, y2, y3⟩ := w.cel j a es' z3 (by rw [List.getElem?_append_left hj]; exact z2)
      refine ⟨?_, ws, y2, dpAll_mono hx y3⟩
      rw [upd_ne]
      · exact y1
      · rintro rfl
        have := nd_ix w.nd z3 hp
        omega
  have e2 : EnvS K (upd H0 ρ[m.length] (.lst vs)) (ρ.take m.length) σ (es.map (fzS m.length ds)) := by
    refine ⟨by rw [List.length_map]; exact e.1, fun i s z => ?_⟩
    rw [List.getElem?_map] at z
    cases ei : es[i]? with
    | none => rw [ei] at z; cases z
    | some s0 =>
      rw [ei] at z
      have z : s = fzS m.length ds s0 := (Option.some.inj z).symm
      rcases e.2 i s0 ei with y | ⟨v, y1, y2⟩
      · subst y
        exact .inl z
      · refine .inr ⟨v, y1, ?_⟩
        cases s0 with
        | no => rw [z]; trivial
        | d x => rw [z]; exact dp_mono hx y2
        | v x => rw [z]; exact y2
        | c k =>
          obtain ⟨a, a1, a2⟩ := y2
          by_cases hk : k = m.length
          · have e3 : fzS m.length ds (.c k) = .d (.list ds) := if_pos hk
            rw [z, e3, a1]
            subst hk
            rw [hp] at a2
            cases a2
            exact .lst (.inl (.inl upd_same)) (dpAll_mono hx g2)
          · have e3 : fzS m.length ds (.c k) = .c k := if_neg hk
            rw [z, e3]
            refine ⟨a, a1, ?_⟩
            have hk2 := (List.getElem?_eq_some_iff.mp a2).1
            rw [List.getElem?_take_of_lt (by omega)]
            exact a2
  have st : Stp n ρ H0 H (ρ.take m.length) (upd H0 ρ[m.length] (.lst vs)) H := by
    refine ⟨hx, fun b o h _ _ => h, fun b h => h, fun b o z => ?_, ?_, fun b z => .inl (List.mem_of_mem_take z)⟩
    · by_cases eb : b = ρ[m.length]
      · refine .inr (.inr ?_)
        rw [eb]
        refine List.mem_of_getElem? (i := m.length - n) ?_
        rw [List.getElem?_drop, show n + (m.length - n) = m.length by omega]
        exact hp
      · rw [upd_ne eb] at z
        exact .inl z
    · rw [List.take_take, Nat.min_eq_left hn]
  exact h σ H _ _ (by rw [List.length_take]; omega) w2 e2 D (q.step w2.nd st)
end

/-! ### a def by its body -/
theorem start_env {K : PySem.W.Frag} {H0 : Hp} {ρ : List Addr} {N : List Str} {vs : List V} {rs : List Sl} (h : SlAll K H0 ρ vs rs) : EnvS K H0 ρ (L2.start N vs) (rs ++ List.replicate (N.length - rs.length) .no) := by
  have hl := h.length
  refine ⟨by unfold L2.start; simp [hl], fun i s z => ?_⟩
  by_cases hi : i < rs.length
  · rw [List.getElem?_append_left hi] at z
    have key : ∀ {vs : List V} {rs : List Sl} {i : Nat} {s : Sl}, SlAll K H0 ρ vs rs → rs[i]? = some s → ∃ v, vs[i]? = some v ∧ SlOk K H0 ρ v s := by
      intro vs rs i s h
      induction h generalizing i with
      | nil => intro z; simp at z
      | cons a t ih =>
        intro z
        cases i with
        | zero => cases z; exact ⟨_, rfl, a⟩
        | succ i => exact ih z
    obtain ⟨v, h1, h2⟩ := key h z
    refine .inr ⟨v, ?_, h2⟩
    unfold L2.start
    rw [List.getElem?_append_left (by rw [List.length_map, hl]; exact hi), List.getElem?_map, h1]
    rfl
  · rw [List.getElem?_append_right (by omega)] at z
    rw [List.getElem?_replicate] at z
    split at z
    · cases z; exact .inl rfl
    · cases z
def Sl.plain : Sl → Bool
  | .c _ => false
  | _ => true
theorem slOk_plain {K : PySem.W.Frag} {H0 : Hp} {ρ ρ' : List Addr} {v : V} : ∀ {r : Sl}, r.plain = true → SlOk K H0 ρ v r → SlOk K H0 ρ' v r
  | .no, _, _ => trivial
  | .d _, _, h => h
  | .v _, _, h => h
  | .c _, h, _ => by cases h
/-- THE RULE for a def -/
theorem mkDef {P : Program} {w : World} {K : PySem.W.Frag} {mg : Str → Option Value} {base : Heap} {x : Str} {st : Stmt} {N ps : List Str} {n k : Nat} {g : List Sl → M → Sl → M → Prop} (T : DefT K mg x st ps) (S : FnScope N ps (defScope st)) (hn : ps.length = n)
    (hg : ∀ rs m r m', g rs m r m' → m'.length = m.length ∧ r.plain = true)
    (hb : ∀ (f : Addr) (cdv : Value) (A : Around) (outer : List Env) (s : Shared) (H : Hp) (E : XK), Room k (A.deeper (envOfC x (defScope st) s.heap.objs.size f cdv)) →
      ∃ t, PSs (cxOf CX0 P w K mg base N x (defScope st) f cdv A outer s H E).nox (defBody st) t ∧ ∀ rs m r m', rs.length = n → g rs m r m' → Sv K m.length t (rs ++ List.replicate (N.length - rs.length) .no) m (.ret r m')) :
    DefC P w K mg base CX0 (k + 1) x ps (spD K n g) := by
  obtain ⟨f, fd, F, hm, hB⟩ := T.ex
  refine ⟨f, fd, F.ok S (fun vs H Q E h => by rw [hn]; exact h.1) (fun cdv A outer s H vs Q E hr h => ?_), hm, F.kp, hB⟩
  obtain ⟨t, ht, q⟩ := hb f cdv A outer s H E hr
  refine ⟨t, ht, ?_⟩
  obtain ⟨hl, H0, ρ, m, rs, r, m', w', kv, hgr, hq⟩ := h
  obtain ⟨hgl, hgp⟩ := hg rs m r m' hgr
  refine q rs m r m' (by rw [← kv.length]; exact hl) hgr (L2.start N vs) H H0 ρ (by rw [w'.len]; exact Nat.le_refl _) w' (start_env kv) _ fun v ρ' H' H0' ml s' w2 k2 => ?_
  have e : ρ'.take m.length = ρ := by
    rw [s'.pre, ← w'.len, List.take_length]
  refine hq v H' H0' ⟨s'.ex, s'.keep, s'.dom, fun b o z => ?_, rfl, fun b z => .inl z⟩ ?_ (slOk_plain hgp k2)
  · rcases s'.fresh b o z with y | y | y
    · exact .inl y
    · exact .inr (.inl y)
    · rw [← w'.len] at y
      exact .inr (.inr y)
  · have hlen : ρ.length = m'.length := by rw [w'.len, hgl]
    refine ⟨w2.ex, hlen, w'.nd, fun j p ds a b => ?_, w2.tab, w2.nT⟩
    have hj := (List.getElem?_eq_some_iff.mp b).1
    refine w2.cel j p ds ?_ (by rw [List.getElem?_append_left hj]; exact b)
    rw [← e, List.getElem?_take_of_lt (by omega)] at a
    exact a
end DL

set_option Elab.async false
set_option linter.all false
set_option maxRecDepth 100000
namespace DL
variable [Tbs]
open PySem PySem.Spec PyProof.Rows L2

/-! ### operators of any kind -/
section
variable {X : Cx}
theorem op_mulI : OpR X (binaryOp .Mult) (rI IntMulOk fun i j => .int (i * j)) := opI fun _ _ _ _ _ _ _ hc q => mul_int q hc
def rAddU (K : PySem.W.Frag) : R2 := fun x y H Q => rI0 (fun i j => .int (i + j)) x y H Q ∨ rCatA K x y H Q ∨ rCat x y H Q
theorem op_addU : OpR X (binaryOp .Add) (rAddU X.K) := opOr op_add (opOr op_catA op_cat)
def rMulU (K : PySem.W.Frag) : R2 := fun x y H Q => rI IntMulOk (fun i j => .int (i * j)) x y H Q ∨ rRepT K x y H Q
theorem op_mulU : OpR X (binaryOp .Mult) (rMulU X.K) := opOr op_mulI op_repT
def rInU (K : PySem.W.Frag) : R2 := fun x y H Q => rIn K false x y H Q ∨ rInD K x y H Q
theorem op_inU (hu : X.A.units + 65 < cLine) : OpR X (compareOp .In) (rInU X.K) := opOr op_in_seq (op_inD hu)
theorem hu5_of {k : Nat} {A : Around} (r : Room k A) : A.units + 65 < cLine := by have := r.un; omega
def iSeq (K : PySem.W.Frag) (te : TE) : TI := fun σ H R => iTup K te σ H R ∨ iList K te σ H R
theorem pi_seq {tg l : Expr} {tl : TE} (h : PE X l tl) : PI X tg l (iSeq X.K tl) := piOr (pi_tup h) (pi_list h)
end
section
variable {K : PySem.W.Frag}
theorem o_addI {i j : Int} : Op2 K (rAddU K) (.int i) (.int j) (.int (i + j)) := o_orL o_i0
theorem o_addT {xs ys : List PyData} (hl : xs.length + ys.length ≤ 1000) : Op2 K (rAddU K) (.tuple xs) (.tuple ys) (.tuple (xs ++ ys)) := o_orR (o_orL (o_cat hl))
theorem o_mulII {i j : Int} (h : IntMulOk i j) : Op2 K (rMulU K) (.int i) (.int j) (.int (i * j)) := o_orL (o_i h)
theorem o_mulT {xs : List PyData} {k : Int} (hx : xs ≠ []) (h2 : 2 ≤ k) (h3 : k ≤ 1000) (hl : xs.length ≤ 1000) : Op2 K (rMulU K) (.tuple xs) (.int k) (.tuple (List.replicate k.toNat xs).flatten) := o_orR (o_rep hx h2 h3 hl)
theorem o_inT {x : PyData} {ds : List PyData} (h : flatD x = true) (ha : ds.all flatD = true) : Op2 K (rInU K) x (.tuple ds) (.bool (ds.any fun z => PyData.eqv z x)) := o_orL (o_in h ha)
theorem o_inLL {x : PyData} {ds : List PyData} (h : SeqAt.shaped x = true) (h' : SeqAt.shaped (.list ds) = true) : Op2 K (rInU K) x (.list ds) (.bool (ds.any fun z => PyData.eqv z x)) := o_orR (o_inL h h')
variable {te ta tb tc : TE} {tt tu : TT} {es : List Sl} {m m1 m2 m3 : M}
theorem ei_seqT {ds : List PyData} (h : EvE K te es m (.d (.tuple ds)) m1) : EvI K (iSeq K te) es m ds m1 := ei_orL (ei_tup h)
theorem ei_seqL {ds : List PyData} (h : EvE K te es m (.d (.list ds)) m1) : EvI K (iSeq K te) es m ds m1 := ei_orR (ei_list h)

/-! ### lists made item by item -/
theorem lcMap {i : Nat} {vs : List Nat} {esw : List Sl} {f : PyData → PyData} (hi : i ∈ vs) : ∀ {ds : List PyData}, (∀ d, d ∈ ds → EvE K te (esw.set i (.d d)) m (.d (f d)) m) → LcR K (gName i) tYes te esw vs ds m (ds.map f) m
  | [], _ => .nil
  | d :: ds, h => .yes gv_name (fun j hj => by rw [List.mem_singleton.mp hj]; exact hi) eb_yes (h d List.mem_cons_self) (lcMap hi fun d hd => h d (List.mem_cons_of_mem _ hd))
/-- all([p(x) for x in xs]) -/
theorem ev_all {wi : TI} {i : Nat} {ds : List PyData} {p : PyData → Bool} (hi : EvI K wi es m ds m) (hl : ds.length ≤ 1000) (h : ∀ d, d ∈ ds → EvE K te ((wipeS es [i]).set i (.d d)) m (.d (.bool (p d))) m) :
    EvE K (tCB (rAll K) (tCons (tLc wi (gName i) tYes te [i]) tNil)) es m (.d (.bool (ds.all p))) m := by
  have h1 : LcR K (gName i) tYes te (wipeS es [i]) [i] ds m (ds.map fun d => .bool (p d)) m := lcMap (by simp) h
  have h2 := el_d (el_lc hi h1 hl)
  have e : (ds.map fun d => PyData.bool (p d)) = (ds.map p).map .bool := by rw [List.map_map]; rfl
  rw [e] at h2
  have h3 := ev_cb (ea_cons h2 ea_nil) (c_all (K := K))
  have e2 : (ds.map p).all id = ds.all p := by rw [List.all_map]; rfl
  rw [e2] at h3
  exact h3

/-! ### pure defs -/
def pureG (P : List PyData → PyData → Prop) : List Sl → M → Sl → M → Prop := fun rs m r m' => ∃ ds y, rs = ds.map .d ∧ P ds y ∧ r = .d y ∧ m' = m
theorem pureG_ok {P : List PyData → PyData → Prop} : ∀ rs m r m', pureG P rs m r m' → m'.length = m.length ∧ r.plain = true := by
  rintro rs m r m' ⟨ds, y, _, _, rfl, rfl⟩
  exact ⟨rfl, rfl⟩
theorem ev_pure {n : Nat} {P : List PyData → PyData → Prop} {E : XK} {t : TA} {rs : List Sl} {ds : List PyData} {y : PyData} (h : EvA K t es m rs m1) (e : rs = ds.map .d) (hp : P ds y) (hn : ds.length = n) : EvE K (tCall (spD K n (pureG P)) [] E t) es m (.d y) m1 :=
  ev_call h ⟨ds, y, e, hp, rfl, rfl⟩ (by rw [e, List.length_map]; exact hn)
end
abbrev PureC (P : Program) (w : World) (K : PySem.W.Frag) (mg : Str → Option Value) (base : Heap) (k : Nat) (x : Str) (ps : List Str) (R : List PyData → PyData → Prop) : Prop := DefC P w K mg base CX0 k x ps (spD K ps.length (pureG R))
theorem mkPure {P : Program} {w : World} {K : PySem.W.Frag} {mg : Str → Option Value} {base : Heap} {x : Str} {st : Stmt} {N ps : List Str} {k : Nat} {R : List PyData → PyData → Prop} (T : DefT K mg x st ps) (S : FnScope N ps (defScope st))
    (hb : ∀ (f : Addr) (cdv : Value) (A : Around) (outer : List Env) (s : Shared) (H : Hp) (E : XK), Room k (A.deeper (envOfC x (defScope st) s.heap.objs.size f cdv)) →
      ∃ t, PSs (cxOf CX0 P w K mg base N x (defScope st) f cdv A outer s H E).nox (defBody st) t ∧ ∀ ds m y, ds.length = ps.length → R ds y → Sv K m.length t (ds.map .d ++ List.replicate (N.length - ds.length) .no) m (.ret (.d y) m)) :
    PureC P w K mg base (k + 1) x ps R := by
  refine mkDef T S rfl pureG_ok fun f cdv A outer s H E hr => ?_
  obtain ⟨t, h1, h2⟩ := hb f cdv A outer s H E hr
  refine ⟨t, h1, ?_⟩
  rintro rs m r m' hl ⟨ds, y, rfl, hp, rfl, rfl⟩
  rw [List.length_map] at hl ⊢
  exact h2 ds m' y hl hp
/-- a def that is not called -/
theorem never {P : Program} {w : World} {K : PySem.W.Frag} {mg : Str → Option Value} {base : Heap} {x : Str} {st : Stmt} {N ps : List Str} {n : Nat} (T : DefT K mg x st ps) : DefC P w K mg base CX0 0 x ps (spD K n fun _ _ _ _ => False) := by
  obtain ⟨f, fd, F, hm, hB⟩ := T.ex
  refine ⟨f, fd, ⟨fun vs H Q E h => ?_, fun A outer s H args us vs Q E hr he hb hv h => ?_⟩, hm, F.kp, hB⟩
  · obtain ⟨_, _, _, _, _, _, _, _, _, h, _⟩ := h
    exact h.elim
  · obtain ⟨_, _, _, _, _, _, _, _, _, h, _⟩ := h
    exact h.elim

/-! ### defs that hand back a new list -/
section
variable (K : PySem.W.Frag)
def spL (n : Nat) (g : List Sl → M → List PyData → M → Prop) : Sp := fun vs H Q E => vs.length = n ∧ ∃ H0 ρ m rs ds m', Wd K H0 H ρ m ∧ SlAll K H0 ρ vs rs ∧ g rs m ds m' ∧
  ∀ p xs H' H0', Stp ρ.length ρ H0 H ρ H0' H' → Wd K H0' H' ρ m' → H p = none → H0' p = none → p ∉ ρ → H' p = some (.lst xs) → DpAll K H0' xs ds → Q (.ref p) H'
end
theorem el_call {K : PySem.W.Frag} {es : List Sl} {m m1 m2 : M} {n : Nat} {g : List Sl → M → List PyData → M → Prop} {E : XK} {t : TA} {rs : List Sl} {ds : List PyData} (h : EvA K t es m rs m1) (hg : g rs m1 ds m2) (hn : rs.length = n) : EvL K (tCall (spL K n g) [] E t) es m ds m2 := fun σ H H0 ρ w e Q q =>
  h σ H H0 ρ w e _ fun vs H' H0' s' w' kv => by
    rw [List.append_nil]
    exact ⟨by rw [kv.length]; exact hn, H0', ρ, m1, rs, ds, m2, w', kv, hg, fun p xs H2 H02 s2 w2 h1 h2 h3 h4 h5 => q p xs H2 H02 (s'.trans w'.nd s2) w2 (s'.dom p h1) h2 h3 h4 h5⟩
theorem mkDefL {P : Program} {w : World} {K : PySem.W.Frag} {mg : Str → Option Value} {base : Heap} {x : Str} {st : Stmt} {N ps : List Str} {n k : Nat} {g : List Sl → M → List PyData → M → Prop} (T : DefT K mg x st ps) (S : FnScope N ps (defScope st)) (hn : ps.length = n)
    (hg : ∀ rs m ds m', g rs m ds m' → m'.length = m.length)
    (hb : ∀ (f : Addr) (cdv : Value) (A : Around) (outer : List Env) (s : Shared) (H : Hp) (E : XK), Room k (A.deeper (envOfC x (defScope st) s.heap.objs.size f cdv)) →
      ∃ t, PSs (cxOf CX0 P w K mg base N x (defScope st) f cdv A outer s H E).nox (defBody st) t ∧ ∀ rs m ds m', rs.length = n → g rs m ds m' → Sv K m.length t (rs ++ List.replicate (N.length - rs.length) .no) m (.rtc ds m')) :
    DefC P w K mg base CX0 (k + 1) x ps (spL K n g) := by
  obtain ⟨f, fd, F, hm, hB⟩ := T.ex
  refine ⟨f, fd, F.ok S (fun vs H Q E h => by rw [hn]; exact h.1) (fun cdv A outer s H vs Q E hr h => ?_), hm, F.kp, hB⟩
  obtain ⟨t, ht, q⟩ := hb f cdv A outer s H E hr
  refine ⟨t, ht, ?_⟩
  obtain ⟨hl, H0, ρ, m, rs, ds, m', w', kv, hgr, hq⟩ := h
  have hgl := hg rs m ds m' hgr
  refine q rs m ds m' (by rw [← kv.length]; exact hl) hgr (L2.start N vs) H H0 ρ (by rw [w'.len]; exact Nat.le_refl _) w' (start_env kv) _ fun p ρ' H' H0' s' w2 hp => ?_
  have e : ρ'.take m.length = ρ := by
    rw [s'.pre, ← w'.len, List.take_length]
  have hlen : ρ.length = m'.length := by rw [w'.len, hgl]
  obtain ⟨c1, xs, c2, c3⟩ := w2.cel _ p ds hp (by rw [List.getElem?_append_right (Nat.le_refl _), Nat.sub_self]; rfl)
  have hpρ : p ∉ ρ := fun z => by
    rw [← e] at z
    obtain ⟨j, hj, ej⟩ := List.getElem_of_mem z
    have hj' : (ρ'.take m.length)[j]? = some p := by rw [List.getElem?_eq_getElem hj, ej]
    rw [List.length_take] at hj
    rw [List.getElem?_take_of_lt (by omega)] at hj'
    have := nd_ix w2.nd hj' hp
    omega
  have hpH : H p = none := by
    rcases s'.cel p (List.mem_of_getElem? hp) with z | z
    · exact (hpρ z).elim
    · exact z
  refine hq p xs H' H0' ⟨s'.ex, s'.keep, s'.dom, fun b o z => ?_, rfl, fun b z => .inl z⟩ ⟨w2.ex, hlen, w'.nd, fun j p ds a b => ?_, w2.tab, w2.nT⟩ hpH c1 hpρ c2 c3
  · rcases s'.fresh b o z with y | y | y
    · exact .inl y
    · exact .inr (.inl y)
    · rw [← w'.len] at y
      exact .inr (.inr y)
  · have hj := (List.getElem?_eq_some_iff.mp b).1
    refine w2.cel j p ds ?_ (by rw [List.getElem?_append_left hj]; exact b)
    rw [← e, List.getElem?_take_of_lt (by omega)] at a
    exact a
/-- where a def stands behind the top -/
theorem defT_mk {K : PySem.W.Frag} {h : Heap} {mg : Str → Option Value} {f : Addr} {x : Str} {st : Stmt} {ps : List Str} {oc kV doc pm cdv ct : Value} {od an : Option Addr} {osl : Array (Option Value)} (X : K.In h) (G : h.Ns mainGlobals mg)
    (a : PySem.W.nsIn K mainGlobals x = some (some (.ref f))) (l : K.lookup f = some ⟨oc, od, .func (PySem.W.fnOf x x (defArgs st) (defBody st) (defScope st) .none kV doc pm an cdv ct), osl⟩) (c : PySem.W.codeIn K cdv x = true) (k : PySem.W.keepIn K (.ref f) = true)
    (b : ∀ (kV doc pm : Value) (an : Option Addr) (cdv ct : Value) (us : List Value), us.length = ps.length → bindArgs (PySem.W.fnOf x x (defArgs st) (defBody st) (defScope st) .none kV doc pm an cdv ct) ⟨us, []⟩ = pure (ps.zip us)) : DefT K mg x st ps := by
  have F := fun_mk (st := st) l c k
  exact ⟨f, _, F, PySem.W.mg_of X G a, F.binds b⟩
end DL

set_option Elab.async false
set_option linter.all false
set_option maxRecDepth 100000
namespace DL
variable [Tbs]
open PySem PySem.Spec PyProof.Rows L2
section
variable {K : PySem.W.Frag} {te ta tb tc : TE} {tt tu : TT} {es : List Sl} {m m1 m2 m3 : M}
inductive Lc2R (K : PySem.W.Frag) (g : TG) (tt : TT) (wi1 : TI) (g1 : TG) (tt1 : TT) (te : TE) (esw : List Sl) (vs vs1 : List Nat) : List PyData → M → List PyData → M → Prop
  | nil {m : M} : Lc2R K g tt wi1 g1 tt1 te esw vs vs1 [] m [] m
  | yes {d : PyData} {ds : List PyData} {es2 : List Sl} {m m1 m2 m3 m4 : M} {ds1 rs1 rs : List PyData} {is : List Nat} : Gv K g is (.d d) esw es2 → (∀ i, i ∈ is → i ∈ vs) → EvB K tt es2 m true m1 → EvI K wi1 es2 m1 ds1 m2 →
      LcR K g1 tt1 te (wipeS es2 vs1) vs1 ds1 m2 rs1 m3 → Lc2R K g tt wi1 g1 tt1 te esw vs vs1 ds m3 rs m4 → Lc2R K g tt wi1 g1 tt1 te esw vs vs1 (d :: ds) m (rs1 ++ rs) m4
theorem keepD {ρ : List Addr} {H02 H2 H03 H3 : Hp} {D : Addr} {va : List V} (hDρ : D ∉ ρ) (d0 : H02 D = none) (d2 : H2 D = some (.lst va)) (s3 : Stp ρ.length ρ H02 H2 ρ H03 H3) : H03 D = none ∧ H3 D = some (.lst va) := by
  refine ⟨?_, s3.keep D _ d2 hDρ fun ps z => nomatch z⟩
  cases z : H03 D with
  | none => rfl
  | some u =>
    rcases s3.fresh D u z with y | y | y
    · rw [d0] at y; cases y
    · rw [d2] at y; cases y
    · rw [List.drop_length] at y
      exact absurd y (by simp)
theorem el_lc2 {wi wi1 : TI} {g g1 : TG} {tt1 : TT} {vs vs1 : List Nat} {ds rs : List PyData} (hi : EvI K wi es m ds m1) (h : Lc2R K g tt wi1 g1 tt1 te (wipeS es vs) vs vs1 ds m1 rs m2) (hl : rs.length ≤ 1000) : EvL K (tLc2 wi g tt wi1 g1 tt1 te vs vs1) es m rs m2 := fun σ H H0 ρ w e Q q =>
  hi σ H H0 ρ w e _ fun J H1 H01 s1 w1 it => fun D hD => by
    have hD0 : H D = none := s1.dom D hD
    have hDρ : D ∉ ρ := w1.notin hD
    refine ⟨fun i k H2 => k = ds.length - i ∧ i ≤ ds.length ∧ ∃ acc va rs1 m3 H02, rs = acc ++ rs1 ∧ Lc2R K g tt wi1 g1 tt1 te (wipeS es vs) vs vs1 (ds.drop i) m3 rs1 m2 ∧ Stp ρ.length ρ H0 H ρ H02 H2 ∧ Wd K H02 H2 ρ m3 ∧ EnvS K H02 ρ σ es ∧ ItOk K J H02 ds ∧ H02 D = none ∧ H2 D = some (.lst va) ∧ DpAll K H02 va acc,
      ⟨ds.length, by omega, Nat.zero_le _, [], [], rs, m1, H01, rfl, h, s1.off hD0, w1.off (Evl.fresh_back w1.ex hD) hDρ (.inl hD), e.mono s1.ex, it, Evl.fresh_back w1.ex hD, upd_same, .nil⟩, fun i k H2 hW => ?_⟩
    obtain ⟨rfl, hle, acc, va, rs1, m3, H02, er, fr, s2, w2, e2, it2, d0, d2, da⟩ := hW
    obtain ⟨g1', g2', g3'⟩ := it2 i H2 w2.ex
    by_cases hlt : i < ds.length
    · refine .inr ⟨g1' hlt, ?_⟩
      have hd : ds[i]? = some ds[i] := List.getElem?_eq_getElem hlt
      rw [drop_cons hd] at fr
      have fin : ∀ {x H'}, J.yld i H2 x H' → H' = H2 ∧ Dp K H02 x ds[i] := fun {x H'} y => by
        obtain ⟨e1, d, q1, q2⟩ := g3' x H' hlt y
        rw [hd] at q1
        cases q1
        exact ⟨e1, q2⟩
      cases fr with
      | @yes _ _ es3 _ m4 m5 m6 _ ds1 ra rb is hg hiv hb hi1 hlc hr =>
        refine ⟨fun H' => ∃ va' H04, Stp ρ.length ρ H0 H ρ H04 H' ∧ Wd K H04 H' ρ m6 ∧ EnvS K H04 ρ σ es ∧ ItOk K J H04 ds ∧ H04 D = none ∧ H' D = some (.lst va') ∧ DpAll K H04 va' (acc ++ ra),
          fun H' ⟨va', H04, s4, w4, e4, it4, z0, z1, z2⟩ => ⟨ds.length - (i + 1), by omega, rfl, hlt, acc ++ ra, va', rb, m6, H04, by rw [er, List.append_assoc], hr, s4, w4, e4, it4, z0, z1, z2⟩, fun x H' y => ?_⟩
        obtain ⟨rfl, kx⟩ := fin y
        refine hg _ _ H02 ρ x w2.ex (e2.wipe vs) kx _ fun σ3 e3 hw => ⟨by rw [hw vs hiv, wipe_wipe], ?_⟩
        refine hb σ3 _ H02 ρ w2 e3 _ fun H3 H03 s3 w3 => ?_
        refine iteT (hi1 σ3 H3 H03 ρ w3 (e3.mono s3.ex) _ fun J1 H4 H04 s4 w4 it4 => ?_)
        have s5 := s3.trans w3.nd s4
        obtain ⟨k1, k2⟩ := keepD hDρ d0 d2 s5
        refine ⟨fun j k H5 => k = ds1.length - j ∧ j ≤ ds1.length ∧ ∃ acc1 va1 ra1 m7 H05, ra = acc1 ++ ra1 ∧ LcR K g1 tt1 te (wipeS es3 vs1) vs1 (ds1.drop j) m7 ra1 m6 ∧ Stp ρ.length ρ H0 H ρ H05 H5 ∧ Wd K H05 H5 ρ m7 ∧ EnvS K H05 ρ σ es ∧ EnvS K H05 ρ σ3 es3 ∧ ItOk K J H05 ds ∧ ItOk K J1 H05 ds1 ∧ H05 D = none ∧ H5 D = some (.lst va1) ∧ DpAll K H05 va1 (acc ++ acc1),
          ⟨ds1.length, by omega, Nat.zero_le _, [], va, ra, m5, H04, rfl, hlc, s2.trans w2.nd s5, w4, e2.mono s5.ex, e3.mono s5.ex, it2.mono s5.ex, it4, k1, k2, by rw [List.append_nil]; exact dpAll_mono s5.ex da⟩, fun j k H5 hW => ?_⟩
        obtain ⟨rfl, hle1, acc1, va1, ra1, m7, H05, er1, fr1, s6, w6, e6, e7, it6, it7, y0, y1, y2⟩ := hW
        obtain ⟨g4, g5, g6⟩ := it7 j H5 w6.ex
        by_cases hlt1 : j < ds1.length
        · refine .inr ⟨g4 hlt1, ?_⟩
          have hd1 : ds1[j]? = some ds1[j] := List.getElem?_eq_getElem hlt1
          rw [drop_cons hd1] at fr1
          have fin1 : ∀ {x H'}, J1.yld j H5 x H' → H' = H5 ∧ Dp K H05 x ds1[j] := fun {x H'} y => by
            obtain ⟨e1, d, q1, q2⟩ := g6 x H' hlt1 y
            rw [hd1] at q1
            cases q1
            exact ⟨e1, q2⟩
          have hvl := dpAll_len y2
          cases fr1 with
          | @yes _ _ es8 _ m8 m9 _ r rs2 is1 hg1 hiv1 hb1 he1 hr1 =>
            refine ⟨fun H' => ∃ va' H04, Stp ρ.length ρ H0 H ρ H04 H' ∧ Wd K H04 H' ρ m9 ∧ EnvS K H04 ρ σ es ∧ EnvS K H04 ρ σ3 es3 ∧ ItOk K J H04 ds ∧ ItOk K J1 H04 ds1 ∧ H04 D = none ∧ H' D = some (.lst va') ∧ DpAll K H04 va' (acc ++ (acc1 ++ [r])),
              fun H' ⟨va', H04, z1, z2, z3, z4, z5, z6, z7, z8, z9⟩ => ⟨ds1.length - (j + 1), by omega, rfl, hlt1, acc1 ++ [r], va', rs2, m9, H04, by rw [er1, List.append_assoc]; rfl, hr1, z1, z2, z3, z4, z5, z6, z7, z8, z9⟩, fun x H' y => ?_⟩
            obtain ⟨rfl, kx⟩ := fin1 y
            refine hg1 _ _ H05 ρ x w6.ex (e7.wipe vs1) kx _ fun σ9 e9 hw9 => ⟨by rw [hw9 vs1 hiv1, wipe_wipe], ?_⟩
            refine hb1 σ9 _ H05 ρ w6 e9 _ fun H7 H07 s7 w7 => ?_
            refine iteT (he1 σ9 H7 H07 ρ w7 (e9.mono s7.ex) _ fun yv H8 H08 s8 w8 ky => ?_)
            have s9 := s7.trans w7.nd s8
            obtain ⟨x1, x2⟩ := keepD hDρ y0 y1 s9
            have hlen : va1.length < 1001 := by
              have h1 : rs.length = acc.length + ((acc1.length + (rs2.length + 1)) + rb.length) := by
                rw [er, er1]
                simp only [List.length_append, List.length_cons]
              rw [hvl, List.length_append]
              omega
            refine ⟨va1, x2, small1000 (by omega), va1 ++ [yv], H08, (s6.trans w6.nd s9).off hD0, w8.off x1 hDρ (.inr ⟨_, x2⟩), e6.mono s9.ex, e7.mono s9.ex, it6.mono s9.ex, it7.mono s9.ex, x1, upd_same, ?_⟩
            rw [← List.append_assoc]
            exact dpAll_app (dpAll_mono s9.ex y2) (.cons ky .nil)
          | @not _ _ es8 _ m8 _ _ is1 hg1 hiv1 hb1 hr1 =>
            refine ⟨fun H' => ∃ H04, Stp ρ.length ρ H0 H ρ H04 H' ∧ Wd K H04 H' ρ m8 ∧ EnvS K H04 ρ σ es ∧ EnvS K H04 ρ σ3 es3 ∧ ItOk K J H04 ds ∧ ItOk K J1 H04 ds1 ∧ H04 D = none ∧ H' D = some (.lst va1) ∧ DpAll K H04 va1 (acc ++ acc1),
              fun H' ⟨H04, z1, z2, z3, z4, z5, z6, z7, z8, z9⟩ => ⟨ds1.length - (j + 1), by omega, rfl, hlt1, acc1, va1, ra1, m8, H04, er1, hr1, z1, z2, z3, z4, z5, z6, z7, z8, z9⟩, fun x H' y => ?_⟩
            obtain ⟨rfl, kx⟩ := fin1 y
            refine hg1 _ _ H05 ρ x w6.ex (e7.wipe vs1) kx _ fun σ9 e9 hw9 => ⟨by rw [hw9 vs1 hiv1, wipe_wipe], ?_⟩
            refine hb1 σ9 _ H05 ρ w6 e9 _ fun H7 H07 s7 w7 => ?_
            obtain ⟨x1, x2⟩ := keepD hDρ y0 y1 s7
            exact iteF ⟨H07, s6.trans w6.nd s7, w7, e6.mono s7.ex, e7.mono s7.ex, it6.mono s7.ex, it7.mono s7.ex, x1, x2, dpAll_mono s7.ex y2⟩
        · have ej : j = ds1.length := by omega
          subst ej
          rw [List.drop_length] at fr1
          cases fr1 with
          | nil =>
            rw [List.append_nil] at er1
            subst er1
            exact .inl ⟨g5 (Nat.le_refl _), va1, H05, s6, w6, e6, it6, y0, y1, y2⟩
    · have ei : i = ds.length := by omega
      subst ei
      rw [List.drop_length] at fr
      cases fr with
      | nil =>
        refine .inl ⟨g2' (Nat.le_refl _), ?_⟩
        rw [List.append_nil] at er
        subst er
        exact q D va H2 H02 s2 w2 hD0 d0 hDρ d2 da
variable {r : Sl} {a b : Bool}
theorem ev_andF (h1 : EvE K ta es m (.d (.bool false)) m1) : EvE K (tAndV ta tb) es m (.d (.bool false)) m1 := ev_and (a := false) (b := false) h1 fun h => nomatch h
theorem ev_andT (h1 : EvE K ta es m (.d (.bool true)) m1) (h2 : EvE K tb es m1 (.d (.bool b)) m1) : EvE K (tAndV ta tb) es m (.d (.bool b)) m1 := ev_cast (ev_and (a := true) h1 fun _ => h2) (by rw [Bool.true_and])
theorem ev_orT (h1 : EvE K ta es m (.d (.bool true)) m1) : EvE K (tOrV ta tb) es m (.d (.bool true)) m1 := ev_or (a := true) (b := false) h1 fun h => nomatch h
theorem ev_orF (h1 : EvE K ta es m (.d (.bool false)) m1) (h2 : EvE K tb es m1 (.d (.bool b)) m1) : EvE K (tOrV ta tb) es m (.d (.bool b)) m1 := ev_cast (ev_or (a := false) h1 fun _ => h2) (by rw [Bool.false_or])
theorem eb_andF (h1 : EvB K tt es m false m1) : EvB K (tAnd tt tu) es m false m1 := eb_and (a := false) (b := false) h1 fun h => nomatch h
theorem eb_andT (h1 : EvB K tt es m true m1) (h2 : EvB K tu es m1 b m1) : EvB K (tAnd tt tu) es m b m1 := eb_cast (eb_and (a := true) h1 fun _ => h2) (by rw [Bool.true_and])
theorem eb_orT (h1 : EvB K tt es m true m1) : EvB K (tOr tt tu) es m true m1 := eb_or (a := true) (b := false) h1 fun h => nomatch h
theorem eb_orF (h1 : EvB K tt es m false m1) (h2 : EvB K tu es m1 b m1) : EvB K (tOr tt tu) es m b m1 := eb_cast (eb_or (a := false) h1 fun _ => h2) (by rw [Bool.false_or])
theorem ev_ifT (h1 : EvB K tt es m true m1) (h2 : EvE K ta es m1 r m2) : EvE K (tIf tt ta tb) es m r m2 := ev_if (a := true) h1 (fun _ => h2) fun h => nomatch h
theorem ev_ifF (h1 : EvB K tt es m false m1) (h2 : EvE K tb es m1 r m2) : EvE K (tIf tt ta tb) es m r m2 := ev_if (a := false) h1 (fun h => nomatch h) fun _ => h2
theorem sv_ifT {n : Nat} {t u : TS} {o : Out} (h : EvB K tt es m true m1) (h1 : Sv K n t es m1 o) : Sv K n (tIfS tt t u) es m o := sv_if (a := true) h (fun _ => h1) fun h => nomatch h
theorem sv_ifF {n : Nat} {t u : TS} {o : Out} (h : EvB K tt es m false m1) (h1 : Sv K n u es m1 o) : Sv K n (tIfS tt t u) es m o := sv_if (a := false) h (fun h => nomatch h) fun _ => h1
/-- if t: return ..; what follows -/
theorem sv_ifsT {n : Nat} {t u v : TS} {o : Out} (h : EvB K tt es m true m1) (ho : o.no = true) (h1 : Sv K n t es m1 o) : Sv K n (tSeq (tIfS tt t u) v) es m o := sv_out ho (sv_ifT h h1)
theorem sv_ifsF {n : Nat} {t v : TS} {o : Out} (h : EvB K tt es m false m1) (h1 : Sv K n v es m1 o) : Sv K n (tSeq (tIfS tt t tNext) v) es m o := sv_seq (sv_ifF h sv_next) h1
/-- a < b < c, the first of them false -/
theorem ev_chainF {rr rs : R2} {x y : PyData} (h1 : EvE K ta es m (.d x) m1) (h2 : EvE K tb es m1 (.d y) m2) (hr : Op2 K rr x y (.bool false)) : EvE K (tChain rr rs ta tb tc) es m (.d (.bool false)) m2 :=
  ev_chain (a := false) (b := false) (z := .none) h1 h2 hr (fun h => nomatch h) fun h => nomatch h
theorem eqvI {i j : Int} : PyData.eqv (.int i) (.int j) = (i == j) := by simp only [PyData.eqv]
theorem eqvS {x y : Str} : PyData.eqv (.str x) (.str y) = (x == y) := by simp only [PyData.eqv]
theorem eqvB {x y : Bool} : PyData.eqv (.bool x) (.bool y) = (x == y) := by simp only [PyData.eqv]
def rEqU (K : PySem.W.Frag) : R2 := fun x y H Q => rEq x y H Q ∨ rEqD K x y H Q
def rNeU (K : PySem.W.Frag) : R2 := fun x y H Q => rNe x y H Q ∨ rNeD K x y H Q
theorem op_eqU {X : Cx} (hu : X.A.units + 64 < cLine) : OpR X (compareOp .Eq) (rEqU X.K) := opOr op_eq (op_eqD hu)
theorem op_neU {X : Cx} (hu : X.A.units + 64 < cLine) : OpR X (compareOp .NotEq) (rNeU X.K) := opOr op_ne (op_neD hu)
theorem o_eqD {x y : PyData} (hx : SeqAt.shaped x = true) (hy : SeqAt.shaped y = true) : Op2 K (rEqU K) x y (.bool (PyData.eqv x y)) := o_orR (o_eq hx hy)
theorem o_neD {x y : PyData} (hx : SeqAt.shaped x = true) (hy : SeqAt.shaped y = true) : Op2 K (rNeU K) x y (.bool (!PyData.eqv x y)) := o_orR (o_ne hx hy)
theorem o_eqI {i j : Int} : Op2 K (rEqU K) (.int i) (.int j) (.bool (i == j)) := by
  have h := o_eqD (K := K) (x := .int i) (y := .int j) rfl rfl
  rw [eqvI] at h
  exact h
theorem o_neI {i j : Int} : Op2 K (rNeU K) (.int i) (.int j) (.bool (!(i == j))) := by
  have h := o_neD (K := K) (x := .int i) (y := .int j) rfl rfl
  rw [eqvI] at h
  exact h
theorem o_eqB {i j : Bool} : Op2 K (rEqU K) (.bool i) (.bool j) (.bool (i == j)) := by
  have h := o_eqD (K := K) (x := .bool i) (y := .bool j) rfl rfl
  rw [eqvB] at h
  exact h
theorem o_neB {i j : Bool} : Op2 K (rNeU K) (.bool i) (.bool j) (.bool (!(i == j))) := by
  have h := o_neD (K := K) (x := .bool i) (y := .bool j) rfl rfl
  rw [eqvB] at h
  exact h
theorem decS {i j : Str} : decide (V.str i = V.str j) = decide (i = j) := by
  by_cases h : i = j
  · rw [h, decide_eq_true rfl, decide_eq_true rfl]
  · rw [decide_eq_false h, decide_eq_false fun e => h (V.str.inj e)]
theorem o_eqS {i j : Str} : Op2 K (rEqU K) (.str i) (.str j) (.bool (decide (i = j))) := o_orL fun H0 H ex v w kv kw Q q => by
  cases kv
  cases kw
  refine ⟨rfl, ?_⟩
  rw [decS]
  exact here ex (.bl _) q
theorem o_neS {i j : Str} : Op2 K (rNeU K) (.str i) (.str j) (.bool (!decide (i = j))) := o_orL fun H0 H ex v w kv kw Q q => by
  cases kv
  cases kw
  refine ⟨rfl, ?_⟩
  rw [decS]
  exact here ex (.bl _) q
theorem eb_notT (h : EvB K tt es m true m1) : EvB K (tNot tt) es m false m1 := eb_not h
theorem eb_notF (h : EvB K tt es m false m1) : EvB K (tNot tt) es m true m1 := eb_not h
theorem cut_to {xs : List PyData} {k : Nat} : cutD xs none (some (k : Int)) = xs.take k := by
  unfold cutD
  rw [HT.sIx_none, show HT.sIx xs.length xs.length (some (k : Int)) = min k xs.length from HT.sIx_nat xs.length xs.length k, List.drop_zero, Nat.sub_zero]
  by_cases h : k ≤ xs.length
  · rw [Nat.min_eq_left h]
  · rw [Nat.min_eq_right (by omega), List.take_length, List.take_of_length_le (by omega)]
theorem cut_from {xs : List PyData} {k : Nat} : cutD xs (some (k : Int)) none = xs.drop k := by
  unfold cutD
  rw [HT.sIx_none, show HT.sIx xs.length 0 (some (k : Int)) = min k xs.length from HT.sIx_nat xs.length 0 k]
  by_cases h : k ≤ xs.length
  · rw [Nat.min_eq_left h, List.take_of_length_le (by rw [List.length_drop]; exact Nat.le_refl _)]
  · rw [Nat.min_eq_right (by omega), List.drop_length, List.drop_of_length_le (by omega), List.take_nil]
theorem ev_to {xs : List PyData} {k : Nat} (h : EvE K te es m (.d (.tuple xs)) m1) : EvE K (tSl (rSlA K) te tNoPart (tPart (tC (.int (k : Int))))) es m (.d (.tuple (xs.take k))) m1 := by
  rw [← cut_to]
  exact ev_sl h eo_none (eo_some ev_int)
theorem ev_from {xs : List PyData} {k : Nat} (h : EvE K te es m (.d (.tuple xs)) m1) : EvE K (tSl (rSlA K) te (tPart (tC (.int (k : Int)))) tNoPart) es m (.d (.tuple (xs.drop k))) m1 := by
  rw [← cut_from]
  exact ev_sl h (eo_some ev_int) eo_none
/-- an item of a tuple that is named -/
theorem ev_at {i j : Nat} {xs : List PyData} {d : PyData} {k : Int} (h : es[i]? = some (.d (.tuple xs))) (hk : k = (j : Int)) (hd : xs[j]? = some d) : EvE K (tOp (rIx K) (tVar i) (tC (.int k))) es m (.d d) m := ev_op (ev_var h nofun) ev_int (o_ixT hk hd)
theorem mul_ok {i j : Int} (h1 : -(2 ^ 64) < i) (h2 : i < 2 ^ 64) : IntMulOk i j := .of_left (intBits_le_64 h1 h2)
end
/-- a loop by its invariant: J (turn) (slots) (cells) -/
theorem forI {K : PySem.W.Frag} {n i : Nat} {tb : TS} (J : Nat → List Sl → M → Prop) : ∀ (ds : List PyData) (k : Nat) (es : List Sl) (m : M), J k es m →
    (∀ (l : Nat) (d : PyData) (es : List Sl) (m : M), ds[l]? = some d → J (k + l) es m → ∃ es2 m2, (Sv K n tb (es.set i (.d d)) m (.nx es2 m2) ∨ Sv K n tb (es.set i (.d d)) m (.cnt es2 m2)) ∧ J (k + l + 1) es2 m2) →
    ∃ es' m', ForR K n (gName i) tb ds es m (.nx es' m') ∧ J (k + ds.length) es' m'
  | [], k, es, m, h, _ => ⟨es, m, .nil, h⟩
  | d :: ds, k, es, m, h, st => by
    obtain ⟨es2, m2, hb, h2⟩ := st 0 d es m rfl h
    obtain ⟨es', m', f, h3⟩ := forI (tb := tb) J ds (k + 1) es2 m2 h2 fun l d' es m hd hj => by
      have q := st (l + 1) d' es m hd (by rw [show k + (l + 1) = k + 1 + l by omega]; exact hj)
      rw [show k + (l + 1) + 1 = k + 1 + l + 1 by omega] at q
      exact q
    refine ⟨es', m', ?_, by rw [List.length_cons, show k + (ds.length + 1) = k + 1 + ds.length by omega]; exact h3⟩
    rcases hb with hb | hb
    · exact .nx gv_name hb f
    · exact .cnt gv_name hb f
theorem sv_forI {K : PySem.W.Frag} {es : List Sl} {m m1 : M} {n i : Nat} {wi : TI} {tb rest : TS} {ds : List PyData} {o : Out} (J : Nat → List Sl → M → Prop) (hi : EvI K wi es m ds m1) (h0 : J 0 es m1)
    (st : ∀ (l : Nat) (d : PyData) (es : List Sl) (m : M), ds[l]? = some d → J l es m → ∃ es2 m2, (Sv K n tb (es.set i (.d d)) m (.nx es2 m2) ∨ Sv K n tb (es.set i (.d d)) m (.cnt es2 m2)) ∧ J (l + 1) es2 m2)
    (hd : ∀ es m, J ds.length es m → Sv K n rest es m o) : Sv K n (tSeq (tFor wi (gName i) tb) rest) es m o := by
  obtain ⟨es', m', f, h⟩ := forI (K := K) (n := n) (i := i) (tb := tb) J ds 0 es m1 h0 (by simpa using st)
  rw [Nat.zero_add] at h
  exact sv_seq (sv_for hi f) (hd es' m' h)
/-- .. as the last statement of a block -/
theorem sv_forIe {K : PySem.W.Frag} {es : List Sl} {m m1 : M} {n i : Nat} {wi : TI} {tb : TS} {ds : List PyData} (J : Nat → List Sl → M → Prop) (hi : EvI K wi es m ds m1) (h0 : J 0 es m1)
    (st : ∀ (l : Nat) (d : PyData) (es : List Sl) (m : M), ds[l]? = some d → J l es m → ∃ es2 m2, (Sv K n tb (es.set i (.d d)) m (.nx es2 m2) ∨ Sv K n tb (es.set i (.d d)) m (.cnt es2 m2)) ∧ J (l + 1) es2 m2) :
    ∃ es' m', Sv K n (tFor wi (gName i) tb) es m (.nx es' m') ∧ J ds.length es' m' := by
  obtain ⟨es', m', f, h⟩ := forI (K := K) (n := n) (i := i) (tb := tb) J ds 0 es m1 h0 (by simpa using st)
  rw [Nat.zero_add] at h
  exact ⟨es', m', sv_for hi f, h⟩
theorem el_new {K : PySem.W.Frag} {es : List Sl} {m : M} : EvL K (tLst tNil) es m [] m := fun σ H H0 ρ w' e Q q =>
  ⟨Nat.zero_le _, fun p hp => q p [] _ H0 ⟨Evl.Ex.refl _, fun b o h _ _ => Evl.Ex.new hp b o h, fun b h => Evl.fresh_back (Evl.Ex.new hp) h, fun b o h => .inl h, rfl, fun b h => .inl h⟩ (w'.off (Evl.fresh_back w'.ex hp) (w'.notin hp) (.inl hp)) hp (Evl.fresh_back w'.ex hp) (w'.notin hp) upd_same .nil⟩
theorem last_set {m : M} {a b : List PyData} : (m ++ [a]).set m.length b = m ++ [b] := by
  rw [List.set_append_right _ _ (Nat.le_refl _), Nat.sub_self]
  rfl
theorem last_get {m : M} {a : List PyData} : (m ++ [a])[m.length]? = some a := by
  rw [List.getElem?_append_right (Nat.le_refl _), Nat.sub_self]
  rfl
/-- a def that falls off its end -/
theorem mkPureN {P : Program} {w : World} {K : PySem.W.Frag} {mg : Str → Option Value} {base : Heap} {x : Str} {st : Stmt} {N ps : List Str} {k : Nat} {R : List PyData → PyData → Prop} (T : DefT K mg x st ps) (S : FnScope N ps (defScope st)) (hR : ∀ ds y, R ds y → y = .none)
    (hb : ∀ (f : Addr) (cdv : Value) (A : Around) (outer : List Env) (s : Shared) (H : Hp) (E : XK), Room k (A.deeper (envOfC x (defScope st) s.heap.objs.size f cdv)) →
      ∃ t, PSs (cxOf CX0 P w K mg base N x (defScope st) f cdv A outer s H E).nox (defBody st) t ∧ ∀ ds m y, ds.length = ps.length → R ds y → ∃ es', Sv K m.length t (ds.map .d ++ List.replicate (N.length - ds.length) .no) m (.nx es' m)) :
    PureC P w K mg base (k + 1) x ps R := by
  obtain ⟨f, fd, F, hm, hB⟩ := T.ex
  refine ⟨f, fd, F.ok S (fun vs H Q E h => h.1) (fun cdv A outer s H vs Q E hr h => ?_), hm, F.kp, hB⟩
  obtain ⟨t, ht, q⟩ := hb f cdv A outer s H E hr
  refine ⟨t, ht, ?_⟩
  obtain ⟨hl, H0, ρ, m, rs, r, m', w', kv, ⟨ds, y, rfl, hp, rfl, rfl⟩, hq⟩ := h
  have hy := hR ds y hp
  subst hy
  have hdl : ds.length = ps.length := by rw [← hl, kv.length, List.length_map]
  obtain ⟨es', q⟩ := q ds m' _ hdl hp
  have es := start_env (N := N) kv
  rw [List.length_map] at es
  refine q (L2.start N vs) H H0 ρ (by rw [w'.len]; exact Nat.le_refl _) w' es _ fun σ' ρ' H' H0' s' w2 e2 => ?_
  have e : ρ'.take m'.length = ρ := by
    rw [s'.pre, ← w'.len, List.take_length]
  have hlen := w2.len
  have e3 : ρ' = ρ := by
    rw [← e, ← hlen, List.take_length]
  subst e3
  refine hq .non H' H0' ⟨s'.ex, s'.keep, s'.dom, fun b o z => ?_, rfl, fun b z => .inl z⟩ w2 .non
  rcases s'.fresh b o z with y | y | y
  · exact .inl y
  · exact .inr (.inl y)
  · rw [← w'.len] at y
    exact .inr (.inr y)
end DL

set_option Elab.async false
set_option linter.all false
set_option maxRecDepth 100000
namespace DL
variable [Tbs]
open PySem PySem.Spec PyProof.Rows L2
section
variable {X : Cx} {K : PySem.W.Frag}
theorem kAdd (h : X.K = K := by rfl) : OpR X (binaryOp .Add) (rAddU K) := h ▸ op_addU
theorem kMul (h : X.K = K := by rfl) : OpR X (binaryOp .Mult) (rMulU K) := h ▸ op_mulU
theorem kIn (hu : X.A.units + 65 < cLine) (h : X.K = K := by rfl) : OpR X (compareOp .In) (rInU K) := h ▸ op_inU hu
theorem kEq (hu : X.A.units + 64 < cLine) (h : X.K = K := by rfl) : OpR X (compareOp .Eq) (rEqU K) := h ▸ op_eqU hu
theorem kNe (hu : X.A.units + 64 < cLine) (h : X.K = K := by rfl) : OpR X (compareOp .NotEq) (rNeU K) := h ▸ op_neU hu
theorem kIx (h : X.K = K := by rfl) : IxR X (rIx K) := h ▸ ix_seq
theorem kSl (h : X.K = K := by rfl) : SlR X (rSlA K) := h ▸ sl_tupA
theorem kLen (h : X.K = K := by rfl) : CallR X (.builtin "len") (fun xs H Q => ∃ x n, xs = [x] ∧ LenV K x H n ∧ Q (.int n) H) := h ▸ call_len
theorem kIsi (h : X.K = K := by rfl) : CallR X (.builtin "isinstance") (rIsi K) := h ▸ call_isi
theorem kAll (hc : X.calm = true) (h : X.K = K := by rfl) : CallR X (.builtin "all") (rAll K) := h ▸ cr_all hc
theorem kAny (hc : X.calm = true) (h : X.K = K := by rfl) : CallR X (.builtin "any") (rAny K) := h ▸ cr_any hc
theorem kSum (hc : X.calm = true) (h : X.K = K := by rfl) : CallR X (.builtin "sum") (rSum K) := h ▸ cr_sum hc
theorem kTup (h : X.K = K := by rfl) : CallR X (.type "tuple") (fun xs H Q => ∃ p ys, xs = [.ref p] ∧ ((SqL K H p ys ∧ ∀ l, H l = none → Q (.ref l) (upd H l (.tup ys))) ∨ (SqT K H p ys ∧ Q (.ref p) H))) := h ▸ call_tuple_of
theorem kList (h : X.K = K := by rfl) : CallR X (.type "list") (fun xs H Q => ∃ p ys, xs = [.ref p] ∧ (SqL K H p ys ∨ SqT K H p ys) ∧ ∀ l, H l = none → Q (.ref l) (upd H l (.lst ys))) := h ▸ call_list_of
theorem kSeq {tg l : Expr} {tl : TE} (he : PE X l tl) (h : X.K = K := by rfl) : PI X tg l (iSeq K tl) := h ▸ pi_seq he
theorem kBm {o e : Expr} {es : List Expr} {to : TE} {t : TA} {name : Str} {apos cpos : Pos} {T id : String} {r : V → List V → Hp → VK → Prop} (pa : PlainAttrs T) (slot : Slot T name id) (hty : typeOf (.builtin id) = pure (.type "method_descriptor")) (hm : MtR X id r) (ho : PE X o to) (ha : PA X (e :: es) t)
    (hbase : attributeBase o name X.env (eval o X.env) = eval o X.env := by rfl)
    (hfew : ((backTo cpos (starEach (e :: es) X.env)).all (fun x => !x.1) && (backToKw cpos (keywordEach [] X.env)).all (fun x => x.1.isSome)
      && decide ((e :: es).length + ([] : List Keyword).length + (if ([] : List Keyword).isEmpty then 0 else 1) < 30)) = true := by rfl)
    (hline : (apos.endLine == cpos.line) = true := by rfl) (hs : starEach (e :: es) X.env = (false, eval e X.env) :: starEach es X.env := by rfl) (hplain : (backTo cpos (starEach es X.env)).any (·.1) = false := by rfl) (h : X.K = K := by rfl) :
    PE X (.Call (.Attribute o name apos) (e :: es) [] cpos) (tBM K T r to t) := h ▸ pe_bm pa slot hty hm ho ha hbase hfew hline hs hplain
theorem kTupG {es : List Expr} {k : Nat} {t : TGs} {n : Nat} {pos : Pos} (hc : X.calm = true) (h : PGs X es t)
    (hn : (assignEach es X.env).length = n := by rfl) (hst : (assignEach es X.env).findIdx? (·.1) = none := by rfl) (hK : X.K = K := by rfl) : PG X (.Tuple es k pos) (gTup K n t) := hK ▸ pg_tup hc h hn hst
end
section
variable {K : PySem.W.Frag}
theorem arg1 {es : List Sl} {m m1 : M} {te : TE} {r : Sl} (h : EvE K te es m r m1) : EvA K (tCons te tNil) es m [r] m1 := ea_cons h ea_nil
theorem arg2 {es : List Sl} {m m1 m2 : M} {te tf : TE} {r q : Sl} (h : EvE K te es m r m1) (h2 : EvE K tf es m1 q m2) : EvA K (tCons te (tCons tf tNil)) es m [r, q] m2 := ea_cons h (ea_cons h2 ea_nil)
end
end DL

set_option Elab.async false
set_option linter.all false
set_option maxRecDepth 100000
namespace DL
variable [Tbs]
open PySem PySem.Spec PyProof.Rows L2
/-- all but the tables -/
def nt (H : Hp) : Hp := fun b => match H b with | some (.tbl _) => none | x => x
theorem nt_some {H : Hp} {b : Addr} {o : HO} (h : nt H b = some o) : H b = some o ∧ ∀ ps, o ≠ .tbl ps := by
  unfold nt at h
  cases e : H b with
  | none => rw [e] at h; cases h
  | some u =>
    rw [e] at h
    cases u <;> first | (cases h; exact ⟨rfl, fun ps z => nomatch z⟩) | cases h
theorem nt_none {H : Hp} {b : Addr} (h : H b = none) : nt H b = none := by unfold nt; rw [h]
theorem nt_l {K : PySem.W.Frag} {H : Hp} {a : Addr} {xs : List V} (h : SqL K H a xs) : SqL K (nt H) a xs := by
  rcases h with (h | ⟨o, h⟩) | h
  · exact .inl (.inl (by unfold nt; rw [h]))
  · exact .inl (.inr ⟨o, by unfold nt; rw [h]⟩)
  · exact .inr h
theorem nt_T {T : List (Addr × Str)} {H : Hp} (t : LamX.Tabs T H) : ∀ p ∈ T, nt H p.1 = none := fun p hp => by
  obtain ⟨ps, e, _⟩ := t p hp
  unfold nt
  rw [e]
theorem nt_ex (H : Hp) : Evl.Ex (nt H) H := fun _ _ z => (nt_some z).1
/-! ### the rounds of a law: a new list of new lists, each a die of its own -/
def spRounds (K : PySem.W.Frag) : Sp := fun vs H Q _ => LamX.Tabs Tbs.T H ∧ ∃ (a : Addr) (ns : List Int) (k : Nat), vs = [.ref a, .int k] ∧ SqL K H a (ns.map V.int) ∧ ns.length ≤ 1000 ∧ k ≤ 1000 ∧
  ∀ (D : Addr) (rs : List Addr) (xs : List Int) (H' : Hp), Evl.Ex (nt H) H' → LamX.Tabs Tbs.T H' → H D = none → H' D = some (.lst (rs.map V.ref)) → rs.length = xs.length → rs.Nodup → D ∉ rs → (∀ r, r ∈ rs → H r = none) → (∀ (i : Nat) (r : Addr) (x : Int), rs[i]? = some r → xs[i]? = some x → H' r = some (.lst [.int x, .int 0])) → Q (.ref D) H'
theorem law_loop {K : PySem.W.Frag} {a : Addr} {L : Nat} {es0 : List Sl} {wi : TI} {tb rest : TS} {D : Ends} {σ : L2.St} {H : Hp} (hL : σ.length = es0.length + 2) (hσ : σ[0]? = some (some (.ref a))) (h0 : ∀ s, s ∈ es0 → s = .no)
    (hwi : ∀ R : It → Hp → Prop, (∀ (Dd : Addr) (rs : List Addr) (xs : List Int) (H' : Hp), Evl.Ex (nt H) H' → LamX.Tabs Tbs.T H' → H Dd = none → H' Dd = some (.lst (rs.map V.ref)) → rs.length = xs.length → rs.Nodup → Dd ∉ rs → (∀ r, r ∈ rs → H r = none) →
      (∀ (i : Nat) (r : Addr) (x : Int), rs[i]? = some r → xs[i]? = some x → H' r = some (.lst [.int x, .int 0])) → R (Itl K Dd) H') → wi σ H R)
    (hb : ∀ x : Int, ∃ es' m', Sv K 0 tb (.v (.ref a) :: .c 0 :: es0) [[.int x, .int 0]] (.nx (.v (.ref a) :: es') m') ∧ es'.length = es0.length + 1)
    (hr : ∀ σ' H', rest D σ' H') (tb0 : LamX.Tabs Tbs.T H) : tSeq (tFor wi (gName 1) tb) rest D σ H := by
  refine hwi _ fun Dd rs xs H1 e1 tb1 hD1 hD hlen nd hDr hfr hx => ?_
  refine ⟨fun i k σ2 H2 => k = rs.length - i ∧ i ≤ rs.length ∧ σ2.length = es0.length + 2 ∧ σ2[0]? = some (some (.ref a)) ∧ (Evl.Ex (nt H) H2 ∧ LamX.Tabs Tbs.T H2) ∧ H2 Dd = some (.lst (rs.map V.ref)) ∧ ∀ (j : Nat) (r : Addr) (x : Int), i ≤ j → rs[j]? = some r → xs[j]? = some x → H2 r = some (.lst [.int x, .int 0]),
    ⟨rs.length, by omega, Nat.zero_le _, hL, hσ, ⟨e1, tb1⟩, hD, fun j r x _ h1 h2 => hx j r x h1 h2⟩, fun i k σ2 H2 hW => ?_⟩
  obtain ⟨rfl, hle, l2, s2, ⟨e2, tb2⟩, d2, x2⟩ := hW
  have sl : SqL K H2 Dd (rs.map V.ref) := .inl (.inl d2)
  by_cases hlt : i < rs.length
  · have hri : rs[i]? = some rs[i] := List.getElem?_eq_getElem hlt
    have hxi : xs[i]? = some (xs[i]'(by omega)) := List.getElem?_eq_getElem (by omega)
    have hmi : (rs.map V.ref)[i]? = some (.ref rs[i]) := by rw [List.getElem?_map, hri]; rfl
    refine .inr ⟨⟨_, _, sl, hmi⟩, ?_⟩
    obtain ⟨es', m', hsv, hes⟩ := hb (xs[i]'(by omega))
    refine ⟨fun σ' H' => σ'.length = es0.length + 2 ∧ σ'[0]? = some (some (.ref a)) ∧ (Evl.Ex (nt H) H' ∧ LamX.Tabs Tbs.T H') ∧ H' Dd = some (.lst (rs.map V.ref)) ∧ ∀ (j : Nat) (r : Addr) (x : Int), i + 1 ≤ j → rs[j]? = some r → xs[j]? = some x → H' r = some (.lst [.int x, .int 0]), fun σ' H' ⟨y1, y2, y3, y4, y5⟩ => ⟨rs.length - (i + 1), by omega, rfl, hlt, y1, y2, y3, y4, y5⟩, fun x H' y => ?_⟩
    obtain ⟨rfl, hy⟩ := y
    have ex : x = .ref rs[i] := Option.some.inj ((hy _ sl).symm.trans hmi)
    subst ex
    have hp : H rs[i] = none := hfr _ (List.getElem_mem hlt)
    have hpD : rs[i] ≠ Dd := fun z => hDr (by rw [← z]; exact List.getElem_mem hlt)
    have hp2 := x2 i rs[i] _ (Nat.le_refl _) hri hxi
    have w : Wd K (nt H) H' [rs[i]] [[.int (xs[i]'(by omega)), .int 0]] := ⟨e2, rfl, by simp, fun j p ds z1 z2 => by
      cases j with
      | zero =>
        cases z1
        cases z2
        exact ⟨nt_none hp, _, hp2, .cons (.int _) (.cons (.int _) .nil)⟩
      | succ j => simp at z1, tb2, nt_T tb0⟩
    have en : EnvS K (nt H) [rs[i]] (σ2.set 1 (some (.ref rs[i]))) (.v (.ref a) :: .c 0 :: es0) := by
      refine ⟨by rw [List.length_set, l2]; rfl, fun j s z => ?_⟩
      match j, z with
      | 0, z =>
        cases z
        exact .inr ⟨_, by rw [List.getElem?_set_ne (by omega)]; exact s2, rfl⟩
      | 1, z =>
        cases z
        exact .inr ⟨_, by rw [List.getElem?_set_self (by omega)], _, rfl, rfl⟩
      | j + 2, z => exact .inl (h0 s (List.mem_of_getElem? z))
    refine hsv _ H' (nt H) [rs[i]] (Nat.zero_le _) w en _ fun σ3 ρ3 H3 H03 s3 w3 e3 => ?_
    have keepB : ∀ b o, H' b = some o → b ≠ rs[i] → (∀ ps, o ≠ .tbl ps) → H3 b = some o := fun b o z hb nt => s3.keep b o z (by simp [hb]) nt
    refine ⟨by rw [e3.1, List.length_cons, hes], ?_, ⟨fun b o z => keepB b o (e2 b o z) (ne_of_none (nt_some z).1 hp) (nt_some z).2, w3.tab⟩, keepB Dd _ d2 (Ne.symm hpD) (fun ps z => nomatch z), fun j r x hj z1 z2 => keepB r _ (x2 j r x (by omega) z1 z2) (fun z => ?_) (fun ps z => nomatch z)⟩
    · rcases e3.2 0 _ rfl with z | ⟨v, z1, z2⟩
      · cases z
      · have z2 : v = .ref a := z2
        rw [z2] at z1
        exact z1
    · have := nd_ix nd z1 (by rw [hri, z])
      omega
  · exact .inl ⟨⟨_, sl, by rw [List.length_map]; omega⟩, hr σ2 H2⟩

/-! ### the dice -/
def mix0M (c k : Int) : Int := (c * 6364136223846793005 + (k + 1) * 1442695040888963407) % 340282366920938463463374607431768211507
def mix1M (a : Int) : Int := a * a % 340282366920938463463374607431768211297
def mix2M (b : Int) : Int := (b % 18446744073709551557 + 1) * (b / 18446744073709551557 + 1) * b % 340282366920938463463374607431768211507
def drawnM (c k : Int) : Int := mix2M (mix1M (mix0M c k))
theorem mix0_lt (c k : Int) : 0 ≤ mix0M c k ∧ mix0M c k < 340282366920938463463374607431768211507 := ⟨Int.emod_nonneg _ (by decide), Int.emod_lt_of_pos _ (by decide)⟩
theorem mix1_lt (a : Int) : 0 ≤ mix1M a ∧ mix1M a < 340282366920938463463374607431768211297 := ⟨Int.emod_nonneg _ (by decide), Int.emod_lt_of_pos _ (by decide)⟩
def rollM (x c n : Int) : Int := if x ≥ 10 ^ 18 then x % n else drawnM x (c + 1) / 8 % n
def diceM (x c n : Int) : List PyData := if x ≥ 10 ^ 18 then [.int (x / n), .int c] else [.int x, .int (c + 1)]
theorem roll_lt {x c n : Int} (h : 0 < n) : 0 ≤ rollM x c n ∧ rollM x c n < n := by
  unfold rollM
  split
  · exact ⟨Int.emod_nonneg _ (by omega), Int.emod_lt_of_pos _ h⟩
  · exact ⟨Int.emod_nonneg _ (by omega), Int.emod_lt_of_pos _ h⟩
def cellM (ns : List Int) (k : Int) : Int := if ns = [] then k * 7919 else ns.getD (k % (ns.length : Int)).toNat 0 + k / (ns.length : Int) * 104729
/-- a roll: the die at cell j -/
def rollG : List Sl → M → Sl → M → Prop := fun rs m r m' => ∃ j x c n, rs = [.c j, .d (.int n)] ∧ m[j]? = some [.int x, .int c] ∧ 0 < n ∧ n < 2 ^ 62 ∧ r = .d (.int (rollM x c n)) ∧ m' = m.set j (diceM x c n)
theorem diceM_two {x c n : Int} : ∃ y d, diceM x c n = [.int y, .int d] := by
  unfold diceM
  split
  · exact ⟨_, _, rfl⟩
  · exact ⟨_, _, rfl⟩
theorem shaped_ints (ns : List Int) : SeqAt.shaped (.list (ns.map .int)) = true := by
  have h1 : PyData.canLayAll0 (ns.map .int) = true := by
    induction ns with
    | nil => simp [PyData.canLayAll0]
    | cons n ns ih => simp [PyData.canLayAll0, PyData.canLay0, ih]
  have h2 : PyData.depthAll (ns.map .int) ≤ 1 := by
    clear h1
    induction ns with
    | nil => simp [PyData.depthAll]
    | cons n ns ih =>
      simp only [List.map_cons, PyData.depthAll, PyData.depth]
      omega
  have h3 : PyData.depth (.list (ns.map .int)) ≤ 64 := by
    simp only [PyData.depth]
    omega
  show (PyData.canLay0 (.list (ns.map .int)) && decide (PyData.depth (.list (ns.map .int)) ≤ 64)) = true
  rw [Bool.and_eq_true]
  exact ⟨by simp only [PyData.canLay0]; exact h1, decide_eq_true h3⟩
section
variable {K : PySem.W.Frag}
theorem o_mod {i j : Int} (h : 0 < j) : Op2 K (rI (fun _ j => 0 < j) fun i j => .int (i % j)) (.int i) (.int j) (.int (i % j)) := o_i h
theorem o_div {i j : Int} (h : CDivW i j) : Op2 K (rI CDivW fun i j => .int (i / j)) (.int i) (.int j) (.int (i / j)) := o_i h
theorem o_pow {i j : Int} (h : CPow i j) : Op2 K (rI CPow fun i j => .int (i ^ j.toNat)) (.int i) (.int j) (.int (i ^ j.toNat)) := o_i h
end
theorem dp_ints {K : PySem.W.Frag} {H : Hp} : ∀ ns : List Int, DpAll K H (ns.map V.int) (ns.map .int)
  | [] => .nil
  | n :: ns => .cons (.int n) (dp_ints ns)
theorem runA {K : PySem.W.Frag} {ta : TA} {es rs : List Sl} {σ : L2.St} {H H0 : Hp} {Q : List V → Hp → Prop} (h : EvA K ta es [] rs []) (ex : Evl.Ex H0 H) (tb : LamX.Tabs Tbs.T H) (hn : ∀ p ∈ Tbs.T, H0 p.1 = none) (e : EnvS K H0 [] σ es)
    (q : ∀ vs H' H0', Stp 0 [] H0 H [] H0' H' → Wd K H0' H' [] [] → SlAll K H0' [] vs rs → Q vs H') : ta σ H Q :=
  h σ H H0 [] ⟨ex, rfl, .nil, fun j p ds z => by simp at z, tb, hn⟩ e Q q
end DL

set_option Elab.async false
set_option linter.all false
set_option maxRecDepth 100000
namespace DL
variable [Tbs]
open PySem PySem.Spec PyProof.Rows L2
section
variable {X : Cx} {K : PySem.W.Frag}
/-- x is not True, x an int -/
def rNotIB : R2 := fun x y H Q => ∃ (i : Int) (b : Bool), x = .int i ∧ y = .bl b ∧ Q (.bl true) H
theorem op_notIB : OpR X (compareOp .IsNot) rNotIB := by
  intro pins s σ H x y v u Q I rx ry h
  obtain ⟨i, b, rfl, rfl, q⟩ := h
  obtain ⟨t, rfl⟩ := (show ∃ t, v = Value.int i t from rx)
  cases (show u = Value.bool b from ry)
  exact wpAny_isNot_other rfl (fun z => nomatch z) ⟨.bl true, H, I, rfl, q⟩
def rNotBU : R2 := fun x y H Q => rNotIB x y H Q ∨ rNotB x y H Q
theorem op_notB : OpR X (compareOp .IsNot) rNotBU := opOr op_notIB op_notBl
theorem o_notIB {i : Int} {b : Bool} : Op2 K rNotBU (.int i) (.bool b) (.bool true) := fun H0 H ex v w kv kw Q q => by
  cases kv
  cases kw
  exact .inl ⟨i, b, rfl, rfl, here ex (.bl true) q⟩
theorem o_notBB {a b : Bool} : Op2 K rNotBU (.bool a) (.bool b) (.bool (!decide (a = b))) := fun H0 H ex v w kv kw Q q => by
  cases kv
  cases kw
  exact .inr ⟨a, b, rfl, rfl, here ex (.bl _) q⟩
theorem ev_to' {te tk : TE} {es : List Sl} {m m1 m2 : M} {xs : List PyData} {k : Nat} (h : EvE K te es m (.d (.tuple xs)) m1) (hk : EvE K tk es m1 (.d (.int (k : Int))) m2) : EvE K (tSl (rSlA K) te tNoPart (tPart tk)) es m (.d (.tuple (xs.take k))) m2 := by
  rw [← cut_to]
  exact ev_sl h eo_none (eo_some hk)
theorem ev_from' {te tk : TE} {es : List Sl} {m m1 m2 : M} {xs : List PyData} {k : Nat} (h : EvE K te es m (.d (.tuple xs)) m1) (hk : EvE K tk es m1 (.d (.int (k : Int))) m2) : EvE K (tSl (rSlA K) te (tPart tk) tNoPart) es m (.d (.tuple (xs.drop k))) m2 := by
  rw [← cut_from]
  exact ev_sl h (eo_some hk) eo_none
theorem ex_seq {n : Nat} {t u : TS} {es es1 : List Sl} {m m1 : M} {Q : List Sl → M → Prop} (h : Sv K n t es m (.nx es1 m1)) (h2 : ∃ es2 m2, Sv K n u es1 m1 (.nx es2 m2) ∧ Q es2 m2) : ∃ es2 m2, (Sv K n (tSeq t u) es m (.nx es2 m2) ∨ Sv K n (tSeq t u) es m (.cnt es2 m2)) ∧ Q es2 m2 := by
  obtain ⟨es2, m2, h3, q⟩ := h2
  exact ⟨es2, m2, .inl (sv_seq h h3), q⟩
theorem ex_one {n : Nat} {t : TS} {es : List Sl} {m : M} {Q : List Sl → M → Prop} (h2 : ∃ es2 m2, Sv K n t es m (.nx es2 m2) ∧ Q es2 m2) : ∃ es2 m2, (Sv K n t es m (.nx es2 m2) ∨ Sv K n t es m (.cnt es2 m2)) ∧ Q es2 m2 := by
  obtain ⟨es2, m2, h3, q⟩ := h2
  exact ⟨es2, m2, .inl h3, q⟩
theorem ex_then {n : Nat} {t u : TS} {es es1 : List Sl} {m m1 : M} {Q : List Sl → M → Prop} (h : Sv K n t es m (.nx es1 m1)) (h2 : ∃ es2 m2, Sv K n u es1 m1 (.nx es2 m2) ∧ Q es2 m2) : ∃ es2 m2, Sv K n (tSeq t u) es m (.nx es2 m2) ∧ Q es2 m2 := by
  obtain ⟨es2, m2, h3, q⟩ := h2
  exact ⟨es2, m2, sv_seq h h3, q⟩
theorem ex_for {es : List Sl} {m m1 : M} {n i : Nat} {wi : TI} {tb : TS} {ds : List PyData} {Q : List Sl → M → Prop} (J : Nat → List Sl → M → Prop) (hi : EvI K wi es m ds m1) (h0 : J 0 es m1)
    (st : ∀ (l : Nat) (d : PyData) (es : List Sl) (m : M), ds[l]? = some d → J l es m → ∃ es2 m2, (Sv K n tb (es.set i (.d d)) m (.nx es2 m2) ∨ Sv K n tb (es.set i (.d d)) m (.cnt es2 m2)) ∧ J (l + 1) es2 m2)
    (hQ : ∀ es m, J ds.length es m → Q es m) : ∃ es2 m2, Sv K n (tFor wi (gName i) tb) es m (.nx es2 m2) ∧ Q es2 m2 := by
  obtain ⟨es', m', h, j⟩ := sv_forIe (K := K) (n := n) (i := i) (tb := tb) J hi h0 st
  exact ⟨es', m', h, hQ es' m' j⟩
theorem rangeD_get {lo : Int} {n l : Nat} {d : PyData} (h : (rangeD lo n)[l]? = some d) : l < n ∧ d = .int (lo + (l : Int)) := by
  have hl : l < n := by
    have := (List.getElem?_eq_some_iff.mp h).1
    rw [rangeD_len] at this
    exact this
  refine ⟨hl, ?_⟩
  unfold rangeD at h
  rw [List.getElem?_map, List.getElem?_range hl] at h
  cases h
  rfl
end
end DL

set_option Elab.async false
set_option linter.all false
set_option maxRecDepth 100000
namespace K30
open PySem PySem.Spec PyProof.Rows L2 DL
def topS (i : Nat) : Stmt := PySem.Challenge.pw_samepictures_k30_whole_texts.main.body.getD i (.Pass ⟨0, 0, 0, 0⟩)
abbrev N_is_whole : List Str := ["value"]
abbrev st_is_whole : Stmt := topS 18
theorem S_is_whole : FnScope N_is_whole ["value"] (defScope st_is_whole) := ⟨rfl, rfl, rfl, by decide +kernel, rfl, by decide +kernel, by decide +kernel⟩
abbrev N_are_whole : List Str := ["value", "many", "low", "high", "number"]
abbrev st_are_whole : Stmt := topS 19
theorem S_are_whole : FnScope N_are_whole ["value", "many", "low", "high"] (defScope st_are_whole) := ⟨rfl, rfl, rfl, by decide +kernel, rfl, by decide +kernel, by decide +kernel⟩
abbrev N_is_loop : List Str := ["value", "pair"]
abbrev st_is_loop : Stmt := topS 26
theorem S_is_loop : FnScope N_is_loop ["value"] (defScope st_is_loop) := ⟨rfl, rfl, rfl, by decide +kernel, rfl, by decide +kernel, by decide +kernel⟩
abbrev N_is_shape : List Str := ["value", "rule", "loops", "loop"]
abbrev st_is_shape : Stmt := topS 27
theorem S_is_shape : FnScope N_is_shape ["value"] (defScope st_is_shape) := ⟨rfl, rfl, rfl, by decide +kernel, rfl, by decide +kernel, by decide +kernel⟩
abbrev N_is_colour : List Str := ["value"]
abbrev st_is_colour : Stmt := topS 28
theorem S_is_colour : FnScope N_is_colour ["value"] (defScope st_is_colour) := ⟨rfl, rfl, rfl, by decide +kernel, rfl, by decide +kernel, by decide +kernel⟩
abbrev N_is_opacity : List Str := ["value"]
abbrev st_is_opacity : Stmt := topS 29
theorem S_is_opacity : FnScope N_is_opacity ["value"] (defScope st_is_opacity) := ⟨rfl, rfl, rfl, by decide +kernel, rfl, by decide +kernel, by decide +kernel⟩
abbrev N_is_matrix : List Str := ["value", "a", "b", "c", "d"]
abbrev st_is_matrix : Stmt := topS 30
theorem S_is_matrix : FnScope N_is_matrix ["value"] (defScope st_is_matrix) := ⟨rfl, rfl, rfl, by decide +kernel, rfl, by decide +kernel, by decide +kernel⟩
abbrev N_is_fill : List Str := ["value"]
abbrev st_is_fill : Stmt := topS 31
theorem S_is_fill : FnScope N_is_fill ["value"] (defScope st_is_fill) := ⟨rfl, rfl, rfl, by decide +kernel, rfl, by decide +kernel, by decide +kernel⟩
abbrev N_is_rub : List Str := ["value"]
abbrev st_is_rub : Stmt := topS 32
theorem S_is_rub : FnScope N_is_rub ["value"] (defScope st_is_rub) := ⟨rfl, rfl, rfl, by decide +kernel, rfl, by decide +kernel, by decide +kernel⟩
abbrev N_is_group : List Str := ["value", "deepest", "_", "layers", "opacity", "clip", "matrix"]
abbrev st_is_group : Stmt := topS 33
theorem S_is_group : FnScope N_is_group ["value", "deepest"] (defScope st_is_group) := ⟨rfl, rfl, rfl, by decide +kernel, rfl, by decide +kernel, by decide +kernel⟩
abbrev N_is_nested_layer : List Str := ["value", "deepest"]
abbrev st_is_nested_layer : Stmt := topS 34
theorem S_is_nested_layer : FnScope N_is_nested_layer ["value", "deepest"] (defScope st_is_nested_layer) := ⟨rfl, rfl, rfl, by decide +kernel, rfl, by decide +kernel, by decide +kernel⟩
abbrev N_are_layers : List Str := ["value", "deepest", "layer"]
abbrev st_are_layers : Stmt := topS 35
theorem S_are_layers : FnScope N_are_layers ["value", "deepest"] (defScope st_are_layers) := ⟨rfl, rfl, rfl, by decide +kernel, rfl, by decide +kernel, by decide +kernel⟩
abbrev N_list_shapes : List Str := ["layers", "shapes", "layer"]
abbrev st_list_shapes : Stmt := topS 36
theorem S_list_shapes : FnScope N_list_shapes ["layers"] (defScope st_list_shapes) := ⟨rfl, rfl, rfl, by decide +kernel, rfl, by decide +kernel, by decide +kernel⟩
abbrev N_add_points : List Str := ["layers", "shape", "loop"]
abbrev st_add_points : Stmt := topS 37
theorem S_add_points : FnScope N_add_points ["layers"] (defScope st_add_points) := ⟨rfl, rfl, rfl, by decide +kernel, rfl, by decide +kernel, by decide +kernel⟩
abbrev N_is_drawing : List Str := ["value"]
abbrev st_is_drawing : Stmt := topS 38
theorem S_is_drawing : FnScope N_is_drawing ["value"] (defScope st_is_drawing) := ⟨rfl, rfl, rfl, by decide +kernel, rfl, by decide +kernel, by decide +kernel⟩
abbrev N_check_drawing : List Str := ["value"]
abbrev st_check_drawing : Stmt := topS 39
theorem S_check_drawing : FnScope N_check_drawing ["value"] (defScope st_check_drawing) := ⟨rfl, rfl, rfl, by decide +kernel, rfl, by decide +kernel, by decide +kernel⟩
abbrev N_join_numbers : List Str := ["numbers", "sign", "number"]
abbrev st_join_numbers : Stmt := topS 44
theorem S_join_numbers : FnScope N_join_numbers ["numbers", "sign"] (defScope st_join_numbers) := ⟨rfl, rfl, rfl, by decide +kernel, rfl, by decide +kernel, by decide +kernel⟩
abbrev N_format_loop : List Str := ["loop", "pair"]
abbrev st_format_loop : Stmt := topS 45
theorem S_format_loop : FnScope N_format_loop ["loop"] (defScope st_format_loop) := ⟨rfl, rfl, rfl, by decide +kernel, rfl, by decide +kernel, by decide +kernel⟩
abbrev N_format_shape : List Str := ["shape", "rule", "loops", "inner", "loop"]
abbrev st_format_shape : Stmt := topS 46
theorem S_format_shape : FnScope N_format_shape ["shape"] (defScope st_format_shape) := ⟨rfl, rfl, rfl, by decide +kernel, rfl, by decide +kernel, by decide +kernel⟩
abbrev N_format_group : List Str := ["group", "_", "layers", "opacity", "clip", "matrix", "clip_text", "inner"]
abbrev st_format_group : Stmt := topS 47
theorem S_format_group : FnScope N_format_group ["group"] (defScope st_format_group) := ⟨rfl, rfl, rfl, by decide +kernel, rfl, by decide +kernel, by decide +kernel⟩
abbrev N_format_layer : List Str := ["layer", "words"]
abbrev st_format_layer : Stmt := topS 48
theorem S_format_layer : FnScope N_format_layer ["layer"] (defScope st_format_layer) := ⟨rfl, rfl, rfl, by decide +kernel, rfl, by decide +kernel, by decide +kernel⟩
abbrev N_format_layers : List Str := ["layers", "layer"]
abbrev st_format_layers : Stmt := topS 49
theorem S_format_layers : FnScope N_format_layers ["layers"] (defScope st_format_layers) := ⟨rfl, rfl, rfl, by decide +kernel, rfl, by decide +kernel, by decide +kernel⟩
abbrev N_format_drawing : List Str := ["drawing"]
abbrev st_format_drawing : Stmt := topS 50
theorem S_format_drawing : FnScope N_format_drawing ["drawing"] (defScope st_format_drawing) := ⟨rfl, rfl, rfl, by decide +kernel, rfl, by decide +kernel, by decide +kernel⟩
abbrev N_split_words : List Str := ["text", "many", "words"]
abbrev st_split_words : Stmt := topS 51
theorem S_split_words : FnScope N_split_words ["text", "many"] (defScope st_split_words) := ⟨rfl, rfl, rfl, by decide +kernel, rfl, by decide +kernel, by decide +kernel⟩
abbrev N_read_number : List Str := ["word", "digit"]
abbrev st_read_number : Stmt := topS 52
theorem S_read_number : FnScope N_read_number ["word"] (defScope st_read_number) := ⟨rfl, rfl, rfl, by decide +kernel, rfl, by decide +kernel, by decide +kernel⟩
abbrev N_read_numbers : List Str := ["text", "sign", "word"]
abbrev st_read_numbers : Stmt := topS 53
theorem S_read_numbers : FnScope N_read_numbers ["text", "sign"] (defScope st_read_numbers) := ⟨rfl, rfl, rfl, by decide +kernel, rfl, by decide +kernel, by decide +kernel⟩
abbrev N_read_loop : List Str := ["text", "pair"]
abbrev st_read_loop : Stmt := topS 54
theorem S_read_loop : FnScope N_read_loop ["text"] (defScope st_read_loop) := ⟨rfl, rfl, rfl, by decide +kernel, rfl, by decide +kernel, by decide +kernel⟩
abbrev N_read_shape : List Str := ["text", "rule", "_", "rest", "part"]
abbrev st_read_shape : Stmt := topS 55
theorem S_read_shape : FnScope N_read_shape ["text"] (defScope st_read_shape) := ⟨rfl, rfl, rfl, by decide +kernel, rfl, by decide +kernel, by decide +kernel⟩
abbrev N_read_fill : List Str := ["text", "shape", "colour", "opacity"]
abbrev st_read_fill : Stmt := topS 56
theorem S_read_fill : FnScope N_read_fill ["text"] (defScope st_read_fill) := ⟨rfl, rfl, rfl, by decide +kernel, rfl, by decide +kernel, by decide +kernel⟩
abbrev N_read_rub : List Str := ["text", "shape", "opacity"]
abbrev st_read_rub : Stmt := topS 57
theorem S_read_rub : FnScope N_read_rub ["text"] (defScope st_read_rub) := ⟨rfl, rfl, rfl, by decide +kernel, rfl, by decide +kernel, by decide +kernel⟩
abbrev N_read_group : List Str := ["text", "deepest", "matrix", "opacity", "clip", "inner", "layers", "clip_shape"]
abbrev st_read_group : Stmt := topS 58
theorem S_read_group : FnScope N_read_group ["text", "deepest"] (defScope st_read_group) := ⟨rfl, rfl, rfl, by decide +kernel, rfl, by decide +kernel, by decide +kernel⟩
abbrev N_read_layer : List Str := ["text", "deepest", "kind", "_", "rest"]
abbrev st_read_layer : Stmt := topS 59
theorem S_read_layer : FnScope N_read_layer ["text", "deepest"] (defScope st_read_layer) := ⟨rfl, rfl, rfl, by decide +kernel, rfl, by decide +kernel, by decide +kernel⟩
abbrev N_split_layers : List Str := ["text", "layers", "held", "depth", "part"]
abbrev st_split_layers : Stmt := topS 60
theorem S_split_layers : FnScope N_split_layers ["text"] (defScope st_split_layers) := ⟨rfl, rfl, rfl, by decide +kernel, rfl, by decide +kernel, by decide +kernel⟩
abbrev N_read_layers : List Str := ["text", "deepest", "part"]
abbrev st_read_layers : Stmt := topS 61
theorem S_read_layers : FnScope N_read_layers ["text", "deepest"] (defScope st_read_layers) := ⟨rfl, rfl, rfl, by decide +kernel, rfl, by decide +kernel, by decide +kernel⟩
abbrev N_parse_drawing : List Str := ["text", "drawing"]
abbrev st_parse_drawing : Stmt := topS 62
theorem S_parse_drawing : FnScope N_parse_drawing ["text"] (defScope st_parse_drawing) := ⟨rfl, rfl, rfl, by decide +kernel, rfl, by decide +kernel, by decide +kernel⟩
abbrev N__law_cell : List Str := ["_law_script", "_law_k"]
abbrev st__law_cell : Stmt := topS 64
theorem S__law_cell : FnScope N__law_cell ["_law_script", "_law_k"] (defScope st__law_cell) := ⟨rfl, rfl, rfl, by decide +kernel, rfl, by decide +kernel, by decide +kernel⟩
abbrev N__law_drawn : List Str := ["_law_cell_here", "_law_k", "_law_more"]
abbrev st__law_drawn : Stmt := topS 65
theorem S__law_drawn : FnScope N__law_drawn ["_law_cell_here", "_law_k"] (defScope st__law_drawn) := ⟨rfl, rfl, rfl, by decide +kernel, rfl, by decide +kernel, by decide +kernel⟩
abbrev N__law_roll : List Str := ["_law_dice", "_law_many", "_law_told_here"]
abbrev st__law_roll : Stmt := topS 66
theorem S__law_roll : FnScope N__law_roll ["_law_dice", "_law_many"] (defScope st__law_roll) := ⟨rfl, rfl, rfl, by decide +kernel, rfl, by decide +kernel, by decide +kernel⟩
abbrev N__law_rounds : List Str := ["_law_script", "_law_most", "_law_k"]
abbrev st__law_rounds : Stmt := topS 67
theorem S__law_rounds : FnScope N__law_rounds ["_law_script", "_law_most"] (defScope st__law_rounds) := ⟨rfl, rfl, rfl, by decide +kernel, rfl, by decide +kernel, by decide +kernel⟩
abbrev N__law_term : List Str := ["_law_e", "_law_flags", "_law_kinds", "_law_flag"]
abbrev st__law_term : Stmt := topS 68
theorem S__law_term : FnScope N__law_term ["_law_e"] (defScope st__law_term) := ⟨rfl, rfl, rfl, by decide +kernel, rfl, by decide +kernel, by decide +kernel⟩
abbrev N__law_told : List Str := ["_law_deed", "_law_e"]
abbrev st__law_told : Stmt := topS 69
theorem S__law_told : FnScope N__law_told ["_law_deed"] (defScope st__law_told) := ⟨rfl, rfl, rfl, by decide +kernel, rfl, by decide +kernel, by decide +kernel⟩
abbrev N__law_loop : List Str := ["_law_dice", "_law_far", "_law_some", "_law_turn"]
abbrev st__law_loop : Stmt := topS 70
theorem S__law_loop : FnScope N__law_loop ["_law_dice", "_law_far"] (defScope st__law_loop) := ⟨rfl, rfl, rfl, by decide +kernel, rfl, by decide +kernel, by decide +kernel⟩
abbrev N__law_shape : List Str := ["_law_dice", "_law_far", "_law_loops", "_law_turn"]
abbrev st__law_shape : Stmt := topS 71
theorem S__law_shape : FnScope N__law_shape ["_law_dice", "_law_far"] (defScope st__law_shape) := ⟨rfl, rfl, rfl, by decide +kernel, rfl, by decide +kernel, by decide +kernel⟩
abbrev N__law_opacity : List Str := ["_law_dice", "_law_bottom"]
abbrev st__law_opacity : Stmt := topS 72
theorem S__law_opacity : FnScope N__law_opacity ["_law_dice"] (defScope st__law_opacity) := ⟨rfl, rfl, rfl, by decide +kernel, rfl, by decide +kernel, by decide +kernel⟩
abbrev N__law_matrix : List Str := ["_law_dice", "_law_turns"]
abbrev st__law_matrix : Stmt := topS 73
theorem S__law_matrix : FnScope N__law_matrix ["_law_dice"] (defScope st__law_matrix) := ⟨rfl, rfl, rfl, by decide +kernel, rfl, by decide +kernel, by decide +kernel⟩
abbrev N__law_layer : List Str := ["_law_dice", "_law_far", "_law_deep", "_law_pick", "_law_inner", "_law_clip", "_law_colour", "_law_turn"]
abbrev st__law_layer : Stmt := topS 74
theorem S__law_layer : FnScope N__law_layer ["_law_dice", "_law_far", "_law_deep"] (defScope st__law_layer) := ⟨rfl, rfl, rfl, by decide +kernel, rfl, by decide +kernel, by decide +kernel⟩
abbrev N__law_drawing : List Str := ["_law_dice", "_law_many", "_law_far", "_law_found", "_law_turn"]
abbrev st__law_drawing : Stmt := topS 75
theorem S__law_drawing : FnScope N__law_drawing ["_law_dice", "_law_many", "_law_far"] (defScope st__law_drawing) := ⟨rfl, rfl, rfl, by decide +kernel, rfl, by decide +kernel, by decide +kernel⟩
abbrev N__law_size : List Str := ["_law_layers", "_law_count", "_law_layer_here", "_law_shape_here", "_law_loop_here"]
abbrev st__law_size : Stmt := topS 76
theorem S__law_size : FnScope N__law_size ["_law_layers"] (defScope st__law_size) := ⟨rfl, rfl, rfl, by decide +kernel, rfl, by decide +kernel, by decide +kernel⟩
abbrev N__law_shape_text : List Str := ["_law_shape_here", "_law_rows", "_law_loop_here", "_law_x", "_law_y"]
abbrev st__law_shape_text : Stmt := topS 77
theorem S__law_shape_text : FnScope N__law_shape_text ["_law_shape_here"] (defScope st__law_shape_text) := ⟨rfl, rfl, rfl, by decide +kernel, rfl, by decide +kernel, by decide +kernel⟩
abbrev N__law_text : List Str := ["_law_drawing_here", "_law_found", "_law_layer_here", "_law_clip", "_law_numbers", "_law_row", "_law_part", "_law_one"]
abbrev st__law_text : Stmt := topS 78
theorem S__law_text : FnScope N__law_text ["_law_drawing_here"] (defScope st__law_text) := ⟨rfl, rfl, rfl, by decide +kernel, rfl, by decide +kernel, by decide +kernel⟩
abbrev N_law : List Str := ["_law_script", "_law_dice", "_law_drawing_here", "_law_text_here", "_law_turn", "_law_at", "_law_sign", "_law_bent", "_law_made", "_law_cases", "_law_bad", "_law_number"]
abbrev st_law : Stmt := topS 79
theorem S_law : FnScope N_law ["_law_script"] (defScope st_law) := ⟨rfl, rfl, rfl, by decide +kernel, rfl, by decide +kernel, by decide +kernel⟩
end K30

set_option Elab.async false
set_option linter.all false
set_option maxRecDepth 100000
set_option maxHeartbeats 4000000
namespace K30
variable [DL.Tbs]
open PySem PySem.Spec PyProof.Rows L2 DL

/-! ### what the program means, over data -/
def wholeM (v : PyData) : Bool := isInt v && !isBool v
def inR (lo hi : Int) : PyData → Bool
  | .int i => decide (lo ≤ i) && decide (i ≤ hi)
  | _ => false
def areM (v : PyData) (n lo hi : Int) : Bool := match v with
  | .tuple xs => decide ((xs.length : Int) = n) && xs.all (inR lo hi)
  | _ => false
def loopM (v : PyData) : Bool := match v with
  | .tuple xs => (decide ((3 : Int) ≤ (xs.length : Int)) && decide ((xs.length : Int) ≤ 8)) && xs.all fun p => areM p 2 (-9) 9
  | _ => false
def ruleM (r : PyData) : Bool := [PyData.str "odd", .str "turns"].any fun z => PyData.eqv z r
def loopsM (v : PyData) : Bool := match v with
  | .tuple ls => (decide ((1 : Int) ≤ (ls.length : Int)) && decide ((ls.length : Int) ≤ 3)) && ls.all loopM
  | _ => false
def shapeM (v : PyData) : Bool := match v with
  | .tuple [r, l] => ruleM r && loopsM l
  | _ => false
/-- the rule's place holds something flat -/
def okS (v : PyData) : Bool := match v with
  | .tuple [r, _] => flatD r
  | _ => true

def colourM (v : PyData) : Bool := areM v 3 0 9
def topLe (v : PyData) : Bool := match v with
  | .tuple [.int a, .int b] => decide (a ≤ b)
  | _ => false
def opacityM (v : PyData) : Bool := areM v 2 1 6 && topLe v
def detM (v : PyData) : Bool := match v with
  | .tuple (.int a :: .int b :: .int c :: .int d :: _) => !(a * d == b * c)
  | _ => false
def headT (v : PyData) : PyData := match v with
  | .tuple xs => .tuple (xs.take 4)
  | x => x
def tailT (v : PyData) : PyData := match v with
  | .tuple xs => .tuple (xs.drop 4)
  | x => x
def matrixM (v : PyData) : Bool := areM (headT v) 4 (-2) 2 && (detM v && areM (tailT v) 2 (-9) 9)
section
variable {P : Program} {w : World} {K : PySem.W.Frag} {mg : Str → Option Value} {base : Heap}
structure Blt (mg : Str → Option Value) : Prop where
  b_isinstance : mg "isinstance" = none
  b_tuple : mg "tuple" = none
  b_int : mg "int" = none
  b_bool : mg "bool" = none
  b_len : mg "len" = none
  b_all : mg "all" = none
  b_sum : mg "sum" = none

local macro_rules | `(tactic| trivial) => `(tactic| first
  | exact ev_int | exact ev_bl | exact ev_str | exact ev_non | exact ev_ty
  | exact ev_var rfl nofun
  | exact ea_nil
  | apply ea_cons
  | refine ev_and ?_ (fun _ => ?_)
  | refine ev_or ?_ (fun _ => ?_)
  | refine ev_not ?_
  | apply ev_cb
  | apply ev_op
  | apply ev_un
  | refine eb_val ?_ | refine eb_test ?_
  | refine eb_and ?_ (fun _ => ?_)
  | refine eb_or ?_ (fun _ => ?_)
  | refine eb_not ?_
  | exact c_tup | exact c_int | exact c_bool | exact c_str
  | exact c_len rfl
  | exact o_neg | exact o_i0b | exact o_addI | exact o_eqI | exact o_neI | exact o_eqS | exact o_neS)

theorem c_is_whole (T : Blt mg) (TD : DefT K mg "is_whole" st_is_whole ["value"]) : PureC P w K mg base 1 "is_whole" ["value"] (fun ds y => ∃ v, ds = [v] ∧ y = .bool (wholeM v)) := by
  refine mkPure TD S_is_whole fun f cdv A outer s H E hr => ⟨_, (pss_one (ps_ret (pe_and (pe_callB (kIsi (K := K)) (by rfl) T.b_isinstance (by decide +kernel) (pa_cons (pv 0) (pa_cons (pe_bltn (v := .ty "int") (u := .type "int") (by rfl) T.b_int (by decide +kernel) rfl) pa_nil))) (pe_one (pe_not (pe_callB (kIsi (K := K)) (by rfl) T.b_isinstance (by decide +kernel) (pa_cons (pv 0) (pa_cons (pe_bltn (v := .ty "bool") (u := .type "bool") (by rfl) T.b_bool (by decide +kernel) rfl) pa_nil)))))))), ?_⟩
  rintro ds m y hl ⟨v, rfl, rfl⟩
  refine sv_ret0 ?_
  repeat' trivial

theorem c_are_whole (T : Blt mg) (TD : DefT K mg "are_whole" st_are_whole ["value", "many", "low", "high"]) (D_is_whole : PureC P w K mg base 1 "is_whole" ["value"] (fun ds y => ∃ v, ds = [v] ∧ y = .bool (wholeM v))) :
    PureC P w K mg base 2 "are_whole" ["value", "many", "low", "high"] (fun ds y => ∃ v n lo hi, ds = [v, .int n, .int lo, .int hi] ∧ n ≤ 1000 ∧ y = .bool (areM v n lo hi)) := by
  refine mkPure TD S_are_whole fun f cdv A outer s H E hr => ?_
  have hu := hr.units
  refine ⟨_, (pss_one (ps_ret (pe_and (pe_callB (kIsi (K := K)) (by rfl) T.b_isinstance (by decide +kernel) (pa_cons (pv 0) (pa_cons (pe_bltn (v := .ty "tuple") (u := .type "tuple") (by rfl) T.b_tuple (by decide +kernel) rfl) pa_nil))) (pe_and (pe_cmpR (kEq (K := K) hu) (pe_callB (kLen (K := K)) (by rfl) T.b_len (by decide +kernel) (pa_cons (pv 0) pa_nil)) (pv 1) (nomark _)) (pe_one (pe_callB (kAll (K := K) rfl) (by rfl) T.b_all (by decide +kernel) (pa_cons (pe_lc (own := [("number", 4)]) (by rfl) S_are_whole.nd (kSeq (K := K) (pv 0)) (blkOk_by (N := N_are_whole) (sc := defScope st_are_whole) (by decide +kernel)) (fun _ _ _ _ _ => pg_name (i := 4) S_are_whole.nd rfl (by first | exact Or.inl rfl | exact Or.inr rfl)) (fun _ _ _ _ _ => pts_nil) (fun _ _ _ _ _ => (pe_and (pe_def D_is_whole (hr.mono (by omega)) (by rfl) pass0 (pa_cons (pv 4) pa_nil)) (pe_one (pe_chain op_le op_le (pv 2) (pv 4) (pv 3)))))) pa_nil))))))), ?_⟩
  rintro ds m y hl ⟨v, n, lo, hi, rfl, hn, rfl⟩
  refine sv_ret0 ?_
  cases v with
  | tuple xs =>
    refine ev_cast (r := .d (.bool (isTup (.tuple xs) && (((xs.length : Int) == n) && xs.all (inR lo hi))))) (ev_and (by repeat' trivial) fun _ => ev_and (by repeat' trivial) fun hlen => ?_) ?_
    · refine ev_all (ei_seqT (by repeat' trivial)) (by simp at hlen; omega) fun d hd => ?_
      cases d with
      | int i =>
        refine ev_and (a := true) (ev_pure (ea_cons (ev_var rfl nofun) ea_nil) (ds := [.int i]) rfl ⟨_, rfl, rfl⟩ rfl) fun _ => ?_
        exact ev_chain (ev_var rfl nofun) (ev_var rfl nofun) o_i0b (fun _ => ev_var rfl nofun) (fun _ => o_i0b)
      | _ => exact ev_andF (ev_pure (ea_cons (ev_var rfl nofun) ea_nil) (ds := [_]) rfl ⟨_, rfl, rfl⟩ rfl)
    · show Sl.d (.bool (true && _)) = _
      rw [Bool.true_and]
      rfl
  | _ => exact ev_andF (by repeat' trivial)

abbrev R_is_whole : List PyData → PyData → Prop := fun ds y => ∃ v, ds = [v] ∧ y = .bool (wholeM v)
abbrev R_are_whole : List PyData → PyData → Prop := fun ds y => ∃ v n lo hi, ds = [v, .int n, .int lo, .int hi] ∧ n ≤ 1000 ∧ y = .bool (areM v n lo hi)
theorem ev_are {E : XK} {es : List Sl} {m m1 : M} {t : TA} {v : PyData} {n lo hi : Int} (h : EvA K t es m [.d v, .d (.int n), .d (.int lo), .d (.int hi)] m1) (hn : n ≤ 1000) :
    EvE K (tCall (spD K 4 (pureG R_are_whole)) [] E t) es m (.d (.bool (areM v n lo hi))) m1 := ev_pure h (ds := [v, .int n, .int lo, .int hi]) rfl ⟨v, n, lo, hi, rfl, hn, rfl⟩ rfl

abbrev R_is_loop : List PyData → PyData → Prop := fun ds y => ∃ v, ds = [v] ∧ y = .bool (loopM v)
theorem c_is_loop (T : Blt mg) (TD : DefT K mg "is_loop" st_is_loop ["value"]) (D_are_whole : PureC P w K mg base 2 "are_whole" ["value", "many", "low", "high"] R_are_whole) (h_FARTHEST : ∃ t, mg "FARTHEST" = some (.int 9 t)) :
    PureC P w K mg base 3 "is_loop" ["value"] R_is_loop := by
  refine mkPure TD S_is_loop fun f cdv A outer s H E hr => ?_
  have hu := hr.units
  refine ⟨_, (pss_one (ps_ret (pe_and (pe_callB (kIsi (K := K)) (by rfl) T.b_isinstance (by decide +kernel) (pa_cons (pv 0) (pa_cons (pe_bltn (v := .ty "tuple") (u := .type "tuple") (by rfl) T.b_tuple (by decide +kernel) rfl) pa_nil))) (pe_and (pe_chain op_le op_le pe_int (pe_callB (kLen (K := K)) (by rfl) T.b_len (by decide +kernel) (pa_cons (pv 0) pa_nil)) pe_int) (pe_one (pe_callB (kAll (K := K) rfl) (by rfl) T.b_all (by decide +kernel) (pa_cons (pe_lc (own := [("pair", 1)]) (by rfl) S_is_loop.nd (kSeq (K := K) (pv 0)) (blkOk_by (N := N_is_loop) (sc := defScope st_is_loop) (by decide +kernel)) (fun _ _ _ _ _ => pg_name (i := 1) S_is_loop.nd rfl (by first | exact Or.inl rfl | exact Or.inr rfl)) (fun _ _ _ _ _ => pts_nil) (fun _ _ _ _ _ => (pe_def D_are_whole (hr.mono (by omega)) (by rfl) pass0 (pa_cons (pv 1) (pa_cons pe_int (pa_cons (pe_un un_neg (pe_glob (v := .int 9) (by rfl) h_FARTHEST.choose_spec ⟨_, rfl⟩)) (pa_cons (pe_glob (v := .int 9) (by rfl) h_FARTHEST.choose_spec ⟨_, rfl⟩) pa_nil))))))) pa_nil))))))), ?_⟩
  rintro ds m y hl ⟨v, rfl, rfl⟩
  refine sv_ret0 ?_
  cases v with
  | tuple xs =>
    refine ev_andT (by repeat' trivial) (ev_and (ev_chain (by repeat' trivial) (by repeat' trivial) o_i0b (fun _ => by repeat' trivial) (fun _ => o_i0b)) fun hlen => ?_)
    refine ev_all (ei_seqT (by repeat' trivial)) (by simp at hlen; omega) fun d hd => ?_
    exact ev_are (by repeat' trivial) (by decide)
  | _ => exact ev_andF (by repeat' trivial)

abbrev R_is_shape : List PyData → PyData → Prop := fun ds y => ∃ v, ds = [v] ∧ okS v = true ∧ y = .bool (shapeM v)
theorem c_is_shape (T : Blt mg) (TD : DefT K mg "is_shape" st_is_shape ["value"]) (D_is_loop : PureC P w K mg base 3 "is_loop" ["value"] R_is_loop)
    (h_RULES : ∃ a, mg "RULES" = some (.ref a) ∧ ∀ H, Dp K H (.ref a) (.tuple [.str "odd", .str "turns"])) :
    PureC P w K mg base 4 "is_shape" ["value"] R_is_shape := by
  refine mkPure TD S_is_shape fun f cdv A outer s H E hr => ?_
  have hu := hr.units
  have hu5 := hu5_of hr
  refine ⟨_, (pss_cons (ps_if (PW.pt (pw_or (pt_not (pt_val (pe_callB (kIsi (K := K)) (by rfl) T.b_isinstance (by decide +kernel) (pa_cons (pv 0) (pa_cons (pe_bltn (v := .ty "tuple") (u := .type "tuple") (by rfl) T.b_tuple (by decide +kernel) rfl) pa_nil))))) (pw_or1 (pt_cmpR (kNe (K := K) hu) (pe_callB (kLen (K := K)) (by rfl) T.b_len (by decide +kernel) (pa_cons (pv 0) pa_nil)) pe_int (nomark _))))) (pss_one (ps_ret pe_bl)) pss_nil)
      (pss_cons (ps_asg (pv 0) (kTupG (K := K) rfl (pgs_cons (pg_name (i := 1) S_is_shape.nd rfl (Or.inl rfl)) (pgs_cons (pg_name (i := 2) S_is_shape.nd rfl (Or.inl rfl)) pgs_nil))))
      (pss_one (ps_ret (pe_and (pe_cmpR (kIn (K := K) hu5) (pv 1) (pe_glob (v := .ref h_RULES.choose) (by rfl) h_RULES.choose_spec.1 rfl) (by rfl)) (pe_and (pe_callB (kIsi (K := K)) (by rfl) T.b_isinstance (by decide +kernel) (pa_cons (pv 2) (pa_cons (pe_bltn (v := .ty "tuple") (u := .type "tuple") (by rfl) T.b_tuple (by decide +kernel) rfl) pa_nil))) (pe_and (pe_chain op_le op_le pe_int (pe_callB (kLen (K := K)) (by rfl) T.b_len (by decide +kernel) (pa_cons (pv 2) pa_nil)) pe_int) (pe_one (pe_callB (kAll (K := K) rfl) (by rfl) T.b_all (by decide +kernel) (pa_cons (pe_lc (own := [("loop", 3)]) (by rfl) S_is_shape.nd (kSeq (K := K) (pv 2)) (blkOk_by (N := N_is_shape) (sc := defScope st_is_shape) (by decide +kernel)) (fun _ _ _ _ _ => pg_name (i := 3) S_is_shape.nd rfl (by first | exact Or.inl rfl | exact Or.inr rfl)) (fun _ _ _ _ _ => pts_nil) (fun _ _ _ _ _ => (pe_def D_is_loop (hr.mono (by omega)) (by rfl) pass0 (pa_cons (pv 3) pa_nil)))) pa_nil)))))))))), ?_⟩
  rintro ds m y hl ⟨v, rfl, hok, rfl⟩
  cases v with
  | tuple xs =>
    by_cases h2 : xs.length = 2
    · obtain ⟨r, l, rfl⟩ : ∃ r l, xs = [r, l] := by
        match xs, h2 with
        | [r, l], _ => exact ⟨r, l, rfl⟩
      refine sv_ifsF (m1 := m) (eb_orF (eb_notT (by repeat' trivial)) (by repeat' trivial)) ?_
      refine sv_seq (sv_asg (ev_var rfl nofun) (gv_tup (gvs_cons gv_name (gvs_cons gv_name gvs_nil)) rfl)) ?_
      refine sv_ret0 ?_
      refine ev_and (a := ruleM r) (ev_op (ev_var rfl nofun) (ev_c fun H0 ρ => h_RULES.choose_spec.2 H0) (o_inT hok rfl)) fun _ => ?_
      cases l with
      | tuple ls =>
        refine ev_andT (by repeat' trivial) (ev_and (ev_chain (by repeat' trivial) (by repeat' trivial) o_i0b (fun _ => by repeat' trivial) (fun _ => o_i0b)) fun hlen => ?_)
        refine ev_all (ei_seqT (by repeat' trivial)) (by simp at hlen; omega) fun d hd => ?_
        exact ev_pure (by repeat' trivial) (ds := [d]) rfl ⟨d, rfl, rfl⟩ rfl
      | _ => exact ev_andF (by repeat' trivial)
    · have e : shapeM (.tuple xs) = false := by
        unfold shapeM
        split
        · rename_i q
          cases q
          exact absurd rfl h2
        · rfl
      rw [e]
      refine sv_ifsT (m1 := m) (eb_orF (eb_notT (by repeat' trivial)) (eb_cast (b := !((xs.length : Int) == 2)) (by repeat' trivial) ?_)) rfl (sv_ret0 ev_bl)
      rw [Bool.not_eq_true']
      exact beq_eq_false_iff_ne.mpr (by omega)
  | _ => exact sv_ifsT (m1 := m) (eb_orT (eb_notF (by repeat' trivial))) rfl (sv_ret0 ev_bl)

abbrev R_is_colour : List PyData → PyData → Prop := fun ds y => ∃ v, ds = [v] ∧ y = .bool (colourM v)
theorem c_is_colour (T : Blt mg) (TD : DefT K mg "is_colour" st_is_colour ["value"]) (D_are_whole : PureC P w K mg base 2 "are_whole" ["value", "many", "low", "high"] R_are_whole) :
    PureC P w K mg base 3 "is_colour" ["value"] R_is_colour := by
  refine mkPure TD S_is_colour fun f cdv A outer s H E hr => ?_
  refine ⟨_, (pss_one (ps_ret (pe_def D_are_whole (hr.mono (by omega)) (by rfl) pass0 (pa_cons (pv 0) (pa_cons pe_int (pa_cons pe_int (pa_cons pe_int pa_nil))))))), ?_⟩
  rintro ds m y hl ⟨v, rfl, rfl⟩
  exact sv_ret0 (ev_are (by repeat' trivial) (by decide))

theorem inR_int {lo hi : Int} {x : PyData} (h : inR lo hi x = true) : ∃ i, x = .int i ∧ lo ≤ i ∧ i ≤ hi := by
  cases x with
  | int i =>
    have h : (decide (lo ≤ i) && decide (i ≤ hi)) = true := h
    rw [Bool.and_eq_true] at h
    exact ⟨i, rfl, of_decide_eq_true h.1, of_decide_eq_true h.2⟩
  | _ => cases h
theorem are_get {v : PyData} {n lo hi : Int} (h : areM v n lo hi = true) : ∃ xs, v = .tuple xs ∧ (xs.length : Int) = n ∧ ∀ x, x ∈ xs → ∃ i, x = .int i ∧ lo ≤ i ∧ i ≤ hi := by
  cases v with
  | tuple xs =>
    have h : (decide ((xs.length : Int) = n) && xs.all (inR lo hi)) = true := h
    rw [Bool.and_eq_true, List.all_eq_true] at h
    exact ⟨xs, rfl, of_decide_eq_true h.1, fun x hx => inR_int (h.2 x hx)⟩
  | _ => cases h
theorem are_two {v : PyData} {lo hi : Int} (h : areM v 2 lo hi = true) : ∃ a b, v = .tuple [.int a, .int b] ∧ (lo ≤ a ∧ a ≤ hi) ∧ (lo ≤ b ∧ b ≤ hi) := by
  obtain ⟨xs, rfl, hl, hx⟩ := are_get h
  match xs, hl, hx with
  | [x, y], _, hx =>
    obtain ⟨a, rfl, ha⟩ := hx x (by simp)
    obtain ⟨b, rfl, hb⟩ := hx y (by simp)
    exact ⟨a, b, rfl, ha, hb⟩
  | [], hl, _ => simp at hl
  | [_], hl, _ => simp at hl
  | _ :: _ :: _ :: _, hl, _ => simp at hl; omega
end
end K30

set_option Elab.async false
set_option linter.all false
set_option maxRecDepth 100000
set_option maxHeartbeats 4000000
namespace K30
variable [DL.Tbs]
open PySem PySem.Spec PyProof.Rows L2 DL
def fillM (xs : List PyData) : Bool := match xs with
  | [_, s, c, o] => shapeM s && (colourM c && opacityM o)
  | _ => false
def rubM (xs : List PyData) : Bool := match xs with
  | [_, s, o] => shapeM s && opacityM o
  | _ => false
def layersOf (f : PyData → Bool) (v : PyData) : Bool := match v with
  | .tuple ls => decide ((ls.length : Int) ≤ 4) && ls.all f
  | _ => false
def groupOf (f : PyData → Bool) (xs : List PyData) : Bool := match xs with
  | [_, l, o, c, mt] => layersOf f l && (opacityM o && ((isNone c || shapeM c) && matrixM mt))
  | _ => false
def kindIs (k : PyData) (s : Str) : Bool := match k with
  | .str x => decide (x = s)
  | _ => false
def nestedM : Nat → PyData → Bool
  | n, .tuple (.str k :: xs) => if k = "fill" then fillM (.str k :: xs) else if k = "rub" then rubM (.str k :: xs) else decide (k = "group") && (match n with
    | 0 => false
    | n + 1 => groupOf (nestedM n) (.str k :: xs))
  | _, _ => false
def okAt (xs : List PyData) (i : Nat) : Bool := match xs[i]? with
  | some d => okS d
  | none => true
def okHead (f : PyData → Bool) (xs : List PyData) : Bool := match xs with
  | .tuple ls :: _ => ls.all f
  | _ => true
/-- what stands where a shape is wanted has a flat rule; a layer's first word is a text -/
def okL : Nat → PyData → Bool
  | n, .tuple (.str k :: xs) => (decide (k = "group") || okAt xs 0) && okAt xs 2 && (match n with
    | 0 => true
    | n + 1 => if k = "group" then okHead (okL n) xs else true)
  | _, .tuple (_ :: _) => false
  | _, _ => true
theorem okL_get {n : Nat} {k : Str} {xs : List PyData} (h : okL n (.tuple (.str k :: xs)) = true) : (k ≠ "group" → okAt xs 0 = true) ∧ okAt xs 2 = true ∧ ∀ j, n = j + 1 → k = "group" → okHead (okL j) xs = true := by
  cases n with
  | zero =>
    unfold okL at h
    rw [Bool.and_eq_true, Bool.and_eq_true] at h
    exact ⟨fun hk => by
      have z := h.1.1
      rw [decide_eq_false hk] at z
      exact z, h.1.2, fun j e => by cases e⟩
  | succ n =>
    unfold okL at h
    rw [Bool.and_eq_true, Bool.and_eq_true] at h
    refine ⟨fun hk => by
      have z := h.1.1
      rw [decide_eq_false hk] at z
      exact z, h.1.2, fun j e hk => ?_⟩
    cases e
    have h2 : (if k = "group" then okHead (okL n) xs else true) = true := h.2
    rw [if_pos hk] at h2
    exact h2
section
variable {P : Program} {w : World} {K : PySem.W.Frag} {mg : Str → Option Value} {base : Heap}
local macro_rules | `(tactic| trivial) => `(tactic| first
  | exact ev_int | exact ev_bl | exact ev_str | exact ev_non | exact ev_ty
  | exact ev_var rfl nofun
  | exact ea_nil
  | apply ea_cons
  | refine ev_and ?_ (fun _ => ?_)
  | refine ev_or ?_ (fun _ => ?_)
  | refine ev_not ?_
  | apply ev_cb
  | apply ev_op
  | apply ev_un
  | refine eb_val ?_ | refine eb_test ?_
  | refine eb_and ?_ (fun _ => ?_)
  | refine eb_or ?_ (fun _ => ?_)
  | refine eb_not ?_
  | exact c_tup | exact c_int | exact c_bool | exact c_str
  | exact c_len rfl
  | exact o_neg | exact o_i0b | exact o_addI | exact o_eqI | exact o_neI | exact o_eqS | exact o_neS)

abbrev R_is_opacity : List PyData → PyData → Prop := fun ds y => ∃ v, ds = [v] ∧ y = .bool (opacityM v)
theorem c_is_opacity (T : Blt mg) (TD : DefT K mg "is_opacity" st_is_opacity ["value"]) (D_are_whole : PureC P w K mg base 2 "are_whole" ["value", "many", "low", "high"] R_are_whole) :
    PureC P w K mg base 3 "is_opacity" ["value"] R_is_opacity := by
  refine mkPure TD S_is_opacity fun f cdv A outer s H E hr => ?_
  refine ⟨_, (pss_one (ps_ret (pe_and (pe_def D_are_whole (hr.mono (by omega)) (by rfl) pass0 (pa_cons (pv 0) (pa_cons pe_int (pa_cons pe_int (pa_cons pe_int pa_nil))))) (pe_one (pe_cmpR op_le (pe_ix (kIx (K := K)) (pv 0) pe_int (fun _ _ => rfl)) (pe_ix (kIx (K := K)) (pv 0) pe_int (fun _ _ => rfl)) (nomark _)))))), ?_⟩
  rintro ds m y hl ⟨v, rfl, rfl⟩
  refine sv_ret0 (ev_and (ev_are (by repeat' trivial) (by decide)) fun h => ?_)
  obtain ⟨a, b, rfl, _, _⟩ := are_two h
  exact ev_op (ev_at (j := 0) rfl rfl rfl) (ev_at (j := 1) rfl rfl rfl) o_i0b

abbrev R_is_matrix : List PyData → PyData → Prop := fun ds y => ∃ v, ds = [v] ∧ y = .bool (matrixM v)
theorem c_is_matrix (T : Blt mg) (TD : DefT K mg "is_matrix" st_is_matrix ["value"]) (D_are_whole : PureC P w K mg base 2 "are_whole" ["value", "many", "low", "high"] R_are_whole) (h_FARTHEST : ∃ t, mg "FARTHEST" = some (.int 9 t)) :
    PureC P w K mg base 3 "is_matrix" ["value"] R_is_matrix := by
  refine mkPure TD S_is_matrix fun f cdv A outer s H E hr => ?_
  have hu := hr.units
  refine ⟨_, (pss_cons (ps_if (PW.pt (pw_or (pt_not (pt_val (pe_callB (kIsi (K := K)) (by rfl) T.b_isinstance (by decide +kernel) (pa_cons (pv 0) (pa_cons (pe_bltn (v := .ty "tuple") (u := .type "tuple") (by rfl) T.b_tuple (by decide +kernel) rfl) pa_nil))))) (pw_or1 (pt_not (pt_val (pe_def D_are_whole (hr.mono (by omega)) (by rfl) pass0 (pa_cons (pe_slice (kSl (K := K)) (pv 0) po_none (po_some pe_int)) (pa_cons pe_int (pa_cons (pe_un un_neg pe_int) (pa_cons pe_int pa_nil)))))))))) (pss_one (ps_ret pe_bl)) pss_nil)
      (pss_cons (ps_asg (pe_slice (kSl (K := K)) (pv 0) po_none (po_some pe_int)) (kTupG (K := K) rfl (pgs_cons (pg_name (i := 1) S_is_matrix.nd rfl (Or.inl rfl)) (pgs_cons (pg_name (i := 2) S_is_matrix.nd rfl (Or.inl rfl)) (pgs_cons (pg_name (i := 3) S_is_matrix.nd rfl (Or.inl rfl)) (pgs_cons (pg_name (i := 4) S_is_matrix.nd rfl (Or.inl rfl)) pgs_nil))))))
      (pss_one (ps_ret (pe_and (pe_cmpR (kNe (K := K) hu) (pe_op (kMul (K := K)) (pv 1) (pv 4)) (pe_op (kMul (K := K)) (pv 2) (pv 3)) (nomark _)) (pe_one (pe_def D_are_whole (hr.mono (by omega)) (by rfl) pass0 (pa_cons (pe_slice (kSl (K := K)) (pv 0) (po_some pe_int) po_none) (pa_cons pe_int (pa_cons (pe_un un_neg (pe_glob (v := .int 9) (by rfl) h_FARTHEST.choose_spec ⟨_, rfl⟩)) (pa_cons (pe_glob (v := .int 9) (by rfl) h_FARTHEST.choose_spec ⟨_, rfl⟩) pa_nil))))))))))), ?_⟩
  rintro ds m y hl ⟨v, rfl, rfl⟩
  cases v with
  | tuple xs =>
    have hsl : ∀ es : List Sl, es[0]? = some (.d (.tuple xs)) → EvE K (tSl (rSlA K) (tVar 0) tNoPart (tPart (tC (.int 4)))) es m (.d (headT (.tuple xs))) m := fun es he => ev_to (k := 4) (ev_var he nofun)
    have hsl2 : ∀ es : List Sl, es[0]? = some (.d (.tuple xs)) → EvE K (tSl (rSlA K) (tVar 0) (tPart (tC (.int 4))) tNoPart) es m (.d (tailT (.tuple xs))) m := fun es he => ev_from (k := 4) (ev_var he nofun)
    cases hh : areM (headT (.tuple xs)) 4 (-2) 2 with
    | false =>
      have e : matrixM (.tuple xs) = false := by
        unfold matrixM
        rw [hh]
        rfl
      rw [e]
      exact sv_ifsT (m1 := m) (eb_orF (eb_notT (by repeat' trivial)) (eb_notF (eb_cast (eb_val (ev_are (ea_cons (hsl _ rfl) (ea_cons ev_int (ea_cons (ev_un ev_int o_neg) (ea_cons ev_int ea_nil)))) (by decide))) hh))) rfl (sv_ret0 ev_bl)
    | true =>
      obtain ⟨ys, e1, e2, e3⟩ := are_get hh
      obtain ⟨a, b, c, d, rest, rfl, ha, hb, hc, hd⟩ : ∃ a b c d rest, xs = .int a :: .int b :: .int c :: .int d :: rest ∧ (-2 ≤ a ∧ a ≤ 2) ∧ (-2 ≤ b ∧ b ≤ 2) ∧ (-2 ≤ c ∧ c ≤ 2) ∧ (-2 ≤ d ∧ d ≤ 2) := by
        have e1 : xs.take 4 = ys := PyData.tuple.inj e1
        match xs, e1, e2, e3 with
        | x :: y :: z :: u :: rest, e1, e2, e3 =>
          have e1 : [x, y, z, u] = ys := e1
          subst e1
          obtain ⟨a, rfl, ha⟩ := e3 x (by simp)
          obtain ⟨b, rfl, hb⟩ := e3 y (by simp)
          obtain ⟨c, rfl, hc⟩ := e3 z (by simp)
          obtain ⟨d, rfl, hd⟩ := e3 u (by simp)
          exact ⟨a, b, c, d, rest, rfl, ha, hb, hc, hd⟩
        | [], e1, e2, _ => rw [← e1] at e2; exact absurd e2 (by decide)
        | [_], e1, e2, _ => rw [← e1] at e2; exact absurd e2 (by show ¬ ((1 : Nat) : Int) = 4; decide)
        | [_, _], e1, e2, _ => rw [← e1] at e2; exact absurd e2 (by show ¬ ((2 : Nat) : Int) = 4; decide)
        | [_, _, _], e1, e2, _ => rw [← e1] at e2; exact absurd e2 (by show ¬ ((3 : Nat) : Int) = 4; decide)
      refine sv_ifsF (m1 := m) (eb_orF (eb_notT (by repeat' trivial)) (eb_notT (eb_cast (eb_val (ev_are (ea_cons (hsl _ rfl) (ea_cons ev_int (ea_cons (ev_un ev_int o_neg) (ea_cons ev_int ea_nil)))) (by decide))) hh))) ?_
      refine sv_seq (m1 := m) (sv_asg (hsl _ rfl) (gv_tup (gvs_cons gv_name (gvs_cons gv_name (gvs_cons gv_name (gvs_cons gv_name gvs_nil)))) rfl)) ?_
      refine sv_ret0 (ev_cast (ev_and (ev_op (ev_op (ev_var rfl nofun) (ev_var rfl nofun) (o_mulII (mul_ok (by omega) (by omega)))) (ev_op (ev_var rfl nofun) (ev_var rfl nofun) (o_mulII (mul_ok (by omega) (by omega)))) o_neI) fun _ => ev_are (ea_cons (hsl2 _ rfl) (ea_cons ev_int (ea_cons (ev_un ev_int o_neg) (ea_cons ev_int ea_nil)))) (by decide)) ?_)
      unfold matrixM
      rw [hh]
      rfl
  | _ => exact sv_ifsT (m1 := m) (eb_orT (eb_notF (by repeat' trivial))) rfl (sv_ret0 ev_bl)
end
end K30

set_option Elab.async false
set_option linter.all false
set_option maxRecDepth 100000
set_option maxHeartbeats 4000000
namespace K30
variable [DL.Tbs]
open PySem PySem.Spec PyProof.Rows L2 DL
section
variable {P : Program} {w : World} {K : PySem.W.Frag} {mg : Str → Option Value} {base : Heap}
local macro_rules | `(tactic| trivial) => `(tactic| first
  | exact ev_int | exact ev_bl | exact ev_str | exact ev_non | exact ev_ty
  | exact ev_var rfl nofun
  | exact ea_nil
  | apply ea_cons
  | refine ev_and ?_ (fun _ => ?_)
  | refine ev_or ?_ (fun _ => ?_)
  | refine ev_not ?_
  | apply ev_cb
  | apply ev_op
  | apply ev_un
  | refine eb_val ?_ | refine eb_test ?_
  | refine eb_and ?_ (fun _ => ?_)
  | refine eb_or ?_ (fun _ => ?_)
  | refine eb_not ?_
  | exact c_tup | exact c_int | exact c_bool | exact c_str
  | exact c_len rfl
  | exact o_neg | exact o_i0b | exact o_addI | exact o_eqI | exact o_neI | exact o_eqS | exact o_neS)

theorem ev_shape {E : XK} {es : List Sl} {m m1 : M} {t : TA} {v : PyData} (h : EvA K t es m [.d v] m1) (hk : okS v = true) : EvE K (tCall (spD K 1 (pureG R_is_shape)) [] E t) es m (.d (.bool (shapeM v))) m1 := ev_pure h (ds := [v]) rfl ⟨v, rfl, hk, rfl⟩ rfl
theorem ev_colour {E : XK} {es : List Sl} {m m1 : M} {t : TA} {v : PyData} (h : EvA K t es m [.d v] m1) : EvE K (tCall (spD K 1 (pureG R_is_colour)) [] E t) es m (.d (.bool (colourM v))) m1 := ev_pure h (ds := [v]) rfl ⟨v, rfl, rfl⟩ rfl
theorem ev_opacity {E : XK} {es : List Sl} {m m1 : M} {t : TA} {v : PyData} (h : EvA K t es m [.d v] m1) : EvE K (tCall (spD K 1 (pureG R_is_opacity)) [] E t) es m (.d (.bool (opacityM v))) m1 := ev_pure h (ds := [v]) rfl ⟨v, rfl, rfl⟩ rfl
theorem ev_matrix {E : XK} {es : List Sl} {m m1 : M} {t : TA} {v : PyData} (h : EvA K t es m [.d v] m1) : EvE K (tCall (spD K 1 (pureG R_is_matrix)) [] E t) es m (.d (.bool (matrixM v))) m1 := ev_pure h (ds := [v]) rfl ⟨v, rfl, rfl⟩ rfl
abbrev R_is_fill : List PyData → PyData → Prop := fun ds y => ∃ xs, ds = [.tuple xs] ∧ okAt xs 1 = true ∧ y = .bool (fillM xs)
abbrev R_is_rub : List PyData → PyData → Prop := fun ds y => ∃ xs, ds = [.tuple xs] ∧ okAt xs 1 = true ∧ y = .bool (rubM xs)
theorem c_is_fill (T : Blt mg) (TD : DefT K mg "is_fill" st_is_fill ["value"]) (D_is_shape : PureC P w K mg base 4 "is_shape" ["value"] R_is_shape) (D_is_colour : PureC P w K mg base 3 "is_colour" ["value"] R_is_colour) (D_is_opacity : PureC P w K mg base 3 "is_opacity" ["value"] R_is_opacity) :
    PureC P w K mg base 5 "is_fill" ["value"] R_is_fill := by
  refine mkPure TD S_is_fill fun f cdv A outer s H E hr => ?_
  have hu := hr.units
  refine ⟨_, (pss_one (ps_ret (pe_and (pe_cmpR (kEq (K := K) hu) (pe_callB (kLen (K := K)) (by rfl) T.b_len (by decide +kernel) (pa_cons (pv 0) pa_nil)) pe_int (nomark _)) (pe_and (pe_def D_is_shape (hr.mono (by omega)) (by rfl) pass0 (pa_cons (pe_ix (kIx (K := K)) (pv 0) pe_int (fun _ _ => rfl)) pa_nil)) (pe_and (pe_def D_is_colour (hr.mono (by omega)) (by rfl) pass0 (pa_cons (pe_ix (kIx (K := K)) (pv 0) pe_int (fun _ _ => rfl)) pa_nil)) (pe_one (pe_def D_is_opacity (hr.mono (by omega)) (by rfl) pass0 (pa_cons (pe_ix (kIx (K := K)) (pv 0) pe_int (fun _ _ => rfl)) pa_nil)))))))), ?_⟩
  rintro ds m y hl ⟨xs, rfl, hk, rfl⟩
  refine sv_ret0 ?_
  by_cases h4 : xs.length = 4
  · obtain ⟨k, a, b, c, rfl⟩ : ∃ k a b c, xs = [k, a, b, c] := by
      match xs, h4 with
      | [k, a, b, c], _ => exact ⟨k, a, b, c, rfl⟩
    refine ev_andT (by repeat' trivial) ?_
    exact ev_and (ev_shape (arg1 (ev_at (j := 1) rfl rfl rfl)) hk) fun _ => ev_and (ev_colour (arg1 (ev_at (j := 2) rfl rfl rfl))) fun _ => ev_opacity (arg1 (ev_at (j := 3) rfl rfl rfl))
  · have e : fillM xs = false := by
      unfold fillM
      split
      · exact absurd rfl h4
      · rfl
    rw [e]
    refine ev_andF (ev_cast (r := .d (.bool ((xs.length : Int) == 4))) (by repeat' trivial) ?_)
    rw [beq_eq_false_iff_ne.mpr (by omega)]
theorem c_is_rub (T : Blt mg) (TD : DefT K mg "is_rub" st_is_rub ["value"]) (D_is_shape : PureC P w K mg base 4 "is_shape" ["value"] R_is_shape) (D_is_opacity : PureC P w K mg base 3 "is_opacity" ["value"] R_is_opacity) :
    PureC P w K mg base 5 "is_rub" ["value"] R_is_rub := by
  refine mkPure TD S_is_rub fun f cdv A outer s H E hr => ?_
  have hu := hr.units
  refine ⟨_, (pss_one (ps_ret (pe_and (pe_cmpR (kEq (K := K) hu) (pe_callB (kLen (K := K)) (by rfl) T.b_len (by decide +kernel) (pa_cons (pv 0) pa_nil)) pe_int (nomark _)) (pe_and (pe_def D_is_shape (hr.mono (by omega)) (by rfl) pass0 (pa_cons (pe_ix (kIx (K := K)) (pv 0) pe_int (fun _ _ => rfl)) pa_nil)) (pe_one (pe_def D_is_opacity (hr.mono (by omega)) (by rfl) pass0 (pa_cons (pe_ix (kIx (K := K)) (pv 0) pe_int (fun _ _ => rfl)) pa_nil))))))), ?_⟩
  rintro ds m y hl ⟨xs, rfl, hk, rfl⟩
  refine sv_ret0 ?_
  by_cases h4 : xs.length = 3
  · obtain ⟨k, a, b, rfl⟩ : ∃ k a b, xs = [k, a, b] := by
      match xs, h4 with
      | [k, a, b], _ => exact ⟨k, a, b, rfl⟩
    refine ev_andT (by repeat' trivial) ?_
    exact ev_and (ev_shape (arg1 (ev_at (j := 1) rfl rfl rfl)) hk) fun _ => ev_opacity (arg1 (ev_at (j := 2) rfl rfl rfl))
  · have e : rubM xs = false := by
      unfold rubM
      split
      · exact absurd rfl h4
      · rfl
    rw [e]
    refine ev_andF (ev_cast (r := .d (.bool ((xs.length : Int) == 3))) (by repeat' trivial) ?_)
    rw [beq_eq_false_iff_ne.mpr (by omega)]

/-! ### groups within groups -/
def okLs (n : Nat) (v : PyData) : Bool := match v with
  | .tuple ls => ls.all (okL n)
  | _ => true
abbrev R_layers (n : Nat) : List PyData → PyData → Prop := fun ds y => ∃ v, ds = [v, .int n] ∧ okLs n v = true ∧ y = .bool (layersOf (nestedM n) v)
abbrev R_nested (n : Nat) : List PyData → PyData → Prop := fun ds y => ∃ v, ds = [v, .int n] ∧ okL n v = true ∧ y = .bool (nestedM n v)
def groupN (n : Nat) (xs : List PyData) : Bool := match n with
  | 0 => false
  | n + 1 => groupOf (nestedM n) xs
def okG (n : Nat) (xs : List PyData) : Bool := match n with
  | 0 => true
  | n + 1 => okAt xs 3 && (match xs with
    | _ :: l :: _ => okLs n l
    | _ => true)
abbrev R_group (n : Nat) : List PyData → PyData → Prop := fun ds y => ∃ xs, ds = [.tuple xs, .int n] ∧ okG n xs = true ∧ y = .bool (groupN n xs)

theorem c_layers (T : Blt mg) (TD : DefT K mg "are_layers" st_are_layers ["value", "deepest"]) {n k : Nat} (D_is_nested_layer : PureC P w K mg base k "is_nested_layer" ["value", "deepest"] (R_nested n)) (h_MOST_LAYERS : ∃ t, mg "MOST_LAYERS" = some (.int 4 t)) :
    PureC P w K mg base (k + 1) "are_layers" ["value", "deepest"] (R_layers n) := by
  refine mkPure TD S_are_layers fun f cdv A outer s H E hr => ?_
  refine ⟨_, (pss_one (ps_ret (pe_and (pe_callB (kIsi (K := K)) (by rfl) T.b_isinstance (by decide +kernel) (pa_cons (pv 0) (pa_cons (pe_bltn (v := .ty "tuple") (u := .type "tuple") (by rfl) T.b_tuple (by decide +kernel) rfl) pa_nil))) (pe_and (pe_cmpR op_le (pe_callB (kLen (K := K)) (by rfl) T.b_len (by decide +kernel) (pa_cons (pv 0) pa_nil)) (pe_glob (v := .int 4) (by rfl) h_MOST_LAYERS.choose_spec ⟨_, rfl⟩) (nomark _)) (pe_one (pe_callB (kAll (K := K) rfl) (by rfl) T.b_all (by decide +kernel) (pa_cons (pe_lc (own := [("layer", 2)]) (by rfl) S_are_layers.nd (kSeq (K := K) (pv 0)) (blkOk_by (N := N_are_layers) (sc := defScope st_are_layers) (by decide +kernel)) (fun _ _ _ _ _ => pg_name (i := 2) S_are_layers.nd rfl (by first | exact Or.inl rfl | exact Or.inr rfl)) (fun _ _ _ _ _ => pts_nil) (fun _ _ _ _ _ => (pe_def D_is_nested_layer (hr.mono (by omega)) (by rfl) pass0 (pa_cons (pv 2) (pa_cons (pv 1) pa_nil))))) pa_nil))))))), ?_⟩
  rintro ds m y hl ⟨v, rfl, hk, rfl⟩
  refine sv_ret0 ?_
  cases v with
  | tuple ls =>
    refine ev_andT (by repeat' trivial) (ev_and (by repeat' trivial) fun hlen => ?_)
    refine ev_all (ei_seqT (by repeat' trivial)) (by have := of_decide_eq_true hlen; omega) fun d hd => ?_
    exact ev_pure (arg2 (ev_var rfl nofun) (ev_var rfl nofun)) (ds := [d, .int n]) rfl ⟨d, rfl, List.all_eq_true.mp hk d hd, rfl⟩ rfl
  | _ => exact ev_andF (by repeat' trivial)

theorem c_group {k n : Nat} (T : Blt mg) (TD : DefT K mg "is_group" st_is_group ["value", "deepest"]) {g : List Sl → M → Sl → M → Prop} (D_are_layers : DefC P w K mg base CX0 k "are_layers" ["value", "deepest"] (spD K 2 g))
    (hg : ∀ j, n = j + 1 → g = pureG (R_layers j)) (h4 : 4 ≤ k)
    (D_is_shape : PureC P w K mg base 4 "is_shape" ["value"] R_is_shape) (D_is_opacity : PureC P w K mg base 3 "is_opacity" ["value"] R_is_opacity) (D_is_matrix : PureC P w K mg base 3 "is_matrix" ["value"] R_is_matrix) :
    PureC P w K mg base (k + 1) "is_group" ["value", "deepest"] (R_group n) := by
  refine mkPure TD S_is_group fun f cdv A outer s H E hr => ?_
  have hu := hr.units
  refine ⟨_, (pss_cons (ps_if (PW.pt (pw_or (pt_cmpR (kNe (K := K) hu) (pe_callB (kLen (K := K)) (by rfl) T.b_len (by decide +kernel) (pa_cons (pv 0) pa_nil)) pe_int (nomark _)) (pw_or1 (pt_cmpR (kEq (K := K) hu) (pv 1) pe_int (nomark _))))) (pss_one (ps_ret pe_bl)) pss_nil)
      (pss_cons (ps_asg (pv 0) (kTupG (K := K) rfl (pgs_cons (pg_name (i := 2) S_is_group.nd rfl (Or.inl rfl)) (pgs_cons (pg_name (i := 3) S_is_group.nd rfl (Or.inl rfl)) (pgs_cons (pg_name (i := 4) S_is_group.nd rfl (Or.inl rfl)) (pgs_cons (pg_name (i := 5) S_is_group.nd rfl (Or.inl rfl)) (pgs_cons (pg_name (i := 6) S_is_group.nd rfl (Or.inl rfl)) pgs_nil)))))))
      (pss_one (ps_ret (pe_and (pe_def D_are_layers (hr.mono (by omega)) (by rfl) pass0 (pa_cons (pv 3) (pa_cons (pe_op op_sub (pv 1) pe_int) pa_nil))) (pe_and (pe_def D_is_opacity (hr.mono (by omega)) (by rfl) pass0 (pa_cons (pv 4) pa_nil)) (pe_and (pe_or (pe_cmpR op_isN (pv 5) pe_non (nomark _)) (pe_one (pe_def D_is_shape (hr.mono (by omega)) (by rfl) pass0 (pa_cons (pv 5) pa_nil)))) (pe_one (pe_def D_is_matrix (hr.mono (by omega)) (by rfl) pass0 (pa_cons (pv 6) pa_nil)))))))))), ?_⟩
  rintro ds m y hl ⟨xs, rfl, hk, rfl⟩
  by_cases h5 : xs.length = 5
  · obtain ⟨a, l, o, c, mt, rfl⟩ : ∃ a l o c mt, xs = [a, l, o, c, mt] := by
      match xs, h5 with
      | [a, l, o, c, mt], _ => exact ⟨a, l, o, c, mt, rfl⟩
    cases n with
    | zero => exact sv_ifsT (m1 := m) (eb_orF (by repeat' trivial) (by repeat' trivial)) rfl (sv_ret0 ev_bl)
    | succ n =>
      have e := hg n rfl
      subst e
      have hk : (okAt [a, l, o, c, mt] 3 && okLs n l) = true := hk
      rw [Bool.and_eq_true] at hk
      refine sv_ifsF (m1 := m) (eb_orF (by repeat' trivial) (eb_cast (b := (((n + 1 : Nat) : Int) == 0)) (by repeat' trivial) (beq_eq_false_iff_ne.mpr (by omega)))) ?_
      refine sv_seq (m1 := m) (sv_asg (ev_var rfl nofun) (gv_tup (gvs_cons gv_name (gvs_cons gv_name (gvs_cons gv_name (gvs_cons gv_name (gvs_cons gv_name gvs_nil))))) rfl)) ?_
      refine sv_ret0 ?_
      refine ev_and (ev_pure (arg2 (ev_var rfl nofun) (ev_op (ev_var rfl nofun) ev_int o_i0)) (ds := [l, .int n]) ?_ ⟨l, rfl, hk.2, rfl⟩ rfl) fun _ => ?_
      · show [Sl.d l, Sl.d (.int (((n + 1 : Nat) : Int) - 1))] = [Sl.d l, Sl.d (.int (n : Int))]
        rw [show ((n + 1 : Nat) : Int) - 1 = (n : Int) by omega]
      · refine ev_and (ev_opacity (arg1 (ev_var rfl nofun))) fun _ => ?_
        refine ev_and (ev_or (ev_op (ev_var rfl nofun) ev_non o_isN) fun _ => ev_shape (arg1 (ev_var rfl nofun)) hk.1) fun _ => ?_
        exact ev_matrix (arg1 (ev_var rfl nofun))
  · have e : groupN n xs = false := by
      cases n with
      | zero => rfl
      | succ n =>
        show groupOf (nestedM n) xs = false
        unfold groupOf
        split
        · exact absurd rfl h5
        · rfl
    rw [e]
    refine sv_ifsT (m1 := m) (eb_orT (eb_cast (b := !((xs.length : Int) == 5)) (by repeat' trivial) ?_)) rfl (sv_ret0 ev_bl)
    rw [beq_eq_false_iff_ne.mpr (by omega)]
    rfl

theorem c_nested {k n : Nat} (T : Blt mg) (TD : DefT K mg "is_nested_layer" st_is_nested_layer ["value", "deepest"]) (h5 : 5 ≤ k) (D_is_fill : PureC P w K mg base 5 "is_fill" ["value"] R_is_fill) (D_is_rub : PureC P w K mg base 5 "is_rub" ["value"] R_is_rub)
    (D_is_group : PureC P w K mg base k "is_group" ["value", "deepest"] (R_group n)) : PureC P w K mg base (k + 1) "is_nested_layer" ["value", "deepest"] (R_nested n) := by
  refine mkPure TD S_is_nested_layer fun f cdv A outer s H E hr => ?_
  have hu := hr.units
  refine ⟨_, (pss_cons (ps_if (PW.pt (pw_or (pt_not (pt_val (pe_callB (kIsi (K := K)) (by rfl) T.b_isinstance (by decide +kernel) (pa_cons (pv 0) (pa_cons (pe_bltn (v := .ty "tuple") (u := .type "tuple") (by rfl) T.b_tuple (by decide +kernel) rfl) pa_nil))))) (pw_or1 (pt_cmpR (kEq (K := K) hu) (pe_callB (kLen (K := K)) (by rfl) T.b_len (by decide +kernel) (pa_cons (pv 0) pa_nil)) pe_int (nomark _))))) (pss_one (ps_ret pe_bl)) pss_nil)
      (pss_cons (ps_if (pt_cmpR (kEq (K := K) hu) (pe_ix (kIx (K := K)) (pv 0) pe_int (fun _ _ => rfl)) pe_str (nomark _)) (pss_one (ps_ret (pe_def D_is_fill (hr.mono (by omega)) (by rfl) pass0 (pa_cons (pv 0) pa_nil)))) pss_nil)
      (pss_cons (ps_if (pt_cmpR (kEq (K := K) hu) (pe_ix (kIx (K := K)) (pv 0) pe_int (fun _ _ => rfl)) pe_str (nomark _)) (pss_one (ps_ret (pe_def D_is_rub (hr.mono (by omega)) (by rfl) pass0 (pa_cons (pv 0) pa_nil)))) pss_nil)
      (pss_one (ps_ret (pe_and (pe_cmpR (kEq (K := K) hu) (pe_ix (kIx (K := K)) (pv 0) pe_int (fun _ _ => rfl)) pe_str (nomark _)) (pe_one (pe_def D_is_group (hr.mono (by omega)) (by rfl) pass0 (pa_cons (pv 0) (pa_cons (pv 1) pa_nil)))))))))), ?_⟩
  rintro ds m y hl ⟨v, rfl, hk, rfl⟩
  cases v with
  | tuple xs =>
    cases xs with
    | nil =>
      have e : nestedM n (.tuple []) = false := by
        unfold nestedM
        rfl
      rw [e]
      exact sv_ifsT (m1 := m) (eb_orF (eb_notT (by repeat' trivial)) (by repeat' trivial)) rfl (sv_ret0 ev_bl)
    | cons x xs =>
      cases x with
      | str k =>
        obtain ⟨k0, k2, k3⟩ := okL_get hk
        have k0 : k ≠ "group" → okAt (.str k :: xs) 1 = true := k0
        have hne : ((((PyData.str k :: xs).length : Nat) : Int) == 0) = false := beq_eq_false_iff_ne.mpr (by rw [List.length_cons]; omega)
        refine sv_ifsF (m1 := m) (eb_orF (eb_notT (by repeat' trivial)) (eb_cast (b := ((((PyData.str k :: xs).length : Nat) : Int) == 0)) (by repeat' trivial) hne)) ?_
        have hat : ∀ es : List Sl, es[0]? = some (.d (.tuple (.str k :: xs))) → EvE K (tOp (rIx K) (tVar 0) (tC (.int 0))) es m (.d (.str k)) m := fun es he => ev_at (j := 0) he rfl rfl
        by_cases f1 : k = "fill"
        · refine sv_ifsT (m1 := m) (eb_cast (eb_test (ev_op (hat _ rfl) ev_str o_eqS)) (decide_eq_true f1)) rfl (sv_ret0 ?_)
          have e : nestedM n (.tuple (.str k :: xs)) = fillM (.str k :: xs) := by
            unfold nestedM
            rw [if_pos f1]
          rw [e]
          exact ev_pure (arg1 (ev_var rfl nofun)) (ds := [_]) rfl ⟨_, rfl, k0 (by rw [f1]; decide), rfl⟩ rfl
        · refine sv_ifsF (m1 := m) (eb_cast (eb_test (ev_op (hat _ rfl) ev_str o_eqS)) (decide_eq_false f1)) ?_
          by_cases f2 : k = "rub"
          · refine sv_ifsT (m1 := m) (eb_cast (eb_test (ev_op (hat _ rfl) ev_str o_eqS)) (decide_eq_true f2)) rfl (sv_ret0 ?_)
            have e : nestedM n (.tuple (.str k :: xs)) = rubM (.str k :: xs) := by
              unfold nestedM
              rw [if_neg f1, if_pos f2]
            rw [e]
            exact ev_pure (arg1 (ev_var rfl nofun)) (ds := [_]) rfl ⟨_, rfl, k0 (by rw [f2]; decide), rfl⟩ rfl
          · refine sv_ifsF (m1 := m) (eb_cast (eb_test (ev_op (hat _ rfl) ev_str o_eqS)) (decide_eq_false f2)) (sv_ret0 ?_)
            have e : nestedM n (.tuple (.str k :: xs)) = (decide (k = "group") && groupN n (.str k :: xs)) := by
              cases n <;> (unfold nestedM; rw [if_neg f1, if_neg f2]; rfl)
            rw [e]
            refine ev_and (ev_op (hat _ rfl) ev_str o_eqS) fun hg => ev_pure (arg2 (ev_var rfl nofun) (ev_var rfl nofun)) (ds := [_, _]) rfl ⟨_, rfl, ?_, rfl⟩ rfl
            cases n with
            | zero => rfl
            | succ n =>
              show (okAt xs 2 && _) = true
              rw [k2, Bool.true_and]
              cases xs with
              | nil => rfl
              | cons l r =>
                cases l with
                | tuple ls => exact k3 n rfl (of_decide_eq_true hg)
                | _ => rfl
      | _ => exact absurd hk (by unfold okL; exact Bool.false_ne_true)
  | _ =>
    have e : ∀ v, isTup v = false → nestedM n v = false := fun v hv => by
      cases v with
      | tuple _ => cases hv
      | _ => unfold nestedM; rfl
    rw [e _ rfl]
    exact sv_ifsT (m1 := m) (eb_orT (eb_notF (by repeat' trivial))) rfl (sv_ret0 ev_bl)
end
end K30

set_option Elab.async false
set_option linter.all false
set_option maxRecDepth 100000
set_option maxHeartbeats 4000000
namespace K30
variable [DL.Tbs]
open PySem PySem.Spec PyProof.Rows L2 DL
/-! ### what a valid layer is made of -/
theorem nested_get {n : Nat} {v : PyData} (h : nestedM n v = true) :
    (∃ k s r, v = .tuple (.str k :: s :: r) ∧ k ≠ "group" ∧ shapeM s = true) ∨
    (∃ j ls o c mt, n = j + 1 ∧ v = .tuple [.str "group", .tuple ls, o, c, mt] ∧ ls.length ≤ 4 ∧ ls.all (nestedM j) = true ∧ (isNone c = true ∨ shapeM c = true)) := by
  cases v with
  | tuple xs =>
    cases xs with
    | cons x xs =>
      cases x with
      | str k =>
        by_cases f1 : k = "fill"
        · have h' : fillM (.str k :: xs) = true := by
            unfold nestedM at h
            rw [if_pos f1] at h
            exact h
          clear h
          rename _ => h
          unfold fillM at h
          split at h
          · rename_i q
            cases q
            rw [Bool.and_eq_true] at h
            exact .inl ⟨_, _, _, rfl, by rw [f1]; decide, h.1⟩
          · cases h
        · by_cases f2 : k = "rub"
          · have h' : rubM (.str k :: xs) = true := by
              unfold nestedM at h
              rw [if_neg f1, if_pos f2] at h
              exact h
            clear h
            rename _ => h
            unfold rubM at h
            split at h
            · rename_i q
              cases q
              rw [Bool.and_eq_true] at h
              exact .inl ⟨_, _, _, rfl, by rw [f2]; decide, h.1⟩
            · cases h
          · have h' : (decide (k = "group") && groupN n (.str k :: xs)) = true := by
              cases n <;> (unfold nestedM at h; rw [if_neg f1, if_neg f2] at h; exact h)
            clear h
            rw [Bool.and_eq_true] at h'
            obtain ⟨f3, h⟩ := h'
            have f3 := of_decide_eq_true f3
            subst f3
            cases n with
            | zero => cases h
            | succ j =>
              have h' : groupOf (nestedM j) (.str "group" :: xs) = true := h
              clear h
              rename _ => h
              unfold groupOf at h
              split at h
              · rename_i l o c mt q
                cases q
                simp only [Bool.and_eq_true, Bool.or_eq_true] at h
                obtain ⟨hl, _, hc, _⟩ := h
                cases l with
                | tuple ls =>
                  have hl : (decide ((ls.length : Int) ≤ 4) && ls.all (nestedM j)) = true := hl
                  rw [Bool.and_eq_true] at hl
                  exact .inr ⟨j, ls, o, c, mt, rfl, rfl, by have := of_decide_eq_true hl.1; omega, hl.2, hc⟩
                | _ => cases hl
              · cases h
      | _ => unfold nestedM at h; cases h
    | nil => unfold nestedM at h; cases h
  | _ => unfold nestedM at h; cases h
theorem shape_get {v : PyData} (h : shapeM v = true) : ∃ r ls, v = .tuple [r, .tuple ls] ∧ ls.length ≤ 3 ∧ ∀ l, l ∈ ls → ∃ ps, l = .tuple ps ∧ ps.length ≤ 8 := by
  unfold shapeM at h
  split at h
  · rename_i r l
    rw [Bool.and_eq_true] at h
    have h := h.2
    cases l with
    | tuple ls =>
      have h : ((decide ((1 : Int) ≤ (ls.length : Int)) && decide ((ls.length : Int) ≤ 3)) && ls.all loopM) = true := h
      simp only [Bool.and_eq_true, List.all_eq_true] at h
      refine ⟨r, ls, rfl, by have := of_decide_eq_true h.1.2; omega, fun l hl => ?_⟩
      have q := h.2 l hl
      cases l with
      | tuple ps =>
        have q : ((decide ((3 : Int) ≤ (ps.length : Int)) && decide ((ps.length : Int) ≤ 8)) && ps.all fun p => areM p 2 (-9) 9) = true := q
        simp only [Bool.and_eq_true] at q
        exact ⟨ps, rfl, by have := of_decide_eq_true q.1.2; omega⟩
      | _ => cases q
    | _ => cases h
  · cases h

/-! ### the shapes of layers, their points -/
def clipOf (c : PyData) : List PyData := if isNone c then [] else [c]
def shapesOf (f : List PyData → List PyData) (v : PyData) : List PyData := match v with
  | .tuple (.str k :: s :: r) => if k = "group" then (match s, r with
    | .tuple ls, [_, c, _] => f ls ++ clipOf c
    | _, _ => []) else [s]
  | _ => []
def shapesM : Nat → List PyData → List PyData
  | 0, ls => ls.flatMap (shapesOf fun _ => [])
  | n + 1, ls => ls.flatMap (shapesOf (shapesM n))
def shapesJ (n : Nat) : List PyData → List PyData := match n with
  | 0 => fun _ => []
  | n + 1 => shapesM n
theorem shapesM_eq (n : Nat) (ls : List PyData) : shapesM n ls = ls.flatMap (shapesOf (shapesJ n)) := by cases n <;> rfl
def cap : Nat → Nat
  | 0 => 1
  | n + 1 => 4 * cap n + 1
theorem shapes_cap : ∀ (n : Nat) (ls : List PyData), ls.all (nestedM n) = true → (shapesM n ls).length ≤ ls.length * cap n
  | n, [], _ => by rw [shapesM_eq]; simp
  | n, v :: ls, h => by
    rw [List.all_cons, Bool.and_eq_true] at h
    have ih := shapes_cap n ls h.2
    rw [shapesM_eq] at ih ⊢
    rw [List.flatMap_cons, List.length_append, List.length_cons, Nat.add_mul, Nat.one_mul, Nat.add_comm]
    refine Nat.add_le_add ih ?_
    rcases nested_get h.1 with ⟨k, s, r, rfl, hk, _⟩ | ⟨j, l2, o, c, mt, rfl, rfl, h4, ha, _⟩
    · show (if k = "group" then _ else [s]).length ≤ _
      rw [if_neg hk]
      cases n with
      | zero => exact Nat.le_refl _
      | succ n => show 1 ≤ 4 * cap n + 1; omega
    · have e : shapesOf (shapesJ (j + 1)) (.tuple [.str "group", .tuple l2, o, c, mt]) = shapesM j l2 ++ clipOf c := by
        simp only [shapesOf, shapesJ, if_true]
      rw [e, List.length_append]
      have i2 := shapes_cap j l2 ha
      have i3 : l2.length * cap j ≤ 4 * cap j := Nat.mul_le_mul_right _ h4
      have i4 : (clipOf c).length ≤ 1 := by unfold clipOf; split <;> simp
      show _ ≤ 4 * cap j + 1
      omega
theorem shapes_ok : ∀ (n : Nat) (ls : List PyData), ls.all (nestedM n) = true → ∀ s, s ∈ shapesM n ls → shapeM s = true
  | n, [], _, s, hs => by rw [shapesM_eq] at hs; simp at hs
  | n, v :: ls, h, s, hs => by
    rw [List.all_cons, Bool.and_eq_true] at h
    rw [shapesM_eq, List.flatMap_cons, List.mem_append] at hs
    rcases hs with hs | hs
    · rcases nested_get h.1 with ⟨k, s', r, rfl, hk, h1⟩ | ⟨j, l2, o, c, mt, rfl, rfl, h4, ha, hc⟩
      · have hs : s ∈ (if k = "group" then _ else [s']) := hs
        rw [if_neg hk] at hs
        rw [List.mem_singleton.mp hs]
        exact h1
      · have e : shapesOf (shapesJ (j + 1)) (.tuple [.str "group", .tuple l2, o, c, mt]) = shapesM j l2 ++ clipOf c := by
          simp only [shapesOf, shapesJ, if_true]
        rw [e, List.mem_append] at hs
        rcases hs with hs | hs
        · exact shapes_ok j l2 ha s hs
        · unfold clipOf at hs
          rcases hc with hc | hc
          · rw [if_pos hc] at hs
            simp at hs
          · split at hs
            · simp at hs
            · rw [List.mem_singleton.mp hs]
              exact hc
    · exact shapes_ok n ls h.2 s (by rw [shapesM_eq]; exact hs)
def loopsOf (s : PyData) : List PyData := match s with
  | .tuple [_, .tuple ls] => ls
  | _ => []
def lenI (l : PyData) : Int := match l with
  | .tuple ps => (ps.length : Int)
  | _ => 0
def ptsM (ss : List PyData) : Int := (ss.flatMap fun s => (loopsOf s).map lenI).sum

section
variable {P : Program} {w : World} {K : PySem.W.Frag} {mg : Str → Option Value} {base : Heap}
local macro_rules | `(tactic| trivial) => `(tactic| first
  | exact ev_int | exact ev_bl | exact ev_str | exact ev_non | exact ev_ty
  | exact ev_var rfl nofun
  | exact ea_nil
  | apply ea_cons
  | refine ev_and ?_ (fun _ => ?_)
  | refine ev_or ?_ (fun _ => ?_)
  | refine ev_not ?_
  | apply ev_cb
  | apply ev_op
  | apply ev_un
  | refine eb_val ?_ | refine eb_test ?_
  | refine eb_and ?_ (fun _ => ?_)
  | refine eb_or ?_ (fun _ => ?_)
  | refine eb_not ?_
  | exact c_tup | exact c_int | exact c_bool | exact c_str
  | exact c_len rfl
  | exact o_neg | exact o_i0b | exact o_addI | exact o_eqI | exact o_neI | exact o_eqS | exact o_neS)

abbrev G_list_shapes (n : Nat) : List Sl → M → List PyData → M → Prop := fun rs m ds m' => ∃ ls, rs = [.d (.tuple ls)] ∧ ls.length ≤ 4 ∧ ls.all (nestedM n) = true ∧ ds = shapesM n ls ∧ m' = m
theorem c_list_shapes {k n : Nat} (T : Blt mg) (TD : DefT K mg "list_shapes" st_list_shapes ["layers"]) {g : List Sl → M → List PyData → M → Prop} (D_list_shapes : DefC P w K mg base CX0 k "list_shapes" ["layers"] (spL K 1 g)) (hg : ∀ j, n = j + 1 → g = G_list_shapes j) (hn : n ≤ 2) :
    DefC P w K mg base CX0 (k + 1) "list_shapes" ["layers"] (spL K 1 (G_list_shapes n)) := by
  refine mkDefL TD S_list_shapes rfl (by rintro rs m ds m' ⟨ls, _, _, _, _, rfl⟩; rfl) fun f cdv A outer s H E hr => ?_
  have hu := hr.units
  refine ⟨_, (pss_cons (ps_set (i := 1) S_list_shapes.nd rfl (Or.inl rfl) (pe_lst pa_nil))
      (pss_cons (ps_for PassesOwn.never rfl (kSeq (K := K) (pv 0)) (pg_name (i := 2) S_list_shapes.nd rfl (Or.inl rfl)) (pss_cons (ps_if (pt_cmpR (kNe (K := K) hu) (pe_ix (kIx (K := K)) (pv 2) pe_int (fun _ _ => rfl)) pe_str (nomark _)) (pss_cons (ps_expr (kBm (K := K) PySem.F.plainAttrs_list PySem.F.slot_list_append PySem.F.type_list_append mt_append (pv 1) (pa_cons (pe_ix (kIx (K := K)) (pv 2) pe_int (fun _ _ => rfl)) pa_nil)))
      (pss_one ps_continue)) pss_nil)
      (pss_cons (ps_expr (kBm (K := K) PySem.F.plainAttrs_list PySem.F.slot_list_extend PySem.F.type_list_extend mt_extend (pv 1) (pa_cons (pe_def D_list_shapes (hr.mono (by omega)) (by rfl) pass0 (pa_cons (pe_ix (kIx (K := K)) (pv 2) pe_int (fun _ _ => rfl)) pa_nil)) pa_nil)))
      (pss_one (ps_if (pt_cmpR op_notN (pe_ix (kIx (K := K)) (pv 2) pe_int (fun _ _ => rfl)) pe_non (nomark _)) (pss_one (ps_expr (kBm (K := K) PySem.F.plainAttrs_list PySem.F.slot_list_append PySem.F.type_list_append mt_append (pv 1) (pa_cons (pe_ix (kIx (K := K)) (pv 2) pe_int (fun _ _ => rfl)) pa_nil)))) pss_nil)))))
      (pss_one (ps_ret (pv 1))))), ?_⟩
  rintro rs m ds m' hl ⟨ls, rfl, h4, ha, rfl, rfl⟩
  have hcap : (shapesM n ls).length < 1000 := by
    have h1 := shapes_cap n ls ha
    have h2 : cap n ≤ 21 := by
      match n, hn with
      | 0, _ => decide
      | 1, _ => decide
      | 2, _ => decide
    have h3 : ls.length * cap n ≤ 4 * 21 := Nat.mul_le_mul h4 h2
    omega
  refine sv_seq (es1 := [.d (.tuple ls), .c m'.length, .no]) (m1 := m' ++ [[]]) (sv_cell el_new) ?_
  refine sv_forI (m1 := m' ++ [[]]) (fun k es m => ∃ z, es = [.d (.tuple ls), .c m'.length, z] ∧ m = m' ++ [shapesM n (ls.take k)]) (ei_seqT (ev_var (r := .d (.tuple ls)) rfl nofun)) (by exact ⟨.no, rfl, by rw [shapesM_eq]; rfl⟩) ?stp ?fin
  case stp =>
    intro k v es m hv hJ
    obtain ⟨z, rfl, rfl⟩ := hJ
    have hv1 : nestedM n v = true := List.all_eq_true.mp ha v (List.mem_of_getElem? hv)
    have el : shapesM n (ls.take (k + 1)) = shapesM n (ls.take k) ++ shapesOf (shapesJ n) v := by
      rw [shapesM_eq, shapesM_eq, List.take_add_one, hv, List.flatMap_append]
      simp
    have hlen : (shapesM n (ls.take (k + 1))).length < 1000 := by
      have e : shapesM n ls = shapesM n (ls.take (k + 1)) ++ shapesM n (ls.drop (k + 1)) := by
        rw [shapesM_eq, shapesM_eq, shapesM_eq, ← List.flatMap_append, List.take_append_drop]
      rw [e, List.length_append] at hcap
      omega
    refine ⟨[.d (.tuple ls), .c m'.length, .d v], m' ++ [shapesM n (ls.take (k + 1))], ?_, _, rfl, rfl⟩
    rw [el] at hlen ⊢
    generalize shapesM n (ls.take k) = acc at hlen ⊢
    rcases nested_get hv1 with ⟨k, s, r, rfl, hk, h1⟩ | ⟨j, l3, o, c, mt, rfl, rfl, h4, ha3, hc⟩
    · have es : shapesOf (shapesJ n) (.tuple (.str k :: s :: r)) = [s] := if_neg hk
      rw [es] at hlen ⊢
      rw [List.length_append] at hlen
      refine .inr ?_
      refine sv_ifsT (m1 := m' ++ [acc]) (eb_cast (eb_test (ev_op (ev_at (j := 0) rfl rfl rfl) ev_str o_neS)) (by rw [decide_eq_false hk]; rfl)) rfl ?_
      refine sv_seq (es1 := [.d (.tuple ls), .c m'.length, .d (.tuple (.str k :: s :: r))]) (m1 := m' ++ [acc ++ [s]]) ?_ sv_cont
      have q := sv_append (K := K) (n := m'.length) (es := [.d (.tuple ls), .c m'.length, .d (.tuple (.str k :: s :: r))]) (i := 1) (j := m'.length) (x := s) (ds := acc) rfl (ev_at (m := m' ++ [acc]) (i := 2) (j := 1) (k := 1) rfl rfl rfl) last_get ⟨_, last_get⟩ (by omega)
      rw [last_set] at q
      exact q
    · have es : shapesOf (shapesJ (j + 1)) (.tuple [.str "group", .tuple l3, o, c, mt]) = shapesM j l3 ++ clipOf c := by
        simp only [shapesOf, shapesJ, if_true]
      have e := hg j rfl
      subst e
      rw [es] at hlen ⊢
      rw [List.length_append, List.length_append] at hlen
      refine .inl ?_
      refine sv_ifsF (m1 := m' ++ [acc]) (eb_cast (eb_test (ev_op (ev_at (j := 0) rfl rfl rfl) ev_str o_neS)) rfl) ?_
      refine sv_seq (es1 := [.d (.tuple ls), .c m'.length, .d (.tuple [.str "group", .tuple l3, o, c, mt])]) (m1 := m' ++ [acc ++ shapesM j l3]) ?_ ?_
      · have q := sv_extend (K := K) (n := m'.length) (es := [.d (.tuple ls), .c m'.length, .d (.tuple [.str "group", .tuple l3, o, c, mt])]) (i := 1) (j := m'.length) (ys := shapesM j l3) (ds := acc) rfl
          (el_call (n := 1) (g := G_list_shapes j) (E := E0) (m := m' ++ [acc]) (arg1 (ev_at (i := 2) (j := 1) (k := 1) rfl rfl rfl)) ⟨l3, rfl, h4, ha3, rfl, rfl⟩ rfl) last_get ⟨_, last_get⟩ (by omega)
        rw [last_set] at q
        exact q
      · cases hn : isNone c with
        | true =>
          have e0 : clipOf c = [] := if_pos hn
          rw [e0, List.append_nil]
          exact sv_ifF (m1 := m' ++ [acc ++ shapesM j l3]) (eb_cast (eb_test (ev_op (ev_at (j := 3) rfl rfl rfl) ev_non o_notN)) (by rw [hn]; rfl)) sv_next
        | false =>
          have e0 : clipOf c = [c] := if_neg (by rw [hn]; exact Bool.false_ne_true)
          rw [e0] at hlen ⊢
          rw [← List.append_assoc]
          refine sv_ifT (m1 := m' ++ [acc ++ shapesM j l3]) (eb_cast (eb_test (ev_op (ev_at (j := 3) rfl rfl rfl) ev_non o_notN)) (by rw [hn]; rfl)) ?_
          have q := sv_append (K := K) (n := m'.length) (es := [.d (.tuple ls), .c m'.length, .d (.tuple [.str "group", .tuple l3, o, c, mt])]) (i := 1) (j := m'.length) (x := c) (ds := acc ++ shapesM j l3) rfl (ev_at (m := m' ++ [acc ++ shapesM j l3]) (i := 2) (j := 3) (k := 3) rfl rfl rfl) last_get ⟨_, last_get⟩ (by rw [List.length_append]; simp at hlen; omega)
          rw [last_set] at q
          exact q
  case fin =>
    intro es m hJ
    obtain ⟨z, rfl, rfl⟩ := hJ
    rw [List.take_length]
    exact sv_rtc rfl
end
end K30

set_option Elab.async false
set_option linter.all false
set_option maxRecDepth 100000
set_option maxHeartbeats 4000000
namespace K30
variable [DL.Tbs]
open PySem PySem.Spec PyProof.Rows L2 DL
def layerM (v : PyData) : Bool := nestedM 2 v && decide (ptsM (shapesM 2 [v]) ≤ 60)
def itemsOf (v : PyData) : List PyData := match v with
  | .tuple ls => ls
  | _ => []
def drawM (v : PyData) : Bool := layersOf (nestedM 2) v && decide (ptsM (shapesM 2 (itemsOf v)) ≤ 60)
theorem cap_le {n : Nat} (h : n ≤ 2) : cap n ≤ 21 := by
  match n, h with
  | 0, _ => decide
  | 1, _ => decide
  | 2, _ => decide
theorem flat_cap : ∀ (ss : List PyData), (∀ s, s ∈ ss → shapeM s = true) → (ss.flatMap fun s => (loopsOf s).map fun l => PyData.int (lenI l)).length ≤ 3 * ss.length
  | [], _ => by simp
  | s :: ss, h => by
    obtain ⟨r, ls, rfl, hl, _⟩ := shape_get (h s (by simp))
    have ih := flat_cap ss fun s hs => h s (by simp [hs])
    rw [List.flatMap_cons, List.length_append, List.length_cons, List.length_map]
    have e : loopsOf (.tuple [r, .tuple ls]) = ls := rfl
    rw [e]
    omega
theorem flat_ints (ss : List PyData) : (ss.flatMap fun s => (loopsOf s).map fun l => PyData.int (lenI l)) = (ss.flatMap fun s => (loopsOf s).map lenI).map .int := by
  induction ss with
  | nil => rfl
  | cons s ss ih =>
    rw [List.flatMap_cons, List.flatMap_cons, List.map_append, ih, List.map_map]
    rfl
section
variable {P : Program} {w : World} {K : PySem.W.Frag} {mg : Str → Option Value} {base : Heap}
local macro_rules | `(tactic| trivial) => `(tactic| first
  | exact ev_int | exact ev_bl | exact ev_str | exact ev_non | exact ev_ty
  | exact ev_var rfl nofun
  | exact ea_nil
  | apply ea_cons
  | refine ev_and ?_ (fun _ => ?_)
  | refine ev_or ?_ (fun _ => ?_)
  | refine ev_not ?_
  | apply ev_cb
  | apply ev_op
  | apply ev_un
  | refine eb_val ?_ | refine eb_test ?_
  | refine eb_and ?_ (fun _ => ?_)
  | refine eb_or ?_ (fun _ => ?_)
  | refine eb_not ?_
  | exact c_tup | exact c_int | exact c_bool | exact c_str
  | exact c_len rfl
  | exact o_neg | exact o_i0b | exact o_addI | exact o_eqI | exact o_neI | exact o_eqS | exact o_neS)

theorem lc2_pts {m : M} {x : Sl} : ∀ (ss : List PyData), (∀ s, s ∈ ss → shapeM s = true) →
    Lc2R K (gName 1) tYes (iSeq K (tOp (rIx K) (tVar 1) (tC (.int 1)))) (gName 2) tYes (tCB (fun xs H Q => ∃ x n, xs = [x] ∧ LenV K x H n ∧ Q (.int n) H) (tCons (tVar 2) tNil)) [x, .no, .no] [1, 2] [2] ss m (ss.flatMap fun s => (loopsOf s).map fun l => .int (lenI l)) m
  | [], _ => .nil
  | s :: ss, h => by
    obtain ⟨r, ls, rfl, hl, hp⟩ := shape_get (h s (by simp))
    rw [List.flatMap_cons]
    refine .yes (es2 := [x, .d (.tuple [r, .tuple ls]), .no]) (ds1 := ls) (m1 := m) (m2 := m) (m3 := m) gv_name (by simp) eb_yes (ei_seqT (ev_at (j := 1) rfl rfl rfl)) ?_ (lc2_pts ss fun s hs => h s (by simp [hs]))
    have e : loopsOf (.tuple [r, .tuple ls]) = ls := rfl
    rw [e]
    refine lcMap (by simp) fun d hd => ?_
    obtain ⟨ps, rfl, _⟩ := hp d hd
    exact ev_cb (arg1 (ev_var rfl nofun)) (c_len rfl)

abbrev R_add (n : Nat) : List PyData → PyData → Prop := fun ds y => ∃ ls, ds = [.tuple ls] ∧ ls.length ≤ 4 ∧ ls.all (nestedM n) = true ∧ y = .int (ptsM (shapesM n ls))
theorem c_add_points {k n : Nat} (T : Blt mg) (TD : DefT K mg "add_points" st_add_points ["layers"]) (D_list_shapes : DefC P w K mg base CX0 k "list_shapes" ["layers"] (spL K 1 (G_list_shapes n))) (hn : n ≤ 2) :
    PureC P w K mg base (k + 1) "add_points" ["layers"] (R_add n) := by
  refine mkPure TD S_add_points fun f cdv A outer s H E hr => ?_
  refine ⟨_, (pss_one (ps_ret (pe_callB (kSum (K := K) rfl) (by rfl) T.b_sum (by decide +kernel) (pa_cons (pe_lc2 (own := [("shape", 1), ("loop", 2)]) (vs1 := [2]) (by rfl) S_add_points.nd (kSeq (K := K) (pe_def D_list_shapes (hr.mono (by omega)) (by rfl) pass0 (pa_cons (pv 0) pa_nil))) (blkOk_by (N := N_add_points) (sc := defScope st_add_points) (by decide +kernel)) (by simp) (fun _ _ _ _ _ => pg_name (i := 1) S_add_points.nd rfl (by first | exact Or.inl rfl | exact Or.inr rfl)) (fun _ _ _ _ _ => pts_nil) (fun _ _ _ _ _ => (kSeq (K := K) (pe_ix (kIx (K := K)) (pv 1) pe_int (fun _ _ => rfl)))) (fun _ _ _ _ _ => pg_name (i := 2) S_add_points.nd rfl (by first | exact Or.inl rfl | exact Or.inr rfl)) (fun _ _ _ _ _ => pts_nil) (fun _ _ _ _ _ => (pe_callB (kLen (K := K)) (by rfl) T.b_len (by decide +kernel) (pa_cons (pv 2) pa_nil)))) pa_nil)))), ?_⟩
  rintro ds m y hl ⟨ls, rfl, h4, ha, rfl⟩
  have hok := shapes_ok n ls ha
  have hcap : (shapesM n ls).length ≤ 84 := by
    have h1 := shapes_cap n ls ha
    have h2 : cap n ≤ 21 := cap_le hn
    have h3 : ls.length * cap n ≤ 4 * 21 := Nat.mul_le_mul h4 h2
    exact Nat.le_trans h1 h3
  have h3 := flat_cap _ hok
  have q := lc2_pts (K := K) (m := m) (x := .d (.tuple ls)) (shapesM n ls) hok
  have q2 := el_d (el_lc2 (K := K) (vs := [1, 2]) (vs1 := [2]) (es := [.d (.tuple ls), .no, .no]) (ei_seqL (el_d (el_call (n := 1) (g := G_list_shapes n) (E := E0) (m := m) (arg1 (ev_var (i := 0) rfl nofun)) ⟨ls, rfl, h4, ha, rfl, rfl⟩ rfl))) q (Nat.le_trans h3 (by omega)))
  rw [flat_ints] at q2
  exact sv_ret0 (ev_cb (arg1 q2) c_sum)

abbrev R_is_layer : List PyData → PyData → Prop := fun ds y => ∃ v, ds = [v] ∧ okL 2 v = true ∧ y = .bool (layerM v)
abbrev R_is_drawing : List PyData → PyData → Prop := fun ds y => ∃ v, ds = [v] ∧ okLs 2 v = true ∧ y = .bool (drawM v)
theorem c_is_drawing {k : Nat} (T : Blt mg) (TD : DefT K mg "is_drawing" st_is_drawing ["value"]) (D_are_layers : PureC P w K mg base k "are_layers" ["value", "deepest"] (R_layers 2)) (D_add_points : PureC P w K mg base k "add_points" ["layers"] (R_add 2))
    (h_DEEPEST : ∃ t, mg "DEEPEST" = some (.int 2 t)) (h_MOST_POINTS : ∃ t, mg "MOST_POINTS" = some (.int 60 t)) : PureC P w K mg base (k + 1) "is_drawing" ["value"] R_is_drawing := by
  refine mkPure TD S_is_drawing fun f cdv A outer s H E hr => ?_
  refine ⟨_, (pss_one (ps_ret (pe_and (pe_def D_are_layers (hr.mono (by omega)) (by rfl) pass0 (pa_cons (pv 0) (pa_cons (pe_glob (v := .int 2) (by rfl) h_DEEPEST.choose_spec ⟨_, rfl⟩) pa_nil))) (pe_one (pe_cmpR op_le (pe_def D_add_points (hr.mono (by omega)) (by rfl) pass0 (pa_cons (pv 0) pa_nil)) (pe_glob (v := .int 60) (by rfl) h_MOST_POINTS.choose_spec ⟨_, rfl⟩) (nomark _)))))), ?_⟩
  rintro ds m y hl ⟨v, rfl, hk, rfl⟩
  refine sv_ret0 (ev_and (ev_pure (arg2 (ev_var rfl nofun) ev_int) (ds := [v, .int 2]) rfl ⟨v, rfl, hk, rfl⟩ rfl) fun hv => ?_)
  cases v with
  | tuple ls =>
    have hv : (decide ((ls.length : Int) ≤ 4) && ls.all (nestedM 2)) = true := hv
    rw [Bool.and_eq_true] at hv
    exact ev_op (ev_pure (arg1 (ev_var rfl nofun)) (ds := [.tuple ls]) rfl ⟨ls, rfl, by have := of_decide_eq_true hv.1; omega, hv.2, rfl⟩ rfl) ev_int o_i0b
  | _ => cases hv
abbrev R_check : List PyData → PyData → Prop := fun ds y => ∃ v, ds = [v] ∧ okLs 2 v = true ∧ drawM v = true ∧ y = .none
theorem c_check {k : Nat} (T : Blt mg) (TD : DefT K mg "check_drawing" st_check_drawing ["value"]) (D_is_drawing : PureC P w K mg base k "is_drawing" ["value"] R_is_drawing) : PureC P w K mg base (k + 1) "check_drawing" ["value"] R_check := by
  refine mkPureN TD S_check_drawing (by rintro ds y ⟨v, _, _, _, rfl⟩; rfl) fun f cdv A outer s H E hr => ?_
  refine ⟨_, (pss_one (ps_if (pt_not (pt_val (pe_def D_is_drawing (hr.mono (by omega)) (by rfl) pass0 (pa_cons (pv 0) pa_nil)))) (pss_one ps_never) pss_nil)), ?_⟩
  rintro ds m y hl ⟨v, rfl, hk, hv, rfl⟩
  refine ⟨_, sv_ifF (m1 := m) (eb_notT (eb_cast (eb_val (ev_pure (arg1 (ev_var rfl nofun)) (ds := [v]) rfl ⟨v, rfl, hk, rfl⟩ rfl)) hv)) sv_next⟩
abbrev R_count : List PyData → PyData → Prop := fun ds y => ∃ ls, ds = [.tuple ls] ∧ okLs 2 (.tuple ls) = true ∧ drawM (.tuple ls) = true ∧ y = .int (ptsM (shapesM 2 ls))
end
end K30

set_option Elab.async false
set_option linter.all false
set_option maxRecDepth 100000
namespace TX
open PySem PySem.Builtin PySem.Builtin.Str PySem.StrLaws TL

/-! ### split with a limit -/
def spm (S : List Nat) : Nat → List Nat → List (List Nat)
  | 0, l => [l]
  | n + 1, l => match par S [] l with
    | some (a, b) => a :: spm S n b
    | none => [l]
theorem max_run (s sub : Str) (hi limit lo : Nat) (hw : 1 ≤ sub.length) : ∀ (m cur : Nat) (st : Array Nat × Nat), ChainG s sub hi lo st.fst.toList st.snd → st.fst.size ≤ limit → (st.fst.size < limit → ∀ k, st.snd ≤ k → k < cur → ¬ At s sub hi k) →
    ChainG s sub hi lo (forIn (List.range' cur m) st (occBody s sub hi limit)).run.fst.toList (forIn (List.range' cur m) st (occBody s sub hi limit)).run.snd ∧
    (forIn (List.range' cur m) st (occBody s sub hi limit)).run.fst.size ≤ limit ∧
    ((forIn (List.range' cur m) st (occBody s sub hi limit)).run.fst.size < limit → ∀ k, (forIn (List.range' cur m) st (occBody s sub hi limit)).run.snd ≤ k → k < cur + m → ¬ At s sub hi k)
  | 0, cur, st, h, hl, hn => ⟨h, hl, hn⟩
  | m + 1, cur, st, h, hl, hn => by
    rw [List.range'_succ, List.forIn_cons]
    unfold occBody
    have e : cur + (m + 1) = (cur + 1) + m := by omega
    rw [e]
    split
    · rename_i hc
      refine max_run s sub hi limit lo hw m (cur + 1) _ ?_ ?_ ?_
      · show ChainG s sub hi lo (st.fst.push cur).toList (cur + sub.length)
        rw [Array.toList_push]
        exact chainG_snoc h hc.1.1.2 ⟨hc.1.2, hc.2⟩ (hn hc.1.1.1)
      · show (st.fst.push cur).size ≤ limit
        rw [Array.size_push]
        have := hc.1.1.1
        omega
      · intro _ k h1 h2
        have h1' : cur + sub.length ≤ k := h1
        omega
    · rename_i hc
      refine max_run s sub hi limit lo hw m (cur + 1) _ h hl ?_
      intro hlt k h1 h2 hA
      have hlt : st.fst.size < limit := hlt
      by_cases hk : k < cur
      · exact hn hlt k h1 hk hA
      · have ek : k = cur := by omega
        subst ek
        exact hc ⟨⟨⟨hlt, h1⟩, hA.1⟩, hA.2⟩
theorem occ_max (x y : Str) (limit : Nat) (hw : 1 ≤ y.length) : ∃ f, ChainG x y x.length 0 (occurrences x y 0 x.length limit) f ∧ (occurrences x y 0 x.length limit).length ≤ limit ∧ ((occurrences x y 0 x.length limit).length < limit → ∀ k, f ≤ k → ¬ At x y x.length k) := by
  rw [occ_eq]
  have key := max_run x y x.length limit 0 hw (x.length + 1 - 0) 0 ((#[] : Array Nat), 0) rfl (Nat.zero_le _) (fun _ k _ h => by omega)
  refine ⟨_, key.1, ?_, fun hlt k hk hA => ?_⟩
  · rw [Array.length_toList]; exact key.2.1
  · rw [Array.length_toList] at hlt
    exact key.2.2 hlt k hk (by have := hA.1; omega) hA
theorem parts_spm {x y : Str} (hy : tl y ≠ []) : ∀ (cuts : List Nat) (a f n : Nat), a ≤ (tl x).length → ChainG x y x.length a cuts f → cuts.length ≤ n → (cuts.length < n → ∀ k, f ≤ k → ¬ At x y x.length k) →
    (partsFrom x y.length a cuts).map tl = spm (tl y) n ((tl x).drop a)
  | [], a, f, n, ha, h, hl, hn => by
    have e : f = a := h
    subst e
    show [tl (strSub x f x.length)] = _
    rw [tl_strSub_end]
    cases n with
    | zero => rfl
    | succ n =>
      have run := par_run (tl y) (tl x) ((tl x).length - f) f [] (by omega) (fun k h1 _ => no_at hy (hn (Nat.succ_pos _) k h1))
      have e2 : f + ((tl x).length - f) = (tl x).length := by omega
      rw [e2, List.drop_length] at run
      show _ = (match par (tl y) [] ((tl x).drop f) with | some (a, b) => a :: spm (tl y) n b | none => [(tl x).drop f])
      rw [run]
      rfl
  | c :: r, a, f, n, ha, h, hl, hn => by
    obtain ⟨h1, h2, h3, h4⟩ := h
    have hc : c + y.length ≤ x.length := h2.1
    have hx := len_tl x
    have hly := len_tl y
    cases n with
    | zero => simp at hl
    | succ n =>
      have ih := parts_spm hy r (c + y.length) f n (by omega) h4 (by simpa using hl) (fun z => hn (by simpa using z))
      show tl (strSub x a c) :: (partsFrom x y.length (c + y.length) r).map tl = (match par (tl y) [] ((tl x).drop a) with | some (a, b) => a :: spm (tl y) n b | none => [(tl x).drop a])
      have run := par_run (tl y) (tl x) (c - a) a [] (by omega) (fun k k1 k2 => no_at hy (h3 k k1 (by omega)))
      have e2 : a + (c - a) = c := by omega
      rw [e2, List.nil_append, par_at hy ((at_iff hy c).mp h2)] at run
      rw [run]
      show _ = ((tl x).drop a).take (c - a) :: spm (tl y) n ((tl x).drop (c + (tl y).length))
      rw [ih, tl_strSub, hly]
theorem splitMax_spm (x y : Str) (k : Nat) (hk1 : 1 ≤ k) (hy : tl y ≠ []) (hk : ¬ Builtin.Str.strKind x < Builtin.Str.strKind y) : (Txt.splitMax x y (k : Int)).map tl = spm (tl y) k (tl x) := by
  have el : limitOf x (k : Int) = k := by
    unfold limitOf
    rw [if_neg (by omega)]
    exact Int.toNat_natCast k
  obtain ⟨f, g, gl, hn⟩ := occ_max x y k (len1 hy)
  have key := parts_spm hy _ 0 f k (Nat.zero_le _) g gl hn
  rw [List.drop_zero] at key
  have none_case : occurrences x y 0 x.length k = [] → [x].map tl = spm (tl y) k (tl x) := fun ho => by
    rw [ho] at key
    rw [← key]
    show [tl x] = [tl (strSub x 0 x.length)]
    rw [tl_strSub_end, List.drop_zero]
  unfold Txt.splitMax
  rw [el]
  by_cases h1 : (decide (x.length < y.length) || decide (Builtin.Str.strKind x < Builtin.Str.strKind y)) = true
  · rw [if_pos h1]
    have hlt : x.length < y.length := by
      simp only [Bool.or_eq_true, decide_eq_true_eq] at h1
      rcases h1 with h | h
      · exact h
      · exact absurd h hk
    refine none_case ?_
    cases ho : occurrences x y 0 x.length k with
    | nil => rfl
    | cons c r =>
      rw [ho] at g
      have hc : c + y.length ≤ x.length := g.2.1.1
      omega
  · rw [if_neg h1]
    by_cases h2 : (occurrences x y 0 x.length k).isEmpty = true
    · rw [if_pos h2]
      exact none_case (List.isEmpty_iff.mp h2)
    · rw [if_neg h2, partsBetween_eq]
      exact key
end TX

set_option Elab.async false
set_option linter.all false
set_option maxRecDepth 100000
namespace TX
open PySem PySem.Builtin PySem.Builtin.Str PySem.StrLaws TL
abbrev L := List Nat
def mk (l : L) : Str := ⟨l.toArray⟩
theorem tl_of_mk (l : L) : tl (mk l) = l := rfl
theorem mk_of_tl (x : Str) : mk (tl x) = x := mk_tl x
def mapO {α β : Type} (f : α → Option β) : List α → Option (List β)
  | [] => some []
  | a :: r => match f a with
    | none => none
    | some b => match mapO f r with
      | none => none
      | some bs => some (b :: bs)
theorem mapO_cons {α β : Type} {f : α → Option β} {a : α} {r : List α} {bs : List β} (h : mapO f (a :: r) = some bs) : ∃ b r', f a = some b ∧ mapO f r = some r' ∧ bs = b :: r' := by
  unfold mapO at h
  split at h
  · cases h
  · rename_i b e
    split at h
    · cases h
    · rename_i r' e'
      cases h
      exact ⟨b, r', e, e', rfl⟩
theorem mapO_back {α β : Type} {f : α → Option β} {g : β → α} : ∀ {l : List α} {r : List β}, (∀ a b, a ∈ l → f a = some b → g b = a) → mapO f l = some r → r.map g = l
  | [], r, _, h => by cases h; rfl
  | a :: l, r, hf, h => by
    obtain ⟨b, r', e1, e2, rfl⟩ := mapO_cons h
    rw [List.map_cons, hf a b List.mem_cons_self e1, mapO_back (fun a b h => hf a b (List.mem_cons_of_mem _ h)) e2]
theorem mapO_mem {α β : Type} {f : α → Option β} : ∀ {l : List α} {r : List β}, mapO f l = some r → ∀ b, b ∈ r → ∃ a, a ∈ l ∧ f a = some b
  | [], r, h, b, hb => by cases h; cases hb
  | a :: l, r, h, b, hb => by
    obtain ⟨b', r', e1, e2, rfl⟩ := mapO_cons h
    rcases List.mem_cons.mp hb with rfl | hb
    · exact ⟨a, List.mem_cons_self, e1⟩
    · obtain ⟨a', h1, h2⟩ := mapO_mem e2 b hb
      exact ⟨a', List.mem_cons_of_mem _ h1, h2⟩
theorem mapO_all {α β : Type} {f : α → Option β} {g : β → α} : ∀ {r : List β}, (∀ b, b ∈ r → f (g b) = some b) → mapO f (r.map g) = some r
  | [], _ => rfl
  | b :: r, h => by
    rw [List.map_cons]
    unfold mapO
    rw [h b List.mem_cons_self, mapO_all fun b hb => h b (List.mem_cons_of_mem _ hb)]
theorem mapO_len {α β : Type} {f : α → Option β} : ∀ {l : List α} {r : List β}, mapO f l = some r → r.length = l.length
  | [], r, h => by cases h; rfl
  | a :: l, r, h => by
    obtain ⟨b', r', e1, e2, rfl⟩ := mapO_cons h
    rw [List.length_cons, List.length_cons, mapO_len e2]

/-! ### joins of splits -/
theorem spl_ne (S : L) : ∀ (l : L) (k : Nat) (acc : L), spl S k acc l ≠ []
  | [], k, acc => by rw [spl_nil]; simp
  | c :: r, 0, acc => by
    show (if pre S (c :: r) = true then acc :: spl S (S.length - 1) [] r else spl S 0 (acc ++ [c]) r) ≠ []
    split
    · simp
    · exact spl_ne S r 0 _
  | c :: r, k + 1, acc => spl_ne S r k acc
theorem joinL_cons {S p : L} {ps : List L} (h : ps ≠ []) : joinL S (p :: ps) = p ++ (S ++ joinL S ps) := by
  cases ps with
  | nil => exact absurd rfl h
  | cons q r => rfl
theorem pre_eq {S l : L} (h : pre S l = true) : l = S ++ l.drop S.length := by
  have e : l.take S.length = S := by simpa [pre] using h
  rw [← e, List.length_take]
  have : l.take S.length ++ l.drop S.length = l := List.take_append_drop _ _
  by_cases hl : S.length ≤ l.length
  · rw [Nat.min_eq_left hl]; exact this.symm
  · rw [Nat.min_eq_right (by omega), List.take_of_length_le (by omega), List.drop_length, List.append_nil]
theorem join_spl {S : L} (hS : S ≠ []) : ∀ (n : Nat) (l acc : L), l.length ≤ n → joinL S (spl S 0 acc l) = acc ++ l
  | n, [], acc, _ => by rw [spl_nil, List.append_nil]; rfl
  | 0, c :: r, acc, h => by simp at h
  | n + 1, c :: r, acc, h => by
    have hr : r.length ≤ n := by simpa using h
    cases hp : pre S (c :: r) with
    | true =>
      rw [spl_hit hp, joinL_cons (spl_ne S _ _ _), spl_pass, join_spl hS n _ [] (by rw [List.length_drop]; omega), List.nil_append]
      have e := pre_eq hp
      cases S with
      | nil => exact absurd rfl hS
      | cons s S' =>
        have e2 : (c :: r).drop (s :: S').length = r.drop ((s :: S').length - 1) := by simp
        rw [e2] at e
        rw [← e]
    | false =>
      rw [spl_miss hp, join_spl hS n r _ hr, List.append_assoc]; rfl
theorem join_split {S : L} (hS : S ≠ []) (l : L) : joinL S (spl S 0 [] l) = l := by
  rw [join_spl hS l.length l [] (Nat.le_refl _)]; rfl
theorem par_eq {S : L} : ∀ {l acc a b : L}, par S acc l = some (a, b) → acc ++ l = a ++ (S ++ b)
  | [], acc, a, b, h => by cases h
  | c :: r, acc, a, b, h => by
    cases hp : pre S (c :: r) with
    | true =>
      rw [par_hit hp] at h
      cases h
      rw [← pre_eq hp]
    | false =>
      rw [par_miss hp] at h
      rw [← par_eq h, List.append_assoc]; rfl
theorem spm_ne (S : L) : ∀ (n : Nat) (l : L), spm S n l ≠ []
  | 0, l => by unfold spm; simp
  | n + 1, l => by
    unfold spm
    split <;> simp
theorem join_spm {S : L} : ∀ (n : Nat) (l : L), joinL S (spm S n l) = l
  | 0, l => rfl
  | n + 1, l => by
    unfold spm
    split
    · rename_i a b e
      rw [joinL_cons (spm_ne S n b), join_spm n b]
      have := par_eq e
      rw [List.nil_append] at this
      exact this.symm
    · rfl
theorem joinL_app {S : L} : ∀ {g F : List L}, g ≠ [] → F ≠ [] → joinL S (g ++ F) = joinL S g ++ (S ++ joinL S F)
  | [], _, h, _ => absurd rfl h
  | [p], F, _, hF => by
    rw [List.cons_append, List.nil_append, joinL_cons hF]; rfl
  | p :: q :: r, F, _, hF => by
    have ih := joinL_app (S := S) (g := q :: r) (F := F) (by simp) hF
    rw [List.cons_append, joinL_cons (by simp), ih, joinL_cons (ps := q :: r) (by simp), List.append_assoc, List.append_assoc]
theorem flat_ne {g : List L} {gs : List (List L)} (h : g ≠ []) : (g :: gs).flatten ≠ [] := by
  intro e
  rw [List.flatten_cons] at e
  exact h (List.append_eq_nil_iff.mp e).1
theorem joinL_flat {S : L} : ∀ (gs : List (List L)), (∀ g, g ∈ gs → g ≠ []) → joinL S (gs.map (joinL S)) = joinL S gs.flatten
  | [], _ => rfl
  | [g], h => by
    rw [List.map_cons, List.map_nil, List.flatten_cons, List.flatten_nil, List.append_nil]; rfl
  | g :: g' :: gs, h => by
    have ih := joinL_flat (S := S) (g' :: gs) fun x hx => h x (List.mem_cons_of_mem _ hx)
    have e : (g :: g' :: gs).flatten = g ++ (g' :: gs).flatten := List.flatten_cons
    rw [List.map_cons, joinL_cons (by simp), ih, e, joinL_app (h g List.mem_cons_self) (flat_ne (h g' (by simp)))]

/-! ### numbers -/
def readNum : L → Option PyData
  | [d] => if 48 ≤ d ∧ d ≤ 57 then some (.int ((d : Int) - 48)) else none
  | [c, d] => if c = 45 ∧ 49 ≤ d ∧ d ≤ 57 then some (.int (-((d : Int) - 48))) else none
  | _ => none
def numT (i : Int) : L := tl (Str.ofString (toString i))
def fmtNum : PyData → L
  | .int i => numT i
  | _ => []
theorem numT_pos : ∀ k : Fin 10, numT (k.val : Int) = [48 + k.val] := by
  intro k
  unfold numT
  rw [tl_num, numL_lt k.isLt]
theorem numT_neg : ∀ k : Fin 10, k.val ≠ 0 → numT (-(k.val : Int)) = [45, 48 + k.val] := by
  intro k hk
  unfold numT
  rw [tl_ofString]
  revert k
  decide +kernel
theorem read_num {w : L} {d : PyData} (h : readNum w = some d) : fmtNum d = w := by
  unfold readNum at h
  split at h
  · rename_i d'
    split at h
    · rename_i hd
      cases h
      have := numT_pos ⟨d' - 48, by omega⟩
      have e : ((d' - 48 : Nat) : Int) = (d' : Int) - 48 := by omega
      show numT ((d' : Int) - 48) = _
      rw [← e, this]
      show [48 + (d' - 48)] = [d']
      congr 1
      omega
    · cases h
  · rename_i c d'
    split at h
    · rename_i hd
      cases h
      have := numT_neg ⟨d' - 48, by omega⟩ (show d' - 48 ≠ 0 by omega)
      have e : ((d' - 48 : Nat) : Int) = (d' : Int) - 48 := by omega
      show numT (-((d' : Int) - 48)) = _
      rw [← e, this]
      show [45, 48 + (d' - 48)] = [c, d']
      rw [show 48 + (d' - 48) = d' by omega, show c = 45 from hd.1]
    · cases h
  · cases h
theorem num_read {i : Int} (h1 : -9 ≤ i) (h2 : i ≤ 9) : readNum (numT i) = some (.int i) := by
  by_cases h : 0 ≤ i
  · have := numT_pos ⟨i.toNat, by omega⟩
    have e : ((i.toNat : Nat) : Int) = i := by omega
    rw [show ((⟨i.toNat, by omega⟩ : Fin 10).val : Int) = i from e] at this
    rw [this]
    show (if 48 ≤ 48 + i.toNat ∧ 48 + i.toNat ≤ 57 then some (PyData.int (((48 + i.toNat : Nat) : Int) - 48)) else none) = _
    rw [if_pos (by omega)]
    congr 2
    omega
  · have := numT_neg ⟨(-i).toNat, by omega⟩ (show (-i).toNat ≠ 0 by omega)
    have e : (-(((-i).toNat : Nat) : Int)) = i := by omega
    rw [show (-((⟨(-i).toNat, by omega⟩ : Fin 10).val : Int)) = i from e] at this
    rw [this]
    show (if 45 = 45 ∧ 49 ≤ 48 + (-i).toNat ∧ 48 + (-i).toNat ≤ 57 then some (PyData.int (-(((48 + (-i).toNat : Nat) : Int) - 48))) else none) = _
    rw [if_pos (by omega)]
    congr 2
    omega
/-- the signs of a number from -9 to 9 -/
def isNumC (c : Nat) : Prop := c = 45 ∨ (48 ≤ c ∧ c ≤ 57)
theorem num_signs {i : Int} (h1 : -9 ≤ i) (h2 : i ≤ 9) : ∀ c, c ∈ numT i → isNumC c := by
  intro c hc
  by_cases h : 0 ≤ i
  · have := numT_pos ⟨i.toNat, by omega⟩
    have e : ((i.toNat : Nat) : Int) = i := by omega
    rw [show ((⟨i.toNat, by omega⟩ : Fin 10).val : Int) = i from e] at this
    rw [this] at hc
    have := List.mem_singleton.mp hc
    simp only at this
    exact .inr (by omega)
  · have := numT_neg ⟨(-i).toNat, by omega⟩ (show (-i).toNat ≠ 0 by omega)
    have e : (-(((-i).toNat : Nat) : Int)) = i := by omega
    rw [show (-((⟨(-i).toNat, by omega⟩ : Fin 10).val : Int)) = i from e] at this
    rw [this] at hc
    simp only [List.mem_cons, List.not_mem_nil, or_false] at hc
    rcases hc with rfl | rfl
    · exact .inl rfl
    · exact .inr (by omega)
end TX

set_option Elab.async false
set_option linter.all false
set_option maxRecDepth 100000
namespace TX
open PySem PySem.Builtin PySem.Builtin.Str PySem.StrLaws TL
def SEP : L := [32, 38, 32]
theorem SEP_ne : SEP ≠ [] := by decide
def wFill : L := [102, 105, 108, 108]
def wRub : L := [114, 117, 98]
def wGroup : L := [103, 114, 111, 117, 112]
theorem tl_fill : tl ("fill" : Str) = wFill := by decide +kernel
theorem tl_rub : tl ("rub" : Str) = wRub := by decide +kernel
theorem tl_group : tl ("group" : Str) = wGroup := by decide +kernel
def itemsD : PyData → List PyData
  | .tuple ds => ds
  | _ => []
def readNums (s : Nat) (t : L) : Option PyData := (mapO readNum (spl [s] 0 [] t)).map .tuple
def fmtNums (s : Nat) (d : PyData) : L := joinL [s] ((itemsD d).map fmtNum)
def readLoop (t : L) : Option PyData := (mapO (readNums 44) (spl [59] 0 [] t)).map .tuple
def fmtLoop (d : PyData) : L := joinL [59] ((itemsD d).map (fmtNums 44))
def readShape (t : L) : Option PyData := match par [40] [] t with
  | some (r, rest) => if rest.getLast? = some 41 then (mapO readLoop (spl [124] 0 [] rest.dropLast)).map (fun ls => .tuple [.str (mk r), .tuple ls]) else none
  | none => none
def fmtShape : PyData → L
  | .tuple [.str r, .tuple ls] => tl r ++ ([40] ++ (joinL [124] (ls.map fmtLoop) ++ [41]))
  | _ => []
def readFill (t : L) : Option PyData := match spm [32] 2 t with
  | [s, c, o] => match readShape s with
    | none => none
    | some s' => match readNums 46 c with
      | none => none
      | some c' => match readNums 47 o with
        | none => none
        | some o' => some (.tuple [.str "fill", s', c', o'])
  | _ => none
def readRub (t : L) : Option PyData := match spm [32] 1 t with
  | [s, o] => match readShape s with
    | none => none
    | some s' => match readNums 47 o with
      | none => none
      | some o' => some (.tuple [.str "rub", s', o'])
  | _ => none
def readClip (c : L) : Option PyData := if c = [45] then some .none else readShape c
def readGroup (f : L → Option (List PyData)) (t : L) : Option PyData := match spm [32] 3 t with
  | [m, o, c, i] => if i.head? = some 91 ∧ i.getLast? = some 93 then (match f (i.drop 1).dropLast with
    | none => none
    | some ls => match readClip c with
      | none => none
      | some c' => match readNums 47 o with
        | none => none
        | some o' => match readNums 46 m with
          | none => none
          | some m' => some (.tuple [.str "group", .tuple ls, o', c', m'])) else none
  | _ => none
def dep (p : L) : Int := (p.count 91 : Int) - (p.count 93 : Int)
def grp : List L → List L → Int → Option (List (List L))
  | [], held, _ => if held = [] then some [] else none
  | p :: r, held, k => if k + dep p = 0 then (match grp r [] 0 with
    | none => none
    | some gs => some ((held ++ [p]) :: gs)) else grp r (held ++ [p]) (k + dep p)
def splitLayers (t : L) : Option (List L) := match grp (spl SEP 0 [] t) [] 0 with
  | none => none
  | some gs => some (gs.map (joinL SEP))
def readLayersF (f : L → Option PyData) (t : L) : Option (List PyData) := if t = [] then some [] else match splitLayers t with
  | none => none
  | some ts => mapO f ts
def readLayer : Nat → L → Option PyData
  | n, t => match par [32] [] t with
    | none => none
    | some (k, rest) => if k = wFill then readFill rest else if k = wRub then readRub rest else if k = wGroup then (match n with
      | 0 => none
      | n + 1 => readGroup (readLayersF (readLayer n)) rest) else none
def clipT : PyData → L
  | .none => [45]
  | c => fmtShape c
def fmtLayersF (f : PyData → L) (ds : List PyData) : L := joinL SEP (ds.map f)
def fmtPlain (k : Str) (xs : List PyData) : L := match xs with
  | [s, c, o] => joinL [32] [tl k, fmtShape s, fmtNums 46 c, fmtNums 47 o]
  | [s, o] => joinL [32] [tl k, fmtShape s, fmtNums 47 o]
  | _ => []
def fmtGroup (f : List PyData → L) (xs : List PyData) : L := match xs with
  | [ls, o, c, m] => joinL [32] [wGroup, fmtNums 46 m, fmtNums 47 o, clipT c, [91] ++ (f (itemsD ls) ++ [93])]
  | _ => []
def fmtLayer : Nat → PyData → L
  | n, .tuple (.str k :: xs) => if k = "group" then (match n with
    | 0 => []
    | n + 1 => fmtGroup (fmtLayersF (fmtLayer n)) xs) else fmtPlain k xs
  | _, _ => []

/-! ### what is read is what is written -/
theorem nums_back {s : Nat} {t : L} {d : PyData} (h : readNums s t = some d) : fmtNums s d = t := by
  unfold readNums at h
  obtain ⟨ds, e, rfl⟩ := Option.map_eq_some_iff.mp h
  show joinL [s] (ds.map fmtNum) = t
  rw [mapO_back (fun a b _ => read_num) e, join_split (by simp)]
theorem loop_back {t : L} {d : PyData} (h : readLoop t = some d) : fmtLoop d = t := by
  unfold readLoop at h
  obtain ⟨ds, e, rfl⟩ := Option.map_eq_some_iff.mp h
  show joinL [59] (ds.map (fmtNums 44)) = t
  rw [mapO_back (fun a b _ => nums_back) e, join_split (by simp)]
theorem shape_back {t : L} {d : PyData} (h : readShape t = some d) : fmtShape d = t := by
  unfold readShape at h
  split at h
  · rename_i r rest e
    split at h
    · rename_i hl
      obtain ⟨ls, e2, rfl⟩ := Option.map_eq_some_iff.mp h
      show tl (mk r) ++ ([40] ++ (joinL [124] (ls.map fmtLoop) ++ [41])) = t
      rw [mapO_back (fun a b _ => loop_back) e2, join_split (by simp)]
      have e3 := par_eq e
      rw [List.nil_append] at e3
      rw [e3]
      show r ++ ([40] ++ (rest.dropLast ++ [41])) = _
      congr 2
      have hne : rest ≠ [] := by rintro rfl; cases hl
      have e4 := List.dropLast_concat_getLast hne
      rw [List.getLast?_eq_some_getLast hne] at hl
      rw [Option.some.inj hl] at e4
      exact e4
    · cases h
  · cases h
theorem fill_back {t : L} {d : PyData} (h : readFill t = some d) : ∃ s c o, d = .tuple [.str "fill", s, c, o] ∧ joinL [32] [fmtShape s, fmtNums 46 c, fmtNums 47 o] = t := by
  unfold readFill at h
  split at h
  · rename_i s c o e
    split at h
    · cases h
    · rename_i s' h1
      split at h
      · cases h
      · rename_i c' h2
        split at h
        · cases h
        · rename_i o' h3
          cases h
          refine ⟨s', c', o', rfl, ?_⟩
          rw [shape_back h1, nums_back h2, nums_back h3, ← e, join_spm]
  · cases h
theorem rub_back {t : L} {d : PyData} (h : readRub t = some d) : ∃ s o, d = .tuple [.str "rub", s, o] ∧ joinL [32] [fmtShape s, fmtNums 47 o] = t := by
  unfold readRub at h
  split at h
  · rename_i s o e
    split at h
    · cases h
    · rename_i s' h1
      split at h
      · cases h
      · rename_i o' h3
        cases h
        refine ⟨s', o', rfl, ?_⟩
        rw [shape_back h1, nums_back h3, ← e, join_spm]
  · cases h
theorem clip_back {c : L} {d : PyData} (h : readClip c = some d) : clipT d = c := by
  unfold readClip at h
  split at h
  · rename_i e
    cases h
    exact e.symm
  · have z := shape_back h
    obtain ⟨r, ls, rfl⟩ : ∃ r ls, d = .tuple [.str r, .tuple ls] := by
      unfold readShape at h
      split at h
      · split at h
        · obtain ⟨ls, _, e⟩ := Option.map_eq_some_iff.mp h
          exact ⟨_, ls, e.symm⟩
        · cases h
      · cases h
    exact z
theorem group_back {f : L → Option (List PyData)} {g : List PyData → L} (hf : ∀ t ls, f t = some ls → g ls = t) {t : L} {d : PyData} (h : readGroup f t = some d) :
    ∃ ls o c m, d = .tuple [.str "group", .tuple ls, o, c, m] ∧ joinL [32] [fmtNums 46 m, fmtNums 47 o, clipT c, [91] ++ (g ls ++ [93])] = t := by
  unfold readGroup at h
  split at h
  · rename_i m o c i e
    split at h
    · rename_i hi
      split at h
      · cases h
      · rename_i ls h1
        split at h
        · cases h
        · rename_i c' h2
          split at h
          · cases h
          · rename_i o' h3
            split at h
            · cases h
            · rename_i m' h4
              cases h
              refine ⟨ls, o', c', m', rfl, ?_⟩
              rw [nums_back h4, nums_back h3, clip_back h2, hf _ _ h1]
              have ei : [91] ++ ((i.drop 1).dropLast ++ [93]) = i := by
                cases i with
                | nil => cases hi.1
                | cons a r =>
                  have ha : a = 91 := Option.some.inj hi.1
                  subst ha
                  have hr : r ≠ [] := by rintro rfl; cases hi.2
                  have h2 := hi.2
                  rw [List.getLast?_cons_of_ne_nil hr] at h2
                  show 91 :: (r.dropLast ++ [93]) = 91 :: r
                  congr 1
                  have e4 := List.dropLast_concat_getLast hr
                  rw [List.getLast?_eq_some_getLast hr] at h2
                  rw [Option.some.inj h2] at e4
                  exact e4
              rw [ei, ← e, join_spm]
    · cases h
  · cases h
theorem grp_back : ∀ {ps held : List L} {k : Int} {gs : List (List L)}, grp ps held k = some gs → gs.flatten = held ++ ps ∧ ∀ g, g ∈ gs → g ≠ []
  | [], held, k, gs, h => by
    unfold grp at h
    split at h
    · rename_i e
      cases h
      subst e
      exact ⟨rfl, by simp⟩
    · cases h
  | p :: r, held, k, gs, h => by
    unfold grp at h
    split at h
    · split at h
      · cases h
      · rename_i gs' e
        cases h
        obtain ⟨h1, h2⟩ := grp_back e
        refine ⟨by rw [List.flatten_cons, h1, List.nil_append, List.append_assoc]; rfl, fun g hg => ?_⟩
        rcases List.mem_cons.mp hg with rfl | hg
        · simp
        · exact h2 g hg
    · obtain ⟨h1, h2⟩ := grp_back h
      exact ⟨by rw [h1, List.append_assoc]; rfl, h2⟩
theorem layersF_back {f : L → Option PyData} {g : PyData → L} (hf : ∀ t d, f t = some d → g d = t) {t : L} {ls : List PyData} (h : readLayersF f t = some ls) : fmtLayersF g ls = t := by
  unfold readLayersF at h
  split at h
  · rename_i e
    cases h
    exact e.symm
  · split at h
    · cases h
    · rename_i ts e
      unfold splitLayers at e
      split at e
      · cases e
      · rename_i gs eg
        cases e
        obtain ⟨h1, h2⟩ := grp_back eg
        unfold fmtLayersF
        rw [mapO_back (fun a b _ => hf a b) h, joinL_flat gs h2, h1, List.nil_append, join_split SEP_ne]
theorem layer_back : ∀ (n : Nat) {t : L} {d : PyData}, readLayer n t = some d → fmtLayer n d = t
  | n, t, d, h => by
    unfold readLayer at h
    split at h
    · cases h
    · rename_i k rest e
      have e3 := par_eq e
      rw [List.nil_append] at e3
      split at h
      · rename_i hk
        obtain ⟨s, c, o, rfl, e2⟩ := fill_back h
        unfold fmtLayer
        rw [if_neg (by decide)]
        show joinL [32] [tl "fill", fmtShape s, fmtNums 46 c, fmtNums 47 o] = t
        rw [joinL_cons (by simp), e2, e3, hk, tl_fill]
      · split at h
        · rename_i hk
          obtain ⟨s, o, rfl, e2⟩ := rub_back h
          unfold fmtLayer
          rw [if_neg (by decide)]
          show joinL [32] [tl "rub", fmtShape s, fmtNums 47 o] = t
          rw [joinL_cons (by simp), e2, e3, hk, tl_rub]
        · split at h
          · rename_i hk
            cases n with
            | zero => cases h
            | succ n =>
              obtain ⟨ls, o, c, m, rfl, e2⟩ := group_back (g := fmtLayersF (fmtLayer n)) (fun t ls => layersF_back fun t d => layer_back n) h
              unfold fmtLayer
              rw [if_pos rfl]
              show joinL [32] [wGroup, fmtNums 46 m, fmtNums 47 o, clipT c, [91] ++ (fmtLayersF (fmtLayer n) ls ++ [93])] = t
              rw [joinL_cons (by simp), e2, e3, hk]
          · cases h
end TX

set_option Elab.async false
set_option linter.all false
set_option maxRecDepth 100000
namespace TX
open PySem PySem.Builtin PySem.Builtin.Str PySem.StrLaws TL
def goodNum (d : PyData) : Prop := ∃ i : Int, d = .int i ∧ -9 ≤ i ∧ i ≤ 9
def goodNums (d : PyData) : Prop := ∃ ds, d = .tuple ds ∧ ds ≠ [] ∧ ∀ x, x ∈ ds → goodNum x
def goodLoop (d : PyData) : Prop := ∃ ds, d = .tuple ds ∧ ds ≠ [] ∧ ∀ x, x ∈ ds → goodNums x
def goodShape (d : PyData) : Prop := ∃ (r : Str) (ls : List PyData), d = .tuple [.str r, .tuple ls] ∧ (r = "odd" ∨ r = "turns") ∧ ls ≠ [] ∧ ∀ l, l ∈ ls → goodLoop l
def goodPlain (d : PyData) : Prop := (∃ s c o, d = .tuple [.str "fill", s, c, o] ∧ goodShape s ∧ goodNums c ∧ goodNums o) ∨ ∃ s o, d = .tuple [.str "rub", s, o] ∧ goodShape s ∧ goodNums o
def goodClip (c : PyData) : Prop := c = .none ∨ goodShape c
def goodLayer : Nat → PyData → Prop
  | 0, d => goodPlain d
  | n + 1, d => goodPlain d ∨ ∃ ls o c m, d = .tuple [.str "group", .tuple ls, o, c, m] ∧ (∀ l, l ∈ ls → goodLayer n l) ∧ goodNums o ∧ goodClip c ∧ goodNums m
theorem mem_joinL {S : L} {c : Nat} : ∀ {ps : List L}, c ∈ joinL S ps → c ∈ S ∨ ∃ p, p ∈ ps ∧ c ∈ p
  | [], h => by cases h
  | [p], h => .inr ⟨p, List.mem_cons_self, h⟩
  | p :: q :: r, h => by
    rw [joinL_cons (by simp)] at h
    rcases List.mem_append.mp h with h | h
    · exact .inr ⟨p, List.mem_cons_self, h⟩
    · rcases List.mem_append.mp h with h | h
      · exact .inl h
      · rcases mem_joinL h with h | ⟨p', h1, h2⟩
        · exact .inl h
        · exact .inr ⟨p', List.mem_cons_of_mem _ h1, h2⟩
theorem nums_signs {s : Nat} {d : PyData} (h : goodNums d) : ∀ c, c ∈ fmtNums s d → isNumC c ∨ c = s := by
  obtain ⟨ds, rfl, hne, hd⟩ := h
  intro c hc
  rcases mem_joinL hc with h | ⟨p, h1, h2⟩
  · exact .inr (List.mem_singleton.mp h)
  · obtain ⟨x, hx, rfl⟩ := List.mem_map.mp h1
    obtain ⟨i, rfl, i1, i2⟩ := hd x hx
    exact .inl (num_signs i1 i2 c h2)
theorem loop_signs {d : PyData} (h : goodLoop d) : ∀ c, c ∈ fmtLoop d → isNumC c ∨ c = 44 ∨ c = 59 := by
  obtain ⟨ds, rfl, hne, hd⟩ := h
  intro c hc
  rcases mem_joinL hc with h | ⟨p, h1, h2⟩
  · exact .inr (.inr (List.mem_singleton.mp h))
  · obtain ⟨x, hx, rfl⟩ := List.mem_map.mp h1
    rcases nums_signs (hd x hx) c h2 with h | h
    · exact .inl h
    · exact .inr (.inl h)
/-- the signs of a shape's text -/
def isShC (c : Nat) : Prop := isNumC c ∨ c = 44 ∨ c = 59 ∨ c = 124 ∨ c = 40 ∨ c = 41 ∨ (97 ≤ c ∧ c ≤ 122)
theorem tl_odd : tl ("odd" : Str) = [111, 100, 100] := by decide +kernel
theorem tl_turns : tl ("turns" : Str) = [116, 117, 114, 110, 115] := by decide +kernel
theorem rule_signs {r : Str} (h : r = "odd" ∨ r = "turns") : ∀ c, c ∈ tl r → 97 ≤ c ∧ c ≤ 122 := by
  intro c hc
  rcases h with rfl | rfl
  · rw [tl_odd] at hc
    simp only [List.mem_cons, List.not_mem_nil, or_false] at hc
    omega
  · rw [tl_turns] at hc
    simp only [List.mem_cons, List.not_mem_nil, or_false] at hc
    omega
theorem shape_signs {d : PyData} (h : goodShape d) : ∀ c, c ∈ fmtShape d → isShC c := by
  obtain ⟨r, ls, rfl, hr, hne, hl⟩ := h
  intro c hc
  have hc : c ∈ tl r ++ ([40] ++ (joinL [124] (ls.map fmtLoop) ++ [41])) := hc
  rcases List.mem_append.mp hc with h | h
  · exact .inr (.inr (.inr (.inr (.inr (.inr (rule_signs hr c h))))))
  · rcases List.mem_append.mp h with h | h
    · have := List.mem_singleton.mp h
      exact .inr (.inr (.inr (.inr (.inl this))))
    · rcases List.mem_append.mp h with h | h
      · rcases mem_joinL h with h | ⟨p, h1, h2⟩
        · exact .inr (.inr (.inr (.inl (List.mem_singleton.mp h))))
        · obtain ⟨x, hx, rfl⟩ := List.mem_map.mp h1
          rcases loop_signs (hl x hx) c h2 with h | h | h
          · exact .inl h
          · exact .inr (.inl h)
          · exact .inr (.inr (.inl h))
      · have := List.mem_singleton.mp h
        exact .inr (.inr (.inr (.inr (.inr (.inl this)))))
theorem not_sh {c : Nat} (h : c = 32 ∨ c = 38 ∨ c = 91 ∨ c = 93) : ¬ isShC c := by
  unfold isShC isNumC
  omega
/-! ### what is written is read -/
theorem nums_read {s : Nat} (hs : ¬ isNumC s) {d : PyData} (h : goodNums d) : readNums s (fmtNums s d) = some d := by
  obtain ⟨ds, rfl, hne, hd⟩ := h
  unfold readNums
  show Option.map PyData.tuple (mapO readNum (spl [s] 0 [] (joinL [s] (ds.map fmtNum)))) = _
  rw [spl_join (fun e => hne (List.map_eq_nil_iff.mp e)) fun p hp hm => ?_, mapO_all fun x hx => ?_]
  · rfl
  · obtain ⟨i, rfl, i1, i2⟩ := hd x hx
    exact num_read i1 i2
  · obtain ⟨x, hx, rfl⟩ := List.mem_map.mp hp
    obtain ⟨i, rfl, i1, i2⟩ := hd x hx
    exact hs (num_signs i1 i2 s hm)
theorem n44 : ¬ isNumC 44 := by unfold isNumC; omega
theorem n46 : ¬ isNumC 46 := by unfold isNumC; omega
theorem n47 : ¬ isNumC 47 := by unfold isNumC; omega
theorem loop_read {d : PyData} (h : goodLoop d) : readLoop (fmtLoop d) = some d := by
  obtain ⟨ds, rfl, hne, hd⟩ := h
  unfold readLoop
  show Option.map PyData.tuple (mapO (readNums 44) (spl [59] 0 [] (joinL [59] (ds.map (fmtNums 44))))) = _
  rw [spl_join (fun e => hne (List.map_eq_nil_iff.mp e)) fun p hp hm => ?_, mapO_all fun x hx => nums_read n44 (hd x hx)]
  · rfl
  · obtain ⟨x, hx, rfl⟩ := List.mem_map.mp hp
    have := nums_signs (hd x hx) _ hm
    unfold isNumC at this
    omega
theorem shape_read {d : PyData} (h : goodShape d) : readShape (fmtShape d) = some d := by
  obtain ⟨r, ls, rfl, hr, hne, hl⟩ := h
  unfold readShape
  show (match par [40] [] (tl r ++ ([40] ++ (joinL [124] (ls.map fmtLoop) ++ [41]))) with
    | some (r, rest) => if rest.getLast? = some 41 then (mapO readLoop (spl [124] 0 [] rest.dropLast)).map (fun ls => PyData.tuple [.str (mk r), .tuple ls]) else none
    | none => none) = _
  rw [par_part1 (s := 40) (S := []) fun hm => by have := rule_signs hr _ hm; omega]
  show (if (joinL [124] (ls.map fmtLoop) ++ [41]).getLast? = some 41 then (mapO readLoop (spl [124] 0 [] (joinL [124] (ls.map fmtLoop) ++ [41]).dropLast)).map (fun ls => PyData.tuple [.str (mk ([] ++ tl r)), .tuple ls]) else none) = _
  rw [if_pos (by rw [List.getLast?_append]; rfl), List.dropLast_concat, spl_join (fun e => hne (List.map_eq_nil_iff.mp e)) fun p hp hm => ?_, mapO_all fun x hx => loop_read (hl x hx)]
  · show some (PyData.tuple [.str (mk ([] ++ tl r)), .tuple ls]) = _
    rw [List.nil_append, mk_of_tl]
  · obtain ⟨x, hx, rfl⟩ := List.mem_map.mp hp
    have := loop_signs (hl x hx) _ hm
    unfold isNumC at this
    omega
theorem sh_free {c : Nat} (h : c = 32 ∨ c = 38 ∨ c = 91 ∨ c = 93) {d : PyData} (g : goodShape d) : c ∉ fmtShape d := fun hm => not_sh h (shape_signs g c hm)
theorem num_free {c s : Nat} (h : c = 32 ∨ c = 38 ∨ c = 91 ∨ c = 93) (hs : s = 46 ∨ s = 47) {d : PyData} (g : goodNums d) : c ∉ fmtNums s d := fun hm => by
  have := nums_signs g c hm
  unfold isNumC at this
  omega
theorem clip_free {c : Nat} (h : c = 32 ∨ c = 38 ∨ c = 91 ∨ c = 93) {d : PyData} (g : goodClip d) : c ∉ clipT d := by
  rcases g with rfl | g
  · intro hm
    have hm : c ∈ [45] := hm
    have := List.mem_singleton.mp hm
    omega
  · have e : clipT d = fmtShape d := by
      obtain ⟨r, ls, rfl, _⟩ := g
      rfl
    rw [e]
    exact sh_free h g
theorem spm_cons {s : Nat} {n : Nat} {p q : L} (h : s ∉ p) : spm [s] (n + 1) (p ++ ([s] ++ q)) = p :: spm [s] n q := by
  show (match par [s] [] (p ++ ([s] ++ q)) with | some (a, b) => a :: spm [s] n b | none => [p ++ ([s] ++ q)]) = _
  rw [par_part1 (s := s) (S := []) h, List.nil_append]
theorem clip_read {c : PyData} (h : goodClip c) : readClip (clipT c) = some c := by
  rcases h with rfl | h
  · rfl
  · have e : clipT c = fmtShape c := by
      obtain ⟨r, ls, rfl, _⟩ := h
      rfl
    rw [e]
    unfold readClip
    have hne : fmtShape c ≠ [45] := by
      intro z
      obtain ⟨r, ls, rfl, _⟩ := h
      have z : tl r ++ ([40] ++ (joinL [124] (ls.map fmtLoop) ++ [41])) = [45] := z
      have hl := congrArg List.length z
      simp only [List.length_append, List.length_cons, List.length_nil] at hl
      omega
    rw [if_neg hne, shape_read h]
/-! ### brackets -/
def depS (P : List L) : Int := (P.map dep).sum
theorem depS_cons (p : L) (P : List L) : depS (p :: P) = dep p + depS P := by unfold depS; rw [List.map_cons, List.sum_cons]
theorem depS_app (P Q : List L) : depS (P ++ Q) = depS P + depS Q := by
  induction P with
  | nil => show depS Q = 0 + depS Q; omega
  | cons p P ih => rw [List.cons_append, depS_cons, depS_cons, ih]; omega
theorem dep_app (p q : L) : dep (p ++ q) = dep p + dep q := by
  unfold dep
  rw [List.count_append, List.count_append]
  omega
theorem dep_free {p : L} (h1 : 91 ∉ p) (h2 : 93 ∉ p) : dep p = 0 := by
  unfold dep
  rw [List.count_eq_zero_of_not_mem h1, List.count_eq_zero_of_not_mem h2]
  rfl
structure Bal (P : List L) : Prop where
  ne : P ≠ []
  pos : ∀ q r, P = q ++ r → 0 ≤ depS q
  tot : depS P = 0
  inn : ∀ q r, P = q ++ r → q ≠ [] → r ≠ [] → depS q ≠ 0
theorem grp_run : ∀ (P h : List L) (k : Int) (R : List L), P ≠ [] → k + depS P = 0 → (∀ q r, P = q ++ r → q ≠ [] → r ≠ [] → k + depS q ≠ 0) → grp (P ++ R) h k = (match grp R [] 0 with
    | none => none
    | some gs => some ((h ++ P) :: gs))
  | [], _, _, _, h, _, _ => absurd rfl h
  | [p], h, k, R, _, ht, _ => by
    have e : k + dep p = 0 := by
      rw [depS_cons] at ht
      have : depS [] = 0 := rfl
      omega
    show (if k + dep p = 0 then (match grp R [] 0 with
      | none => none
      | some gs => some ((h ++ [p]) :: gs)) else grp R (h ++ [p]) (k + dep p)) = _
    rw [if_pos e]
  | p :: p' :: P, h, k, R, _, ht, hi => by
    have e : k + dep p ≠ 0 := by
      have := hi [p] (p' :: P) rfl (by simp) (by simp)
      rw [depS_cons] at this
      have z : depS [] = 0 := rfl
      omega
    show (if k + dep p = 0 then (match grp ((p' :: P) ++ R) [] 0 with
      | none => none
      | some gs => some ((h ++ [p]) :: gs)) else grp ((p' :: P) ++ R) (h ++ [p]) (k + dep p)) = _
    rw [if_neg e, grp_run (p' :: P) (h ++ [p]) (k + dep p) R (by simp) (by rw [depS_cons] at ht; omega) (fun q r e1 e2 e3 => by
      have := hi (p :: q) r (by rw [e1]; rfl) (by simp) e3
      rw [depS_cons] at this
      omega), List.append_assoc]
    rfl
theorem grp_all : ∀ (Ps : List (List L)), (∀ P, P ∈ Ps → Bal P) → grp Ps.flatten [] 0 = some Ps
  | [], _ => rfl
  | P :: Ps, h => by
    have b := h P List.mem_cons_self
    rw [List.flatten_cons, grp_run P [] 0 _ b.ne (by rw [b.tot]; rfl) (fun q r e1 e2 e3 => by have := b.inn q r e1 e2 e3; omega), grp_all Ps fun P hP => h P (List.mem_cons_of_mem _ hP)]
    rfl
theorem bal_flat : ∀ (Ps : List (List L)), (∀ P, P ∈ Ps → Bal P) → (∀ q r, Ps.flatten = q ++ r → 0 ≤ depS q) ∧ depS Ps.flatten = 0
  | [], _ => by
    refine ⟨fun q r e => ?_, rfl⟩
    have e : ([] : List L) = q ++ r := e
    have := (List.append_eq_nil_iff.mp e.symm).1
    rw [this]
    exact Int.le_refl _
  | P :: Ps, h => by
    have b := h P List.mem_cons_self
    obtain ⟨i1, i2⟩ := bal_flat Ps fun P hP => h P (List.mem_cons_of_mem _ hP)
    refine ⟨fun q r e => ?_, by rw [List.flatten_cons, depS_app, b.tot, i2]; rfl⟩
    rw [List.flatten_cons] at e
    rcases List.append_eq_append_iff.mp e with ⟨c, e1, e2⟩ | ⟨c, e1, e2⟩
    · rw [e1, depS_app, b.tot]
      have := i1 c r e2
      omega
    · exact b.pos q c e1
def addLast (B : L) : List L → List L
  | [] => []
  | [q] => [q ++ B]
  | q :: q' :: r => q :: addLast B (q' :: r)
def addFirst (A : L) : List L → List L
  | [] => []
  | q :: r => (A ++ q) :: r
theorem addLast_ne {B : L} : ∀ {Q : List L}, Q ≠ [] → addLast B Q ≠ []
  | [], h => absurd rfl h
  | [q], _ => by unfold addLast; simp
  | q :: q' :: r, _ => by unfold addLast; simp
theorem join_addLast {S B : L} : ∀ {Q : List L}, Q ≠ [] → joinL S (addLast B Q) = joinL S Q ++ B
  | [], h => absurd rfl h
  | [q], _ => rfl
  | q :: q' :: r, _ => by
    show joinL S (q :: addLast B (q' :: r)) = _
    rw [joinL_cons (addLast_ne (by simp)), join_addLast (by simp), joinL_cons (ps := q' :: r) (by simp), List.append_assoc, List.append_assoc]
theorem join_addFirst {S A : L} : ∀ {Q : List L}, Q ≠ [] → joinL S (addFirst A Q) = A ++ joinL S Q
  | [], h => absurd rfl h
  | [q], _ => rfl
  | q :: q' :: r, _ => by
    show joinL S ((A ++ q) :: q' :: r) = _
    rw [joinL_cons (by simp), joinL_cons (p := q) (ps := q' :: r) (by simp), List.append_assoc]
theorem depS_addLast {B : L} : ∀ {Q : List L}, Q ≠ [] → depS (addLast B Q) = depS Q + dep B
  | [], h => absurd rfl h
  | [q], _ => by
    show depS [q ++ B] = _
    rw [depS_cons, depS_cons, dep_app]
    have : depS [] = 0 := rfl
    omega
  | q :: q' :: r, _ => by
    show depS (q :: addLast B (q' :: r)) = _
    rw [depS_cons, depS_addLast (by simp), depS_cons q]
    omega
theorem pre_addLast {B : L} : ∀ {Q q r : List L}, addLast B Q = q ++ r → r ≠ [] → ∃ r', Q = q ++ r'
  | [], q, r, e, hr => by
    have e : ([] : List L) = q ++ r := e
    exact absurd (List.append_eq_nil_iff.mp e.symm).2 hr
  | [x], [], r, e, hr => ⟨[x], rfl⟩
  | [x], y :: q, r, e, hr => by
    have e : [x ++ B] = y :: (q ++ r) := e
    injection e with _ e
    exact absurd (List.append_eq_nil_iff.mp e.symm).2 hr
  | x :: x' :: Q, [], r, e, hr => ⟨_, rfl⟩
  | x :: x' :: Q, y :: q, r, e, hr => by
    have e : x :: addLast B (x' :: Q) = y :: (q ++ r) := e
    injection e with e1 e2
    obtain ⟨r', e3⟩ := pre_addLast e2 hr
    exact ⟨r', by rw [e1, e3]; rfl⟩
theorem bal_wrap {A B : L} {Q : List L} (hQ : Q ≠ []) (h1 : ∀ q r, Q = q ++ r → 0 ≤ depS q) (h2 : depS Q = 0) (hA : dep A = 1) (hB : dep B = -1) : Bal (addFirst A (addLast B Q)) := by
  have hne := addLast_ne (B := B) hQ
  obtain ⟨x, X, eX⟩ : ∃ x X, addLast B Q = x :: X := by
    cases h : addLast B Q with
    | nil => exact absurd h hne
    | cons x X => exact ⟨x, X, rfl⟩
  have tot : depS (addFirst A (addLast B Q)) = 0 := by
    rw [eX]
    show depS ((A ++ x) :: X) = 0
    have e := depS_addLast (B := B) hQ
    rw [eX, depS_cons] at e
    rw [depS_cons, dep_app]
    omega
  have inn : ∀ q r, addFirst A (addLast B Q) = q ++ r → q ≠ [] → r ≠ [] → 1 ≤ depS q := by
    intro q r e hq hr
    rw [eX] at e
    have e : (A ++ x) :: X = q ++ r := e
    cases q with
    | nil => exact absurd rfl hq
    | cons y q =>
      have e : (A ++ x) :: X = y :: (q ++ r) := e
      injection e with e1 e2
      have e3 : addLast B Q = (x :: q) ++ r := by rw [eX, e2]; rfl
      obtain ⟨r', e4⟩ := pre_addLast e3 hr
      have := h1 _ _ e4
      rw [depS_cons] at this
      rw [depS_cons, ← e1, dep_app]
      omega
  refine ⟨by rw [eX]; simp [addFirst], fun q r e => ?_, tot, fun q r e hq hr => ?_⟩
  · by_cases hq : q = []
    · rw [hq]; exact Int.le_refl _
    · by_cases hr : r = []
      · rw [hr, List.append_nil] at e
        rw [← e, tot]; exact Int.le_refl _
      · have := inn q r e hq hr
        omega
  · have := inn q r e hq hr
    omega
theorem spl_join3 : ∀ {parts : List L}, parts ≠ [] → (∀ p, p ∈ parts → 38 ∉ p) → spl SEP 0 [] (joinL SEP parts) = parts := by
  have free : ∀ (p q : L), 38 ∉ p → (q = [] ∨ q.head? = some 32) → ∀ i, i < p.length → pre SEP ((p ++ q).drop i) = false := by
    intro p q h hq i hi
    cases e : pre SEP ((p ++ q).drop i) with
    | false => rfl
    | true =>
      exfalso
      have z := pre_eq e
      have z1 : ((p ++ q).drop i)[1]? = some 38 := by rw [z]; rfl
      rw [List.getElem?_drop] at z1
      by_cases h1 : i + 1 < p.length
      · rw [List.getElem?_append_left h1] at z1
        exact h (List.mem_of_getElem? z1)
      · have e1 : i + 1 = p.length := by omega
        rw [e1, List.getElem?_append_right (Nat.le_refl _), Nat.sub_self] at z1
        rcases hq with rfl | hq
        · cases z1
        · cases q with
          | nil => cases hq
          | cons a q =>
            have e2 : a = 32 := Option.some.inj hq
            have e3 : a = 38 := Option.some.inj z1
            omega
  intro parts
  induction parts with
  | nil => intro h; exact absurd rfl h
  | cons p ps ih =>
    intro _ hp
    cases ps with
    | nil =>
      show spl SEP 0 [] p = [p]
      rw [spl_last fun i hi => ?_]
      · rfl
      · have := free p [] (hp p List.mem_cons_self) (.inl rfl) i hi
        rw [List.append_nil] at this
        exact this
    | cons q r =>
      rw [joinL_cons (by simp), spl_part SEP_ne (free p _ (hp p List.mem_cons_self) (.inr rfl)), ih (by simp) fun x hx => hp x (List.mem_cons_of_mem _ hx)]
      rfl
end TX

set_option Elab.async false
set_option linter.all false
set_option maxRecDepth 100000
namespace TX
open PySem PySem.Builtin PySem.Builtin.Str PySem.StrLaws TL
theorem goodPlain_layer {n : Nat} {d : PyData} (h : goodPlain d) : goodLayer n d := by
  cases n with
  | zero => exact h
  | succ n => exact .inl h
theorem fmt_fill (n : Nat) (s c o : PyData) : fmtLayer n (.tuple [.str "fill", s, c, o]) = joinL [32] [wFill, fmtShape s, fmtNums 46 c, fmtNums 47 o] := by
  unfold fmtLayer
  rw [if_neg (by decide)]
  show joinL [32] [tl "fill", fmtShape s, fmtNums 46 c, fmtNums 47 o] = _
  rw [tl_fill]
theorem fmt_rub (n : Nat) (s o : PyData) : fmtLayer n (.tuple [.str "rub", s, o]) = joinL [32] [wRub, fmtShape s, fmtNums 47 o] := by
  unfold fmtLayer
  rw [if_neg (by decide)]
  show joinL [32] [tl "rub", fmtShape s, fmtNums 47 o] = _
  rw [tl_rub]
theorem fmt_group (n : Nat) (ls : List PyData) (o c m : PyData) : fmtLayer (n + 1) (.tuple [.str "group", .tuple ls, o, c, m]) = joinL [32] [wGroup, fmtNums 46 m, fmtNums 47 o, clipT c, [91] ++ (fmtLayersF (fmtLayer n) ls ++ [93])] := by
  unfold fmtLayer
  rw [if_pos rfl]
  rfl
theorem w_free {c : Nat} (h : c = 32 ∨ c = 38 ∨ c = 91 ∨ c = 93) : c ∉ wFill ∧ c ∉ wRub ∧ c ∉ wGroup := by
  rcases h with rfl | rfl | rfl | rfl <;> decide
theorem free_join {c s : Nat} (hs : c ≠ s) {ps : List L} (h : ∀ p, p ∈ ps → c ∉ p) : c ∉ joinL [s] ps := fun hm => by
  rcases mem_joinL hm with z | ⟨p, h1, h2⟩
  · exact hs (List.mem_singleton.mp z)
  · exact h p h1 h2
theorem plain_free {c : Nat} (h : c = 38 ∨ c = 91 ∨ c = 93) {n : Nat} {d : PyData} (g : goodPlain d) : c ∉ fmtLayer n d := by
  have h4 : c = 32 ∨ c = 38 ∨ c = 91 ∨ c = 93 := .inr h
  have h32 : c ≠ 32 := by omega
  rcases g with ⟨s, cc, o, rfl, gs, gc, go⟩ | ⟨s, o, rfl, gs, go⟩
  · rw [fmt_fill]
    refine free_join h32 fun p hp => ?_
    simp only [List.mem_cons, List.not_mem_nil, or_false] at hp
    rcases hp with rfl | rfl | rfl | rfl
    · exact (w_free h4).1
    · exact sh_free h4 gs
    · exact num_free h4 (.inl rfl) gc
    · exact num_free h4 (.inr rfl) go
  · rw [fmt_rub]
    refine free_join h32 fun p hp => ?_
    simp only [List.mem_cons, List.not_mem_nil, or_false] at hp
    rcases hp with rfl | rfl | rfl
    · exact (w_free h4).2.1
    · exact sh_free h4 gs
    · exact num_free h4 (.inr rfl) go
theorem bal_one {p : L} (h : dep p = 0) : Bal [p] := by
  have e0 : depS [p] = 0 := by rw [depS_cons, h]; rfl
  refine ⟨by simp, fun q r e => ?_, e0, fun q r e hq hr => ?_⟩
  · cases q with
    | nil => exact Int.le_refl _
    | cons y q =>
      have e : [p] = y :: (q ++ r) := e
      injection e with e1 e2
      rw [(List.append_eq_nil_iff.mp e2.symm).1, ← e1, e0]
      exact Int.le_refl _
  · cases q with
    | nil => exact absurd rfl hq
    | cons y q =>
      have e : [p] = y :: (q ++ r) := e
      injection e with e1 e2
      exact absurd (List.append_eq_nil_iff.mp e2.symm).2 hr
theorem addLast_mem {B : L} : ∀ {Q : List L} {p : L}, p ∈ addLast B Q → ∃ q, q ∈ Q ∧ (p = q ∨ p = q ++ B)
  | [], p, h => by cases h
  | [x], p, h => by
    have h : p ∈ [x ++ B] := h
    exact ⟨x, List.mem_cons_self, .inr (List.mem_singleton.mp h)⟩
  | x :: x' :: Q, p, h => by
    have h : p ∈ x :: addLast B (x' :: Q) := h
    rcases List.mem_cons.mp h with h | h
    · exact ⟨x, List.mem_cons_self, .inl h⟩
    · obtain ⟨q, h1, h2⟩ := addLast_mem h
      exact ⟨q, List.mem_cons_of_mem _ h1, h2⟩
theorem addFirst_mem {A : L} : ∀ {Q : List L} {p : L}, p ∈ addFirst A Q → ∃ q, q ∈ Q ∧ (p = q ∨ p = A ++ q)
  | [], p, h => by cases h
  | x :: Q, p, h => by
    have h : p ∈ (A ++ x) :: Q := h
    rcases List.mem_cons.mp h with h | h
    · exact ⟨x, List.mem_cons_self, .inr h⟩
    · exact ⟨p, List.mem_cons_of_mem _ h, .inl rfl⟩
theorem choose_parts {f : PyData → L} : ∀ (ls : List PyData), (∀ l, l ∈ ls → ∃ P, f l = joinL SEP P ∧ Bal P ∧ ∀ p, p ∈ P → 38 ∉ p) → ∃ Ps : List (List L), ls.map f = Ps.map (joinL SEP) ∧ (∀ P, P ∈ Ps → Bal P) ∧ ∀ P, P ∈ Ps → ∀ p, p ∈ P → 38 ∉ p
  | [], _ => ⟨[], rfl, by simp, by simp⟩
  | l :: ls, h => by
    obtain ⟨P, e, b, n⟩ := h l List.mem_cons_self
    obtain ⟨Ps, e2, b2, n2⟩ := choose_parts ls fun l hl => h l (List.mem_cons_of_mem _ hl)
    refine ⟨P :: Ps, by rw [List.map_cons, List.map_cons, e, e2], fun Q hQ => ?_, fun Q hQ => ?_⟩
    · rcases List.mem_cons.mp hQ with rfl | hQ
      · exact b
      · exact b2 Q hQ
    · rcases List.mem_cons.mp hQ with rfl | hQ
      · exact n
      · exact n2 Q hQ
theorem layers_parts {f : PyData → L} {ls : List PyData} (h : ∀ l, l ∈ ls → ∃ P, f l = joinL SEP P ∧ Bal P ∧ ∀ p, p ∈ P → 38 ∉ p) :
    ∃ Q, Q ≠ [] ∧ fmtLayersF f ls = joinL SEP Q ∧ (∀ q r, Q = q ++ r → 0 ≤ depS q) ∧ depS Q = 0 ∧ ∀ p, p ∈ Q → 38 ∉ p := by
  obtain ⟨Ps, e, b, n⟩ := choose_parts ls h
  cases Ps with
  | nil =>
    have e1 : fmtLayersF f ls = joinL SEP [[]] := by
      unfold fmtLayersF
      rw [e]; rfl
    have b1 := bal_one (p := []) rfl
    exact ⟨[[]], by simp, e1, b1.pos, b1.tot, fun p hp => by rw [List.mem_singleton.mp hp]; simp⟩
  | cons P Ps =>
    obtain ⟨f1, f2⟩ := bal_flat (P :: Ps) b
    refine ⟨(P :: Ps).flatten, flat_ne (b P List.mem_cons_self).ne, ?_, f1, f2, fun p hp => ?_⟩
    · unfold fmtLayersF
      rw [e, joinL_flat _ fun g hg => (b g hg).ne]
    · obtain ⟨Q, hQ, hp⟩ := List.mem_flatten.mp hp
      exact n Q hQ p hp
theorem layer_parts : ∀ (n : Nat) {d : PyData}, goodLayer n d → ∃ P, fmtLayer n d = joinL SEP P ∧ Bal P ∧ ∀ p, p ∈ P → 38 ∉ p := by
  have plain : ∀ (n : Nat) {d : PyData}, goodPlain d → ∃ P, fmtLayer n d = joinL SEP P ∧ Bal P ∧ ∀ p, p ∈ P → 38 ∉ p := fun n d g => by
    refine ⟨[fmtLayer n d], rfl, bal_one (dep_free (plain_free (.inr (.inl rfl)) g) (plain_free (.inr (.inr rfl)) g)), fun p hp => ?_⟩
    rw [List.mem_singleton.mp hp]
    exact plain_free (.inl rfl) g
  intro n
  induction n with
  | zero => intro d g; exact plain 0 g
  | succ n ih =>
    intro d g
    rcases g with g | ⟨ls, o, c, m, rfl, hl, go, gc, gm⟩
    · exact plain _ g
    obtain ⟨Q, hQ, e, q1, q2, q3⟩ := layers_parts (f := fmtLayer n) fun l hl' => ih (hl l hl')
    have hA : ∀ c' : Nat, (c' = 38 ∨ c' = 91 ∨ c' = 93) → c' ∉ joinL [32] [wGroup, fmtNums 46 m, fmtNums 47 o, clipT c] := fun c' h => by
      refine free_join (by omega) fun p hp => ?_
      have h4 : c' = 32 ∨ c' = 38 ∨ c' = 91 ∨ c' = 93 := .inr h
      simp only [List.mem_cons, List.not_mem_nil, or_false] at hp
      rcases hp with rfl | rfl | rfl | rfl
      · exact (w_free h4).2.2
      · exact num_free h4 (.inl rfl) gm
      · exact num_free h4 (.inr rfl) go
      · exact clip_free h4 gc
    have eT : fmtLayer (n + 1) (.tuple [.str "group", .tuple ls, o, c, m]) = (joinL [32] [wGroup, fmtNums 46 m, fmtNums 47 o, clipT c] ++ [32, 91]) ++ (joinL SEP Q ++ [93]) := by
      rw [fmt_group, e, show [wGroup, fmtNums 46 m, fmtNums 47 o, clipT c, [91] ++ (joinL SEP Q ++ [93])] = [wGroup, fmtNums 46 m, fmtNums 47 o, clipT c] ++ [[91] ++ (joinL SEP Q ++ [93])] from rfl, joinL_app (by simp) (by simp), List.append_assoc]
      rfl
    generalize joinL [32] [wGroup, fmtNums 46 m, fmtNums 47 o, clipT c] = A at hA eT
    refine ⟨addFirst (A ++ [32, 91]) (addLast [93] Q), ?_, bal_wrap hQ q1 q2 ?_ (by decide), fun p hp => ?_⟩
    · rw [eT, join_addFirst (addLast_ne hQ), join_addLast hQ]
    · rw [dep_app, dep_free (hA 91 (.inr (.inl rfl))) (hA 93 (.inr (.inr rfl)))]
      rfl
    · obtain ⟨q, h1, h2⟩ := addFirst_mem hp
      obtain ⟨q', h3, h4⟩ := addLast_mem h1
      have n1 := q3 q' h3
      have n2 : 38 ∉ q := by
        rcases h4 with rfl | rfl
        · exact n1
        · intro hm
          rcases List.mem_append.mp hm with z | z
          · exact n1 z
          · exact absurd (List.mem_singleton.mp z) (by decide)
      rcases h2 with rfl | rfl
      · exact n2
      · intro hm
        rcases List.mem_append.mp hm with z | z
        · rcases List.mem_append.mp z with z | z
          · exact hA 38 (.inl rfl) z
          · revert z; decide
        · exact n2 z
theorem joinL_head {S p : L} {ps : List L} : ∃ r, joinL S (p :: ps) = p ++ r := by
  cases ps with
  | nil => exact ⟨[], by rw [List.append_nil]; rfl⟩
  | cons q r => exact ⟨S ++ joinL S (q :: r), rfl⟩
theorem layer_ne {n : Nat} {d : PyData} (g : goodLayer n d) : fmtLayer n d ≠ [] := by
  have plain : ∀ (n : Nat) {d : PyData}, goodPlain d → fmtLayer n d ≠ [] := fun n d g => by
    rcases g with ⟨s, c, o, rfl, _⟩ | ⟨s, o, rfl, _⟩
    · rw [fmt_fill]
      obtain ⟨r, e⟩ := joinL_head (S := [32]) (p := wFill) (ps := [fmtShape s, fmtNums 46 c, fmtNums 47 o])
      rw [e]; simp [wFill]
    · rw [fmt_rub]
      obtain ⟨r, e⟩ := joinL_head (S := [32]) (p := wRub) (ps := [fmtShape s, fmtNums 47 o])
      rw [e]; simp [wRub]
  cases n with
  | zero => exact plain 0 g
  | succ n =>
    rcases g with g | ⟨ls, o, c, m, rfl, _⟩
    · exact plain _ g
    · rw [fmt_group]
      obtain ⟨r, e⟩ := joinL_head (S := [32]) (p := wGroup) (ps := [fmtNums 46 m, fmtNums 47 o, clipT c, [91] ++ (fmtLayersF (fmtLayer n) ls ++ [93])])
      rw [e]; simp [wGroup]
theorem layersF_read {n : Nat} {ls : List PyData} (g : ∀ l, l ∈ ls → goodLayer n l) (hr : ∀ l, l ∈ ls → readLayer n (fmtLayer n l) = some l) : readLayersF (readLayer n) (fmtLayersF (fmtLayer n) ls) = some ls := by
  cases ls with
  | nil => rfl
  | cons l ls =>
    obtain ⟨Ps, e, b, nn⟩ := choose_parts (f := fmtLayer n) (l :: ls) fun l hl => layer_parts n (g l hl)
    have hne : fmtLayersF (fmtLayer n) (l :: ls) ≠ [] := by
      unfold fmtLayersF
      rw [List.map_cons]
      obtain ⟨r, e⟩ := joinL_head (S := SEP) (p := fmtLayer n l) (ps := ls.map (fmtLayer n))
      rw [e]
      intro z
      exact layer_ne (g l List.mem_cons_self) (List.append_eq_nil_iff.mp z).1
    have eT : fmtLayersF (fmtLayer n) (l :: ls) = joinL SEP Ps.flatten := by
      unfold fmtLayersF
      rw [e, joinL_flat _ fun g hg => (b g hg).ne]
    have hPs : Ps.flatten ≠ [] := by
      cases Ps with
      | nil => cases e
      | cons P Ps => exact flat_ne (b P List.mem_cons_self).ne
    unfold readLayersF splitLayers
    rw [if_neg hne, eT, spl_join3 hPs (fun p hp => by
      obtain ⟨Q, hQ, hp⟩ := List.mem_flatten.mp hp
      exact nn Q hQ p hp), grp_all Ps b]
    show mapO (readLayer n) (Ps.map (joinL SEP)) = _
    rw [← e, mapO_all hr]
theorem fill_read {s c o : PyData} (gs : goodShape s) (gc : goodNums c) (go : goodNums o) : readFill (joinL [32] [fmtShape s, fmtNums 46 c, fmtNums 47 o]) = some (.tuple [.str "fill", s, c, o]) := by
  have e : spm [32] 2 (joinL [32] [fmtShape s, fmtNums 46 c, fmtNums 47 o]) = [fmtShape s, fmtNums 46 c, fmtNums 47 o] := by
    rw [joinL_cons (by simp), spm_cons (sh_free (.inl rfl) gs), joinL_cons (by simp), spm_cons (num_free (.inl rfl) (.inl rfl) gc)]
    rfl
  unfold readFill
  rw [e]
  show (match readShape (fmtShape s) with
    | none => none
    | some s' => match readNums 46 (fmtNums 46 c) with
      | none => none
      | some c' => match readNums 47 (fmtNums 47 o) with
        | none => none
        | some o' => some (PyData.tuple [.str "fill", s', c', o'])) = _
  rw [shape_read gs, nums_read n46 gc, nums_read n47 go]
theorem rub_read {s o : PyData} (gs : goodShape s) (go : goodNums o) : readRub (joinL [32] [fmtShape s, fmtNums 47 o]) = some (.tuple [.str "rub", s, o]) := by
  have e : spm [32] 1 (joinL [32] [fmtShape s, fmtNums 47 o]) = [fmtShape s, fmtNums 47 o] := by
    rw [joinL_cons (by simp), spm_cons (sh_free (.inl rfl) gs)]
    rfl
  unfold readRub
  rw [e]
  show (match readShape (fmtShape s) with
    | none => none
    | some s' => match readNums 47 (fmtNums 47 o) with
      | none => none
      | some o' => some (PyData.tuple [.str "rub", s', o'])) = _
  rw [shape_read gs, nums_read n47 go]
theorem group_read {f : L → Option (List PyData)} {g : List PyData → L} {ls : List PyData} {o c m : PyData} (hf : f (g ls) = some ls) (go : goodNums o) (gc : goodClip c) (gm : goodNums m) :
    readGroup f (joinL [32] [fmtNums 46 m, fmtNums 47 o, clipT c, [91] ++ (g ls ++ [93])]) = some (.tuple [.str "group", .tuple ls, o, c, m]) := by
  have e : spm [32] 3 (joinL [32] [fmtNums 46 m, fmtNums 47 o, clipT c, [91] ++ (g ls ++ [93])]) = [fmtNums 46 m, fmtNums 47 o, clipT c, [91] ++ (g ls ++ [93])] := by
    rw [joinL_cons (by simp), spm_cons (num_free (.inl rfl) (.inl rfl) gm), joinL_cons (by simp), spm_cons (num_free (.inl rfl) (.inr rfl) go), joinL_cons (by simp), spm_cons (clip_free (.inl rfl) gc)]
    rfl
  unfold readGroup
  rw [e]
  have e1 : ([91] ++ (g ls ++ [93])).head? = some 91 := rfl
  have e2 : ([91] ++ (g ls ++ [93])).getLast? = some 93 := by
    rw [← List.append_assoc, List.getLast?_append]; rfl
  have e3 : (([91] ++ (g ls ++ [93])).drop 1).dropLast = g ls := by
    show (g ls ++ [93]).dropLast = _
    rw [List.dropLast_concat]
  show (if ([91] ++ (g ls ++ [93])).head? = some 91 ∧ ([91] ++ (g ls ++ [93])).getLast? = some 93 then (match f (([91] ++ (g ls ++ [93])).drop 1).dropLast with
    | none => none
    | some ls => match readClip (clipT c) with
      | none => none
      | some c' => match readNums 47 (fmtNums 47 o) with
        | none => none
        | some o' => match readNums 46 (fmtNums 46 m) with
          | none => none
          | some m' => some (PyData.tuple [.str "group", .tuple ls, o', c', m'])) else none) = _
  rw [if_pos ⟨e1, e2⟩, e3, hf, clip_read gc, nums_read n47 go, nums_read n46 gm]
theorem par_word {k : L} {ps : List L} (h : 32 ∉ k) (hp : ps ≠ []) : par [32] [] (joinL [32] (k :: ps)) = some (k, joinL [32] ps) := by
  rw [joinL_cons hp, par_part1 (s := 32) (S := []) h, List.nil_append]
theorem layer_read : ∀ (n : Nat) {d : PyData}, goodLayer n d → readLayer n (fmtLayer n d) = some d := by
  have plain : ∀ (n : Nat) {d : PyData}, goodPlain d → readLayer n (fmtLayer n d) = some d := fun n d g => by
    rcases g with ⟨s, c, o, rfl, gs, gc, go⟩ | ⟨s, o, rfl, gs, go⟩
    · unfold readLayer
      rw [fmt_fill, par_word (by decide) (by simp)]
      show (if wFill = wFill then readFill _ else _) = _
      rw [if_pos rfl, fill_read gs gc go]
    · unfold readLayer
      rw [fmt_rub, par_word (by decide) (by simp)]
      show (if wRub = wFill then _ else if wRub = wRub then readRub _ else _) = _
      rw [if_neg (by decide), if_pos rfl, rub_read gs go]
  intro n
  induction n with
  | zero => intro d g; exact plain 0 g
  | succ n ih =>
    intro d g
    rcases g with g | ⟨ls, o, c, m, rfl, hl, go, gc, gm⟩
    · exact plain _ g
    unfold readLayer
    rw [fmt_group, par_word (by decide) (by simp)]
    show (if wGroup = wFill then _ else if wGroup = wRub then _ else if wGroup = wGroup then readGroup (readLayersF (readLayer n)) _ else none) = _
    rw [if_neg (by decide), if_neg (by decide), if_pos rfl]
    exact group_read (g := fmtLayersF (fmtLayer n)) (layersF_read hl fun l h => ih (hl l h)) go gc gm
theorem layers_read {n : Nat} {ls : List PyData} (g : ∀ l, l ∈ ls → goodLayer n l) : readLayersF (readLayer n) (fmtLayersF (fmtLayer n) ls) = some ls := layersF_read g fun l h => layer_read n (g l h)
theorem layers_back {n : Nat} {t : L} {ls : List PyData} (h : readLayersF (readLayer n) t = some ls) : fmtLayersF (fmtLayer n) ls = t := layersF_back (fun t d => layer_back n) h
end TX

set_option Elab.async false
set_option linter.all false
set_option maxRecDepth 100000
set_option maxHeartbeats 4000000
namespace K30
open PySem PySem.Spec PyProof.Rows L2 DL TX
/-! ### what is valid can be written and read -/
theorem are_good {v : PyData} {n lo hi : Int} (hn : 1 ≤ n) (h1 : -9 ≤ lo) (h2 : hi ≤ 9) (h : areM v n lo hi = true) : goodNums v := by
  cases v with
  | tuple xs =>
    have h : (decide ((xs.length : Int) = n) && xs.all (inR lo hi)) = true := h
    rw [Bool.and_eq_true, decide_eq_true_eq, List.all_eq_true] at h
    refine ⟨xs, rfl, fun e => ?_, fun x hx => ?_⟩
    · rw [e] at h
      have := h.1
      simp at this
      omega
    · have := h.2 x hx
      cases x with
      | int i =>
        have this : (decide (lo ≤ i) && decide (i ≤ hi)) = true := this
        rw [Bool.and_eq_true, decide_eq_true_eq, decide_eq_true_eq] at this
        exact ⟨i, rfl, by omega, by omega⟩
      | _ => cases this
  | _ => cases h
theorem loop_good {v : PyData} (h : loopM v = true) : goodLoop v := by
  cases v with
  | tuple xs =>
    have h : ((decide ((3 : Int) ≤ (xs.length : Int)) && decide ((xs.length : Int) ≤ 8)) && xs.all fun p => areM p 2 (-9) 9) = true := h
    rw [Bool.and_eq_true, Bool.and_eq_true, decide_eq_true_eq, List.all_eq_true] at h
    refine ⟨xs, rfl, fun e => ?_, fun x hx => are_good (by decide) (by decide) (by decide) (h.2 x hx)⟩
    rw [e] at h
    have := h.1.1
    simp at this
  | _ => cases h
theorem eqv_str {x : Str} {r : PyData} (h : PyData.eqv (.str x) r = true) : r = .str x := by
  cases r with
  | str y =>
    rw [eqvS] at h
    rw [beq_iff_eq.mp h]
  | _ => simp [PyData.eqv] at h
theorem shape_good {v : PyData} (h : shapeM v = true) : goodShape v := by
  match v, h with
  | .tuple [r, l], h =>
    have h : (ruleM r && loopsM l) = true := h
    rw [Bool.and_eq_true] at h
    obtain ⟨hr, hl⟩ := h
    have hr : ([PyData.str "odd", .str "turns"].any fun z => PyData.eqv z r) = true := hr
    cases l with
    | tuple ls =>
      have hl : ((decide ((1 : Int) ≤ (ls.length : Int)) && decide ((ls.length : Int) ≤ 3)) && ls.all loopM) = true := hl
      rw [Bool.and_eq_true, Bool.and_eq_true, decide_eq_true_eq, List.all_eq_true] at hl
      have hne : ls ≠ [] := fun e => by
        rw [e] at hl
        have := hl.1.1
        simp at this
      simp only [List.any_cons, List.any_nil, Bool.or_false, Bool.or_eq_true] at hr
      rcases hr with hr | hr
      · exact ⟨"odd", ls, by rw [eqv_str hr], .inl rfl, hne, fun l h => loop_good (hl.2 l h)⟩
      · exact ⟨"turns", ls, by rw [eqv_str hr], .inr rfl, hne, fun l h => loop_good (hl.2 l h)⟩
    | _ => cases hl
theorem opacity_good {v : PyData} (h : opacityM v = true) : goodNums v := by
  unfold opacityM at h
  rw [Bool.and_eq_true] at h
  exact are_good (by decide) (by decide) (by decide) h.1
theorem colour_good {v : PyData} (h : colourM v = true) : goodNums v := are_good (by decide) (by decide) (by decide) h
theorem matrix_good {v : PyData} (h : matrixM v = true) : goodNums v := by
  unfold matrixM at h
  rw [Bool.and_eq_true, Bool.and_eq_true] at h
  obtain ⟨h1, _, h3⟩ := h
  cases v with
  | tuple xs =>
    obtain ⟨a, e1, _, ha⟩ := are_good (by decide) (by decide) (by decide) h1
    obtain ⟨b, e2, hb0, hb⟩ := are_good (by decide) (by decide) (by decide) h3
    have e1 : PyData.tuple (xs.take 4) = .tuple a := e1
    have e2 : PyData.tuple (xs.drop 4) = .tuple b := e2
    injection e1 with e1
    injection e2 with e2
    have e : xs = a ++ b := by rw [← e1, ← e2, List.take_append_drop]
    refine ⟨xs, rfl, fun z => ?_, fun x hx => ?_⟩
    · rw [e] at z
      exact hb0 (List.append_eq_nil_iff.mp z).2
    · rw [e] at hx
      rcases List.mem_append.mp hx with hx | hx
      · exact ha x hx
      · exact hb x hx
  | none => cases h1
  | bool _ => cases h1
  | int _ => cases h1
  | str _ => cases h1
  | list _ => cases h1
  | dict _ => cases h1
theorem layer_good : ∀ (n : Nat) {v : PyData}, nestedM n v = true → goodLayer n v
  | n, v, h => by
    unfold nestedM at h
    split at h
    · rename_i k xs
      split at h
      · rename_i hk
        match xs, h with
        | [s, c, o], h =>
          have h : (shapeM s && (colourM c && opacityM o)) = true := h
          rw [Bool.and_eq_true, Bool.and_eq_true] at h
          exact goodPlain_layer (.inl ⟨s, c, o, by rw [hk], shape_good h.1, colour_good h.2.1, opacity_good h.2.2⟩)
      · split at h
        · rename_i hk
          match xs, h with
          | [s, o], h =>
            have h : (shapeM s && opacityM o) = true := h
            rw [Bool.and_eq_true] at h
            exact goodPlain_layer (.inr ⟨s, o, by rw [hk], shape_good h.1, opacity_good h.2⟩)
        · rw [Bool.and_eq_true, decide_eq_true_eq] at h
          obtain ⟨hk, h⟩ := h
          cases n with
          | zero => cases h
          | succ n =>
            match xs, h with
            | [l, o, c, m], h =>
              have h : (layersOf (nestedM n) l && (opacityM o && ((isNone c || shapeM c) && matrixM m))) = true := h
              rw [Bool.and_eq_true, Bool.and_eq_true, Bool.and_eq_true] at h
              obtain ⟨hl, ho, hc, hm⟩ := h
              cases l with
              | tuple ls =>
                have hl : (decide ((ls.length : Int) ≤ 4) && ls.all (nestedM n)) = true := hl
                rw [Bool.and_eq_true, List.all_eq_true] at hl
                refine .inr ⟨ls, o, c, m, by rw [hk], fun l h => layer_good n (hl.2 l h), opacity_good ho, ?_, matrix_good hm⟩
                rw [Bool.or_eq_true] at hc
                rcases hc with hc | hc
                · cases c with
                  | none => exact .inl rfl
                  | _ => cases hc
                · exact .inr (shape_good hc)
              | _ => cases hl
    · cases h
end K30

set_option Elab.async false
set_option linter.all false
set_option maxRecDepth 100000
namespace HX
open PySem PySem.Spec PyProof.Rows L2 HotX

section
variable {prog : Program} {w : World} {A : Around} {E : Value → Shared → Prop} {s : Shared}

/-- a list's walk ends while an exception is handled -/
theorem lend {it l x1 : Addr} {i : Nat} {items : Array Value} {Q : Option Value → Shared → Prop} (hot : HotAt A x1 s.heap) (n1 : x1 ≠ it)
    (hit : s.heap.IsListIter it l i) (hl : s.heap.IsList l items) (hx : items[i]? = none)
    (hQ : ∀ g, (∀ b o, b ≠ it → s.heap.get? b = some o → g.get? b = some o) → Q none { s with heap := g }) : wpAny (model prog w) A (pyNext (.ref it)) Q E s := by
  obtain ⟨io, i1, i2, i3⟩ := id hit
  obtain ⟨lo, l1, l2, l3, l4⟩ := hl
  obtain ⟨hh, xo, xv, x2, x3, x4⟩ := hot
  unfold pyNext
  apply wpAny_bind; apply wpAny_attempt
  refine wpAny_callSpecial?_slot (name := Str.ofString "__next__") hit.typeIs slot_listiter_next ?_
  refine wpAny_call_entry slot_listiter_next hit.typeIs entry_listiter_next ?_ (args_listiter_next _)
  show wpAny _ _ (do let lv ← field (.ref it) 0; _) _ _ s
  apply wpAny_bind
  refine wpAny_field i1 i3 (x := Value.ref l) (by rfl) ?_
  have f1 : ((Value.ref l == Value.none) = true) = False := by simp
  simp only [f1, if_false]
  apply wpAny_bind
  refine wpAny_field i1 i3 (x := Value.int i 0) (by rfl) ?_
  apply wpAny_bind
  refine wpAny_seqItems l1 l4 ?_
  simp only [Int.toNat_natCast, hx]
  apply wpAny_bind; apply wpAny_rule; apply wpAny_bind
  refine wpAny_setField i1 i3 (by simp) ?_
  apply wpAny_bind
  simp only [newExc, newTuple]
  apply wpAny_bind
  refine wpAny_newObj_type ?_ (by size_fits)
  apply wpAny_bind
  refine wpAny_of_eq (a := Value.none) (by simp only [firstArgMember]; rfl) ?_
  refine wpAny_newObj_type ?_ (by size_fits)
  have kp : ∀ b o, b ≠ it → s.heap.get? b = some o → (s.heap.update it (Obj.mapFields (·.setIfInBounds 0 Value.none))).get? b = some o := fun b o n e => by
    rw [Heap.get?_update_other _ _ (Ne.symm n)]; exact e
  generalize s.heap.update it (Obj.mapFields fun x => x.setIfInBounds 0 Value.none) = g1 at kp ⊢
  have e1 := kp _ _ n1 x2
  generalize hg2 : g1.push { cls := .type "tuple", data := .seq #[] } = g2
  have up2 : ∀ b o, g1.get? b = some o → g2.get? b = some o := fun b o e => by rw [← hg2]; exact Heap.get?_push_of_some _ e
  dsimp only
  refine raiseNew_hot (x1 := x1) ⟨hh, xo, xv, Heap.get?_push_of_some _ (up2 _ _ e1), x3, x4⟩ (Nat.ne_of_lt (Heap.lt_size (up2 _ _ e1))) (Heap.get?_push_size _ rfl) rfl (by simp; omega) ?_
  apply wpAny_bind
  refine wpAny_isInstance (T := "StopIteration") (b := true) ⟨_, Heap.get?_update_self _ (Heap.get?_push_size _ rfl) rfl, rfl⟩ isSubtype_stop (wpAny_pure (hQ _ ?_))
  intro b o hb e
  have hlt := Heap.lt_size (up2 _ _ (kp _ _ hb e))
  exact (Heap.get?_update_other _ _ (Nat.ne_of_gt hlt)).trans (Heap.get?_push_of_some _ (up2 _ _ (kp _ _ hb e)))
/-- its walk -/
theorem lwalk {x1 I ax : Addr} {xo : Obj} {vs : Array Value} (hh : A.handled = some (.ref x1)) (d : xo.data = .fields vs) (c : vs[2]? = some .none) (h1 : ax ≠ I) (h2 : x1 ≠ I) (items : Array Value) :
    Walks prog w A I [I, ax, x1] [I] items.size (fun i v => items[i]? = some v) (fun i h => (h.IsListIter I ax i ∧ h.IsList ax items) ∧ h.get? x1 = some xo) where
  sub b hb := by simp only [List.mem_singleton] at hb; subst hb; exact List.mem_cons_self
  frame i h h' st hk := ⟨⟨st.1.1.at (hk I (by simp)), st.1.2.at (hk ax (by simp))⟩, hk x1 (by simp) _ st.2⟩
  item i t Q E hi st hQ := by
    refine wpAny_pyNext_list_item st.1.1 st.1.2 (x := items[i]) (by simp [hi]) ?_
    intro g g1 g2
    refine hQ items[i] g t.toks (by simp [hi]) ⟨⟨g1, st.1.2.extBut g2.extBut h1⟩, g2.extBut _ _ h2 st.2⟩ ?_
    intro b o hb e
    exact g2.extBut b o (fun z => hb (z ▸ List.mem_singleton_self _)) e
  done t Q E st hQ := lend ⟨hh, _, _, st.2, d, c⟩ h2 st.1.1 st.1.2 (by simp) fun g hg => hQ g t.toks fun b o hb e => hg b o (fun z => hb (z ▸ List.mem_singleton_self _)) e
  self _ _ _ _ st hQ := wpAny_pyIter_listiter st.1.1 hQ
/-- sum of a list of ints there -/
theorem hsum {x1 ax : Addr} {xo : Obj} {vs items : Array Value} {val : Nat → Int} {Q : Value → Shared → Prop} (hh : A.handled = some (.ref x1)) (d : xo.data = .fields vs) (c : vs[2]? = some .none) (hx : s.heap.get? x1 = some xo)
    (hl : s.heap.IsList ax items) (hv : ∀ (i : Nat) (v : Value), items[i]? = some v → ∃ t, v = Value.int (val i) t)
    (hQ : ∀ g tk t', (∀ b o, s.heap.get? b = some o → g.get? b = some o) → Q (.int (preSum val items.size) t') { s with heap := g, toks := tk }) : wpAny (model prog w) A (call (.builtin "sum") [.ref ax]) Q E s := by
  apply call_sum_walkG
  refine wpAny_pyIter_list hl ?_
  have n1 := Heap.lt_size hx
  have n2 : ax < s.heap.objs.size := by obtain ⟨o, h, _⟩ := hl; exact Heap.lt_size h
  have up : ∀ {b o}, s.heap.get? b = some o → (s.heap.push { cls := .type "list_iterator", data := .fields #[.ref ax, Value.int 0 0] }).get? b = some o := fun e => Heap.get?_push_of_some _ e
  refine ⟨s.heap.objs.size, _, _, _, _, _, val, rfl, lwalk (prog := prog) (w := w) (A := A.in1) (x1 := x1) hh d c (Nat.ne_of_lt n2) (Nat.ne_of_lt n1) items, ⟨⟨⟨_, Heap.get?_push_size _ rfl, rfl, rfl⟩, hl.at fun o e => up e⟩, up hx⟩, ?_, hv, ?_⟩
  · intro b hb
    rw [Heap.size_push]
    simp only [List.mem_cons, List.not_mem_nil, or_false] at hb
    rcases hb with rfl | rfl | rfl
    · exact Nat.lt_succ_self _
    · exact Nat.lt_succ_of_lt n2
    · exact Nat.lt_succ_of_lt n1
  · intro g tk t' hk
    refine hQ g tk t' fun b o e => hk b o ?_ (up e)
    simp only [List.mem_singleton]
    exact Nat.ne_of_lt (Heap.lt_size e)
/-- a name that is a built-in's -/
theorem bname {env : Env} {mg mb : Str → Option Value} {x : Str} {u : Value} {pos : Pos} {Q : Value → Shared → Prop} (hk : env.scope.kind = .function) (hx : env.kindOf x = some .globalImplicit) (hg : s.heap.Ns env.globals mg) (hm : mg x = none)
    (hb : s.heap.Ns env.builtins mb) (hv : mb x = some u) (h : Q u s) (hd : (x == ("__debug__" : Str)) = false := by decide) : wpAny (model prog w) A (eval (.Name x pos) env) Q E s :=
  Calls.Name_function_global hk hx (Calls.loadGlobal_builtin hg hm hb hv h) hd
end
end HX

set_option Elab.async false
set_option linter.all false
set_option maxRecDepth 100000
namespace HX
open PySem PySem.Spec PyProof.Rows L2 HotX
def b2i (b : Bool) : Int := if b then 1 else 0
section
variable {prog : Program} {w : World} {A : Around} {E : Value → Shared → Prop} {s : Shared}
/-- [int(f) for f in a list of bools], while an exception is handled -/
theorem hints {x1 ax : Addr} {xo : Obj} {vs : Array Value} {bs : List Bool} {env : Env} {mg mb : Str → Option Value} {scope : Scope} {cl : List (Str × Addr)} {f : Str} {iter : Expr} {pf q1 q2 cpos pos : Pos} {Q : Value → Shared → Prop}
    (hh : A.handled = some (.ref x1)) (d : xo.data = .fields vs) (c : vs[2]? = some .none) (hx : s.heap.get? x1 = some xo) (hl : s.heap.IsList ax (bs.map Value.bool).toArray) (hz : bs.length ≤ sizeLine)
    (hclos : closureFor scope env = pure cl) (hcell : ∀ y ∈ scope.names, y.2 ≠ .cell) (hkind : scope.kind = .function) (hnames : ∀ y ∈ scope.names, y.2 = .local → scope.names.lookup y.1 = some .local)
    (hf : scope.names.lookup f = some .local) (hi : scope.names.lookup ("int" : Str) = some .globalImplicit) (hfd : (f == ("__debug__" : Str)) = false)
    (hg : s.heap.Ns env.globals mg) (hm : mg "int" = none) (hb : s.heap.Ns env.builtins mb) (hv : mb "int" = some (.type "int"))
    (hs : ∀ x, foldedSetIterable iter env x = pure x) (hit : ∀ {R : Value → Shared → Prop}, R (.ref ax) s → wpAny (model prog w) A (eval iter env) R E s)
    (hQ : ∀ D g tk ys, (∀ b o, s.heap.get? b = some o → g.get? b = some o) → g.IsList D ys → ys.size = bs.length → (∀ i v, ys[i]? = some v → ∃ t, v = Value.int (b2i (bs.getD i false)) t) → Q (.ref D) { s with heap := g, toks := tk }) :
    wpAny (model prog w) A (eval (.ListComp (.Call (.Name "int" q1) [.Name f q2] [] cpos) [⟨.Name f pf, iter, [], 0⟩] scope pos) env) Q E s := by
  refine ListComp_goes hclos hcell hkind hnames (hit (wpAny_pyIter_list hl ?_)) hs
  have n1 := Heap.lt_size hx
  have n2 : ax < s.heap.objs.size := by obtain ⟨o, h, _⟩ := hl; exact Heap.lt_size h
  generalize hS : ({ s with heap := s.heap.push { cls := .type "list_iterator", data := .fields #[.ref ax, Value.int 0 0] } } : Shared) = s2
  have up : ∀ b o, s.heap.get? b = some o → s2.heap.get? b = some o := fun b o e => by rw [← hS]; exact Heap.get?_push_of_some _ e
  have hI : s2.heap.IsListIter s.heap.objs.size ax 0 := by rw [← hS]; exact ⟨_, Heap.get?_push_size _ rfl, rfl, rfl⟩
  have sz : s2.heap.objs.size = s.heap.objs.size + 1 := by rw [← hS]; exact Heap.size_push ..
  have W := lwalk (prog := prog) (w := w) hh d c (Nat.ne_of_lt n2) (Nat.ne_of_lt n1) (bs.map Value.bool).toArray
  refine ⟨s.heap.objs.size, _, _, _, _, _, rfl, Goes.ofWalks (target := .Name f pf) W (fun i v t R F st q => ?_), by simpa using hz, ⟨⟨hI, hl.at (up ax)⟩, up _ _ hx⟩, ?_, ?_⟩
  · obtain ⟨o, e1, e2, e3⟩ := st.1.1
    exact letGo_of_cls e1 e2 e3 (by decide) q
  · intro b hb
    simp only [List.mem_cons, List.not_mem_nil, or_false] at hb
    rw [sz]
    rcases hb with rfl | rfl | rfl
    · exact Nat.lt_succ_self _
    · exact Nat.lt_succ_of_lt n2
    · exact Nat.lt_succ_of_lt n1
  · intro D C s3 B
    obtain ⟨g3, tk3, e3⟩ := B.only
    have sC : s.heap.objs.size < C := by have h := B.newC; rw [sz] at h; exact h
    have ltC : ∀ b o, s.heap.get? b = some o → b ≠ C := fun b o e => Nat.ne_of_lt (Nat.lt_trans (Heap.lt_size e) sC)
    have old3 : ∀ b o, s.heap.get? b = some o → s3.heap.get? b = some o := fun b o e => B.old b o (up b o e)
    refine ⟨fun i ys t => (∃ g tk, t = { s with heap := g, toks := tk }) ∧ (∀ b o, s.heap.get? b = some o → t.heap.get? b = some o) ∧ (∃ m, t.heap.Ns C m) ∧ ys.length = i ∧ ∀ j v, ys[j]? = some v → ∃ t, v = Value.int (b2i (bs.getD j false)) t, ?_, ?_, ?_, ?_⟩
    · exact ⟨⟨g3, tk3, by rw [e3, ← hS]⟩, old3, ⟨_, B.names⟩, rfl, fun j v e => by cases e⟩
    · intro i ys t g tk G keep htk
      obtain ⟨⟨g1, tk1, e1⟩, o1, ⟨m, hm⟩, l1, v1⟩ := G
      have nD : ∀ b, b < s2.heap.objs.size → b ≠ s.heap.objs.size → b ∉ D :: [s.heap.objs.size] := fun b h1 h2 z => by
        simp only [List.mem_cons, List.not_mem_nil, or_false] at z
        rcases z with z | z
        · exact Nat.lt_irrefl _ (Nat.lt_of_lt_of_le h1 (z ▸ B.newD))
        · exact h2 z
      refine ⟨⟨g, tk, by rw [e1]⟩, fun b o e => keep b o (nD b (by rw [sz]; exact Nat.lt_succ_of_lt (Heap.lt_size e)) (Nat.ne_of_lt (Heap.lt_size e))) (o1 b o e), ⟨m, hm.at' fun o e => keep C o ?_ e⟩, l1, v1⟩
      simp only [List.mem_cons, List.not_mem_nil, or_false]
      rintro (z | z)
      · exact B.ne z.symm
      · exact Nat.lt_irrefl (s.heap.objs.size) (by have h := B.newC; rw [sz, z] at h; exact h)
    · intro i v ys t hlt hY hSt G hD
      obtain ⟨⟨g1, tk1, e1⟩, o1, ⟨m, hm'⟩, l1, v1⟩ := G
      have hv' : bs[i]? = some (bs.getD i false) ∧ v = Value.bool (bs.getD i false) := by
        have e : ((bs.map Value.bool).toArray)[i]? = some v := hY
        simp only [List.getElem?_toArray, List.getElem?_map] at e
        cases q : bs[i]? with
        | none => rw [q] at e; cases e
        | some b =>
          rw [q] at e
          simp only [Option.map_some, Option.some.injEq] at e
          simp only [List.getD_eq_getElem?_getD, q, Option.getD_some]
          exact ⟨trivial, e.symm⟩
      have kx : ∀ {x k}, k ≠ NameKind.free → scope.names.lookup x = some k → (compEnvC scope cl C env).kindOf x = some k := fun {x k} h1 h2 => lookup_relS_keep h1 h2
      refine wpAny_assign_Name (wpAny_storeName_local (kx (by decide) hf) hm' (fun g2 hn2 sb2 => ?_) (by simp [compEnvC, relabel, hkind]))
      have o2 : ∀ b o, s.heap.get? b = some o → g2.get? b = some o := fun b o e => sb2.extBut b o (ltC b o e) (o1 b o e)
      refine wpAny_pure ?_
      simp only [if_true]
      refine Call_ (bname hkind (kx (by decide) hi) (hg.at' (o2 _)) hm (hb.at' (o2 _)) hv (callWith_type1 (Calls.spliced_cons (wpAny_Name (wpAny_loadName_local hkind (kx (by decide) hf) hn2 (by rw [if_pos rfl]) (Calls.spliced_nil ?_)) hfd))))
      rw [hv'.2]
      refine call_int_bool ?_
      have nI : s.heap.objs.size ≠ C := Nat.ne_of_lt sC
      refine ⟨⟨⟨g2, _, by rw [e1]⟩, o2, ⟨_, hn2⟩, by rw [List.length_append, l1]; rfl, fun j v' e => ?_⟩, ⟨⟨hSt.1.1.at (sb2.extBut _ · nI), hSt.1.2.at fun o e => sb2.extBut _ _ ?_ e⟩, ?_⟩, hD.at (sb2.extBut _ · B.ne)⟩
      · rcases Nat.lt_or_ge j i with h | h
        · rw [List.getElem?_append_left (by rw [l1]; exact h)] at e
          exact v1 j v' e
        · rw [List.getElem?_append_right (by rw [l1]; exact h)] at e
          have hj : j - ys.length = 0 := by
            cases q : j - ys.length with
            | zero => rfl
            | succ k => rw [q] at e; cases e
          have ej : j = i := by omega
          rw [hj] at e
          subst ej
          exact ⟨_, (Option.some.inj e).symm⟩
      · exact Nat.ne_of_lt (Nat.lt_trans n2 sC)
      · exact sb2.extBut _ _ (ltC _ _ hx) hSt.2
    · intro ys t G hD
      obtain ⟨⟨g1, tk1, e1⟩, o1, ⟨m, hm⟩, l1, v1⟩ := G
      refine ⟨m, hm, fun g sb => ?_⟩
      have r := hQ D g t.toks ys.toArray (fun b o e => sb.extBut b o (ltC b o e) (o1 b o e)) (hD.isList.at (sb.extBut _ · B.ne)) (by simpa using l1) (fun j v e => v1 j v (by simpa using e))
      rw [e1] at r ⊢
      exact r
end
end HX

set_option Elab.async false
set_option linter.all false
set_option maxRecDepth 100000
namespace HX
open PySem PySem.Spec PyProof.Rows L2 HotX L2H

theorem bls : ∀ {bs : List Bool} {its : List Value}, Vals (bs.map V.bl) its → its = bs.map Value.bool
  | [], _, h => by cases h; rfl
  | b :: bs, _, h => by
    cases h with
    | cons r t =>
      obtain rfl := bls t
      cases r
      rfl

/-- what the comprehension's block must be -/
def blkB (scope : Scope) (f : Str) : Bool :=
  decide (scope.kind = .function) && (scope.names.all fun y => decide (y.2 ≠ .cell) && decide (y.2 ≠ .free) && (decide (y.2 ≠ .local) || decide (scope.names.lookup y.1 = some .local)))
    && decide (scope.names.lookup f = some .local) && decide (scope.names.lookup ("int" : Str) = some .globalImplicit) && !(f == ("__debug__" : Str))

/-- sum([int(f) for f in x]), x a local, a list of bools -/
def tSumB (K : PySem.W.Frag) (i : Nat) : TE := fun σ H Q => ∃ (a : Addr) (bs : List Bool), σ[i]? = some (some (.ref a)) ∧ SqL K H a (bs.map V.bl) ∧ Q (.int (preSum (fun i => b2i (bs.getD i false)) bs.length)) H

theorem pe_sumints {X : Cx} {i : Nat} {x f : Str} {scope : Scope} {p0 p1 p2 p3 p4 p5 pos cpos : Pos} (hc : HotC X) (hN : X.N[i]? = some x) (hx : X.env.scope.names.lookup x = some .local) (hB : blkB scope f = true)
    (gs : Gl X "sum") (ms : X.mg "sum" = none) (mi : X.mg "int" = none) (hd : (x == ("__debug__" : Str)) = false := by decide)
    (hs : ∀ v, foldedSetIterable (.Name x p1) X.env v = pure v := by intro _; rfl) :
    PE X (.Call (.Name "sum" p0) [.ListComp (.Call (.Name "int" p2) [.Name f p3] [] cpos) [⟨.Name f p4, .Name x p1, [], 0⟩] scope p5] [] pos) (tSumB X.K i) := by
  refine ⟨fun pins s σ H Q I h => ?_⟩
  obtain ⟨a, bs, e1, e2, q⟩ := h
  unfold blkB at hB
  simp only [Bool.and_eq_true, Bool.or_eq_true, Bool.not_eq_true', decide_eq_true_eq, List.all_eq_true] at hB
  obtain ⟨⟨⟨⟨hk, hn⟩, hf⟩, hi⟩, hfd⟩ := hB
  obtain ⟨p, ⟨hh, v1, d1, c1⟩, hp⟩ := hc
  have hx1 := (I.pin p (List.mem_append_left _ hp)).1
  obtain ⟨its, rv, hl, hz⟩ := I.list e2
  rw [bls rv] at hl
  obtain ⟨mb, hb1, hb2⟩ := I.mod.blt
  obtain ⟨m, hn1, hn2⟩ := I.loc
  obtain ⟨u, r, lk⟩ := hn2 i x _ hN e1 (.inl hx)
  obtain rfl : u = Value.ref a := r
  have hmx : m x = some (Value.ref a) := by
    rcases lk with ⟨_, z⟩ | ⟨z, _⟩
    · exact z
    · have hx' : X.env.kindOf x = some .local := hx
      rcases z with z | z <;> rw [hx'] at z <;> cases z
  refine Call_ (ld_blt I gs ms rfl (callWith_builtin1 (Calls.spliced_cons ?_)))
  refine hints (bs := bs) hh d1 c1 hx1 hl.isList (by simpa using hz) (closure_ok fun y hy e => absurd e (hn y hy).1.2) (fun y hy => (hn y hy).1.1) hk (fun y hy e => ((hn y hy).2).elim (fun z => absurd e z) id) hf hi hfd
    (mg := X.mg) (mb := mb) (by rw [I.ok.glob]; exact I.mod.glob.keeps I.bk) mi (by rw [I.ok.blt]; exact hb1.keeps I.bk) ((hb2 _ (by decide)).trans rfl) hs (fun {R} hR => wpAny_Name (wpAny_loadName_local I.ok.kind hx hn1 hmx hR) hd) ?_
  intro D g tk ys k1 k2 k3 k4
  refine Calls.spliced_nil ?_
  refine hsum (val := fun i => b2i (bs.getD i false)) hh d1 c1 (k1 _ _ hx1) k2 k4 ?_
  intro g' tk' t' k5
  rw [k3]
  exact ⟨.int _, H, I.kept fun b o e => k5 b o (k1 b o e), ⟨_, rfl⟩, q⟩

/-- isinstance(e, c), e an exception that the context bears -/
theorem isX {X : Cx} {a D : Addr} {oe : Obj} (C : ExcC X.K D) (hp : (a, oe) ∈ X.pn) (hz : Zc (.ref D) none oe) (hf : ∃ vs, oe.data = .fields vs) : CallR X (.builtin "isinstance") (rIsE X.K D a) := by
  intro pins s σ H xs us Q I r ⟨c, cv, b, ex, hcv, e, q⟩
  subst ex
  cases r with
  | cons r1 r2 =>
    cases r2 with
    | cons r3 r4 =>
      cases r4
      cases r1
      rw [hcv _ r3]
      have g := (I.pin (a, oe) (List.mem_append_left _ hp)).1
      have J : PySem.W.InstAt s.heap a oe D none := by
        obtain ⟨vs, hv⟩ := hf
        obtain ⟨o1, o2, o3, o4⟩ := oe
        obtain ⟨h1, h2⟩ := hz
        simp only at h1 h2 hv
        subst h1; subst h2; subst hv
        exact ⟨g, rfl, rfl, trivial⟩
      refine PySem.W.kia_one (PySem.W.handS_kitx_exc C.hg C.hk C.hs C.hd C.ha C.hn C.ht C.hm) I.kIn J e (fun z => nomatch z) fun tk => ?_
      exact ⟨.bl b, H, I.tok tk, rfl, q⟩

/-! ### a def that is called in the suite, with the exception -/
abbrev SpP := Addr × Obj → Sp
structure FnP (P : Program) (w : World) (K : PySem.W.Frag) (mg : Str → Option Value) (base : Heap) (CX : CXT) (k : Nat) (f : Addr) (fd : FuncData) (ps : List Str) (sp : SpP) : Prop where
  len : ∀ p vs H Q E, sp p vs H Q E → vs.length = ps.length
  run : ∀ p : Addr × Obj, ∀ (A : Around) (outer : List Env) (s : Shared) (H : Hp) (args : Args) (us : List Value) (vs : List V) (Q : VK) (E : XK), RoomH k A → Hot1 A p → PinOk outer H s p → Env0 P w K mg base A outer s H → BindsTo s fd args (ps.zip us) → Vals vs us → sp p vs H Q E →
    codeAny (model P w) A (.call (.ref f) args) (CR CX outer P w H s Q E) s

theorem fnP {CX : CXT} {P : Program} {w : World} {K : PySem.W.Frag} {mg : Str → Option Value} {base : Heap} {k : Nat} {f : Addr} {name qual : Str} {params : Arguments} {body : List Stmt} {scope : Scope} {dV kV doc pm cdv ct oc : Value} {an od : Option Addr}
    {osl : Array (Option Value)} {N ps : List Str} {sp : SpP} (lk : K.lookup f = some ⟨oc, od, .func (PySem.W.fnOf name qual params body scope dV kV doc pm an cdv ct), osl⟩) (hcd : PySem.W.codeIn K cdv qual = true) (S : FnScope N ps scope)
    (len : ∀ p vs H Q E, sp p vs H Q E → vs.length = ps.length)
    (hbody : ∀ (A : Around) (outer : List Env) (s : Shared) (H : Hp) (vs : List V) (Q : VK) (E : XK) (p : Addr × Obj), Hot1 A p → H p.1 = none → RoomH k (A.deeper (envOfC qual scope s.heap.objs.size f cdv)) → sp p vs H Q E →
      ∃ t, PSs (cxH CX P w K mg base N qual scope f cdv A outer s H E p) body t ∧ t { nx := fun _ H' => Q .non H', rt := Q } (L2.start N vs) H) :
    FnP P w K mg base CX (k + 1) f (PySem.W.fnOf name qual params body scope dV kV doc pm an cdv ct) ps sp := by
  constructor
  · exact len
  intro p A outer s H args us vs Q E hr hot hpin e0 hb r hsp
  have hl := len _ _ _ _ _ hsp
  have kk : ∀ b o, base.get? b = some o → s.heap.get? b = some o := fun b o e => (e0.bs b o e).1
  have KX := e0.mod.kin.keeps kk
  refine codeAny_call_function hr.depth (KX _ _ lk) rfl S.co S.gen rfl (PySem.W.codeRec_of KX hcd) (hb _ _ _ _ ?_)
  refine wpAny_newFunctionEnv_cells S.kind ?_ ?_
  · rintro ⟨n, v⟩ hy
    have hm := (List.of_mem_zip hy).1
    rcases S.par n hm with q | q
    · exact .inl q
    · exact .inr ⟨q, PySem.W.cellsFrom_some _ _ _ (.inl q)⟩
  rintro env rfl s1 x
  refine ⟨(e0.mod.nolimit.keeps kk).keeps x.toInCall.keep, codeAny_func ?_⟩
  obtain ⟨t, ht, hq⟩ := hbody A outer s H vs Q E p hot hpin.free (hr.deeper _) hsp
  have I := inv_startH (CX := CX) (qual := qual) (f := f) (cd := cdv) (E := E) S hpin e0 hl r x
  refine wpAny_mono (ht.run [] s1 (L2.start N vs) H _ I hq) ?_ fun e s' hs => hs
  intro fl s' hs
  cases fl
  case ret u =>
    obtain ⟨v, σ', H', J, rv, q⟩ := hs
    exact ⟨v, H', J.os, J.bare, J.base, J.hok, rv, q⟩
  case next =>
    obtain ⟨σ', H', J, q⟩ := hs
    exact ⟨V.non, H', J.os, J.bare, J.base, J.hok, rfl, q⟩
  case brk =>
    obtain ⟨_, _, _, q⟩ := hs
    exact q.elim
  case cont =>
    obtain ⟨_, _, _, q⟩ := hs
    exact q.elim
end HX

set_option Elab.async false
set_option linter.all false
set_option maxRecDepth 100000
namespace HX
open PySem PySem.Spec PyProof.Rows L2 HotX L2H LamX

/-- g(e) in a suite: g knows the exception p -/
theorem pe_callP {X : Cx} {k : Nat} {f : Addr} {fd : FuncData} {ps : List Str} {sp : SpP} {x : Str} {q pos : Pos} {e : Expr} {ta : TA} {p : Addr × Obj} (F : FnP X.prog X.w X.K X.mg X.base C8.CX0 k f fd ps sp) (hr : RoomH k X.A) (hot : Hot1 X.A p) (hp : p ∈ X.pn)
    (hg : Gl X x) (hm : X.mg x = some (.ref f)) (hk : PySem.W.keepIn X.K (.ref f) = true) (hb : Binds X.K fd ps []) (ha : PA X [e] ta) (hdb : (x == ("__debug__" : Str)) = false := by decide)
    (he : starEach [e] X.env = [(false, eval e X.env)] := by rfl) :
    PE X (.Call (.Name x q) [e] [] pos) (fun σ H Q => ta σ H fun vs H1 => sp p vs H1 Q C8.E0) := by
  constructor
  intro pins s σ H Q I h
  apply wpAny_Call_Name_kw
  refine ld_glob I hg hm ?_ hdb
  refine PySem.W.callWith_K (h₀ := X.base) I.ok.mod.kin hk ?_ he rfl
  refine thn (ha.run pos pins s σ H _ I h) ?_
  rintro us s1 ⟨vs, H1, I1, r, hq⟩
  refine ⟨I1.kIn, ?_⟩
  have hl := F.len _ _ _ _ _ hq
  have bt := hb s1 us I1.kIn (by rw [List.append_nil, ← r.length]; exact hl)
  rw [List.append_nil] at bt
  obtain ⟨p1, p2, p3, p4, p5⟩ := I1.pin p (List.mem_append_left _ hp)
  have pin : PinOk X.stack H1 s1 p := ⟨p1, p2, fun z => by
    rcases List.mem_cons.mp (I1.stkSub _ z) with y | y
    · exact p3 y
    · exact p4 y, p5⟩
  apply wpAny_call
  refine codeAny_mono (F.run p X.A X.stack s1 H1 ⟨us, []⟩ us vs Q C8.E0 hr hot pin I1.env0 bt r hq) ?_
  intro rs t ht
  match rs, ht with
  | .ok (.ret w), ht => exact I1.after ht
  | .ok .next, ht => exact ht.elim
  | .ok .brk, ht => exact ht.elim
  | .ok .cont, ht => exact ht.elim
  | .error _, ht => exact ht.elim

/-! ### a lambda whose exceptions are known to have no context -/
def lamN (X : Cx) (A : Around) (outer : List Env) (s : Shared) (H : Hp) (E : XK) (scope : Scope) (f c' : Addr) : Cx :=
  (lamCx X A outer s H E scope f c').wish fun e t => wpAny (model X.prog X.w) (A.deeper (lamEnv X scope s.heap.objs.size f c')) (leaving (lamEnv X scope s.heap.objs.size f c') e) (fun _ t' => L2N.CX X.prog X.w outer H s E e t') (fun e' t' => L2N.CX X.prog X.w outer H s E e' t') t

/-- what is known of the lambda that was made -/
structure Made (X : Cx) (params : Arguments) (body : Expr) (scope : Scope) (s : Shared) (H : Hp) (f c' : Addr) : Prop where
  obj : ∃ pm ctv, s.heap.get? f = some (PySem.W.kla_obj "<lambda>" (X.env.qual ++ "<lambda>") params body scope (cloFrom X.env.cells scope.names []) pm c' ctv)
  no : H f = none
  nf : f ∉ frs X.stack
  code : H c' = some (CodeO c' (X.env.qual ++ "<lambda>"))

/-- the lambda runs: called from a context Z over X's stack -/
theorem runLam {X Z : Cx} {pins pinsZ : List (Addr × Obj)} {σ σZ : L2.St} {H HZ : Hp} {s t : Shared} {params : Arguments} {body : Expr} {scope : Scope} {f c' : Addr} {k : Nat} {tb : TE} {E : XK} {Q : VK} {envZ : Env}
    (I : Inv X pins σ H s) (L : LamS X.env.scope scope) (hM : Made X params body scope s H f c') (hbind : ∀ (q : Str) (cl : List (Str × Addr)) (pm cv ctv : Value), bindArgs (PySem.W.kla_fn "<lambda>" q params body scope cl pm cv ctv) ⟨[], []⟩ = pure [])
    (IZ : Inv Z pinsZ σZ HZ t) (z1 : Z.prog = X.prog) (z2 : Z.w = X.w) (z3 : Z.K = X.K) (z4 : Z.mg = X.mg) (z5 : Z.base = X.base) (z6 : Z.stack = envZ :: X.stack) (z7 : Z.s_0 = s) (z8 : Z.H_0 = H) (z9 : Z.outer = X.stack) (z10 : Z.ex = [])
    (hr : Room (k + 1) Z.A) (hc : HZ c' = some (CodeO c' (X.env.qual ++ "<lambda>")))
    (hbody : ∀ (A : Around) (outer : List Env) (s : Shared) (H : Hp), Room k (A.deeper (lamEnv X scope s.heap.objs.size f c')) → PE (lamN X A outer s H E scope f c') body tb) (ht : tb σ HZ Q) :
    codeAny (model X.prog X.w) Z.A (.call (.ref f) ⟨[], []⟩) (CR (L2N.CX X.prog X.w) Z.stack X.prog X.w HZ t Q E) t := by
  obtain ⟨pm, ctv, hf⟩ := hM.obj
  have un : Un (frs X.stack) [] H HZ s.heap t.heap := by
    have b := IZ.base
    rw [z7, z8, z10] at b
    unfold Cx.fs at b
    rw [z9] at b
    exact b
  have f2 := un.keep f _ hf hM.no hM.nf (by simp)
  obtain ⟨⟨oc, vs, tt, hoc, hdc, hvc⟩, _, _⟩ := IZ.hok _ _ hc
  refine PySem.W.kla_callFunE hr.depth f2 rfl L.co L.gen rfl ⟨_, oc, vs, tt, rfl, hoc, hdc, hvc⟩ ?_
  rw [hbind]
  refine wpAny_pure (wpAny_newFunctionEnv (fun y hy => (L.own y hy).2) (by simp) ?_ L.kind)
  intro g hns sb
  refine ⟨IZ.nolimit.fresh _ sb, ?_⟩
  have kp : ∀ b o, t.heap.get? b = some o → g.get? b = some o := fun b o e => sb.extBut _ _ (Nat.ne_of_lt (Heap.lt_size e)) (Heap.get?_push_of_some _ e)
  have e0 := IZ.env0
  rw [z1, z2, z3, z4, z5] at e0
  have J := (lam_start2 (E := E) (c' := c') (f := f) (tk := t.toks + ([] : List (Str × Value)).length) I L e0 hr.hd un hns kp).wish (fun e t' => wpAny (model X.prog X.w) (Z.A.deeper (lamEnv X scope t.heap.objs.size f c')) (leaving (lamEnv X scope t.heap.objs.size f c') e)
    (fun _ t'' => L2N.CX X.prog X.w Z.stack HZ t E e t'') (fun e' t'' => L2N.CX X.prog X.w Z.stack HZ t E e' t'') t')
  apply PySem.W.kla_codeExpr
  refine wpAny_mono ((hbody Z.A Z.stack t HZ (hr.deeper _)).run [] _ _ HZ Q J ht) ?_ fun e s' hq => hq
  rintro v s' ⟨w', H', J', rv, q⟩
  exact ⟨w', H', J'.os, J'.bare, J'.base, J'.hok, rv, q⟩
end HX

set_option Elab.async false
set_option linter.all false
set_option maxRecDepth 100000
namespace HX
open PySem PySem.Spec PyProof.Rows L2 HotX L2H LamX

theorem tabs_more {T : List (Addr × Str)} {H : Hp} {P c : Addr} {q : Str} {ps : Array Value} {pos : Pos} (hT : Tabs T H) (hP : H P = some (.tbl ps)) (hc : H c = none) (hu : ∀ p ∈ T, p.1 = P → p.2 = q) :
    Tabs T (upd (upd H P (.tbl (ps ++ #[rawInt pos.line, rawInt pos.col, .ref c]))) c (CodeO c q)) := by
  have nPc := ne_of_none hP hc
  have kp : ∀ b o, b ≠ P → H b = some o → upd (upd H P (.tbl (ps ++ #[rawInt pos.line, rawInt pos.col, .ref c]))) c (CodeO c q) b = some o := fun b o n e => by
    rw [upd_ne (ne_of_none e hc), upd_ne n]; exact e
  intro r hr
  obtain ⟨rs, h1, h2, h3⟩ := hT r hr
  have code : ∀ {pos' : Pos} {cv : Value}, codeAmong pos' rs.toList = some cv → ∃ d, cv = .ref d ∧ upd (upd H P (.tbl (ps ++ #[rawInt pos.line, rawInt pos.col, .ref c]))) c (CodeO c q) d = some (CodeO d r.2) := fun {pos' cv} h => by
    obtain ⟨d, e1, e2⟩ := h3 pos' cv h
    refine ⟨d, e1, kp d _ (fun z => ?_) e2⟩
    rw [z, hP] at e2
    exact codeO_ne _ (Option.some.inj e2).symm
  by_cases hb : r.1 = P
  · rw [hb, hP] at h1
    obtain rfl : ps = rs := by cases h1; rfl
    refine ⟨_, by rw [hb, upd_ne nPc, upd_same], ?_, fun pos' cv h => ?_⟩
    · rw [Array.toList_append]
      exact PySem.TriplesOk_snoc _ _ _ _ h2
    · rw [Array.toList_append] at h
      rcases among_app _ h2 h with z | z
      · exact code z
      · exact ⟨c, z, by rw [upd_same, hu r hr hb]⟩
  · exact ⟨rs, kp _ _ hb h1, h2, fun pos' cv h => code h⟩

/-- a lambda is made: nothing that is told changes but its table -/
theorem mkLam {X : Cx} {pins : List (Addr × Obj)} {σ : L2.St} {H : Hp} {s : Shared} {T : List (Addr × Str)} {c P : Addr} {params : Arguments} {body : Expr} {scope : Scope} {pos : Pos} {E Q : Value → Shared → Prop} (I : Inv X pins σ H s) (TB : TabB X.base X.mg c P) (hcode : X.env.code = .ref c)
    (hm : (P, X.env.qual ++ "<lambda>") ∈ T) (hu : ∀ p ∈ T, p.1 = P → p.2 = X.env.qual ++ "<lambda>") (hT : Tabs T H) (hdef : defaultsOf params X.env = ([], [])) (L : LamS X.env.scope scope)
    (h : ∀ (f c' : Addr) (H1 : Hp) (s' : Shared), Inv X pins σ H1 s' → (∀ b o, b ≠ P → H b = some o → H1 b = some o) → Tabs T H1 → Made X params body scope s' H1 f c' → Q (.ref f) s') :
    wpAny (model X.prog X.w) X.A (eval (.Lambda params body scope pos) X.env) Q E s := by
  obtain ⟨ps, hP, ht, ha⟩ := hT _ hm
  have oP : s.heap.get? P = some { cls := .none, data := .fields ps } := I.hok P _ hP
  have bP : s.heap.BuiltinsAt X.mg P := TB.bm.keeps I.bk
  have away : ∀ {f}, s.heap.objs.size ≤ f → f ∉ frs X.stack := fun {f} hf z => by
    rcases List.mem_cons.mp (I.stkSub _ z) with e | e
    · exact absurd I.lt (by rw [← e]; exact Nat.not_lt.mpr hf)
    · exact I.nofs hf e
  apply PySem.W.kla_eval hdef
  have clo := closure_ok (L.has I.ok)
  cases hc : codeAmong pos ps.toList with
  | some cv =>
    obtain ⟨c', rfl, hco⟩ := ha pos cv hc
    apply PySem.W.kla_makeFunctionHit (mg := X.mg) (c := c) (P := P) (ps := ps) clo I.ok.glob (I.mod.glob.keeps I.bk) hcode (TB.code.keeps I.bk) oP ht hc bP
    intro ctv g tk hx hsz
    exact h g.objs.size c' H _ (I.kept fun b o e => Heap.get?_push_of_some _ (hx b o e)) (fun _ _ _ e => e) hT ⟨⟨_, _, Heap.get?_push_size _ rfl⟩, I.hok.fresh hsz, away hsz, hco⟩
  | none =>
    apply PySem.W.kla_makeFunction (mg := X.mg) (c := c) (P := P) (ps := ps) clo I.ok.glob (I.mod.glob.keeps I.bk) hcode (TB.code.keeps I.bk) oP ht hc TB.gP bP
    rintro c' ctv g tk hx hge hlt ⟨c2, oc, vs, t, e2, hoc, hd, hv⟩ htb
    obtain rfl : c2 = c' := by cases e2; rfl
    have nC : H c2 = none := I.hok.fresh hge
    have hsz := Nat.le_trans hge (Nat.le_of_lt hlt)
    refine h g.objs.size c2 _ _ (inv_table (q := X.env.qual ++ "<lambda>") (more := #[rawInt pos.line, rawInt pos.col, .ref c2]) (t' := tk) I hP (fun b o hb e => Heap.get?_push_of_some _ (hx b o hb e)) (Heap.get?_push_of_some _ htb) hge ⟨oc, vs, t, Heap.get?_push_of_some _ hoc, hd, hv⟩) ?_ (tabs_more hT hP nC hu) ⟨⟨_, _, Heap.get?_push_size _ rfl⟩, ?_, away hsz, upd_same⟩
    · intro b o hb e
      rw [upd_ne (ne_of_none e nC), upd_ne hb]; exact e
    · have hl := Heap.lt_size oP
      rw [upd_ne (Nat.ne_of_gt hlt), upd_ne (Nat.ne_of_gt (Nat.lt_of_lt_of_le hl hsz))]
      exact I.hok.fresh hsz
end HX

set_option Elab.async false
set_option linter.all false
set_option maxRecDepth 100000
namespace HX
open PySem PySem.Spec PyProof.Rows L2 HotX L2H LamX

/-- a(), in the def that got the lambda -/
theorem pe_actN {X : Cx} {pins : List (Addr × Obj)} {σ : L2.St} {H : Hp} {s : Shared} {CXg : CXT} {Eg : XK} {Ng : List Str} {qg : Str} {sg : Scope} {g f c' : Addr} {cdg : Value} {params : Arguments} {body : Expr} {scope : Scope} {k i : Nat} {a : Str} {pn : List (Addr × Obj)} {xe : Value → Shared → Prop}
    {W : WX} {E : XK} {tb : TE} {p1 p2 : Pos} (I : Inv X pins σ H s) (L : LamS X.env.scope scope) (hM : Made X params body scope s H f c')
    (hbind : ∀ (q : Str) (cl : List (Str × Addr)) (pm cv ctv : Value), bindArgs (PySem.W.kla_fn "<lambda>" q params body scope cl pm cv ctv) ⟨[], []⟩ = pure [])
    (tk : L2N.Takes ((cxOf CXg X.prog X.w X.K X.mg X.base Ng qg sg g cdg X.A X.stack s H Eg).tr pn xe) W) (hW : ∀ cls d τ H', E cls d H' → W cls d τ H') (hr : Room (k + 1) (X.A.deeper (envOfC qg sg s.heap.objs.size g cdg)))
    (hbody : ∀ (A : Around) (outer : List Env) (s : Shared) (H : Hp), Room k (A.deeper (lamEnv X scope s.heap.objs.size f c')) → PE (lamN X A outer s H E scope f c') body tb)
    (hN : Ng[i]? = some a) (hv : Vis sg a) (hd : (a == ("__debug__" : Str)) = false) (hcd : (a == ("__classdict__" : Str)) = false) :
    PE ((cxOf CXg X.prog X.w X.K X.mg X.base Ng qg sg g cdg X.A X.stack s H Eg).tr pn xe) (.Call (.Name a p1) [] [] p2)
      (fun τ HZ Q => τ[i]? = some (some (.ref f)) ∧ HZ c' = some (CodeO c' (X.env.qual ++ "<lambda>")) ∧ tb σ HZ Q) := by
  constructor
  rintro pinsZ t τ HZ Q IZ ⟨h1, h2, h3⟩
  apply wpAny_Call_Name_kw
  refine thn ((pe_var (pos := p1) (i := i) hN hv hd hcd).run pinsZ t τ HZ (fun v H1 => v = .ref f ∧ H1 = HZ) IZ ⟨.ref f, h1, rfl, rfl⟩) ?_
  rintro u t1 ⟨v, H1, I1, r1, rfl, rfl⟩
  have eu : u = Value.ref f := r1
  rw [eu]
  obtain ⟨pm, ctv, hf⟩ := hM.obj
  have f1 := I1.base.keep f _ hf hM.no hM.nf (show f ∉ ([] : List Addr) by simp)
  refine PySem.W.callWith_F0 ⟨_, _, _, _, f1⟩ ?_
  apply wpAny_call
  refine codeAny_mono (runLam (X := X) (Z := (cxOf CXg X.prog X.w X.K X.mg X.base Ng qg sg g cdg X.A X.stack s H Eg).tr pn xe) (E := E) (Q := Q) (tb := tb) (envZ := envOfC qg sg s.heap.objs.size g cdg) I L hM hbind I1 rfl rfl rfl rfl rfl rfl rfl rfl rfl rfl hr h2 hbody h3) ?_
  intro rs t2 ht
  match rs, ht with
  | .ok (.ret w), ht => exact I1.after ht
  | .ok .next, ht => exact ht.elim
  | .ok .brk, ht => exact ht.elim
  | .ok .cont, ht => exact ht.elim
  | .error e, ht => exact L2N.passes_call tk (fun cls d τ' H' h => hW cls d τ' H' h) pinsZ τ _ t1 e t2 I1 ht

/-- what told does with an exception: named by tm -/
def wTold (K : PySem.W.Frag) (CS : Addr) (spT : SpP) (Q : VK) : XK := fun cls d H' =>
  PySem.W.exmOne K cls (.ref CS) = some true ∧ ∀ (a : Addr) (oe : Obj), H' a = none → L2N.Zn cls d oe → (∃ vs, oe.data = .fields vs) → spT (a, oe) [.ref a] H' Q C8.E0
/-- x(lambda: body), x the def: try: return a() / except ex as en: return tm(en) -/
def tTold (K : PySem.W.Frag) (T : List (Addr × Str)) (P CS : Addr) (spT : SpP) (t : XK → TE) : TE := fun σ H Q => Tabs T H ∧ ∀ H1, (∀ b o, b ≠ P → H b = some o → H1 b = some o) → Tabs T H1 → t (wTold K CS spT Q) σ H1 Q

theorem pe_told {X : Cx} {T : List (Addr × Str)} {CS : Addr} {spT : SpP} {t : XK → TE} {x a ex en tm : Str} {g c P fT : Addr} {k kT : Nat} {pg : Arguments} {sg : Scope} {dV kV doc pm cdv ct oc : Value} {an od : Option Addr} {osl : Array (Option Value)} {Ng : List Str} {fdT : FuncData} {psT : List Str}
    {params : Arguments} {body : Expr} {scope : Scope} {p lpos pos p1 p2 p3 p4 p5 p6 p7 p8 p9 p10 : Pos} (hg : Gl X x) (hm : X.mg x = some (.ref g)) (hk : PySem.W.keepIn X.K (.ref g) = true)
    (lk : X.K.lookup g = some ⟨oc, od, .func (PySem.W.fnOf x x pg [.Try [.Return (some (.Call (.Name a p1) [] [] p2)) p3] [.ExceptHandler (some (.Name ex p4)) (some en) [.Return (some (.Call (.Name tm p5) [.Name en p6] [] p7)) p8] p9] [] [] p10] sg dV kV doc pm an cdv ct), osl⟩)
    (hcg : PySem.W.codeIn X.K cdv x = true) (hb : L2.Binds X.K (PySem.W.fnOf x x pg [.Try [.Return (some (.Call (.Name a p1) [] [] p2)) p3] [.ExceptHandler (some (.Name ex p4)) (some en) [.Return (some (.Call (.Name tm p5) [.Name en p6] [] p7)) p8] p9] [] [] p10] sg dV kV doc pm an cdv ct) [a] [])
    (Sg : FnScope Ng [a] sg) (hN0 : Ng[0]? = some a) (hN1 : Ng[1]? = some en) (hva : Vis sg a) (hve : sg.names.lookup en = some .local) (hgx : sg.names.lookup ex = some .globalImplicit) (hgt : sg.names.lookup tm = some .globalImplicit)
    (mx : X.mg ex = some (.ref CS)) (mt : X.mg tm = some (.ref fT)) (kt : PySem.W.keepIn X.K (.ref fT) = true) (hbT : L2.Binds X.K fdT psT []) (FT : FnP X.prog X.w X.K X.mg X.base C8.CX0 kT fT fdT psT spT) (hkT : kT ≤ k + 1)
    (TB : TabB X.base X.mg c P) (hcode : X.env.code = .ref c) (hmT : (P, X.env.qual ++ "<lambda>") ∈ T) (hu : ∀ p ∈ T, p.1 = P → p.2 = X.env.qual ++ "<lambda>") (hr : Room (k + 2) X.A) (L : LamS X.env.scope scope) (hdef : defaultsOf params X.env = ([], []))
    (hbind : ∀ (q : Str) (cl : List (Str × Addr)) (pm cv ctv : Value), bindArgs (PySem.W.kla_fn "<lambda>" q params body scope cl pm cv ctv) ⟨[], []⟩ = pure [])
    (hbody : ∀ (A : Around) (outer : List Env) (s : Shared) (H : Hp) (E : XK) (f c' : Addr), Room k (A.deeper (lamEnv X scope s.heap.objs.size f c')) → PE (lamN X A outer s H E scope f c') body (t E))
    (d1 : (x == ("__debug__" : Str)) = false) (d2 : (a == ("__debug__" : Str)) = false) (d3 : (a == ("__classdict__" : Str)) = false) (d4 : (ex == ("__debug__" : Str)) = false) (d5 : (tm == ("__debug__" : Str)) = false) (d6 : (en == ("__debug__" : Str)) = false) (d7 : (en == ("__classdict__" : Str)) = false) :
    PE X (.Call (.Name x p) [.Lambda params body scope lpos] [] pos) (tTold X.K T P CS spT t) := by
  constructor
  rintro pins s σ H Q I ⟨hT, h⟩
  apply wpAny_Call_Name_kw
  refine ld_glob I hg hm ?_ d1
  refine PySem.W.callWith_K (h₀ := X.base) I.ok.mod.kin hk ?_ rfl rfl
  show wpAny _ _ (spliced ((false, eval (.Lambda params body scope lpos) X.env) :: backTo pos (starEach [] X.env))) _ _ s
  apply Calls.spliced_cons
  refine mkLam I TB hcode hmT hu hT hdef L ?_
  intro f c' H1 s' I1 eN T1 hM
  refine Calls.spliced_nil ⟨I1.kIn, ?_⟩
  apply wpAny_call
  refine codeAny_mono (R := CR C8.CX0 X.stack X.prog X.w H1 s' Q C8.E0) ?_ ?_
  · refine run_ofS (N := Ng) (ps := [a]) (us := [.ref f]) (vs := [.ref f]) lk hcg Sg hr I1.env0 (hb s' [.ref f] I1.kIn rfl) (.cons rfl .nil) rfl fun hr' => ?_
    generalize hZ : (cxOf C8.CX0 X.prog X.w X.K X.mg X.base Ng x sg g cdv X.A X.stack s' H1 C8.E0) = Z
    have ts := L2N.ps_try_as (X := Z) (x := ex) (n := en) (c := .ref CS) (i := 1) (Wout := fun _ _ _ _ => False) (np := p4) (pos := p10) (pos' := p9)
      (body := [.Return (some (.Call (.Name a p1) [] [] p2)) p3]) (b₀ := .Return (some (.Call (.Name tm p5) [.Name en p6] [] p7)) p8) (suite := [])
      (tb := fun W D τ HZ => ∃ E : XK, (∀ cls d τ' H', E cls d H' → W cls d τ' H') ∧ τ[0]? = some (some (.ref f)) ∧ HZ c' = some (CodeO c' (X.env.qual ++ "<lambda>")) ∧ t E σ HZ D.rt)
      (ts := fun e cls d D τ HZ => (τ.length = Ng.length → τ[1]? = some (some (.ref e))) ∧ ∀ oe, L2N.Zn cls d oe → (∃ vs, oe.data = .fields vs) → spT (e, oe) [.ref e] HZ D.rt C8.E0)
      (by rw [← hZ]; rfl) (by rw [← hZ]; rfl) (by rw [← hZ]; exact Sg.nd) (by rw [← hZ]; exact hN1) (by rw [← hZ]; exact hve) (by rw [← hZ]; exact ⟨hgx, d4, .inl mx⟩) ?_ ?_ ?_
    · refine ⟨_, pss_one ts, ?_⟩
      refine ⟨wTold X.K CS spT Q, ?_, ?_, hM.code, h H1 eN T1⟩
      · rintro cls d τ' H' ⟨w1, w2⟩
        rw [← hZ]
        refine ⟨true, w1, fun _ e he => ⟨fun hl => ?_, fun oe => w2 e oe he⟩, fun z => nomatch z⟩
        rw [List.length_set] at hl
        exact List.getElem?_set_self (by rw [hl]; exact (List.getElem?_eq_some_iff.mp hN1).1)
      · rfl
    · rintro u t' ⟨_, _, _, _, _, _, _, _, _, _, _, _, _, _, _, _, z⟩
      exact z.elim
    · intro W pn xe tk _
      subst hZ
      constructor
      rintro pins2 t2 τ HZ D IZ ⟨E, hW, h1, h2, h3⟩
      exact (pss_one (ps_ret (pos := p3) (pe_actN (p1 := p1) (p2 := p2) I1 L hM hbind tk hW hr' (fun A o s H r => hbody A o s H E f c' r) hN0 hva d2 d3))).run pins2 t2 τ HZ D IZ ⟨h1, h2, h3⟩
    · intro e oe cls d pn hz hv
      subst hZ
      constructor
      rintro pins2 t2 τ HZ D IZ ⟨h1, h2⟩
      have rh : RoomH kT (X.A.deeper (envOfC x sg s'.heap.objs.size g cdv)) := (roomH_of hr').mono hkT
      obtain ⟨vs, hvs⟩ := hv
      refine (pss_one (ps_ret (pos := p8) (pe_callP (X := (cxOf C8.CX0 X.prog X.w X.K X.mg X.base Ng x sg g cdv X.A X.stack s' H1 C8.E0).suite e ((e, oe) :: pn)) (p := (e, oe)) (q := p5) (pos := p7) FT ⟨rh.dp, rh.un⟩ ⟨rfl, vs, hvs, hz.2.2 vs hvs⟩ List.mem_cons_self hgt mt kt hbT (pa_cons (pe_var (pos := p6) (i := 1) hN1 (.inl hve) d6 d7) pa_nil) d5))).run pins2 t2 τ HZ D IZ ?_
      exact ⟨.ref e, h1 IZ.len, h2 oe hz ⟨vs, hvs⟩⟩
  · intro rs t2 ht
    match rs, ht with
    | .ok (.ret w), ht => exact I1.after ht
    | .ok .next, ht => exact ht.elim
    | .ok .brk, ht => exact ht.elim
    | .ok .cont, ht => exact ht.elim
    | .error e, ht => exact ht.elim
end HX

set_option Elab.async false
set_option linter.all false
set_option maxRecDepth 100000
namespace HX
variable [DL.Tbs]
open PySem PySem.Spec PyProof.Rows L2 HotX L2H LamX DL

/-- a value, or an exception of the class D -/
inductive Res where
  | ok (r : Sl)
  | exc (D : Addr)
/-- what code that may raise comes to -/
def EvX (K : PySem.W.Frag) (t : XK → TE) (es : List Sl) (m : M) : Res → M → Prop
  | .ok r, m' => ∀ E, EvE K (t E) es m r m'
  | .exc D, m' => ∀ σ H H0 ρ, Wd K H0 H ρ m → EnvS K H0 ρ σ es → ∀ (Q : VK) (E : XK), (∀ H' H0', Stp ρ.length ρ H0 H ρ H0' H' → Wd K H0' H' ρ m' → E (.ref D) none H') → t E σ H Q

/-- what naming an exception comes to: class D, named by y -/
def spTerm (K : PySem.W.Frag) (R : Addr → PyData → Prop) : SpP := fun p vs H Q _ => vs = [.ref p.1] ∧ ∃ D y H0 ρ m, R D y ∧ L2N.Zn (.ref D) none p.2 ∧ (∃ vs, p.2.data = .fields vs) ∧ Wd K H0 H ρ m ∧
  ∀ v H' H0', Stp ρ.length ρ H0 H ρ H0' H' → Wd K H0' H' ρ m → Dp K H0' v y → Q v H'

section
variable {K : PySem.W.Frag} {es : List Sl} {m m1 : M} {t : XK → TE}
/-- a lambda's making, in the world -/
theorem lamWd {P : Addr} {q : Str} {H H1 H0 : Hp} {ρ : List Addr} (hm : (P, q) ∈ Tbs.T) (w : Wd K H0 H ρ m) (k : ∀ b o, b ≠ P → H b = some o → H1 b = some o) (t1 : Tabs Tbs.T H1) : Wd K H0 H1 ρ m ∧ Stp ρ.length ρ H0 H ρ H0 H1 := by
  obtain ⟨ps, hP, _⟩ := w.tab _ hm
  obtain ⟨ps1, hP1, _⟩ := t1 _ hm
  have k0 : ∀ b o, H b = some o → (∀ ps, o ≠ .tbl ps) → H1 b = some o := fun b o e n => k b o (fun z => by
    rw [z, hP] at e
    exact n ps (Option.some.inj e).symm) e
  have n0 : H0 P = none := w.nT _ hm
  refine ⟨⟨fun b o e => k b o (fun z => by rw [z, n0] at e; cases e) (w.ex b o e), w.len, w.nd, fun j p ds a b => ?_, t1, w.nT⟩, ⟨Evl.Ex.refl _, fun b o e _ n => k0 b o e n, fun b e => ?_, fun b o h => .inl h, rfl, fun b h => .inl h⟩⟩
  · obtain ⟨h1, vs, h2, h3⟩ := w.cel j p ds a b
    exact ⟨h1, vs, k0 _ _ h2 (fun _ z => nomatch z), h3⟩
  · cases q : H b with
    | none => rfl
    | some o =>
      by_cases hb : b = P
      · rw [hb, hP1] at e; cases e
      · rw [k b o hb q] at e; cases e

theorem ev_told {P CS D : Addr} {q : Str} {R : Addr → PyData → Prop} {y : PyData} (hm : (P, q) ∈ Tbs.T) (h : EvX K t es m (.exc D) m1) (hx : PySem.W.exmOne K (.ref D) (.ref CS) = some true) (hR : R D y) : EvE K (tTold K Tbs.T P CS (spTerm K R) t) es m (.d y) m1 := by
  intro σ H H0 ρ w e Q q
  refine ⟨w.tab, fun H1 k1 t1 => ?_⟩
  obtain ⟨w1, s1⟩ := lamWd hm w k1 t1
  refine h σ H1 H0 ρ w1 e Q _ fun H2 H02 s2 w2 => ⟨hx, fun a oe ha hz hv => ⟨rfl, D, y, H02, ρ, m1, hR, hz, hv, w2, fun v H3 H03 s3 w3 k3 => ?_⟩⟩
  exact q v H3 H03 (s1.trans w1.nd (s2.trans w2.nd s3)) w3 k3
theorem ev_told0 {P CS : Addr} {q : Str} {R : Addr → PyData → Prop} {r : Sl} (hm : (P, q) ∈ Tbs.T) (h : EvX K t es m (.ok r) m1) : EvE K (tTold K Tbs.T P CS (spTerm K R) t) es m r m1 := by
  intro σ H H0 ρ w e Q q
  refine ⟨w.tab, fun H1 k1 t1 => ?_⟩
  obtain ⟨w1, s1⟩ := lamWd hm w k1 t1
  exact h _ σ H1 H0 ρ w1 e Q fun v H2 H02 s2 w2 k2 => q v H2 H02 (s1.trans w1.nd s2) w2 k2

/-! ### in the suite: isinstance, sum, index -/
theorem ev_isE {a D : Addr} {c : V} {cv : Value} {b : Bool} {ta : TA} (h : EvA K ta es m [.v (.ref a), .v c] m1) (hc : ∀ u, RelV c u → u = cv) (hk : PySem.W.kitOne K (.ref D) cv = some b) : EvE K (tCB (rIsE K D a) ta) es m (.d (.bool b)) m1 := by
  intro σ H H0 ρ w e Q q
  refine h σ H H0 ρ w e _ fun vs H' H0' s' w' kv => ?_
  cases kv with
  | cons k1 k2 =>
    cases k2 with
    | cons k3 k4 =>
      cases k4
      have k1 : _ = V.ref a := k1
      have k3 : _ = c := k3
      subst k1; subst k3
      exact ⟨_, cv, b, rfl, hc, hk, q _ H' H0' s' w' (.bl b)⟩
theorem bools : ∀ {H0 : Hp} {vs : List V} {bs : List Bool}, DpAll K H0 vs (bs.map .bool) → vs = bs.map V.bl
  | _, _, [], h => by cases h; rfl
  | _, _, b :: bs, h => by
    cases h with
    | cons a t =>
      cases a
      rw [bools t]
      rfl
theorem ev_sumB {i : Nat} {bs : List Bool} (h : es[i]? = some (.d (.list (bs.map .bool)))) : EvE K (tSumB K i) es m (.d (.int (preSum (fun i => b2i (bs.getD i false)) bs.length))) m := by
  intro σ H H0 ρ w e Q q
  rcases e.2 i _ h with z | ⟨v, h1, h2⟩
  · cases z
  · have h2 : Dp K H0 v (.list (bs.map .bool)) := h2
    cases h2 with
    | lst hs ha =>
      rw [bools ha] at hs
      exact ⟨_, bs, h1, Evl.ex_l w.ex hs, q _ H H0 .refl w (.int _)⟩
end
end HX

set_option Elab.async false
set_option linter.all false
set_option maxRecDepth 100000
namespace HX
variable [DL.Tbs]
open PySem PySem.Spec PyProof.Rows L2 HotX L2H LamX DL
section
variable {K : PySem.W.Frag} {es : List Sl} {m m1 m2 : M} {te : TE} {ta : TA}
/-- [..] as a new list -/
theorem el_lst {rs : List Sl} {ds : List PyData} (h : EvA K ta es m rs m1) (e : rs = ds.map .d) (hl : ds.length ≤ 1000) : EvL K (tLst ta) es m ds m1 := by
  subst e
  intro σ H H0 ρ w ee Q q
  refine h σ H H0 ρ w ee _ fun vs H' H0' s' w' kv => ?_
  have hd := slAll_d kv
  refine ⟨Nat.le_of_lt (small1000 (by rw [dpAll_len hd]; exact hl)), fun p hp => ?_⟩
  have h0 := Evl.fresh_back w'.ex hp
  have hH : H p = none := s'.dom p hp
  exact q p vs _ H0' (s'.off hH) (w'.off h0 (w'.notin hp) (.inl hp)) hH h0 (w'.notin hp) upd_same hd
/-- x + [..], x a cell -/
theorem el_cat {i j : Nat} {xs ds : List PyData} (hi : es[i]? = some (.c j)) (h : EvL K te es m ds m1) (hm : m1[j]? = some xs) (hl : xs.length + ds.length ≤ 1000) : EvL K (tOp (rAddU K) (tVar i) te) es m (xs ++ ds) m1 := by
  intro σ H H0 ρ w e Q q
  rcases e.2 i _ hi with z | ⟨v, h1, p, rfl, h2⟩
  · cases z
  refine ⟨_, h1, h σ H H0 ρ w e _ fun b us H' H0' s' w' f1 f2 f3 f4 f5 => ?_⟩
  obtain ⟨vs, g1, g2⟩ := cell_get w' h2 hm
  refine .inr (.inr ⟨p, b, vs, us, rfl, rfl, g1, f4, Nat.le_of_lt (small1000 (by rw [dpAll_len g2, dpAll_len f5]; exact hl)), fun r hr => ?_⟩)
  have h0 := Evl.fresh_back w'.ex hr
  have hH : H r = none := s'.dom r hr
  exact q r _ _ H0' (s'.off hH) (w'.off h0 (w'.notin hr) (.inl hr)) hH h0 (w'.notin hr) upd_same (dpAll_app g2 f5)
theorem up_get {j : Nat} {x a : List PyData} (h : m[j]? = some x) : (m ++ [a])[j]? = some x := by
  rw [List.getElem?_append_left (List.getElem?_eq_some_iff.mp h).1]; exact h
theorem ev_sumC {i j : Nat} {bs : List Bool} {n : Int} (h : es[i]? = some (.c j)) (hm : m[j]? = some (bs.map .bool)) (hn : preSum (fun i => b2i (bs.getD i false)) bs.length = n) : EvE K (tSumB K i) es m (.d (.int n)) m := by
  intro σ H H0 ρ w e Q q
  rcases e.2 i _ h with z | ⟨v, h1, p, rfl, h2⟩
  · cases z
  obtain ⟨vs, g1, g2⟩ := cell_get w h2 hm
  rw [bools g2] at g1
  exact ⟨p, bs, h1, .inl (.inl g1), q _ H H0 .refl w (hn ▸ .int _)⟩
theorem ev_indexC {i j k : Nat} {bs : List Bool} (h : es[i]? = some (.c j)) (hm : m[j]? = some (bs.map .bool)) (hk : bs[k]? = some true) (hb : ∀ l, l < k → bs[l]? = some false) : EvE K (tBM K "list" (rIndex K) (tVar i) (tCons (tC (.bl true)) tNil)) es m (.d (.int (k : Nat))) m := by
  intro σ H H0 ρ w e Q q
  rcases e.2 i _ h with z | ⟨v, h1, p, rfl, h2⟩
  · cases z
  obtain ⟨vs, g1, g2⟩ := cell_get w h2 hm
  rw [bools g2] at g1
  have hS : SqL K H p (bs.map V.bl) := .inl (.inl g1)
  refine ⟨_, h1, .inl ⟨rfl, _, hS⟩, p, bs.map V.bl, .bl true, k, .bl true, rfl, rfl, hS, rfl, ?_, ?_, rfl, ?_, q _ H H0 .refl w (.int _)⟩
  · exact List.all_eq_true.mpr fun x hx => by
      obtain ⟨b, _, rfl⟩ := List.mem_map.mp hx
      rfl
  · rw [List.getElem?_map, hk]; rfl
  · intro l z' hl hz
    rw [List.getElem?_map, hb l hl] at hz
    cases hz
    rfl
/-- an item of a cell -/
theorem ev_cixE {i j l : Nat} {k : Int} {ds : List PyData} {d : PyData} (hi : es[i]? = some (.c j)) (h : EvE K te es m (.d (.int k)) m) (hm : m[j]? = some ds) (hk : k = (l : Int)) (hd : ds[l]? = some d) : EvE K (tOp (rIx K) (tVar i) te) es m (.d d) m := by
  intro σ H H0 ρ w e Q q
  rcases e.2 i _ hi with z | ⟨v, h1, p, rfl, h2⟩
  · cases z
  refine ⟨_, h1, h σ H H0 ρ w e _ fun u H' H0' s' w' ku => ?_⟩
  have ku : Dp K H0' u (.int k) := ku
  cases ku
  obtain ⟨vs, g1, g2⟩ := cell_get w' h2 hm
  obtain ⟨v, hv, kv⟩ := dpAll_get' g2 hd
  exact .inl ⟨_, _, _, v, rfl, rfl, .inl (.inl g1), at_of hk hv, q v H' H0' s' w' kv⟩
theorem pre_of {α : Type} {a b : List α} (h : a <+: b) : ∃ c, b = a ++ c := by
  obtain ⟨c, e⟩ := h
  exact ⟨c, e.symm⟩
theorem sv_retA {n : Nat} {r : Sl} (h : EvE K te es m r m2) (e : m1 <+: m2) : Sv K n (tRet te) es m (.ret r m1) := by
  obtain ⟨c, e⟩ := e
  exact sv_ret (ml := c) (e.symm ▸ h)
/-- a def's own cells are gone at its end -/
theorem retBack {ρ ρ' : List Addr} {H0 H H0' H' : Hp} {ml : M} (w : Wd K H0 H ρ m) (s : Stp ρ.length ρ H0 H ρ' H0' H') (w2 : Wd K H0' H' ρ' (m ++ ml)) : Stp ρ.length ρ H0 H ρ H0' H' ∧ Wd K H0' H' ρ m := by
  have e : ρ'.take ρ.length = ρ := by rw [s.pre, List.take_length]
  constructor
  · refine ⟨s.ex, s.keep, s.dom, fun b o z => (s.fresh b o z).imp id (Or.imp id fun y => ?_), rfl, fun b z => .inl z⟩
    exact y
  · refine ⟨w2.ex, w.len, w.nd, fun j p ds h1 h2 => ?_, w2.tab, w2.nT⟩
    have hj := (List.getElem?_eq_some_iff.mp h2).1
    apply w2.cel j p ds
    · rw [← e, List.getElem?_take_of_lt (by rw [w.len]; exact hj)] at h1
      exact h1
    · rw [List.getElem?_append_left hj]; exact h2
/-- isinstance's class, by its name -/
theorem ev_cls {C : Addr} : EvE K (tC (.ref C)) es m (.v (.ref C)) m := ev_c fun _ _ => rfl
theorem eb_val' : True := trivial
end

/-! ### the classes of errors -/
abbrev kinds : List Str := ["InvalidNumber", "InvalidPoint", "InvalidShape", "InvalidLayer", "InvalidDrawing", "InvalidRegion", "InvalidPlan", "InvalidIndex", "InvalidBox", "InvalidMove", "InvalidText", "OnEdge", "Blank", "TooMany", "NothingToUndo"]
structure Cs where
  InvalidNumber : Addr
  InvalidPoint : Addr
  InvalidShape : Addr
  InvalidLayer : Addr
  InvalidDrawing : Addr
  InvalidRegion : Addr
  InvalidPlan : Addr
  InvalidIndex : Addr
  InvalidBox : Addr
  InvalidMove : Addr
  InvalidText : Addr
  OnEdge : Addr
  Blank : Addr
  TooMany : Addr
  NothingToUndo : Addr
  PictureError : Addr
def Cs.all (c : Cs) : List Addr := [c.InvalidNumber, c.InvalidPoint, c.InvalidShape, c.InvalidLayer, c.InvalidDrawing, c.InvalidRegion, c.InvalidPlan, c.InvalidIndex, c.InvalidBox, c.InvalidMove, c.InvalidText, c.OnEdge, c.Blank, c.TooMany, c.NothingToUndo]
structure CsOk (mg : Str → Option Value) (c : Cs) : Prop where
  InvalidNumber : mg "InvalidNumber" = some (.ref c.InvalidNumber)
  InvalidPoint : mg "InvalidPoint" = some (.ref c.InvalidPoint)
  InvalidShape : mg "InvalidShape" = some (.ref c.InvalidShape)
  InvalidLayer : mg "InvalidLayer" = some (.ref c.InvalidLayer)
  InvalidDrawing : mg "InvalidDrawing" = some (.ref c.InvalidDrawing)
  InvalidRegion : mg "InvalidRegion" = some (.ref c.InvalidRegion)
  InvalidPlan : mg "InvalidPlan" = some (.ref c.InvalidPlan)
  InvalidIndex : mg "InvalidIndex" = some (.ref c.InvalidIndex)
  InvalidBox : mg "InvalidBox" = some (.ref c.InvalidBox)
  InvalidMove : mg "InvalidMove" = some (.ref c.InvalidMove)
  InvalidText : mg "InvalidText" = some (.ref c.InvalidText)
  OnEdge : mg "OnEdge" = some (.ref c.OnEdge)
  Blank : mg "Blank" = some (.ref c.Blank)
  TooMany : mg "TooMany" = some (.ref c.TooMany)
  NothingToUndo : mg "NothingToUndo" = some (.ref c.NothingToUndo)
  PictureError : mg "PictureError" = some (.ref c.PictureError)
/-- D is the class of errors that stands at place k -/
structure ErrD (K : PySem.W.Frag) (c : Cs) (k : Nat) (D : Addr) : Prop where
  exc : ExcC K D
  tests : c.all.map (fun C => PySem.W.kitOne K (.ref D) (.ref C)) = (List.range 15).map fun i => some (i == k)
  value : PySem.W.kitOne K (.ref D) (.type "ValueError") = some true
  caught : PySem.W.exmOne K (.ref D) (.ref c.PictureError) = some true
theorem ErrD.test {K : PySem.W.Frag} {c : Cs} {k D : Nat} (e : ErrD K c k D) (i : Nat) {C : Addr} (h : c.all[i]? = some C) : PySem.W.kitOne K (.ref D) (.ref C) = some (i == k) := by
  have z := congrArg (fun l => l[i]?) e.tests
  simp only [List.getElem?_map, h, Option.map_some] at z
  have hi : i < 15 := (List.getElem?_eq_some_iff.mp h).1
  rw [List.getElem?_range hi] at z
  exact Option.some.inj z
end HX

set_option Elab.async false
set_option linter.all false
set_option maxRecDepth 100000
namespace HX
variable [DL.Tbs]
open PySem PySem.Spec PyProof.Rows L2 HotX L2H LamX DL

/-! ### defs that may raise -/
def SpRes (K : PySem.W.Frag) (ρ : List Addr) (H0 H : Hp) (m' : M) (Q : VK) (E : XK) : Res → Prop
  | .ok r => ∀ v H' H0', Stp ρ.length ρ H0 H ρ H0' H' → Wd K H0' H' ρ m' → SlOk K H0' ρ v r → Q v H'
  | .exc D => ∀ H' H0', Stp ρ.length ρ H0 H ρ H0' H' → Wd K H0' H' ρ m' → E (.ref D) none H'
def spX (K : PySem.W.Frag) (n : Nat) (g : List Sl → M → Res → M → Prop) : Sp := fun vs H Q E => vs.length = n ∧ ∃ H0 ρ m rs res m', Wd K H0 H ρ m ∧ SlAll K H0 ρ vs rs ∧ g rs m res m' ∧ SpRes K ρ H0 H m' Q E res
abbrev DefX (P : Program) (w : World) (K : PySem.W.Frag) (mg : Str → Option Value) (base : Heap) (k : Nat) (x : Str) (ps : List Str) (g : List Sl → M → Res → M → Prop) : Prop := DefC P w K mg base (L2N.CX P w) k x ps (spX K ps.length g)
theorem passN0 {X : Cx} : Passes (L2N.CX X.prog X.w) X C8.E0 := fun _ _ _ _ _ _ _ ⟨_, _, _, _, _, _, _, _, _, _, _, _, z⟩ => z.elim
theorem takesN {P : Program} {w : World} {K : PySem.W.Frag} {mg : Str → Option Value} {base : Heap} {N : List Str} {q : Str} {sc : Scope} {f : Addr} {cd : Value} {A : Around} {outer : List Env} {s : Shared} {H : Hp} {E : XK} :
    L2N.Takes (cxOf (L2N.CX P w) P w K mg base N q sc f cd A outer s H E) (fun cls d _ H => E cls d H) := L2N.takes_of rfl rfl rfl rfl
theorem passN {P : Program} {w : World} {K : PySem.W.Frag} {mg : Str → Option Value} {base : Heap} {N : List Str} {q : Str} {sc : Scope} {f : Addr} {cd : Value} {A : Around} {outer : List Env} {s : Shared} {H : Hp} {E : XK} :
    Passes (L2N.CX P w) (cxOf (L2N.CX P w) P w K mg base N q sc f cd A outer s H E) E := L2N.passes_call takesN fun _ _ _ _ h => h

section
variable {K : PySem.W.Frag} {es : List Sl} {m m1 m2 : M} {t : XK → TE} {tt : TT} {n : Nat}
/-- a call that may raise -/
theorem ex_call {g : List Sl → M → Res → M → Prop} {ta : TA} {rs : List Sl} {D : Addr} (h : EvA K ta es m rs m1) (hg : g rs m1 (.exc D) m2) (hn : rs.length = n) : EvX K (fun E => tCall (spX K n g) [] E ta) es m (.exc D) m2 := by
  intro σ H H0 ρ w e Q E q
  refine h σ H H0 ρ w e _ fun vs H' H0' s' w' kv => ?_
  rw [List.append_nil]
  exact ⟨by rw [kv.length]; exact hn, H0', ρ, m1, rs, .exc D, m2, w', kv, hg, fun H2 H02 s2 w2 => q H2 H02 (s'.trans w'.nd s2) w2⟩
theorem ok_call {g : List Sl → M → Res → M → Prop} {ta : TA} {rs : List Sl} {r : Sl} {E : XK} (h : EvA K ta es m rs m1) (hg : g rs m1 (.ok r) m2) (hn : rs.length = n) : EvE K (tCall (spX K n g) [] E ta) es m r m2 := by
  intro σ H H0 ρ w e Q q
  refine h σ H H0 ρ w e _ fun vs H' H0' s' w' kv => ?_
  rw [List.append_nil]
  exact ⟨by rw [kv.length]; exact hn, H0', ρ, m1, rs, .ok r, m2, w', kv, hg, fun v H2 H02 s2 w2 k2 => q v H2 H02 (s'.trans w'.nd s2) w2 k2⟩
/-- statements that raise -/
def SvX (K : PySem.W.Frag) (n : Nat) (t : XK → TS) (es : List Sl) (m : M) (D : Addr) (m' : M) : Prop := ∀ σ H H0 ρ, n ≤ ρ.length → Wd K H0 H ρ m → EnvS K H0 ρ σ es → ∀ (Dn : Ends) (E : XK), (∀ ρ' H' H0' ml, Stp n ρ H0 H ρ' H0' H' → Wd K H0' H' ρ' (m' ++ ml) → E (.ref D) none H') → t E Dn σ H
theorem sx_raise {D : Addr} {c : Addr} (h : D = c) : SvX K n (fun E => fun _ σ H => (fun (_ : L2.St) (H : Hp) (Q : XK) => Q (.ref c) none H) σ H fun cls d H' => E cls d H') es m D m := by
  subst h
  intro σ H H0 ρ hn w e Dn E q
  exact q ρ H H0 [] .refl (by rw [List.append_nil]; exact w)
theorem sx_ifT {a b : XK → TS} {D : Addr} (h : EvB K tt es m true m1) (h1 : SvX K n a es m1 D m2) : SvX K n (fun E => tIfS tt (a E) (b E)) es m D m2 := by
  intro σ H H0 ρ hn w e Dn E q
  refine h σ H H0 ρ w e _ fun H1 H01 s1 w1 => iteT (h1 σ H1 H01 ρ hn w1 (e.mono s1.ex) Dn E fun ρ' H' H0' ml s' w' => q ρ' H' H0' ml (s1.low.trans w1.nd s') w')
theorem sx_ifF {a b : XK → TS} {D : Addr} (h : EvB K tt es m false m1) (h1 : SvX K n b es m1 D m2) : SvX K n (fun E => tIfS tt (a E) (b E)) es m D m2 := by
  intro σ H H0 ρ hn w e Dn E q
  refine h σ H H0 ρ w e _ fun H1 H01 s1 w1 => iteF (h1 σ H1 H01 ρ hn w1 (e.mono s1.ex) Dn E fun ρ' H' H0' ml s' w' => q ρ' H' H0' ml (s1.low.trans w1.nd s') w')
theorem sx_drop {D : Addr} (h : EvX K t es m (.exc D) m1) : SvX K n (fun E => tDrop (t E)) es m D m1 := by
  intro σ H H0 ρ hn w e Dn E q
  exact h σ H H0 ρ w e _ E fun H1 H01 s1 w1 => q ρ H1 H01 [] s1.low (by rw [List.append_nil]; exact w1)
theorem sx_ret {D : Addr} (h : EvX K t es m (.exc D) m1) : SvX K n (fun E => tRet (t E)) es m D m1 := by
  intro σ H H0 ρ hn w e Dn E q
  exact h σ H H0 ρ w e _ E fun H1 H01 s1 w1 => q ρ H1 H01 [] s1.low (by rw [List.append_nil]; exact w1)
/-- the first of two raises -/
theorem sx_fst {a b : XK → TS} {D : Addr} (h : SvX K n a es m D m1) : SvX K n (fun E => tSeq (a E) (b E)) es m D m1 := fun σ H H0 ρ hn w e Dn E q => h σ H H0 ρ hn w e _ E q
theorem sx_snd {a b : XK → TS} {D : Addr} {es1 : List Sl} (h : ∀ E, Sv K n (a E) es m (.nx es1 m1)) (h2 : SvX K n b es1 m1 D m2) : SvX K n (fun E => tSeq (a E) (b E)) es m D m2 := by
  intro σ H H0 ρ hn w e Dn E q
  exact h E σ H H0 ρ hn w e _ fun σ1 ρ1 H1 H01 s1 w1 e1 => h2 σ1 H1 H01 ρ1 (pre_len hn s1) w1 e1 Dn E fun ρ' H' H0' ml s' w' => q ρ' H' H0' ml (s1.trans w1.nd s') w'
end

/-- what a body comes to -/
def BodyR (K : PySem.W.Frag) (n : Nat) (t : XK → TS) (es : List Sl) (m : M) : Res → M → Prop
  | .ok r, m' => (∀ E, Sv K n (t E) es m (.ret r m')) ∨ (r = .d .none ∧ ∃ es', ∀ E, Sv K n (t E) es m (.nx es' m'))
  | .exc D, m' => SvX K n t es m D m'
def Res.plain : Res → Bool
  | .ok r => r.plain
  | .exc _ => true
theorem mkDefX {P : Program} {w : World} {K : PySem.W.Frag} {mg : Str → Option Value} {base : Heap} {x : Str} {st : Stmt} {N ps : List Str} {k : Nat} {g : List Sl → M → Res → M → Prop} (T : DefT K mg x st ps) (S : FnScope N ps (defScope st))
    (hg : ∀ rs m r m', g rs m r m' → m'.length = m.length ∧ r.plain = true)
    (hb : ∀ (f : Addr) (cdv : Value) (A : Around) (outer : List Env) (s : Shared) (H : Hp), Room k (A.deeper (envOfC x (defScope st) s.heap.objs.size f cdv)) →
      ∃ t : XK → TS, (∀ E, PSs (cxOf (L2N.CX P w) P w K mg base N x (defScope st) f cdv A outer s H E) (defBody st) (t E)) ∧ ∀ rs m r m', rs.length = ps.length → g rs m r m' → BodyR K m.length t (rs ++ List.replicate (N.length - rs.length) .no) m r m') :
    DefX P w K mg base (k + 1) x ps g := by
  obtain ⟨f, fd, F, hm, hB⟩ := T.ex
  refine ⟨f, fd, ?_, hm, F.kp, hB⟩
  obtain ⟨oc, od, kV, doc, pm, an, cdv, ct, osl, rfl, lk, hcd⟩ := F.ex
  refine fn_of lk hcd S (fun vs H Q E h => h.1) fun A outer s H vs Q E hr h => ?_
  obtain ⟨t, ht, q⟩ := hb f cdv A outer s H hr
  refine ⟨t E, ht E, ?_⟩
  obtain ⟨hl, H0, ρ, m, rs, r, m', w', kv, hgr, hq⟩ := h
  obtain ⟨hgl, hgp⟩ := hg rs m r m' hgr
  have wb := q rs m r m' (by rw [← kv.length]; exact hl) hgr
  have back : ∀ {ρ' : List Addr} {H' H0' : Hp} {ml : M}, Stp m.length ρ H0 H ρ' H0' H' → Wd K H0' H' ρ' (m' ++ ml) → Stp ρ.length ρ H0 H ρ H0' H' ∧ Wd K H0' H' ρ m' := fun {ρ' H' H0' ml} s' w2 => by
    rw [← w'.len] at s'
    have e : ρ'.take ρ.length = ρ := by rw [s'.pre, List.take_length]
    refine ⟨⟨s'.ex, s'.keep, s'.dom, fun b o z => s'.fresh b o z, rfl, fun b z => .inl z⟩, ⟨w2.ex, by rw [w'.len, hgl], w'.nd, fun j p ds h1 h2 => ?_, w2.tab, w2.nT⟩⟩
    have hj := (List.getElem?_eq_some_iff.mp h2).1
    apply w2.cel j p ds
    · rw [← e, List.getElem?_take_of_lt (by rw [w'.len, ← hgl]; exact hj)] at h1
      exact h1
    · rw [List.getElem?_append_left hj]; exact h2
  have n0 : m.length ≤ ρ.length := by rw [w'.len]; exact Nat.le_refl _
  cases r with
  | exc D => exact wb (L2.start N vs) H H0 ρ n0 w' (start_env kv) _ E fun ρ' H' H0' ml s' w2 => hq H' H0' (back s' w2).1 (back s' w2).2
  | ok r =>
    rcases wb with wb | ⟨rfl, es', wb⟩
    · exact wb E (L2.start N vs) H H0 ρ n0 w' (start_env kv) _ fun v ρ' H' H0' ml s' w2 k2 => hq v H' H0' (back s' w2).1 (back s' w2).2 (slOk_plain hgp k2)
    · exact wb E (L2.start N vs) H H0 ρ n0 w' (start_env kv) _ fun σ' ρ' H' H0' s' w2 e2 => hq .non H' H0' (back (ml := []) s' (by rw [List.append_nil]; exact w2)).1 (back (ml := []) s' (by rw [List.append_nil]; exact w2)).2 .non
end HX

set_option Elab.async false
set_option linter.all false
set_option maxRecDepth 100000
namespace HX
variable [DL.Tbs]
open PySem PySem.Spec PyProof.Rows L2 HotX L2H LamX DL

/-! ### defs of which only this is told: what comes of a good start is good -/
def DefE (P : Program) (w : World) (K : PySem.W.Frag) (mg : Str → Option Value) (base : Heap) (k : Nat) (x : Str) (ps : List Str) (Pre : List Sl → M → Prop) (Post : List Sl → M → Sl → M → Prop) : Prop :=
  ∃ g : List Sl → M → Sl → M → Prop, (∀ rs m, Pre rs m → ∃ r m', g rs m r m' ∧ Post rs m r m') ∧ DefC P w K mg base CX0 k x ps (spD K ps.length g)
theorem mkDefE {P : Program} {w : World} {K : PySem.W.Frag} {mg : Str → Option Value} {base : Heap} {x : Str} {st : Stmt} {N ps : List Str} {k : Nat} {Pre : List Sl → M → Prop} {Post : List Sl → M → Sl → M → Prop} (T : DefT K mg x st ps) (S : FnScope N ps (defScope st))
    (hb : ∃ t, (∀ (f : Addr) (cdv : Value) (A : Around) (outer : List Env) (s : Shared) (H : Hp) (E : XK), Room k (A.deeper (envOfC x (defScope st) s.heap.objs.size f cdv)) → PSs (cxOf CX0 P w K mg base N x (defScope st) f cdv A outer s H E).nox (defBody st) t) ∧
      ∀ rs m, Pre rs m → ∃ r m', Sv K m.length t (rs ++ List.replicate (N.length - rs.length) .no) m (.ret r m') ∧ m'.length = m.length ∧ r.plain = true ∧ Post rs m r m') : DefE P w K mg base (k + 1) x ps Pre Post := by
  obtain ⟨t, ht, q⟩ := hb
  refine ⟨fun rs m r m' => Sv K m.length t (rs ++ List.replicate (N.length - rs.length) .no) m (.ret r m') ∧ m'.length = m.length ∧ r.plain = true, fun rs m h => ?_, ?_⟩
  · obtain ⟨r, m', h1, h2, h3, h4⟩ := q rs m h
    exact ⟨r, m', ⟨h1, h2, h3⟩, h4⟩
  · exact mkDef T S rfl (fun rs m r m' h => h.2) fun f cdv A outer s H E hr => ⟨t, ht f cdv A outer s H E hr, fun rs m r m' _ h => h.1⟩

/-! ### dice -/
/-- there is a die at j -/
def DieAt (m : M) (j : Nat) : Prop := ∃ x c, m[j]? = some [.int x, .int c]
theorem DieAt.set {m : M} {j : Nat} {x c : Int} (h : j < m.length) : DieAt (m.set j [.int x, .int c]) j := ⟨x, c, List.getElem?_set_self h⟩
theorem DieAt.lt {m : M} {j : Nat} (h : DieAt m j) : j < m.length := by
  obtain ⟨x, c, e⟩ := h
  exact (List.getElem?_eq_some_iff.mp e).1
/-- only the die at j has changed -/
def Rolled (m : M) (j : Nat) (m' : M) : Prop := ∃ x c, m' = m.set j [.int x, .int c]
theorem Rolled.refl {m : M} {j : Nat} (h : DieAt m j) : Rolled m j m := by
  obtain ⟨x, c, e⟩ := h
  refine ⟨x, c, ?_⟩
  obtain ⟨h1, h2⟩ := List.getElem?_eq_some_iff.mp e
  rw [← h2, List.set_getElem_self]
theorem Rolled.trans {m m1 m2 : M} {j : Nat} (a : Rolled m j m1) (b : Rolled m1 j m2) : Rolled m j m2 := by
  obtain ⟨x, c, rfl⟩ := a
  obtain ⟨y, d, rfl⟩ := b
  exact ⟨y, d, by rw [List.set_set]⟩
theorem Rolled.die {m m1 : M} {j : Nat} (a : Rolled m j m1) (h : j < m.length) : DieAt m1 j := by
  obtain ⟨x, c, rfl⟩ := a
  exact .set h
theorem Rolled.len {m m1 : M} {j : Nat} (a : Rolled m j m1) : m1.length = m.length := by
  obtain ⟨x, c, rfl⟩ := a
  rw [List.length_set]
theorem Rolled.other {m m1 : M} {j i : Nat} (a : Rolled m j m1) (h : i ≠ j) : m1[i]? = m[i]? := by
  obtain ⟨x, c, rfl⟩ := a
  rw [List.getElem?_set_ne (Ne.symm h)]
theorem Rolled.app {m m1 : M} {j : Nat} (a : Rolled m j m1) (h : j < m.length) (l : M) : Rolled (m ++ l) j (m1 ++ l) := by
  obtain ⟨x, c, rfl⟩ := a
  exact ⟨x, c, by rw [List.set_append_left _ _ h]⟩
section
variable {K : PySem.W.Frag} {es : List Sl} {m m1 : M}
theorem ex_roll {i j : Nat} {n : Int} {te : TE} {E : XK} (hi : es[i]? = some (.c j)) (h : EvE K te es m (.d (.int n)) m) (hd : DieAt m j) (h1 : 0 < n) (h2 : n < 2 ^ 62) :
    ∃ (v : Int) (m' : M), EvE K (tCall (spD K 2 rollG) [] E (tCons (tVar i) (tCons te tNil))) es m (.d (.int v)) m' ∧ 0 ≤ v ∧ v < n ∧ Rolled m j m' := by
  obtain ⟨x, c, e⟩ := hd
  obtain ⟨y, d, ed⟩ := diceM_two (x := x) (c := c) (n := n)
  refine ⟨rollM x c n, m.set j (diceM x c n), ev_call (arg2 (ev_var hi nofun) h) ⟨j, x, c, n, rfl, e, h1, h2, rfl, rfl⟩ rfl, (roll_lt h1).1, (roll_lt h1).2, y, d, by rw [ed]⟩
theorem exR_seq {n : Nat} {t u : TS} {es1 : List Sl} {P : Sl → M → Prop} (h : Sv K n t es m (.nx es1 m1)) (h2 : ∃ r m', Sv K n u es1 m1 (.ret r m') ∧ P r m') : ∃ r m', Sv K n (tSeq t u) es m (.ret r m') ∧ P r m' := by
  obtain ⟨r, m', a, b⟩ := h2
  exact ⟨r, m', sv_seq h a, b⟩
theorem exR_for {n i : Nat} {wi : TI} {tb rest : TS} {ds : List PyData} {P : Sl → M → Prop} (J : Nat → List Sl → M → Prop) (hi : EvI K wi es m ds m1) (h0 : J 0 es m1)
    (st : ∀ (l : Nat) (d : PyData) (es : List Sl) (m : M), ds[l]? = some d → J l es m → ∃ es2 m2, (Sv K n tb (es.set i (.d d)) m (.nx es2 m2) ∨ Sv K n tb (es.set i (.d d)) m (.cnt es2 m2)) ∧ J (l + 1) es2 m2)
    (hd : ∀ es m, J ds.length es m → ∃ r m', Sv K n rest es m (.ret r m') ∧ P r m') : ∃ r m', Sv K n (tSeq (tFor wi (gName i) tb) rest) es m (.ret r m') ∧ P r m' := by
  obtain ⟨es', m', h1, h2⟩ := sv_forIe (n := n) (i := i) (tb := tb) J hi h0 st
  exact exR_seq h1 (hd es' m' h2)
theorem exR_ifT {n : Nat} {tt : TT} {a b u : TS} {P : Sl → M → Prop} (h : EvB K tt es m true m1) (h1 : ∃ r m', Sv K n (tSeq a u) es m1 (.ret r m') ∧ P r m') : ∃ r m', Sv K n (tSeq (tIfS tt a b) u) es m (.ret r m') ∧ P r m' := by
  obtain ⟨r, m', x, y⟩ := h1
  exact ⟨r, m', sv_ifs h (fun _ => x) (fun z => nomatch z), y⟩
theorem exR_ifF {n : Nat} {tt : TT} {a b u : TS} {P : Sl → M → Prop} (h : EvB K tt es m false m1) (h1 : ∃ r m', Sv K n (tSeq b u) es m1 (.ret r m') ∧ P r m') : ∃ r m', Sv K n (tSeq (tIfS tt a b) u) es m (.ret r m') ∧ P r m' := by
  obtain ⟨r, m', x, y⟩ := h1
  exact ⟨r, m', sv_ifs h (fun z => nomatch z) (fun _ => x), y⟩
theorem exLc {i : Nat} {vs : List Nat} {esw : List Sl} {te : TE} {J : M → Prop} {G : PyData → Prop} (hi : i ∈ vs) : ∀ (ds : List PyData) (m : M), J m → (∀ d m, d ∈ ds → J m → ∃ r m', EvE K te (esw.set i (.d d)) m (.d r) m' ∧ G r ∧ J m') →
    ∃ rs m', LcR K (gName i) tYes te esw vs ds m rs m' ∧ rs.length = ds.length ∧ (∀ r, r ∈ rs → G r) ∧ J m'
  | [], m, h0, _ => ⟨[], m, .nil, rfl, by simp, h0⟩
  | d :: ds, m, h0, st => by
    obtain ⟨r, m1, e1, g1, j1⟩ := st d m List.mem_cons_self h0
    obtain ⟨rs, m2, l2, n2, g2, j2⟩ := exLc hi ds m1 j1 fun d m hd => st d m (List.mem_cons_of_mem _ hd)
    refine ⟨r :: rs, m2, .yes gv_name (fun j hj => by rw [List.mem_singleton.mp hj]; exact hi) eb_yes e1 l2, by rw [List.length_cons, List.length_cons, n2], fun x hx => ?_, j2⟩
    rcases List.mem_cons.mp hx with h | h
    · rw [h]; exact g1
    · exact g2 x h
/-- tuple(x), x a cell -/
theorem ev_tupC {i j : Nat} {ds : List PyData} (hi : es[i]? = some (.c j)) (hm : m[j]? = some ds) :
    EvE K (tCB (fun xs H Q => ∃ p ys, xs = [V.ref p] ∧ ((SqL K H p ys ∧ ∀ l, H l = none → Q (.ref l) (upd H l (.tup ys))) ∨ (SqT K H p ys ∧ Q (.ref p) H))) (tCons (tVar i) tNil)) es m (.d (.tuple ds)) m := by
  intro σ H H0 ρ w e Q q
  rcases e.2 i _ hi with z | ⟨v, h1, p, rfl, h2⟩
  · cases z
  obtain ⟨vs, g1, g2⟩ := cell_get w h2 hm
  refine ⟨_, h1, p, vs, rfl, .inl ⟨.inl (.inl g1), fun l hl => ?_⟩⟩
  obtain ⟨w2, s2⟩ := w.new (n := ρ.length) (o := .tup vs) hl
  exact q _ _ _ s2 w2 (Dp.tup (.inl (.inl upd_same)) (dpAll_mono s2.ex g2))
theorem app_at {a : List PyData} : (m ++ [a])[m.length]? = some a := last_get
/-! ### while -/
inductive WhR (K : PySem.W.Frag) (n : Nat) (c : TT) (tb : TS) : Nat → List Sl → M → List Sl → M → Prop
  | stop {es : List Sl} {m m1 : M} : EvB K c es m false m1 → WhR K n c tb 0 es m es m1
  | go {k : Nat} {es es2 es3 : List Sl} {m m1 m2 m3 : M} : EvB K c es m true m1 → Sv K n tb es m1 (.nx es2 m2) → WhR K n c tb k es2 m2 es3 m3 → WhR K n c tb (k + 1) es m es3 m3
theorem sv_while {n k : Nat} {c : TT} {tb : TS} {es' : List Sl} {m' : M} (h : WhR K n c tb k es m es' m') : Sv K n (tWhile c tb) es m (.nx es' m') := by
  intro σ H H0 ρ hn w e D q
  refine ⟨fun k2 σ2 H2 => ∃ es2 m2 ρ2 H02, WhR K n c tb k2 es2 m2 es' m' ∧ Stp n ρ H0 H ρ2 H02 H2 ∧ Wd K H02 H2 ρ2 m2 ∧ EnvS K H02 ρ2 σ2 es2, ⟨k, es, m, ρ, H0, h, .refl, w, e⟩, ?_⟩
  rintro k2 σ2 H2 ⟨es2, m2, ρ2, H02, r, s2, w2, e2⟩
  cases r with
  | stop hb => exact hb σ2 H2 H02 ρ2 w2 e2 _ fun H3 H03 s3 w3 => iteF (q σ2 ρ2 H3 H03 (s2.trans w2.nd s3.low) w3 (e2.mono s3.ex))
  | @go k3 _ es4 _ _ m3 m4 _ hb ht hr =>
    refine hb σ2 H2 H02 ρ2 w2 e2 _ fun H3 H03 s3 w3 => iteT ⟨fun σ' H' => ∃ ρ4 H04, Stp n ρ H0 H ρ4 H04 H' ∧ Wd K H04 H' ρ4 m4 ∧ EnvS K H04 ρ4 σ' es4, ?_, ?_⟩
    · rintro σ' H' ⟨ρ4, H04, s4, w4, e4⟩
      exact ⟨k3, Nat.lt_succ_self _, es4, m4, ρ4, H04, hr, s4, w4, e4⟩
    · exact ht σ2 H3 H03 ρ2 (pre_len hn s2) w3 (e2.mono s3.ex) _ fun σ4 ρ4 H4 H04 s4 w4 e4 => ⟨ρ4, H04, (s2.trans w2.nd s3.low).trans w3.nd s4, w4, e4⟩
end
end HX

set_option Elab.async false
set_option linter.all false
set_option maxRecDepth 100000
namespace SX
variable [DL.Tbs]
open PySem PySem.Spec PyProof.Rows L2 HotX L2H LamX DL HX
section
variable {X : Cx} {K : PySem.W.Frag}
theorem kJoin (h : X.K = K := by rfl) : MtR X "str.join" (fun x xs H Q => ∃ a p, ∃ ys : List Str, x = .str a ∧ xs = [.ref p] ∧ (SqL K H p (ys.map V.str) ∨ SqT K H p (ys.map V.str)) ∧ (ys.map (·.length)).sum + ys.length * a.length ≤ 16777216 ∧ Q (.str (Txt.join a ys)) H) := h ▸ mt_join
def rSlU (K : PySem.W.Frag) : V → Option Int → Option Int → Hp → VK → Prop := fun x lo hi H Q => rSlA K x lo hi H Q ∨ rSlS x lo hi H Q
theorem kSlU (h : X.K = K := by rfl) : SlR X (rSlU K) := h ▸ sl_tupA.or sl_str
def rAddV (K : PySem.W.Frag) : R2 := fun x y H Q => rAddU K x y H Q ∨ ∃ i j, x = .str i ∧ y = .str j ∧ i.length + j.length ≤ sizeLine ∧ Q (.str (i ++ j)) H
theorem kAddV (h : X.K = K := by rfl) : OpR X (binaryOp .Add) (rAddV K) := h ▸ opOr op_addU op_add_str
def rMulS : R2 := fun x y H Q => ∃ (z : Str) (n : Int), x = .str z ∧ y = .int n ∧ MulOk z n ∧ Q (.str (Txt.mul z n)) H
theorem op_mulS : OpR X (binaryOp .Mult) rMulS := by
  intro pins s σ H x y v u Q I rx ry h
  obtain ⟨z, n, rfl, rfl, hok, q⟩ := h
  obtain ⟨t, rfl⟩ := rx
  obtain ⟨t', rfl⟩ := ry
  exact PySem.SB.mul hok fun t' k => ⟨.str (Txt.mul z n), H, I.tok _, ⟨t', rfl⟩, q⟩
def rMulV (K : PySem.W.Frag) : R2 := fun x y H Q => rMulU K x y H Q ∨ rMulS x y H Q
theorem kMulV (h : X.K = K := by rfl) : OpR X (binaryOp .Mult) (rMulV K) := h ▸ opOr op_mulU op_mulS
def rNotIn1 : R2 := fun x y H Q => ∃ (c : Nat) (z : Str), x = .str ⟨#[c]⟩ ∧ y = .str z ∧ Q (.bl (!decide (c ∈ z.cps.toList))) H
theorem op_notIn1 : OpR X (compareOp .NotIn) rNotIn1 := op_notIn_sign
theorem kLstG {es : List Expr} {k : Nat} {t : TGs} {n : Nat} {pos : Pos} (hc : X.calm = true) (h : PGs X es t)
    (hn : (assignEach es X.env).length = n := by rfl) (hst : (assignEach es X.env).findIdx? (·.1) = none := by rfl) (hK : X.K = K := by rfl) : PG X (.Tuple es k pos) (gLst K n t) := hK ▸ pg_lst hc h hn hst
end
section
variable {K : PySem.W.Frag} {te ta : TE} {tr : TA} {es : List Sl} {m m1 m2 : M}
theorem dp_strsL {H0 : Hp} : ∀ ys : List Str, DpAll K H0 (ys.map V.str) (ys.map .str)
  | [] => .nil
  | y :: ys => .cons (.str y) (dp_strsL ys)
theorem strs_v {H0 : Hp} : ∀ {vs : List V} {ys : List Str}, DpAll K H0 vs (ys.map .str) → vs = ys.map V.str
  | _, [], h => by cases h; rfl
  | _, y :: ys, h => by
    cases h with
    | cons a t =>
      cases a
      rw [strs_v t]
      rfl
/-- a method of a text -/
theorem ev_bmS {r : V → List V → Hp → VK → Prop} {a : Str} {rs : List Sl} {z : PyData} (h : EvE K te es m (.d (.str a)) m1) (ha : EvA K tr es m1 rs m2) (hr : OpC K (fun vs H Q => r (.str a) vs H Q) rs z) : EvE K (tBM K "str" r te tr) es m (.d z) m2 := by
  intro σ H H0 ρ w e Q q
  refine h σ H H0 ρ w e _ fun v H1 H01 s1 w1 k1 => ?_
  have k1 : Dp K H01 v (.str a) := k1
  cases k1
  refine ⟨rfl, ha σ H1 H01 ρ w1 (e.mono s1.ex) _ fun vs H2 H02 s2 w2 kv => hr H02 H2 ρ w2.ex vs kv _ fun u H' H0' e1 e2 e3 fr kz => ?_⟩
  obtain ⟨w3, s3⟩ := w2.grow (n := ρ.length) e1 e2 e3 fr
  exact q u H' H0' ((s1.trans w1.nd s2).trans w2.nd s3) w3 kz
theorem newStrs {H0 H : Hp} {ys : List Str} {Q : VK} (ex : Evl.Ex H0 H) (q : ∀ u H' H0', Evl.Ex H0 H0' → Evl.Ex H0' H' → Evl.Ex H H' → (∀ b o, H0' b = some o → H0 b = some o ∨ H b = none) → Dp K H0' u (.list (ys.map .str)) → Q u H') : rNewStrs ys H Q :=
  fun p hp => newL ex hp (dp_strsL ys) q
theorem one_str {H0 : Hp} {ρ : List Addr} {vs : List V} {b : Str} (k : SlAll K H0 ρ vs [.d (.str b)]) : vs = [.str b] := by
  cases k with
  | cons a t =>
    cases t
    have a : Dp K H0 _ (.str b) := a
    cases a
    rfl
theorem c_split {a b : Str} (hb : (b.length == 0) = false) (hl : a.length + 2 ≤ sizeLine) : OpC K (fun vs H Q => (fun x xs H Q => ∃ a b, x = V.str a ∧ xs = [V.str b] ∧ (b.length == 0) = false ∧ a.length + 2 ≤ sizeLine ∧ rNewStrs (Txt.split a b) H Q) (.str a) vs H Q) [.d (.str b)] (.list ((Txt.split a b).map .str)) := fun H0 H ρ ex vs k Q q => by
  rw [one_str k]
  exact ⟨a, b, rfl, rfl, hb, hl, newStrs ex q⟩
theorem c_splitMax {a b : Str} {k : Int} (hb : (b.length == 0) = false) (h1 : -(2 ^ 63) ≤ k) (h2 : k < 2 ^ 63) (hl : a.length + 2 ≤ sizeLine) : OpC K (fun vs H Q => (fun x xs H Q => ∃ (a b : Str) (k : Int), x = V.str a ∧ xs = [V.str b, V.int k] ∧ (b.length == 0) = false ∧ -(2 ^ 63) ≤ k ∧ k < 2 ^ 63 ∧ a.length + 2 ≤ sizeLine ∧ rNewStrs (Txt.splitMax a b k) H Q) (.str a) vs H Q) [.d (.str b), .d (.int k)] (.list ((Txt.splitMax a b k).map .str)) := fun H0 H ρ ex vs kv Q q => by
  cases kv with
  | cons x t =>
    cases t with
    | cons y t =>
      cases t
      have x : Dp K H0 _ (.str b) := x
      have y : Dp K H0 _ (.int k) := y
      cases x
      cases y
      exact ⟨a, b, k, rfl, rfl, hb, h1, h2, hl, newStrs ex q⟩
theorem c_partition {a b : Str} (hb : (b.length == 0) = false) (hl : a.length ≤ sizeLine) : OpC K (fun vs H Q => (fun x xs H Q => ∃ a b, x = V.str a ∧ xs = [V.str b] ∧ (b.length == 0) = false ∧ a.length ≤ sizeLine ∧ ∀ p, H p = none → Q (.ref p) (upd H p (.tup [.str (Txt.partition a b).1, .str (Txt.partition a b).2.1, .str (Txt.partition a b).2.2]))) (.str a) vs H Q) [.d (.str b)]
    (.tuple [.str (Txt.partition a b).1, .str (Txt.partition a b).2.1, .str (Txt.partition a b).2.2]) := fun H0 H ρ ex vs k Q q => by
  rw [one_str k]
  exact ⟨a, b, rfl, rfl, hb, hl, fun p hp => newT ex hp (.cons (.str _) (.cons (.str _) (.cons (.str _) .nil))) q⟩
theorem c_join {a : Str} {ys : List Str} (hl : (ys.map (·.length)).sum + ys.length * a.length ≤ 16777216) : OpC K (fun vs H Q => (fun x xs H Q => ∃ a p, ∃ ys : List Str, x = V.str a ∧ xs = [V.ref p] ∧ (SqL K H p (ys.map V.str) ∨ SqT K H p (ys.map V.str)) ∧ (ys.map (·.length)).sum + ys.length * a.length ≤ 16777216 ∧ Q (.str (Txt.join a ys)) H) (.str a) vs H Q) [.d (.list (ys.map .str))] (.str (Txt.join a ys)) := fun H0 H ρ ex vs k Q q => by
  cases k with
  | cons x t =>
    cases t
    have x : Dp K H0 _ (.list (ys.map .str)) := x
    cases x with
    | lst hs ha =>
      rw [strs_v ha] at hs
      exact ⟨a, _, ys, rfl, rfl, .inl (Evl.ex_l ex hs), hl, here ex (.str _) q⟩
theorem c_ends {a b : Str} : OpC K (fun vs H Q => (fun x xs H Q => ∃ a b, x = V.str a ∧ xs = [V.str b] ∧ Q (.bl (Txt.endswith a b)) H) (.str a) vs H Q) [.d (.str b)] (.bool (Txt.endswith a b)) := fun H0 H ρ ex vs k Q q => by
  rw [one_str k]
  exact ⟨a, b, rfl, rfl, here ex (.bl _) q⟩
theorem c_starts {a b : Str} : OpC K (fun vs H Q => (fun x xs H Q => ∃ a b, x = V.str a ∧ xs = [V.str b] ∧ Q (.bl (Txt.startswith a b)) H) (.str a) vs H Q) [.d (.str b)] (.bool (Txt.startswith a b)) := fun H0 H ρ ex vs k Q q => by
  rw [one_str k]
  exact ⟨a, b, rfl, rfl, here ex (.bl _) q⟩
theorem c_count {a b : Str} : OpC K (fun vs H Q => (fun x xs H Q => ∃ a b, x = V.str a ∧ xs = [V.str b] ∧ Q (.int (Txt.count a b)) H) (.str a) vs H Q) [.d (.str b)] (.int (Txt.count a b)) := fun H0 H ρ ex vs k Q q => by
  rw [one_str k]
  exact ⟨a, b, rfl, rfl, here ex (.int _) q⟩
theorem c_prefix {a b : Str} (hl : a.length ≤ sizeLine) : OpC K (fun vs H Q => (fun x xs H Q => ∃ a b, x = V.str a ∧ xs = [V.str b] ∧ a.length ≤ sizeLine ∧ Q (.str (Txt.removeprefix a b)) H) (.str a) vs H Q) [.d (.str b)] (.str (Txt.removeprefix a b)) := fun H0 H ρ ex vs k Q q => by
  rw [one_str k]
  exact ⟨a, b, rfl, rfl, hl, here ex (.str _) q⟩
theorem c_strI {i : Int} (h : i.natAbs.log2 < 1920) : OpC K (fun xs H Q => ∃ i, xs = [V.int i] ∧ i.natAbs.log2 < 1920 ∧ Q (.str (toString i)) H) [.d (.int i)] (.str (toString i)) := fun H0 H ρ ex vs k Q q => by
  cases k with
  | cons x t =>
    cases t
    have x : Dp K H0 _ (.int i) := x
    cases x
    exact ⟨i, rfl, h, here ex (.str _) q⟩
theorem c_intS {a : Str} {n : Int} (h : PySem.intText? a = some n) (hl : a.length ≤ 640) : OpC K (fun xs H Q => ∃ a n, xs = [V.str a] ∧ PySem.intText? a = some n ∧ a.length ≤ 640 ∧ Q (.int n) H) [.d (.str a)] (.int n) := fun H0 H ρ ex vs k Q q => by
  rw [one_str k]
  exact ⟨a, n, rfl, h, hl, here ex (.int n) q⟩
theorem o_addS {x y : Str} (h : x.length + y.length ≤ sizeLine) : Op2 K (rAddV K) (.str x) (.str y) (.str (x ++ y)) := o_orR fun H0 H ex v w kv kw Q q => by
  cases kv
  cases kw
  exact ⟨x, y, rfl, rfl, h, here ex (.str _) q⟩
theorem o_addVI {i j : Int} : Op2 K (rAddV K) (.int i) (.int j) (.int (i + j)) := o_orL o_addI
theorem o_addVT {xs ys : List PyData} (hl : xs.length + ys.length ≤ 1000) : Op2 K (rAddV K) (.tuple xs) (.tuple ys) (.tuple (xs ++ ys)) := o_orL (o_addT hl)
theorem o_mulS {x : Str} {n : Int} (h : MulOk x n) : Op2 K (rMulV K) (.str x) (.int n) (.str (Txt.mul x n)) := o_orR fun H0 H ex v w kv kw Q q => by
  cases kv
  cases kw
  exact ⟨x, n, rfl, rfl, h, here ex (.str _) q⟩
theorem o_notIn1 {c : Nat} {z : Str} : Op2 K rNotIn1 (.str ⟨#[c]⟩) (.str z) (.bool (!decide (c ∈ z.cps.toList))) := fun H0 H ex v w kv kw Q q => by
  cases kv
  cases kw
  exact ⟨c, z, rfl, rfl, here ex (.bl _) q⟩
theorem o_ixS {z : Str} {i : Int} {c : Nat} (hl : z.length ≤ sizeLine) (h : atI z.cps.toList i = some c) : Op2 K (rIx K) (.str z) (.int i) (.str ⟨#[c]⟩) := fun H0 H ex v w kv kw Q q => by
  cases kv
  cases kw
  exact .inr (.inr ⟨z, i, c, rfl, rfl, hl, h, here ex (.str _) q⟩)
theorem ev_slS {z : Str} {lo hi : Option Int} {tl th : TO} (h : EvE K te es m (.d (.str z)) m1) (hl : EvO K tl es m1 lo m2) {m3 : M} (hh : EvO K th es m2 hi m3) (hz : z.length ≤ sizeLine) : EvE K (tSl (rSlU K) te tl th) es m (.d (.str (cutS z lo hi))) m3 := fun σ H H0 ρ w e Q q =>
  h σ H H0 ρ w e _ fun v H1 H01 s1 w1 k1 => hl σ H1 H01 ρ w1 (e.mono s1.ex) _ fun H2 H02 s2 w2 => hh σ H2 H02 ρ w2 (e.mono (s1.ex.trans s2.ex)) _ fun H3 H03 s3 w3 => by
    have k1 : Dp K H01 v (.str z) := k1
    cases k1
    exact .inr ⟨z, rfl, hz, q _ H3 H03 ((s1.trans w1.nd s2).trans w2.nd s3) w3 (.str _)⟩
theorem ev_slT {xs : List PyData} {lo hi : Option Int} {tl th : TO} (h : EvE K te es m (.d (.tuple xs)) m1) (hl : EvO K tl es m1 lo m2) {m3 : M} (hh : EvO K th es m2 hi m3) : EvE K (tSl (rSlU K) te tl th) es m (.d (.tuple (DL.cutD xs lo hi))) m3 := fun σ H H0 ρ w e Q q =>
  h σ H H0 ρ w e _ fun v H1 H01 s1 w1 k1 => hl σ H1 H01 ρ w1 (e.mono s1.ex) _ fun H2 H02 s2 w2 => hh σ H2 H02 ρ w2 (e.mono (s1.ex.trans s2.ex)) _ fun H3 H03 s3 w3 => by
    have s4 := (s1.trans w1.nd s2).trans w2.nd s3
    have k1 : Dp K H01 v (.tuple xs) := k1
    cases dp_mono (s2.ex.trans s3.ex) k1 with
    | @tup _ vs _ hs hd =>
      have hl := dpAll_len hd
      refine .inl ⟨_, _, rfl, Evl.ex_t w3.ex hs, fun hw => ?_, fun hw p hp => ?_⟩
      · have e : DL.cutD xs lo hi = xs := by
          unfold DL.cutD
          rw [← hl, hw.1, hw.2, Nat.sub_zero, List.drop_zero, hl, List.take_length]
        rw [e] at q
        exact q _ H3 H03 s4 w3 (.tup hs hd)
      · have hc : DpAll K H03 (cutV vs lo hi) (DL.cutD xs lo hi) := by
          unfold cutV DL.cutD
          rw [hl]
          exact dpAll_take _ (dpAll_drop _ hd)
        obtain ⟨w5, s5⟩ := w3.new (n := ρ.length) (o := .tup (cutV vs lo hi)) hp
        exact q _ _ _ (s4.trans w3.nd s5) w5 (.tup (.inl (.inl upd_same)) (dpAll_mono s5.ex hc))
theorem ev_fmt {y : Str} (h : EvE K te es m (.d (.str y)) m1) (hl : y.length ≤ sizeLine) : EvE K (tFmt te) es m (.d (.str y)) m1 := fun σ H H0 ρ w e Q q =>
  h σ H H0 ρ w e _ fun v H1 H01 s1 w1 k1 => by
    have k1 : Dp K H01 v (.str y) := k1
    cases k1
    exact .inl ⟨y, rfl, hl, q _ H1 H01 s1 w1 (.str y)⟩
/-- the parts of an f-string -/
inductive EvJ (K : PySem.W.Frag) (es : List Sl) (m : M) : List TE → List Str → Prop
  | nil : EvJ K es m [] []
  | cons {t : TE} {ts : List TE} {y : Str} {ys : List Str} : EvE K t es m (.d (.str y)) m → EvJ K es m ts ys → EvJ K es m (t :: ts) (y :: ys)
theorem ev_fs {ts : List TE} {ys : List Str} (h : EvJ K es m ts ys) : ∀ (acc : Str), acc.length + (ys.map (·.length)).sum ≤ sizeLine → EvE K (fun σ H Q => tJs ts acc σ H fun out H1 => Q (.str out) H1) es m (.d (.str (ys.foldl (· ++ ·) acc))) m := by
  induction h with
  | nil => intro acc hl σ H H0 ρ w e Q q; exact q _ H H0 .refl w (.str _)
  | @cons t ts y ys h1 _ ih =>
    intro acc hl σ H H0 ρ w e Q q
    have hl' : acc.length + (y.length + (ys.map (·.length)).sum) ≤ sizeLine := by simpa using hl
    have hay : (acc ++ y).length = acc.length + y.length := by
      rw [TL.len_tl, TL.tl_append, List.length_append, ← TL.len_tl, ← TL.len_tl]
    refine h1 σ H H0 ρ w e _ fun v H1 H01 s1 w1 k1 => ?_
    have k1 : Dp K H01 v (.str y) := k1
    cases k1
    exact ⟨y, rfl, by rw [hay]; omega, ih (acc ++ y) (by rw [hay]; omega) σ H1 H01 ρ w1 (e.mono s1.ex) Q fun v H2 H02 s2 w2 k2 => q v H2 H02 (s1.trans w1.nd s2) w2 k2⟩
theorem gv_lst {n : Nat} {gs : TGs} {is : List Nat} {ds : List PyData} {es1 : List Sl} (h : Gvs K gs is ds es es1) (hn : ds.length = n) : Gv K (gLst K n gs) is (.d (.list ds)) es es1 := fun σ H H0 ρ v ex e k Q q => by
  cases k with
  | lst hs hd => exact ⟨_, _, rfl, Evl.ex_l ex hs, by rw [dpAll_len hd]; exact hn, h σ H H0 ρ _ ex e hd Q q⟩
end
end SX

set_option Elab.async false
set_option linter.all false
set_option maxRecDepth 100000
namespace SX
variable [DL.Tbs]
open PySem PySem.Spec PyProof.Rows L2 HotX L2H LamX DL HX TX
/-! ### one class of errors; values by data -/
def resO (D : Addr) : Option PyData → Res
  | some y => .ok (.d y)
  | none => .exc D
def ExF (K : PySem.W.Frag) (t : VK → XK → L2.St → Hp → Prop) (es : List Sl) (m : M) (D : Addr) : Prop := True
section
variable {K : PySem.W.Frag} {es : List Sl} {m : M} {D : Addr}
theorem x_ok {t : XK → TE} {y : PyData} (h : ∀ E, EvE K (t E) es m (.d y) m) : EvX K t es m (resO D (some y)) m := h
theorem ev_castX {t : XK → TE} {o o2 : Option PyData} (h : EvX K t es m (resO D o) m) (e : o = o2) : EvX K t es m (resO D o2) m := e ▸ h
/-- items of a display, or an error -/
def EaX (K : PySem.W.Frag) (D : Addr) (t : XK → TA) (es : List Sl) (m : M) : Option (List PyData) → Prop
  | some ds => ∀ E, EvA K (t E) es m (ds.map .d) m
  | none => ∀ σ H H0 ρ, Wd K H0 H ρ m → EnvS K H0 ρ σ es → ∀ (Q : List V → Hp → Prop) (E : XK), (∀ H' H0', Stp ρ.length ρ H0 H ρ H0' H' → Wd K H0' H' ρ m → E (.ref D) none H') → t E σ H Q
theorem eax_nil : EaX K D (fun _ => tNil) es m (some []) := fun _ => ea_nil
def consO : Option PyData → Option (List PyData) → Option (List PyData)
  | some y, some ys => some (y :: ys)
  | _, _ => none
theorem eax_cons {a : XK → TE} {t : XK → TA} {o1 : Option PyData} {o2 : Option (List PyData)} (h1 : EvX K a es m (resO D o1) m) (h2 : EaX K D t es m o2) : EaX K D (fun E => tCons (a E) (t E)) es m (consO o1 o2) := by
  cases o1 with
  | none => exact fun σ H H0 ρ w e Q E q => h1 σ H H0 ρ w e _ E q
  | some y =>
    cases o2 with
    | none => exact fun σ H H0 ρ w e Q E q => h1 E σ H H0 ρ w e _ fun v H1 H01 s1 w1 k1 => h2 σ H1 H01 ρ w1 (e.mono s1.ex) _ E fun H' H0' s' w' => q H' H0' (s1.trans w1.nd s') w'
    | some ys => exact fun E => ea_cons (h1 E) (h2 E)
theorem x_tup {t : XK → TA} {o : Option (List PyData)} (h : EaX K D t es m o) (hl : ∀ ds, o = some ds → ds.length ≤ 1000) : EvX K (fun E => tTup (t E)) es m (resO D (o.map .tuple)) m := by
  cases o with
  | none => exact fun σ H H0 ρ w e Q E q => h σ H H0 ρ w e _ E q
  | some ds => exact fun E => ev_tup (h E) rfl (hl ds rfl)
theorem x_ifT {tt : TT} {a b : XK → TE} {r : Res} (h : EvB K tt es m true m) (h1 : EvX K a es m r m) : EvX K (fun E => tIf tt (a E) (b E)) es m r m := by
  cases r with
  | ok r => exact fun E => ev_ifT h (h1 E)
  | exc D => exact fun σ H H0 ρ w e Q E q => h σ H H0 ρ w e _ fun H1 H01 s1 w1 => iteT (h1 σ H1 H01 ρ w1 (e.mono s1.ex) Q E fun H' H0' s' w' => q H' H0' (s1.trans w1.nd s') w')
theorem x_ifF {tt : TT} {a b : XK → TE} {r : Res} (h : EvB K tt es m false m) (h1 : EvX K b es m r m) : EvX K (fun E => tIf tt (a E) (b E)) es m r m := by
  cases r with
  | ok r => exact fun E => ev_ifF h (h1 E)
  | exc D => exact fun σ H H0 ρ w e Q E q => h σ H H0 ρ w e _ fun H1 H01 s1 w1 => iteF (h1 σ H1 H01 ρ w1 (e.mono s1.ex) Q E fun H' H0' s' w' => q H' H0' (s1.trans w1.nd s') w')
theorem sx_asg {n : Nat} {t : XK → TE} {g : XK → TG} (h : EvX K t es m (.exc D) m) : SvX K n (fun E => tAsg (t E) (g E)) es m D m := by
  intro σ H H0 ρ hn w e Dn E q
  exact h σ H H0 ρ w e _ E fun H1 H01 s1 w1 => q ρ H1 H01 [] s1.low (by rw [List.append_nil]; exact w1)
/-! ### pure defs that may raise D -/
def xG (D : Addr) (R : List PyData → Option PyData → Prop) : List Sl → M → Res → M → Prop := fun rs m res m' => m' = m ∧ ∃ ds o, rs = ds.map .d ∧ R ds o ∧ res = resO D o
def BodyO (K : PySem.W.Frag) (D : Addr) (n : Nat) (t : XK → TS) (es : List Sl) (m : M) : Option PyData → Prop
  | some y => ∀ E, Sv K n (t E) es m (.ret (.d y) m)
  | none => SvX K n t es m D m
theorem x_call {R : List PyData → Option PyData → Prop} {n : Nat} {ta : TA} {rs : List Sl} {ds : List PyData} {o : Option PyData} (h : EvA K ta es m rs m) (e : rs = ds.map .d) (hR : R ds o) (hn : ds.length = n) : EvX K (fun E => tCall (spX K n (xG D R)) [] E ta) es m (resO D o) m := by
  subst e
  have hn' : (ds.map Sl.d).length = n := by rw [List.length_map]; exact hn
  cases o with
  | none => exact ex_call h ⟨rfl, ds, none, rfl, hR, rfl⟩ hn'
  | some y => exact fun E => ok_call h ⟨rfl, ds, some y, rfl, hR, rfl⟩ hn'
end
abbrev PureX (P : Program) (w : World) (K : PySem.W.Frag) (mg : Str → Option Value) (base : Heap) (D : Addr) (k : Nat) (x : Str) (ps : List Str) (R : List PyData → Option PyData → Prop) : Prop := DefX P w K mg base k x ps (xG D R)
theorem mkPureX {P : Program} {w : World} {K : PySem.W.Frag} {mg : Str → Option Value} {base : Heap} {D : Addr} {x : Str} {st : Stmt} {N ps : List Str} {k : Nat} {R : List PyData → Option PyData → Prop} (T : DefT K mg x st ps) (S : FnScope N ps (defScope st))
    (hb : ∀ (f : Addr) (cdv : Value) (A : Around) (outer : List Env) (s : Shared) (H : Hp), Room k (A.deeper (envOfC x (defScope st) s.heap.objs.size f cdv)) →
      ∃ t : XK → TS, (∀ E, PSs (cxOf (L2N.CX P w) P w K mg base N x (defScope st) f cdv A outer s H E) (defBody st) (t E)) ∧ ∀ ds m o, ds.length = ps.length → R ds o → BodyO K D m.length t (ds.map .d ++ List.replicate (N.length - ds.length) .no) m o) : PureX P w K mg base D (k + 1) x ps R := by
  refine mkDefX T S (fun rs m r m' h => ?_) fun f cdv A outer s H hr => ?_
  · obtain ⟨rfl, ds, o, rfl, _, rfl⟩ := h
    refine ⟨rfl, ?_⟩
    cases o <;> rfl
  · obtain ⟨t, h1, h2⟩ := hb f cdv A outer s H hr
    refine ⟨t, h1, ?_⟩
    rintro rs m r m' hl ⟨rfl, ds, o, rfl, hR, rfl⟩
    rw [List.length_map] at hl ⊢
    have q := h2 ds m' o hl hR
    cases o with
    | none => exact q
    | some y => exact .inl q
/-- such a def that is not called -/
theorem neverX {P : Program} {w : World} {K : PySem.W.Frag} {mg : Str → Option Value} {base : Heap} {D : Addr} {x : Str} {st : Stmt} {ps : List Str} (T : DefT K mg x st ps) : PureX P w K mg base D 0 x ps (fun _ _ => False) := by
  obtain ⟨f, fd, F, hm, hB⟩ := T.ex
  refine ⟨f, fd, ⟨fun vs H Q E h => h.1, fun A outer s H args us vs Q E hr he hb hv h => ?_⟩, hm, F.kp, hB⟩
  obtain ⟨_, _, _, _, _, _, _, _, _, ⟨_, _, _, _, h, _⟩, _⟩ := h
  exact h.elim
section
variable {K : PySem.W.Frag} {es : List Sl} {m m1 m2 : M} {D : Addr} {te : TE} {tt : TT}
/-- el_lc for long lists -/
theorem el_lcB {wi : TI} {g : TG} {vs : List Nat} {ds rs : List PyData} (hi : EvI K wi es m ds m1) (h : LcR K g tt te (wipeS es vs) vs ds m1 rs m2) (hl : ds.length < sizeLine) : EvL K (tLc wi g tt te vs) es m rs m2 := fun σ H H0 ρ w e Q q =>
  hi σ H H0 ρ w e _ fun J H1 H01 s1 w1 it => fun D hD => by
    have hD0 : H D = none := s1.dom D hD
    have hDρ : D ∉ ρ := w1.notin hD
    refine ⟨fun i k H2 => k = ds.length - i ∧ i ≤ ds.length ∧ ∃ acc va rs1 m3 H02, rs = acc ++ rs1 ∧ acc.length ≤ i ∧ LcR K g tt te (wipeS es vs) vs (ds.drop i) m3 rs1 m2 ∧ Stp ρ.length ρ H0 H ρ H02 H2 ∧ Wd K H02 H2 ρ m3 ∧ EnvS K H02 ρ σ es ∧ ItOk K J H02 ds ∧ H02 D = none ∧ H2 D = some (.lst va) ∧ DpAll K H02 va acc,
      ⟨ds.length, by omega, Nat.zero_le _, [], [], rs, m1, H01, rfl, Nat.le_refl _, h, s1.off hD0, w1.off (Evl.fresh_back w1.ex hD) hDρ (.inl hD), e.mono s1.ex, it, Evl.fresh_back w1.ex hD, upd_same, .nil⟩, fun i k H2 hW => ?_⟩
    obtain ⟨rfl, hle, acc, va, rs1, m3, H02, er, hacc, fr, s2, w2, e2, it2, d0, d2, da⟩ := hW
    obtain ⟨g1, g2, g3⟩ := it2 i H2 w2.ex
    by_cases hlt : i < ds.length
    · refine .inr ⟨g1 hlt, ?_⟩
      have hd : ds[i]? = some ds[i] := List.getElem?_eq_getElem hlt
      rw [drop_cons hd] at fr
      have fin : ∀ {x H'}, J.yld i H2 x H' → H' = H2 ∧ Dp K H02 x ds[i] := fun {x H'} y => by
        obtain ⟨e1, d, q1, q2⟩ := g3 x H' hlt y
        rw [hd] at q1
        cases q1
        exact ⟨e1, q2⟩
      have hvl := dpAll_len da
      cases fr with
      | @yes _ _ es3 _ m4 m5 _ r rs2 is hg hiv hb he hr =>
        refine ⟨fun H' => ∃ va' H04, Stp ρ.length ρ H0 H ρ H04 H' ∧ Wd K H04 H' ρ m5 ∧ EnvS K H04 ρ σ es ∧ ItOk K J H04 ds ∧ H04 D = none ∧ H' D = some (.lst va') ∧ DpAll K H04 va' (acc ++ [r]),
          fun H' ⟨va', H04, s4, w4, e4, it4, z0, z1, z2⟩ => ⟨ds.length - (i + 1), by omega, rfl, hlt, acc ++ [r], va', rs2, m5, H04, by rw [er, List.append_assoc]; rfl, by rw [List.length_append, List.length_singleton]; omega, hr, s4, w4, e4, it4, z0, z1, z2⟩, fun x H' y => ?_⟩
        obtain ⟨rfl, kx⟩ := fin y
        refine hg _ _ H02 ρ x w2.ex (e2.wipe vs) kx _ fun σ3 e3 hw => ⟨by rw [hw vs hiv, wipe_wipe], ?_⟩
        refine hb σ3 _ H02 ρ w2 e3 _ fun H3 H03 s3 w3 => ?_
        refine iteT (he σ3 H3 H03 ρ w3 (e3.mono s3.ex) _ fun y H4 H04 s4 w4 ky => ?_)
        have s5 := s3.trans w3.nd s4
        obtain ⟨k1, k2⟩ := keepD hDρ d0 d2 s5
        refine ⟨va, k2, by omega, va ++ [y], H04, (s2.trans w2.nd s5).off hD0, w4.off k1 hDρ (.inr ⟨_, k2⟩), e2.mono s5.ex, it2.mono s5.ex, k1, upd_same, dpAll_app (dpAll_mono s5.ex da) (.cons ky .nil)⟩
      | @not _ _ es3 _ m4 _ _ is hg hiv hb hr =>
        refine ⟨fun H' => ∃ H04, Stp ρ.length ρ H0 H ρ H04 H' ∧ Wd K H04 H' ρ m4 ∧ EnvS K H04 ρ σ es ∧ ItOk K J H04 ds ∧ H04 D = none ∧ H' D = some (.lst va) ∧ DpAll K H04 va acc,
          fun H' ⟨H04, s4, w4, e4, it4, z0, z1, z2⟩ => ⟨ds.length - (i + 1), by omega, rfl, hlt, acc, va, rs1, m4, H04, er, by omega, hr, s4, w4, e4, it4, z0, z1, z2⟩, fun x H' y => ?_⟩
        obtain ⟨rfl, kx⟩ := fin y
        refine hg _ _ H02 ρ x w2.ex (e2.wipe vs) kx _ fun σ3 e3 hw => ⟨by rw [hw vs hiv, wipe_wipe], ?_⟩
        refine hb σ3 _ H02 ρ w2 e3 _ fun H3 H03 s3 w3 => ?_
        obtain ⟨k1, k2⟩ := keepD hDρ d0 d2 s3
        exact iteF ⟨H03, s2.trans w2.nd s3, w3, e2.mono s3.ex, it2.mono s3.ex, k1, k2, dpAll_mono s3.ex da⟩
    · have ei : i = ds.length := by omega
      subst ei
      rw [List.drop_length] at fr
      cases fr with
      | nil =>
        refine .inl ⟨g2 (Nat.le_refl _), ?_⟩
        rw [List.append_nil] at er
        subst er
        exact q D va H2 H02 s2 w2 hD0 d0 hDρ d2 da
/-- an item of the comprehension raises D -/
theorem x_lcExc {wi : XK → TI} {t : XK → TE} {i : Nat} {f : PyData → Option PyData} {ds : List PyData} (hi : ∀ E, EvI K (wi E) es m ds m) (hl : ds.length < sizeLine) (h : ∀ d, d ∈ ds → EvX K t ((wipeS es [i]).set i (.d d)) m (resO D (f d)) m) (hn : mapO f ds = none) :
    EvX K (fun E => tLc (wi E) (gName i) tYes (t E) [i]) es m (.exc D) m := fun σ H H0 ρ w e Q E qE =>
  hi E σ H H0 ρ w e _ fun J H1 H01 s1 w1 it => fun C hD => by
    have hD0 : H C = none := s1.dom C hD
    have hDρ : C ∉ ρ := w1.notin hD
    refine ⟨fun j k H2 => k = ds.length - j ∧ j ≤ ds.length ∧ mapO f (ds.drop j) = none ∧ ∃ acc va H02, acc.length ≤ j ∧ Stp ρ.length ρ H0 H ρ H02 H2 ∧ Wd K H02 H2 ρ m ∧ EnvS K H02 ρ σ es ∧ ItOk K J H02 ds ∧ H02 C = none ∧ H2 C = some (.lst va) ∧ DpAll K H02 va acc,
      ⟨ds.length, by omega, Nat.zero_le _, hn, [], [], H01, Nat.le_refl _, s1.off hD0, w1.off (Evl.fresh_back w1.ex hD) hDρ (.inl hD), e.mono s1.ex, it, Evl.fresh_back w1.ex hD, upd_same, .nil⟩, fun j k H2 hW => ?_⟩
    obtain ⟨rfl, hle, hm, acc, va, H02, hacc, s2, w2, e2, it2, d0, d2, da⟩ := hW
    obtain ⟨g1, g2, g3⟩ := it2 j H2 w2.ex
    by_cases hlt : j < ds.length
    · refine .inr ⟨g1 hlt, ?_⟩
      have hd : ds[j]? = some ds[j] := List.getElem?_eq_getElem hlt
      rw [drop_cons hd] at hm
      have fin : ∀ {x H'}, J.yld j H2 x H' → H' = H2 ∧ Dp K H02 x ds[j] := fun {x H'} y => by
        obtain ⟨e1, d, q1, q2⟩ := g3 x H' hlt y
        rw [hd] at q1
        cases q1
        exact ⟨e1, q2⟩
      have hvl := dpAll_len da
      have hx := h ds[j] (List.getElem_mem hlt)
      cases hf : f ds[j] with
      | none =>
        rw [hf] at hx
        refine ⟨fun _ => False, fun _ z => z.elim, fun x H' y => ?_⟩
        obtain ⟨rfl, kx⟩ := fin y
        refine gv_name (r := .d ds[j]) _ _ H02 ρ x w2.ex (e2.wipe [i]) kx _ fun σ3 e3 hw => ⟨by rw [hw [i] (fun _ h => h), wipe_wipe], ?_⟩
        refine eb_yes σ3 _ H02 ρ w2 e3 _ fun H3 H03 s3 w3 => ?_
        exact iteT (hx σ3 H3 H03 ρ w3 (e3.mono s3.ex) _ E fun H4 H04 s4 w4 => qE H4 H04 ((s2.trans w2.nd s3).trans w3.nd s4) w4)
      | some r =>
        rw [hf] at hx
        have hm2 : mapO f (ds.drop (j + 1)) = none := by
          unfold mapO at hm
          rw [hf] at hm
          cases hz : mapO f (ds.drop (j + 1)) with
          | none => rfl
          | some _ => rw [hz] at hm; cases hm
        refine ⟨fun H' => ∃ va' H04, Stp ρ.length ρ H0 H ρ H04 H' ∧ Wd K H04 H' ρ m ∧ EnvS K H04 ρ σ es ∧ ItOk K J H04 ds ∧ H04 C = none ∧ H' C = some (.lst va') ∧ DpAll K H04 va' (acc ++ [r]),
          fun H' ⟨va', H04, s4, w4, e4, it4, z0, z1, z2⟩ => ⟨ds.length - (j + 1), by omega, rfl, hlt, hm2, acc ++ [r], va', H04, by rw [List.length_append, List.length_singleton]; omega, s4, w4, e4, it4, z0, z1, z2⟩, fun x H' y => ?_⟩
        obtain ⟨rfl, kx⟩ := fin y
        refine gv_name (r := .d ds[j]) _ _ H02 ρ x w2.ex (e2.wipe [i]) kx _ fun σ3 e3 hw => ⟨by rw [hw [i] (fun _ h => h), wipe_wipe], ?_⟩
        refine eb_yes σ3 _ H02 ρ w2 e3 _ fun H3 H03 s3 w3 => ?_
        refine iteT (hx E σ3 H3 H03 ρ w3 (e3.mono s3.ex) _ fun y H4 H04 s4 w4 ky => ?_)
        have s5 := s3.trans w3.nd s4
        obtain ⟨k1, k2⟩ := keepD hDρ d0 d2 s5
        exact ⟨va, k2, by omega, va ++ [y], H04, (s2.trans w2.nd s5).off hD0, w4.off k1 hDρ (.inr ⟨_, k2⟩), e2.mono s5.ex, it2.mono s5.ex, k1, upd_same, dpAll_app (dpAll_mono s5.ex da) (.cons ky .nil)⟩
    · have ei : j = ds.length := by omega
      subst ei
      rw [List.drop_length] at hm
      cases hm
theorem lcMapO {i : Nat} {esw : List Sl} {f : PyData → Option PyData} : ∀ {ds rs : List PyData}, (∀ d, d ∈ ds → ∀ y, f d = some y → EvE K te (esw.set i (.d d)) m (.d y) m) → mapO f ds = some rs → LcR K (gName i) tYes te esw [i] ds m rs m
  | [], rs, _, h => by cases h; exact .nil
  | d :: ds, rs, hf, h => by
    obtain ⟨b, r', e1, e2, rfl⟩ := mapO_cons h
    exact .yes gv_name (fun j hj => hj) eb_yes (hf d List.mem_cons_self b e1) (lcMapO (fun d hd => hf d (List.mem_cons_of_mem _ hd)) e2)
abbrev rTupC (K : PySem.W.Frag) : List V → Hp → VK → Prop := fun xs H Q => ∃ p ys, xs = [.ref p] ∧ ((SqL K H p ys ∧ ∀ l, H l = none → Q (.ref l) (upd H l (.tup ys))) ∨ (SqT K H p ys ∧ Q (.ref p) H))
/-- tuple([.. for x in ..]), an item of which may raise D -/
theorem x_tupMap {wi : XK → TI} {t : XK → TE} {i : Nat} {f : PyData → Option PyData} {ds : List PyData} (hi : ∀ E, EvI K (wi E) es m ds m) (hl : ds.length < sizeLine) (h : ∀ d, d ∈ ds → EvX K t ((wipeS es [i]).set i (.d d)) m (resO D (f d)) m) :
    EvX K (fun E => tCB (rTupC K) (tCons (tLc (wi E) (gName i) tYes (t E) [i]) tNil)) es m (resO D ((mapO f ds).map .tuple)) m := by
  cases hm : mapO f ds with
  | none =>
    have z := x_lcExc hi hl h hm
    exact fun σ H H0 ρ w e Q E q => z σ H H0 ρ w e (fun x H1 => tNil σ H1 fun xs H2 => rTupC K (x :: xs) H2 Q) E q
  | some rs =>
    refine fun E => ev_cb (arg1 (el_d (el_lcB (hi E) (lcMapO (fun d hd y hy => ?_) hm) hl))) c_tupL
    have z := h d hd
    rw [hy] at z
    exact z E
/-- what is walked raises D -/
theorem x_tupMapI {ti t : XK → TE} {g : TG} {vs : List Nat} (h : EvX K ti es m (.exc D) m) : EvX K (fun E => tCB (rTupC K) (tCons (tLc (iSeq K (ti E)) g tYes (t E) vs) tNil)) es m (.exc D) m :=
  fun σ H H0 ρ w e Q E q => .inr (h σ H H0 ρ w e _ E q)
end
end SX

set_option Elab.async false
set_option linter.all false
set_option maxRecDepth 100000
namespace SX
variable [DL.Tbs]
open PySem PySem.Spec PyProof.Rows L2 HotX L2H LamX DL HX TX
theorem mk_len (l : L) : (mk l).length = l.length := by rw [TL.len_tl]; rfl
theorem join_mk (a : Str) (ys : List Str) : Txt.join a ys = mk (TL.joinL (TL.tl a) (ys.map TL.tl)) := by
  rw [TL.join_eq, ← TL.tl_join, mk_of_tl]
theorem mk_app (a b : L) : mk a ++ mk b = mk (a ++ b) := by
  refine TL.ext_tl ?_
  rw [TL.tl_append]
  rfl
theorem str_mk (s : Str) : s = mk (TL.tl s) := (mk_of_tl s).symm
section
variable {K : PySem.W.Frag} {te ts : TE} {es : List Sl} {m : M}
abbrev rJoin (K : PySem.W.Frag) : V → List V → Hp → VK → Prop := fun x xs H Q => ∃ a p, ∃ ys : List Str, x = V.str a ∧ xs = [V.ref p] ∧ (SqL K H p (ys.map V.str) ∨ SqT K H p (ys.map V.str)) ∧ (ys.map (·.length)).sum + ys.length * a.length ≤ 16777216 ∧ Q (.str (Txt.join a ys)) H
theorem sum_le {α : Type} {f : α → Nat} {B : Nat} : ∀ {xs : List α}, (∀ x, x ∈ xs → f x ≤ B) → (xs.map f).sum ≤ xs.length * B
  | [], _ => by simp
  | x :: xs, h => by
    rw [List.map_cons, List.sum_cons, List.length_cons, Nat.succ_mul]
    have := h x List.mem_cons_self
    have := sum_le fun y hy => h y (List.mem_cons_of_mem _ hy)
    omega
theorem joinL_len {S : L} {B : Nat} : ∀ {ps : List L}, (∀ p, p ∈ ps → p.length ≤ B) → (TL.joinL S ps).length ≤ ps.length * (B + S.length)
  | [], _ => by simp [TL.joinL]
  | [p], h => by
    have := h p List.mem_cons_self
    show p.length ≤ 1 * (B + S.length)
    omega
  | p :: q :: r, h => by
    rw [joinL_cons (by simp), List.length_append, List.length_append, List.length_cons, Nat.succ_mul]
    have := h p List.mem_cons_self
    have := joinL_len (S := S) (ps := q :: r) fun y hy => h y (List.mem_cons_of_mem _ hy)
    omega
/-- sep.join(a list of texts) -/
theorem ev_join {a : Str} {gs : List L} {B : Nat} (hs : EvE K ts es m (.d (.str a)) m) (h : EvE K te es m (.d (.list (gs.map fun g => .str (mk g)))) m) (hB : ∀ g, g ∈ gs → g.length ≤ B) (hl : gs.length * (B + a.length) ≤ 16777216) :
    EvE K (tBM K "str" (rJoin K) ts (tCons te tNil)) es m (.d (.str (mk (TL.joinL (TL.tl a) gs)))) m := by
  have e : (gs.map fun g => PyData.str (mk g)) = (gs.map mk).map PyData.str := by rw [List.map_map]; rfl
  rw [e] at h
  have q := ev_bmS (K := K) (r := rJoin K) hs (arg1 h) (c_join (a := a) (ys := gs.map mk) ?_)
  · have e2 : (gs.map mk).map TL.tl = gs := by rw [List.map_map]; exact (List.map_congr_left fun g _ => tl_of_mk g).trans (List.map_id gs)
    rw [join_mk, e2] at q
    exact q
  · have h1 : ((gs.map mk).map (·.length)).sum ≤ gs.length * B := by
      have e3 : ((gs.map mk).map (·.length)) = gs.map (·.length) := by rw [List.map_map]; exact List.map_congr_left fun g _ => mk_len g
      rw [e3]
      exact sum_le hB
    rw [List.length_map]
    rw [Nat.mul_add] at hl
    omega
/-- sep.join([.. for x in ..]) -/
theorem ev_joinMap {wi : TI} {i : Nat} {ds : List PyData} {g : PyData → L} {a : Str} {B : Nat} (hs : EvE K ts es m (.d (.str a)) m) (hi : EvI K wi es m ds m) (h1 : ds.length ≤ 1000) (h : ∀ d, d ∈ ds → EvE K te ((wipeS es [i]).set i (.d d)) m (.d (.str (mk (g d)))) m)
    (hB : ∀ d, d ∈ ds → (g d).length ≤ B) (hl : ds.length * (B + a.length) ≤ 16777216) : EvE K (tBM K "str" (rJoin K) ts (tCons (tLc wi (gName i) tYes te [i]) tNil)) es m (.d (.str (mk (TL.joinL (TL.tl a) (ds.map g))))) m := by
  have h2 : LcR K (gName i) tYes te (wipeS es [i]) [i] ds m (ds.map fun d => .str (mk (g d))) m := lcMap (by simp) h
  refine ev_join (B := B) hs ?_ (fun p hp => ?_) (by rw [List.length_map]; exact hl)
  · rw [List.map_map]
    exact el_d (el_lc hi h2 h1)
  · obtain ⟨d, hd, rfl⟩ := List.mem_map.mp hp
    exact hB d hd
/-- sep.join(x), x a cell -/
theorem ev_joinC {a : Str} {gs : List L} {B i j : Nat} (hs : EvE K ts es m (.d (.str a)) m) (hi : es[i]? = some (.c j)) (hm : m[j]? = some (gs.map fun g => .str (mk g))) (hB : ∀ g, g ∈ gs → g.length ≤ B) (hl : gs.length * (B + a.length) ≤ 16777216) :
    EvE K (tBM K "str" (rJoin K) ts (tCons (tVar i) tNil)) es m (.d (.str (mk (TL.joinL (TL.tl a) gs)))) m := by
  intro σ H H0 ρ w e Q q
  refine hs σ H H0 ρ w e _ fun v H1 H01 s1 w1 k1 => ?_
  have k1 : Dp K H01 v (.str a) := k1
  cases k1
  rcases (e.mono s1.ex).2 i _ hi with z | ⟨v, h1, p, rfl, h2⟩
  · cases z
  obtain ⟨vs, g1, g2⟩ := cell_get w1 h2 hm
  have e1 : (gs.map fun g => PyData.str (mk g)) = (gs.map mk).map PyData.str := by rw [List.map_map]; rfl
  rw [e1] at g2
  rw [strs_v g2] at g1
  have hlen : ((gs.map mk).map (·.length)).sum + (gs.map mk).length * a.length ≤ 16777216 := by
    have h1 : ((gs.map mk).map (·.length)).sum ≤ gs.length * B := by
      have e3 : ((gs.map mk).map (·.length)) = gs.map (·.length) := by rw [List.map_map]; exact List.map_congr_left fun g _ => mk_len g
      rw [e3]
      exact sum_le hB
    rw [List.length_map]
    rw [Nat.mul_add] at hl
    omega
  have e2 : (gs.map mk).map TL.tl = gs := by rw [List.map_map]; exact (List.map_congr_left fun g _ => tl_of_mk g).trans (List.map_id gs)
  refine ⟨rfl, _, h1, a, p, gs.map mk, rfl, rfl, .inl (.inl (.inl g1)), hlen, ?_⟩
  rw [join_mk, e2]
  exact q _ H1 H01 s1 w1 (.str _)
/-- the last item -/
theorem atI_last {α : Type} {xs : List α} {x : α} (h : xs.getLast? = some x) : atI xs (-1) = some x := by
  cases xs with
  | nil => cases h
  | cons a r =>
    have hl : (a :: r).length = r.length + 1 := rfl
    unfold atI ixN
    rw [if_neg (by decide)]
    have h2 : -((a :: r).length : Int) ≤ -1 := by rw [hl]; omega
    rw [List.getLast?_eq_getElem?] at h
    have e : (-1 + ((a :: r).length : Int)).toNat = (a :: r).length - 1 := by rw [hl]; omega
    rw [if_pos h2, e]
    exact h
theorem dpAll_last {H0 : Hp} : ∀ {vs : List V} {ds : List PyData} {d : PyData}, DpAll K H0 vs ds → ds.getLast? = some d → ∃ v, vs.getLast? = some v ∧ Dp K H0 v d := by
  intro vs ds d h hd
  have hl := dpAll_len h
  rw [List.getLast?_eq_getElem?] at hd
  obtain ⟨v, h1, h2⟩ := dpAll_get' h hd
  exact ⟨v, by rw [List.getLast?_eq_getElem?, hl]; exact h1, h2⟩
theorem o_ixLast {ds : List PyData} {d : PyData} (h : ds.getLast? = some d) : Op2 K (rIx K) (.tuple ds) (.int (-1)) d := fun H0 H ex v w kv kw Q q => by
  cases kw
  cases kv with
  | tup hs hd =>
    obtain ⟨v, hv, k⟩ := dpAll_last hd h
    exact .inr (.inl ⟨_, _, _, v, rfl, rfl, Evl.ex_t ex hs, atI_last hv, here ex k q⟩)
end
end SX

set_option Elab.async false
set_option linter.all false
set_option maxRecDepth 100000
set_option maxHeartbeats 4000000
namespace K30
variable [DL.Tbs]
open PySem PySem.Spec PyProof.Rows L2 DL HX TX SX
/-! ### how long texts are -/
theorem num_len {d : PyData} (h : goodNum d) : (fmtNum d).length ≤ 2 := by
  obtain ⟨i, rfl, h1, h2⟩ := h
  by_cases h : 0 ≤ i
  · have := numT_pos ⟨i.toNat, by omega⟩
    have e : ((i.toNat : Nat) : Int) = i := by omega
    rw [show ((⟨i.toNat, by omega⟩ : Fin 10).val : Int) = i from e] at this
    show (numT i).length ≤ 2
    rw [this]; simp
  · have := numT_neg ⟨(-i).toNat, by omega⟩ (show (-i).toNat ≠ 0 by omega)
    have e : (-(((-i).toNat : Nat) : Int)) = i := by omega
    rw [show (-((⟨(-i).toNat, by omega⟩ : Fin 10).val : Int)) = i from e] at this
    show (numT i).length ≤ 2
    rw [this]; simp
def shortNums (d : PyData) : Prop := goodNums d ∧ (itemsD d).length ≤ 6
theorem nums_len {s : Nat} {d : PyData} (h : shortNums d) : (fmtNums s d).length ≤ 18 := by
  obtain ⟨⟨ds, rfl, _, hd⟩, hl⟩ := h
  have hl : ds.length ≤ 6 := hl
  have := joinL_len (S := [s]) (B := 2) (ps := ds.map fmtNum) fun p hp => by
    obtain ⟨x, hx, rfl⟩ := List.mem_map.mp hp
    exact num_len (hd x hx)
  rw [List.length_map] at this
  have e : ([s] : L).length = 1 := rfl
  rw [e] at this
  show (TL.joinL [s] (ds.map fmtNum)).length ≤ 18
  omega
theorem are_short {v : PyData} {n lo hi : Int} (hn : 1 ≤ n) (h6 : n ≤ 6) (h1 : -9 ≤ lo) (h2 : hi ≤ 9) (h : areM v n lo hi = true) : shortNums v := by
  refine ⟨are_good hn h1 h2 h, ?_⟩
  cases v with
  | tuple xs =>
    have h : (decide ((xs.length : Int) = n) && xs.all (inR lo hi)) = true := h
    rw [Bool.and_eq_true, decide_eq_true_eq] at h
    show xs.length ≤ 6
    omega
  | _ => cases h
theorem opacity_short {v : PyData} (h : opacityM v = true) : shortNums v := by
  unfold opacityM at h
  rw [Bool.and_eq_true] at h
  exact are_short (by decide) (by decide) (by decide) (by decide) h.1
theorem colour_short {v : PyData} (h : colourM v = true) : shortNums v := are_short (by decide) (by decide) (by decide) (by decide) h
theorem matrix_short {v : PyData} (h : matrixM v = true) : shortNums v := by
  refine ⟨matrix_good h, ?_⟩
  unfold matrixM at h
  rw [Bool.and_eq_true, Bool.and_eq_true] at h
  obtain ⟨h1, _, h3⟩ := h
  cases v with
  | tuple xs =>
    have h1 : (decide (((xs.take 4).length : Int) = 4) && _) = true := h1
    have h3 : (decide (((xs.drop 4).length : Int) = 2) && _) = true := h3
    rw [Bool.and_eq_true, decide_eq_true_eq] at h1 h3
    show xs.length ≤ 6
    have := h3.1
    rw [List.length_drop] at this
    have := h1.1
    rw [List.length_take] at this
    omega
  | none => cases h1
  | bool _ => cases h1
  | int _ => cases h1
  | str _ => cases h1
  | list _ => cases h1
  | dict _ => cases h1
theorem loop_pts {v : PyData} (h : loopM v = true) : ∃ ps, v = .tuple ps ∧ ps.length ≤ 8 ∧ ∀ p, p ∈ ps → shortNums p := by
  cases v with
  | tuple xs =>
    have h : ((decide ((3 : Int) ≤ (xs.length : Int)) && decide ((xs.length : Int) ≤ 8)) && xs.all fun p => areM p 2 (-9) 9) = true := h
    rw [Bool.and_eq_true, Bool.and_eq_true, decide_eq_true_eq, decide_eq_true_eq, List.all_eq_true] at h
    exact ⟨xs, rfl, by omega, fun p hp => are_short (by decide) (by decide) (by decide) (by decide) (h.2 p hp)⟩
  | _ => cases h
theorem loop_len {v : PyData} (h : loopM v = true) : (fmtLoop v).length ≤ 152 := by
  obtain ⟨ps, rfl, hl, hp⟩ := loop_pts h
  have := joinL_len (S := [59]) (B := 18) (ps := ps.map (fmtNums 44)) fun p hp' => by
    obtain ⟨x, hx, rfl⟩ := List.mem_map.mp hp'
    exact nums_len (hp x hx)
  rw [List.length_map] at this
  have e : ([59] : L).length = 1 := rfl
  rw [e] at this
  show (TL.joinL [59] (ps.map (fmtNums 44))).length ≤ 152
  omega
theorem shape_parts {v : PyData} (h : shapeM v = true) : ∃ (r : Str) (ls : List PyData), v = .tuple [.str r, .tuple ls] ∧ (r = "odd" ∨ r = "turns") ∧ ls.length ≤ 3 ∧ ∀ l, l ∈ ls → loopM l = true := by
  obtain ⟨r, ls, rfl, hr, _, _⟩ := shape_good h
  have h : (ruleM (.str r) && loopsM (.tuple ls)) = true := h
  rw [Bool.and_eq_true] at h
  have hl : ((decide ((1 : Int) ≤ (ls.length : Int)) && decide ((ls.length : Int) ≤ 3)) && ls.all loopM) = true := h.2
  rw [Bool.and_eq_true, Bool.and_eq_true, decide_eq_true_eq, decide_eq_true_eq, List.all_eq_true] at hl
  exact ⟨r, ls, rfl, hr, by omega, hl.2⟩
theorem rule_len {r : Str} (h : r = "odd" ∨ r = "turns") : (TL.tl r).length ≤ 5 := by
  rcases h with rfl | rfl
  · rw [tl_odd]; decide
  · rw [tl_turns]; decide
theorem shape_len {v : PyData} (h : shapeM v = true) : (fmtShape v).length ≤ 466 := by
  obtain ⟨r, ls, rfl, hr, hl, hp⟩ := shape_parts h
  have h1 := joinL_len (S := [124]) (B := 152) (ps := ls.map fmtLoop) fun p hp' => by
    obtain ⟨x, hx, rfl⟩ := List.mem_map.mp hp'
    exact loop_len (hp x hx)
  rw [List.length_map] at h1
  have e : ([124] : L).length = 1 := rfl
  rw [e] at h1
  have := rule_len hr
  show (TL.tl r ++ ([40] ++ (TL.joinL [124] (ls.map fmtLoop) ++ [41]))).length ≤ 466
  simp only [List.length_append, List.length_cons, List.length_nil]
  omega
theorem clip_len {c : PyData} (h : (isNone c || shapeM c) = true) : (clipT c).length ≤ 466 := by
  rw [Bool.or_eq_true] at h
  cases c with
  | none => decide
  | tuple xs =>
    rcases h with h | h
    · cases h
    · exact shape_len h
  | _ =>
    rcases h with h | h
    · cases h
    · cases h
/-- how long the text of a layer can be -/
def layB : Nat → Nat
  | 0 => 1868
  | n + 1 => 5 * (4 * (layB n + 3) + 3)
theorem layB_up (n : Nat) : 1868 ≤ layB n := by
  cases n with
  | zero => exact Nat.le_refl _
  | succ n =>
    show 1868 ≤ 5 * (4 * (layB n + 3) + 3)
    have := layB_up n
    omega
/-- what a valid layer is made of -/
theorem nested_parts {n : Nat} {v : PyData} (h : nestedM n v = true) : (∃ s c o, v = .tuple [.str "fill", s, c, o] ∧ shapeM s = true ∧ colourM c = true ∧ opacityM o = true) ∨ (∃ s o, v = .tuple [.str "rub", s, o] ∧ shapeM s = true ∧ opacityM o = true) ∨
    ∃ j ls o c m, n = j + 1 ∧ v = .tuple [.str "group", .tuple ls, o, c, m] ∧ ls.length ≤ 4 ∧ (∀ l, l ∈ ls → nestedM j l = true) ∧ opacityM o = true ∧ (isNone c || shapeM c) = true ∧ matrixM m = true := by
  unfold nestedM at h
  split at h
  · rename_i k xs
    split at h
    · rename_i hk
      match xs, h with
      | [s, c, o], h =>
        have h : (shapeM s && (colourM c && opacityM o)) = true := h
        rw [Bool.and_eq_true, Bool.and_eq_true] at h
        exact .inl ⟨s, c, o, by rw [hk], h.1, h.2.1, h.2.2⟩
    · split at h
      · rename_i hk
        match xs, h with
        | [s, o], h =>
          have h : (shapeM s && opacityM o) = true := h
          rw [Bool.and_eq_true] at h
          exact .inr (.inl ⟨s, o, by rw [hk], h.1, h.2⟩)
      · rw [Bool.and_eq_true, decide_eq_true_eq] at h
        obtain ⟨hk, h⟩ := h
        cases n with
        | zero => cases h
        | succ n =>
          match xs, h with
          | [l, o, c, m], h =>
            have h : (layersOf (nestedM n) l && (opacityM o && ((isNone c || shapeM c) && matrixM m))) = true := h
            rw [Bool.and_eq_true, Bool.and_eq_true, Bool.and_eq_true] at h
            obtain ⟨hl, ho, hc, hm⟩ := h
            cases l with
            | tuple ls =>
              have hl : (decide ((ls.length : Int) ≤ 4) && ls.all (nestedM n)) = true := hl
              rw [Bool.and_eq_true, decide_eq_true_eq, List.all_eq_true] at hl
              exact .inr (.inr ⟨n, ls, o, c, m, rfl, by rw [hk], by omega, hl.2, ho, hc, hm⟩)
            | _ => cases hl
  · cases h
theorem four_len {B : Nat} {ps : List L} (hn : ps.length ≤ 5) (h : ∀ p, p ∈ ps → p.length ≤ B) : (TL.joinL [32] ps).length ≤ ps.length * (B + 1) := joinL_len (S := [32]) h
theorem layer_len : ∀ (n : Nat) {v : PyData}, nestedM n v = true → (fmtLayer n v).length ≤ layB n := by
  intro n
  induction n with
  | zero =>
    intro v h
    rcases nested_parts h with ⟨s, c, o, rfl, hs, hc, ho⟩ | ⟨s, o, rfl, hs, ho⟩ | ⟨j, _, _, _, _, e, _⟩
    · rw [fmt_fill]
      refine Nat.le_trans (four_len (B := 466) (by simp) fun p hp => ?_) (show 4 * (466 + 1) ≤ 1868 by decide)
      simp only [List.mem_cons, List.not_mem_nil, or_false] at hp
      rcases hp with rfl | rfl | rfl | rfl
      · decide
      · exact shape_len hs
      · exact Nat.le_trans (nums_len (colour_short hc)) (by decide)
      · exact Nat.le_trans (nums_len (opacity_short ho)) (by decide)
    · rw [fmt_rub]
      refine Nat.le_trans (four_len (B := 466) (by simp) fun p hp => ?_) (show 3 * (466 + 1) ≤ 1868 by decide)
      simp only [List.mem_cons, List.not_mem_nil, or_false] at hp
      rcases hp with rfl | rfl | rfl
      · decide
      · exact shape_len hs
      · exact Nat.le_trans (nums_len (opacity_short ho)) (by decide)
    · cases e
  | succ n ih =>
    intro v h
    have up := layB_up n
    have eB : layB (n + 1) = 5 * (4 * (layB n + 3) + 3) := rfl
    rcases nested_parts h with ⟨s, c, o, rfl, hs, hc, ho⟩ | ⟨s, o, rfl, hs, ho⟩ | ⟨j, ls, o, c, m, e, rfl, hl, hn, ho, hc, hm⟩
    · rw [fmt_fill]
      refine Nat.le_trans (four_len (B := 466) (by simp) fun p hp => ?_) (by show 4 * (466 + 1) ≤ layB (n + 1); omega)
      simp only [List.mem_cons, List.not_mem_nil, or_false] at hp
      rcases hp with rfl | rfl | rfl | rfl
      · decide
      · exact shape_len hs
      · exact Nat.le_trans (nums_len (colour_short hc)) (by decide)
      · exact Nat.le_trans (nums_len (opacity_short ho)) (by decide)
    · rw [fmt_rub]
      refine Nat.le_trans (four_len (B := 466) (by simp) fun p hp => ?_) (by show 3 * (466 + 1) ≤ layB (n + 1); omega)
      simp only [List.mem_cons, List.not_mem_nil, or_false] at hp
      rcases hp with rfl | rfl | rfl
      · decide
      · exact shape_len hs
      · exact Nat.le_trans (nums_len (opacity_short ho)) (by decide)
    · cases e
      rw [fmt_group]
      have hin : (fmtLayersF (fmtLayer n) ls).length ≤ 4 * (layB n + 3) := by
        have := joinL_len (S := SEP) (B := layB n) (ps := ls.map (fmtLayer n)) fun p hp => by
          obtain ⟨x, hx, rfl⟩ := List.mem_map.mp hp
          exact ih (hn x hx)
        rw [List.length_map] at this
        have e3 : SEP.length = 3 := rfl
        rw [e3] at this
        have : ls.length * (layB n + 3) ≤ 4 * (layB n + 3) := Nat.mul_le_mul_right _ hl
        unfold fmtLayersF
        omega
      refine Nat.le_trans (four_len (B := 4 * (layB n + 3) + 2) (by simp) fun p hp => ?_) (by show 5 * (4 * (layB n + 3) + 2 + 1) ≤ layB (n + 1); omega)
      simp only [List.mem_cons, List.not_mem_nil, or_false] at hp
      rcases hp with rfl | rfl | rfl | rfl | rfl
      · show 5 ≤ 4 * (layB n + 3) + 2
        omega
      · exact Nat.le_trans (nums_len (matrix_short hm)) (by omega)
      · exact Nat.le_trans (nums_len (opacity_short ho)) (by omega)
      · exact Nat.le_trans (clip_len hc) (by omega)
      · simp only [List.length_append, List.length_cons, List.length_nil]
        omega
theorem layers_len {n : Nat} {ls : List PyData} (hl : ls.length ≤ 4) (hn : ∀ l, l ∈ ls → nestedM n l = true) : (fmtLayersF (fmtLayer n) ls).length ≤ 4 * (layB n + 3) := by
  have := joinL_len (S := SEP) (B := layB n) (ps := ls.map (fmtLayer n)) fun p hp => by
    obtain ⟨x, hx, rfl⟩ := List.mem_map.mp hp
    exact layer_len n (hn x hx)
  rw [List.length_map] at this
  have e3 : SEP.length = 3 := rfl
  rw [e3] at this
  have : ls.length * (layB n + 3) ≤ 4 * (layB n + 3) := Nat.mul_le_mul_right _ hl
  unfold fmtLayersF
  omega
theorem layB_small {n : Nat} (h : n ≤ 2) : layB n ≤ 748775 := by
  match n, h with
  | 0, _ => decide
  | 1, _ => decide
  | 2, _ => decide
end K30

set_option Elab.async false
set_option linter.all false
set_option maxRecDepth 100000
set_option maxHeartbeats 4000000
namespace K30
variable [DL.Tbs]
open PySem PySem.Spec PyProof.Rows L2 DL HX TX SX
section
variable {P : Program} {w : World} {K : PySem.W.Frag} {mg : Str → Option Value} {base : Heap}
/-! ### texts of drawings -/
theorem tl_comma : TL.tl ("," : Str) = [44] := by decide +kernel
theorem tl_semi : TL.tl (";" : Str) = [59] := by decide +kernel
theorem tl_bar : TL.tl ("|" : Str) = [124] := by decide +kernel
theorem tl_dot : TL.tl ("." : Str) = [46] := by decide +kernel
theorem tl_slash : TL.tl ("/" : Str) = [47] := by decide +kernel
theorem tl_space : TL.tl (" " : Str) = [32] := by decide +kernel
theorem tl_sep : TL.tl (" & " : Str) = SEP := by decide +kernel
theorem tl_open : TL.tl ("(" : Str) = [40] := by decide +kernel
theorem tl_close : TL.tl (")" : Str) = [41] := by decide +kernel
theorem tl_sopen : TL.tl ("[" : Str) = [91] := by decide +kernel
theorem tl_sclose : TL.tl ("]" : Str) = [93] := by decide +kernel
theorem tl_dash : TL.tl ("-" : Str) = [45] := by decide +kernel
theorem s_of {s : Str} {l : L} (h : TL.tl s = l) : s = mk l := by rw [← h, mk_of_tl]
theorem one_len {s : Str} {c : Nat} (h : TL.tl s = [c]) : s.length = 1 := by rw [TL.len_tl, h]; rfl
abbrev R_nums : List PyData → PyData → Prop := fun ds y => ∃ v s c, ds = [v, .str s] ∧ TL.tl s = [c] ∧ shortNums v ∧ y = .str (mk (fmtNums c v))
theorem num_log {i : Int} (h1 : -9 ≤ i) (h2 : i ≤ 9) : i.natAbs.log2 < 1920 := by
  have h : i.natAbs < 16 := by omega
  have : i.natAbs.log2 ≤ 4 := by
    by_cases h0 : i.natAbs = 0
    · rw [h0]; decide
    · have := (Nat.log2_lt h0 (k := 4)).mpr h
      omega
  omega
theorem c_joinNums (b_str : mg "str" = none) (TD : DefT K mg "join_numbers" st_join_numbers ["numbers", "sign"]) : PureC P w K mg base 1 "join_numbers" ["numbers", "sign"] R_nums := by
  refine mkPure TD S_join_numbers fun f cdv A outer s H E hr => ?_
  refine ⟨_, (pss_one (ps_ret (kBm (K := K) PySem.F.plainAttrs_str PySem.F.slot_str_join PySem.F.type_str_join (kJoin (K := K)) (pv 1) (pa_cons (pe_lc (own := [("number", 2)]) (by rfl) S_join_numbers.nd (kSeq (K := K) (pv 0)) (blkOk_by (N := N_join_numbers) (sc := defScope st_join_numbers) (by decide +kernel)) (fun _ _ _ _ _ => pg_name (i := 2) S_join_numbers.nd rfl (by first | exact Or.inl rfl | exact Or.inr rfl)) (fun _ _ _ _ _ => pts_nil) (fun _ _ _ _ _ => (pe_callTy call_str_int (by rfl) b_str (by decide +kernel) (pa_cons (pv 2) pa_nil)))) pa_nil)))), ?_⟩
  rintro ds m y hl ⟨v, s, c, rfl, hs, ⟨⟨xs, rfl, hne, hx⟩, h6⟩, rfl⟩
  have h6 : xs.length ≤ 6 := h6
  refine sv_ret0 (ev_cast (ev_joinMap (a := s) (g := fmtNum) (B := 2) (ev_var rfl nofun) (ei_seqT (ds := xs) (ev_var rfl nofun)) (by omega) (fun d hd => ?_) (fun d hd => num_len (hx d hd)) (by rw [one_len hs]; omega)) ?_)
  · obtain ⟨i, rfl, h1, h2⟩ := hx d hd
    exact ev_cast (ev_cb (arg1 (ev_var rfl nofun)) (c_strI (num_log h1 h2))) (congrArg (fun s => Sl.d (.str s)) (str_mk _))
  · rw [hs]; rfl
theorem ev_nums {E : XK} {es : List Sl} {m m1 : M} {t : TA} {v : PyData} {s : Str} {c : Nat} (h : EvA K t es m [.d v, .d (.str s)] m1) (hs : TL.tl s = [c]) (hv : shortNums v) : EvE K (tCall (spD K 2 (pureG R_nums)) [] E t) es m (.d (.str (mk (fmtNums c v)))) m1 := ev_pure h (ds := [v, .str s]) rfl ⟨v, s, c, rfl, hs, hv, rfl⟩ rfl
abbrev R_floop : List PyData → PyData → Prop := fun ds y => ∃ v, ds = [v] ∧ loopM v = true ∧ y = .str (mk (fmtLoop v))
theorem c_floop (TD : DefT K mg "format_loop" st_format_loop ["loop"]) (D_join_numbers : PureC P w K mg base 1 "join_numbers" ["numbers", "sign"] R_nums) : PureC P w K mg base 2 "format_loop" ["loop"] R_floop := by
  refine mkPure TD S_format_loop fun f cdv A outer s H E hr => ?_
  refine ⟨_, (pss_one (ps_ret (kBm (K := K) PySem.F.plainAttrs_str PySem.F.slot_str_join PySem.F.type_str_join (kJoin (K := K)) pe_str (pa_cons (pe_lc (own := [("pair", 1)]) (by rfl) S_format_loop.nd (kSeq (K := K) (pv 0)) (blkOk_by (N := N_format_loop) (sc := defScope st_format_loop) (by decide +kernel)) (fun _ _ _ _ _ => pg_name (i := 1) S_format_loop.nd rfl (by first | exact Or.inl rfl | exact Or.inr rfl)) (fun _ _ _ _ _ => pts_nil) (fun _ _ _ _ _ => (pe_def D_join_numbers (hr.mono (by omega)) (by rfl) pass0 (pa_cons (pv 1) (pa_cons pe_str pa_nil))))) pa_nil)))), ?_⟩
  rintro ds m y hl ⟨v, rfl, hv, rfl⟩
  obtain ⟨ps, rfl, h8, hp⟩ := loop_pts hv
  refine sv_ret0 (ev_cast (ev_joinMap (a := ";") (g := fmtNums 44) (B := 18) ev_str (ei_seqT (ds := ps) (ev_var rfl nofun)) (by omega) (fun d hd => ev_nums (arg2 (ev_var rfl nofun) ev_str) tl_comma (hp d hd)) (fun d hd => nums_len (hp d hd)) (by rw [one_len tl_semi]; omega)) ?_)
  rw [tl_semi]; rfl
abbrev R_fshape : List PyData → PyData → Prop := fun ds y => ∃ v, ds = [v] ∧ shapeM v = true ∧ y = .str (mk (fmtShape v))
theorem c_fshape (TD : DefT K mg "format_shape" st_format_shape ["shape"]) (D_format_loop : PureC P w K mg base 2 "format_loop" ["loop"] R_floop) : PureC P w K mg base 3 "format_shape" ["shape"] R_fshape := by
  refine mkPure TD S_format_shape fun f cdv A outer s H E hr => ?_
  refine ⟨_, (pss_cons (ps_asg (pv 0) (kTupG (K := K) rfl (pgs_cons (pg_name (i := 1) S_format_shape.nd rfl (Or.inl rfl)) (pgs_cons (pg_name (i := 2) S_format_shape.nd rfl (Or.inl rfl)) pgs_nil))))
      (pss_cons (ps_set (i := 3) S_format_shape.nd rfl (Or.inl rfl) (kBm (K := K) PySem.F.plainAttrs_str PySem.F.slot_str_join PySem.F.type_str_join (kJoin (K := K)) pe_str (pa_cons (pe_lc (own := [("loop", 4)]) (by rfl) S_format_shape.nd (kSeq (K := K) (pv 2)) (blkOk_by (N := N_format_shape) (sc := defScope st_format_shape) (by decide +kernel)) (fun _ _ _ _ _ => pg_name (i := 4) S_format_shape.nd rfl (by first | exact Or.inl rfl | exact Or.inr rfl)) (fun _ _ _ _ _ => pts_nil) (fun _ _ _ _ _ => (pe_def D_format_loop (hr.mono (by omega)) (by rfl) pass0 (pa_cons (pv 4) pa_nil)))) pa_nil)))
      (pss_one (ps_ret (pe_joined (PJ.cons (pe_fmt (pv 1)) (PJ.cons pe_str (PJ.cons (pe_fmt (pv 3)) (PJ.cons pe_str PJ.nil))))))))), ?_⟩
  rintro ds m y hl ⟨v, rfl, hv, rfl⟩
  have hsl := shape_len hv
  obtain ⟨r, ls, rfl, hr, h3, hp⟩ := shape_parts hv
  have hsl : (TL.tl r ++ ([40] ++ (TL.joinL [124] (ls.map fmtLoop) ++ [41]))).length ≤ 466 := hsl
  simp only [List.length_append, List.length_cons, List.length_nil] at hsl
  have hrl : r.length = (TL.tl r).length := TL.len_tl r
  refine sv_seq (es1 := [.d (.tuple [.str r, .tuple ls]), .d (.str r), .d (.tuple ls), .no, .no]) (m1 := m) (sv_asg (ev_var rfl nofun) (gv_tup (gvs_cons gv_name (gvs_cons gv_name gvs_nil)) rfl)) ?_
  refine sv_seq (es1 := [.d (.tuple [.str r, .tuple ls]), .d (.str r), .d (.tuple ls), .d (.str (mk (TL.joinL [124] (ls.map fmtLoop)))), .no]) (m1 := m) (sv_set (ev_cast (ev_joinMap (a := "|") (g := fmtLoop) (B := 152) ev_str (ei_seqT (ds := ls) (ev_var rfl nofun)) (by omega) (fun d hd => ev_pure (arg1 (ev_var rfl nofun)) (ds := [d]) rfl ⟨d, rfl, hp d hd, rfl⟩ rfl) (fun d hd => loop_len (hp d hd)) (by rw [one_len tl_bar]; omega)) (by rw [tl_bar]))) ?_
  refine sv_ret0 (ev_cast (ev_fs (ys := [r, "(", mk (TL.joinL [124] (ls.map fmtLoop)), ")"]) (.cons (ev_fmt (ev_var rfl nofun) (by rw [hrl]; exact Nat.le_trans (rule_len hr) (by decide))) (.cons ev_str (.cons (ev_fmt (ev_var rfl nofun) (by rw [mk_len]; exact Nat.le_trans (show _ ≤ 466 by omega) (by decide))) (.cons ev_str .nil)))) Str.empty ?_) ?_)
  · simp only [List.map_cons, List.map_nil, List.sum_cons, List.sum_nil, mk_len, one_len tl_open, one_len tl_close]
    have : Str.empty.length = 0 := rfl
    have : sizeLine = 16777216 := rfl
    omega
  · show Sl.d (.str ((((Str.empty ++ r) ++ "(") ++ mk (TL.joinL [124] (ls.map fmtLoop))) ++ ")")) = _
    congr 2
    refine TL.ext_tl ?_
    rw [TL.tl_append, TL.tl_append, TL.tl_append, TL.tl_append, tl_open, tl_close, tl_of_mk, tl_of_mk]
    show ((([] ++ TL.tl r) ++ [40]) ++ TL.joinL [124] (ls.map fmtLoop)) ++ [41] = TL.tl r ++ ([40] ++ (TL.joinL [124] (ls.map fmtLoop) ++ [41]))
    simp only [List.nil_append, List.append_assoc]
theorem ev_fshape {E : XK} {es : List Sl} {m m1 : M} {t : TA} {v : PyData} (h : EvA K t es m [.d v] m1) (hv : shapeM v = true) : EvE K (tCall (spD K 1 (pureG R_fshape)) [] E t) es m (.d (.str (mk (fmtShape v)))) m1 := ev_pure h (ds := [v]) rfl ⟨v, rfl, hv, rfl⟩ rfl
abbrev R_flayers (n : Nat) : List PyData → PyData → Prop := fun ds y => ∃ ls, ds = [.tuple ls] ∧ ls.length ≤ 4 ∧ (∀ l, l ∈ ls → nestedM n l = true) ∧ y = .str (mk (fmtLayersF (fmtLayer n) ls))
abbrev R_flayer (n : Nat) : List PyData → PyData → Prop := fun ds y => ∃ v, ds = [v] ∧ nestedM n v = true ∧ y = .str (mk (fmtLayer n v))
/-- a group of level n + 1 -/
abbrev R_fgroup (n : Nat) : List PyData → PyData → Prop := fun ds y => ∃ ls o c mt, ds = [.tuple [.str "group", .tuple ls, o, c, mt]] ∧ ls.length ≤ 4 ∧ (∀ l, l ∈ ls → nestedM n l = true) ∧ opacityM o = true ∧ (isNone c || shapeM c) = true ∧ matrixM mt = true ∧ y = .str (mk (fmtLayer (n + 1) (.tuple [.str "group", .tuple ls, o, c, mt])))
theorem c_fgroup {n k : Nat} (hn : n ≤ 1) (hk : 3 ≤ k) (TD : DefT K mg "format_group" st_format_group ["group"]) (D_join_numbers : PureC P w K mg base 1 "join_numbers" ["numbers", "sign"] R_nums) (D_format_shape : PureC P w K mg base 3 "format_shape" ["shape"] R_fshape)
    (D_format_layers : PureC P w K mg base k "format_layers" ["layers"] (R_flayers n)) : PureC P w K mg base (k + 1) "format_group" ["group"] (R_fgroup n) := by
  refine mkPure TD S_format_group fun f cdv A outer s H E hr => ?_
  refine ⟨_, (pss_cons (ps_asg (pv 0) (kTupG (K := K) rfl (pgs_cons (pg_name (i := 1) S_format_group.nd rfl (Or.inl rfl)) (pgs_cons (pg_name (i := 2) S_format_group.nd rfl (Or.inl rfl)) (pgs_cons (pg_name (i := 3) S_format_group.nd rfl (Or.inl rfl)) (pgs_cons (pg_name (i := 4) S_format_group.nd rfl (Or.inl rfl)) (pgs_cons (pg_name (i := 5) S_format_group.nd rfl (Or.inl rfl)) pgs_nil)))))))
      (pss_cons (ps_set (i := 6) S_format_group.nd rfl (Or.inl rfl) (pe_ifExp (pt_cmpR op_isN (pv 4) pe_non (nomark _)) pe_str (pe_def D_format_shape (hr.mono (by omega)) (by rfl) pass0 (pa_cons (pv 4) pa_nil))))
      (pss_cons (ps_set (i := 7) S_format_group.nd rfl (Or.inl rfl) (pe_def D_format_layers (hr.mono (by omega)) (by rfl) pass0 (pa_cons (pv 2) pa_nil)))
      (pss_one (ps_ret (kBm (K := K) PySem.F.plainAttrs_str PySem.F.slot_str_join PySem.F.type_str_join (kJoin (K := K)) pe_str (pa_cons (pe_lst (pa_cons pe_str (pa_cons (pe_def D_join_numbers (hr.mono (by omega)) (by rfl) pass0 (pa_cons (pv 5) (pa_cons pe_str pa_nil))) (pa_cons (pe_def D_join_numbers (hr.mono (by omega)) (by rfl) pass0 (pa_cons (pv 3) (pa_cons pe_str pa_nil))) (pa_cons (pv 6) (pa_cons (pe_joined (PJ.cons pe_str (PJ.cons (pe_fmt (pv 7)) (PJ.cons pe_str PJ.nil)))) pa_nil)))))) pa_nil))))))), ?_⟩
  rintro ds m y hl ⟨ls, o, c, mt, rfl, h4, hn', ho, hc, hm, rfl⟩
  have hin := layers_len h4 hn'
  have hB := layB_small (show n ≤ 2 by omega)
  refine sv_seq (es1 := [.d (.tuple [.str "group", .tuple ls, o, c, mt]), .d (.str "group"), .d (.tuple ls), .d o, .d c, .d mt, .no, .no]) (m1 := m) (sv_asg (ev_var rfl nofun) (gv_tup (gvs_cons gv_name (gvs_cons gv_name (gvs_cons gv_name (gvs_cons gv_name (gvs_cons gv_name gvs_nil))))) rfl)) ?_
  refine sv_seq (es1 := [.d (.tuple [.str "group", .tuple ls, o, c, mt]), .d (.str "group"), .d (.tuple ls), .d o, .d c, .d mt, .d (.str (mk (clipT c))), .no]) (m1 := m) (sv_set ?clip) ?_
  case clip =>
    cases hN : isNone c with
    | true =>
      refine ev_cast (ev_ifT (eb_cast (eb_test (ev_op (ev_var rfl nofun) ev_non o_isN)) hN) ev_str) ?_
      cases c <;> first | (cases hN; done) | exact congrArg (fun s => Sl.d (.str s)) (s_of tl_dash)
    | false =>
      rw [hN, Bool.false_or] at hc
      refine ev_cast (ev_ifF (eb_cast (eb_test (ev_op (ev_var rfl nofun) ev_non o_isN)) hN) (ev_fshape (arg1 (ev_var rfl nofun)) hc)) ?_
      cases c <;> first | (cases hN; done) | rfl
  refine sv_seq (es1 := [.d (.tuple [.str "group", .tuple ls, o, c, mt]), .d (.str "group"), .d (.tuple ls), .d o, .d c, .d mt, .d (.str (mk (clipT c))), .d (.str (mk (fmtLayersF (fmtLayer n) ls)))]) (m1 := m) (sv_set (ev_pure (arg1 (ev_var rfl nofun)) (ds := [.tuple ls]) rfl ⟨ls, rfl, h4, hn', rfl⟩ rfl)) ?_
  have fs : ∀ es : List Sl, es[7]? = some (.d (.str (mk (fmtLayersF (fmtLayer n) ls)))) → EvE K (fun σ H Q => tJs [tC (.str "["), tFmt (tVar 7), tC (.str "]")] Str.empty σ H fun out H1 => Q (.str out) H1) es m (.d (.str (mk ([91] ++ (fmtLayersF (fmtLayer n) ls ++ [93]))))) m := fun es he => by
    refine ev_cast (ev_fs (ys := ["[", mk (fmtLayersF (fmtLayer n) ls), "]"]) (.cons ev_str (.cons (ev_fmt (ev_var he nofun) ?_) (.cons ev_str .nil))) Str.empty ?_) ?_
    · rw [mk_len]
      have : sizeLine = 16777216 := rfl
      omega
    · simp only [List.map_cons, List.map_nil, List.sum_cons, List.sum_nil, mk_len, one_len tl_sopen, one_len tl_sclose]
      have : Str.empty.length = 0 := rfl
      have : sizeLine = 16777216 := rfl
      omega
    · show Sl.d (.str (((Str.empty ++ "[") ++ mk (fmtLayersF (fmtLayer n) ls)) ++ "]")) = _
      congr 2
      refine TL.ext_tl ?_
      rw [TL.tl_append, TL.tl_append, TL.tl_append, tl_sopen, tl_sclose, tl_of_mk, tl_of_mk]
      show (([] ++ [91]) ++ fmtLayersF (fmtLayer n) ls) ++ [93] = [91] ++ (fmtLayersF (fmtLayer n) ls ++ [93])
      simp only [List.nil_append, List.append_assoc]
  have hpc : ∀ g, g ∈ [wGroup, fmtNums 46 mt, fmtNums 47 o, clipT c, [91] ++ (fmtLayersF (fmtLayer n) ls ++ [93])] → g.length ≤ 4 * (layB n + 3) + 2 := by
    intro p hp
    have up := layB_up n
    simp only [List.mem_cons, List.not_mem_nil, or_false] at hp
    rcases hp with rfl | rfl | rfl | rfl | rfl
    · show 5 ≤ 4 * (layB n + 3) + 2
      omega
    · exact Nat.le_trans (nums_len (matrix_short hm)) (by omega)
    · exact Nat.le_trans (nums_len (opacity_short ho)) (by omega)
    · exact Nat.le_trans (clip_len hc) (by omega)
    · simp only [List.length_append, List.length_cons, List.length_nil]
      omega
  refine sv_ret0 (ev_cast (ev_join (a := " ") (gs := [wGroup, fmtNums 46 mt, fmtNums 47 o, clipT c, [91] ++ (fmtLayersF (fmtLayer n) ls ++ [93])]) ev_str (ev_lst (ea_cons ev_str (ea_cons (ev_nums (arg2 (ev_var rfl nofun) ev_str) tl_dot (matrix_short hm)) (ea_cons (ev_nums (arg2 (ev_var rfl nofun) ev_str) tl_slash (opacity_short ho)) (ea_cons (ev_var rfl nofun) (ea_cons (fs _ rfl) ea_nil))))) ?e (by simp)) hpc (by rw [one_len tl_space]; simp only [List.length_cons, List.length_nil]; omega)) ?_)
  case e => rw [s_of tl_group]; rfl
  · rw [tl_space, fmt_group]
end
end K30

set_option Elab.async false
set_option linter.all false
set_option maxRecDepth 100000
set_option maxHeartbeats 4000000
namespace K30
variable [DL.Tbs]
open PySem PySem.Spec PyProof.Rows L2 DL HX TX SX
section
variable {P : Program} {w : World} {K : PySem.W.Frag} {mg : Str → Option Value} {base : Heap}
theorem str_neq {a b : Str} (h : a ≠ b) : decide (a = b) = false := decide_eq_false h
/-- the texts of a layer's words -/
theorem c_flayer {n k : Nat} (hn : n ≤ 2) (hk : 3 ≤ k) (TD : DefT K mg "format_layer" st_format_layer ["layer"]) (D_join_numbers : PureC P w K mg base 1 "join_numbers" ["numbers", "sign"] R_nums) (D_format_shape : PureC P w K mg base 3 "format_shape" ["shape"] R_fshape)
    {R : List PyData → PyData → Prop} (D_format_group : PureC P w K mg base k "format_group" ["group"] R) (hR : ∀ j, n = j + 1 → R = R_fgroup j) : PureC P w K mg base (k + 1) "format_layer" ["layer"] (R_flayer n) := by
  refine mkPure TD S_format_layer fun f cdv A outer s H E hr => ?_
  have hu := hr.units
  refine ⟨_, (pss_cons (ps_if (pt_cmpR (kEq (K := K) hu) (pe_ix (kIx (K := K)) (pv 0) pe_int (fun _ _ => rfl)) pe_str (nomark _)) (pss_one (ps_ret (pe_def D_format_group (hr.mono (by omega)) (by rfl) pass0 (pa_cons (pv 0) pa_nil)))) pss_nil)
      (pss_cons (ps_set (i := 1) S_format_layer.nd rfl (Or.inl rfl) (pe_lst (pa_cons (pe_ix (kIx (K := K)) (pv 0) pe_int (fun _ _ => rfl)) (pa_cons (pe_def D_format_shape (hr.mono (by omega)) (by rfl) pass0 (pa_cons (pe_ix (kIx (K := K)) (pv 0) pe_int (fun _ _ => rfl)) pa_nil)) pa_nil))))
      (pss_cons (ps_if (pt_cmpR (kEq (K := K) hu) (pe_ix (kIx (K := K)) (pv 0) pe_int (fun _ _ => rfl)) pe_str (nomark _)) (pss_one (ps_expr (kBm (K := K) PySem.F.plainAttrs_list PySem.F.slot_list_append PySem.F.type_list_append mt_append (pv 1) (pa_cons (pe_def D_join_numbers (hr.mono (by omega)) (by rfl) pass0 (pa_cons (pe_ix (kIx (K := K)) (pv 0) pe_int (fun _ _ => rfl)) (pa_cons pe_str pa_nil))) pa_nil)))) pss_nil)
      (pss_cons (ps_expr (kBm (K := K) PySem.F.plainAttrs_list PySem.F.slot_list_append PySem.F.type_list_append mt_append (pv 1) (pa_cons (pe_def D_join_numbers (hr.mono (by omega)) (by rfl) pass0 (pa_cons (pe_ix (kIx (K := K)) (pv 0) (pe_un un_neg pe_int) (fun _ _ => rfl)) (pa_cons pe_str pa_nil))) pa_nil)))
      (pss_one (ps_ret (kBm (K := K) PySem.F.plainAttrs_str PySem.F.slot_str_join PySem.F.type_str_join (kJoin (K := K)) pe_str (pa_cons (pv 1) pa_nil)))))))), ?_⟩
  rintro ds m y hl ⟨v, rfl, hv, rfl⟩
  rcases nested_parts hv with ⟨s, c, o, rfl, hs, hc, ho⟩ | ⟨s, o, rfl, hs, ho⟩ | ⟨j, ls, o, c, mt, e, rfl, h4, hn', ho, hc, hm⟩
  · refine sv_ifsF (m1 := m) (eb_cast (eb_test (ev_op (ev_op (ev_var rfl nofun) ev_int (o_ixT (j := 0) rfl rfl)) ev_str o_eqS)) (str_neq (by decide))) ?_
    refine sv_seq (es1 := [.d (.tuple [.str "fill", s, c, o]), .c m.length]) (m1 := m ++ [[.str "fill", .str (mk (fmtShape s))]]) (sv_cell (el_lst (ds := [.str "fill", .str (mk (fmtShape s))]) (arg2 (ev_op (ev_var rfl nofun) ev_int (o_ixT (j := 0) rfl rfl)) (ev_fshape (arg1 (ev_op (ev_var rfl nofun) ev_int (o_ixT (j := 1) rfl rfl))) hs)) rfl (by simp))) ?_
    refine sv_seq (es1 := [.d (.tuple [.str "fill", s, c, o]), .c m.length]) (m1 := m ++ [[.str "fill", .str (mk (fmtShape s)), .str (mk (fmtNums 46 c))]]) (sv_ifT (m1 := m ++ [[.str "fill", .str (mk (fmtShape s))]]) (eb_cast (eb_test (ev_op (ev_op (ev_var rfl nofun) ev_int (o_ixT (j := 0) rfl rfl)) ev_str o_eqS)) (decide_eq_true rfl)) ?a) ?_
    case a =>
      have q := sv_append (K := K) (n := m.length) (es := [.d (.tuple [.str "fill", s, c, o]), .c m.length]) (i := 1) (j := m.length) (m := m ++ [[.str "fill", .str (mk (fmtShape s))]]) (ds := [.str "fill", .str (mk (fmtShape s))]) rfl (ev_nums (E := E0) (arg2 (ev_op (ev_var (i := 0) rfl nofun) ev_int (o_ixT (j := 2) rfl rfl)) ev_str) tl_dot (colour_short hc)) last_get ⟨_, last_get⟩ (by simp)
      rw [last_set] at q
      exact q
    refine sv_seq (es1 := [.d (.tuple [.str "fill", s, c, o]), .c m.length]) (m1 := m ++ [[.str "fill", .str (mk (fmtShape s)), .str (mk (fmtNums 46 c)), .str (mk (fmtNums 47 o))]]) ?b ?_
    case b =>
      have q := sv_append (K := K) (n := m.length) (es := [.d (.tuple [.str "fill", s, c, o]), .c m.length]) (i := 1) (j := m.length) (m := m ++ [[.str "fill", .str (mk (fmtShape s)), .str (mk (fmtNums 46 c))]]) (ds := [.str "fill", .str (mk (fmtShape s)), .str (mk (fmtNums 46 c))]) rfl (ev_nums (E := E0) (arg2 (ev_op (ev_var (i := 0) rfl nofun) (ev_un ev_int o_neg) (o_ixLast rfl)) ev_str) tl_slash (opacity_short ho)) last_get ⟨_, last_get⟩ (by simp)
      rw [last_set] at q
      exact q
    refine sv_retA (ev_cast (ev_joinC (a := " ") (gs := [wFill, fmtShape s, fmtNums 46 c, fmtNums 47 o]) (B := 466) (j := m.length) ev_str rfl (last_get.trans (by rw [s_of tl_fill]; rfl)) (fun p hp => ?_) (by rw [one_len tl_space]; simp)) (by rw [tl_space, fmt_fill])) (List.prefix_append _ _)
    simp only [List.mem_cons, List.not_mem_nil, or_false] at hp
    rcases hp with rfl | rfl | rfl | rfl
    · decide
    · exact shape_len hs
    · exact Nat.le_trans (nums_len (colour_short hc)) (by decide)
    · exact Nat.le_trans (nums_len (opacity_short ho)) (by decide)
  · refine sv_ifsF (m1 := m) (eb_cast (eb_test (ev_op (ev_op (ev_var rfl nofun) ev_int (o_ixT (j := 0) rfl rfl)) ev_str o_eqS)) (str_neq (by decide))) ?_
    refine sv_seq (es1 := [.d (.tuple [.str "rub", s, o]), .c m.length]) (m1 := m ++ [[.str "rub", .str (mk (fmtShape s))]]) (sv_cell (el_lst (ds := [.str "rub", .str (mk (fmtShape s))]) (arg2 (ev_op (ev_var rfl nofun) ev_int (o_ixT (j := 0) rfl rfl)) (ev_fshape (arg1 (ev_op (ev_var rfl nofun) ev_int (o_ixT (j := 1) rfl rfl))) hs)) rfl (by simp))) ?_
    refine sv_ifsF (m1 := m ++ [[.str "rub", .str (mk (fmtShape s))]]) (eb_cast (eb_test (ev_op (ev_op (ev_var rfl nofun) ev_int (o_ixT (j := 0) rfl rfl)) ev_str o_eqS)) (str_neq (by decide))) ?_
    refine sv_seq (es1 := [.d (.tuple [.str "rub", s, o]), .c m.length]) (m1 := m ++ [[.str "rub", .str (mk (fmtShape s)), .str (mk (fmtNums 47 o))]]) ?d ?_
    case d =>
      have q := sv_append (K := K) (n := m.length) (es := [.d (.tuple [.str "rub", s, o]), .c m.length]) (i := 1) (j := m.length) (m := m ++ [[.str "rub", .str (mk (fmtShape s))]]) (ds := [.str "rub", .str (mk (fmtShape s))]) rfl (ev_nums (E := E0) (arg2 (ev_op (ev_var (i := 0) rfl nofun) (ev_un ev_int o_neg) (o_ixLast rfl)) ev_str) tl_slash (opacity_short ho)) last_get ⟨_, last_get⟩ (by simp)
      rw [last_set] at q
      exact q
    refine sv_retA (ev_cast (ev_joinC (a := " ") (gs := [wRub, fmtShape s, fmtNums 47 o]) (B := 466) (j := m.length) ev_str rfl (last_get.trans (by rw [s_of tl_rub]; rfl)) (fun p hp => ?_) (by rw [one_len tl_space]; simp)) (by rw [tl_space, fmt_rub])) (List.prefix_append _ _)
    simp only [List.mem_cons, List.not_mem_nil, or_false] at hp
    rcases hp with rfl | rfl | rfl
    · decide
    · exact shape_len hs
    · exact Nat.le_trans (nums_len (opacity_short ho)) (by decide)
  · cases e
    cases hR j rfl
    exact sv_ifsT (m1 := m) (eb_cast (eb_test (ev_op (ev_op (ev_var rfl nofun) ev_int (o_ixT (j := 0) rfl rfl)) ev_str o_eqS)) (decide_eq_true rfl)) rfl (sv_ret0 (ev_pure (arg1 (ev_var rfl nofun)) (ds := [.tuple [.str "group", .tuple ls, o, c, mt]]) rfl ⟨ls, o, c, mt, rfl, h4, hn', ho, hc, hm, rfl⟩ rfl))
theorem c_flayers {n k : Nat} (hn : n ≤ 2) (TD : DefT K mg "format_layers" st_format_layers ["layers"]) (h_BETWEEN_LAYERS : ∃ t, mg "BETWEEN_LAYERS" = some (.str " & " t)) (D_format_layer : PureC P w K mg base k "format_layer" ["layer"] (R_flayer n)) :
    PureC P w K mg base (k + 1) "format_layers" ["layers"] (R_flayers n) := by
  refine mkPure TD S_format_layers fun f cdv A outer s H E hr => ?_
  refine ⟨_, (pss_one (ps_ret (kBm (K := K) PySem.F.plainAttrs_str PySem.F.slot_str_join PySem.F.type_str_join (kJoin (K := K)) (pe_glob (v := .str " & ") (by rfl) h_BETWEEN_LAYERS.choose_spec ⟨_, rfl⟩) (pa_cons (pe_lc (own := [("layer", 1)]) (by rfl) S_format_layers.nd (kSeq (K := K) (pv 0)) (blkOk_by (N := N_format_layers) (sc := defScope st_format_layers) (by decide +kernel)) (fun _ _ _ _ _ => pg_name (i := 1) S_format_layers.nd rfl (by first | exact Or.inl rfl | exact Or.inr rfl)) (fun _ _ _ _ _ => pts_nil) (fun _ _ _ _ _ => (pe_def D_format_layer (hr.mono (by omega)) (by rfl) pass0 (pa_cons (pv 1) pa_nil)))) pa_nil)))), ?_⟩
  rintro ds m y hl ⟨ls, rfl, h4, hn', rfl⟩
  have hB := layB_small hn
  have e3 : (" & " : Str).length = 3 := by rw [TL.len_tl, tl_sep]; rfl
  refine sv_ret0 (ev_cast (ev_joinMap (a := " & ") (g := fmtLayer n) (B := layB n) ev_str (ei_seqT (ds := ls) (ev_var rfl nofun)) (by omega) (fun d hd => ev_pure (arg1 (ev_var rfl nofun)) (ds := [d]) rfl ⟨d, rfl, hn' d hd, rfl⟩ rfl) (fun d hd => layer_len n (hn' d hd)) ?_) (by rw [tl_sep]; rfl))
  rw [e3]
  have : ls.length * (layB n + 3) ≤ 4 * (layB n + 3) := Nat.mul_le_mul_right _ h4
  omega
abbrev R_fdrawing : List PyData → PyData → Prop := fun ds y => ∃ ls, ds = [.tuple ls] ∧ okLs 2 (.tuple ls) = true ∧ drawM (.tuple ls) = true ∧ y = .str (mk (fmtLayersF (fmtLayer 2) ls))
theorem draw_parts {ls : List PyData} (h : drawM (.tuple ls) = true) : ls.length ≤ 4 ∧ ∀ l, l ∈ ls → nestedM 2 l = true := by
  have h : ((decide ((ls.length : Int) ≤ 4) && ls.all (nestedM 2)) && decide (ptsM (shapesM 2 ls) ≤ 60)) = true := h
  rw [Bool.and_eq_true, Bool.and_eq_true, decide_eq_true_eq, List.all_eq_true] at h
  exact ⟨by omega, h.1.2⟩
theorem c_fdrawing {k : Nat} (TD : DefT K mg "format_drawing" st_format_drawing ["drawing"]) (D_check_drawing : PureC P w K mg base k "check_drawing" ["value"] R_check) (D_format_layers : PureC P w K mg base k "format_layers" ["layers"] (R_flayers 2)) :
    PureC P w K mg base (k + 1) "format_drawing" ["drawing"] R_fdrawing := by
  refine mkPure TD S_format_drawing fun f cdv A outer s H E hr => ?_
  refine ⟨_, (pss_cons (ps_expr (pe_def D_check_drawing (hr.mono (by omega)) (by rfl) pass0 (pa_cons (pv 0) pa_nil)))
      (pss_one (ps_ret (pe_def D_format_layers (hr.mono (by omega)) (by rfl) pass0 (pa_cons (pv 0) pa_nil))))), ?_⟩
  rintro ds m y hl ⟨ls, rfl, hk, hd, rfl⟩
  obtain ⟨h4, hn⟩ := draw_parts hd
  refine sv_seq (es1 := [.d (.tuple ls)]) (m1 := m) (sv_drop (ev_pure (arg1 (ev_var rfl nofun)) (ds := [.tuple ls]) rfl ⟨.tuple ls, rfl, hk, hd, rfl⟩ rfl)) (sv_ret0 (ev_pure (arg1 (ev_var rfl nofun)) (ds := [.tuple ls]) rfl ⟨ls, rfl, h4, hn, rfl⟩ rfl))
end
end K30

set_option Elab.async false
set_option linter.all false
set_option maxRecDepth 100000
namespace SX
variable [DL.Tbs]
open PySem PySem.Spec PyProof.Rows L2 HotX L2H LamX DL HX TX
def tTr (K : PySem.W.Frag) (ta : TE) : TT := fun σ H Q => ta σ H fun x H' => ∃ k, TruV K x H' k ∧ Q k H'
theorem kTru {X : Cx} {K : PySem.W.Frag} {a : Expr} {ta : TE} (h : PE X a ta) (he : ∀ whole, isTrue a X.env whole = (do let v ← whole; standAt a.pos; holding [v] (truthy v)) := by intro _; rfl) (hK : X.K = K := by rfl) : PT X a (tTr K ta) := hK ▸ pt_truth h he
/-! ### lengths of the parts of a text -/
theorem mem_le {S : L} : ∀ {ps : List L} {p : L}, p ∈ ps → p.length ≤ (TL.joinL S ps).length
  | [], p, h => by cases h
  | [q], p, h => by rw [List.mem_singleton.mp h]; exact Nat.le_refl _
  | q :: q' :: r, p, h => by
    rw [joinL_cons (by simp), List.length_append, List.length_append]
    rcases List.mem_cons.mp h with rfl | h
    · omega
    · have := mem_le (S := S) h
      omega
theorem count_le {S : L} (hS : 1 ≤ S.length) : ∀ (ps : List L), ps.length ≤ (TL.joinL S ps).length + 1
  | [] => by simp
  | [q] => by simp
  | q :: q' :: r => by
    rw [joinL_cons (by simp), List.length_append, List.length_append, List.length_cons]
    have := count_le hS (q' :: r)
    omega
theorem spl_le {s : Nat} {l p : L} (h : p ∈ TL.spl [s] 0 [] l) : p.length ≤ l.length := by
  have := mem_le (S := [s]) h
  rw [join_split (by simp)] at this
  exact this
theorem spl_count (S l : L) (hS : 1 ≤ S.length) : (TL.spl S 0 [] l).length ≤ l.length + 1 := by
  have := count_le hS (TL.spl S 0 [] l)
  rw [join_split (by intro e; rw [e] at hS; cases hS)] at this
  exact this
theorem splS_le {S l p : L} (hS : S ≠ []) (h : p ∈ TL.spl S 0 [] l) : p.length ≤ l.length := by
  have := mem_le (S := S) h
  rw [join_split hS] at this
  exact this
theorem spm_le {s n : Nat} {l p : L} (h : p ∈ spm [s] n l) : p.length ≤ l.length := by
  have := mem_le (S := [s]) h
  rw [join_spm] at this
  exact this
theorem strs_mk (ys : List Str) : ys.map PyData.str = (ys.map TL.tl).map fun g => PyData.str (mk g) := by
  rw [List.map_map]
  exact List.map_congr_left fun y _ => congrArg PyData.str (str_mk y)
theorem plain_kind {b : Str} (h : (TL.tl b).all (· < 256) = true) : ∀ x : Str, ¬ Builtin.Str.strKind x < Builtin.Str.strKind b := fun x => TL.kind_ok (by
  rw [← Array.all_toList]
  exact h)
section
variable {K : PySem.W.Frag} {te tb tk : TE} {es : List Sl} {m m1 : M}
theorem eb_truC {i j : Nat} {ds : List PyData} (hi : es[i]? = some (.c j)) (hm : m[j]? = some ds) : EvB K (tTr K (tVar i)) es m (!ds.isEmpty) m := by
  intro σ H H0 ρ w e Q q
  rcases e.2 i _ hi with z | ⟨v, h1, p, rfl, h2⟩
  · cases z
  obtain ⟨vs, g1, g2⟩ := cell_get w h2 hm
  refine ⟨_, h1, _, ?_, q H H0 .refl w⟩
  have hl := dpAll_len g2
  have e2 : ds.isEmpty = vs.isEmpty := by
    cases ds <;> cases vs <;> first | rfl | simp at hl
  rw [e2]
  exact .inl ⟨vs, .inl (.inl g1), rfl⟩
abbrev rSplit : V → List V → Hp → VK → Prop := fun x xs H Q => ∃ a b, x = V.str a ∧ xs = [V.str b] ∧ (b.length == 0) = false ∧ a.length + 2 ≤ sizeLine ∧ rNewStrs (Txt.split a b) H Q
abbrev rSplitM : V → List V → Hp → VK → Prop := fun x xs H Q => ∃ (a b : Str) (k : Int), x = V.str a ∧ xs = [V.str b, V.int k] ∧ (b.length == 0) = false ∧ -(2 ^ 63) ≤ k ∧ k < 2 ^ 63 ∧ a.length + 2 ≤ sizeLine ∧ rNewStrs (Txt.splitMax a b k) H Q
abbrev rPart : V → List V → Hp → VK → Prop := fun x xs H Q => ∃ a b, x = V.str a ∧ xs = [V.str b] ∧ (b.length == 0) = false ∧ a.length ≤ sizeLine ∧ ∀ p, H p = none → Q (.ref p) (upd H p (.tup [.str (Txt.partition a b).1, .str (Txt.partition a b).2.1, .str (Txt.partition a b).2.2]))
/-- split at one sign or at a plain separator -/
theorem ev_split {a b : Str} (h : EvE K te es m (.d (.str a)) m) (h2 : EvE K tb es m (.d (.str b)) m) (hb : TL.tl b ≠ []) (hk : (TL.tl b).all (· < 256) = true) (hl : a.length ≤ 10000) :
    EvE K (tBM K "str" rSplit te (tCons tb tNil)) es m (.d (.list ((TL.spl (TL.tl b) 0 [] (TL.tl a)).map fun g => .str (mk g)))) m := by
  have hz : sizeLine = 16777216 := rfl
  have hbl : (b.length == 0) = false := by
    rw [TL.len_tl]
    cases e : TL.tl b with
    | nil => exact absurd e hb
    | cons c r => rfl
  have q := ev_bmS (K := K) (r := rSplit) h (arg1 h2) (c_split (a := a) (b := b) hbl (by omega))
  rw [strs_mk, TL.split_spl a b hb (plain_kind hk a)] at q
  exact q
theorem ev_splitMax {a b : Str} {k : Nat} (h : EvE K te es m (.d (.str a)) m) (h2 : EvE K tb es m (.d (.str b)) m) (h3 : EvE K tk es m (.d (.int (k : Int))) m) (hk1 : 1 ≤ k) (hk4 : k ≤ 10) (hb : TL.tl b ≠ []) (hk : (TL.tl b).all (· < 256) = true) (hl : a.length ≤ 10000) :
    EvE K (tBM K "str" rSplitM te (tCons tb (tCons tk tNil))) es m (.d (.list ((spm (TL.tl b) k (TL.tl a)).map fun g => .str (mk g)))) m := by
  have hz : sizeLine = 16777216 := rfl
  have hbl : (b.length == 0) = false := by
    rw [TL.len_tl]
    cases e : TL.tl b with
    | nil => exact absurd e hb
    | cons c r => rfl
  have q := ev_bmS (K := K) (r := rSplitM) h (arg2 h2 h3) (c_splitMax (a := a) (b := b) (k := (k : Int)) hbl (by omega) (by omega) (by omega))
  rw [strs_mk, splitMax_spm a b k hk1 hb (plain_kind hk a)] at q
  exact q
theorem ev_partition {a b : Str} {c : Nat} (h : EvE K te es m (.d (.str a)) m) (h2 : EvE K tb es m (.d (.str b)) m) (hb : TL.tl b = [c]) (hl : a.length ≤ 10000) :
    EvE K (tBM K "str" rPart te (tCons tb tNil)) es m
      (.d (.tuple (match TL.par [c] [] (TL.tl a) with
        | some (x, y) => [.str (mk x), .str b, .str (mk y)]
        | none => [.str a, .str Str.empty, .str Str.empty]))) m := by
  have hz : sizeLine = 16777216 := rfl
  have hbl : (b.length == 0) = false := by rw [TL.len_tl, hb]; rfl
  have q := ev_bmS (K := K) (r := rPart) h (arg1 h2) (c_partition (a := a) (b := b) hbl (by omega))
  rw [TL.partition_par a b (by rw [hb]; simp), hb] at q
  refine ev_cast q ?_
  cases TL.par [c] [] (TL.tl a) with
  | none => rfl
  | some p => rfl
end
theorem mapO_map {α β γ : Type} {f : β → Option γ} {g : α → β} : ∀ l : List α, mapO f (l.map g) = mapO (fun a => f (g a)) l
  | [] => rfl
  | a :: l => by
    rw [List.map_cons]
    show (match f (g a) with
      | none => none
      | some b => match mapO f (l.map g) with
        | none => none
        | some bs => some (b :: bs)) = _
    rw [mapO_map l]
    rfl
theorem ends_one {t b : Str} {c : Nat} (hb : TL.tl b = [c]) : Txt.endswith t b = decide ((TL.tl t).getLast? = some c) := by
  have eb : b = ⟨#[c]⟩ := TL.ext_tl hb
  subst eb
  have hl := TL.len_tl t
  unfold Txt.endswith
  by_cases h : (TL.tl t) = []
  · rw [h] at hl
    have h0 : t.length = 0 := hl
    rw [h]
    have : (decide (0 + (⟨#[c]⟩ : Str).length ≤ t.length)) = false := decide_eq_false (by rw [h0]; show ¬ 0 + 1 ≤ 0; omega)
    rw [this]; rfl
  · have h1 : 1 ≤ t.length := by
      rw [hl]
      cases e : TL.tl t with
      | nil => exact absurd e h
      | cons a r => rw [List.length_cons]; omega
    have h2 : (decide (0 + (⟨#[c]⟩ : Str).length ≤ t.length)) = true := decide_eq_true (by show 0 + 1 ≤ t.length; omega)
    rw [h2, Bool.true_and]
    have key := StrLaws.subAt_one t c (t.length - 1)
    rw [Bool.eq_iff_iff, decide_eq_true_eq]
    show Builtin.Str.subAt t ⟨#[c]⟩ (t.length - 1) = true ↔ _
    rw [List.getLast?_eq_getElem?, ← hl]
    exact ⟨fun z => key.mp ⟨by show t.length - 1 + 1 ≤ t.length; omega, z⟩, fun z => (key.mpr z).2⟩
theorem starts_one {t b : Str} {c : Nat} (hb : TL.tl b = [c]) : Txt.startswith t b = decide ((TL.tl t).head? = some c) := by
  have eb : b = ⟨#[c]⟩ := TL.ext_tl hb
  subst eb
  have hl := TL.len_tl t
  unfold Txt.startswith
  by_cases h : (TL.tl t) = []
  · rw [h] at hl
    have h0 : t.length = 0 := hl
    rw [h]
    have : (decide (0 + (⟨#[c]⟩ : Str).length ≤ t.length)) = false := decide_eq_false (by rw [h0]; show ¬ 0 + 1 ≤ 0; omega)
    rw [this]; rfl
  · have h1 : 1 ≤ t.length := by
      rw [hl]
      cases e : TL.tl t with
      | nil => exact absurd e h
      | cons a r => rw [List.length_cons]; omega
    have h2 : (decide (0 + (⟨#[c]⟩ : Str).length ≤ t.length)) = true := decide_eq_true (by show 0 + 1 ≤ t.length; omega)
    rw [h2, Bool.true_and]
    have key := StrLaws.subAt_one t c 0
    rw [Bool.eq_iff_iff, decide_eq_true_eq, List.head?_eq_getElem?]
    exact ⟨fun z => key.mp ⟨by show 0 + 1 ≤ t.length; omega, z⟩, fun z => (key.mpr z).2⟩
theorem prefix_one {t b : Str} {c : Nat} (hb : TL.tl b = [c]) : TL.tl (Txt.removeprefix t b) = (match TL.tl t with
    | [] => []
    | a :: r => if a = c then r else a :: r) := by
  have eb : b = ⟨#[c]⟩ := TL.ext_tl hb
  subst eb
  have hl := TL.len_tl t
  rw [StrLaws.removeprefix_eq]
  have key := StrLaws.subAt_one t c 0
  cases e : TL.tl t with
  | nil =>
    rw [e] at hl
    have h0 : t.length = 0 := hl
    have : (decide (0 + (⟨#[c]⟩ : Str).length ≤ t.length)) = false := decide_eq_false (by rw [h0]; show ¬ 0 + 1 ≤ 0; omega)
    rw [this]
    exact e
  | cons a r =>
    rw [e] at hl
    have hl : t.length = r.length + 1 := hl
    have h2 : (decide (0 + (⟨#[c]⟩ : Str).length ≤ t.length)) = true := decide_eq_true (by show 0 + 1 ≤ t.length; omega)
    rw [h2, Bool.true_and]
    have e0 : t.cps.toList[0]? = some a := by
      have : t.cps.toList = a :: r := e
      rw [this]; rfl
    show _ = (if a = c then r else a :: r)
    by_cases h : a = c
    · subst h
      rw [if_pos (key.mpr e0).2, if_pos rfl]
      show (List.take (t.length - 1) (List.drop 1 t.cps.toList)) = r
      have : t.cps.toList = a :: r := e
      rw [this, hl]
      show List.take (r.length + 1 - 1) r = r
      rw [Nat.add_sub_cancel, List.take_length]
    · rw [if_neg (fun z => h (Option.some.inj (e0.symm.trans (key.mp ⟨by show 0 + 1 ≤ t.length; omega, z⟩)))), if_neg h]
      exact e
theorem count_one {t b : Str} {c : Nat} (hb : TL.tl b = [c]) : Txt.count t b = ((TL.tl t).count c : Int) := by
  have eb : b = ⟨#[c]⟩ := TL.ext_tl hb
  subst eb
  rw [PyProof.Rows.count_is]
  show PyProof.Rows.cnt c (TL.tl t) = _
  induction TL.tl t with
  | nil => rfl
  | cons a r ih =>
    rw [PyProof.Rows.cnt_cons, ih, List.count_cons]
    by_cases h : a = c
    · rw [if_pos h, if_pos (by rw [h]; exact beq_self_eq_true c)]; omega
    · rw [if_neg h, if_neg (by simpa using h)]; omega
end SX

set_option Elab.async false
set_option linter.all false
set_option maxRecDepth 100000
set_option maxHeartbeats 4000000
namespace K30
variable [DL.Tbs]
open PySem PySem.Spec PyProof.Rows L2 DL HX TX SX
section
variable {P : Program} {w : World} {K : PySem.W.Frag} {mg : Str → Option Value} {base : Heap} {D : Addr}
structure RaiseD (K : PySem.W.Frag) (D : Addr) : Prop where
  own : PySem.W.excIn K D [.type "ValueError", .type "Exception", .type "BaseException", .type "object"] "ValueError.__new__" = true
  kp : PySem.W.keepIn K (.ref D) = true
  bF : PySem.W.subIn K (.ref D) (.type "BaseException") = some true
  tF : PySem.W.typeIn K (.ref D) = some (.type "type")
theorem body_ret {n : Nat} {t : XK → TE} {es : List Sl} {m : M} {o : Option PyData} (h : EvX K t es m (resO D o) m) : BodyO K D n (fun E => tRet (t E)) es m o := by
  cases o with
  | none => exact sx_ret h
  | some y => exact fun E => sv_ret0 (h E)
theorem body_seq {n : Nat} {a b : XK → TS} {es es1 : List Sl} {m : M} {o : Option PyData} (h : ∀ E, Sv K n (a E) es m (.nx es1 m)) (h2 : BodyO K D n b es1 m o) : BodyO K D n (fun E => tSeq (a E) (b E)) es m o := by
  cases o with
  | none => exact sx_snd h h2
  | some y => exact fun E => sv_seq (h E) (h2 E)
theorem body_raise {n : Nat} {a b : XK → TS} {es : List Sl} {m : M} (h : SvX K n a es m D m) : BodyO K D n (fun E => tSeq (a E) (b E)) es m none := sx_fst h
/-! ### words -/
abbrev R_words : List PyData → Option PyData → Prop := fun ds o => ∃ (t : Str) (k : Nat), ds = [.str t, .int (k : Int)] ∧ 2 ≤ k ∧ k ≤ 4 ∧ t.length ≤ 10000 ∧
  o = (if (spm [32] (k - 1) (TL.tl t)).length = k then some (.list ((spm [32] (k - 1) (TL.tl t)).map fun g => .str (mk g))) else none)
theorem c_words (b_len : mg "len" = none) (TD : DefT K mg "split_words" st_split_words ["text", "many"]) (gD : mg "InvalidText" = some (.ref D)) (rD : RaiseD K D) : PureX P w K mg base D 1 "split_words" ["text", "many"] R_words := by
  refine mkPureX TD S_split_words fun f cdv A outer s H hr => ?_
  have hu := hr.units
  refine ⟨fun E => _, fun E => (pss_cons (ps_set (i := 2) S_split_words.nd rfl (Or.inl rfl) (kBm (K := K) PySem.F.plainAttrs_str PySem.F.slot_str_split PySem.F.type_str_split mt_splitMax (pv 0) (pa_cons pe_str (pa_cons (pe_op op_sub (pv 1) pe_int) pa_nil))))
      (pss_cons (ps_if (pt_cmpR (kNe (K := K) hu) (pe_callB (kLen (K := K)) (by rfl) b_len (by decide +kernel) (pa_cons (pv 2) pa_nil)) (pv 1) (nomark _)) (pss_one (L2N.ps_raise rfl takesN (L2N.pmk_own PySem.F.excBase_ValueError rD.own gD rD.kp (raises_own rD.bF rD.tF) (by rfl)))) pss_nil)
      (pss_one (ps_ret (pv 2))))), ?_⟩
  rintro ds m o hl ⟨t, k, rfl, h2, h4, ht, rfl⟩
  have e1 : EvE K (tBM K "str" rSplitM (tVar 0) (tCons (tC (.str " ")) (tCons (tOp (rI0 fun i j => .int (i - j)) (tVar 1) (tC (.int 1))) tNil))) [.d (.str t), .d (.int (k : Int)), .no] m (.d (.list ((spm [32] (k - 1) (TL.tl t)).map fun g => .str (mk g)))) m := by
    have q := ev_splitMax (K := K) (es := [.d (.str t), .d (.int (k : Int)), .no]) (m := m) (a := t) (b := " ") (k := k - 1) (te := tVar 0) (tb := tC (.str " ")) (tk := tOp (rI0 fun i j => .int (i - j)) (tVar 1) (tC (.int 1))) (ev_var rfl nofun) ev_str (ev_cast (ev_op (ev_var rfl nofun) ev_int o_i0) (by
      show Sl.d (.int ((k : Int) - 1)) = Sl.d (.int ((k - 1 : Nat) : Int))
      congr 2
      omega)) (by omega) (by omega) (by rw [tl_space]; simp) (by rw [tl_space]; decide) ht
    rw [tl_space] at q
    exact q
  generalize spm [32] (k - 1) (TL.tl t) = ws at e1
  have e2 : ∀ b, (!(((ws.map fun g => PyData.str (mk g)).length : Int) == (k : Int))) = b → EvB K (tTest (tOp (rNeU K) (tCB (fun xs H Q => ∃ x n, xs = [x] ∧ LenV K x H n ∧ Q (.int n) H) (tCons (tVar 2) tNil)) (tVar 1))) [.d (.str t), .d (.int (k : Int)), .d (.list (ws.map fun g => .str (mk g)))] m b m := fun b hb =>
    eb_cast (eb_test (ev_op (ev_cb (arg1 (ev_var rfl nofun)) (c_len rfl)) (ev_var rfl nofun) o_neI)) hb
  by_cases h : ws.length = k
  · rw [if_pos h]
    exact fun E => sv_seq (sv_set e1) (sv_ifsF (e2 false (by rw [List.length_map, h]; simp)) (sv_ret0 (ev_var rfl nofun)))
  · rw [if_neg h]
    exact sx_snd (fun E => sv_set e1) (sx_fst (sx_ifT (e2 true (by rw [List.length_map]; simp; omega)) (sx_raise rfl)))
/-! ### numbers -/
def dl (l : L) : L := match l with
  | [] => []
  | a :: r => if a = 45 then r else a :: r
theorem dl_len (l : L) : (dl l).length ≤ l.length := by
  cases l with
  | nil => exact Nat.le_refl _
  | cons a r =>
    show (if a = 45 then r else a :: r).length ≤ r.length + 1
    split
    · omega
    · exact Nat.le_refl _
theorem num_cases (l : L) : (readNum l = none ∧ (dl l).length ≠ 1) ∨ ∃ c, dl l = [c] ∧ ((readNum l = none ∧ (c < 48 ∨ 57 < c)) ∨ (48 ≤ c ∧ c ≤ 57 ∧ ((readNum l = none ∧ l = [45, 48]) ∨ (l ≠ [45, 48] ∧ ((l = [c] ∧ readNum l = some (.int ((c : Int) - 48))) ∨ (l = [45, c] ∧ c ≠ 48 ∧ readNum l = some (.int (-((c : Int) - 48)))))))) ) := by
  match l with
  | [] => exact .inl ⟨rfl, by decide⟩
  | [a] =>
    by_cases h : a = 45
    · subst h
      exact .inl ⟨rfl, by decide⟩
    · refine .inr ⟨a, by show (if a = 45 then [] else [a]) = [a]; rw [if_neg h], ?_⟩
      by_cases h2 : 48 ≤ a ∧ a ≤ 57
      · refine .inr ⟨h2.1, h2.2, .inr ⟨by simp, .inl ⟨rfl, ?_⟩⟩⟩
        show (if 48 ≤ a ∧ a ≤ 57 then some (PyData.int ((a : Int) - 48)) else none) = _
        rw [if_pos h2]
      · refine .inl ⟨?_, by omega⟩
        show (if 48 ≤ a ∧ a ≤ 57 then some (PyData.int ((a : Int) - 48)) else none) = _
        rw [if_neg h2]
  | [a, b] =>
    by_cases h : a = 45
    · subst h
      refine .inr ⟨b, rfl, ?_⟩
      by_cases h2 : 48 ≤ b ∧ b ≤ 57
      · refine .inr ⟨h2.1, h2.2, ?_⟩
        by_cases h3 : b = 48
        · subst h3
          exact .inl ⟨rfl, rfl⟩
        · refine .inr ⟨by simpa using h3, .inr ⟨rfl, h3, ?_⟩⟩
          show (if 45 = 45 ∧ 49 ≤ b ∧ b ≤ 57 then some (PyData.int (-((b : Int) - 48))) else none) = _
          rw [if_pos (by omega)]
      · refine .inl ⟨?_, by omega⟩
        show (if 45 = 45 ∧ 49 ≤ b ∧ b ≤ 57 then some (PyData.int (-((b : Int) - 48))) else none) = _
        rw [if_neg (by omega)]
    · refine .inl ⟨?_, ?_⟩
      · show (if a = 45 ∧ 49 ≤ b ∧ b ≤ 57 then some (PyData.int (-((b : Int) - 48))) else none) = _
        rw [if_neg (fun z => h z.1)]
      · show (if a = 45 then [b] else [a, b]).length ≠ 1
        rw [if_neg h]
        simp
  | a :: b :: c :: r =>
    refine .inl ⟨rfl, ?_⟩
    show (if a = 45 then b :: c :: r else a :: b :: c :: r).length ≠ 1
    split <;> simp
theorem int_pos : ∀ k : Fin 10, intText? (mk [48 + k.val]) = some (k.val : Int) := by decide +kernel
theorem int_neg : ∀ k : Fin 10, k.val ≠ 0 → intText? (mk [45, 48 + k.val]) = some (-(k.val : Int)) := by decide +kernel
theorem tl_digits : TL.tl ("0123456789" : Str) = [48, 49, 50, 51, 52, 53, 54, 55, 56, 57] := by decide +kernel
theorem tl_m0 : TL.tl ("-0" : Str) = [45, 48] := by decide +kernel
theorem dec_tl {a b : Str} {l : L} (h : TL.tl b = l) : decide (a = b) = decide (TL.tl a = l) := by
  rw [Bool.eq_iff_iff, decide_eq_true_eq, decide_eq_true_eq]
  exact ⟨fun e => by rw [e, h], fun e => TL.ext_tl (e.trans h.symm)⟩
abbrev rPre : V → List V → Hp → VK → Prop := fun x xs H Q => ∃ a b, x = V.str a ∧ xs = [V.str b] ∧ a.length ≤ sizeLine ∧ Q (.str (Txt.removeprefix a b)) H
abbrev R_numX : List PyData → Option PyData → Prop := fun ds o => ∃ t : Str, ds = [.str t] ∧ t.length ≤ 10000 ∧ o = readNum (TL.tl t)
theorem c_numX (b_len : mg "len" = none) (b_int : mg "int" = none) (TD : DefT K mg "read_number" st_read_number ["word"]) (h_DIGITS : ∃ t, mg "DIGITS" = some (.str "0123456789" t)) (gD : mg "InvalidText" = some (.ref D)) (rD : RaiseD K D) : PureX P w K mg base D 1 "read_number" ["word"] R_numX := by
  refine mkPureX TD S_read_number fun f cdv A outer s H hr => ?_
  have hu := hr.units
  refine ⟨fun E => _, fun E => (pss_cons (ps_set (i := 1) S_read_number.nd rfl (Or.inl rfl) (kBm (K := K) PySem.F.plainAttrs_str PySem.F.slot_str_removeprefix PySem.F.type_str_removeprefix mt_removeprefix (pv 0) (pa_cons pe_str pa_nil)))
      (pss_cons (ps_if (PW.pt (pw_or (pt_cmpR (kNe (K := K) hu) (pe_callB (kLen (K := K)) (by rfl) b_len (by decide +kernel) (pa_cons (pv 1) pa_nil)) pe_int (nomark _)) (pw_or (pt_cmpR op_notIn1 (pv 1) (pe_glob (v := .str "0123456789") (by rfl) h_DIGITS.choose_spec ⟨_, rfl⟩) (by rfl)) (pw_or1 (pt_cmpR (kEq (K := K) hu) (pv 0) pe_str (nomark _)))))) (pss_one (L2N.ps_raise rfl takesN (L2N.pmk_own PySem.F.excBase_ValueError rD.own gD rD.kp (raises_own rD.bF rD.tF) (by rfl)))) pss_nil)
      (pss_one (ps_ret (pe_callTy call_int_str (by rfl) b_int (by decide +kernel) (pa_cons (pv 0) pa_nil)))))), ?_⟩
  rintro ds m o hl ⟨t, rfl, ht, rfl⟩
  have hz : sizeLine = 16777216 := rfl
  obtain ⟨d, hd⟩ : ∃ d, d = Txt.removeprefix t "-" := ⟨_, rfl⟩
  have hdl : TL.tl d = dl (TL.tl t) := by
    rw [hd, prefix_one tl_dash]
    cases TL.tl t <;> rfl
  have e1 : EvE K (tBM K "str" rPre (tVar 0) (tCons (tC (.str "-")) tNil)) [.d (.str t), .no] m (.d (.str d)) m := by
    have q := ev_bmS (K := K) (r := rPre) (es := [.d (.str t), .no]) (m := m) (te := tVar 0) (tr := tCons (tC (.str "-")) tNil) (ev_var rfl nofun) (arg1 ev_str) (c_prefix (a := t) (b := "-") (by omega))
    rw [← hd] at q
    exact q
  have hdn : d.length ≤ 10000 := by
    rw [TL.len_tl, hdl]
    exact Nat.le_trans (dl_len _) (by rw [← TL.len_tl]; exact ht)
  have e2 : ∀ b, (!((d.length : Int) == 1)) = b → EvB K (tTest (tOp (rNeU K) (tCB (fun xs H Q => ∃ x n, xs = [x] ∧ LenV K x H n ∧ Q (.int n) H) (tCons (tVar 1) tNil)) (tC (.int 1)))) [.d (.str t), .d (.str d)] m b m := fun b hb =>
    eb_cast (eb_test (ev_op (ev_cb (arg1 (ev_var rfl nofun)) (c_len (n := d.length) (if_pos (by omega)))) ev_int o_neI)) hb
  have hlen : d.length = (dl (TL.tl t)).length := by rw [← hdl]; exact TL.len_tl d
  rcases num_cases (TL.tl t) with ⟨h1, h2⟩ | ⟨c, h1, h2⟩
  · rw [h1]
    exact sx_snd (fun E => sv_set e1) (sx_fst (sx_ifT (eb_orT (e2 true (by rw [hlen]; simp; omega))) (sx_raise rfl)))
  · have ed : d = ⟨#[c]⟩ := TL.ext_tl (hdl.trans h1)
    have e3 : ∀ b, (!decide (c ∈ ("0123456789" : Str).cps.toList)) = b → EvB K (tTest (tOp rNotIn1 (tVar 1) (tC (.str "0123456789")))) [.d (.str t), .d (.str d)] m b m := fun b hb => by
      subst ed
      exact eb_cast (eb_test (ev_op (ev_var rfl nofun) ev_str o_notIn1)) hb
    have f2 := e2 false (by rw [hlen, h1]; rfl)
    have hin : ("0123456789" : Str).cps.toList = [48, 49, 50, 51, 52, 53, 54, 55, 56, 57] := tl_digits
    rcases h2 with ⟨h2, h3⟩ | ⟨h2, h3, h4⟩
    · rw [h2]
      refine sx_snd (fun E => sv_set e1) (sx_fst (sx_ifT (eb_orF f2 (eb_orT (e3 true ?_))) (sx_raise rfl)))
      rw [hin]
      simp
      omega
    · have f3 := e3 false (by rw [hin]; simp; omega)
      have e4 : ∀ b, decide (TL.tl t = [45, 48]) = b → EvB K (tTest (tOp (rEqU K) (tVar 0) (tC (.str "-0")))) [.d (.str t), .d (.str d)] m b m := fun b hb =>
        eb_cast (eb_test (ev_op (ev_var rfl nofun) ev_str o_eqS)) ((dec_tl tl_m0).trans hb)
      rcases h4 with ⟨h4, h5⟩ | ⟨h4, h5⟩
      · rw [h4]
        exact sx_snd (fun E => sv_set e1) (sx_fst (sx_ifT (eb_orF f2 (eb_orF f3 (e4 true (decide_eq_true h5)))) (sx_raise rfl)))
      · have f4 := e4 false (decide_eq_false h4)
        have key : ∃ i, readNum (TL.tl t) = some (.int i) ∧ intText? t = some i ∧ t.length ≤ 640 := by
          rcases h5 with ⟨h5, h6⟩ | ⟨h5, h7, h6⟩
          · refine ⟨_, h6, ?_, by rw [TL.len_tl, h5]; simp⟩
            have := int_pos ⟨c - 48, by omega⟩
            have et : t = mk [48 + (c - 48)] := by rw [str_mk t, h5, show 48 + (c - 48) = c by omega]
            rw [et, this]
            congr 1
            show ((c - 48 : Nat) : Int) = (c : Int) - 48
            omega
          · refine ⟨_, h6, ?_, by rw [TL.len_tl, h5]; simp⟩
            have := int_neg ⟨c - 48, by omega⟩ (show c - 48 ≠ 0 by omega)
            have et : t = mk [45, 48 + (c - 48)] := by rw [str_mk t, h5, show 48 + (c - 48) = c by omega]
            rw [et, this]
            congr 1
            show -((c - 48 : Nat) : Int) = -((c : Int) - 48)
            omega
        obtain ⟨i, k1, k2, k3⟩ := key
        rw [k1]
        exact fun E => sv_seq (sv_set e1) (sv_ifsF (eb_orF f2 (eb_orF f3 f4)) (sv_ret0 (ev_cb (arg1 (ev_var rfl nofun)) (c_intS k2 k3))))
end
end K30

set_option Elab.async false
set_option linter.all false
set_option maxRecDepth 100000
namespace SX
variable [DL.Tbs]
open PySem PySem.Spec PyProof.Rows L2 HotX L2H LamX DL HX TX
theorem psNox {X : Cx} {st : Stmt} {t : TS} (h : PS X.nox st t) : PS X st t := ⟨fun pins s σ H D I hw => wpAny_mono (h.run pins s σ H D (I.wish _) hw) (fun f s' q => q.unwish) fun _ _ z => z.elim⟩
section
variable {K : PySem.W.Frag} {te : TE} {es : List Sl} {m m1 : M}
/-- append, a long list -/
theorem sv_appendB {n i j : Nat} {x : PyData} {ds : List PyData} (hi : es[i]? = some (.c j)) (h : EvE K te es m (.d x) m1) (hm : m1[j]? = some ds) (hm0 : ∃ d0, m[j]? = some d0) (hl : ds.length < sizeLine) : Sv K n (tDrop (tBM K "list" rAppend (tVar i) (tCons te tNil))) es m (.nx es (m1.set j (ds ++ [x]))) := fun σ H H0 ρ hn w e D q => by
  rcases e.2 i _ hi with z | ⟨v, h1, p, rfl, h2⟩
  · cases z
  · obtain ⟨d0, hm0⟩ := hm0
    obtain ⟨vs0, g0, _⟩ := cell_get w h2 hm0
    refine ⟨_, h1, .inl ⟨rfl, vs0, .inl (.inl g0)⟩, h σ H H0 ρ w e _ fun v H1 H01 s1 w1 k1 => ?_⟩
    obtain ⟨vs, g1, g2⟩ := cell_get w1 h2 hm
    obtain ⟨w2, s2⟩ := cell_put (n := n) w1 h2 (dpAll_app g2 (.cons k1 .nil))
    exact ⟨p, vs, v, rfl, rfl, g1, by rw [dpAll_len g2]; omega, q σ ρ _ _ (s1.low.trans w1.nd s2) w2 (e.mono s1.ex)⟩
/-- return x, x a cell of one's own -/
theorem sv_retC {n i j : Nat} {ds : List PyData} {mm : M} (hi : es[i]? = some (.c j)) (hm : mm[j]? = some ds) (hj : n ≤ j) (hpre : mm.take n = m) (hn : m.length = n) : Sv K n (tRet (tVar i)) es mm (.ret (.d (.list ds)) m) := fun σ H H0 ρ hnρ w e D q => by
  rcases e.2 i _ hi with z | ⟨v, h1, p, rfl, h2⟩
  · cases z
  obtain ⟨h0, vs, g1, g2⟩ := w.cel _ _ _ h2 hm
  have hx : Evl.Ex H0 (upd H0 p (.lst vs)) := Evl.Ex.new h0
  have hlt : n ≤ ρ.length := hnρ
  have sub : ∀ (k : Nat) (a : Addr), (ρ.take n)[k]? = some a → k < n ∧ ρ[k]? = some a := fun k a h => by
    have hk : k < n := by
      have := (List.getElem?_eq_some_iff.mp h).1
      rw [List.length_take] at this
      omega
    rw [List.getElem?_take_of_lt hk] at h
    exact ⟨hk, h⟩
  have w2 : Wd K (upd H0 p (.lst vs)) H (ρ.take n) m := by
    refine ⟨fun b o z => ?_, by rw [List.length_take, hn]; omega, w.nd.sublist (List.take_sublist _ _), fun k a es' z1 z2 => ?_, w.tab, fun q hq => by
      rw [upd_ne]
      · exact w.nT q hq
      · obtain ⟨_, z, _⟩ := w.tab q hq
        exact ne_of z g1 (fun z => nomatch z)⟩
    · by_cases eb : b = p
      · subst eb
        rw [upd_same] at z
        rw [g1]
        exact z
      · rw [upd_ne eb] at z
        exact w.ex b o z
    · obtain ⟨hk, z3⟩ := sub k a z1
      obtain ⟨y1, ws, y2, y3⟩ := w.cel k a es' z3 (by rw [← hpre, List.getElem?_take_of_lt hk] at z2; exact z2)
      refine ⟨?_, ws, y2, dpAll_mono hx y3⟩
      rw [upd_ne]
      · exact y1
      · rintro rfl
        have := nd_ix w.nd z3 h2
        omega
  refine ⟨_, h1, q _ (ρ.take n) H (upd H0 p (.lst vs)) [] ⟨hx, fun b o h _ _ => h, fun b h => h, fun b o z => ?_, by rw [List.take_take, Nat.min_self], fun b z => .inl (List.mem_of_mem_take z)⟩ (by rw [List.append_nil]; exact w2) (.lst (.inl (.inl upd_same)) (dpAll_mono hx g2))⟩
  by_cases eb : b = p
  · refine .inr (.inr ?_)
    rw [eb]
    refine List.mem_of_getElem? (i := j - n) ?_
    rw [List.getElem?_drop, show n + (j - n) = j by omega]
    exact h2
  · rw [upd_ne eb] at z
    exact .inl z
/-- sep.join(x), x a cell of which the length is known in all -/
theorem ev_joinCs {ts : TE} {a : Str} {gs : List L} {i j : Nat} (hs : EvE K ts es m (.d (.str a)) m) (hi : es[i]? = some (.c j)) (hm : m[j]? = some (gs.map fun g => .str (mk g))) (hl : (gs.map (·.length)).sum + gs.length * a.length ≤ 16777216) :
    EvE K (tBM K "str" (rJoin K) ts (tCons (tVar i) tNil)) es m (.d (.str (mk (TL.joinL (TL.tl a) gs)))) m := by
  intro σ H H0 ρ w e Q q
  refine hs σ H H0 ρ w e _ fun v H1 H01 s1 w1 k1 => ?_
  have k1 : Dp K H01 v (.str a) := k1
  cases k1
  rcases (e.mono s1.ex).2 i _ hi with z | ⟨v, h1, p, rfl, h2⟩
  · cases z
  obtain ⟨vs, g1, g2⟩ := cell_get w1 h2 hm
  have e1 : (gs.map fun g => PyData.str (mk g)) = (gs.map mk).map PyData.str := by rw [List.map_map]; rfl
  rw [e1] at g2
  rw [strs_v g2] at g1
  have e3 : ((gs.map mk).map (·.length)) = gs.map (·.length) := by rw [List.map_map]; exact List.map_congr_left fun g _ => mk_len g
  have e2 : (gs.map mk).map TL.tl = gs := by rw [List.map_map]; exact (List.map_congr_left fun g _ => tl_of_mk g).trans (List.map_id gs)
  refine ⟨rfl, _, h1, a, p, gs.map mk, rfl, rfl, .inl (.inl (.inl g1)), by rw [e3, List.length_map]; exact hl, ?_⟩
  rw [join_mk, e2]
  exact q _ H1 H01 s1 w1 (.str _)
theorem sum_joinL (S : L) : ∀ ps : List L, (ps.map (·.length)).sum ≤ (TL.joinL S ps).length
  | [] => by simp
  | [p] => by simp [TL.joinL]
  | p :: q :: r => by
    rw [joinL_cons (by simp), List.length_append, List.length_append, List.map_cons, List.sum_cons]
    have := sum_joinL S (q :: r)
    omega
theorem cut_m1s (z : Str) : TL.tl (cutS z none (some (-1))) = (TL.tl z).dropLast := by
  have hl := TL.len_tl z
  show ((z.cps.toList.drop (HT.sIx z.length 0 none)).take (HT.sIx z.length z.length (some (-1)) - HT.sIx z.length 0 none)) = _
  have e1 : HT.sIx z.length 0 none = 0 := HT.sIx_none ..
  have e : HT.sIx z.length z.length (some (-1)) = z.length - 1 := by
    have : HT.sIx z.length z.length (some (-1)) = ((-1 : Int) + (z.length : Int)).toNat := by
      unfold HT.sIx
      simp
    rw [this]
    omega
  rw [e1, e, List.drop_zero, Nat.sub_zero, List.dropLast_eq_take, ← hl]
theorem cut_1m1 (z : Str) : TL.tl (cutS z (some 1) (some (-1))) = ((TL.tl z).drop 1).dropLast := by
  have hl := TL.len_tl z
  show ((z.cps.toList.drop (HT.sIx z.length 0 (some 1))).take (HT.sIx z.length z.length (some (-1)) - HT.sIx z.length 0 (some 1))) = _
  have e1 : HT.sIx z.length 0 (some 1) = min 1 z.length := HT.sIx_nat z.length 0 1
  have e : HT.sIx z.length z.length (some (-1)) = z.length - 1 := by
    have : HT.sIx z.length z.length (some (-1)) = ((-1 : Int) + (z.length : Int)).toNat := by
      unfold HT.sIx
      simp
    rw [this]
    omega
  rw [e1, e, List.dropLast_eq_take]
  have hl' : z.length = z.cps.toList.length := hl
  by_cases h : 1 ≤ z.length
  · rw [Nat.min_eq_left h, List.length_drop, ← hl]
  · have h0 : z.length = 0 := by omega
    have : z.cps.toList = [] := List.eq_nil_of_length_eq_zero (by omega)
    show List.take _ (List.drop _ z.cps.toList) = List.take ((List.drop 1 z.cps.toList).length - 1) (List.drop 1 z.cps.toList)
    rw [this]
    simp
end
end SX

set_option Elab.async false
set_option linter.all false
set_option maxRecDepth 100000
namespace HX
open PySem PySem.Spec PyProof.Rows L2 HotX L2H

/-! ### an exception that leaves from inside a list comprehension -/
section
variable {X : Cx} {pins : List (Addr × Obj)} {σ : L2.St} {H : Hp} {s s' : Shared} {E : XK}
/-- what a callee let out flies over a state of ours -/
def AirX (X : Cx) (pins : List (Addr × Obj)) (σ : L2.St) (E : XK) (u : Value) (s' : Shared) : Prop :=
  ∃ (a : Addr) (B : Heap) (t : Shared) (H : Hp) (cls : Value) (d : Option Addr), u = .ref a ∧ Inv X pins σ H t ∧ (∀ b o, t.heap.get? b = some o → b ∉ frs X.stack → B.get? b = some o) ∧ t.heap.UpToSlots s'.heap ∧
    HandSPX.FlyingZ B X.stack a (L2N.Zn cls d) s'.heap ∧ H a = none ∧ s'.os = t.os ∧ AllBare s'.gens ∧ E cls d H
theorem air_of_call (I : Inv X pins σ H s) {u : Value} (c : L2N.CX X.prog X.w X.stack H s E u s') : AirX X pins σ E u s' := by
  obtain ⟨a, B, H2, cls, d, rfl, fly, hB, ub, na, hos, hag, hE⟩ := c
  obtain ⟨G, in1, in2⟩ := L2.restrict s'.heap fun b => (B.get? b).isSome || decide (b ∈ frs X.stack)
  have toG : ∀ b o, B.get? b = some o → G.get? b = some o := fun b o e => (in1 b (by simp [e])).trans (fly.1 b o e)
  have frG : ∀ b, b ∈ frs X.stack → G.get? b = s'.heap.get? b := fun b hb => in1 b (by simp [hb])
  have ofG : ∀ b o, G.get? b = some o → s'.heap.get? b = some o ∧ ((B.get? b).isSome = true ∨ b ∈ frs X.stack) := by
    intro b o e
    cases z : ((B.get? b).isSome || decide (b ∈ frs X.stack)) with
    | false => rw [in2 b z] at e; cases e
    | true => exact ⟨(in1 b z).symm.trans e, by simpa [Bool.or_eq_true] using z⟩
  have inv : Inv X pins σ H2 { s with heap := G, gens := s'.gens, drawn := s'.drawn, toks := s'.toks } := by
    refine I.call (ch := []) ⟨fun b o e n hb _ => toG b o (ub.keep b o e n hb), fun b o e _ hb _ => ?_, fun b o e n _ => ub.free b o e n, fun b o e _ => ?_, ub.tups, ub.frzs, ub.tbls⟩ (hB.kept toG) hag (fun _ z => nomatch z)
    · obtain ⟨sl, z⟩ := ub.slot b o e hb
      exact ⟨sl, (frG b hb).trans z⟩
    · by_cases hb : b ∈ frs X.stack
      · obtain ⟨sl, z⟩ := ub.slot b o e hb
        exact ⟨_, (frG b hb).trans z⟩
      · obtain ⟨o2, z⟩ := ub.there b o e hb
        exact ⟨o2, toG b o2 z⟩
  refine ⟨a, B, _, H2, cls, d, rfl, inv, fun b o e hb => ?_, Heap.UpToSlots.of_keeps fun b o e => (ofG b o e).1, fly, na, hos, hag, hE⟩
  obtain ⟨e1, h⟩ := ofG b o e
  rcases h with h | h
  · obtain ⟨o2, z⟩ := Option.isSome_iff_exists.mp h
    have z2 := fly.1 b o2 z
    rw [e1] at z2
    cases z2
    exact z
  · exact absurd h hb
/-- the block of a comprehension that may let E out -/
abbrev blkE (X : Cx) (s : Shared) (H : Hp) (scope : Scope) (cenv : Env) (fp : List Addr) (E : XK) : Cx := (X.blk s H scope cenv fp).wish fun e s' => ∃ pins σ, AirX (X.blk s H scope cenv fp) pins σ E e s'
theorem passB {scope : Scope} {cenv : Env} {fp : List Addr} : Passes (L2N.CX X.prog X.w) (blkE X s H scope cenv fp E) E := fun pins σ H s e s' I c => ⟨pins, σ, air_of_call I.unwish c⟩
theorem frames_less {h h2 B B2 : Heap} (k : ∀ b, B.get? b = none → B2.get? b = none) (k2 : ∀ b o, B.get? b = none → h.get? b = some o → h2.get? b = some o) : ∀ {l : List Env}, h.FunFrames B l → h2.FunFrames B2 l
  | [], _ => trivial
  | _ :: _, ⟨h1, ⟨L, o, e1, e2, e3, e4⟩, r⟩ => ⟨h1, ⟨L, o, e1, k L e2, k2 L o e2 e3, e4⟩, frames_less k k2 r⟩
/-- what the comprehension asks of an error -/
def CompErr (X : Cx) (ce : Env) (u : Value) (s' : Shared) : Prop := ∃ m, s'.heap.Ns ce.locals m ∧ ∀ h', Heap.SameBut ce.locals s'.heap h' → wpAny (model X.prog X.w) X.A (passOn "comprehension.variables-let-go" u ce : Sem Value) (fun _ _ => False) X.xe { s' with heap := h' }
theorem lc_err {W : WX} {H3 : Hp} {s3 : Shared} {scope : Scope} {ce : Env} {fp : List Addr} (I3 : Inv X pins σ H3 s3) (tk : L2N.Takes X W) (hW : ∀ cls d H, E cls d H → W cls d σ H) (hfr : X.env.frame = some X.env.locals) (hst : X.stack = X.env :: X.outer)
    (hcf : ce.frame = X.env.frame) (hcl : ce.locals = s3.heap.objs.size) (f3 : ∀ b ∈ fp, FpOk X pins H3 b ∧ b < s3.heap.objs.size) {u : Value} (h : ∃ pins σ, AirX (X.blk s3 H3 scope ce fp) pins σ E u s') :
    notedBy (model X.prog X.w) X.A ce (fun x s'' => CompErr X ce x s'') u s' := by
  obtain ⟨p2, σ2, a, B, t, H2, cls, d, rfl, I2, nb, up, fly, na, hos, hag, hE⟩ := h
  have nb : ∀ b o, t.heap.get? b = some o → b ∉ frs X.stack → B.get? b = some o := nb
  have fly : HandSPX.FlyingZ B X.stack a (L2N.Zn cls d) s'.heap := fly
  have nC : H2 ce.locals = none := I2.free
  have outC : ce.locals ∉ frs X.stack := fun hm => by
    rw [hcl] at hm
    rcases List.mem_cons.mp (I3.stkSub _ hm) with z | z
    · exact absurd I3.lt (by rw [← z]; exact Nat.lt_irrefl _)
    · exact I3.nofs (Nat.le_refl _) z
  obtain ⟨m, hm, _⟩ := I2.loc
  have hm : t.heap.Ns ce.locals m := hm
  have eF : (noteFrame (.ref a) ce : Sem Unit) = noteFrame (.ref a) X.env := by
    have eO : PySem.frameOf ce = PySem.frameOf X.env := by
      unfold PySem.frameOf
      rw [hcf]
    unfold noteFrame
    rw [hcf, eO]
  have hA : X.A.frames = some (X.env :: X.outer) := by rw [I3.ok.frames, hst]
  show wpAny _ _ (noteFrame (.ref a) ce) _ _ _
  rw [eF]
  refine PXN.looks_onZ L2N.Zn.steady hA hfr (by rw [← hst]; exact fly) fun h1 held up1 => ?_
  rw [← hst] at held
  have stay : ∀ b o, B.get? b = some o → h1.get? b = some o := held.1
  have hmC : h1.Ns ce.locals m := hm.at' fun o e => stay _ o (nb _ o e outC)
  refine ⟨m, hmC, fun h' sb => ?_⟩
  obtain ⟨oC, eC⟩ : ∃ o, B.get? ce.locals = some o := by
    obtain ⟨o, _, _, e, _⟩ := hm
    exact ⟨o, nb _ o e outC⟩
  have off : ∀ b, B.get? b = none → b ≠ ce.locals := fun b e z => by rw [z, eC] at e; cases e
  obtain ⟨k1, k2, k3, oe, vs, T, oT, ts, he, hz, hd, e1, hnT, hTe, hT, hdT, e3⟩ := held
  have lessB : ∀ b, B.get? b = none → (PySem.W.hideAll B [ce.locals]).get? b = none := fun b e => by
    cases z : (PySem.W.hideAll B [ce.locals]).get? b with
    | none => rfl
    | some o => rw [PySem.W.of_hideAll _ z] at e; cases e
  have keepB : ∀ b o, (PySem.W.hideAll B [ce.locals]).get? b = some o → B.get? b = some o ∧ b ≠ ce.locals := fun b o e => ⟨PySem.W.of_hideAll _ e, fun z => by
    rw [z, PySem.W.hideAll_none [ce.locals] List.mem_cons_self] at e; cases e⟩
  have eA : h'.get? a = some oe := (sb.2 a (off a k2)).trans he
  have eT : h'.get? T = some oT := (sb.2 T (off T hnT)).trans hT
  have held2 : HandSPX.HeldZ (PySem.W.hideAll B [ce.locals]) X.stack a (L2N.Zn cls d) X.env.locals h' := by
    refine ⟨fun b o e => ?_, lessB a k2, frames_less lessB (fun b o e q => (sb.2 b (off b e)).trans q) k3, oe, vs, T, oT, ts, eA, hz, hd, e1, lessB T hnT, hTe, eT, hdT, e3⟩
    obtain ⟨q1, q2⟩ := keepB b o e
    exact (sb.2 b q2).trans (k1 b o q1)
  unfold PySem.passOn
  refine wpAny_bind (wpAny_field eA hd e1 ?_)
  rw [if_neg (show ¬ ((Value.ref T == Value.none) = true) from by simp)]
  have fin : wpAny (model X.prog X.w) X.A (setFlight (.ref a) ce.frame) (fun _ s4 => wpAny (model X.prog X.w) X.A (throw (.ref a) : Sem Value) (fun _ _ => False) X.xe s4) X.xe { s' with heap := h' } := by
    rw [hcf, hfr]
    refine HandSPX.setFlight_onZ held2 fun h4 held4 up4 => wpAny_throw (tk _ _ ?_)
    have keepT : ∀ b o, t.heap.get? b = some o → b ≠ ce.locals → (PySem.W.hideAll t.heap [ce.locals]).get? b = some o := fun b o e n => PySem.W.hideAll_get _ e (by simpa using n)
    have old : ∀ b o, s3.heap.get? b = some o → b ≠ ce.locals := fun b o e z => by
      rw [z, hcl] at e
      exact absurd (Heap.lt_size e) (Nat.lt_irrefl _)
    have inv : Inv X pins σ H2 { s3 with heap := PySem.W.hideAll t.heap [ce.locals], gens := t.gens, drawn := t.drawn, toks := t.toks, os := t.os } := by
      refine I3.call' (ch := fp) I2.os ⟨fun b o e n hb hx => keepT b o (I2.base.keep b o e n hb hx) (old b o e), fun b o e n hb hx => ?_, fun b o e n hx => I2.base.free b o e n hx, fun b o e hx => ?_, I2.base.tups, I2.base.frzs, I2.base.tbls⟩ (fun b o e => ?_) I2.bare fun b hb => ⟨(f3 b hb).1.2.2.2.1, (f3 b hb).1.2.1, (f3 b hb).1.2.2.2.2.1, (f3 b hb).1.2.2.2.2.2⟩
      · obtain ⟨sl, z⟩ := I2.base.slot b o e n hb hx
        exact ⟨sl, keepT b _ z (old b o e)⟩
      · obtain ⟨o2, z⟩ := I2.base.there b o e hx
        exact ⟨o2, keepT b _ z (old b o e)⟩
      · refine (I2.hok b o e).stay (fun c v hc q => keepT c v q fun z => ?_) (fun _ q => q) fun _ _ q => q
        rcases hc with y | y
        · rw [y] at z
          rw [z, nC] at e
          cases e
        · rw [z, nC] at y
          cases y
    refine ⟨a, PySem.W.hideAll B [ce.locals], _, pins, σ, H2, cls, d, rfl, inv, fun b o e hb => ?_, fun b o e hn => ?_, .inr (.inr held4), na, hos, hag, hW _ _ _ hE⟩
    · have q1 : t.heap.get? b = some o := PySem.W.of_hideAll _ e
      have q2 : b ≠ ce.locals := fun z => by
        have e : (PySem.W.hideAll t.heap [ce.locals]).get? b = some o := e
        rw [z, PySem.W.hideAll_none [ce.locals] List.mem_cons_self] at e
        cases e
      exact PySem.W.hideAll_get _ (nb b o q1 hb) (by simpa using q2)
    · have q1 : t.heap.get? b = some o := PySem.W.of_hideAll _ e
      have q2 : b ≠ ce.locals := fun z => by
        have e : (PySem.W.hideAll t.heap [ce.locals]).get? b = some o := e
        rw [z, PySem.W.hideAll_none [ce.locals] List.mem_cons_self] at e
        cases e
      obtain ⟨sl1, z1⟩ := up b o q1 hn
      obtain ⟨sl2, z2⟩ := up1 b _ z1 hn
      have z3 : h'.get? b = some _ := (sb.2 b q2).trans z2
      obtain ⟨sl4, z4⟩ := up4 b _ z3 hn
      exact ⟨sl4, z4⟩
  first
    | exact wpAny_bind (wpAny_pure (wpAny_bind fin))
    | exact wpAny_bind fin
end
end HX

set_option Elab.async false
set_option linter.all false
set_option maxRecDepth 100000
namespace HX
open PySem PySem.Spec PyProof.Rows L2 HotX L2H

/-- how a comprehension's block ends, its frame known -/
def CEnd (M : Model) (A : Around) (E : Value → Shared → Prop) (Q : Value → Shared → Prop) (acc : Value) (ce : Env) (r : Result) (t : Shared) : Prop := match r with
  | .ok _ => ∃ m, t.heap.Ns ce.locals m ∧ ∀ g, Heap.SameBut ce.locals t.heap g → Q acc { t with heap := g }
  | .error x => ∃ m, t.heap.Ns ce.locals m ∧ ∀ g, Heap.SameBut ce.locals t.heap g → wpAny M A (passOn "comprehension.variables-let-go" x ce : Sem Value) (fun _ _ => False) E { t with heap := g }
section
variable {M : Model} {A : Around} {E : Value → Shared → Prop} {s : Shared} {env : Env}
theorem comp_any {e : Expr} {scope : Scope} {pos : Pos} {first acc0 : Sem Value} {c0 : Comprehension} {cr : List Comprehension} {cl : List (Str × Addr)} {Q : Value → Shared → Prop} (h1 : clausesOf e = c0 :: cr) (h2 : ∀ x, foldedSetIterable c0.iter env x = pure x)
    (h3 : closureFor scope env = pure cl) (h4 : scope.kind = .function) (h5 : ∀ y ∈ scope.names, y.2 = .local → scope.names.lookup y.1 = some .local)
    (h : wpAny M A first (fun x a1 => wpAny M A (pyIter x) (fun it a2 => wpAny M A acc0 (fun acc a3 => wpAny M A (newFunctionEnv scope env.globals cl [] env.qual none .none (some env)) (fun ce a4 =>
        codeAny M A (.compStart e 0 it acc { ce with scope := relabel scope env }) (CEnd M A E Q acc { ce with scope := relabel scope env }) a4) E a3) E a2) E a1) E s) : wpAny M A (comprehension e scope env pos acc0 false first none) Q E s := by
  unfold comprehension
  rw [h3, h1]
  refine wpAny_bind (wpAny_mono h (fun x a1 q1 => wpAny_bind (wpAny_standAt (wpAny_bind (wpAny_of_eq (h2 x) (wpAny_bind (wpAny_holding (wpAny_mono q1 (fun it a2 q2 => wpAny_standIf (wpAny_bind (wpAny_mono q2 (fun acc a3 q3 => wpAny_bind (wpAny_pure (wpAny_bind (wpAny_mono q3 (fun ce a4 q4 => ?_) fun _ _ z => z)))) fun _ _ z => z))) fun _ _ z => z))))))) fun _ _ z => z)
  dsimp only
  have loc : ∀ y ∈ (scope.names.filter fun y => (y.2 == .local || y.2 == .cell) && y.1 != (".0" : Str)).reverse, y.2 = .local → Env.kindOf { ce with scope := relabel scope env } y.1 = some .local := fun y hy hl => lookup_relabel_local (h5 y (List.mem_filter.mp (List.mem_reverse.mp hy)).1 hl)
  refine wpAny_holding (wpAny_bind (wpAny_attempt (wpAny_holding (wpAny_run (codeAny_mono q4 fun r t hr => ?_)))))
  match r, hr with
  | .ok f, ⟨m, hn, hr⟩ => exact wpAny_bind (wpAny_holding (wpAny_comp_letGo (cenv := { ce with scope := relabel scope env }) h4 _ t m loc hn fun g m' _ hg => wpAny_pure (hr g hg)))
  | .error x, ⟨m, hn, hr⟩ => exact wpAny_bind (wpAny_holding (wpAny_comp_letGo (cenv := { ce with scope := relabel scope env }) h4 _ t m loc hn fun g m' _ hg => wpAny_mono (hr g hg) (fun _ _ z => z.elim) fun _ _ z => z))
end
theorem thnG {α : Type} {t : Sem α} {Q Q' : α → Shared → Prop} {M : Model} {A : Around} {E E' : Value → Shared → Prop} {s : Shared} (h : wpAny M A t Q E s) (hQ : ∀ a s, Q a s → Q' a s) (hE : ∀ u s, E u s → E' u s) : wpAny M A t Q' E' s := wpAny_mono h hQ hE
section
variable {X : Cx} {W : WX} {E : XK}
theorem pe_lcX {elt tg iter : Expr} {ifs : List Expr} {scope : Scope} {own : List (Str × Nat)} {pos : Pos} {wi : TI} {g : TG} {tt : TT} {te : TE} (tk : L2N.Takes X W) (hW : ∀ cls d σ H, E cls d H → W cls d σ H) (hfr : X.env.frame = some X.env.locals) (hst : X.stack = X.env :: X.outer) (hc : X.calm = true) (hN : X.N.Nodup) (hi : PI X tg iter wi) (ok : BlkOk X.N X.env.scope scope own)
    (hg : ∀ (s : Shared) (H : Hp) (C : Addr) (cl : List (Str × Addr)) (fp : List Addr), PG (blkE X s H scope (compEnvC scope cl C X.env) fp E) tg g) (ht : ∀ (s : Shared) (H : Hp) (C : Addr) (cl : List (Str × Addr)) (fp : List Addr), PTs (blkE X s H scope (compEnvC scope cl C X.env) fp E) ifs tt)
    (he : ∀ (s : Shared) (H : Hp) (C : Addr) (cl : List (Str × Addr)) (fp : List Addr), PE (blkE X s H scope (compEnvC scope cl C X.env) fp E) elt te) (hs : ∀ x, foldedSetIterable iter X.env x = pure x := by intro _; rfl) :
    PE X (.ListComp elt [⟨tg, iter, ifs, 0⟩] scope pos) (tLc wi g tt te (own.map (·.2))) := by
  refine ⟨fun pins s σ H Q I h => ?_⟩
  rw [eval_ListComp]
  have fre : ∀ y ∈ scope.names, y.2 = .free → ∃ c, X.env.cells.lookup y.1 = some c := fun y hy e => (ok.free y hy e).elim (fun k => I.ok.has _ (.inl k)) fun k => I.ok.has _ (.inr k)
  refine comp_any rfl hs (closure_ok fre) ok.kind (fun y hy e => (ok.uniq y hy).trans (by rw [e])) (thn (hi.run pins s σ H _ I h) fun xv s1 hx => thn hx fun itv s2 h2 => ?_)
  obtain ⟨it, fp, tn, J, H2, rfl, I2, T, st2, f2, q⟩ := h2
  refine wpAny_newObj_type (newEnv_comp ?_) (by show 0 ≤ sizeLine; decide)
  generalize eD : s2.heap.objs.size = D
  have nD : H2 D = none := I2.hok.fresh (Nat.le_of_eq eD)
  obtain ⟨Wt, ⟨m0, w0⟩, turn⟩ := q D nD
  generalize e3 : ({ s2 with heap := s2.heap.push { cls := .type "list", data := .seq ([] : List Value).toArray } } : Shared) = s3
  have hp3 : s3.heap = s2.heap.push { cls := .type "list", data := .seq ([] : List Value).toArray } := by rw [← e3]
  have I3 : Inv X pins σ (upd H2 D (.lst [])) s3 := by
    rw [← e3]
    exact I2.laid (t' := s2.toks) (fun b o e => Heap.get?_push_of_some _ e) (Nat.le_of_eq eD) ⟨Nat.zero_le _, [], 0, .nil, by rw [← eD]; exact Heap.get?_push_size _ rfl⟩
  have lt2 : ∀ b ∈ fp, b < s2.heap.objs.size := fun b hb => let ⟨_, e, _⟩ := T.obj _ _ st2 b hb; Heap.lt_size e
  have f3 : ∀ b ∈ fp, FpOk X pins (upd H2 D (.lst [])) b ∧ b < s3.heap.objs.size := fun b hb =>
    ⟨⟨(upd_ne (by rw [← eD]; exact Nat.ne_of_lt (lt2 b hb))).trans (f2 b hb).1, (f2 b hb).2⟩, by rw [hp3, Heap.size_push]; exact Nat.lt_succ_of_lt (lt2 b hb)⟩
  have st3 : tn 0 s3.heap := T.keep _ _ _ st2 fun b _ o e => by rw [hp3]; exact Heap.get?_push_of_some _ e
  have I4 := block_start I3 ok hN f3
  have pg := hg s3 (upd H2 D (.lst [])) s3.heap.objs.size (cellsFrom (s3.heap.objs.size + 1) scope.names (cloFrom X.env.cells scope.names [])) fp
  have pt := ht s3 (upd H2 D (.lst [])) s3.heap.objs.size (cellsFrom (s3.heap.objs.size + 1) scope.names (cloFrom X.env.cells scope.names [])) fp
  have pe := he s3 (upd H2 D (.lst [])) s3.heap.objs.size (cellsFrom (s3.heap.objs.size + 1) scope.names (cloFrom X.env.cells scope.names [])) fp
  have nfp : ∀ b ∈ fp, (upd H2 D (.lst [])) b = none := fun b hb => (f3 b hb).1.1
  show codeAny _ _ (.compStart (.ListComp elt [⟨tg, iter, ifs, 0⟩] scope pos) 0 (.ref it) (.ref D) (compEnvC scope (cellsFrom (s3.heap.objs.size + 1) scope.names (cloFrom X.env.cells scope.names [])) s3.heap.objs.size X.env)) (CEnd (model X.prog X.w) X.A X.xe (EP X pins σ Q) (.ref D) (compEnvC scope (cellsFrom (s3.heap.objs.size + 1) scope.names (cloFrom X.env.cells scope.names [])) s3.heap.objs.size X.env)) { s3 with heap := pushCells (s3.heap.push { cls := .type "dict", data := .dict #[] }) scope.names }
  generalize ece : compEnvC scope (cellsFrom (s3.heap.objs.size + 1) scope.names (cloFrom X.env.cells scope.names [])) s3.heap.objs.size X.env = ce at I4 pg pt pe ⊢
  have cL : ce.locals = s3.heap.objs.size := by rw [← ece]; rfl
  have cF : ce.frame = X.env.frame := by rw [← ece]; rfl
  generalize eH : upd H2 D (.lst []) = H3 at I3 I4 pg pt pe w0 nfp f3
  generalize e4 : ({ s3 with heap := pushCells (s3.heap.push { cls := .type "dict", data := .dict #[] }) scope.names } : Shared) = s4 at I4 ⊢
  have st4 : tn 0 s4.heap := T.keep _ _ _ st3 fun b _ o e => by rw [← e4]; exact pushCells_keeps _ _ _ _ (Heap.get?_push_of_some _ e)
  have err : ∀ u t, (blkE X s3 H3 scope ce fp E).xe u t → notedBy (model X.prog X.w) X.A ce (fun x t2 => CompErr X ce x t2) u t := fun u t z => lc_err I3 tk (fun cls d H2 => hW cls d σ H2) hfr hst cF cL f3 z
  have I4 := I4.wish fun e s' => ∃ pins σ, AirX (X.blk s3 H3 scope ce fp) pins σ E e s'
  have stat : ∀ {σ' : L2.St} {H' : Hp} {t : Shared}, Inv (blkE X s3 H3 scope ce fp E) [] σ' H' t → (∀ b ∈ fp, H' b = none) → ∀ b ∈ fp, FpOk (blkE X s3 H3 scope ce fp E) [] H' b := fun {σ' H' t} I' hn b hb => ⟨hn b hb, (I'.ok.exf b hb).1, I'.ok.exfs b hb, .inl hb, fun x c e => (I'.ok.exf b hb).2 x c e, fun p hp => absurd (show p ∈ ([] : List (Addr × Obj)) ++ [] from hp) (by simp)⟩
  have loop : codeAny (model X.prog X.w) X.A (.compLoop (.ListComp elt [⟨tg, iter, ifs, 0⟩] scope pos) 0 (.ref it) (.ref D) ce) (CEnd (model X.prog X.w) X.A X.xe (EP X pins σ Q) (.ref D) ce) s4 := by
    refine compLoop_any (fun n t => ∃ i H', Inv (blkE X s3 H3 scope ce fp E) [] (wipe σ (own.map (·.2))) H' t ∧ tn i t.heap ∧ (∀ b ∈ fp, H' b = none) ∧ Wt i n H') ?_ m0 ⟨0, H3, I4, st4, nfp, w0⟩
    rintro n s5 ⟨i, H5, I5, st5, n5, w5⟩
    rcases turn i n H5 w5 with ⟨stop, qq⟩ | ⟨go, Nx, hNx, step⟩
    · refine thnF (T.done (blkE X s3 H3 scope ce fp E) rfl rfl rfl hc i [] s5 _ H5 (fun _ _ => False) I5 (stat I5 n5) st5 stop) fun r s6 ⟨hr, I6⟩ => ?_
      subst hr
      have I7 : Inv X pins σ H5 s6 := I3.call' (ch := fp) I6.os I6.base I6.hok I6.bare fun b hb => ⟨(f3 b hb).1.2.2.2.1, (f3 b hb).1.2.1, (f3 b hb).1.2.2.2.2.1, (f3 b hb).1.2.2.2.2.2⟩
      have nC : H5 s3.heap.objs.size = none := (congrArg H5 cL).symm.trans I6.free
      obtain ⟨m, hn, _⟩ := I6.loc
      obtain ⟨f0, f1, f2, f3', f4, f5⟩ := I3.fpOk (Nat.le_refl _) nC
      refine ⟨m, hn, fun g sb => ⟨.ref D, H5, I7.turned (t' := s6.toks) (fun b o hb e => (sb.2 b (fun z => hb (z.trans cL))).trans e) f0 f1 f3' f4 f5, rfl, qq⟩⟩
    · refine thnF (T.item (blkE X s3 H3 scope ce fp E) rfl rfl rfl hc i [] s5 _ H5 (fun _ _ => False) I5 (stat I5 n5) st5 go) fun r s6 ⟨u, hr, h6⟩ => ?_
      subst hr
      refine thnF h6 fun _ s7 ⟨x, H7, I7, r7, y7, st7, n7⟩ => ?_
      have J7 := I7.pinned (stat I7 n7) (T.obj _ _ st7)
      refine thnG (pg.run _ s7 _ H7 x u _ J7 r7 (step x H7 y7)) (fun _ s8 ⟨σ8, H8, I8, hw8, q8⟩ => ?_) err
      refine thnG (pt.run _ s8 σ8 H8 _ I8 q8) (fun b s9 ⟨H9, I9, q9⟩ => ?_) err
      have back : ∀ {t : Shared} {H' : Hp}, Inv (blkE X s3 H3 scope ce fp E) ([] ++ pinsAt fp s7.heap) σ8 H' t → Nx H' → ∃ m, m < n ∧ ∃ i H', Inv (blkE X s3 H3 scope ce fp E) [] (wipe σ (own.map (·.2))) H' t ∧ tn i t.heap ∧ (∀ b ∈ fp, H' b = none) ∧ Wt i m H' := fun {t H'} I' nx => by
        obtain ⟨m', hm, w'⟩ := hNx H' nx
        have at7 : ∀ b ∈ fp, ∀ o, s7.heap.get? b = some o → t.heap.get? b = some o ∧ H' b = none := fun b hb o e => let z := I'.pin (b, o) (List.mem_append_right _ (List.mem_append_right _ (mem_pinsAt hb e))); ⟨z.1, z.2.1⟩
        refine ⟨m', hm, i + 1, H', (I'.unpinned (pins := [])).weak (by rw [← hw8, wipe_length]) (fun j v e => ?_), T.keep _ _ _ st7 fun b hb o e => (at7 b hb o e).1, fun b hb => let ⟨o, e, _⟩ := T.obj _ _ st7 b hb; (at7 b hb o e).2, w'⟩
        rw [← hw8] at e
        exact (wipe_some e).1
      cases b with
      | false => exact back I9 (by simpa using q9)
      | true =>
        have q9 := q9
        simp only [if_true] at q9 ⊢
        refine thnG (pe.run _ s9 σ8 H9 _ I9 q9) (fun z s10 ⟨yv, H10, I10, r10, acc, hD10, hz10, nx⟩ => ?_) err
        exact app_ok (X := blkE X s3 H3 scope ce fp E) I10 hD10 hz10 r10 fun s11 I11 => back I11 nx
  exact codeAny_compStart_list loop (T.self X.A 0 _ _ _ st4 loop)
end
end HX

set_option Elab.async false
set_option linter.all false
set_option maxRecDepth 100000
set_option maxHeartbeats 4000000
namespace K30
variable [DL.Tbs]
open PySem PySem.Spec PyProof.Rows L2 DL HX TX SX
section
variable {P : Program} {w : World} {K : PySem.W.Frag} {mg : Str → Option Value} {base : Heap} {D : Addr}
def strF (f : L → Option PyData) : PyData → Option PyData
  | .str x => f (TL.tl x)
  | _ => none
theorem strF_map (f : L → Option PyData) (gs : List L) : mapO (strF f) (gs.map fun g => .str (mk g)) = mapO f gs := by
  rw [mapO_map]
  rfl
theorem sL : sizeLine = 16777216 := rfl
abbrev R_numsX : List PyData → Option PyData → Prop := fun ds o => ∃ (t s : Str) (c : Nat), ds = [.str t, .str s] ∧ TL.tl s = [c] ∧ c < 256 ∧ t.length ≤ 10000 ∧ o = readNums c (TL.tl t)
theorem c_numsX (b_tuple : mg "tuple" = none) (TD : DefT K mg "read_numbers" st_read_numbers ["text", "sign"]) (D_read_number : PureX P w K mg base D 1 "read_number" ["word"] R_numX) : PureX P w K mg base D 2 "read_numbers" ["text", "sign"] R_numsX := by
  refine mkPureX TD S_read_numbers fun f cdv A outer s H hr => ?_
  refine ⟨fun E => _, fun E => (pss_one (ps_ret (pe_callTy (kTup (K := K)) (by rfl) b_tuple (by decide +kernel) (pa_cons (pe_lcX takesN (fun _ _ _ _ h => h) rfl rfl (own := [("word", 2)]) (by rfl) S_read_numbers.nd (kSeq (K := K) (kBm (K := K) PySem.F.plainAttrs_str PySem.F.slot_str_split PySem.F.type_str_split mt_split (pv 0) (pa_cons (pv 1) pa_nil))) (blkOk_by (N := N_read_numbers) (sc := defScope st_read_numbers) (by decide +kernel)) (fun _ _ _ _ _ => pg_name (i := 2) S_read_numbers.nd rfl (by first | exact Or.inl rfl | exact Or.inr rfl)) (fun _ _ _ _ _ => pts_nil) (fun _ _ _ _ _ => (pe_def D_read_number (hr.mono (by omega)) (by rfl) passB (pa_cons (pv 2) pa_nil)))) pa_nil)))), ?_⟩
  rintro ds m o hl ⟨t, s, c, rfl, hs, hc, ht, rfl⟩
  have e1 := ev_split (K := K) (es := [.d (.str t), .d (.str s), .no]) (m := m) (a := t) (b := s) (te := tVar 0) (tb := tVar 1) (ev_var rfl nofun) (ev_var rfl nofun) (by rw [hs]; simp) (by rw [hs]; simpa using hc) ht
  rw [hs] at e1
  have hcount := spl_count [c] (TL.tl t) (by simp)
  rw [← TL.len_tl] at hcount
  have q := x_tupMap (K := K) (D := D) (i := 2) (f := strF readNum) (wi := fun _ => iSeq K (tBM K "str" rSplit (tVar 0) (tCons (tVar 1) tNil))) (t := fun E => tCall (spX K 1 (xG D R_numX)) [] E (tCons (tVar 2) tNil)) (fun _ => ei_seqL e1) (by rw [List.length_map, sL]; omega) fun d hd => by
    obtain ⟨g, hg, rfl⟩ := List.mem_map.mp hd
    refine x_call (arg1 (ev_var rfl nofun)) (ds := [.str (mk g)]) rfl ⟨mk g, rfl, ?_, rfl⟩ rfl
    rw [mk_len]
    exact Nat.le_trans (spl_le hg) (by rw [← TL.len_tl]; exact ht)
  rw [strF_map] at q
  exact body_ret q
abbrev R_loopX : List PyData → Option PyData → Prop := fun ds o => ∃ t : Str, ds = [.str t] ∧ t.length ≤ 10000 ∧ o = readLoop (TL.tl t)
theorem c_loopX (b_tuple : mg "tuple" = none) (TD : DefT K mg "read_loop" st_read_loop ["text"]) (D_read_numbers : PureX P w K mg base D 2 "read_numbers" ["text", "sign"] R_numsX) : PureX P w K mg base D 3 "read_loop" ["text"] R_loopX := by
  refine mkPureX TD S_read_loop fun f cdv A outer s H hr => ?_
  refine ⟨fun E => _, fun E => (pss_one (ps_ret (pe_callTy (kTup (K := K)) (by rfl) b_tuple (by decide +kernel) (pa_cons (pe_lcX takesN (fun _ _ _ _ h => h) rfl rfl (own := [("pair", 1)]) (by rfl) S_read_loop.nd (kSeq (K := K) (kBm (K := K) PySem.F.plainAttrs_str PySem.F.slot_str_split PySem.F.type_str_split mt_split (pv 0) (pa_cons pe_str pa_nil))) (blkOk_by (N := N_read_loop) (sc := defScope st_read_loop) (by decide +kernel)) (fun _ _ _ _ _ => pg_name (i := 1) S_read_loop.nd rfl (by first | exact Or.inl rfl | exact Or.inr rfl)) (fun _ _ _ _ _ => pts_nil) (fun _ _ _ _ _ => (pe_def D_read_numbers (hr.mono (by omega)) (by rfl) passB (pa_cons (pv 1) (pa_cons pe_str pa_nil))))) pa_nil)))), ?_⟩
  rintro ds m o hl ⟨t, rfl, ht, rfl⟩
  have e1 := ev_split (K := K) (es := [.d (.str t), .no]) (m := m) (a := t) (b := ";") (te := tVar 0) (tb := tC (.str ";")) (ev_var rfl nofun) ev_str (by rw [tl_semi]; simp) (by rw [tl_semi]; decide) ht
  rw [tl_semi] at e1
  have hcount := spl_count [59] (TL.tl t) (by simp)
  rw [← TL.len_tl] at hcount
  have q := x_tupMap (K := K) (D := D) (i := 1) (f := strF (readNums 44)) (wi := fun _ => iSeq K (tBM K "str" rSplit (tVar 0) (tCons (tC (.str ";")) tNil))) (t := fun E => tCall (spX K 2 (xG D R_numsX)) [] E (tCons (tVar 1) (tCons (tC (.str ",")) tNil))) (fun _ => ei_seqL e1) (by rw [List.length_map, sL]; omega) fun d hd => by
    obtain ⟨g, hg, rfl⟩ := List.mem_map.mp hd
    refine x_call (arg2 (ev_var rfl nofun) ev_str) (ds := [.str (mk g), .str ","]) rfl ⟨mk g, ",", 44, rfl, tl_comma, by decide, ?_, rfl⟩ rfl
    rw [mk_len]
    exact Nat.le_trans (spl_le hg) (by rw [← TL.len_tl]; exact ht)
  rw [strF_map] at q
  exact body_ret q
abbrev rEnds : V → List V → Hp → VK → Prop := fun x xs H Q => ∃ a b, x = V.str a ∧ xs = [V.str b] ∧ Q (.bl (Txt.endswith a b)) H
abbrev rStarts : V → List V → Hp → VK → Prop := fun x xs H Q => ∃ a b, x = V.str a ∧ xs = [V.str b] ∧ Q (.bl (Txt.startswith a b)) H
theorem ev_ends {te tb : TE} {es : List Sl} {m : M} {a b : Str} {c : Nat} (h : EvE K te es m (.d (.str a)) m) (h2 : EvE K tb es m (.d (.str b)) m) (hb : TL.tl b = [c]) : EvE K (tBM K "str" rEnds te (tCons tb tNil)) es m (.d (.bool (decide ((TL.tl a).getLast? = some c)))) m := by
  have q := ev_bmS (K := K) (r := rEnds) h (arg1 h2) (c_ends (a := a) (b := b))
  rw [ends_one hb] at q
  exact q
theorem ev_starts {te tb : TE} {es : List Sl} {m : M} {a b : Str} {c : Nat} (h : EvE K te es m (.d (.str a)) m) (h2 : EvE K tb es m (.d (.str b)) m) (hb : TL.tl b = [c]) : EvE K (tBM K "str" rStarts te (tCons tb tNil)) es m (.d (.bool (decide ((TL.tl a).head? = some c)))) m := by
  have q := ev_bmS (K := K) (r := rStarts) h (arg1 h2) (c_starts (a := a) (b := b))
  rw [starts_one hb] at q
  exact q
abbrev R_shapeX : List PyData → Option PyData → Prop := fun ds o => ∃ t : Str, ds = [.str t] ∧ t.length ≤ 10000 ∧ o = readShape (TL.tl t)
theorem par_le {c : Nat} {l a b : L} (h : TL.par [c] [] l = some (a, b)) : a.length + b.length ≤ l.length := by
  have := par_eq h
  rw [List.nil_append] at this
  rw [this, List.length_append, List.length_append]
  omega
theorem c_shapeX (b_tuple : mg "tuple" = none) (TD : DefT K mg "read_shape" st_read_shape ["text"]) (gD : mg "InvalidText" = some (.ref D)) (rD : RaiseD K D) (D_read_loop : PureX P w K mg base D 3 "read_loop" ["text"] R_loopX) : PureX P w K mg base D 4 "read_shape" ["text"] R_shapeX := by
  refine mkPureX TD S_read_shape fun f cdv A outer s H hr => ?_
  have hu := hr.units
  refine ⟨fun E => _, fun E => (pss_cons (ps_asg (kBm (K := K) PySem.F.plainAttrs_str PySem.F.slot_str_partition PySem.F.type_str_partition mt_partition (pv 0) (pa_cons pe_str pa_nil)) (kTupG (K := K) rfl (pgs_cons (pg_name (i := 1) S_read_shape.nd rfl (Or.inl rfl)) (pgs_cons (pg_name (i := 2) S_read_shape.nd rfl (Or.inl rfl)) (pgs_cons (pg_name (i := 3) S_read_shape.nd rfl (Or.inl rfl)) pgs_nil)))))
      (pss_cons (ps_if (pt_not (pt_val (kBm (K := K) PySem.F.plainAttrs_str PySem.F.slot_str_endswith PySem.F.type_str_endswith mt_endswith (pv 3) (pa_cons pe_str pa_nil)))) (pss_one (L2N.ps_raise rfl takesN (L2N.pmk_own PySem.F.excBase_ValueError rD.own gD rD.kp (raises_own rD.bF rD.tF) (by rfl)))) pss_nil)
      (pss_one (ps_ret (pe_tup (pa_cons (pv 1) (pa_cons (pe_callTy (kTup (K := K)) (by rfl) b_tuple (by decide +kernel) (pa_cons (pe_lcX takesN (fun _ _ _ _ h => h) rfl rfl (own := [("part", 4)]) (by rfl) S_read_shape.nd (kSeq (K := K) (kBm (K := K) PySem.F.plainAttrs_str PySem.F.slot_str_split PySem.F.type_str_split mt_split (pe_slice (kSlU (K := K)) (pv 3) po_none (po_some (pe_un un_neg pe_int))) (pa_cons pe_str pa_nil))) (blkOk_by (N := N_read_shape) (sc := defScope st_read_shape) (by decide +kernel)) (fun _ _ _ _ _ => pg_name (i := 4) S_read_shape.nd rfl (by first | exact Or.inl rfl | exact Or.inr rfl)) (fun _ _ _ _ _ => pts_nil) (fun _ _ _ _ _ => (pe_def D_read_loop (hr.mono (by omega)) (by rfl) passB (pa_cons (pv 4) pa_nil)))) pa_nil)) pa_nil))))))), ?_⟩
  rintro ds m o hl ⟨t, rfl, ht, rfl⟩
  have e1 := ev_partition (K := K) (es := [.d (.str t), .no, .no, .no, .no]) (m := m) (a := t) (b := "(") (te := tVar 0) (tb := tC (.str "(")) (ev_var rfl nofun) ev_str tl_open ht
  unfold readShape
  cases hp : TL.par [40] [] (TL.tl t) with
  | none =>
    rw [hp] at e1
    refine body_seq (es1 := [.d (.str t), .d (.str t), .d (.str Str.empty), .d (.str Str.empty), .no]) (fun E => sv_asg e1 (gv_tup (gvs_cons gv_name (gvs_cons gv_name (gvs_cons gv_name gvs_nil))) rfl)) ?_
    exact body_raise (sx_ifT (eb_notF (eb_cast (eb_val (ev_ends (ev_var rfl nofun) ev_str tl_close)) rfl)) (sx_raise rfl))
  | some ab =>
    obtain ⟨r, rest⟩ := ab
    rw [hp] at e1
    have hle := par_le hp
    rw [← TL.len_tl] at hle
    refine body_seq (es1 := [.d (.str t), .d (.str (mk r)), .d (.str "("), .d (.str (mk rest)), .no]) (fun E => sv_asg e1 (gv_tup (gvs_cons gv_name (gvs_cons gv_name (gvs_cons gv_name gvs_nil))) rfl)) ?_
    by_cases hlast : rest.getLast? = some 41
    · show BodyO K D m.length _ _ m (if rest.getLast? = some 41 then _ else none)
      rw [if_pos hlast]
      refine body_seq (es1 := [.d (.str t), .d (.str (mk r)), .d (.str "("), .d (.str (mk rest)), .no]) (fun E => sv_ifF (m1 := m) (eb_notT (eb_cast (eb_val (ev_ends (ev_var rfl nofun) ev_str tl_close)) (decide_eq_true hlast))) sv_next) ?_
      have hz : (mk rest).length ≤ sizeLine := by rw [mk_len, sL]; omega
      have ecut : EvE K (tSl (rSlU K) (tVar 3) tNoPart (tPart (tUn (rU fun i => .int (-i)) (tC (.int 1))))) [.d (.str t), .d (.str (mk r)), .d (.str "("), .d (.str (mk rest)), .no] m (.d (.str (mk rest.dropLast))) m := by
        have q := ev_slS (K := K) (es := [.d (.str t), .d (.str (mk r)), .d (.str "("), .d (.str (mk rest)), .no]) (m := m) (te := tVar 3) (z := mk rest) (hi := some (-1)) (th := tPart (tUn (rU fun i => .int (-i)) (tC (.int 1)))) (ev_var rfl nofun) eo_none (eo_some (ev_un ev_int o_neg)) hz
        rw [str_mk (cutS (mk rest) none (some (-1))), cut_m1s] at q
        exact q
      have e2 := ev_split (K := K) (b := "|") (tb := tC (.str "|")) ecut ev_str (by rw [tl_bar]; simp) (by rw [tl_bar]; decide) (by rw [mk_len, List.length_dropLast]; omega)
      rw [tl_bar] at e2
      have hcount := spl_count [124] rest.dropLast (by simp)
      rw [List.length_dropLast] at hcount
      have q := x_tupMap (K := K) (D := D) (i := 4) (f := strF readLoop) (wi := fun _ => iSeq K (tBM K "str" rSplit (tSl (rSlU K) (tVar 3) tNoPart (tPart (tUn (rU fun i => .int (-i)) (tC (.int 1))))) (tCons (tC (.str "|")) tNil))) (t := fun E => tCall (spX K 1 (xG D R_loopX)) [] E (tCons (tVar 4) tNil)) (fun _ => ei_seqL e2) (by rw [List.length_map, sL, tl_of_mk]; omega) fun d hd => by
        obtain ⟨g, hg, rfl⟩ := List.mem_map.mp hd
        refine x_call (arg1 (ev_var rfl nofun)) (ds := [.str (mk g)]) rfl ⟨mk g, rfl, ?_, rfl⟩ rfl
        rw [mk_len]
        refine Nat.le_trans (spl_le hg) ?_
        rw [tl_of_mk, List.length_dropLast]
        omega
      rw [strF_map, tl_of_mk] at q
      have q2 := x_tup (eax_cons (D := D) (o1 := some (.str (mk r))) (a := fun _ => tVar 1) (x_ok fun _ => ev_var rfl nofun) (eax_cons q eax_nil)) (fun ds h => by
        cases hm : mapO readLoop (TL.spl [124] 0 [] rest.dropLast) with
        | none => rw [hm] at h; cases h
        | some ls => rw [hm] at h; cases h; simp)
      refine body_ret (ev_castX q2 ?_)
      cases mapO readLoop (TL.spl [124] 0 [] rest.dropLast) <;> rfl
    · show BodyO K D m.length _ _ m (if rest.getLast? = some 41 then _ else none)
      rw [if_neg hlast]
      exact body_raise (sx_ifT (eb_notF (eb_cast (eb_val (ev_ends (ev_var rfl nofun) ev_str tl_close)) (decide_eq_false hlast))) (sx_raise rfl))
end
end K30

set_option Elab.async false
set_option linter.all false
set_option maxRecDepth 100000
set_option maxHeartbeats 4000000
namespace K30
variable [DL.Tbs]
open PySem PySem.Spec PyProof.Rows L2 DL HX TX SX
section
variable {P : Program} {w : World} {K : PySem.W.Frag} {mg : Str → Option Value} {base : Heap} {D : Addr}
theorem ev_wordsX {n i : Nat} {t : Str} {es : List Sl} {m : M} (h : es[i]? = some (.d (.str t))) (h2 : 2 ≤ n) (h4 : n ≤ 4) (ht : t.length ≤ 10000) :
    EvX K (fun E => tCall (spX K 2 (xG D R_words)) [] E (tCons (tVar i) (tCons (tC (.int (n : Int))) tNil))) es m (resO D (if (spm [32] (n - 1) (TL.tl t)).length = n then some (.list ((spm [32] (n - 1) (TL.tl t)).map fun g => .str (mk g))) else none)) m :=
  x_call (arg2 (ev_var h nofun) ev_int) (ds := [.str t, .int (n : Int)]) rfl ⟨t, n, rfl, h2, h4, ht, rfl⟩ rfl
theorem ev_shapeX {i : Nat} {g : L} {es : List Sl} {m : M} (h : es[i]? = some (.d (.str (mk g)))) (hl : g.length ≤ 10000) : EvX K (fun E => tCall (spX K 1 (xG D R_shapeX)) [] E (tCons (tVar i) tNil)) es m (resO D (readShape g)) m :=
  x_call (arg1 (ev_var h nofun)) (ds := [.str (mk g)]) rfl ⟨mk g, rfl, by rw [mk_len]; exact hl, rfl⟩ rfl
theorem ev_numsX {i : Nat} {g : L} {s : Str} {c : Nat} {es : List Sl} {m : M} (h : es[i]? = some (.d (.str (mk g)))) (hs : TL.tl s = [c]) (hc : c < 256) (hl : g.length ≤ 10000) : EvX K (fun E => tCall (spX K 2 (xG D R_numsX)) [] E (tCons (tVar i) (tCons (tC (.str s)) tNil))) es m (resO D (readNums c g)) m :=
  x_call (arg2 (ev_var h nofun) ev_str) (ds := [.str (mk g), .str s]) rfl ⟨mk g, s, c, rfl, hs, hc, by rw [mk_len]; exact hl, rfl⟩ rfl
theorem consO_len {o1 : Option PyData} {o2 : Option (List PyData)} {n : Nat} (h : ∀ ds, o2 = some ds → ds.length ≤ n) : ∀ ds, consO o1 o2 = some ds → ds.length ≤ n + 1 := by
  intro ds e
  cases o1 with
  | none => cases e
  | some y =>
    cases o2 with
    | none => cases e
    | some ys =>
      cases e
      have := h ys rfl
      rw [List.length_cons]; omega
theorem nil_len : ∀ ds, (some [] : Option (List PyData)) = some ds → ds.length ≤ 0 := by
  intro ds e; cases e; exact Nat.le_refl _
abbrev R_fillX : List PyData → Option PyData → Prop := fun ds o => ∃ t : Str, ds = [.str t] ∧ t.length ≤ 10000 ∧ o = readFill (TL.tl t)
theorem c_fillX (TD : DefT K mg "read_fill" st_read_fill ["text"]) (D_split_words : PureX P w K mg base D 1 "split_words" ["text", "many"] R_words) (D_read_shape : PureX P w K mg base D 4 "read_shape" ["text"] R_shapeX)
    (D_read_numbers : PureX P w K mg base D 2 "read_numbers" ["text", "sign"] R_numsX) : PureX P w K mg base D 5 "read_fill" ["text"] R_fillX := by
  refine mkPureX TD S_read_fill fun f cdv A outer s H hr => ?_
  refine ⟨fun E => _, fun E => (pss_cons (ps_asg (pe_def D_split_words (hr.mono (by omega)) (by rfl) passN (pa_cons (pv 0) (pa_cons pe_int pa_nil))) (kLstG (K := K) rfl (pgs_cons (pg_name (i := 1) S_read_fill.nd rfl (Or.inl rfl)) (pgs_cons (pg_name (i := 2) S_read_fill.nd rfl (Or.inl rfl)) (pgs_cons (pg_name (i := 3) S_read_fill.nd rfl (Or.inl rfl)) pgs_nil)))))
      (pss_one (ps_ret (pe_tup (pa_cons pe_str (pa_cons (pe_def D_read_shape (hr.mono (by omega)) (by rfl) passN (pa_cons (pv 1) pa_nil)) (pa_cons (pe_def D_read_numbers (hr.mono (by omega)) (by rfl) passN (pa_cons (pv 2) (pa_cons pe_str pa_nil))) (pa_cons (pe_def D_read_numbers (hr.mono (by omega)) (by rfl) passN (pa_cons (pv 3) (pa_cons pe_str pa_nil))) pa_nil)))))))), ?_⟩
  rintro ds m o hl ⟨t, rfl, ht, rfl⟩
  have hw := ev_wordsX (K := K) (D := D) (n := 3) (i := 0) (t := t) (es := [.d (.str t), .no, .no, .no]) (m := m) rfl (by decide) (by decide) ht
  have hle : ∀ g, g ∈ spm [32] 2 (TL.tl t) → g.length ≤ 10000 := fun g hg => Nat.le_trans (spm_le hg) (by rw [← TL.len_tl]; exact ht)
  unfold readFill
  have hw : EvX K (fun E => tCall (spX K 2 (xG D R_words)) [] E (tCons (tVar 0) (tCons (tC (.int 3)) tNil))) [.d (.str t), .no, .no, .no] m (resO D (if (spm [32] 2 (TL.tl t)).length = 3 then some (.list ((spm [32] 2 (TL.tl t)).map fun g => .str (mk g))) else none)) m := hw
  generalize spm [32] 2 (TL.tl t) = ws at hw hle
  rcases ws with _ | ⟨s, _ | ⟨c, _ | ⟨o, _ | ⟨x, r⟩⟩⟩⟩
  · rw [if_neg (by simp)] at hw
    exact sx_fst (sx_asg hw)
  · rw [if_neg (by simp)] at hw
    exact sx_fst (sx_asg hw)
  · rw [if_neg (by simp)] at hw
    exact sx_fst (sx_asg hw)
  · rw [if_pos (by simp)] at hw
    refine body_seq (es1 := [.d (.str t), .d (.str (mk s)), .d (.str (mk c)), .d (.str (mk o))]) (fun E => sv_asg (hw E) (gv_lst (gvs_cons gv_name (gvs_cons gv_name (gvs_cons gv_name gvs_nil))) rfl)) ?_
    have q := x_tup (eax_cons (D := D) (o1 := some (.str "fill")) (a := fun _ => tC (.str "fill")) (x_ok fun _ => ev_str) (eax_cons (ev_shapeX (K := K) (D := D) (i := 1) (g := s) (es := [.d (.str t), .d (.str (mk s)), .d (.str (mk c)), .d (.str (mk o))]) (m := m) rfl (hle s (by simp))) (eax_cons (ev_numsX (i := 2) (g := c) (s := ".") rfl tl_dot (by decide) (hle c (by simp))) (eax_cons (ev_numsX (i := 3) (g := o) (s := "/") rfl tl_slash (by decide) (hle o (by simp))) eax_nil))))
      (fun ds h => Nat.le_trans (consO_len (consO_len (consO_len (consO_len nil_len))) ds h) (by decide))
    refine body_ret (ev_castX q ?_)
    show Option.map PyData.tuple (consO (some (.str "fill")) (consO (readShape s) (consO (readNums 46 c) (consO (readNums 47 o) (some []))))) = (match readShape s with
      | none => none
      | some s' => match readNums 46 c with
        | none => none
        | some c' => match readNums 47 o with
          | none => none
          | some o' => some (.tuple [.str "fill", s', c', o']))
    cases readShape s <;> cases readNums 46 c <;> cases readNums 47 o <;> rfl
  · rw [if_neg (by simp)] at hw
    exact sx_fst (sx_asg hw)
abbrev R_rubX : List PyData → Option PyData → Prop := fun ds o => ∃ t : Str, ds = [.str t] ∧ t.length ≤ 10000 ∧ o = readRub (TL.tl t)
theorem c_rubX (TD : DefT K mg "read_rub" st_read_rub ["text"]) (D_split_words : PureX P w K mg base D 1 "split_words" ["text", "many"] R_words) (D_read_shape : PureX P w K mg base D 4 "read_shape" ["text"] R_shapeX)
    (D_read_numbers : PureX P w K mg base D 2 "read_numbers" ["text", "sign"] R_numsX) : PureX P w K mg base D 5 "read_rub" ["text"] R_rubX := by
  refine mkPureX TD S_read_rub fun f cdv A outer s H hr => ?_
  refine ⟨fun E => _, fun E => (pss_cons (ps_asg (pe_def D_split_words (hr.mono (by omega)) (by rfl) passN (pa_cons (pv 0) (pa_cons pe_int pa_nil))) (kLstG (K := K) rfl (pgs_cons (pg_name (i := 1) S_read_rub.nd rfl (Or.inl rfl)) (pgs_cons (pg_name (i := 2) S_read_rub.nd rfl (Or.inl rfl)) pgs_nil))))
      (pss_one (ps_ret (pe_tup (pa_cons pe_str (pa_cons (pe_def D_read_shape (hr.mono (by omega)) (by rfl) passN (pa_cons (pv 1) pa_nil)) (pa_cons (pe_def D_read_numbers (hr.mono (by omega)) (by rfl) passN (pa_cons (pv 2) (pa_cons pe_str pa_nil))) pa_nil))))))), ?_⟩
  rintro ds m o hl ⟨t, rfl, ht, rfl⟩
  have hw := ev_wordsX (K := K) (D := D) (n := 2) (i := 0) (t := t) (es := [.d (.str t), .no, .no]) (m := m) rfl (by decide) (by decide) ht
  have hle : ∀ g, g ∈ spm [32] 1 (TL.tl t) → g.length ≤ 10000 := fun g hg => Nat.le_trans (spm_le hg) (by rw [← TL.len_tl]; exact ht)
  unfold readRub
  have hw : EvX K (fun E => tCall (spX K 2 (xG D R_words)) [] E (tCons (tVar 0) (tCons (tC (.int 2)) tNil))) [.d (.str t), .no, .no] m (resO D (if (spm [32] 1 (TL.tl t)).length = 2 then some (.list ((spm [32] 1 (TL.tl t)).map fun g => .str (mk g))) else none)) m := hw
  generalize spm [32] 1 (TL.tl t) = ws at hw hle
  rcases ws with _ | ⟨s, _ | ⟨o, _ | ⟨x, r⟩⟩⟩
  · rw [if_neg (by simp)] at hw
    exact sx_fst (sx_asg hw)
  · rw [if_neg (by simp)] at hw
    exact sx_fst (sx_asg hw)
  · rw [if_pos (by simp)] at hw
    refine body_seq (es1 := [.d (.str t), .d (.str (mk s)), .d (.str (mk o))]) (fun E => sv_asg (hw E) (gv_lst (gvs_cons gv_name (gvs_cons gv_name gvs_nil)) rfl)) ?_
    have q := x_tup (eax_cons (D := D) (o1 := some (.str "rub")) (a := fun _ => tC (.str "rub")) (x_ok fun _ => ev_str) (eax_cons (ev_shapeX (K := K) (D := D) (i := 1) (g := s) (es := [.d (.str t), .d (.str (mk s)), .d (.str (mk o))]) (m := m) rfl (hle s (by simp))) (eax_cons (ev_numsX (i := 2) (g := o) (s := "/") rfl tl_slash (by decide) (hle o (by simp))) eax_nil)))
      (fun ds h => Nat.le_trans (consO_len (consO_len (consO_len nil_len)) ds h) (by decide))
    refine body_ret (ev_castX q ?_)
    show Option.map PyData.tuple (consO (some (.str "rub")) (consO (readShape s) (consO (readNums 47 o) (some [])))) = (match readShape s with
      | none => none
      | some s' => match readNums 47 o with
        | none => none
        | some o' => some (.tuple [.str "rub", s', o']))
    cases readShape s <;> cases readNums 47 o <;> rfl
  · rw [if_neg (by simp)] at hw
    exact sx_fst (sx_asg hw)
abbrev R_layersX (n : Nat) : List PyData → Option PyData → Prop := fun ds o => ∃ t : Str, ds = [.str t, .int (n : Int)] ∧ t.length ≤ 10000 ∧ o = (readLayersF (readLayer n) (TL.tl t)).map .tuple
def grpX (n : Nat) (l : L) : Option PyData := match n with
  | 0 => none
  | n + 1 => readGroup (readLayersF (readLayer n)) l
abbrev R_groupX (n : Nat) : List PyData → Option PyData → Prop := fun ds o => ∃ t : Str, ds = [.str t, .int (n : Int)] ∧ t.length ≤ 10000 ∧ o = grpX n (TL.tl t)
theorem c_groupX {n k : Nat} (hk : 4 ≤ k) (TD : DefT K mg "read_group" st_read_group ["text", "deepest"]) (gD : mg "InvalidText" = some (.ref D)) (rD : RaiseD K D) (D_split_words : PureX P w K mg base D 1 "split_words" ["text", "many"] R_words) (D_read_shape : PureX P w K mg base D 4 "read_shape" ["text"] R_shapeX)
    (D_read_numbers : PureX P w K mg base D 2 "read_numbers" ["text", "sign"] R_numsX) {R : List PyData → Option PyData → Prop} (D_read_layers : PureX P w K mg base D k "read_layers" ["text", "deepest"] R) (hR : ∀ j, n = j + 1 → R = R_layersX j) : PureX P w K mg base D (k + 1) "read_group" ["text", "deepest"] (R_groupX n) := by
  refine mkPureX TD S_read_group fun f cdv A outer s H hr => ?_
  have hu := hr.units
  refine ⟨fun E => _, fun E => (pss_cons (ps_if (pt_cmpR (kEq (K := K) hu) (pv 1) pe_int (nomark _)) (pss_one (L2N.ps_raise rfl takesN (L2N.pmk_own PySem.F.excBase_ValueError rD.own gD rD.kp (raises_own rD.bF rD.tF) (by rfl)))) pss_nil)
      (pss_cons (ps_asg (pe_def D_split_words (hr.mono (by omega)) (by rfl) passN (pa_cons (pv 0) (pa_cons pe_int pa_nil))) (kLstG (K := K) rfl (pgs_cons (pg_name (i := 2) S_read_group.nd rfl (Or.inl rfl)) (pgs_cons (pg_name (i := 3) S_read_group.nd rfl (Or.inl rfl)) (pgs_cons (pg_name (i := 4) S_read_group.nd rfl (Or.inl rfl)) (pgs_cons (pg_name (i := 5) S_read_group.nd rfl (Or.inl rfl)) pgs_nil))))))
      (pss_cons (ps_if (PW.pt (pw_or (pt_not (pt_val (kBm (K := K) PySem.F.plainAttrs_str PySem.F.slot_str_startswith PySem.F.type_str_startswith mt_startswith (pv 5) (pa_cons pe_str pa_nil)))) (pw_or1 (pt_not (pt_val (kBm (K := K) PySem.F.plainAttrs_str PySem.F.slot_str_endswith PySem.F.type_str_endswith mt_endswith (pv 5) (pa_cons pe_str pa_nil))))))) (pss_one (L2N.ps_raise rfl takesN (L2N.pmk_own PySem.F.excBase_ValueError rD.own gD rD.kp (raises_own rD.bF rD.tF) (by rfl)))) pss_nil)
      (pss_cons (ps_set (i := 6) S_read_group.nd rfl (Or.inl rfl) (pe_def D_read_layers (hr.mono (by omega)) (by rfl) passN (pa_cons (pe_slice (kSlU (K := K)) (pv 5) (po_some pe_int) (po_some (pe_un un_neg pe_int))) (pa_cons (pe_op op_sub (pv 1) pe_int) pa_nil))))
      (pss_cons (ps_set (i := 7) S_read_group.nd rfl (Or.inl rfl) (pe_ifExp (pt_cmpR (kEq (K := K) hu) (pv 4) pe_str (nomark _)) pe_non (pe_def D_read_shape (hr.mono (by omega)) (by rfl) passN (pa_cons (pv 4) pa_nil))))
      (pss_one (ps_ret (pe_tup (pa_cons pe_str (pa_cons (pv 6) (pa_cons (pe_def D_read_numbers (hr.mono (by omega)) (by rfl) passN (pa_cons (pv 3) (pa_cons pe_str pa_nil))) (pa_cons (pv 7) (pa_cons (pe_def D_read_numbers (hr.mono (by omega)) (by rfl) passN (pa_cons (pv 2) (pa_cons pe_str pa_nil))) pa_nil))))))))))))), ?_⟩
  rintro ds m o hl ⟨t, rfl, ht, rfl⟩
  cases n with
  | zero => exact sx_fst (sx_ifT (eb_cast (eb_test (ev_op (ev_var rfl nofun) ev_int o_eqI)) rfl) (sx_raise rfl))
  | succ n =>
    cases hR n rfl
    refine body_seq (es1 := [.d (.str t), .d (.int ((n + 1 : Nat) : Int)), .no, .no, .no, .no, .no, .no]) (fun E => sv_ifF (m1 := m) (eb_cast (eb_test (ev_op (ev_var rfl nofun) ev_int o_eqI)) (by simp; omega)) sv_next) ?_
    have hw := ev_wordsX (K := K) (D := D) (n := 4) (i := 0) (t := t) (es := [.d (.str t), .d (.int ((n + 1 : Nat) : Int)), .no, .no, .no, .no, .no, .no]) (m := m) rfl (by decide) (by decide) ht
    have hle : ∀ g, g ∈ spm [32] 3 (TL.tl t) → g.length ≤ 10000 := fun g hg => Nat.le_trans (spm_le hg) (by rw [← TL.len_tl]; exact ht)
    show BodyO K D m.length _ _ m (readGroup (readLayersF (readLayer n)) (TL.tl t))
    unfold readGroup
    have hw : EvX K (fun E => tCall (spX K 2 (xG D R_words)) [] E (tCons (tVar 0) (tCons (tC (.int 4)) tNil))) [.d (.str t), .d (.int ((n + 1 : Nat) : Int)), .no, .no, .no, .no, .no, .no] m (resO D (if (spm [32] 3 (TL.tl t)).length = 4 then some (.list ((spm [32] 3 (TL.tl t)).map fun g => .str (mk g))) else none)) m := hw
    generalize spm [32] 3 (TL.tl t) = ws at hw hle
    rcases ws with _ | ⟨mt, _ | ⟨o, _ | ⟨c, _ | ⟨i, _ | ⟨x, r⟩⟩⟩⟩⟩
    · rw [if_neg (by simp)] at hw
      exact sx_fst (sx_asg hw)
    · rw [if_neg (by simp)] at hw
      exact sx_fst (sx_asg hw)
    · rw [if_neg (by simp)] at hw
      exact sx_fst (sx_asg hw)
    · rw [if_neg (by simp)] at hw
      exact sx_fst (sx_asg hw)
    · rw [if_pos (by simp)] at hw
      refine body_seq (es1 := [.d (.str t), .d (.int ((n + 1 : Nat) : Int)), .d (.str (mk mt)), .d (.str (mk o)), .d (.str (mk c)), .d (.str (mk i)), .no, .no]) (fun E => sv_asg (hw E) (gv_lst (gvs_cons gv_name (gvs_cons gv_name (gvs_cons gv_name (gvs_cons gv_name gvs_nil)))) rfl)) ?_
      have hS := fun b (hb : decide (i.head? = some 91) = b) => eb_cast (eb_val (ev_starts (K := K) (es := [.d (.str t), .d (.int ((n + 1 : Nat) : Int)), .d (.str (mk mt)), .d (.str (mk o)), .d (.str (mk c)), .d (.str (mk i)), .no, .no]) (m := m) (te := tVar 5) (tb := tC (.str "[")) (a := mk i) (b := "[") (ev_var rfl nofun) ev_str tl_sopen)) (b' := b) hb
      have hE := fun b (hb : decide (i.getLast? = some 93) = b) => eb_cast (eb_val (ev_ends (K := K) (es := [.d (.str t), .d (.int ((n + 1 : Nat) : Int)), .d (.str (mk mt)), .d (.str (mk o)), .d (.str (mk c)), .d (.str (mk i)), .no, .no]) (m := m) (te := tVar 5) (tb := tC (.str "]")) (a := mk i) (b := "]") (ev_var rfl nofun) ev_str tl_sclose)) (b' := b) hb
      by_cases h1 : i.head? = some 91
      · by_cases h2 : i.getLast? = some 93
        · show BodyO K D m.length _ _ m (if i.head? = some 91 ∧ i.getLast? = some 93 then _ else none)
          rw [if_pos ⟨h1, h2⟩]
          refine body_seq (es1 := [.d (.str t), .d (.int ((n + 1 : Nat) : Int)), .d (.str (mk mt)), .d (.str (mk o)), .d (.str (mk c)), .d (.str (mk i)), .no, .no]) (fun E => sv_ifF (m1 := m) (eb_orF (eb_notT (hS true (decide_eq_true h1))) (eb_notT (hE true (decide_eq_true h2)))) sv_next) ?_
          have li := hle i (by simp)
          have ecut : EvE K (tSl (rSlU K) (tVar 5) (tPart (tC (.int 1))) (tPart (tUn (rU fun i => .int (-i)) (tC (.int 1))))) [.d (.str t), .d (.int ((n + 1 : Nat) : Int)), .d (.str (mk mt)), .d (.str (mk o)), .d (.str (mk c)), .d (.str (mk i)), .no, .no] m (.d (.str (mk (i.drop 1).dropLast))) m := by
            have q := ev_slS (K := K) (es := [.d (.str t), .d (.int ((n + 1 : Nat) : Int)), .d (.str (mk mt)), .d (.str (mk o)), .d (.str (mk c)), .d (.str (mk i)), .no, .no]) (m := m) (te := tVar 5) (z := mk i) (lo := some 1) (hi := some (-1)) (tl := tPart (tC (.int 1))) (th := tPart (tUn (rU fun i => .int (-i)) (tC (.int 1)))) (ev_var rfl nofun) (eo_some ev_int) (eo_some (ev_un ev_int o_neg)) (by rw [mk_len, sL]; omega)
            rw [str_mk (cutS (mk i) (some 1) (some (-1))), cut_1m1] at q
            exact q
          have ql := x_call (K := K) (D := D) (R := R_layersX n) (n := 2) (ta := tCons (tSl (rSlU K) (tVar 5) (tPart (tC (.int 1))) (tPart (tUn (rU fun i => .int (-i)) (tC (.int 1))))) (tCons (tOp (rI0 fun i j => .int (i - j)) (tVar 1) (tC (.int 1))) tNil)) (arg2 ecut (ev_cast (ev_op (ev_var (r := .d (.int ((n + 1 : Nat) : Int))) rfl nofun) ev_int o_i0) (r' := .d (.int (n : Int))) (by
            show Sl.d (.int (((n + 1 : Nat) : Int) - 1)) = Sl.d (.int (n : Int))
            congr 2
            omega))) (ds := [.str (mk (i.drop 1).dropLast), .int (n : Int)]) rfl ⟨mk (i.drop 1).dropLast, rfl, by rw [mk_len, List.length_dropLast, List.length_drop]; omega, rfl⟩ rfl
          rw [tl_of_mk] at ql
          cases hls : readLayersF (readLayer n) (i.drop 1).dropLast with
          | none =>
            rw [hls] at ql
            exact sx_fst (sx_asg ql)
          | some ls =>
            rw [hls] at ql
            refine body_seq (es1 := [.d (.str t), .d (.int ((n + 1 : Nat) : Int)), .d (.str (mk mt)), .d (.str (mk o)), .d (.str (mk c)), .d (.str (mk i)), .d (.tuple ls), .no]) (fun E => sv_set (ql E)) ?_
            have qc : EvX K (fun E => tIf (tTest (tOp (rEqU K) (tVar 4) (tC (.str "-")))) (tC .non) (tCall (spX K 1 (xG D R_shapeX)) [] E (tCons (tVar 4) tNil))) [.d (.str t), .d (.int ((n + 1 : Nat) : Int)), .d (.str (mk mt)), .d (.str (mk o)), .d (.str (mk c)), .d (.str (mk i)), .d (.tuple ls), .no] m (resO D (readClip c)) m := by
              unfold readClip
              by_cases hc : c = [45]
              · rw [if_pos hc]
                exact x_ifT (eb_cast (eb_test (ev_op (ev_var rfl nofun) ev_str o_eqS)) ((dec_tl tl_dash).trans (decide_eq_true hc))) (x_ok fun _ => ev_non)
              · rw [if_neg hc]
                exact x_ifF (eb_cast (eb_test (ev_op (ev_var rfl nofun) ev_str o_eqS)) ((dec_tl tl_dash).trans (decide_eq_false hc))) (ev_shapeX rfl (hle c (by simp)))
            cases hcl : readClip c with
            | none =>
              rw [hcl] at qc
              exact sx_fst (sx_asg qc)
            | some c' =>
              rw [hcl] at qc
              refine body_seq (es1 := [.d (.str t), .d (.int ((n + 1 : Nat) : Int)), .d (.str (mk mt)), .d (.str (mk o)), .d (.str (mk c)), .d (.str (mk i)), .d (.tuple ls), .d c']) (fun E => sv_set (qc E)) ?_
              have q := x_tup (eax_cons (K := K) (es := [.d (.str t), .d (.int ((n + 1 : Nat) : Int)), .d (.str (mk mt)), .d (.str (mk o)), .d (.str (mk c)), .d (.str (mk i)), .d (.tuple ls), .d c']) (m := m) (D := D) (o1 := some (.str "group")) (a := fun _ => tC (.str "group")) (x_ok fun _ => ev_str) (eax_cons (o1 := some (.tuple ls)) (a := fun _ => tVar 6) (x_ok fun _ => ev_var rfl nofun) (eax_cons (ev_numsX (i := 3) (g := o) (s := "/") rfl tl_slash (by decide) (hle o (by simp))) (eax_cons (o1 := some c') (a := fun _ => tVar 7) (x_ok fun _ => ev_var rfl nofun) (eax_cons (ev_numsX (i := 2) (g := mt) (s := ".") rfl tl_dot (by decide) (hle mt (by simp))) eax_nil)))))
                (fun ds h => Nat.le_trans (consO_len (consO_len (consO_len (consO_len (consO_len nil_len)))) ds h) (by decide))
              refine body_ret (ev_castX q ?_)
              show Option.map PyData.tuple (consO (some (.str "group")) (consO (some (.tuple ls)) (consO (readNums 47 o) (consO (some c') (consO (readNums 46 mt) (some [])))))) = (match readNums 47 o with
                | none => none
                | some o' => match readNums 46 mt with
                  | none => none
                  | some m' => some (.tuple [.str "group", .tuple ls, o', c', m']))
              cases readNums 47 o <;> cases readNums 46 mt <;> rfl
        · show BodyO K D m.length _ _ m (if i.head? = some 91 ∧ i.getLast? = some 93 then _ else none)
          rw [if_neg (fun z => h2 z.2)]
          exact body_raise (sx_ifT (eb_orF (eb_notT (hS true (decide_eq_true h1))) (eb_notF (hE false (decide_eq_false h2)))) (sx_raise rfl))
      · show BodyO K D m.length _ _ m (if i.head? = some 91 ∧ i.getLast? = some 93 then _ else none)
        rw [if_neg (fun z => h1 z.1)]
        exact body_raise (sx_ifT (eb_orT (eb_notF (hS false (decide_eq_false h1)))) (sx_raise rfl))
    · rw [if_neg (by simp)] at hw
      exact sx_fst (sx_asg hw)
end
end K30

set_option Elab.async false
set_option linter.all false
set_option maxRecDepth 100000
set_option maxHeartbeats 4000000
namespace K30
variable [DL.Tbs]
open PySem PySem.Spec PyProof.Rows L2 DL HX TX SX
section
variable {P : Program} {w : World} {K : PySem.W.Frag} {mg : Str → Option Value} {base : Heap} {D : Addr}
theorem body_ifT {n : Nat} {tt : TT} {t : XK → TE} {b : XK → TS} {es : List Sl} {m : M} {o : Option PyData} (hb : EvB K tt es m true m) (h : EvX K t es m (resO D o) m) : BodyO K D n (fun E => tSeq (tIfS tt (tRet (t E)) tNext) (b E)) es m o := by
  cases o with
  | none => exact sx_fst (sx_ifT hb (sx_ret h))
  | some y => exact fun E => sv_ifsT hb rfl (sv_ret0 (h E))
theorem body_ifF {n : Nat} {tt : TT} {a b : XK → TS} {es : List Sl} {m : M} {o : Option PyData} (hb : EvB K tt es m false m) (h2 : BodyO K D n b es m o) : BodyO K D n (fun E => tSeq (tIfS tt (a E) tNext) (b E)) es m o :=
  body_seq (fun E => sv_ifF hb sv_next) h2
abbrev R_layerX (n : Nat) : List PyData → Option PyData → Prop := fun ds o => ∃ t : Str, ds = [.str t, .int (n : Int)] ∧ t.length ≤ 10000 ∧ o = readLayer n (TL.tl t)
theorem c_layerX {n k : Nat} (hk : 5 ≤ k) (TD : DefT K mg "read_layer" st_read_layer ["text", "deepest"]) (gD : mg "InvalidText" = some (.ref D)) (rD : RaiseD K D) (D_read_fill : PureX P w K mg base D 5 "read_fill" ["text"] R_fillX) (D_read_rub : PureX P w K mg base D 5 "read_rub" ["text"] R_rubX)
    (D_read_group : PureX P w K mg base D k "read_group" ["text", "deepest"] (R_groupX n)) : PureX P w K mg base D (k + 1) "read_layer" ["text", "deepest"] (R_layerX n) := by
  refine mkPureX TD S_read_layer fun f cdv A outer s H hr => ?_
  have hu := hr.units
  refine ⟨fun E => _, fun E => (pss_cons (ps_asg (kBm (K := K) PySem.F.plainAttrs_str PySem.F.slot_str_partition PySem.F.type_str_partition mt_partition (pv 0) (pa_cons pe_str pa_nil)) (kTupG (K := K) rfl (pgs_cons (pg_name (i := 2) S_read_layer.nd rfl (Or.inl rfl)) (pgs_cons (pg_name (i := 3) S_read_layer.nd rfl (Or.inl rfl)) (pgs_cons (pg_name (i := 4) S_read_layer.nd rfl (Or.inl rfl)) pgs_nil)))))
      (pss_cons (ps_if (pt_cmpR (kEq (K := K) hu) (pv 2) pe_str (nomark _)) (pss_one (ps_ret (pe_def D_read_fill (hr.mono (by omega)) (by rfl) passN (pa_cons (pv 4) pa_nil)))) pss_nil)
      (pss_cons (ps_if (pt_cmpR (kEq (K := K) hu) (pv 2) pe_str (nomark _)) (pss_one (ps_ret (pe_def D_read_rub (hr.mono (by omega)) (by rfl) passN (pa_cons (pv 4) pa_nil)))) pss_nil)
      (pss_cons (ps_if (pt_cmpR (kEq (K := K) hu) (pv 2) pe_str (nomark _)) (pss_one (ps_ret (pe_def D_read_group (hr.mono (by omega)) (by rfl) passN (pa_cons (pv 4) (pa_cons (pv 1) pa_nil))))) pss_nil)
      (pss_one (L2N.ps_raise rfl takesN (L2N.pmk_own PySem.F.excBase_ValueError rD.own gD rD.kp (raises_own rD.bF rD.tF) (by rfl)))))))), ?_⟩
  rintro ds m o hl ⟨t, rfl, ht, rfl⟩
  have e1 := ev_partition (K := K) (es := [.d (.str t), .d (.int (n : Int)), .no, .no, .no]) (m := m) (a := t) (b := " ") (te := tVar 0) (tb := tC (.str " ")) (ev_var rfl nofun) ev_str tl_space ht
  have key : ∀ (kd rest x : Str), rest.length ≤ 10000 → BodyO K D m.length (fun E => tSeq (tIfS (tTest (tOp (rEqU K) (tVar 2) (tC (.str "fill")))) (tRet (tCall (spX K 1 (xG D R_fillX)) [] E (tCons (tVar 4) tNil))) tNext) (tSeq (tIfS (tTest (tOp (rEqU K) (tVar 2) (tC (.str "rub")))) (tRet (tCall (spX K 1 (xG D R_rubX)) [] E (tCons (tVar 4) tNil))) tNext)
        (tSeq (tIfS (tTest (tOp (rEqU K) (tVar 2) (tC (.str "group")))) (tRet (tCall (spX K 2 (xG D (R_groupX n))) [] E (tCons (tVar 4) (tCons (tVar 1) tNil)))) tNext) (fun _ σ H => (fun (_ : L2.St) (H : Hp) (Q : XK) => Q (.ref D) none H) σ H fun cls d H' => E cls d H'))))
      [.d (.str t), .d (.int (n : Int)), .d (.str kd), .d (.str x), .d (.str rest)] m (if TL.tl kd = wFill then readFill (TL.tl rest) else if TL.tl kd = wRub then readRub (TL.tl rest) else if TL.tl kd = wGroup then grpX n (TL.tl rest) else none) := by
    intro kd rest x hrest
    have ht1 := fun b (hb : decide (TL.tl kd = wFill) = b) => eb_cast (eb_test (ev_op (K := K) (es := [.d (.str t), .d (.int (n : Int)), .d (.str kd), .d (.str x), .d (.str rest)]) (m := m) (ta := tVar 2) (tb := tC (.str "fill")) (ev_var rfl nofun) ev_str o_eqS)) ((dec_tl tl_fill).trans hb)
    have ht2 := fun b (hb : decide (TL.tl kd = wRub) = b) => eb_cast (eb_test (ev_op (K := K) (es := [.d (.str t), .d (.int (n : Int)), .d (.str kd), .d (.str x), .d (.str rest)]) (m := m) (ta := tVar 2) (tb := tC (.str "rub")) (ev_var rfl nofun) ev_str o_eqS)) ((dec_tl tl_rub).trans hb)
    have ht3 := fun b (hb : decide (TL.tl kd = wGroup) = b) => eb_cast (eb_test (ev_op (K := K) (es := [.d (.str t), .d (.int (n : Int)), .d (.str kd), .d (.str x), .d (.str rest)]) (m := m) (ta := tVar 2) (tb := tC (.str "group")) (ev_var rfl nofun) ev_str o_eqS)) ((dec_tl tl_group).trans hb)
    by_cases h1 : TL.tl kd = wFill
    · rw [if_pos h1]
      exact body_ifT (ht1 true (decide_eq_true h1)) (x_call (arg1 (ev_var rfl nofun)) (ds := [.str rest]) rfl ⟨rest, rfl, hrest, rfl⟩ rfl)
    · rw [if_neg h1]
      refine body_ifF (ht1 false (decide_eq_false h1)) ?_
      by_cases h2 : TL.tl kd = wRub
      · rw [if_pos h2]
        exact body_ifT (ht2 true (decide_eq_true h2)) (x_call (arg1 (ev_var rfl nofun)) (ds := [.str rest]) rfl ⟨rest, rfl, hrest, rfl⟩ rfl)
      · rw [if_neg h2]
        refine body_ifF (ht2 false (decide_eq_false h2)) ?_
        by_cases h3 : TL.tl kd = wGroup
        · rw [if_pos h3]
          exact body_ifT (ht3 true (decide_eq_true h3)) (x_call (arg2 (ev_var rfl nofun) (ev_var rfl nofun)) (ds := [.str rest, .int (n : Int)]) rfl ⟨rest, rfl, hrest, rfl⟩ rfl)
        · rw [if_neg h3]
          exact body_ifF (ht3 false (decide_eq_false h3)) (sx_raise rfl)
  unfold readLayer
  cases hp : TL.par [32] [] (TL.tl t) with
  | none =>
    rw [hp] at e1
    refine body_seq (es1 := [.d (.str t), .d (.int (n : Int)), .d (.str t), .d (.str Str.empty), .d (.str Str.empty)]) (fun E => sv_asg e1 (gv_tup (gvs_cons gv_name (gvs_cons gv_name (gvs_cons gv_name gvs_nil))) rfl)) ?_
    have z := key t Str.empty Str.empty (Nat.zero_le _)
    have e : (if TL.tl t = wFill then readFill (TL.tl Str.empty) else if TL.tl t = wRub then readRub (TL.tl Str.empty) else if TL.tl t = wGroup then grpX n (TL.tl Str.empty) else none) = (none : Option PyData) := by
      split
      · rfl
      · split
        · rfl
        · split
          · cases n <;> rfl
          · rfl
    rw [e] at z
    exact z
  | some ab =>
    obtain ⟨kd, rest⟩ := ab
    rw [hp] at e1
    have hle := par_le hp
    rw [← TL.len_tl] at hle
    refine body_seq (es1 := [.d (.str t), .d (.int (n : Int)), .d (.str (mk kd)), .d (.str " "), .d (.str (mk rest))]) (fun E => sv_asg e1 (gv_tup (gvs_cons gv_name (gvs_cons gv_name (gvs_cons gv_name gvs_nil))) rfl)) ?_
    exact key (mk kd) (mk rest) " " (by rw [mk_len]; omega)
/-! ### layers parted outside of brackets -/
def BodyM (K : PySem.W.Frag) (D : Addr) (n : Nat) (t : XK → TS) (es : List Sl) (mm m : M) : Option PyData → Prop
  | some y => ∀ E, Sv K n (t E) es mm (.ret (.d y) m)
  | none => SvX K n t es mm D m
theorem bodyM_seq {n : Nat} {a b : XK → TS} {es es1 : List Sl} {mm m1 m : M} {o : Option PyData} (h : ∀ E, Sv K n (a E) es mm (.nx es1 m1)) (h2 : BodyM K D n b es1 m1 m o) : BodyM K D n (fun E => tSeq (a E) (b E)) es mm m o := by
  cases o with
  | none => exact sx_snd h h2
  | some y => exact fun E => sv_seq (h E) (h2 E)
theorem sx_less {n : Nat} {t : XK → TS} {es : List Sl} {mm m X : M} (h : SvX K n t es mm D (m ++ X)) : SvX K n t es mm D m := fun σ H H0 ρ hn w e Dn E q => h σ H H0 ρ hn w e Dn E fun ρ' H' H0' ml s' w' => q ρ' H' H0' (X ++ ml) s' (by rw [← List.append_assoc]; exact w')
theorem take_set {α : Type} {l : List α} {n i : Nat} {a : α} (h : n ≤ i) : (l.set i a).take n = l.take n := by
  refine List.ext_getElem? fun j => ?_
  by_cases hj : j < n
  · rw [List.getElem?_take_of_lt hj, List.getElem?_take_of_lt hj, List.getElem?_set_ne (by omega)]
  · rw [List.getElem?_eq_none (by rw [List.length_take]; omega), List.getElem?_eq_none (by rw [List.length_take]; omega)]
def appO (gs : List (List L)) : Option (List (List L)) → Option (List (List L))
  | none => none
  | some g => some (gs ++ g)
abbrev strD (gs : List L) : List PyData := gs.map fun g => .str (mk g)
theorem strD_app (a b : List L) : strD (a ++ b) = strD a ++ strD b := List.map_append
abbrev rCount : V → List V → Hp → VK → Prop := fun x xs H Q => ∃ a b, x = V.str a ∧ xs = [V.str b] ∧ Q (.int (Txt.count a b)) H
theorem ev_count {te tb : TE} {es : List Sl} {m : M} {a b : Str} {c : Nat} (h : EvE K te es m (.d (.str a)) m) (h2 : EvE K tb es m (.d (.str b)) m) (hb : TL.tl b = [c]) : EvE K (tBM K "str" rCount te (tCons tb tNil)) es m (.d (.int ((TL.tl a).count c : Int))) m := by
  have q := ev_bmS (K := K) (r := rCount) h (arg1 h2) (c_count (a := a) (b := b))
  rw [count_one hb] at q
  exact q
theorem part_sum {A h R Pp : List L} (e : A ++ (h ++ R) = Pp) : (h.map (·.length)).sum ≤ (Pp.map (·.length)).sum ∧ h.length ≤ Pp.length := by
  subst e
  constructor
  · rw [List.map_append, List.sum_append, List.map_append, List.sum_append]
    omega
  · rw [List.length_append, List.length_append]
    omega
abbrev R_sl : List PyData → Option PyData → Prop := fun ds o => ∃ t : Str, ds = [.str t] ∧ t.length ≤ 10000 ∧ o = (splitLayers (TL.tl t)).map fun ts => .list (strD ts)
theorem c_splitX (TD : DefT K mg "split_layers" st_split_layers ["text"]) (h_BETWEEN_LAYERS : ∃ t, mg "BETWEEN_LAYERS" = some (.str " & " t)) (gD : mg "InvalidText" = some (.ref D)) (rD : RaiseD K D) : PureX P w K mg base D 1 "split_layers" ["text"] R_sl := by
  refine mkPureX TD S_split_layers fun f cdv A outer s H hr => ?_
  have hu := hr.units
  refine ⟨fun E => _, fun E => (pss_cons (ps_set (i := 1) S_split_layers.nd rfl (Or.inl rfl) (pe_lst pa_nil))
      (pss_cons (ps_set (i := 2) S_split_layers.nd rfl (Or.inl rfl) (pe_lst pa_nil))
      (pss_cons (ps_set (i := 3) S_split_layers.nd rfl (Or.inl rfl) pe_int)
      (pss_cons (psNox (ps_for PassesOwn.never rfl (kSeq (K := K) (kBm (K := K) PySem.F.plainAttrs_str PySem.F.slot_str_split PySem.F.type_str_split mt_split (pv 0) (pa_cons (pe_glob (v := .str " & ") (by rfl) h_BETWEEN_LAYERS.choose_spec ⟨_, rfl⟩) pa_nil))) (pg_name (i := 4) S_split_layers.nd rfl (Or.inl rfl)) (pss_cons (ps_expr (kBm (K := K) PySem.F.plainAttrs_list PySem.F.slot_list_append PySem.F.type_list_append mt_append (pv 2) (pa_cons (pv 4) pa_nil)))
      (pss_cons (ps_set (i := 3) S_split_layers.nd rfl (Or.inl rfl) (pe_op op_sub (pe_op (kAddV (K := K)) (pv 3) (kBm (K := K) PySem.F.plainAttrs_str PySem.F.slot_str_count PySem.F.type_str_count mt_count (pv 4) (pa_cons pe_str pa_nil))) (kBm (K := K) PySem.F.plainAttrs_str PySem.F.slot_str_count PySem.F.type_str_count mt_count (pv 4) (pa_cons pe_str pa_nil))))
      (pss_one (ps_if (pt_cmpR (kEq (K := K) hu) (pv 3) pe_int (nomark _)) (pss_cons (ps_expr (kBm (K := K) PySem.F.plainAttrs_list PySem.F.slot_list_append PySem.F.type_list_append mt_append (pv 1) (pa_cons (kBm (K := K) PySem.F.plainAttrs_str PySem.F.slot_str_join PySem.F.type_str_join (kJoin (K := K)) (pe_glob (v := .str " & ") (by rfl) h_BETWEEN_LAYERS.choose_spec ⟨_, rfl⟩) (pa_cons (pv 2) pa_nil)) pa_nil)))
      (pss_one (ps_set (i := 2) S_split_layers.nd rfl (Or.inl rfl) (pe_lst pa_nil)))) pss_nil))))))
      (pss_cons (ps_if (kTru (K := K) (pv 2)) (pss_one (L2N.ps_raise rfl takesN (L2N.pmk_own PySem.F.excBase_ValueError rD.own gD rD.kp (raises_own rD.bF rD.tF) (by rfl)))) pss_nil)
      (pss_one (ps_ret (pv 1)))))))), ?_⟩
  rintro ds m o hl ⟨t, rfl, ht, rfl⟩
  show BodyM K D m.length _ _ m m _
  refine bodyM_seq (es1 := [.d (.str t), .c m.length, .no, .no, .no]) (m1 := m ++ [[]]) (fun E => sv_cell (el_lst ea_nil (ds := []) rfl (by simp))) ?_
  refine bodyM_seq (es1 := [.d (.str t), .c m.length, .c (m ++ [[]]).length, .no, .no]) (m1 := (m ++ [[]]) ++ [[]]) (fun E => sv_cell (el_lst ea_nil (ds := []) rfl (by simp))) ?_
  refine bodyM_seq (es1 := [.d (.str t), .c m.length, .c (m ++ [[]]).length, .d (.int 0), .no]) (m1 := (m ++ [[]]) ++ [[]]) (fun E => sv_set ev_int) ?_
  have hsp : ∀ mm, EvE K (tBM K "str" rSplit (tVar 0) (tCons (tC (.str " & ")) tNil)) [.d (.str t), .c m.length, .c (m ++ [[]]).length, .d (.int 0), .no] mm (.d (.list (strD (TL.spl SEP 0 [] (TL.tl t))))) mm := fun mm => by
    have q := ev_split (K := K) (es := [.d (.str t), .c m.length, .c (m ++ [[]]).length, .d (.int 0), .no]) (m := mm) (a := t) (b := " & ") (te := tVar 0) (tb := tC (.str " & ")) (ev_var rfl nofun) ev_str (by rw [tl_sep]; exact SEP_ne) (by rw [tl_sep]; decide) ht
    rw [tl_sep] at q
    exact q
  have hcount : (TL.spl SEP 0 [] (TL.tl t)).length ≤ 10001 := by
    have := spl_count SEP (TL.tl t) (by decide)
    rw [← TL.len_tl] at this
    omega
  have hsum : ((TL.spl SEP 0 [] (TL.tl t)).map (·.length)).sum ≤ 10000 := by
    have := sum_joinL SEP (TL.spl SEP 0 [] (TL.tl t))
    rw [join_split SEP_ne, ← TL.len_tl] at this
    exact Nat.le_trans this ht
  unfold splitLayers
  generalize TL.spl SEP 0 [] (TL.tl t) = parts at hsp hcount hsum
  have e3 : (" & " : Str).length = 3 := by rw [TL.len_tl, tl_sep]; rfl
  obtain ⟨es', mm', hfor, hJ⟩ := sv_forIe (K := K) (n := m.length) (i := 4) (wi := iSeq K (tBM K "str" rSplit (tVar 0) (tCons (tC (.str " & ")) tNil)))
    (tb := tSeq (tDrop (tBM K "list" rAppend (tVar 2) (tCons (tVar 4) tNil))) (tSeq (tAsg (tOp (rI0 fun i j => .int (i - j)) (tOp (rAddV K) (tVar 3) (tBM K "str" rCount (tVar 4) (tCons (tC (.str "[")) tNil))) (tBM K "str" rCount (tVar 4) (tCons (tC (.str "]")) tNil))) (gName 3))
      (tIfS (tTest (tOp (rEqU K) (tVar 3) (tC (.int 0)))) (tSeq (tDrop (tBM K "list" rAppend (tVar 1) (tCons (tBM K "str" (rJoin K) (tC (.str " & ")) (tCons (tVar 2) tNil)) tNil))) (tAsg (tLst tNil) (gName 2))) tNext)))
    (es := [.d (.str t), .c m.length, .c (m ++ [[]]).length, .d (.int 0), .no]) (m := (m ++ [[]]) ++ [[]]) (m1 := (m ++ [[]]) ++ [[]]) (ds := strD parts)
    (fun l es mm => ∃ gs held k hj b, es = [.d (.str t), .c m.length, .c hj, .d (.int k), b] ∧ mm[m.length]? = some (strD (gs.map (TL.joinL SEP))) ∧ mm[hj]? = some (strD held) ∧ m.length < hj ∧ mm.take m.length = m ∧ gs.flatten ++ (held ++ parts.drop l) = parts ∧ gs.length ≤ l ∧ grp parts [] 0 = appO gs (grp (parts.drop l) held k))
    (ei_seqL (hsp _)) ⟨[], [], 0, (m ++ [[]]).length, .no, rfl, by rw [List.getElem?_append_left (by simp)]; exact app_at, app_at, by simp, by rw [List.append_assoc, List.take_left], by simp, Nat.le_refl _, by rw [List.drop_zero]; cases grp parts [] 0 <;> rfl⟩ (by
      rintro l d es mm hd ⟨gs, held, k, hj, b, rfl, h1, h2, h3, h4, h5, h6, h7⟩
      obtain ⟨p, hp, rfl⟩ : ∃ p, parts[l]? = some p ∧ d = .str (mk p) := by
        rw [List.getElem?_map] at hd
        obtain ⟨p, hp, e⟩ := Option.map_eq_some_iff.mp hd
        exact ⟨p, hp, e.symm⟩
      have hlt := (List.getElem?_eq_some_iff.mp hp).1
      rw [drop_cons hp] at h5 h7
      have hheld : held.length ≤ 10001 := Nat.le_trans (part_sum h5).2 hcount
      have e5 : gs.flatten ++ ((held ++ [p]) ++ parts.drop (l + 1)) = parts := by
        rw [List.append_assoc]
        exact h5
      have hh2 : (((held ++ [p]).map (·.length)).sum ≤ 10000) ∧ (held ++ [p]).length ≤ 10001 := by
        exact ⟨Nat.le_trans (part_sum e5).1 hsum, Nat.le_trans (part_sum e5).2 hcount⟩
      have z : sizeLine = 16777216 := rfl
      have a1 := sv_appendB (K := K) (n := m.length) (es := [.d (.str t), .c m.length, .c hj, .d (.int k), .d (.str (mk p))]) (i := 2) (j := hj) (x := .str (mk p)) (m := mm) (m1 := mm) (te := tVar 4) rfl (ev_var rfl nofun) h2 ⟨_, h2⟩ (by rw [List.length_map]; omega)
      have emm : mm.set hj (strD held ++ [.str (mk p)]) = mm.set hj (strD (held ++ [p])) := by rw [strD_app]; rfl
      rw [emm] at a1
      have hjl := (List.getElem?_eq_some_iff.mp h2).1
      have g1 : (mm.set hj (strD (held ++ [p])))[m.length]? = some (strD (gs.map (TL.joinL SEP))) := by rw [List.getElem?_set_ne (by omega)]; exact h1
      have g2 : (mm.set hj (strD (held ++ [p])))[hj]? = some (strD (held ++ [p])) := List.getElem?_set_self hjl
      have g3 : (mm.set hj (strD (held ++ [p]))).take m.length = m := (take_set (Nat.le_of_lt h3)).trans h4
      generalize mm.set hj (strD (held ++ [p])) = m2 at a1 g1 g2 g3
      have a2 : Sv K m.length (tAsg (tOp (rI0 fun i j => .int (i - j)) (tOp (rAddV K) (tVar 3) (tBM K "str" rCount (tVar 4) (tCons (tC (.str "[")) tNil))) (tBM K "str" rCount (tVar 4) (tCons (tC (.str "]")) tNil))) (gName 3)) [.d (.str t), .c m.length, .c hj, .d (.int k), .d (.str (mk p))] m2 (.nx [.d (.str t), .c m.length, .c hj, .d (.int (k + dep p)), .d (.str (mk p))] m2) := by
        refine sv_set (ev_cast (ev_op (ev_op (ev_var rfl nofun) (ev_count (ev_var rfl nofun) ev_str tl_sopen) o_addVI) (ev_count (ev_var rfl nofun) ev_str tl_sclose) o_i0) ?_)
        show Sl.d (.int ((k + ((TL.tl (mk p)).count 91 : Int)) - ((TL.tl (mk p)).count 93 : Int))) = Sl.d (.int (k + dep p))
        rw [tl_of_mk]
        unfold dep
        congr 2
        omega
      by_cases hk0 : k + dep p = 0
      · have a3 : EvE K (tBM K "str" (rJoin K) (tC (.str " & ")) (tCons (tVar 2) tNil)) [.d (.str t), .c m.length, .c hj, .d (.int (k + dep p)), .d (.str (mk p))] m2 (.d (.str (mk (TL.joinL SEP (held ++ [p]))))) m2 := by
          have q := ev_joinCs (K := K) (es := [.d (.str t), .c m.length, .c hj, .d (.int (k + dep p)), .d (.str (mk p))]) (m := m2) (a := " & ") (gs := held ++ [p]) (i := 2) (j := hj) (ts := tC (.str " & ")) ev_str rfl g2 (by rw [e3]; omega)
          rw [tl_sep] at q
          exact q
        have a4 := sv_appendB (K := K) (n := m.length) (es := [.d (.str t), .c m.length, .c hj, .d (.int (k + dep p)), .d (.str (mk p))]) (i := 1) (j := m.length) (m := m2) (m1 := m2) rfl a3 g1 ⟨_, g1⟩ (by rw [List.length_map, List.length_map]; omega)
        have em3 : m2.set m.length (strD (gs.map (TL.joinL SEP)) ++ [.str (mk (TL.joinL SEP (held ++ [p])))]) = m2.set m.length (strD ((gs ++ [held ++ [p]]).map (TL.joinL SEP))) := by rw [List.map_append, strD_app]; rfl
        rw [em3] at a4
        have hml := (List.getElem?_eq_some_iff.mp g1).1
        have k1 : (m2.set m.length (strD ((gs ++ [held ++ [p]]).map (TL.joinL SEP))))[m.length]? = some (strD ((gs ++ [held ++ [p]]).map (TL.joinL SEP))) := List.getElem?_set_self hml
        have k3 : (m2.set m.length (strD ((gs ++ [held ++ [p]]).map (TL.joinL SEP)))).take m.length = m := (take_set (Nat.le_refl _)).trans g3
        have k4 : m.length < (m2.set m.length (strD ((gs ++ [held ++ [p]]).map (TL.joinL SEP)))).length := by rw [List.length_set]; exact hml
        generalize m2.set m.length (strD ((gs ++ [held ++ [p]]).map (TL.joinL SEP))) = m3 at a4 k1 k3 k4
        refine ⟨_, _, .inl (sv_seq a1 (sv_seq a2 (sv_ifT (m1 := m2) (eb_cast (eb_test (ev_op (ev_var rfl nofun) ev_int o_eqI)) (by rw [hk0]; rfl)) (sv_seq a4 (sv_cell (el_lst ea_nil (ds := []) rfl (by simp))))))), gs ++ [held ++ [p]], [], 0, m3.length, .d (.str (mk p)), by rw [hk0]; rfl, ?_, app_at, k4, ?_, ?_, ?_, ?_⟩
        · rw [List.getElem?_append_left k4]; exact k1
        · rw [List.take_append_of_le_length (Nat.le_of_lt k4)]; exact k3
        · rw [List.flatten_append, List.append_assoc]
          refine Eq.trans ?_ e5
          simp
        · rw [List.length_append]; simp; omega
        · rw [h7]
          show appO gs (if k + dep p = 0 then (match grp (parts.drop (l + 1)) [] 0 with
            | none => none
            | some gs1 => some ((held ++ [p]) :: gs1)) else _) = _
          rw [if_pos hk0]
          cases grp (parts.drop (l + 1)) [] 0 with
          | none => rfl
          | some g => show some (gs ++ ((held ++ [p]) :: g)) = some ((gs ++ [held ++ [p]]) ++ g); rw [List.append_assoc]; rfl
      · refine ⟨_, _, .inl (sv_seq a1 (sv_seq a2 (sv_ifF (m1 := m2) (eb_cast (eb_test (ev_op (ev_var rfl nofun) ev_int o_eqI)) (by simpa using hk0)) sv_next))), gs, held ++ [p], k + dep p, hj, .d (.str (mk p)), rfl, g1, g2, h3, g3, e5, by omega, ?_⟩
        rw [h7]
        show appO gs (if k + dep p = 0 then _ else grp (parts.drop (l + 1)) (held ++ [p]) (k + dep p)) = _
        rw [if_neg hk0])
  obtain ⟨gs, held, k, hj, b, rfl, h1, h2, h3, h4, h5, h6, h7⟩ := hJ
  rw [List.length_map, List.drop_length] at h7
  have h7 : grp parts [] 0 = appO gs (if held = [] then some [] else none) := h7
  refine bodyM_seq (fun E => hfor) ?_
  have emm : mm' = m ++ mm'.drop m.length := by
    have := (List.take_append_drop m.length mm').symm
    rw [h4] at this
    exact this
  by_cases hh : held = []
  · subst hh
    rw [if_pos rfl] at h7
    rw [h7]
    show BodyM K D m.length _ _ mm' m (some (.list (strD ((gs ++ []).map (TL.joinL SEP)))))
    rw [List.append_nil]
    exact fun E => sv_seq (sv_ifF (m1 := mm') (eb_cast (eb_truC rfl h2) rfl) sv_next) (sv_retC rfl h1 (Nat.le_refl _) h4 rfl)
  · rw [if_neg hh] at h7
    rw [h7]
    refine sx_fst (sx_ifT (m2 := m) (eb_cast (eb_truC rfl h2) (by cases held with
      | nil => exact absurd rfl hh
      | cons a r => rfl)) ?_)
    exact sx_less (X := mm'.drop m.length) (emm ▸ sx_raise rfl)
end
end K30

set_option Elab.async false
set_option linter.all false
set_option maxRecDepth 100000
set_option maxHeartbeats 4000000
namespace K30
variable [DL.Tbs]
open PySem PySem.Spec PyProof.Rows L2 DL HX TX SX
/-! ### what is read is what is_drawing takes -/
theorem shape_okS {t : L} {d : PyData} (h : readShape t = some d) : okS d = true := by
  unfold readShape at h
  split at h
  · split at h
    · rename_i r rest e hl
      cases hm : mapO readLoop (TL.spl [124] 0 [] rest.dropLast) with
      | none => rw [hm] at h; cases h
      | some ls => rw [hm] at h; cases h; rfl
    · cases h
  · cases h
theorem clip_okS {t : L} {d : PyData} (h : readClip t = some d) : okS d = true := by
  unfold readClip at h
  split at h
  · cases h; rfl
  · exact shape_okS h
theorem nums_okS {s : Nat} {t : L} {d : PyData} (h : readNums s t = some d) : okS d = true := by
  unfold readNums at h
  cases hm : mapO readNum (TL.spl [s] 0 [] t) with
  | none => rw [hm] at h; cases h
  | some ls =>
    rw [hm] at h
    cases h
    have hn : ∀ x, x ∈ ls → ∃ i, x = .int i := fun x hx => by
      obtain ⟨a, _, ha⟩ := mapO_mem hm x hx
      unfold readNum at ha
      repeat (first | split at ha | (cases ha; exact ⟨_, rfl⟩) | (cases ha))
    match ls, hn with
    | [], _ => rfl
    | [_], _ => rfl
    | [a, b], hn =>
      obtain ⟨i, rfl⟩ := hn a (by simp)
      rfl
    | _ :: _ :: _ :: _, _ => rfl
theorem split_le {t : L} {ts : List L} (h : splitLayers t = some ts) : ts.length ≤ t.length + 1 ∧ ∀ g, g ∈ ts → g.length ≤ t.length := by
  unfold splitLayers at h
  split at h
  · cases h
  · rename_i gs eg
    cases h
    obtain ⟨h1, h2⟩ := grp_back eg
    have e : TL.joinL SEP (gs.map (TL.joinL SEP)) = t := by rw [joinL_flat gs h2, h1, List.nil_append, join_split SEP_ne]
    constructor
    · have := count_le (S := SEP) (by decide) (gs.map (TL.joinL SEP))
      rw [e] at this
      exact this
    · intro g hg
      have := mem_le (S := SEP) hg
      rw [e] at this
      exact this
theorem layer_okL : ∀ (n : Nat) {t : L} {d : PyData}, readLayer n t = some d → okL n d = true
  | n, t, d, h => by
    unfold readLayer at h
    split at h
    · cases h
    · rename_i k rest e
      split at h
      · unfold readFill at h
        split at h
        · rename_i s c o _
          cases h1 : readShape s with
          | none => rw [h1] at h; cases h
          | some s' => cases h2 : readNums 46 c with
            | none => rw [h1, h2] at h; cases h
            | some c' => cases h3 : readNums 47 o with
              | none => rw [h1, h2, h3] at h; cases h
              | some o' =>
                rw [h1, h2, h3] at h
                cases h
                have z1 := shape_okS h1
                have z3 := nums_okS h3
                cases n with
                | zero => show ((decide (("fill" : Str) = "group") || okS s') && okS o' && true) = true; rw [z1, z3]; rfl
                | succ n => show ((decide (("fill" : Str) = "group") || okS s') && okS o' && (if ("fill" : Str) = "group" then _ else true)) = true; rw [z1, z3]; rfl
        · cases h
      · split at h
        · unfold readRub at h
          split at h
          · rename_i s o _
            cases h1 : readShape s with
            | none => rw [h1] at h; cases h
            | some s' => cases h3 : readNums 47 o with
              | none => rw [h1, h3] at h; cases h
              | some o' =>
                rw [h1, h3] at h
                cases h
                have z1 := shape_okS h1
                cases n with
                | zero => show ((decide (("rub" : Str) = "group") || okS s') && true && true) = true; rw [z1]; rfl
                | succ n => show ((decide (("rub" : Str) = "group") || okS s') && true && (if ("rub" : Str) = "group" then _ else true)) = true; rw [z1]; rfl
          · cases h
        · split at h
          · cases n with
            | zero => cases h
            | succ n =>
              have h : readGroup (readLayersF (readLayer n)) rest = some d := h
              unfold readGroup at h
              split at h
              · rename_i m o c i _
                split at h
                · cases h1 : readLayersF (readLayer n) (i.drop 1).dropLast with
                  | none => rw [h1] at h; cases h
                  | some ls => cases h2 : readClip c with
                    | none => rw [h1, h2] at h; cases h
                    | some c' => cases h3 : readNums 47 o with
                      | none => rw [h1, h2, h3] at h; cases h
                      | some o' => cases h4 : readNums 46 m with
                        | none => rw [h1, h2, h3, h4] at h; cases h
                        | some m' =>
                          rw [h1, h2, h3, h4] at h
                          cases h
                          have z1 := clip_okS h2
                          have z2 : ls.all (okL n) = true := by
                            unfold readLayersF at h1
                            split at h1
                            · cases h1; rfl
                            · split at h1
                              · cases h1
                              · rename_i ts _
                                exact List.all_eq_true.mpr fun l hl => by
                                  obtain ⟨a, _, ha⟩ := mapO_mem h1 l hl
                                  exact layer_okL n ha
                          show ((true || _) && okS c' && (if ("group" : Str) = "group" then ls.all (okL n) else true)) = true
                          rw [z1, z2]
                          rfl
                · cases h
              · cases h
          · cases h
theorem layers_okL {n : Nat} {t : L} {ls : List PyData} (h : readLayersF (readLayer n) t = some ls) : okLs n (.tuple ls) = true := by
  unfold readLayersF at h
  split at h
  · cases h; rfl
  · split at h
    · cases h
    · exact List.all_eq_true.mpr fun l hl => by
        obtain ⟨a, _, ha⟩ := mapO_mem h l hl
        exact layer_okL n ha
def parseM : PyData → Option PyData
  | .str t => if t.length ≤ 10000 then (match readLayersF (readLayer 2) (TL.tl t) with
    | some ls => if drawM (.tuple ls) = true then some (.tuple ls) else none
    | none => none) else none
  | _ => none
section
variable {P : Program} {w : World} {K : PySem.W.Frag} {mg : Str → Option Value} {base : Heap} {D : Addr}
theorem neverK {k : Nat} {x : Str} {st : Stmt} {ps : List Str} (T : DefT K mg x st ps) : PureX P w K mg base D k x ps (fun _ _ => False) := by
  obtain ⟨f, fd, F, hm, hB⟩ := T.ex
  refine ⟨f, fd, ⟨fun vs H Q E h => h.1, fun A outer s H args us vs Q E hr he hb hv h => ?_⟩, hm, F.kp, hB⟩
  obtain ⟨_, _, _, _, _, _, _, _, _, ⟨_, _, _, _, h, _⟩, _⟩ := h
  exact h.elim
theorem tl_nil {t : Str} : decide (t = "") = decide (TL.tl t = []) := by
  have e : ("" : Str) = mk [] := rfl
  by_cases h : TL.tl t = []
  · rw [decide_eq_true h, decide_eq_true]
    rw [← mk_of_tl t, h]
    rfl
  · rw [decide_eq_false h, decide_eq_false]
    rintro rfl
    exact h rfl
theorem c_layersX {n k : Nat} (hk : 1 ≤ k) (b_tuple : mg "tuple" = none) (TD : DefT K mg "read_layers" st_read_layers ["text", "deepest"]) (D_split_layers : PureX P w K mg base D 1 "split_layers" ["text"] R_sl)
    (D_read_layer : PureX P w K mg base D k "read_layer" ["text", "deepest"] (R_layerX n)) : PureX P w K mg base D (k + 1) "read_layers" ["text", "deepest"] (R_layersX n) := by
  refine mkPureX TD S_read_layers fun f cdv A outer s H hr => ?_
  have hu := hr.units
  refine ⟨fun E => _, fun E => (pss_cons (ps_if (pt_cmpR (kEq (K := K) hu) (pv 0) pe_str (nomark _)) (pss_one (ps_ret (pe_tup pa_nil))) pss_nil)
      (pss_one (ps_ret (pe_callTy (kTup (K := K)) (by rfl) b_tuple (by decide +kernel) (pa_cons (pe_lcX takesN (fun _ _ _ _ h => h) rfl rfl (own := [("part", 2)]) (by rfl) S_read_layers.nd (kSeq (K := K) (pe_def D_split_layers (hr.mono (by omega)) (by rfl) passN (pa_cons (pv 0) pa_nil))) (blkOk_by (N := N_read_layers) (sc := defScope st_read_layers) (by decide +kernel)) (fun _ _ _ _ _ => pg_name (i := 2) S_read_layers.nd rfl (by first | exact Or.inl rfl | exact Or.inr rfl)) (fun _ _ _ _ _ => pts_nil) (fun _ _ _ _ _ => (pe_def D_read_layer (hr.mono (by omega)) (by rfl) passB (pa_cons (pv 2) (pa_cons (pv 1) pa_nil))))) pa_nil))))), ?_⟩
  rintro ds m o hl ⟨t, rfl, ht, rfl⟩
  have ht' := fun b (hb : decide (TL.tl t = []) = b) => eb_cast (eb_test (ev_op (K := K) (es := [.d (.str t), .d (.int (n : Int)), .no]) (m := m) (ta := tVar 0) (tb := tC (.str "")) (ev_var rfl nofun) ev_str o_eqS)) (tl_nil.trans hb)
  unfold readLayersF
  by_cases h0 : TL.tl t = []
  · rw [if_pos h0]
    exact body_ifT (ht' true (decide_eq_true h0)) (x_ok fun _ => ev_tup ea_nil rfl (by simp))
  · rw [if_neg h0]
    refine body_ifF (ht' false (decide_eq_false h0)) ?_
    have q := x_call (K := K) (D := D) (R := R_sl) (n := 1) (es := [.d (.str t), .d (.int (n : Int)), .no]) (m := m) (ta := tCons (tVar 0) tNil) (arg1 (ev_var rfl nofun)) (ds := [.str t]) rfl ⟨t, rfl, ht, rfl⟩ rfl
    cases hs : splitLayers (TL.tl t) with
    | none =>
      rw [hs] at q
      exact body_ret (o := none) (x_tupMapI q)
    | some ts =>
      rw [hs] at q
      obtain ⟨l1, l2⟩ := split_le hs
      rw [← TL.len_tl] at l1 l2
      have q2 := x_tupMap (K := K) (D := D) (i := 2) (f := strF (readLayer n)) (wi := fun E => iSeq K (tCall (spX K 1 (xG D R_sl)) [] E (tCons (tVar 0) tNil))) (t := fun E => tCall (spX K 2 (xG D (R_layerX n))) [] E (tCons (tVar 2) (tCons (tVar 1) tNil))) (ds := strD ts) (fun E => ei_seqL (q E)) (by rw [List.length_map, sL]; omega) fun d hd => by
        obtain ⟨g, hg, rfl⟩ := List.mem_map.mp hd
        exact x_call (arg2 (ev_var rfl nofun) (ev_var rfl nofun)) (ds := [.str (mk g), .int (n : Int)]) rfl ⟨mk g, rfl, by rw [mk_len]; exact Nat.le_trans (l2 g hg) ht, rfl⟩ rfl
      rw [strF_map] at q2
      exact body_ret q2
abbrev R_parse : List PyData → Option PyData → Prop := fun ds o => ∃ v, ds = [v] ∧ (∀ t, v = .str t → t.length ≤ 1000000) ∧ o = parseM v
theorem c_parse {k j : Nat} (hk : 1 ≤ k) (b_isinstance : mg "isinstance" = none) (b_str : mg "str" = none) (b_len : mg "len" = none) (TD : DefT K mg "parse_drawing" st_parse_drawing ["text"]) (gD : mg "InvalidText" = some (.ref D)) (rD : RaiseD K D)
    (h_LONGEST : ∃ t, mg "LONGEST" = some (.int 10000 t)) (h_DEEPEST : ∃ t, mg "DEEPEST" = some (.int 2 t)) (D_is_drawing : PureC P w K mg base k "is_drawing" ["value"] R_is_drawing) (D_read_layers : PureX P w K mg base D k "read_layers" ["text", "deepest"] (R_layersX 2)) : PureX P w K mg base D (k + 1) "parse_drawing" ["text"] R_parse := by
  refine mkPureX TD S_parse_drawing fun f cdv A outer s H hr => ?_
  have hu := hr.units
  refine ⟨fun E => _, fun E => (pss_cons (ps_if (pt_not (pt_val (pe_callB (kIsi (K := K)) (by rfl) b_isinstance (by decide +kernel) (pa_cons (pv 0) (pa_cons (pe_bltn (v := .ty "str") (u := .type "str") (by rfl) b_str (by decide +kernel) rfl) pa_nil))))) (pss_one (L2N.ps_raise rfl takesN (L2N.pmk_own PySem.F.excBase_ValueError rD.own gD rD.kp (raises_own rD.bF rD.tF) (by rfl)))) pss_nil)
      (pss_cons (ps_if (pt_cmpR op_gt (pe_callB (kLen (K := K)) (by rfl) b_len (by decide +kernel) (pa_cons (pv 0) pa_nil)) (pe_glob (v := .int 10000) (by rfl) h_LONGEST.choose_spec ⟨_, rfl⟩) (nomark _)) (pss_one (L2N.ps_raise rfl takesN (L2N.pmk_own PySem.F.excBase_ValueError rD.own gD rD.kp (raises_own rD.bF rD.tF) (by rfl)))) pss_nil)
      (pss_cons (ps_set (i := 1) S_parse_drawing.nd rfl (Or.inl rfl) (pe_def D_read_layers (hr.mono (by omega)) (by rfl) passN (pa_cons (pv 0) (pa_cons (pe_glob (v := .int 2) (by rfl) h_DEEPEST.choose_spec ⟨_, rfl⟩) pa_nil))))
      (pss_cons (ps_if (pt_not (pt_val (pe_def D_is_drawing (hr.mono (by omega)) (by rfl) pass0 (pa_cons (pv 1) pa_nil)))) (pss_one (L2N.ps_raise rfl takesN (L2N.pmk_own PySem.F.excBase_ValueError rD.own gD rD.kp (raises_own rD.bF rD.tF) (by rfl)))) pss_nil)
      (pss_one (ps_ret (pv 1))))))), ?_⟩
  rintro ds m o hl ⟨v, rfl, hv, rfl⟩
  have hstr : EvE K (tCB (rIsi K) (tCons (tVar 0) (tCons (tC (.ty "str")) tNil))) [.d v, .no] m (.d (.bool (isStr v))) m := ev_cb (arg2 (ev_var rfl nofun) ev_ty) c_str
  unfold parseM
  cases v with
  | str t =>
    have hl6 := hv t rfl
    have hlen : EvE K (tCB (fun xs H Q => ∃ x n, xs = [x] ∧ LenV K x H n ∧ Q (.int n) H) (tCons (tVar 0) tNil)) [.d (.str t), .no] m (.d (.int (t.length : Int))) m := ev_cb (arg1 (ev_var rfl nofun)) (c_len (n := t.length) (by
      show (if t.length ≤ 1000000 then some t.length else none) = some t.length
      rw [if_pos hl6]))
    refine body_seq (es1 := [.d (.str t), .no]) (fun E => sv_ifF (m1 := m) (eb_notT (eb_cast (eb_val hstr) rfl)) sv_next) ?_
    by_cases hle : t.length ≤ 10000
    · refine body_seq (es1 := [.d (.str t), .no]) (fun E => sv_ifF (m1 := m) (eb_cast (eb_test (ev_op hlen ev_int o_i0b)) (decide_eq_false (by omega))) sv_next) ?_
      show BodyO K D m.length _ _ m (if t.length ≤ 10000 then _ else none)
      rw [if_pos hle]
      have q := x_call (K := K) (D := D) (R := R_layersX 2) (n := 2) (es := [.d (.str t), .no]) (m := m) (ta := tCons (tVar 0) (tCons (tC (.int 2)) tNil)) (arg2 (ev_var rfl nofun) ev_int) (ds := [.str t, .int 2]) rfl ⟨t, rfl, hle, rfl⟩ rfl
      cases hs : readLayersF (readLayer 2) (TL.tl t) with
      | none =>
        rw [hs] at q
        exact sx_fst (sx_asg q)
      | some ls =>
        rw [hs] at q
        refine body_seq (es1 := [.d (.str t), .d (.tuple ls)]) (fun E => sv_set (q E)) ?_
        have hd : EvE K (tCall (spD K 1 (pureG R_is_drawing)) [] E0 (tCons (tVar 1) tNil)) [.d (.str t), .d (.tuple ls)] m (.d (.bool (drawM (.tuple ls)))) m := ev_pure (arg1 (ev_var rfl nofun)) (ds := [.tuple ls]) rfl ⟨.tuple ls, rfl, layers_okL hs, rfl⟩ rfl
        show BodyO K D m.length _ _ m (if drawM (.tuple ls) = true then some (.tuple ls) else none)
        by_cases hm : drawM (.tuple ls) = true
        · rw [if_pos hm]
          exact fun E => sv_seq (sv_ifF (m1 := m) (eb_notT (eb_cast (eb_val hd) hm)) sv_next) (sv_ret0 (ev_var rfl nofun))
        · rw [if_neg hm]
          exact sx_fst (sx_ifT (eb_notF (eb_cast (eb_val hd) (Bool.eq_false_iff.mpr hm))) (sx_raise rfl))
    · show BodyO K D m.length _ _ m (if t.length ≤ 10000 then _ else none)
      rw [if_neg hle]
      exact sx_fst (sx_ifT (eb_cast (eb_test (ev_op hlen ev_int o_i0b)) (decide_eq_true (by omega))) (sx_raise rfl))
  | _ => exact sx_fst (sx_ifT (eb_notF (eb_cast (eb_val hstr) rfl)) (sx_raise rfl))
end
end K30

set_option Elab.async false
set_option linter.all false
set_option maxRecDepth 100000
set_option maxHeartbeats 4000000
namespace K30
variable [DL.Tbs]
open PySem PySem.Spec PyProof.Rows L2 DL HX TX SX
/-! ### the law's own text -/
theorem loop_pairs {v : PyData} (h : loopM v = true) : ∃ ps, v = .tuple ps ∧ ps.length ≤ 8 ∧ ∀ p, p ∈ ps → ∃ x y, p = .tuple [.int x, .int y] ∧ -9 ≤ x ∧ x ≤ 9 ∧ -9 ≤ y ∧ y ≤ 9 := by
  cases v with
  | tuple xs =>
    have h : ((decide ((3 : Int) ≤ (xs.length : Int)) && decide ((xs.length : Int) ≤ 8)) && xs.all fun p => areM p 2 (-9) 9) = true := h
    rw [Bool.and_eq_true, Bool.and_eq_true, decide_eq_true_eq, decide_eq_true_eq, List.all_eq_true] at h
    refine ⟨xs, rfl, by omega, fun p hp => ?_⟩
    have z := h.2 p hp
    cases p with
    | tuple ys =>
      have z : (decide ((ys.length : Int) = 2) && ys.all (inR (-9) 9)) = true := z
      rw [Bool.and_eq_true, decide_eq_true_eq, List.all_eq_true] at z
      match ys, z with
      | [a, b], z =>
        have za := z.2 a (by simp)
        have zb := z.2 b (by simp)
        cases a <;> first | (cases za; done) | skip
        cases b <;> first | (cases zb; done) | skip
        simp only [inR, Bool.and_eq_true, decide_eq_true_eq] at za zb
        exact ⟨_, _, rfl, za.1, za.2, zb.1, zb.2⟩
      | [], z => exact absurd z.1 (by simp)
      | [_], z => exact absurd z.1 (by simp)
      | _ :: _ :: _ :: _, z => exact absurd z.1 (by simp; omega)
    | _ => cases z
  | _ => cases h
theorem blkOk_any {N : List Str} {sc scope : Scope} {own : List (Str × Nat)} (h : blkC N { scope with names := [] } scope own = true) : BlkOk N sc scope own := by
  obtain ⟨h1, h2, h3, h4, h5⟩ := blkOk_by h
  exact ⟨h1, h2, h3, fun y hy e => (by rcases h4 y hy e with z | z <;> cases z), h5⟩
section
variable {P : Program} {w : World} {K : PySem.W.Frag} {mg : Str → Option Value} {base : Heap}
theorem ev_strI {i : Int} {te : TE} {es : List Sl} {m m1 : M} (h : EvE K te es m (.d (.int i)) m1) (h1 : -9 ≤ i) (h2 : i ≤ 9) : EvE K (tCB (fun xs H Q => ∃ i, xs = [V.int i] ∧ i.natAbs.log2 < 1920 ∧ Q (.str (toString i)) H) (tCons te tNil)) es m (.d (.str (mk (numT i)))) m1 :=
  ev_cast (ev_cb (arg1 h) (c_strI (num_log h1 h2))) (congrArg (fun s => Sl.d (.str s)) (str_mk _))
theorem len_app (a b : Str) : (a ++ b).length = a.length + b.length := by rw [TL.len_tl, TL.tl_append, List.length_append, ← TL.len_tl, ← TL.len_tl]
theorem num2 {i : Int} (h1 : -9 ≤ i) (h2 : i ≤ 9) : (numT i).length ≤ 2 := num_len (d := .int i) ⟨i, rfl, h1, h2⟩
theorem pair_eq {x y : Int} : fmtNums 44 (.tuple [.int x, .int y]) = numT x ++ ([44] ++ numT y) := rfl
theorem pair_len {x y : Int} (a1 : -9 ≤ x) (a2 : x ≤ 9) (b1 : -9 ≤ y) (b2 : y ≤ 9) : (fmtNums 44 (.tuple [.int x, .int y])).length ≤ 5 := by
  have := num2 a1 a2
  have := num2 b1 b2
  rw [pair_eq]
  simp only [List.length_append, List.length_cons, List.length_nil]
  omega
theorem lc_pairs {x0 x1 x2 : Sl} {m : M} : ∀ {ps : List PyData}, (∀ p, p ∈ ps → ∃ x y, p = PyData.tuple [.int x, .int y] ∧ -9 ≤ x ∧ x ≤ 9 ∧ -9 ≤ y ∧ y ≤ 9) →
    LcR K (gTup K 2 (gCons (gName 3) (gCons (gName 4) gNil))) tYes (tOp (rAddV K) (tOp (rAddV K) (tCB (fun xs H Q => ∃ i, xs = [V.int i] ∧ i.natAbs.log2 < 1920 ∧ Q (.str (toString i)) H) (tCons (tVar 3) tNil)) (tC (.str ","))) (tCB (fun xs H Q => ∃ i, xs = [V.int i] ∧ i.natAbs.log2 < 1920 ∧ Q (.str (toString i)) H) (tCons (tVar 4) tNil))) [x0, x1, x2, .no, .no] [3, 4] ps m (ps.map ((fun g => PyData.str (mk g)) ∘ fmtNums 44)) m
  | [], _ => .nil
  | p :: ps, h => by
    obtain ⟨x, y, rfl, a1, a2, b1, b2⟩ := h p (by simp)
    have l1 := num2 a1 a2
    have l2 := num2 b1 b2
    have z : sizeLine = 16777216 := rfl
    have key : Sl.d (.str ((mk (numT x) ++ ",") ++ mk (numT y))) = Sl.d (.str (mk (fmtNums 44 (.tuple [.int x, .int y])))) := by
      rw [pair_eq, s_of tl_comma, mk_app, mk_app, List.append_assoc]
    exact LcR.yes (es2 := [x0, x1, x2, .d (.int x), .d (.int y)]) (m1 := m) (m2 := m) (gv_tup (gvs_cons gv_name (gvs_cons gv_name gvs_nil)) rfl) (by simp) eb_yes (ev_cast (ev_op (ev_op (ev_strI (ev_var rfl nofun) a1 a2) ev_str (o_addS (by rw [mk_len, one_len tl_comma]; omega))) (ev_strI (ev_var rfl nofun) b1 b2) (o_addS (by rw [len_app, mk_len, mk_len, one_len tl_comma]; omega))) key) (lc_pairs fun q hq => h q (List.mem_cons_of_mem _ hq))
theorem c_stext (b_str : mg "str" = none) (TD : DefT K mg "_law_shape_text" st__law_shape_text ["_law_shape_here"]) : PureC P w K mg base 1 "_law_shape_text" ["_law_shape_here"] R_fshape := by
  refine mkPure TD S__law_shape_text fun f cdv A outer s H E hr => ?_
  refine ⟨_, (pss_cons (ps_setLc (i := 1) (by rfl) S__law_shape_text.nd rfl rfl (sw_true rfl rfl rfl (by decide +kernel)) (own := [("_law_loop_here", 2)]) (kSeq (K := K) (pe_ix (kIx (K := K)) (pv 0) pe_int (fun _ _ => rfl))) (blkOk_by (N := N__law_shape_text) (sc := defScope st__law_shape_text) (by decide +kernel)) (fun _ _ _ _ _ => pg_name (i := 2) S__law_shape_text.nd rfl (by first | exact Or.inl rfl | exact Or.inr rfl)) (fun _ _ _ _ _ => pts_nil) (fun _ _ _ _ _ => (kBm (K := K) PySem.F.plainAttrs_str PySem.F.slot_str_join PySem.F.type_str_join (kJoin (K := K)) pe_str (pa_cons (pe_lc (own := [("_law_x", 3), ("_law_y", 4)]) (by rfl) S__law_shape_text.nd (kSeq (K := K) (pv 2)) (blkOk_any (N := N__law_shape_text) (by decide +kernel)) (fun _ _ _ _ _ => kTupG (K := K) (n := 2) rfl (pgs_cons (pg_name (i := 3) S__law_shape_text.nd rfl (by first | exact Or.inl rfl | exact Or.inr rfl)) (pgs_cons (pg_name (i := 4) S__law_shape_text.nd rfl (by first | exact Or.inl rfl | exact Or.inr rfl)) pgs_nil))) (fun _ _ _ _ _ => pts_nil) (fun _ _ _ _ _ => (pe_op (kAddV (K := K)) (pe_op (kAddV (K := K)) (pe_callTy call_str_int (by rfl) b_str (by decide +kernel) (pa_cons (pv 3) pa_nil)) pe_str) (pe_callTy call_str_int (by rfl) b_str (by decide +kernel) (pa_cons (pv 4) pa_nil))))) pa_nil))))
      (pss_one (ps_ret (pe_op (kAddV (K := K)) (pe_op (kAddV (K := K)) (pe_op (kAddV (K := K)) (pe_ix (kIx (K := K)) (pv 0) pe_int (fun _ _ => rfl)) pe_str) (kBm (K := K) PySem.F.plainAttrs_str PySem.F.slot_str_join PySem.F.type_str_join (kJoin (K := K)) pe_str (pa_cons (pv 1) pa_nil))) pe_str)))), ?_⟩
  rintro ds m y hl ⟨v, rfl, hv, rfl⟩
  have hsl := shape_len hv
  obtain ⟨r, ls, rfl, hr, h3, hp⟩ := shape_parts hv
  have hsl : (TL.tl r ++ ([40] ++ (TL.joinL [124] (ls.map fmtLoop) ++ [41]))).length ≤ 466 := hsl
  simp only [List.length_append, List.length_cons, List.length_nil] at hsl
  have hrl : r.length = (TL.tl r).length := TL.len_tl r
  refine sv_seq (es1 := [.d (.tuple [.str r, .tuple ls]), .d (.list ((ls.map fmtLoop).map fun g => .str (mk g))), .no, .no, .no]) (m1 := m) (sv_set (el_d ?st1)) ?_
  case st1 =>
    rw [List.map_map]
    refine el_lc (ei_seqT (ds := ls) (ev_op (ev_var rfl nofun) ev_int (o_ixT (j := 1) rfl rfl))) (lcMap (by simp) fun d hd => ?_) (by omega)
    obtain ⟨ps, rfl, h8, hps⟩ := loop_pairs (hp d hd)
    have q := ev_join (K := K) (a := ";") (gs := ps.map (fmtNums 44)) (B := 5) (es := [.d (.tuple [.str r, .tuple ls]), .no, .d (.tuple ps), .no, .no]) (m := m) (ts := tC (.str ";")) (te := tLc (iSeq K (tVar 2)) (gTup K 2 (gCons (gName 3) (gCons (gName 4) gNil))) tYes (tOp (rAddV K) (tOp (rAddV K) (tCB (fun xs H Q => ∃ i, xs = [V.int i] ∧ i.natAbs.log2 < 1920 ∧ Q (.str (toString i)) H) (tCons (tVar 3) tNil)) (tC (.str ","))) (tCB (fun xs H Q => ∃ i, xs = [V.int i] ∧ i.natAbs.log2 < 1920 ∧ Q (.str (toString i)) H) (tCons (tVar 4) tNil))) [3, 4]) ev_str ?a ?b ?c
    case a =>
      rw [List.map_map]
      exact el_d (el_lc (ei_seqT (ds := ps) (ev_var rfl nofun)) (lc_pairs hps) (by omega))
    case b =>
      intro g hg
      obtain ⟨p, hp', rfl⟩ := List.mem_map.mp hg
      obtain ⟨x, y, rfl, a1, a2, b1, b2⟩ := hps p hp'
      exact pair_len a1 a2 b1 b2
    case c => rw [one_len tl_semi, List.length_map]; omega
    rw [tl_semi] at q
    exact q
  have ej := ev_join (K := K) (a := "|") (gs := ls.map fmtLoop) (B := 152) (es := [.d (.tuple [.str r, .tuple ls]), .d (.list ((ls.map fmtLoop).map fun g => .str (mk g))), .no, .no, .no]) (m := m) (ts := tC (.str "|")) (te := tVar 1) ev_str (ev_var rfl nofun) (fun g hg => by
    obtain ⟨d, hd, rfl⟩ := List.mem_map.mp hg
    exact loop_len (hp d hd)) (by rw [one_len tl_bar, List.length_map]; omega)
  rw [tl_bar] at ej
  have z : sizeLine = 16777216 := rfl
  refine sv_ret0 (ev_cast (ev_op (ev_op (ev_op (ev_op (ev_var rfl nofun) ev_int (o_ixT (j := 0) rfl rfl)) ev_str (o_addS (x := r) (y := "(") (by rw [one_len tl_open]; omega))) ej (o_addS (by rw [len_app, one_len tl_open, mk_len]; omega))) ev_str (o_addS (by rw [len_app, len_app, one_len tl_open, one_len tl_close, mk_len]; omega))) ?_)
  show Sl.d (.str (((r ++ "(") ++ mk (TL.joinL [124] (ls.map fmtLoop))) ++ ")")) = _
  congr 2
  refine TL.ext_tl ?_
  rw [TL.tl_append, TL.tl_append, TL.tl_append, tl_open, tl_close, tl_of_mk, tl_of_mk]
  show ((TL.tl r ++ [40]) ++ TL.joinL [124] (ls.map fmtLoop)) ++ [41] = TL.tl r ++ ([40] ++ (TL.joinL [124] (ls.map fmtLoop) ++ [41]))
  simp only [List.append_assoc]
end
end K30

set_option Elab.async false
set_option linter.all false
set_option maxRecDepth 100000
set_option maxHeartbeats 4000000
namespace K30
variable [DL.Tbs]
open PySem PySem.Spec PyProof.Rows L2 DL HX TX SX
theorem opacity_two {o : PyData} (h : opacityM o = true) : ∃ a b, o = .tuple [.int a, .int b] ∧ 1 ≤ a ∧ a ≤ 6 ∧ 1 ≤ b ∧ b ≤ 6 := by
  unfold opacityM at h
  rw [Bool.and_eq_true] at h
  obtain ⟨h, _⟩ := h
  cases o with
  | tuple ys =>
    have z : (decide ((ys.length : Int) = 2) && ys.all (inR 1 6)) = true := h
    rw [Bool.and_eq_true, decide_eq_true_eq, List.all_eq_true] at z
    match ys, z with
    | [a, b], z =>
      have za := z.2 a (by simp)
      have zb := z.2 b (by simp)
      cases a <;> first | (cases za; done) | skip
      cases b <;> first | (cases zb; done) | skip
      simp only [inR, Bool.and_eq_true, decide_eq_true_eq] at za zb
      exact ⟨_, _, rfl, za.1, za.2, zb.1, zb.2⟩
    | [], z => exact absurd z.1 (by simp)
    | [_], z => exact absurd z.1 (by simp)
    | _ :: _ :: _ :: _, z => exact absurd z.1 (by simp; omega)
  | _ => cases h
section
variable {P : Program} {w : World} {K : PySem.W.Frag} {mg : Str → Option Value} {base : Heap}
abbrev rStrI : List V → Hp → VK → Prop := fun xs H Q => ∃ i, xs = [V.int i] ∧ i.natAbs.log2 < 1920 ∧ Q (.str (toString i)) H
theorem ev_part {to : TE} {es : List Sl} {m : M} {o : PyData} (h : EvE K to es m (.d o) m) (ho : opacityM o = true) :
    EvE K (tOp (rAddV K) (tOp (rAddV K) (tCB rStrI (tCons (tOp (rIx K) to (tC (.int 0))) tNil)) (tC (.str "/"))) (tCB rStrI (tCons (tOp (rIx K) to (tC (.int 1))) tNil))) es m (.d (.str (mk (fmtNums 47 o)))) m := by
  obtain ⟨a, b, rfl, a1, a2, b1, b2⟩ := opacity_two ho
  have l1 := num2 (i := a) (by omega) (by omega)
  have l2 := num2 (i := b) (by omega) (by omega)
  have z : sizeLine = 16777216 := rfl
  refine ev_cast (ev_op (ev_op (ev_strI (ev_op h ev_int (o_ixT (j := 0) rfl rfl)) (by omega) (by omega)) ev_str (o_addS (by rw [mk_len, one_len tl_slash]; omega))) (ev_strI (ev_op h ev_int (o_ixT (j := 1) rfl rfl)) (by omega) (by omega)) (o_addS (by rw [len_app, mk_len, mk_len, one_len tl_slash]; omega))) ?_
  show Sl.d (.str ((mk (numT a) ++ "/") ++ mk (numT b))) = Sl.d (.str (mk (numT a ++ ([47] ++ numT b))))
  rw [s_of tl_slash, mk_app, mk_app, List.append_assoc]
theorem ev_dots {to : TE} {es : List Sl} {m : M} {v : PyData} {i : Nat} (h : EvE K to es m (.d v) m) (he : ∀ r : Sl, ((wipeS es [i]).set i r)[i]? = some r) (hv : shortNums v) :
    EvE K (tBM K "str" (rJoin K) (tC (.str ".")) (tCons (tLc (iSeq K to) (gName i) tYes (tCB rStrI (tCons (tVar i) tNil)) [i]) tNil)) es m (.d (.str (mk (fmtNums 46 v)))) m := by
  obtain ⟨⟨xs, rfl, hne, hx⟩, h6⟩ := hv
  have h6 : xs.length ≤ 6 := h6
  refine ev_cast (ev_joinMap (a := ".") (g := fmtNum) (B := 2) ev_str (ei_seqT (ds := xs) h) (by omega) (fun d hd => ?_) (fun d hd => num_len (hx d hd)) (by rw [one_len tl_dot]; omega)) ?_
  · obtain ⟨j, rfl, h1, h2⟩ := hx d hd
    exact ev_strI (ev_var (he _) nofun) h1 h2
  · rw [tl_dot]; rfl
theorem ex_bind {n : Nat} {a b : TS} {es : List Sl} {m : M} {Q1 Q2 : List Sl → M → Prop} (h : ∃ es1 m1, Sv K n a es m (.nx es1 m1) ∧ Q1 es1 m1) (h2 : ∀ es1 m1, Q1 es1 m1 → ∃ es2 m2, Sv K n b es1 m1 (.nx es2 m2) ∧ Q2 es2 m2) : ∃ es2 m2, Sv K n (tSeq a b) es m (.nx es2 m2) ∧ Q2 es2 m2 := by
  obtain ⟨es1, m1, h1, q1⟩ := h
  obtain ⟨es2, m2, h3, q2⟩ := h2 es1 m1 q1
  exact ⟨es2, m2, sv_seq h1 h3, q2⟩
theorem ex_ifT {n : Nat} {tt : TT} {a b : TS} {es : List Sl} {m m1 : M} {Q : List Sl → M → Prop} (h : EvB K tt es m true m1) (h2 : ∃ es2 m2, Sv K n a es m1 (.nx es2 m2) ∧ Q es2 m2) : ∃ es2 m2, Sv K n (tIfS tt a b) es m (.nx es2 m2) ∧ Q es2 m2 := by
  obtain ⟨es1, m1, h1, q1⟩ := h2
  exact ⟨es1, m1, sv_ifT h h1, q1⟩
theorem ex_ifF {n : Nat} {tt : TT} {a b : TS} {es : List Sl} {m m1 : M} {Q : List Sl → M → Prop} (h : EvB K tt es m false m1) (h2 : ∃ es2 m2, Sv K n b es m1 (.nx es2 m2) ∧ Q es2 m2) : ∃ es2 m2, Sv K n (tIfS tt a b) es m (.nx es2 m2) ∧ Q es2 m2 := by
  obtain ⟨es1, m1, h1, q1⟩ := h2
  exact ⟨es1, m1, sv_ifF h h1, q1⟩
theorem ex_left {n : Nat} {a : TS} {es : List Sl} {m : M} {Q : List Sl → M → Prop} (h : ∃ es2 m2, Sv K n a es m (.nx es2 m2) ∧ Q es2 m2) : ∃ es2 m2, (Sv K n a es m (.nx es2 m2) ∨ Sv K n a es m (.cnt es2 m2)) ∧ Q es2 m2 := by
  obtain ⟨es1, m1, h1, q1⟩ := h
  exact ⟨es1, m1, .inl h1, q1⟩
theorem c_ltext {n k : Nat} (hn : n ≤ 2) (hk : 1 ≤ k) (b_str : mg "str" = none) (TD : DefT K mg "_law_text" st__law_text ["_law_drawing_here"]) (D__law_shape_text : PureC P w K mg base 1 "_law_shape_text" ["_law_shape_here"] R_fshape)
    {R : List PyData → PyData → Prop} (D__law_text : PureC P w K mg base k "_law_text" ["_law_drawing_here"] R) (hR : ∀ j, n = j + 1 → R = R_flayers j) : PureC P w K mg base (k + 1) "_law_text" ["_law_drawing_here"] (R_flayers n) := by
  refine mkPure TD S__law_text fun f cdv A outer s H E hr => ?_
  have hu := hr.units
  refine ⟨_, (pss_cons (ps_set (i := 1) S__law_text.nd rfl (Or.inl rfl) (pe_lst pa_nil))
      (pss_cons (ps_for PassesOwn.never rfl (kSeq (K := K) (pv 0)) (pg_name (i := 2) S__law_text.nd rfl (Or.inl rfl)) (pss_cons (ps_if (pt_cmpR (kEq (K := K) hu) (pe_ix (kIx (K := K)) (pv 2) pe_int (fun _ _ => rfl)) pe_str (nomark _)) (pss_cons (ps_set (i := 3) S__law_text.nd rfl (Or.inl rfl) (pe_ifExp (pt_cmpR op_isN (pe_ix (kIx (K := K)) (pv 2) pe_int (fun _ _ => rfl)) pe_non (nomark _)) pe_str (pe_def D__law_shape_text (hr.mono (by omega)) (by rfl) pass0 (pa_cons (pe_ix (kIx (K := K)) (pv 2) pe_int (fun _ _ => rfl)) pa_nil))))
      (pss_cons (ps_set (i := 4) S__law_text.nd rfl (Or.inl rfl) (kBm (K := K) PySem.F.plainAttrs_str PySem.F.slot_str_join PySem.F.type_str_join (kJoin (K := K)) pe_str (pa_cons (pe_lc (own := [("_law_one", 7)]) (by rfl) S__law_text.nd (kSeq (K := K) (pe_ix (kIx (K := K)) (pv 2) pe_int (fun _ _ => rfl))) (blkOk_by (N := N__law_text) (sc := defScope st__law_text) (by decide +kernel)) (fun _ _ _ _ _ => pg_name (i := 7) S__law_text.nd rfl (by first | exact Or.inl rfl | exact Or.inr rfl)) (fun _ _ _ _ _ => pts_nil) (fun _ _ _ _ _ => (pe_callTy call_str_int (by rfl) b_str (by decide +kernel) (pa_cons (pv 7) pa_nil)))) pa_nil)))
      (pss_cons (ps_set (i := 5) S__law_text.nd rfl (Or.inl rfl) (pe_lst (pa_cons pe_str (pa_cons (pv 4) (pa_cons (pe_op (kAddV (K := K)) (pe_op (kAddV (K := K)) (pe_callTy call_str_int (by rfl) b_str (by decide +kernel) (pa_cons (pe_ix (kIx (K := K)) (pe_ix (kIx (K := K)) (pv 2) pe_int (fun _ _ => rfl)) pe_int (fun _ _ => rfl)) pa_nil)) pe_str) (pe_callTy call_str_int (by rfl) b_str (by decide +kernel) (pa_cons (pe_ix (kIx (K := K)) (pe_ix (kIx (K := K)) (pv 2) pe_int (fun _ _ => rfl)) pe_int (fun _ _ => rfl)) pa_nil))) (pa_cons (pv 3) pa_nil))))))
      (pss_one (ps_set (i := 5) S__law_text.nd rfl (Or.inl rfl) (pe_op (kAdd (K := K)) (pv 5) (pe_lst (pa_cons (pe_op (kAddV (K := K)) (pe_op (kAddV (K := K)) pe_str (pe_def D__law_text (hr.mono (by omega)) (by rfl) pass0 (pa_cons (pe_ix (kIx (K := K)) (pv 2) pe_int (fun _ _ => rfl)) pa_nil))) pe_str) pa_nil)))))))) (pss_cons (ps_set (i := 6) S__law_text.nd rfl (Or.inl rfl) (pe_ix (kIx (K := K)) (pv 2) (pe_un un_neg pe_int) (fun _ _ => rfl)))
      (pss_cons (ps_set (i := 5) S__law_text.nd rfl (Or.inl rfl) (pe_lst (pa_cons (pe_ix (kIx (K := K)) (pv 2) pe_int (fun _ _ => rfl)) (pa_cons (pe_def D__law_shape_text (hr.mono (by omega)) (by rfl) pass0 (pa_cons (pe_ix (kIx (K := K)) (pv 2) pe_int (fun _ _ => rfl)) pa_nil)) pa_nil))))
      (pss_cons (ps_if (pt_cmpR (kEq (K := K) hu) (pe_ix (kIx (K := K)) (pv 2) pe_int (fun _ _ => rfl)) pe_str (nomark _)) (pss_one (ps_expr (kBm (K := K) PySem.F.plainAttrs_list PySem.F.slot_list_append PySem.F.type_list_append mt_append (pv 5) (pa_cons (kBm (K := K) PySem.F.plainAttrs_str PySem.F.slot_str_join PySem.F.type_str_join (kJoin (K := K)) pe_str (pa_cons (pe_lc (own := [("_law_one", 7)]) (by rfl) S__law_text.nd (kSeq (K := K) (pe_ix (kIx (K := K)) (pv 2) pe_int (fun _ _ => rfl))) (blkOk_by (N := N__law_text) (sc := defScope st__law_text) (by decide +kernel)) (fun _ _ _ _ _ => pg_name (i := 7) S__law_text.nd rfl (by first | exact Or.inl rfl | exact Or.inr rfl)) (fun _ _ _ _ _ => pts_nil) (fun _ _ _ _ _ => (pe_callTy call_str_int (by rfl) b_str (by decide +kernel) (pa_cons (pv 7) pa_nil)))) pa_nil)) pa_nil)))) pss_nil)
      (pss_one (ps_expr (kBm (K := K) PySem.F.plainAttrs_list PySem.F.slot_list_append PySem.F.type_list_append mt_append (pv 5) (pa_cons (pe_op (kAddV (K := K)) (pe_op (kAddV (K := K)) (pe_callTy call_str_int (by rfl) b_str (by decide +kernel) (pa_cons (pe_ix (kIx (K := K)) (pv 6) pe_int (fun _ _ => rfl)) pa_nil)) pe_str) (pe_callTy call_str_int (by rfl) b_str (by decide +kernel) (pa_cons (pe_ix (kIx (K := K)) (pv 6) pe_int (fun _ _ => rfl)) pa_nil))) pa_nil))))))))
      (pss_one (ps_expr (kBm (K := K) PySem.F.plainAttrs_list PySem.F.slot_list_append PySem.F.type_list_append mt_append (pv 1) (pa_cons (kBm (K := K) PySem.F.plainAttrs_str PySem.F.slot_str_join PySem.F.type_str_join (kJoin (K := K)) pe_str (pa_cons (pv 5) pa_nil)) pa_nil))))))
      (pss_one (ps_ret (kBm (K := K) PySem.F.plainAttrs_str PySem.F.slot_str_join PySem.F.type_str_join (kJoin (K := K)) pe_str (pa_cons (pv 1) pa_nil)))))), ?_⟩
  rintro ds m y hl ⟨ls, rfl, h4, hn', rfl⟩
  have z : sizeLine = 16777216 := rfl
  have hB := layB_small hn
  have e3 : (" & " : Str).length = 3 := by rw [TL.len_tl, tl_sep]; rfl
  refine sv_seq (es1 := [.d (.tuple ls), .c m.length, .no, .no, .no, .no, .no, .no]) (m1 := m ++ [[]]) (sv_cell (el_lst ea_nil (ds := []) rfl (by simp))) ?_
  refine sv_forI (m1 := m ++ [[]]) (i := 2) (ds := ls) (fun l es mm => ∃ x2 x3 x4 x5 x6, es = [.d (.tuple ls), .c m.length, x2, x3, x4, x5, x6, .no] ∧ mm[m.length]? = some (strD ((ls.take l).map (fmtLayer n))) ∧ mm.take m.length = m)
    (ei_seqT (ev_var rfl nofun)) ⟨.no, .no, .no, .no, .no, rfl, app_at, by rw [List.take_left]⟩ ?step ?fin
  case fin =>
    rintro es mm ⟨x2, x3, x4, x5, x6, rfl, g1, g2⟩
    rw [List.take_length] at g1
    have q := ev_joinC (K := K) (a := " & ") (gs := ls.map (fmtLayer n)) (B := layB n) (i := 1) (j := m.length) (es := [.d (.tuple ls), .c m.length, x2, x3, x4, x5, x6, .no]) (m := mm) (ts := tC (.str " & ")) ev_str rfl g1 (fun g hg => by
      obtain ⟨d, hd, rfl⟩ := List.mem_map.mp hg
      exact layer_len n (hn' d hd)) (by
      rw [e3, List.length_map]
      have : ls.length * (layB n + 3) ≤ 4 * (layB n + 3) := Nat.mul_le_mul_right _ h4
      omega)
    rw [tl_sep] at q
    exact sv_retA q (by
      have := List.take_append_drop m.length mm
      rw [g2] at this
      exact ⟨_, this⟩)
  case step =>
    rintro l d es mm hd ⟨x2, x3, x4, x5, x6, rfl, g1, g2⟩
    have hdm := hn' d (List.mem_of_getElem? hd)
    have hml := (List.getElem?_eq_some_iff.mp g1).1
    have up := layB_up n
    refine ex_left (ex_bind (Q1 := fun es2 m2 => ∃ y3 y4 y6 j gs, es2 = [.d (.tuple ls), .c m.length, .d d, y3, y4, .c j, y6, .no] ∧ m2[j]? = some (strD gs) ∧ m2[m.length]? = some (strD ((ls.take l).map (fmtLayer n))) ∧ m2.take m.length = m ∧ TL.joinL [32] gs = fmtLayer n d ∧ gs.length ≤ 5 ∧ ∀ g, g ∈ gs → g.length ≤ layB n) ?row ?put)
    case put =>
      rintro es2 m2 ⟨y3, y4, y6, j, gs, rfl, k1, k2, k3, k4, k5, k6⟩
      have q := ev_joinC (K := K) (a := " ") (gs := gs) (B := layB n) (i := 5) (j := j) (es := [.d (.tuple ls), .c m.length, .d d, y3, y4, .c j, y6, .no]) (m := m2) (ts := tC (.str " ")) ev_str rfl k1 k6 (by
        rw [one_len tl_space]
        have : gs.length * (layB n + 1) ≤ 5 * (layB n + 1) := Nat.mul_le_mul_right _ k5
        omega)
      rw [tl_space, k4] at q
      have a := sv_append (K := K) (n := m.length) (i := 1) (j := m.length) (es := [.d (.tuple ls), .c m.length, .d d, y3, y4, .c j, y6, .no]) rfl q k2 ⟨_, k2⟩ (by rw [List.length_map, List.length_map, List.length_take]; omega)
      have kl := (List.getElem?_eq_some_iff.mp k2).1
      refine ⟨_, _, a, _, _, _, _, _, rfl, ?_, (take_set (Nat.le_refl _)).trans k3⟩
      rw [List.getElem?_set_self kl, List.take_add_one, hd, List.map_append, strD_app]
      rfl
    case row =>
      rcases nested_parts hdm with ⟨s, c, o, rfl, hs, hc, ho⟩ | ⟨s, o, rfl, hs, ho⟩ | ⟨j, ls', o, c, mt, e, rfl, h4', hn2, ho, hc, hm⟩
      · refine ex_ifF (eb_cast (eb_test (ev_op (ev_op (ev_var rfl nofun) ev_int (o_ixT (j := 0) rfl rfl)) ev_str o_eqS)) (str_neq (by decide))) ?_
        refine ex_then (sv_set (r := .d o) (m1 := mm) (ev_op (ev_var rfl nofun) (ev_un ev_int o_neg) (o_ixLast rfl))) ?_
        refine ex_then (es1 := [.d (.tuple ls), .c m.length, .d (.tuple [.str "fill", s, c, o]), x3, x4, .c mm.length, .d o, .no]) (m1 := mm ++ [[.str "fill", .str (mk (fmtShape s))]]) (sv_cell (el_lst (ds := [.str "fill", .str (mk (fmtShape s))]) (arg2 (ev_op (ev_var rfl nofun) ev_int (o_ixT (j := 0) rfl rfl)) (ev_fshape (arg1 (ev_op (ev_var rfl nofun) ev_int (o_ixT (j := 1) rfl rfl))) hs)) rfl (by simp))) ?_
        refine ex_then (es1 := [.d (.tuple ls), .c m.length, .d (.tuple [.str "fill", s, c, o]), x3, x4, .c mm.length, .d o, .no]) (m1 := mm ++ [[.str "fill", .str (mk (fmtShape s)), .str (mk (fmtNums 46 c))]]) (sv_ifT (m1 := mm ++ [[.str "fill", .str (mk (fmtShape s))]]) (eb_cast (eb_test (ev_op (ev_op (ev_var rfl nofun) ev_int (o_ixT (j := 0) rfl rfl)) ev_str o_eqS)) (decide_eq_true rfl)) ?a1) ?_
        case a1 =>
          have q := sv_append (K := K) (n := m.length) (es := [.d (.tuple ls), .c m.length, .d (.tuple [.str "fill", s, c, o]), x3, x4, .c mm.length, .d o, .no]) (i := 5) (j := mm.length) (m := mm ++ [[.str "fill", .str (mk (fmtShape s))]]) (ds := [.str "fill", .str (mk (fmtShape s))]) rfl (ev_dots (i := 7) (ev_op (ev_var (i := 2) rfl nofun) ev_int (o_ixT (j := 2) rfl rfl)) (fun _ => rfl) (colour_short hc)) last_get ⟨_, last_get⟩ (by simp)
          rw [last_set] at q
          exact q
        have q := sv_append (K := K) (n := m.length) (es := [.d (.tuple ls), .c m.length, .d (.tuple [.str "fill", s, c, o]), x3, x4, .c mm.length, .d o, .no]) (i := 5) (j := mm.length) (m := mm ++ [[.str "fill", .str (mk (fmtShape s)), .str (mk (fmtNums 46 c))]]) (ds := [.str "fill", .str (mk (fmtShape s)), .str (mk (fmtNums 46 c))]) rfl (ev_part (to := tVar 6) (ev_var rfl nofun) ho) last_get ⟨_, last_get⟩ (by simp)
        rw [last_set] at q
        refine ⟨_, _, q, _, _, _, _, [wFill, fmtShape s, fmtNums 46 c, fmtNums 47 o], rfl, last_get.trans (by rw [s_of tl_fill]; rfl), (List.getElem?_append_left hml).trans g1, (List.take_append_of_le_length (Nat.le_of_lt hml)).trans g2, (fmt_fill n s c o).symm, by simp, fun p hp => ?_⟩
        simp only [List.mem_cons, List.not_mem_nil, or_false] at hp
        rcases hp with rfl | rfl | rfl | rfl
        · exact Nat.le_trans (show wFill.length ≤ 1868 by decide) up
        · exact Nat.le_trans (shape_len hs) (by omega)
        · exact Nat.le_trans (nums_len (colour_short hc)) (by omega)
        · exact Nat.le_trans (nums_len (opacity_short ho)) (by omega)
      · refine ex_ifF (eb_cast (eb_test (ev_op (ev_op (ev_var rfl nofun) ev_int (o_ixT (j := 0) rfl rfl)) ev_str o_eqS)) (str_neq (by decide))) ?_
        refine ex_then (sv_set (r := .d o) (m1 := mm) (ev_op (ev_var rfl nofun) (ev_un ev_int o_neg) (o_ixLast rfl))) ?_
        refine ex_then (es1 := [.d (.tuple ls), .c m.length, .d (.tuple [.str "rub", s, o]), x3, x4, .c mm.length, .d o, .no]) (m1 := mm ++ [[.str "rub", .str (mk (fmtShape s))]]) (sv_cell (el_lst (ds := [.str "rub", .str (mk (fmtShape s))]) (arg2 (ev_op (ev_var rfl nofun) ev_int (o_ixT (j := 0) rfl rfl)) (ev_fshape (arg1 (ev_op (ev_var rfl nofun) ev_int (o_ixT (j := 1) rfl rfl))) hs)) rfl (by simp))) ?_
        refine ex_then (sv_ifF (m1 := mm ++ [[.str "rub", .str (mk (fmtShape s))]]) (eb_cast (eb_test (ev_op (ev_op (ev_var rfl nofun) ev_int (o_ixT (j := 0) rfl rfl)) ev_str o_eqS)) (str_neq (by decide))) sv_next) ?_
        have q := sv_append (K := K) (n := m.length) (es := [.d (.tuple ls), .c m.length, .d (.tuple [.str "rub", s, o]), x3, x4, .c mm.length, .d o, .no]) (i := 5) (j := mm.length) (m := mm ++ [[.str "rub", .str (mk (fmtShape s))]]) (ds := [.str "rub", .str (mk (fmtShape s))]) rfl (ev_part (to := tVar 6) (ev_var rfl nofun) ho) last_get ⟨_, last_get⟩ (by simp)
        rw [last_set] at q
        refine ⟨_, _, q, _, _, _, _, [wRub, fmtShape s, fmtNums 47 o], rfl, last_get.trans (by rw [s_of tl_rub]; rfl), (List.getElem?_append_left hml).trans g1, (List.take_append_of_le_length (Nat.le_of_lt hml)).trans g2, (fmt_rub n s o).symm, by simp, fun p hp => ?_⟩
        simp only [List.mem_cons, List.not_mem_nil, or_false] at hp
        rcases hp with rfl | rfl | rfl
        · exact Nat.le_trans (show wRub.length ≤ 1868 by decide) up
        · exact Nat.le_trans (shape_len hs) (by omega)
        · exact Nat.le_trans (nums_len (opacity_short ho)) (by omega)
      · refine ex_ifT (eb_cast (eb_test (ev_op (ev_op (ev_var rfl nofun) ev_int (o_ixT (j := 0) rfl rfl)) ev_str o_eqS)) (decide_eq_true rfl)) ?_
        have hin := layers_len h4' hn2
        have eB : layB n = 5 * (4 * (layB j + 3) + 3) := by rw [e]; rfl
        have ecall : ∀ (E : XK) (es : List Sl) (m : M), es[2]? = some (.d (.tuple [.str "group", .tuple ls', o, c, mt])) → EvE K (tCall (spD K 1 (pureG R)) [] E (tCons (tOp (rIx K) (tVar 2) (tC (.int 1))) tNil)) es m (.d (.str (mk (fmtLayersF (fmtLayer j) ls')))) m := by
          cases hR j e
          exact fun E es m h => ev_pure (arg1 (ev_op (ev_var h nofun) ev_int (o_ixT (j := 1) rfl rfl))) (ds := [.tuple ls']) rfl ⟨ls', rfl, h4', hn2, rfl⟩ rfl
        refine ex_then (es1 := [.d (.tuple ls), .c m.length, .d (.tuple [.str "group", .tuple ls', o, c, mt]), .d (.str (mk (clipT c))), x4, x5, x6, .no]) (m1 := mm) (sv_set ?clip) ?_
        case clip =>
          cases hN : isNone c with
          | true =>
            refine ev_cast (ev_ifT (eb_cast (eb_test (ev_op (ev_op (ev_var rfl nofun) ev_int (o_ixT (j := 3) rfl rfl)) ev_non o_isN)) hN) ev_str) ?_
            cases c <;> first | (cases hN; done) | exact congrArg (fun s => Sl.d (.str s)) (s_of tl_dash)
          | false =>
            rw [hN, Bool.false_or] at hc
            refine ev_cast (ev_ifF (eb_cast (eb_test (ev_op (ev_op (ev_var rfl nofun) ev_int (o_ixT (j := 3) rfl rfl)) ev_non o_isN)) hN) (ev_fshape (arg1 (ev_op (ev_var rfl nofun) ev_int (o_ixT (j := 3) rfl rfl))) hc)) ?_
            cases c <;> first | (cases hN; done) | rfl
        refine ex_then (es1 := [.d (.tuple ls), .c m.length, .d (.tuple [.str "group", .tuple ls', o, c, mt]), .d (.str (mk (clipT c))), .d (.str (mk (fmtNums 46 mt))), x5, x6, .no]) (m1 := mm) (sv_set (ev_dots (i := 7) (ev_op (ev_var (i := 2) rfl nofun) ev_int (o_ixT (j := 4) rfl rfl)) (fun _ => rfl) (matrix_short hm))) ?_
        refine ex_then (es1 := [.d (.tuple ls), .c m.length, .d (.tuple [.str "group", .tuple ls', o, c, mt]), .d (.str (mk (clipT c))), .d (.str (mk (fmtNums 46 mt))), .c mm.length, x6, .no]) (m1 := mm ++ [[.str "group", .str (mk (fmtNums 46 mt)), .str (mk (fmtNums 47 o)), .str (mk (clipT c))]])
          (sv_cell (el_lst (ds := [.str "group", .str (mk (fmtNums 46 mt)), .str (mk (fmtNums 47 o)), .str (mk (clipT c))]) (ea_cons ev_str (ea_cons (ev_var (r := .d (.str (mk (fmtNums 46 mt)))) rfl nofun) (ea_cons (ev_part (ev_op (ev_var rfl nofun) ev_int (o_ixT (j := 2) rfl rfl)) ho) (ea_cons (ev_var (r := .d (.str (mk (clipT c)))) rfl nofun) ea_nil)))) rfl (by simp))) ?_
        have hB1 : 4 * (layB j + 3) ≤ 748775 := by omega
        have etext : ∀ (E : XK) (es : List Sl) (m : M), es[2]? = some (.d (.tuple [.str "group", .tuple ls', o, c, mt])) → EvE K (tOp (rAddV K) (tOp (rAddV K) (tC (.str "[")) (tCall (spD K 1 (pureG R)) [] E (tCons (tOp (rIx K) (tVar 2) (tC (.int 1))) tNil))) (tC (.str "]"))) es m (.d (.str (mk ([91] ++ (fmtLayersF (fmtLayer j) ls' ++ [93]))))) m := fun E es m h => by
          refine ev_cast (ev_op (ev_op ev_str (ecall E es m h) (o_addS (by rw [mk_len, one_len tl_sopen]; omega))) ev_str (o_addS (by rw [len_app, mk_len, one_len tl_sopen, one_len tl_sclose]; omega))) ?_
          show Sl.d (.str (("[" ++ mk (fmtLayersF (fmtLayer j) ls')) ++ "]")) = _
          rw [s_of tl_sopen, s_of tl_sclose, mk_app, mk_app, List.append_assoc]
        refine ⟨_, _, sv_cell (el_cat (j := mm.length) rfl (el_lst (ds := [.str (mk ([91] ++ (fmtLayersF (fmtLayer j) ls' ++ [93])))]) (arg1 (etext _ _ _ rfl)) rfl (by simp)) last_get (by simp)), _, _, _, _, [wGroup, fmtNums 46 mt, fmtNums 47 o, clipT c, [91] ++ (fmtLayersF (fmtLayer j) ls' ++ [93])], rfl, last_get.trans (by rw [s_of tl_group]; rfl), ?_, ?_, ?_, by simp, fun p hp => ?_⟩
        · rw [List.append_assoc]
          exact (List.getElem?_append_left hml).trans g1
        · rw [List.append_assoc]
          exact (List.take_append_of_le_length (Nat.le_of_lt hml)).trans g2
        · rw [e]
          exact (fmt_group j ls' o c mt).symm
        · simp only [List.mem_cons, List.not_mem_nil, or_false] at hp
          rcases hp with rfl | rfl | rfl | rfl | rfl
          · exact Nat.le_trans (show wGroup.length ≤ 1868 by decide) up
          · exact Nat.le_trans (nums_len (matrix_short hm)) (by omega)
          · exact Nat.le_trans (nums_len (opacity_short ho)) (by omega)
          · exact Nat.le_trans (clip_len hc) (by omega)
          · simp only [List.length_append, List.length_cons, List.length_nil]
            omega
end
end K30

set_option Elab.async false
set_option linter.all false
set_option maxRecDepth 100000
set_option maxHeartbeats 4000000
namespace K30
variable [DL.Tbs]
open PySem PySem.Spec PyProof.Rows L2 DL
section
variable {P : Program} {w : World} {K : PySem.W.Frag} {mg : Str → Option Value} {base : Heap}
structure BltD (mg : Str → Option Value) : Prop where
  b_len : mg "len" = none
  b_max : mg "max" = none
  b_min : mg "min" = none
  b_range : mg "range" = none
abbrev R_cell : List PyData → PyData → Prop := fun ds y => ∃ (ns : List Int) (k : Int), ds = [.list (ns.map .int), .int k] ∧ ns.length ≤ 1000 ∧ 0 ≤ k ∧ y = .int (cellM ns k)
theorem c_cell (T : BltD mg) (TD : DefT K mg "_law_cell" st__law_cell ["_law_script", "_law_k"]) : PureC P w K mg base 1 "_law_cell" ["_law_script", "_law_k"] R_cell := by
  refine mkPure TD S__law_cell fun f cdv A outer s H E hr => ?_
  have hu := hr.units
  refine ⟨_, (pss_cons (ps_if (pt_cmpR (kEq (K := K) hu) (pv 0) (pe_lst pa_nil) (nomark _)) (pss_one (ps_ret (pe_op (kMul (K := K)) (pv 1) pe_int))) pss_nil)
      (pss_one (ps_ret (pe_op (kAdd (K := K)) (pe_ix (kIx (K := K)) (pv 0) (pe_op op_mod (pv 1) (pe_callB (kLen (K := K)) (by rfl) T.b_len (by decide +kernel) (pa_cons (pv 0) pa_nil))) (fun _ _ => rfl)) (pe_op (kMul (K := K)) (pe_op op_fdivW (pv 1) (pe_callB (kLen (K := K)) (by rfl) T.b_len (by decide +kernel) (pa_cons (pv 0) pa_nil))) pe_int))))), ?_⟩
  rintro ds m y hl ⟨ns, k, rfl, hn, hk, rfl⟩
  have big : ∀ j : Int, IntMulOk j 104729 ∧ IntMulOk j 7919 := fun j => ⟨.of_right (intBits_le_64 (by decide) (by decide)), .of_right (intBits_le_64 (by decide) (by decide))⟩
  cases ns with
  | nil =>
    refine sv_ifsT (m1 := m) (eb_cast (eb_test (ev_op (ev_var rfl nofun) (ev_lst ea_nil (ds := []) rfl (by decide)) (o_eqD (shaped_ints []) (shaped_ints [])))) (by simp [PyData.eqv, PyData.eqvAll])) rfl (sv_ret0 ?_)
    exact ev_op (ev_var rfl nofun) ev_int (o_mulII (big k).2)
  | cons n ns =>
    have hpos : (0 : Int) < ((n :: ns).length : Int) := by rw [List.length_cons]; omega
    have hlen : EvE K _ _ m (.d (.int (((n :: ns).length : Nat) : Int))) m := ev_cast (ev_cb (K := K) (es := [.d (.list ((n :: ns).map .int)), .d (.int k)]) (arg1 (ev_var (i := 0) rfl nofun)) (c_len rfl)) (by rw [List.length_map])
    refine sv_ifsF (m1 := m) (eb_cast (eb_test (ev_op (ev_var rfl nofun) (ev_lst ea_nil (ds := []) rfl (by decide)) (o_eqD (shaped_ints (n :: ns)) (shaped_ints [])))) (by simp [PyData.eqv, PyData.eqvAll])) (sv_ret0 ?_)
    have h1 := Int.emod_nonneg k (b := ((n :: ns).length : Int)) (by omega)
    have h2 := Int.emod_lt_of_pos k hpos
    have hix : ((n :: ns).map PyData.int)[(k % ((n :: ns).length : Int)).toNat]? = some (.int ((n :: ns).getD (k % ((n :: ns).length : Int)).toNat 0)) := by
      rw [List.getElem?_map, List.getD_eq_getElem?_getD, List.getElem?_eq_getElem (by omega)]
      rfl
    exact ev_cast (ev_op (ev_op (ev_var rfl nofun) (ev_op (ev_var rfl nofun) hlen (o_mod hpos)) (o_ixL (by omega) hix)) (ev_op (ev_op (ev_var rfl nofun) hlen (o_div (wide_div hpos (b := 10) (by omega) (by decide) (by decide)))) ev_int (o_mulII (big _).1)) o_addI) (by unfold cellM; rw [if_neg (by simp)])
abbrev R_drawn : List PyData → PyData → Prop := fun ds y => ∃ c k : Int, ds = [.int c, .int k] ∧ y = .int (drawnM c k)
theorem c_drawn (T : BltD mg) (TD : DefT K mg "_law_drawn" st__law_drawn ["_law_cell_here", "_law_k"]) : PureC P w K mg base 1 "_law_drawn" ["_law_cell_here", "_law_k"] R_drawn := by
  refine mkPure TD S__law_drawn fun f cdv A outer s H E hr => ?_
  refine ⟨_, (pss_cons (ps_set (i := 2) S__law_drawn.nd rfl (Or.inl rfl) (pe_op op_mod (pe_op (kAdd (K := K)) (pe_op (kMul (K := K)) (pv 0) pe_int) (pe_op (kMul (K := K)) (pe_op (kAdd (K := K)) (pv 1) pe_int) pe_int)) pe_int))
      (pss_cons (ps_set (i := 2) S__law_drawn.nd rfl (Or.inl rfl) (pe_op op_mod (pe_op (kMul (K := K)) (pv 2) (pv 2)) pe_int))
      (pss_cons (ps_set (i := 2) S__law_drawn.nd rfl (Or.inl rfl) (pe_op (kMul (K := K)) (pe_op (kMul (K := K)) (pe_op (kAdd (K := K)) (pe_op op_mod (pv 2) pe_int) pe_int) (pe_op (kAdd (K := K)) (pe_op op_fdivW (pv 2) pe_int) pe_int)) (pv 2)))
      (pss_one (ps_ret (pe_op op_mod (pv 2) pe_int)))))), ?_⟩
  rintro ds m y hl ⟨c, k, rfl, rfl⟩
  have right : ∀ i j : Int, -(2 ^ 64) < j → j < 2 ^ 64 → IntMulOk i j := fun i j h1 h2 => .of_right (intBits_le_64 h1 h2)
  have nat : ∀ {z : Int} {b : Nat}, 0 ≤ z → z < ((2 ^ b : Nat) : Int) → z.natAbs < 2 ^ b := fun h1 h2 => by omega
  refine sv_seq (es1 := [.d (.int c), .d (.int k), .d (.int (mix0M c k))]) (m1 := m) (sv_set (ev_op (ev_op (ev_op (ev_var rfl nofun) ev_int (o_mulII (right _ _ (by decide) (by decide)))) (ev_op (ev_op (ev_var rfl nofun) ev_int o_addI) ev_int (o_mulII (right _ _ (by decide) (by decide)))) o_addI) ev_int (o_mod (by decide)))) ?_
  have a := mix0_lt c k
  unfold drawnM
  generalize mix0M c k = x at a ⊢
  have ha : x.natAbs < 2 ^ 129 := nat a.1 (by have := a.2; omega)
  refine sv_seq (es1 := [.d (.int c), .d (.int k), .d (.int (mix1M x))]) (m1 := m) (sv_set (ev_op (ev_op (ev_var rfl nofun) (ev_var rfl nofun) (o_mulII (CMulW.ok (wide_mul ha ha (by decide) (by decide) (by decide))))) ev_int (o_mod (by decide)))) ?_
  have b := mix1_lt x
  generalize mix1M x = y at b ⊢
  have hy : y.natAbs < 2 ^ 128 := nat b.1 (by have := b.2; omega)
  have h1 := Int.emod_nonneg y (b := 18446744073709551557) (by decide)
  have h2 := Int.emod_lt_of_pos y (b := 18446744073709551557) (by decide)
  have h3 : (y % 18446744073709551557 + 1).natAbs < 2 ^ 65 := nat (by omega) (by omega)
  have h4 : (y / 18446744073709551557 + 1).natAbs < 2 ^ 129 := by
    have q1 : 0 ≤ y / 18446744073709551557 := Int.ediv_nonneg b.1 (by decide)
    have q2 : y / 18446744073709551557 ≤ y := Int.ediv_le_self _ b.1
    have b2 := b.2
    exact nat (by omega) (by omega)
  refine sv_seq (m1 := m) (sv_set (ev_op (ev_op (ev_op (ev_op (ev_var rfl nofun) ev_int (o_mod (j := 18446744073709551557) (by decide))) ev_int o_addI) (ev_op (ev_op (ev_var rfl nofun) ev_int (o_div (wide_div (j := 18446744073709551557) (by decide) (b := 65) (by decide) (by decide) (by decide)))) ev_int o_addI)
    (o_mulII (CMulW.ok (wide_mul h3 h4 (by decide) (by decide) (by decide))))) (ev_var rfl nofun) (o_mulII (CMulW.ok (wide_mul (wide_lt h3 h4) hy (by decide) (by decide) (by decide)))))) ?_
  exact sv_ret0 (ev_op (ev_var rfl nofun) ev_int (o_mod (j := 340282366920938463463374607431768211507) (by decide)))
theorem c_roll (T : BltD mg) (TD : DefT K mg "_law_roll" st__law_roll ["_law_dice", "_law_many"]) (D__law_drawn : PureC P w K mg base 1 "_law_drawn" ["_law_cell_here", "_law_k"] R_drawn) : DefC P w K mg base CX0 2 "_law_roll" ["_law_dice", "_law_many"] (spD K 2 rollG) := by
  refine mkDef TD S__law_roll rfl (by rintro rs m r m' ⟨j, x, c, n, _, _, _, _, rfl, rfl⟩; exact ⟨List.length_set, rfl⟩) fun f cdv A outer s H E hr => ?_
  refine ⟨_, (pss_cons (ps_if (pt_cmpR op_ge (pe_ix (kIx (K := K)) (pv 0) pe_int (fun _ _ => rfl)) (pe_op op_pow pe_int pe_int) (nomark _)) (pss_cons (ps_set (i := 2) S__law_roll.nd rfl (Or.inl rfl) (pe_op op_mod (pe_ix (kIx (K := K)) (pv 0) pe_int (fun _ _ => rfl)) (pv 1)))
      (pss_cons (ps_asg (pe_op op_fdivW (pe_ix (kIx (K := K)) (pv 0) pe_int (fun _ _ => rfl)) (pv 1)) (pg_sub (pv 0) pe_int set_list))
      (pss_one (ps_ret (pv 2))))) pss_nil)
      (pss_cons (ps_asg (pe_op (kAdd (K := K)) (pe_ix (kIx (K := K)) (pv 0) pe_int (fun _ _ => rfl)) pe_int) (pg_sub (pv 0) pe_int set_list))
      (pss_one (ps_ret (pe_op op_mod (pe_op op_fdivW (pe_def D__law_drawn (hr.mono (by omega)) (by rfl) pass0 (pa_cons (pe_ix (kIx (K := K)) (pv 0) pe_int (fun _ _ => rfl)) (pa_cons (pe_ix (kIx (K := K)) (pv 0) pe_int (fun _ _ => rfl)) pa_nil))) pe_int) (pv 1)))))), ?_⟩
  rintro rs m r m' hl ⟨j, x, c, n, rfl, hm, hn, hn2, rfl, rfl⟩
  have hj := (List.getElem?_eq_some_iff.mp hm).1
  have g1 : ∀ ds : List PyData, (m.set j ds)[j]? = some ds := fun ds => List.getElem?_set_self hj
  have div : CDivW x n := wide_div hn (b := 62) (by omega) (by decide) (by decide)
  have test : ∀ es : List Sl, es[0]? = some (.c j) → EvB K (tTest (tOp (rI0 fun i j => .bl (decide (j ≤ i))) (tOp (rIx K) (tVar 0) (tC (.int 0))) (tOp (rI CPow fun i j => .int (i ^ j.toNat)) (tC (.int 10)) (tC (.int 18))))) es m (decide ((10 : Int) ^ 18 ≤ x)) m := fun es he =>
    eb_test (ev_op (ev_cix (l := 0) he hm rfl rfl) (ev_op ev_int ev_int (o_pow ⟨by decide, by decide, by decide⟩)) o_i0b)
  by_cases hx : x ≥ 10 ^ 18
  · have e1 : rollM x c n = x % n := if_pos hx
    have e2 : diceM x c n = [.int (x / n), .int c] := if_pos hx
    rw [e1, e2]
    refine sv_ifsT (m1 := m) (eb_cast (test _ rfl) (decide_eq_true hx)) rfl ?_
    refine sv_seq (es1 := [.c j, .d (.int n), .d (.int (x % n))]) (m1 := m) (sv_set (ev_op (ev_cix (l := 0) rfl hm rfl rfl) (ev_var rfl nofun) (o_mod hn))) ?_
    refine sv_seq (es1 := [.c j, .d (.int n), .d (.int (x % n))]) (m1 := m.set j [.int (x / n), .int c]) ?_ (sv_ret0 (ev_var rfl nofun))
    exact sv_store (l := 0) (ds := [.int x, .int c]) rfl (ev_op (ev_cix (l := 0) rfl hm rfl rfl) (ev_var rfl nofun) (o_div div)) hm rfl (by simp)
  · have e1 : rollM x c n = drawnM x (c + 1) / 8 % n := if_neg hx
    have e2 : diceM x c n = [.int x, .int (c + 1)] := if_neg hx
    rw [e1, e2]
    refine sv_ifsF (m1 := m) (eb_cast (test _ rfl) (decide_eq_false hx)) ?_
    refine sv_seq (es1 := [.c j, .d (.int n), .no]) (m1 := m.set j [.int x, .int (c + 1)]) (sv_store (l := 1) (ds := [.int x, .int c]) rfl (ev_op (ev_cix (l := 1) rfl hm rfl rfl) ev_int o_addI) hm rfl (by simp)) ?_
    exact sv_ret0 (ev_op (ev_op (ev_pure (arg2 (ev_cix (l := 0) rfl (g1 _) rfl rfl) (ev_cix (l := 1) rfl (g1 _) rfl rfl)) (ds := [.int x, .int (c + 1)]) rfl ⟨x, c + 1, rfl, rfl⟩ rfl) ev_int (o_div (wide_div (j := 8) (by decide) (b := 4) (by decide) (by decide) (by decide)))) (ev_var rfl nofun) (o_mod hn))
theorem c_rounds (T : BltD mg) (TD : DefT K mg "_law_rounds" st__law_rounds ["_law_script", "_law_most"]) (D__law_cell : PureC P w K mg base 1 "_law_cell" ["_law_script", "_law_k"] R_cell) : DefC P w K mg base CX0 2 "_law_rounds" ["_law_script", "_law_most"] (spRounds K) := by
  obtain ⟨f, fd, F, hm, hB⟩ := TD.ex
  refine ⟨f, fd, F.ok S__law_rounds (fun vs H Q E h => by obtain ⟨_, a, ns, k, rfl, _⟩ := h; rfl) (fun cdv A outer s H vs Q E hr h => ?_), hm, F.kp, hB⟩
  obtain ⟨tb, a, ns, k, rfl, hS, hn, hk, q⟩ := h
  refine ⟨_, (pss_one (ps_ret (pe_lc (own := [("_law_k", 2)]) (by rfl) S__law_rounds.nd (pi_range1 (by rfl) T.b_range (pa_cons (pe_callB (call_max2 rfl) (by rfl) T.b_max (by decide +kernel) (pa_cons pe_int (pa_cons (pe_callB (call_min2 rfl) (by rfl) T.b_min (by decide +kernel) (pa_cons (pv 1) (pa_cons (pe_callB (kLen (K := K)) (by rfl) T.b_len (by decide +kernel) (pa_cons (pv 0) pa_nil)) pa_nil))) pa_nil))) pa_nil)) (blkOk_by (N := N__law_rounds) (sc := defScope st__law_rounds) (by decide +kernel)) (fun _ _ _ _ _ => pg_name (i := 2) S__law_rounds.nd rfl (by first | exact Or.inl rfl | exact Or.inr rfl)) (fun _ _ _ _ _ => pts_nil) (fun _ _ _ _ _ => (pe_lst (pa_cons (pe_def D__law_cell (hr.mono (by omega)) (by rfl) pass0 (pa_cons (pv 0) (pa_cons (pv 2) pa_nil))) (pa_cons pe_int pa_nil))))))), ?_⟩
  have hD : Dp K (nt H) (.ref a) (.list (ns.map .int)) := .lst (nt_l hS) (dp_ints ns)
  have e0 : EnvS K (nt H) [] (L2.start N__law_rounds [.ref a, .int k]) [.d (.list (ns.map .int)), .d (.int k), .no] := start_env (rs := [.d (.list (ns.map .int)), .d (.int k)]) (.cons hD (.cons (.int _) .nil))
  unfold tRet tLc iRng1
  refine runA (K := K) (es := [.d (.list (ns.map .int)), .d (.int k), .no]) (rs := [.d (.int (if (if ((ns.length : Nat) : Int) < (k : Int) then ((ns.length : Nat) : Int) else (k : Int)) > 1 then (if ((ns.length : Nat) : Int) < (k : Int) then ((ns.length : Nat) : Int) else (k : Int)) else 1))]) ?ev1 (nt_ex H) tb (nt_T tb) e0 fun vs H1 H01 s1 w1 kv => ?_
  case ev1 =>
    have hlen : EvE K _ [.d (.list (ns.map .int)), .d (.int k), .no] [] (.d (.int ((ns.length : Nat) : Int))) [] := ev_cast (ev_cb (arg1 (ev_var (i := 0) rfl nofun)) (c_len rfl)) (by rw [List.length_map])
    exact arg1 (ev_cb (arg2 ev_int (ev_cb (arg2 (ev_var rfl nofun) hlen) c_min2)) c_max2)
  generalize hj : (if (if ((ns.length : Nat) : Int) < (k : Int) then ((ns.length : Nat) : Int) else (k : Int)) > 1 then (if ((ns.length : Nat) : Int) < (k : Int) then ((ns.length : Nat) : Int) else (k : Int)) else 1) = j at kv
  have j1 : 1 ≤ j ∧ j ≤ 1000 := by
    rw [← hj]
    split <;> split <;> omega
  cases kv with
  | cons kx kt =>
    cases kt
    cases kx
    refine ⟨j, rfl, by omega, by omega, fun D hD1 => ?_⟩
    have eH : Evl.Ex (nt H) H1 := fun b o z => s1.keep b o (nt_some z).1 (by simp) (nt_some z).2
    have hD0 : H D = none := s1.dom D hD1
    refine lc_range (lo := 0) (n := j.toNat) (fun i H2 => ∃ (rs : List Addr) (xs : List Int), rs.length = i ∧ xs.length = i ∧ rs.Nodup ∧ D ∉ rs ∧ (∀ r, r ∈ rs → H r = none) ∧ (Evl.Ex (nt H) H2 ∧ LamX.Tabs Tbs.T H2 ∧ ∀ b, H2 b = none → H b = none) ∧ H2 D = some (.lst (rs.map V.ref)) ∧ ∀ (l : Nat) (r : Addr) (x : Int), rs[l]? = some r → xs[l]? = some x → H2 r = some (.lst [.int x, .int 0]))
      ⟨[], [], rfl, rfl, .nil, by simp, fun r h => absurd h (by simp), ⟨Evl.Ex.mut eH (nt_none hD0), tabs_mut w1.tab (.inl hD1), fun b z => s1.dom b (by
        by_cases hb : b = D
        · rw [hb]; exact hD1
        · rw [upd_ne hb] at z; exact z)⟩, upd_same, fun l r x z => by simp at z⟩ (fun i H2 hi hP => ?_) fun H2 hP => ?_
    · obtain ⟨rs, xs, l1, l2, nd, hDr, hfr, ⟨e2, t2, n2⟩, d2, x2⟩ := hP
      refine ⟨by rfl, ?_⟩
      unfold tYes
      dsimp only
      rw [if_pos rfl]
      have e3 : EnvS K (nt H) [] ((wipe (L2.start N__law_rounds [.ref a, .int k]) [2]).set 2 (some (.int (0 + (i : Int))))) [.d (.list (ns.map .int)), .d (.int k), .d (.int (0 + (i : Int)))] := (e0.wipe [2]).set (i := 2) (r := .d (.int (0 + (i : Int)))) (.int _)
      unfold tLst
      refine runA (K := K) (es := [.d (.list (ns.map .int)), .d (.int k), .d (.int (0 + (i : Int)))]) (rs := [.d (.int (cellM ns (0 + (i : Int)))), .d (.int 0)]) ?ev2 e2 t2 (nt_T tb) e3 fun vs H3 H03 s3 w3 kv => ?_
      case ev2 => exact arg2 (ev_pure (arg2 (ev_var rfl nofun) (ev_var rfl nofun)) (ds := [.list (ns.map .int), .int (0 + (i : Int))]) rfl ⟨ns, _, rfl, hn, by omega, rfl⟩ rfl) ev_int
      cases kv with
      | cons k1 kt =>
        cases kt with
        | cons k2 kt =>
          cases kt
          cases k1
          cases k2
          have e23 : ∀ b o, H2 b = some o → (∀ ps, o ≠ .tbl ps) → H3 b = some o := fun b o z nt => s3.keep b o z (by simp) nt
          refine ⟨by show 2 ≤ sizeLine; decide, fun p hp => ?_⟩
          have hp2 : H2 p = none := s3.dom p hp
          have hpD : p ≠ D := fun z => by rw [z, d2] at hp2; cases hp2
          have hpr : p ∉ rs := fun z => by
            obtain ⟨l, hl, el⟩ := List.getElem_of_mem z
            have := x2 l p (xs[l]'(by omega)) (by rw [List.getElem?_eq_getElem hl, el]) (List.getElem?_eq_getElem (by omega))
            rw [hp2] at this
            cases this
          have hpH : H p = none := n2 p hp2
          refine ⟨rs.map V.ref, by rw [upd_ne (Ne.symm hpD)]; exact e23 _ _ d2 (fun ps z => nomatch z), small1000 (by rw [List.length_map]; omega), rs ++ [p], xs ++ [cellM ns (0 + (i : Int))], by rw [List.length_append, l1]; rfl, by rw [List.length_append, l2]; rfl, ?_, ?_, ?_, ?_, ?_, ?_⟩
          · exact List.nodup_append.mpr ⟨nd, by simp, fun a ha b hb => by
              rcases List.mem_singleton.mp hb with rfl
              rintro rfl
              exact hpr ha⟩
          · intro z
            rcases List.mem_append.mp z with z | z
            · exact hDr z
            · exact hpD (List.mem_singleton.mp z).symm
          · intro r z
            rcases List.mem_append.mp z with z | z
            · exact hfr r z
            · rw [List.mem_singleton.mp z]; exact hpH
          · exact ⟨Evl.Ex.mut (Evl.Ex.mut (fun b o z => e23 b o (e2 b o z) (nt_some z).2) (nt_none hpH)) (nt_none hD0), tabs_mut (tabs_mut w3.tab (.inl hp)) (.inr ⟨_, by rw [upd_ne (Ne.symm hpD)]; exact e23 _ _ d2 (fun ps z => nomatch z)⟩), fun b z => by
              by_cases hb : b = D
              · rw [hb]; exact hD0
              by_cases hc : b = p
              · rw [hc]; exact hpH
              rw [upd_ne hb, upd_ne hc] at z
              exact n2 b (s3.dom b z)⟩
          · rw [upd_same, List.map_append]
            rfl
          · intro l r x z1 z2
            by_cases hl : l < rs.length
            · rw [List.getElem?_append_left hl] at z1
              rw [List.getElem?_append_left (by omega)] at z2
              have hr := List.mem_of_getElem? z1
              rw [upd_ne (fun e : r = D => hDr (e ▸ hr)), upd_ne (fun e : r = p => hpr (e ▸ hr))]
              exact e23 _ _ (x2 l r x z1 z2) (fun ps z => nomatch z)
            · rw [List.getElem?_append_right (by omega)] at z1 z2
              have e0 : l - rs.length = 0 := by
                cases hk : l - rs.length with
                | zero => rfl
                | succ k => rw [hk] at z1; simp at z1
              have e1 : l - xs.length = 0 := by omega
              rw [e0] at z1
              rw [e1] at z2
              cases z1
              cases z2
              rw [upd_ne hpD, upd_same]
    · obtain ⟨rs, xs, l1, l2, nd, hDr, hfr, ⟨e2, t2, n2⟩, d2, x2⟩ := hP
      exact q D rs xs H2 e2 t2 hD0 d2 (by omega) nd hDr hfr x2
end
end K30

set_option Elab.async false
set_option linter.all false
set_option maxRecDepth 100000
set_option maxHeartbeats 4000000
namespace K30
variable [DL.Tbs]
open PySem PySem.Spec PyProof.Rows L2 DL HX L2H
section
variable {P : Program} {w : World} {K : PySem.W.Frag} {mg : Str → Option Value} {base : Heap}
def R_term (K : PySem.W.Frag) (c : Cs) (D : Addr) (y : PyData) : Prop := ∃ k, k < 15 ∧ ErrD K c k D ∧ y = .tuple [.str "error", .str (kinds.getD k "")]
/-- the flags of the class at place k -/
abbrev fl (k i : Nat) : PyData := .bool (i == k)
theorem flags_cat (k : Nat) : ((([fl k 0, fl k 1, fl k 2] ++ [fl k 3, fl k 4, fl k 5]) ++ [fl k 6, fl k 7, fl k 8]) ++ [fl k 9, fl k 10, fl k 11]) ++ [fl k 12, fl k 13, fl k 14] = ((List.range 15).map fun i => (i == k)).map PyData.bool := rfl
theorem flags_sum : ∀ k, k < 15 → preSum (fun i => HX.b2i (((List.range 15).map fun i => (i == k)).getD i false)) ((List.range 15).map fun i => (i == k)).length = 1 := by decide
theorem flags_at : ∀ k, k < 15 → ((List.range 15).map fun i => (i == k))[k]? = some true := by decide
theorem flags_ahead : ∀ k, k < 15 → ∀ l, l < k → ((List.range 15).map fun i => (i == k))[l]? = some false := by decide
theorem kinds_at (k : Nat) (h : k < 15) : (kinds.map PyData.str)[k]? = some (.str (kinds.getD k "")) := by
  rw [List.getElem?_map, List.getD_eq_getElem?_getD, List.getElem?_eq_getElem (show k < kinds.length from h)]
  rfl
theorem c_term (bI : mg "isinstance" = none) (bS : mg "sum" = none) (bN : mg "int" = none) (TD : DefT K mg "_law_term" st__law_term ["_law_e"]) (bV : mg "ValueError" = none) {c : Cs} (hC : CsOk mg c) :
    ∃ f fd, mg "_law_term" = some (.ref f) ∧ PySem.W.keepIn K (.ref f) = true ∧ L2.Binds K fd ["_law_e"] [] ∧ FnP P w K mg base C8.CX0 1 f fd ["_law_e"] (spTerm K (R_term K c)) := by
  obtain ⟨f, fd, F, hm, hB⟩ := TD.ex
  refine ⟨f, fd, hm, F.kp, hB, ?_⟩
  obtain ⟨oc, od, kV, doc, pm, an, cdv, ct, osl, rfl, lk, hcd⟩ := F.ex
  refine fnP lk hcd S__law_term (fun p vs H Q E h => by rw [h.1]; rfl) ?_
  rintro A outer s H vs Q E p hot hp hr ⟨rfl, D, y, H0, ρ, m, ⟨k, hk, eD, rfl⟩, hz, hf, w0, q⟩
  have hc : HotC (cxH C8.CX0 P w K mg base N__law_term "_law_term" (defScope st__law_term) f cdv A outer s H E p) := ⟨p, hot, List.mem_singleton_self _⟩
  have hu : (cxH C8.CX0 P w K mg base N__law_term "_law_term" (defScope st__law_term) f cdv A outer s H E p).A.units + 64 < cLine := by
    have := hr.un
    show (A.deeper _).units + 64 < cLine
    omega
  have isK : CallR (cxH C8.CX0 P w K mg base N__law_term "_law_term" (defScope st__law_term) f cdv A outer s H E p) (.builtin "isinstance") (rIsE K D p.1) := isX (X := cxH C8.CX0 P w K mg base N__law_term "_law_term" (defScope st__law_term) f cdv A outer s H E p) (oe := p.2) eD.exc (List.mem_singleton_self _) hz.zc hf
  refine ⟨_, (pss_cons (ps_set (i := 1) S__law_term.nd rfl (Or.inl rfl) (pe_lst (pa_cons (pe_callB isK (by rfl) bI (by decide +kernel) (pa_cons (pv 0) (pa_cons (pe_glob (v := .ref c.InvalidNumber) (by rfl) hC.InvalidNumber rfl) pa_nil))) (pa_cons (pe_callB isK (by rfl) bI (by decide +kernel) (pa_cons (pv 0) (pa_cons (pe_glob (v := .ref c.InvalidPoint) (by rfl) hC.InvalidPoint rfl) pa_nil))) (pa_cons (pe_callB isK (by rfl) bI (by decide +kernel) (pa_cons (pv 0) (pa_cons (pe_glob (v := .ref c.InvalidShape) (by rfl) hC.InvalidShape rfl) pa_nil))) pa_nil)))))
      (pss_cons (ps_set (i := 1) S__law_term.nd rfl (Or.inl rfl) (pe_op (kAdd (K := K)) (pv 1) (pe_lst (pa_cons (pe_callB isK (by rfl) bI (by decide +kernel) (pa_cons (pv 0) (pa_cons (pe_glob (v := .ref c.InvalidLayer) (by rfl) hC.InvalidLayer rfl) pa_nil))) (pa_cons (pe_callB isK (by rfl) bI (by decide +kernel) (pa_cons (pv 0) (pa_cons (pe_glob (v := .ref c.InvalidDrawing) (by rfl) hC.InvalidDrawing rfl) pa_nil))) (pa_cons (pe_callB isK (by rfl) bI (by decide +kernel) (pa_cons (pv 0) (pa_cons (pe_glob (v := .ref c.InvalidRegion) (by rfl) hC.InvalidRegion rfl) pa_nil))) pa_nil))))))
      (pss_cons (ps_set (i := 1) S__law_term.nd rfl (Or.inl rfl) (pe_op (kAdd (K := K)) (pv 1) (pe_lst (pa_cons (pe_callB isK (by rfl) bI (by decide +kernel) (pa_cons (pv 0) (pa_cons (pe_glob (v := .ref c.InvalidPlan) (by rfl) hC.InvalidPlan rfl) pa_nil))) (pa_cons (pe_callB isK (by rfl) bI (by decide +kernel) (pa_cons (pv 0) (pa_cons (pe_glob (v := .ref c.InvalidIndex) (by rfl) hC.InvalidIndex rfl) pa_nil))) (pa_cons (pe_callB isK (by rfl) bI (by decide +kernel) (pa_cons (pv 0) (pa_cons (pe_glob (v := .ref c.InvalidBox) (by rfl) hC.InvalidBox rfl) pa_nil))) pa_nil))))))
      (pss_cons (ps_set (i := 1) S__law_term.nd rfl (Or.inl rfl) (pe_op (kAdd (K := K)) (pv 1) (pe_lst (pa_cons (pe_callB isK (by rfl) bI (by decide +kernel) (pa_cons (pv 0) (pa_cons (pe_glob (v := .ref c.InvalidMove) (by rfl) hC.InvalidMove rfl) pa_nil))) (pa_cons (pe_callB isK (by rfl) bI (by decide +kernel) (pa_cons (pv 0) (pa_cons (pe_glob (v := .ref c.InvalidText) (by rfl) hC.InvalidText rfl) pa_nil))) (pa_cons (pe_callB isK (by rfl) bI (by decide +kernel) (pa_cons (pv 0) (pa_cons (pe_glob (v := .ref c.OnEdge) (by rfl) hC.OnEdge rfl) pa_nil))) pa_nil))))))
      (pss_cons (ps_set (i := 1) S__law_term.nd rfl (Or.inl rfl) (pe_op (kAdd (K := K)) (pv 1) (pe_lst (pa_cons (pe_callB isK (by rfl) bI (by decide +kernel) (pa_cons (pv 0) (pa_cons (pe_glob (v := .ref c.Blank) (by rfl) hC.Blank rfl) pa_nil))) (pa_cons (pe_callB isK (by rfl) bI (by decide +kernel) (pa_cons (pv 0) (pa_cons (pe_glob (v := .ref c.TooMany) (by rfl) hC.TooMany rfl) pa_nil))) (pa_cons (pe_callB isK (by rfl) bI (by decide +kernel) (pa_cons (pv 0) (pa_cons (pe_glob (v := .ref c.NothingToUndo) (by rfl) hC.NothingToUndo rfl) pa_nil))) pa_nil))))))
      (pss_cons (ps_set (i := 2) S__law_term.nd rfl (Or.inl rfl) (pe_lst (pa_cons pe_str (pa_cons pe_str (pa_cons pe_str (pa_cons pe_str (pa_cons pe_str (pa_cons pe_str pa_nil))))))))
      (pss_cons (ps_set (i := 2) S__law_term.nd rfl (Or.inl rfl) (pe_op (kAdd (K := K)) (pv 2) (pe_lst (pa_cons pe_str (pa_cons pe_str (pa_cons pe_str (pa_cons pe_str (pa_cons pe_str (pa_cons pe_str pa_nil)))))))))
      (pss_cons (ps_set (i := 2) S__law_term.nd rfl (Or.inl rfl) (pe_op (kAdd (K := K)) (pv 2) (pe_lst (pa_cons pe_str (pa_cons pe_str (pa_cons pe_str pa_nil))))))
      (pss_cons (ps_if (PW.pt (pw_or (pt_cmpR (kNe (K := K) hu) (pe_sumints (i := 1) hc (by rfl) (by rfl) (by decide +kernel) (by rfl) bS bN) pe_int (nomark _)) (pw_or1 (pt_not (pt_val (pe_callB isK (by rfl) bI (by decide +kernel) (pa_cons (pv 0) (pa_cons (pe_bltn (v := .ty "ValueError") (u := .type "ValueError") (by rfl) bV (by decide +kernel) rfl) pa_nil)))))))) (pss_one (ps_ret (pe_tup (pa_cons pe_str (pa_cons pe_str pa_nil))))) pss_nil)
      (pss_one (ps_ret (pe_tup (pa_cons pe_str (pa_cons (pe_ix (kIx (K := K)) (pv 2) (kBm (K := K) PySem.F.plainAttrs_list PySem.F.slot_list_index PySem.F.type_list_index mt_index (pv 1) (pa_cons pe_bl pa_nil)) (fun _ _ => rfl)) pa_nil)))))))))))))), ?_⟩
  have isE : ∀ (i : Nat) {C : Addr} (es : List Sl) (m : M), c.all[i]? = some C → es[0]? = some (.v (.ref p.1)) → EvE K (tCB (rIsE K D p.1) (tCons (tVar 0) (tCons (tC (.ref C)) tNil))) es m (.d (fl k i)) m := fun i C es m h h0 =>
    ev_isE (arg2 (ev_var h0 nofun) ev_cls) (fun u h => h) (eD.test i h)
  refine (?_ : Sv K ρ.length _ [.v (.ref p.1), .no, .no, .no] m (.ret (.d (.tuple [.str "error", .str (kinds.getD k "")])) m)) (L2.start N__law_term [.ref p.1]) H H0 ρ (Nat.le_refl _) w0 (start_env (rs := [.v (.ref p.1)]) (.cons rfl .nil)) _ fun v ρ' H' H0' ml s' w2 k2 => ?_
  · refine sv_seq (sv_cell (el_lst (ds := [fl k 0, fl k 1, fl k 2]) (ea_cons (isE 0 _ _ rfl rfl) (ea_cons (isE 1 _ _ rfl rfl) (ea_cons (isE 2 _ _ rfl rfl) ea_nil))) rfl (by simp))) ?_
    refine sv_seq (sv_cell (el_cat rfl (el_lst (ds := [fl k 3, fl k 4, fl k 5]) (ea_cons (isE 3 _ _ rfl rfl) (ea_cons (isE 4 _ _ rfl rfl) (ea_cons (isE 5 _ _ rfl rfl) ea_nil))) rfl (by simp)) last_get (by simp))) ?_
    refine sv_seq (sv_cell (el_cat rfl (el_lst (ds := [fl k 6, fl k 7, fl k 8]) (ea_cons (isE 6 _ _ rfl rfl) (ea_cons (isE 7 _ _ rfl rfl) (ea_cons (isE 8 _ _ rfl rfl) ea_nil))) rfl (by simp)) last_get (by simp))) ?_
    refine sv_seq (sv_cell (el_cat rfl (el_lst (ds := [fl k 9, fl k 10, fl k 11]) (ea_cons (isE 9 _ _ rfl rfl) (ea_cons (isE 10 _ _ rfl rfl) (ea_cons (isE 11 _ _ rfl rfl) ea_nil))) rfl (by simp)) last_get (by simp))) ?_
    refine sv_seq (sv_cell (el_cat rfl (el_lst (ds := [fl k 12, fl k 13, fl k 14]) (ea_cons (isE 12 _ _ rfl rfl) (ea_cons (isE 13 _ _ rfl rfl) (ea_cons (isE 14 _ _ rfl rfl) ea_nil))) rfl (by simp)) last_get (by simp))) ?_
    refine sv_seq (sv_cell (el_lst (ds := [.str "InvalidNumber", .str "InvalidPoint", .str "InvalidShape", .str "InvalidLayer", .str "InvalidDrawing", .str "InvalidRegion"]) (ea_cons ev_str (ea_cons ev_str (ea_cons ev_str (ea_cons ev_str (ea_cons ev_str (ea_cons ev_str (ea_nil))))))) rfl (by simp))) ?_
    refine sv_seq (sv_cell (el_cat rfl (el_lst (ds := [.str "InvalidPlan", .str "InvalidIndex", .str "InvalidBox", .str "InvalidMove", .str "InvalidText", .str "OnEdge"]) (ea_cons ev_str (ea_cons ev_str (ea_cons ev_str (ea_cons ev_str (ea_cons ev_str (ea_cons ev_str (ea_nil))))))) rfl (by simp)) last_get (by simp))) ?_
    refine sv_seq (sv_cell (el_cat rfl (el_lst (ds := [.str "Blank", .str "TooMany", .str "NothingToUndo"]) (ea_cons ev_str (ea_cons ev_str (ea_cons ev_str (ea_nil)))) rfl (by simp)) last_get (by simp))) ?_
    refine sv_ifsF (m1 := _) (eb_orF (eb_cast (eb_test (ev_op (ev_sumC (bs := (List.range 15).map fun i => (i == k)) rfl (up_get (up_get (up_get last_get))) (flags_sum k hk)) ev_int o_neI)) rfl) (eb_notT (eb_val (ev_isE (arg2 (ev_var rfl nofun) ev_ty) (fun u h => h) eD.value)))) ?_
    refine sv_retA (ev_tup (ds := [.str "error", .str (kinds.getD k "")]) (ea_cons ev_str (ea_cons (ev_cixE rfl (ev_indexC (bs := (List.range 15).map fun i => (i == k)) rfl (up_get (up_get (up_get last_get))) (flags_at k hk) (flags_ahead k hk)) (ds := kinds.map PyData.str) last_get rfl (kinds_at k hk)) ea_nil)) rfl (by simp)) ?_
    repeat first | exact List.prefix_rfl | refine List.IsPrefix.trans ?_ (List.prefix_append _ _)
  · obtain ⟨s3, w3⟩ := retBack w0 s' w2
    exact q v H' H0' s3 w3 k2
end
end K30

set_option Elab.async false
set_option linter.all false
set_option maxRecDepth 100000
set_option maxHeartbeats 4000000
namespace K30
variable [DL.Tbs]
open PySem PySem.Spec PyProof.Rows L2 DL HX
section
variable {P : Program} {w : World} {K : PySem.W.Frag} {mg : Str → Option Value} {base : Heap}
/-! ### what is drawn -/
def pairD (far : Int) (d : PyData) : Prop := ∃ a b, d = .tuple [.int a, .int b] ∧ -far ≤ a ∧ a ≤ far ∧ -far ≤ b ∧ b ≤ far
def loopD (far : Int) (v : PyData) : Prop := ∃ ps, v = .tuple ps ∧ 3 ≤ ps.length ∧ ps.length ≤ 5 ∧ ∀ p, p ∈ ps → pairD far p
def PreDF : List Sl → M → Prop := fun rs m => ∃ j far, rs = [.c j, .d (.int far)] ∧ DieAt m j ∧ 0 ≤ far ∧ far ≤ 1000
def PostDF (G : Int → PyData → Prop) : List Sl → M → Sl → M → Prop := fun rs m r m' => ∀ j far, rs = [.c j, .d (.int far)] → ∃ v, r = .d v ∧ G far v ∧ Rolled m j m'
theorem c_loop {k : Nat} (b_range : mg "range" = none) (b_tuple : mg "tuple" = none) (TD : DefT K mg "_law_loop" st__law_loop ["_law_dice", "_law_far"]) (D__law_roll : DefC P w K mg base CX0 k "_law_roll" ["_law_dice", "_law_many"] (spD K 2 rollG)) :
    DefE P w K mg base (k + 1) "_law_loop" ["_law_dice", "_law_far"] PreDF (PostDF loopD) := by
  refine mkDefE TD S__law_loop ⟨_, fun f cdv A outer s H E hr => (pss_cons (ps_set (i := 2) S__law_loop.nd rfl (Or.inl rfl) (pe_lst pa_nil))
      (pss_cons (ps_for PassesOwn.never rfl (pi_range1 (by rfl) b_range (pa_cons (pe_op (kAdd (K := K)) pe_int (pe_def D__law_roll (hr.mono (by omega)) (by rfl) pass0 (pa_cons (pv 0) (pa_cons pe_int pa_nil)))) pa_nil)) (pg_name (i := 3) S__law_loop.nd rfl (Or.inl rfl)) (pss_one (ps_expr (kBm (K := K) PySem.F.plainAttrs_list PySem.F.slot_list_append PySem.F.type_list_append mt_append (pv 2) (pa_cons (pe_tup (pa_cons (pe_op op_sub (pe_def D__law_roll (hr.mono (by omega)) (by rfl) pass0 (pa_cons (pv 0) (pa_cons (pe_op (kAdd (K := K)) (pe_op (kMul (K := K)) pe_int (pv 1)) pe_int) pa_nil))) (pv 1)) (pa_cons (pe_op op_sub (pe_def D__law_roll (hr.mono (by omega)) (by rfl) pass0 (pa_cons (pv 0) (pa_cons (pe_op (kAdd (K := K)) (pe_op (kMul (K := K)) pe_int (pv 1)) pe_int) pa_nil))) (pv 1)) pa_nil))) pa_nil)))))
      (pss_one (ps_ret (pe_callTy (kTup (K := K)) (by rfl) b_tuple (by decide +kernel) (pa_cons (pv 2) pa_nil)))))), ?_⟩
  rintro rs m ⟨j, far, rfl, hd, f0, f1⟩
  have hj := hd.lt
  have hd0 : DieAt (m ++ [[]]) j := by
    obtain ⟨x, c, e⟩ := hd
    exact ⟨x, c, up_get e⟩
  obtain ⟨v, m1, ev1, v0, v1, r1⟩ := ex_roll (K := K) (E := E0) (es := [.c j, .d (.int far), .c m.length, .no]) (i := 0) (te := tC (.int 3)) rfl ev_int hd0 (by omega) (by omega)
  have hi := ei_rng1 (K := K) (arg1 (ev_op (ev_int (i := 3)) ev1 o_addI)) (by omega) (by omega)
  have hm1 : ∃ m0, Rolled m j m0 ∧ m1 = m0 ++ [[]] := by
    obtain ⟨x, c, rfl⟩ := r1
    exact ⟨_, ⟨x, c, rfl⟩, by rw [List.set_append_left _ _ hj]⟩
  obtain ⟨m0, rm0, rfl⟩ := hm1
  refine exR_seq (sv_cell el_new) (exR_for (i := 3) (fun l es mm => ∃ s3 m0 ps, es = [.c j, .d (.int far), .c m.length, s3] ∧ Rolled m j m0 ∧ mm = m0 ++ [ps] ∧ ps.length = l ∧ ∀ p, p ∈ ps → pairD far p) hi ⟨_, m0, [], rfl, rm0, rfl, rfl, by simp⟩ ?_ ?_)
  · rintro l d es mm hd2 ⟨s3, m2, ps, rfl, rm, rfl, hl, hp⟩
    have hl5 : ps.length < 1000 := by
      have := (List.getElem?_eq_some_iff.mp hd2).1
      rw [rangeD_len] at this
      omega
    have dieA : ∀ {m2 : M} {ps : List PyData}, Rolled m j m2 → DieAt (m2 ++ [ps]) j := fun {m2 ps} rm => by
      obtain ⟨x, c, e⟩ := rm.die hj
      exact ⟨x, c, up_get e⟩
    have two : ∀ mm, EvE K (tOp (rAddU K) (tOp (rMulU K) (tC (.int 2)) (tVar 1)) (tC (.int 1))) [.c j, .d (.int far), .c m.length, .d d] mm (.d (.int (2 * far + 1))) mm := fun mm => ev_op (ev_op ev_int (ev_var rfl nofun) (o_mulII (mul_ok (by omega) (by omega)))) ev_int o_addI
    have split : ∀ {m2 m3 : M} {ps : List PyData}, Rolled m j m2 → Rolled (m2 ++ [ps]) j m3 → ∃ m4, Rolled m j m4 ∧ m3 = m4 ++ [ps] := fun {m2 m3 ps} a b => by
      obtain ⟨x, c, rfl⟩ := b
      exact ⟨m2.set j [.int x, .int c], a.trans ⟨x, c, rfl⟩, by rw [List.set_append_left _ _ (by rw [a.len]; exact hj)]⟩
    obtain ⟨a, ma, eva, a0, a1, ra⟩ := ex_roll (K := K) (E := E0) (i := 0) rfl (two _) (dieA rm) (by omega) (by omega)
    obtain ⟨m3, r3, rfl⟩ := split rm ra
    obtain ⟨b, mb, evb, b0, b1, rb⟩ := ex_roll (K := K) (E := E0) (i := 0) rfl (two _) (dieA r3) (by omega) (by omega)
    obtain ⟨m4, r4, rfl⟩ := split r3 rb
    have l4 : m4.length = m.length := r4.len
    have l2 : m2.length = m.length := rm.len
    refine ⟨_, _, .inl (sv_append (j := m.length) (ds := ps) rfl (ev_tup (ea_cons (ev_op eva (ev_var rfl nofun) o_i0) (ea_cons (ev_op evb (ev_var rfl nofun) o_i0) ea_nil)) (ds := [.int (a - far), .int (b - far)]) rfl (by simp)) (by rw [← l4]; exact last_get) ⟨ps, by rw [← l2]; exact last_get⟩ hl5), .d d, m4, ps ++ [.tuple [.int (a - far), .int (b - far)]], rfl, r4, by rw [← l4]; exact last_set, by rw [List.length_append, hl]; rfl, fun p h => ?_⟩
    rcases List.mem_append.mp h with h | h
    · exact hp p h
    · rw [List.mem_singleton.mp h]
      exact ⟨_, _, rfl, by omega, by omega, by omega, by omega⟩
  · rintro es mm ⟨s3, m2, ps, rfl, rm, rfl, hl, hp⟩
    rw [rangeD_len] at hl
    refine ⟨.d (.tuple ps), m2, sv_ret (ml := [ps]) (ev_tupC (j := m.length) rfl (by rw [← rm.len]; exact last_get)), rm.len, rfl, fun j' far' e => ?_⟩
    cases e
    exact ⟨_, rfl, ⟨ps, rfl, by omega, by omega, hp⟩, rm⟩
/-- a call of such a def -/
theorem ex_callE {Pre : List Sl → M → Prop} {Post : List Sl → M → Sl → M → Prop} {g : List Sl → M → Sl → M → Prop} {n : Nat} {ta : TA} {es rs : List Sl} {m m1 : M} {E : XK} (hg : ∀ rs m, Pre rs m → ∃ r m', g rs m r m' ∧ Post rs m r m') (h : EvA K ta es m rs m1) (hp : Pre rs m1) (hn : rs.length = n) :
    ∃ r m', EvE K (tCall (spD K n g) [] E ta) es m r m' ∧ Post rs m1 r m' := by
  obtain ⟨r, m', h1, h2⟩ := hg rs m1 hp
  exact ⟨r, m', ev_call h h1 hn, h2⟩
def ruleD (v : PyData) : Prop := v = .str "odd" ∨ v = .str "turns"
def shapeD (far : Int) (v : PyData) : Prop := ∃ r ls, v = .tuple [r, .tuple ls] ∧ ruleD r ∧ 1 ≤ ls.length ∧ ls.length ≤ 2 ∧ ∀ l, l ∈ ls → loopD far l
theorem c_shape {k : Nat} (b_range : mg "range" = none) (b_tuple : mg "tuple" = none) (TD : DefT K mg "_law_shape" st__law_shape ["_law_dice", "_law_far"]) (D__law_roll : DefC P w K mg base CX0 k "_law_roll" ["_law_dice", "_law_many"] (spD K 2 rollG))
    (DE : DefE P w K mg base k "_law_loop" ["_law_dice", "_law_far"] PreDF (PostDF loopD)) : DefE P w K mg base (k + 1) "_law_shape" ["_law_dice", "_law_far"] PreDF (PostDF shapeD) := by
  obtain ⟨gl, hgl, D__law_loop⟩ := DE
  refine mkDefE TD S__law_shape ⟨_, fun f cdv A outer s H E hr => (pss_cons (ps_set (i := 2) S__law_shape.nd rfl (Or.inl rfl) (pe_callTy (kTup (K := K)) (by rfl) b_tuple (by decide +kernel) (pa_cons (pe_lc (own := [("_law_turn", 3)]) (by rfl) S__law_shape.nd (pi_range1 (by rfl) b_range (pa_cons (pe_op (kAdd (K := K)) pe_int (pe_op op_fdivW (pe_def D__law_roll (hr.mono (by omega)) (by rfl) pass0 (pa_cons (pv 0) (pa_cons pe_int pa_nil))) pe_int)) pa_nil)) (blkOk_by (N := N__law_shape) (sc := defScope st__law_shape) (by decide +kernel)) (fun _ _ _ _ _ => pg_name (i := 3) S__law_shape.nd rfl (by first | exact Or.inl rfl | exact Or.inr rfl)) (fun _ _ _ _ _ => pts_nil) (fun _ _ _ _ _ => (pe_def D__law_loop (hr.mono (by omega)) (by rfl) pass0 (pa_cons (pv 0) (pa_cons (pv 1) pa_nil))))) pa_nil)))
      (pss_one (ps_ret (pe_tup (pa_cons (pe_ix (kIx (K := K)) (pe_lst (pa_cons pe_str (pa_cons pe_str pa_nil))) (pe_def D__law_roll (hr.mono (by omega)) (by rfl) pass0 (pa_cons (pv 0) (pa_cons pe_int pa_nil))) (fun _ _ => rfl)) (pa_cons (pv 2) pa_nil)))))), ?_⟩
  rintro rs m ⟨j, far, rfl, hd, f0, f1⟩
  have hj := hd.lt
  obtain ⟨v, m1, ev1, v0, v1, r1⟩ := ex_roll (K := K) (E := E0) (es := [.c j, .d (.int far), .no, .no]) (i := 0) (te := tC (.int 4)) rfl ev_int hd (by omega) (by omega)
  have hi := ei_rng1 (K := K) (arg1 (ev_op (ev_int (i := 1)) (ev_op ev1 (ev_int (i := 3)) (o_div (wide_div (j := 3) (by decide) (b := 3) (by omega) (by decide) (by decide)))) o_addI)) (by omega) (by omega)
  obtain ⟨ls, m2, hL, nL, gL, jL⟩ := exLc (K := K) (i := 3) (vs := [3]) (esw := wipeS [.c j, .d (.int far), .no, .no] [3]) (te := tCall (spD K 2 gl) [] E0 (tCons (tVar 0) (tCons (tVar 1) tNil))) (J := Rolled m j) (G := loopD far) (by simp) (rangeD 0 (1 + v / 3).toNat) m1 r1 (by
    intro d mm hd2 rm
    obtain ⟨r, m', e1, hp⟩ := ex_callE (K := K) (E := E0) (n := 2) hgl (ta := tCons (tVar 0) (tCons (tVar 1) tNil)) (es := [.c j, .d (.int far), .no, .d d]) (m := mm) (arg2 (ev_var rfl nofun) (ev_var rfl nofun)) ⟨j, far, rfl, rm.die hj, f0, f1⟩ rfl
    obtain ⟨x, rfl, gx, rx⟩ := hp j far rfl
    exact ⟨x, m', e1, gx, rm.trans rx⟩)
  rw [rangeD_len] at nL
  obtain ⟨u, m3, ev3, u0, u1, r3⟩ := ex_roll (K := K) (E := E0) (es := [.c j, .d (.int far), .d (.tuple ls), .no]) (i := 0) (te := tC (.int 2)) rfl ev_int (jL.die hj) (by omega) (by omega)
  refine exR_seq (sv_set (ev_cb (arg1 (el_d (el_lc hi hL (by rw [rangeD_len]; omega)))) c_tupL)) ?_
  have hr : ∃ r, [PyData.str "odd", .str "turns"][u.toNat]? = some r ∧ ruleD r := by
    have : u = 0 ∨ u = 1 := by omega
    rcases this with rfl | rfl
    · exact ⟨_, rfl, .inl rfl⟩
    · exact ⟨_, rfl, .inr rfl⟩
  obtain ⟨r, hr1, hr2⟩ := hr
  refine ⟨.d (.tuple [r, .tuple ls]), m3, sv_ret0 (ev_tup (ea_cons (ev_op (ev_lst (ea_cons ev_str (ea_cons ev_str ea_nil)) (ds := [.str "odd", .str "turns"]) rfl (by decide)) ev3 (o_ixL (by omega) hr1)) (ea_cons (ev_var rfl nofun) ea_nil)) rfl (by simp)), (jL.trans r3).len, rfl, fun j' far' e => ?_⟩
  cases e
  exact ⟨_, rfl, ⟨r, ls, rfl, hr2, by omega, by omega, gL⟩, jL.trans r3⟩
def PreD : List Sl → M → Prop := fun rs m => ∃ j, rs = [.c j] ∧ DieAt m j
def PostD (G : PyData → Prop) : List Sl → M → Sl → M → Prop := fun rs m r m' => ∀ j, rs = [.c j] → ∃ v, r = .d v ∧ G v ∧ Rolled m j m'
def opacityD (v : PyData) : Prop := ∃ a b, v = .tuple [.int a, .int b] ∧ 1 ≤ a ∧ a ≤ b ∧ b ≤ 4
theorem c_opacity {k : Nat} (TD : DefT K mg "_law_opacity" st__law_opacity ["_law_dice"]) (D__law_roll : DefC P w K mg base CX0 k "_law_roll" ["_law_dice", "_law_many"] (spD K 2 rollG)) :
    DefE P w K mg base (k + 1) "_law_opacity" ["_law_dice"] PreD (PostD opacityD) := by
  refine mkDefE TD S__law_opacity ⟨_, fun f cdv A outer s H E hr => have hu := hr.units; (pss_cons (ps_set (i := 1) S__law_opacity.nd rfl (Or.inl rfl) (pe_op (kAdd (K := K)) pe_int (pe_def D__law_roll (hr.mono (by omega)) (by rfl) pass0 (pa_cons (pv 0) (pa_cons pe_int pa_nil)))))
      (pss_one (ps_ret (pe_ifExp (pt_cmpR (kEq (K := K) hu) (pe_def D__law_roll (hr.mono (by omega)) (by rfl) pass0 (pa_cons (pv 0) (pa_cons pe_int pa_nil))) pe_int (nomark _)) (pe_tup (pa_cons pe_int (pa_cons pe_int pa_nil))) (pe_tup (pa_cons (pe_op (kAdd (K := K)) pe_int (pe_def D__law_roll (hr.mono (by omega)) (by rfl) pass0 (pa_cons (pv 0) (pa_cons (pv 1) pa_nil)))) (pa_cons (pv 1) pa_nil))))))), ?_⟩
  rintro rs m ⟨j, rfl, hd⟩
  have hj := hd.lt
  obtain ⟨v, m1, ev1, v0, v1, r1⟩ := ex_roll (K := K) (E := E0) (es := [.c j, .no]) (i := 0) (te := tC (.int 4)) rfl ev_int hd (by omega) (by omega)
  obtain ⟨u, m2, ev2, u0, u1, r2⟩ := ex_roll (K := K) (E := E0) (es := [.c j, .d (.int (1 + v))]) (i := 0) (te := tC (.int 2)) rfl ev_int (r1.die hj) (by omega) (by omega)
  refine exR_seq (sv_set (ev_op ev_int ev1 o_addI)) ?_
  by_cases h : u = 0
  · refine ⟨.d (.tuple [.int 1, .int 1]), m2, sv_ret0 (ev_ifT (eb_cast (eb_test (ev_op ev2 ev_int o_eqI)) (by simp [h])) (ev_tup (ea_cons ev_int (ea_cons ev_int ea_nil)) rfl (by simp))), (r1.trans r2).len, rfl, fun j' e => ?_⟩
    cases e
    exact ⟨_, rfl, ⟨1, 1, rfl, by omega, by omega, by omega⟩, r1.trans r2⟩
  · obtain ⟨t, m3, ev3, t0, t1, r3⟩ := ex_roll (K := K) (E := E0) (es := [.c j, .d (.int (1 + v))]) (i := 0) (te := tVar 1) rfl (ev_var rfl nofun) ((r1.trans r2).die hj) (by omega) (by omega)
    refine ⟨.d (.tuple [.int (1 + t), .int (1 + v)]), m3, sv_ret0 (ev_ifF (eb_cast (eb_test (ev_op ev2 ev_int o_eqI)) (by simp [h])) (ev_tup (ea_cons (ev_op ev_int ev3 o_addI) (ea_cons (ev_var rfl nofun) ea_nil)) rfl (by simp))), ((r1.trans r2).trans r3).len, rfl, fun j' e => ?_⟩
    cases e
    exact ⟨_, rfl, ⟨1 + t, 1 + v, rfl, by omega, by omega, by omega⟩, (r1.trans r2).trans r3⟩
def turnsL : List (List PyData) := [[.int 1, .int 0, .int 0, .int 1], [.int 0, .int 1, .int (-1), .int 0], [.int (-1), .int 0, .int 0, .int 1], [.int 1, .int 1, .int 0, .int 1], [.int 2, .int 0, .int 0, .int 1], [.int 1, .int 0, .int 1, .int (-1)], [.int 1, .int (-1), .int 1, .int 1]]
def matrixD (v : PyData) : Prop := ∃ t a b, v = .tuple (t ++ [.int a, .int b]) ∧ t ∈ turnsL ∧ -3 ≤ a ∧ a ≤ 3 ∧ -3 ≤ b ∧ b ≤ 3
theorem turns_len : ∀ t, t ∈ turnsL → t.length = 4 := by
  intro t h
  simp only [turnsL, List.mem_cons, List.not_mem_nil, or_false] at h
  rcases h with h | h | h | h | h | h | h <;> rw [h] <;> rfl
theorem c_matrix {k : Nat} (TD : DefT K mg "_law_matrix" st__law_matrix ["_law_dice"]) (D__law_roll : DefC P w K mg base CX0 k "_law_roll" ["_law_dice", "_law_many"] (spD K 2 rollG)) :
    DefE P w K mg base (k + 1) "_law_matrix" ["_law_dice"] PreD (PostD matrixD) := by
  refine mkDefE TD S__law_matrix ⟨_, fun f cdv A outer s H E hr => have hu := hr.units; (pss_cons (ps_set (i := 1) S__law_matrix.nd rfl (Or.inl rfl) (pe_lst (pa_cons (pe_tup (pa_cons pe_int (pa_cons pe_int (pa_cons pe_int (pa_cons pe_int pa_nil))))) (pa_cons (pe_tup (pa_cons pe_int (pa_cons pe_int (pa_cons (pe_un un_neg pe_int) (pa_cons pe_int pa_nil))))) (pa_cons (pe_tup (pa_cons (pe_un un_neg pe_int) (pa_cons pe_int (pa_cons pe_int (pa_cons pe_int pa_nil))))) (pa_cons (pe_tup (pa_cons pe_int (pa_cons pe_int (pa_cons pe_int (pa_cons pe_int pa_nil))))) (pa_cons (pe_tup (pa_cons pe_int (pa_cons pe_int (pa_cons pe_int (pa_cons pe_int pa_nil))))) (pa_cons (pe_tup (pa_cons pe_int (pa_cons pe_int (pa_cons pe_int (pa_cons (pe_un un_neg pe_int) pa_nil))))) (pa_cons (pe_tup (pa_cons pe_int (pa_cons (pe_un un_neg pe_int) (pa_cons pe_int (pa_cons pe_int pa_nil))))) pa_nil)))))))))
      (pss_one (ps_ret (pe_op (kAdd (K := K)) (pe_ix (kIx (K := K)) (pv 1) (pe_def D__law_roll (hr.mono (by omega)) (by rfl) pass0 (pa_cons (pv 0) (pa_cons pe_int pa_nil))) (fun _ _ => rfl)) (pe_tup (pa_cons (pe_op op_sub (pe_def D__law_roll (hr.mono (by omega)) (by rfl) pass0 (pa_cons (pv 0) (pa_cons pe_int pa_nil))) pe_int) (pa_cons (pe_op op_sub (pe_def D__law_roll (hr.mono (by omega)) (by rfl) pass0 (pa_cons (pv 0) (pa_cons pe_int pa_nil))) pe_int) pa_nil))))))), ?_⟩
  rintro rs m ⟨j, rfl, hd⟩
  have hj := hd.lt
  obtain ⟨v, m1, ev1, v0, v1, r1⟩ := ex_roll (K := K) (E := E0) (es := [.c j, .d (.list (turnsL.map .tuple))]) (i := 0) (te := tC (.int 7)) rfl ev_int hd (by omega) (by omega)
  obtain ⟨a, m2, ev2, a0, a1, r2⟩ := ex_roll (K := K) (E := E0) (es := [.c j, .d (.list (turnsL.map .tuple))]) (i := 0) (te := tC (.int 7)) rfl ev_int (r1.die hj) (by omega) (by omega)
  obtain ⟨b, m3, ev3, b0, b1, r3⟩ := ex_roll (K := K) (E := E0) (es := [.c j, .d (.list (turnsL.map .tuple))]) (i := 0) (te := tC (.int 7)) rfl ev_int ((r1.trans r2).die hj) (by omega) (by omega)
  have neg : ∀ (x : Int) (es : List Sl) (m : M), EvE K (tUn (rU fun i => .int (-i)) (tC (.int x))) es m (.d (.int (-x))) m := fun x es m => ev_un ev_int o_neg
  refine exR_seq (sv_set (r := .d (.list (turnsL.map .tuple))) (m1 := m) (ev_lst (ds := turnsL.map .tuple)
    (ea_cons (ev_tup (ea_cons ev_int (ea_cons ev_int (ea_cons ev_int (ea_cons ev_int ea_nil)))) rfl (by simp))
    (ea_cons (ev_tup (ea_cons ev_int (ea_cons ev_int (ea_cons (neg 1 _ _) (ea_cons ev_int ea_nil)))) rfl (by simp))
    (ea_cons (ev_tup (ea_cons (neg 1 _ _) (ea_cons ev_int (ea_cons ev_int (ea_cons ev_int ea_nil)))) rfl (by simp))
    (ea_cons (ev_tup (ea_cons ev_int (ea_cons ev_int (ea_cons ev_int (ea_cons ev_int ea_nil)))) rfl (by simp))
    (ea_cons (ev_tup (ea_cons ev_int (ea_cons ev_int (ea_cons ev_int (ea_cons ev_int ea_nil)))) rfl (by simp))
    (ea_cons (ev_tup (ea_cons ev_int (ea_cons ev_int (ea_cons ev_int (ea_cons (neg 1 _ _) ea_nil)))) rfl (by simp))
    (ea_cons (ev_tup (ea_cons ev_int (ea_cons (neg 1 _ _) (ea_cons ev_int (ea_cons ev_int ea_nil)))) rfl (by simp)) ea_nil))))))) rfl (by decide))) ?_
  have hv : v.toNat < turnsL.length := by
    show v.toNat < 7
    omega
  have ht : turnsL[v.toNat] ∈ turnsL := List.getElem_mem hv
  have hg : (turnsL.map PyData.tuple)[v.toNat]? = some (.tuple turnsL[v.toNat]) := by rw [List.getElem?_map, List.getElem?_eq_getElem hv]; rfl
  refine ⟨.d (.tuple (turnsL[v.toNat] ++ [.int (a - 3), .int (b - 3)])), m3, sv_ret0 (ev_op (ev_op (ev_var rfl nofun) ev1 (o_ixL (by omega) hg)) (ev_tup (ea_cons (ev_op ev2 ev_int o_i0) (ea_cons (ev_op ev3 ev_int o_i0) ea_nil)) rfl (by simp)) (o_addT (by rw [turns_len _ ht]; simp))), ((r1.trans r2).trans r3).len, rfl, fun j' e => ?_⟩
  cases e
  exact ⟨_, rfl, ⟨_, _, _, rfl, ht, by omega, by omega, by omega, by omega⟩, (r1.trans r2).trans r3⟩

/-! ### layers -/
def colourD (v : PyData) : Prop := ∃ a b c, v = .tuple [.int a, .int b, .int c] ∧ 0 ≤ a ∧ a ≤ 2 ∧ 0 ≤ b ∧ b ≤ 1 ∧ 0 ≤ c ∧ c ≤ 9
def plainD (far : Int) (v : PyData) : Prop := (∃ s o, v = .tuple [.str "rub", s, o] ∧ shapeD far s ∧ opacityD o) ∨ ∃ s c o, v = .tuple [.str "fill", s, c, o] ∧ shapeD far s ∧ colourD c ∧ opacityD o
def layerD (far : Int) : Nat → PyData → Prop
  | 0, v => plainD far v
  | n + 1, v => plainD far v ∨ ∃ ls o c mt, v = .tuple [.str "group", .tuple ls, o, c, mt] ∧ ls.length ≤ 2 ∧ (∀ l, l ∈ ls → layerD far n l) ∧ opacityD o ∧ (c = .none ∨ shapeD far c) ∧ matrixD mt
theorem layerD_plain {far : Int} {n : Nat} {v : PyData} (h : plainD far v) : layerD far n v := by
  cases n with
  | zero => exact h
  | succ n => exact .inl h
def PreL (n : Nat) : List Sl → M → Prop := fun rs m => ∃ j far, rs = [.c j, .d (.int far), .d (.int (n : Nat))] ∧ DieAt m j ∧ 0 ≤ far ∧ far ≤ 1000
def PostL (n : Nat) : List Sl → M → Sl → M → Prop := fun rs m r m' => ∀ j far, rs = [.c j, .d (.int far), .d (.int (n : Nat))] → ∃ v, r = .d v ∧ layerD far n v ∧ Rolled m j m'
end
end K30

set_option Elab.async false
set_option linter.all false
set_option maxRecDepth 100000
set_option maxHeartbeats 4000000
namespace K30
variable [DL.Tbs]
open PySem PySem.Spec PyProof.Rows L2 DL HX
section
variable {P : Program} {w : World} {K : PySem.W.Frag} {mg : Str → Option Value} {base : Heap}
theorem c_layer {k n : Nat} (hn : n ≤ 10) (b_range : mg "range" = none) (b_tuple : mg "tuple" = none) (TD : DefT K mg "_law_layer" st__law_layer ["_law_dice", "_law_far", "_law_deep"]) (D__law_roll : DefC P w K mg base CX0 k "_law_roll" ["_law_dice", "_law_many"] (spD K 2 rollG))
    (DS : DefE P w K mg base k "_law_shape" ["_law_dice", "_law_far"] PreDF (PostDF shapeD)) (DO : DefE P w K mg base k "_law_opacity" ["_law_dice"] PreD (PostD opacityD)) (DM : DefE P w K mg base k "_law_matrix" ["_law_dice"] PreD (PostD matrixD))
    {gL : List Sl → M → Sl → M → Prop} (hgL : ∀ i, n = i + 1 → ∀ rs m, PreL i rs m → ∃ r m', gL rs m r m' ∧ PostL i rs m r m') (D__law_layer : DefC P w K mg base CX0 k "_law_layer" ["_law_dice", "_law_far", "_law_deep"] (spD K 3 gL)) :
    DefE P w K mg base (k + 1) "_law_layer" ["_law_dice", "_law_far", "_law_deep"] (PreL n) (PostL n) := by
  obtain ⟨gs, hgs, D__law_shape⟩ := DS
  obtain ⟨go, hgo, D__law_opacity⟩ := DO
  obtain ⟨gm, hgm, D__law_matrix⟩ := DM
  refine mkDefE TD S__law_layer ⟨_, fun f cdv A outer s H E hr => have hu := hr.units; (pss_cons (ps_set (i := 3) S__law_layer.nd rfl (Or.inl rfl) (pe_def D__law_roll (hr.mono (by omega)) (by rfl) pass0 (pa_cons (pv 0) (pa_cons pe_int pa_nil))))
      (pss_cons (ps_if (pt_cmpR (kEq (K := K) hu) (pv 3) pe_int (nomark _)) (pss_one (ps_ret (pe_tup (pa_cons pe_str (pa_cons (pe_def D__law_shape (hr.mono (by omega)) (by rfl) pass0 (pa_cons (pv 0) (pa_cons (pv 1) pa_nil))) (pa_cons (pe_def D__law_opacity (hr.mono (by omega)) (by rfl) pass0 (pa_cons (pv 0) pa_nil)) pa_nil)))))) pss_nil)
      (pss_cons (ps_if (PW.pt (pw_and (pt_cmpR (kEq (K := K) hu) (pv 3) pe_int (nomark _)) (pw_and1 (pt_cmpR op_gt (pv 2) pe_int (nomark _))))) (pss_cons (ps_set (i := 4) S__law_layer.nd rfl (Or.inl rfl) (pe_callTy (kTup (K := K)) (by rfl) b_tuple (by decide +kernel) (pa_cons (pe_lc (own := [("_law_turn", 7)]) (by rfl) S__law_layer.nd (pi_range1 (by rfl) b_range (pa_cons (pe_def D__law_roll (hr.mono (by omega)) (by rfl) pass0 (pa_cons (pv 0) (pa_cons pe_int pa_nil))) pa_nil)) (blkOk_by (N := N__law_layer) (sc := defScope st__law_layer) (by decide +kernel)) (fun _ _ _ _ _ => pg_name (i := 7) S__law_layer.nd rfl (by first | exact Or.inl rfl | exact Or.inr rfl)) (fun _ _ _ _ _ => pts_nil) (fun _ _ _ _ _ => (pe_def D__law_layer (hr.mono (by omega)) (by rfl) pass0 (pa_cons (pv 0) (pa_cons (pv 1) (pa_cons (pe_op op_sub (pv 2) pe_int) pa_nil)))))) pa_nil)))
      (pss_cons (ps_set (i := 5) S__law_layer.nd rfl (Or.inl rfl) (pe_ifExp (pt_cmpR (kEq (K := K) hu) (pe_def D__law_roll (hr.mono (by omega)) (by rfl) pass0 (pa_cons (pv 0) (pa_cons pe_int pa_nil))) pe_int (nomark _)) (pe_def D__law_shape (hr.mono (by omega)) (by rfl) pass0 (pa_cons (pv 0) (pa_cons (pv 1) pa_nil))) pe_non))
      (pss_one (ps_ret (pe_tup (pa_cons pe_str (pa_cons (pv 4) (pa_cons (pe_def D__law_opacity (hr.mono (by omega)) (by rfl) pass0 (pa_cons (pv 0) pa_nil)) (pa_cons (pv 5) (pa_cons (pe_def D__law_matrix (hr.mono (by omega)) (by rfl) pass0 (pa_cons (pv 0) pa_nil)) pa_nil)))))))))) pss_nil)
      (pss_cons (ps_set (i := 6) S__law_layer.nd rfl (Or.inl rfl) (pe_tup (pa_cons (pe_def D__law_roll (hr.mono (by omega)) (by rfl) pass0 (pa_cons (pv 0) (pa_cons pe_int pa_nil))) (pa_cons (pe_def D__law_roll (hr.mono (by omega)) (by rfl) pass0 (pa_cons (pv 0) (pa_cons pe_int pa_nil))) (pa_cons (pe_op (kMul (K := K)) (pe_def D__law_roll (hr.mono (by omega)) (by rfl) pass0 (pa_cons (pv 0) (pa_cons pe_int pa_nil))) pe_int) pa_nil)))))
      (pss_one (ps_ret (pe_tup (pa_cons pe_str (pa_cons (pe_def D__law_shape (hr.mono (by omega)) (by rfl) pass0 (pa_cons (pv 0) (pa_cons (pv 1) pa_nil))) (pa_cons (pv 6) (pa_cons (pe_def D__law_opacity (hr.mono (by omega)) (by rfl) pass0 (pa_cons (pv 0) pa_nil)) pa_nil))))))))))), ?_⟩
  rintro rs m ⟨j, far, rfl, hd, f0, f1⟩
  have hj := hd.lt
  have shape : ∀ (es : List Sl) (mm : M), es[0]? = some (.c j) → es[1]? = some (.d (.int far)) → Rolled m j mm → ∃ v m', EvE K (tCall (spD K 2 gs) [] E0 (tCons (tVar 0) (tCons (tVar 1) tNil))) es mm (.d v) m' ∧ shapeD far v ∧ Rolled m j m' := fun es mm h0 h1 rm => by
    obtain ⟨r, m', e1, hp⟩ := ex_callE (K := K) (E := E0) (n := 2) hgs (ta := tCons (tVar 0) (tCons (tVar 1) tNil)) (es := es) (m := mm) (arg2 (ev_var h0 nofun) (ev_var h1 nofun)) ⟨j, far, rfl, rm.die hj, f0, f1⟩ rfl
    obtain ⟨x, rfl, gx, rx⟩ := hp j far rfl
    exact ⟨x, m', e1, gx, rm.trans rx⟩
  have opac : ∀ (es : List Sl) (mm : M), es[0]? = some (.c j) → Rolled m j mm → ∃ v m', EvE K (tCall (spD K 1 go) [] E0 (tCons (tVar 0) tNil)) es mm (.d v) m' ∧ opacityD v ∧ Rolled m j m' := fun es mm h0 rm => by
    obtain ⟨r, m', e1, hp⟩ := ex_callE (K := K) (E := E0) (n := 1) hgo (ta := tCons (tVar 0) tNil) (es := es) (m := mm) (arg1 (ev_var h0 nofun)) ⟨j, rfl, rm.die hj⟩ rfl
    obtain ⟨x, rfl, gx, rx⟩ := hp j rfl
    exact ⟨x, m', e1, gx, rm.trans rx⟩
  have matr : ∀ (es : List Sl) (mm : M), es[0]? = some (.c j) → Rolled m j mm → ∃ v m', EvE K (tCall (spD K 1 gm) [] E0 (tCons (tVar 0) tNil)) es mm (.d v) m' ∧ matrixD v ∧ Rolled m j m' := fun es mm h0 rm => by
    obtain ⟨r, m', e1, hp⟩ := ex_callE (K := K) (E := E0) (n := 1) hgm (ta := tCons (tVar 0) tNil) (es := es) (m := mm) (arg1 (ev_var h0 nofun)) ⟨j, rfl, rm.die hj⟩ rfl
    obtain ⟨x, rfl, gx, rx⟩ := hp j rfl
    exact ⟨x, m', e1, gx, rm.trans rx⟩
  have roll : ∀ (es : List Sl) (mm : M) (q : Int), es[0]? = some (.c j) → 0 < q → q < 1000 → Rolled m j mm → ∃ v m', EvE K (tCall (spD K 2 rollG) [] E0 (tCons (tVar 0) (tCons (tC (.int q)) tNil))) es mm (.d (.int v)) m' ∧ 0 ≤ v ∧ v < q ∧ Rolled m j m' := fun es mm q h0 q0 q1 rm => by
    obtain ⟨v, m', e1, a, b, r⟩ := ex_roll (K := K) (E := E0) (te := tC (.int q)) h0 ev_int (rm.die hj) q0 (by omega)
    exact ⟨v, m', e1, a, b, rm.trans r⟩
  have fin : ∀ {m' : M} {v : PyData}, Rolled m j m' → layerD far n v → m'.length = m.length ∧ (Sl.d v).plain = true ∧ PostL n [.c j, .d (.int far), .d (.int (n : Nat))] m (.d v) m' := fun {m' v} r h => ⟨r.len, rfl, fun j' far' e => by
    cases e
    exact ⟨v, rfl, h, r⟩⟩
  obtain ⟨pick, m1, ev1, p0, p1, r1⟩ := roll [.c j, .d (.int far), .d (.int (n : Nat)), .no, .no, .no, .no, .no] m 6 rfl (by omega) (by omega) (Rolled.refl hd)
  refine exR_seq (sv_set ev1) ?_
  by_cases hp0 : pick = 0
  · obtain ⟨s, m2, e2, g2, r2⟩ := shape [.c j, .d (.int far), .d (.int (n : Nat)), .d (.int pick), .no, .no, .no, .no] m1 rfl rfl r1
    obtain ⟨o, m3, e3, g3, r3⟩ := opac [.c j, .d (.int far), .d (.int (n : Nat)), .d (.int pick), .no, .no, .no, .no] m2 rfl r2
    refine ⟨.d (.tuple [.str "rub", s, o]), m3, sv_ifsT (m1 := m1) (eb_cast (eb_test (ev_op (ev_var rfl nofun) ev_int o_eqI)) (by simp [hp0])) rfl (sv_ret0 (ev_tup (ea_cons ev_str (ea_cons e2 (ea_cons e3 ea_nil))) rfl (by simp))), fin r3 (layerD_plain (.inl ⟨s, o, rfl, g2, g3⟩))⟩
  refine exR_ifF (m1 := m1) (eb_cast (eb_test (ev_op (ev_var rfl nofun) ev_int o_eqI)) (by simp [hp0])) (exR_seq sv_next ?_)
  by_cases hg : pick = 1 ∧ 0 < n
  · obtain ⟨rfl, hn0⟩ := hg
    obtain ⟨i, rfl⟩ : ∃ i, n = i + 1 := ⟨n - 1, by omega⟩
    refine exR_ifT (m1 := m1) (eb_cast (eb_and (a := true) (b := true) (eb_cast (eb_test (ev_op (ev_var rfl nofun) ev_int o_eqI)) rfl) (fun _ => eb_cast (eb_test (ev_op (ev_var rfl nofun) ev_int o_i0b)) (by simp))) rfl) ?_
    obtain ⟨v, m2, e2, v0, v1, r2⟩ := roll [.c j, .d (.int far), .d (.int ((i + 1 : Nat) : Int)), .d (.int 1), .no, .no, .no, .no] m1 3 rfl (by omega) (by omega) r1
    have hi := ei_rng1 (K := K) (arg1 e2) (by omega) (by omega)
    obtain ⟨ls, m3, hL, nL, gLs, r3⟩ := exLc (K := K) (i := 7) (vs := [7]) (esw := wipeS [.c j, .d (.int far), .d (.int ((i + 1 : Nat) : Int)), .d (.int 1), .no, .no, .no, .no] [7])
      (te := tCall (spD K 3 gL) [] E0 (tCons (tVar 0) (tCons (tVar 1) (tCons (tOp (rI0 fun i j => .int (i - j)) (tVar 2) (tC (.int 1))) tNil)))) (J := Rolled m j) (G := layerD far i) (by simp) (rangeD 0 v.toNat) m2 r2 (by
      intro d mm hd2 rm
      obtain ⟨r, m', e1, hp⟩ := ex_callE (K := K) (E := E0) (n := 3) (hgL i rfl) (ta := tCons (tVar 0) (tCons (tVar 1) (tCons (tOp (rI0 fun i j => .int (i - j)) (tVar 2) (tC (.int 1))) tNil))) (es := [.c j, .d (.int far), .d (.int ((i + 1 : Nat) : Int)), .d (.int 1), .no, .no, .no, .d d]) (m := mm)
        (rs := [.c j, .d (.int far), .d (.int (i : Nat))]) (ea_cons (ev_var rfl nofun) (arg2 (ev_var rfl nofun) (ev_cast (ev_op (ev_var rfl nofun) ev_int o_i0) (by congr 2; omega)))) ⟨j, far, rfl, rm.die hj, f0, f1⟩ rfl
      obtain ⟨x, rfl, gx, rx⟩ := hp j far rfl
      exact ⟨x, m', e1, gx, rm.trans rx⟩)
    rw [rangeD_len] at nL
    obtain ⟨u, m4, e4, u0, u1, r4⟩ := roll [.c j, .d (.int far), .d (.int ((i + 1 : Nat) : Int)), .d (.int 1), .d (.tuple ls), .no, .no, .no] m3 2 rfl (by omega) (by omega) r3
    have rest : ∀ (c : PyData) (m5 : M), Rolled m j m5 → (c = .none ∨ shapeD far c) → ∃ o mt m7, EvE K (tTup (tCons (tC (.str "group")) (tCons (tVar 4) (tCons (tCall (spD K 1 go) [] E0 (tCons (tVar 0) tNil)) (tCons (tVar 5) (tCons (tCall (spD K 1 gm) [] E0 (tCons (tVar 0) tNil)) tNil))))))
        [.c j, .d (.int far), .d (.int ((i + 1 : Nat) : Int)), .d (.int 1), .d (.tuple ls), .d c, .no, .no] m5 (.d (.tuple [.str "group", .tuple ls, o, c, mt])) m7 ∧ opacityD o ∧ matrixD mt ∧ Rolled m j m7 := fun c m5 r5 hc => by
      obtain ⟨o, m6, e6, g6, r6⟩ := opac [.c j, .d (.int far), .d (.int ((i + 1 : Nat) : Int)), .d (.int 1), .d (.tuple ls), .d c, .no, .no] m5 rfl r5
      obtain ⟨mt, m7, e7, g7, r7⟩ := matr [.c j, .d (.int far), .d (.int ((i + 1 : Nat) : Int)), .d (.int 1), .d (.tuple ls), .d c, .no, .no] m6 rfl r6
      exact ⟨o, mt, m7, ev_tup (ea_cons ev_str (ea_cons (ev_var rfl nofun) (ea_cons e6 (ea_cons (ev_var rfl nofun) (ea_cons e7 ea_nil))))) rfl (by simp), g6, g7, r7⟩
    by_cases hu0 : u = 0
    · obtain ⟨c, m5, e5, g5, r5⟩ := shape [.c j, .d (.int far), .d (.int ((i + 1 : Nat) : Int)), .d (.int 1), .d (.tuple ls), .no, .no, .no] m4 rfl rfl r4
      obtain ⟨o, mt, m7, e7, go7, gm7, r7⟩ := rest c m5 r5 (.inr g5)
      obtain ⟨l1, l2, l3⟩ := fin r7 (.inr ⟨ls, o, c, mt, rfl, by omega, gLs, go7, .inr g5, gm7⟩)
      exact ⟨.d (.tuple [.str "group", .tuple ls, o, c, mt]), m7, sv_out rfl (sv_seq (sv_set (ev_cb (arg1 (el_d (el_lc hi hL (by rw [rangeD_len]; omega)))) c_tupL)) (sv_seq (sv_set (ev_ifT (eb_cast (eb_test (ev_op e4 ev_int o_eqI)) (by simp [hu0])) e5)) (sv_ret0 e7))), l1, l2, l3⟩
    · obtain ⟨o, mt, m7, e7, go7, gm7, r7⟩ := rest .none m4 r4 (.inl rfl)
      obtain ⟨l1, l2, l3⟩ := fin r7 (.inr ⟨ls, o, .none, mt, rfl, by omega, gLs, go7, .inl rfl, gm7⟩)
      exact ⟨.d (.tuple [.str "group", .tuple ls, o, .none, mt]), m7, sv_out rfl (sv_seq (sv_set (ev_cb (arg1 (el_d (el_lc hi hL (by rw [rangeD_len]; omega)))) c_tupL)) (sv_seq (sv_set (ev_ifF (eb_cast (eb_test (ev_op e4 ev_int o_eqI)) (by simp [hu0])) ev_non)) (sv_ret0 e7))), l1, l2, l3⟩
  · refine exR_ifF (m1 := m1) ?_ (exR_seq sv_next ?_)
    · by_cases h1 : pick = 1
      · have hn0 : n = 0 := by omega
        subst hn0
        exact eb_andT (eb_cast (eb_test (ev_op (ev_var rfl nofun) ev_int o_eqI)) (by simp [h1])) (eb_cast (eb_test (ev_op (ev_var rfl nofun) ev_int o_i0b)) (by simp))
      · exact eb_andF (eb_cast (eb_test (ev_op (ev_var rfl nofun) ev_int o_eqI)) (by simp [h1]))
    obtain ⟨a, m2, ea, a0, a1, r2⟩ := roll [.c j, .d (.int far), .d (.int (n : Nat)), .d (.int pick), .no, .no, .no, .no] m1 3 rfl (by omega) (by omega) r1
    obtain ⟨b, m3, eb, b0, b1, r3⟩ := roll [.c j, .d (.int far), .d (.int (n : Nat)), .d (.int pick), .no, .no, .no, .no] m2 2 rfl (by omega) (by omega) r2
    obtain ⟨c, m4, ec, c0, c1, r4⟩ := roll [.c j, .d (.int far), .d (.int (n : Nat)), .d (.int pick), .no, .no, .no, .no] m3 2 rfl (by omega) (by omega) r3
    refine exR_seq (sv_set (r := .d (.tuple [.int a, .int b, .int (c * 9)])) (m1 := m4) (ev_tup (ea_cons ea (ea_cons eb (ea_cons (ev_op ec ev_int (o_mulII (mul_ok (by omega) (by omega)))) ea_nil))) rfl (by simp))) ?_
    obtain ⟨s, m5, e5, g5, r5⟩ := shape [.c j, .d (.int far), .d (.int (n : Nat)), .d (.int pick), .no, .no, .d (.tuple [.int a, .int b, .int (c * 9)]), .no] m4 rfl rfl r4
    obtain ⟨o, m6, e6, g6, r6⟩ := opac [.c j, .d (.int far), .d (.int (n : Nat)), .d (.int pick), .no, .no, .d (.tuple [.int a, .int b, .int (c * 9)]), .no] m5 rfl r5
    exact ⟨.d (.tuple [.str "fill", s, .tuple [.int a, .int b, .int (c * 9)], o]), m6, sv_ret0 (ev_tup (ea_cons ev_str (ea_cons e5 (ea_cons (ev_var rfl nofun) (ea_cons e6 ea_nil)))) rfl (by simp)), fin r6 (layerD_plain (.inr ⟨s, _, o, rfl, g5, ⟨a, b, c * 9, rfl, by omega, by omega, by omega, by omega, by omega, by omega⟩, g6⟩))⟩
end
end K30

set_option Elab.async false
set_option linter.all false
set_option maxRecDepth 100000
set_option maxHeartbeats 4000000
namespace K30
variable [DL.Tbs]
open PySem PySem.Spec PyProof.Rows L2 DL HX
theorem sum_app : ∀ a b : List Int, (a ++ b).sum = a.sum + b.sum
  | [], b => by simp
  | x :: a, b => by rw [List.cons_append, List.sum_cons, List.sum_cons, sum_app a b]; omega
theorem pts_app (a b : List PyData) : ptsM (a ++ b) = ptsM a + ptsM b := by
  unfold ptsM
  rw [List.flatMap_append, sum_app]
theorem pts_one (s : PyData) : ptsM [s] = ((loopsOf s).map lenI).sum := by
  unfold ptsM
  simp
section
variable {P : Program} {w : World} {K : PySem.W.Frag} {mg : Str → Option Value} {base : Heap}
abbrev R_size (n : Nat) : List PyData → PyData → Prop := fun ds y => ∃ ls, ds = [.tuple ls] ∧ ls.length ≤ 4 ∧ ls.all (nestedM n) = true ∧ y = .int (ptsM (shapesM n ls))
theorem c_size {k n : Nat} (b_len : mg "len" = none) (b_sum : mg "sum" = none) (TD : DefT K mg "_law_size" st__law_size ["_law_layers"]) {R : List PyData → PyData → Prop} (D__law_size : PureC P w K mg base k "_law_size" ["_law_layers"] R) (hR : ∀ i, n = i + 1 → R = R_size i) :
    PureC P w K mg base (k + 1) "_law_size" ["_law_layers"] (R_size n) := by
  refine mkPure TD S__law_size fun f cdv A outer s H E hr => ?_
  have hu := hr.units
  refine ⟨_, (pss_cons (ps_set (i := 1) S__law_size.nd rfl (Or.inl rfl) pe_int)
      (pss_cons (ps_for PassesOwn.never rfl (kSeq (K := K) (pv 0)) (pg_name (i := 2) S__law_size.nd rfl (Or.inl rfl)) (pss_cons (ps_set (i := 3) S__law_size.nd rfl (Or.inl rfl) (pe_ifExp (pt_cmpR (kEq (K := K) hu) (pe_ix (kIx (K := K)) (pv 2) pe_int (fun _ _ => rfl)) pe_str (nomark _)) (pe_ix (kIx (K := K)) (pv 2) pe_int (fun _ _ => rfl)) (pe_ix (kIx (K := K)) (pv 2) pe_int (fun _ _ => rfl))))
      (pss_cons (ps_if (pt_cmpR (kEq (K := K) hu) (pe_ix (kIx (K := K)) (pv 2) pe_int (fun _ _ => rfl)) pe_str (nomark _)) (pss_one (ps_set (i := 1) S__law_size.nd rfl (Or.inl rfl) (pe_op (kAdd (K := K)) (pv 1) (pe_def D__law_size (hr.mono (by omega)) (by rfl) pass0 (pa_cons (pe_ix (kIx (K := K)) (pv 2) pe_int (fun _ _ => rfl)) pa_nil))))) pss_nil)
      (pss_one (ps_if (pt_cmpR op_notN (pv 3) pe_non (nomark _)) (pss_one (ps_set (i := 1) S__law_size.nd rfl (Or.inl rfl) (pe_op (kAdd (K := K)) (pv 1) (pe_callB (kSum (K := K) rfl) (by rfl) b_sum (by decide +kernel) (pa_cons (pe_lc (own := [("_law_loop_here", 4)]) (by rfl) S__law_size.nd (kSeq (K := K) (pe_ix (kIx (K := K)) (pv 3) pe_int (fun _ _ => rfl))) (blkOk_by (N := N__law_size) (sc := defScope st__law_size) (by decide +kernel)) (fun _ _ _ _ _ => pg_name (i := 4) S__law_size.nd rfl (by first | exact Or.inl rfl | exact Or.inr rfl)) (fun _ _ _ _ _ => pts_nil) (fun _ _ _ _ _ => (pe_callB (kLen (K := K)) (by rfl) b_len (by decide +kernel) (pa_cons (pv 4) pa_nil)))) pa_nil))))) pss_nil)))))
      (pss_one (ps_ret (pv 1))))), ?_⟩
  rintro ds m y hl ⟨ls, rfl, h4, ha, rfl⟩
  have sumS : ∀ (s a0 a1 a2 : PyData), shapeM s = true → EvE K (tCB (rSum K) (tCons (tLc (iSeq K (tOp (rIx K) (tVar 3) (tC (.int 1)))) (gName 4) tYes (tCB (fun xs H Q => ∃ x n, xs = [x] ∧ LenV K x H n ∧ Q (.int n) H) (tCons (tVar 4) tNil)) [4]) tNil)) [.d a0, .d a1, .d a2, .d s, .no] m (.d (.int (ptsM [s]))) m := fun s a0 a1 a2 hs => by
    obtain ⟨r, lo, rfl, hl3, hp⟩ := shape_get hs
    have q := lcMap (K := K) (te := tCB (fun xs H Q => ∃ x n, xs = [x] ∧ LenV K x H n ∧ Q (.int n) H) (tCons (tVar 4) tNil)) (i := 4) (vs := [4]) (esw := wipeS [.d a0, .d a1, .d a2, .d (.tuple [r, .tuple lo]), .no] [4]) (m := m) (ds := lo) (f := fun l => .int (lenI l)) (by simp) fun d hd => by
      obtain ⟨ps, rfl, _⟩ := hp d hd
      exact ev_cb (arg1 (ev_var rfl nofun)) (c_len rfl)
    have q2 := el_d (el_lc (K := K) (es := [.d a0, .d a1, .d a2, .d (.tuple [r, .tuple lo]), .no]) (ei_seqT (ev_at (i := 3) (j := 1) (k := 1) (m := m) rfl rfl rfl)) q (by omega))
    have e : (lo.map fun l => PyData.int (lenI l)) = (lo.map lenI).map .int := by rw [List.map_map]; rfl
    rw [e] at q2
    have q3 := ev_cb (arg1 q2) (c_sum (K := K))
    rw [pts_one]
    exact q3
  have notN : ∀ s, shapeM s = true → isNone s = false := fun s hs => by
    obtain ⟨r, lo, rfl, _⟩ := shape_get hs
    rfl
  refine sv_seq (sv_set (r := .d (.int 0)) (m1 := m) ev_int) ?_
  refine sv_forI (m1 := m) (i := 2) (fun l es mm => ∃ a b, es = [.d (.tuple ls), .d (.int (ptsM (shapesM n (ls.take l)))), a, b, .no] ∧ mm = m) (ei_seqT (ev_var (r := .d (.tuple ls)) rfl nofun)) ⟨.no, .no, by rw [shapesM_eq]; rfl, rfl⟩ ?stp ?fin
  case fin =>
    rintro es mm ⟨a, b, rfl, rfl⟩
    rw [List.take_length]
    exact sv_ret0 (ev_var rfl nofun)
  case stp =>
    rintro l v es mm hv ⟨a, b, rfl, rfl⟩
    have hv1 : nestedM n v = true := List.all_eq_true.mp ha v (List.mem_of_getElem? hv)
    have el : shapesM n (ls.take (l + 1)) = shapesM n (ls.take l) ++ shapesOf (shapesJ n) v := by
      rw [shapesM_eq, shapesM_eq, List.take_add_one, hv, List.flatMap_append]
      simp
    rw [el, pts_app]
    generalize ptsM (shapesM n (ls.take l)) = acc
    rcases nested_get hv1 with ⟨k, s, r, rfl, hk, h1⟩ | ⟨i, l3, o, c, mt, rfl, rfl, h4, ha3, hc⟩
    · have es : shapesOf (shapesJ n) (.tuple (.str k :: s :: r)) = [s] := if_neg hk
      rw [es]
      refine ⟨_, mm, .inl ?_, .d (.tuple (.str k :: s :: r)), .d s, rfl, rfl⟩
      refine sv_seq (sv_set (ev_ifF (eb_cast (eb_test (ev_op (ev_at (i := 2) (j := 0) rfl rfl rfl) ev_str o_eqS)) (decide_eq_false hk)) (ev_at (i := 2) (j := 1) rfl rfl rfl))) ?_
      refine sv_seq (sv_ifF (eb_cast (eb_test (ev_op (ev_at (i := 2) (j := 0) rfl rfl rfl) ev_str o_eqS)) (decide_eq_false hk)) sv_next) ?_
      exact sv_ifT (eb_cast (eb_test (ev_op (ev_var rfl nofun) ev_non o_notN)) (by rw [notN s h1]; rfl)) (sv_set (ev_op (ev_var rfl nofun) (sumS s _ _ _ h1) o_addI))
    · have es : shapesOf (shapesJ (i + 1)) (.tuple [.str "group", .tuple l3, o, c, mt]) = shapesM i l3 ++ clipOf c := by
        simp only [shapesOf, shapesJ, if_true]
      rw [es, pts_app]
      refine ⟨_, mm, .inl ?_, .d (.tuple [.str "group", .tuple l3, o, c, mt]), .d c, rfl, rfl⟩
      have e := hR i rfl
      subst e
      refine sv_seq (sv_set (ev_ifT (eb_cast (eb_test (ev_op (ev_at (i := 2) (j := 0) rfl rfl rfl) ev_str o_eqS)) rfl) (ev_at (i := 2) (j := 3) rfl rfl rfl))) ?_
      refine sv_seq (sv_ifT (eb_cast (eb_test (ev_op (ev_at (i := 2) (j := 0) rfl rfl rfl) ev_str o_eqS)) rfl) (sv_set (ev_op (ev_var rfl nofun) (ev_pure (arg1 (ev_at (i := 2) (j := 1) rfl rfl rfl)) (ds := [.tuple l3]) rfl ⟨l3, rfl, h4, ha3, rfl⟩ rfl) o_addI))) ?_
      cases hn : isNone c with
      | true =>
        have e0 : clipOf c = [] := if_pos hn
        have e1 : acc + (ptsM (shapesM i l3) + ptsM (clipOf c)) = acc + ptsM (shapesM i l3) := by
          rw [e0, show ptsM [] = 0 from rfl, Int.add_zero]
        rw [e1]
        exact sv_ifF (eb_cast (eb_test (ev_op (ev_var rfl nofun) ev_non o_notN)) (by rw [hn]; rfl)) sv_next
      | false =>
        have e0 : clipOf c = [c] := if_neg (by rw [hn]; exact Bool.false_ne_true)
        rw [e0, ← Int.add_assoc]
        have hs : shapeM c = true := hc.resolve_left (by rw [hn]; exact Bool.false_ne_true)
        exact sv_ifT (eb_cast (eb_test (ev_op (ev_var rfl nofun) ev_non o_notN)) (by rw [hn]; rfl)) (sv_set (ev_op (ev_var rfl nofun) (sumS c _ _ _ hs) o_addI))
end
end K30

set_option Elab.async false
set_option linter.all false
set_option maxRecDepth 100000
set_option maxHeartbeats 4000000
namespace K30
variable [DL.Tbs]
open PySem PySem.Spec PyProof.Rows L2 DL HX
/-! ### what is drawn is valid -/
theorem loop_ok {far : Int} (hf : far ≤ 9) {v : PyData} (h : loopD far v) : loopM v = true := by
  obtain ⟨ps, rfl, h3, h5, hp⟩ := h
  show ((decide ((3 : Int) ≤ (ps.length : Int)) && decide ((ps.length : Int) ≤ 8)) && ps.all fun p => areM p 2 (-9) 9) = true
  simp only [Bool.and_eq_true, decide_eq_true_eq, List.all_eq_true]
  refine ⟨⟨by omega, by omega⟩, fun p h => ?_⟩
  obtain ⟨a, b, rfl, h1, h2, h3, h4⟩ := hp p h
  simp [areM, inR]
  omega
theorem shape_ok {far : Int} (hf : far ≤ 9) {v : PyData} (h : shapeD far v) : shapeM v = true ∧ okS v = true := by
  obtain ⟨r, ls, rfl, hr, h1, h2, hl⟩ := h
  have hls : loopsM (.tuple ls) = true := by
    show ((decide ((1 : Int) ≤ (ls.length : Int)) && decide ((ls.length : Int) ≤ 3)) && ls.all loopM) = true
    simp only [Bool.and_eq_true, decide_eq_true_eq, List.all_eq_true]
    exact ⟨⟨by omega, by omega⟩, fun l h => loop_ok hf (hl l h)⟩
  have hrm : ruleM r = true ∧ flatD r = true := by
    rcases hr with rfl | rfl
    · exact ⟨by decide, by decide⟩
    · exact ⟨by decide, by decide⟩
  refine ⟨?_, hrm.2⟩
  show (ruleM r && loopsM (.tuple ls)) = true
  rw [hrm.1, hls]; rfl
theorem opacity_ok {v : PyData} (h : opacityD v) : opacityM v = true := by
  obtain ⟨a, b, rfl, h1, h2, h3⟩ := h
  simp [opacityM, areM, inR, topLe]
  omega
theorem colour_ok {v : PyData} (h : colourD v) : colourM v = true := by
  obtain ⟨a, b, c, rfl, h1, h2, h3, h4, h5, h6⟩ := h
  simp [colourM, areM, inR]
  omega
theorem matrix_ok {v : PyData} (h : matrixD v) : matrixM v = true := by
  obtain ⟨t, a, b, rfl, ht, a0, a1, b0, b1⟩ := h
  have tl : ∀ xs : List PyData, xs = [.int a, .int b] → areM (.tuple xs) 2 (-9) 9 = true := fun xs e => by
    subst e
    simp [areM, inR]
    omega
  simp only [turnsL, List.mem_cons, List.not_mem_nil, or_false] at ht
  rcases ht with rfl | rfl | rfl | rfl | rfl | rfl | rfl <;>
  · unfold matrixM
    rw [Bool.and_eq_true, Bool.and_eq_true]
    exact ⟨rfl, rfl, tl _ rfl⟩
theorem plain_ok {far : Int} (hf : far ≤ 9) {v : PyData} (h : plainD far v) (n : Nat) : nestedM n v = true ∧ okL n v = true := by
  rcases h with ⟨s, o, rfl, hs, ho⟩ | ⟨s, c, o, rfl, hs, hc, ho⟩
  · obtain ⟨s1, s2⟩ := shape_ok hf hs
    have o1 := opacity_ok ho
    refine ⟨?_, ?_⟩
    · unfold nestedM
      rw [if_neg (by decide), if_pos rfl]
      show (shapeM s && opacityM o) = true
      rw [s1, o1]; rfl
    · unfold okL
      show ((decide (("rub" : Str) = "group") || okS s) && true && _) = true
      rw [s2, Bool.or_true]
      cases n with
      | zero => rfl
      | succ n =>
        show (true && true && (if ("rub" : Str) = "group" then _ else true)) = true
        rw [if_neg (by decide)]; rfl
  · obtain ⟨s1, s2⟩ := shape_ok hf hs
    have o1 := opacity_ok ho
    have c1 := colour_ok hc
    have okO : okS o = true := by
      obtain ⟨a, b, rfl, _⟩ := ho
      rfl
    refine ⟨?_, ?_⟩
    · unfold nestedM
      rw [if_pos rfl]
      show (shapeM s && (colourM c && opacityM o)) = true
      rw [s1, c1, o1]; rfl
    · unfold okL
      show ((decide (("fill" : Str) = "group") || okS s) && okS o && _) = true
      rw [s2, okO, Bool.or_true]
      cases n with
      | zero => rfl
      | succ n =>
        show (true && true && (if ("fill" : Str) = "group" then _ else true)) = true
        rw [if_neg (by decide)]; rfl
theorem layer_ok {far : Int} (hf : far ≤ 9) : ∀ (n : Nat) {v : PyData}, layerD far n v → nestedM (n + 1) v = true ∧ okL (n + 1) v = true
  | 0, v, h => plain_ok hf h 1
  | n + 1, v, h => by
    rcases h with h | ⟨ls, o, c, mt, rfl, hl, ha, ho, hc, hm⟩
    · exact plain_ok hf h _
    have o1 := opacity_ok ho
    have m1 := matrix_ok hm
    have c1 : (isNone c || shapeM c) = true ∧ okS c = true := by
      rcases hc with rfl | hc
      · exact ⟨rfl, rfl⟩
      · obtain ⟨s1, s2⟩ := shape_ok hf hc
        exact ⟨by rw [s1, Bool.or_true], s2⟩
    have i1 : ls.all (nestedM (n + 1)) = true := List.all_eq_true.mpr fun l h => (layer_ok hf n (ha l h)).1
    have i2 : ls.all (okL (n + 1)) = true := List.all_eq_true.mpr fun l h => (layer_ok hf n (ha l h)).2
    refine ⟨?_, ?_⟩
    · unfold nestedM
      rw [if_neg (by decide), if_neg (by decide)]
      show (true && ((decide ((ls.length : Int) ≤ 4) && ls.all (nestedM (n + 1))) && (opacityM o && ((isNone c || shapeM c) && matrixM mt)))) = true
      rw [i1, o1, c1.1, m1, decide_eq_true (by omega)]; rfl
    · unfold okL
      show (true && okS c && (if ("group" : Str) = "group" then ls.all (okL (n + 1)) else true)) = true
      rw [if_pos rfl, c1.2, i2]; rfl
end K30

set_option Elab.async false
set_option linter.all false
set_option maxRecDepth 100000
set_option maxHeartbeats 4000000
namespace K30
variable [DL.Tbs]
open PySem PySem.Spec PyProof.Rows L2 DL HX
section
variable {P : Program} {w : World} {K : PySem.W.Frag} {mg : Str → Option Value} {base : Heap}
theorem cut_m1 (xs : List PyData) : DL.cutD xs none (some (-1)) = xs.take (xs.length - 1) := by
  unfold DL.cutD
  rw [HT.sIx_none, List.drop_zero]
  congr 1
  have e : HT.sIx xs.length xs.length (some (-1)) = ((-1 : Int) + (xs.length : Int)).toNat := by
    unfold HT.sIx
    simp
  rw [e]
  omega
def goodD (far : Int) (ls : List PyData) : Prop := (∀ l, l ∈ ls → layerD far 1 l) ∧ ptsM (shapesM 2 ls) ≤ 45
def PreDr : List Sl → M → Prop := fun rs m => ∃ j many far, rs = [.c j, .d (.int many), .d (.int far)] ∧ DieAt m j ∧ 0 ≤ many ∧ many ≤ 4 ∧ 0 ≤ far ∧ far ≤ 9
def PostDr : List Sl → M → Sl → M → Prop := fun rs m r m' => ∀ j many far, rs = [.c j, .d (.int many), .d (.int far)] → ∃ ls, r = .d (.tuple ls) ∧ (ls.length : Int) ≤ many ∧ goodD far ls ∧ Rolled m j m'
theorem while_cut {k : Nat} {far : Int} (hf : far ≤ 9) (D__law_size : PureC P w K mg base k "_law_size" ["_law_layers"] (R_size 2)) {n : Nat} {s0 s1 s2 s4 : Sl} {m : M} :
    ∀ (q : Nat) (ls : List PyData), ls.length = q → q ≤ 4 → (∀ l, l ∈ ls → layerD far 1 l) → ∃ i ls', WhR K n (tTest (tOp (rI0 fun i j => .bl (decide (i > j))) (tCall (spD K 1 (pureG (R_size 2))) [] E0 (tCons (tVar 3) tNil)) (tC (.int 45))))
      (tAsg (tSl (rSlA K) (tVar 3) tNoPart (tPart (tUn (rU fun i => .int (-i)) (tC (.int 1))))) (gName 3)) i [s0, s1, s2, .d (.tuple ls), s4] m [s0, s1, s2, .d (.tuple ls'), s4] m ∧ ls'.length ≤ q ∧ goodD far ls' := by
  intro q
  induction q with
  | zero =>
    intro ls hl h4 ha
    obtain rfl := List.eq_nil_of_length_eq_zero hl
    refine ⟨0, [], .stop (eb_cast (eb_test (ev_op (ev_pure (arg1 (ev_var rfl nofun)) (ds := [.tuple []]) rfl ⟨[], rfl, by simp, rfl, rfl⟩ rfl) ev_int o_i0b)) (by decide)), Nat.le_refl _, ha, by decide⟩
  | succ q ih =>
    intro ls hl h4 ha
    have hn : ls.all (nestedM 2) = true := List.all_eq_true.mpr fun l h => (layer_ok hf 1 (ha l h)).1
    have size := ev_pure (K := K) (P := R_size 2) (n := 1) (E := E0) (es := [s0, s1, s2, .d (.tuple ls), s4]) (m := m) (arg1 (ev_var (i := 3) rfl nofun)) (ds := [.tuple ls]) rfl ⟨ls, rfl, by omega, hn, rfl⟩ rfl
    by_cases hs : ptsM (shapesM 2 ls) > 45
    · obtain ⟨i, ls', h1, h2, h3⟩ := ih (ls.take (ls.length - 1)) (by rw [List.length_take]; omega) (by omega) fun l h => ha l (List.mem_of_mem_take h)
      refine ⟨i + 1, ls', .go (eb_cast (eb_test (ev_op size ev_int o_i0b)) (decide_eq_true hs)) (sv_set (r := .d (.tuple (ls.take (ls.length - 1)))) (m1 := m) ?_) h1, Nat.le_succ_of_le h2, h3⟩
      rw [← cut_m1]
      exact ev_sl (ev_var rfl nofun) eo_none (eo_some (ev_un ev_int o_neg))
    · exact ⟨0, ls, .stop (eb_cast (eb_test (ev_op size ev_int o_i0b)) (decide_eq_false hs)), Nat.le_of_eq hl, ha, by omega⟩
theorem c_drawing {k : Nat} (b_range : mg "range" = none) (b_tuple : mg "tuple" = none) (TD : DefT K mg "_law_drawing" st__law_drawing ["_law_dice", "_law_many", "_law_far"]) (D__law_roll : DefC P w K mg base CX0 k "_law_roll" ["_law_dice", "_law_many"] (spD K 2 rollG))
    (DE : DefE P w K mg base k "_law_layer" ["_law_dice", "_law_far", "_law_deep"] (PreL 1) (PostL 1)) (D__law_size : PureC P w K mg base k "_law_size" ["_law_layers"] (R_size 2)) :
    DefE P w K mg base (k + 1) "_law_drawing" ["_law_dice", "_law_many", "_law_far"] PreDr PostDr := by
  obtain ⟨gl, hgl, D__law_layer⟩ := DE
  refine mkDefE TD S__law_drawing ⟨_, fun f cdv A outer s H E hr => (pss_cons (ps_set (i := 3) S__law_drawing.nd rfl (Or.inl rfl) (pe_callTy (kTup (K := K)) (by rfl) b_tuple (by decide +kernel) (pa_cons (pe_lc (own := [("_law_turn", 4)]) (by rfl) S__law_drawing.nd (pi_range1 (by rfl) b_range (pa_cons (pe_def D__law_roll (hr.mono (by omega)) (by rfl) pass0 (pa_cons (pv 0) (pa_cons (pe_op (kAdd (K := K)) (pv 1) pe_int) pa_nil))) pa_nil)) (blkOk_by (N := N__law_drawing) (sc := defScope st__law_drawing) (by decide +kernel)) (fun _ _ _ _ _ => pg_name (i := 4) S__law_drawing.nd rfl (by first | exact Or.inl rfl | exact Or.inr rfl)) (fun _ _ _ _ _ => pts_nil) (fun _ _ _ _ _ => (pe_def D__law_layer (hr.mono (by omega)) (by rfl) pass0 (pa_cons (pv 0) (pa_cons (pv 2) (pa_cons pe_int pa_nil)))))) pa_nil)))
      (pss_cons (ps_while PassesOwn.never (pt_cmpR op_gt (pe_def D__law_size (hr.mono (by omega)) (by rfl) pass0 (pa_cons (pv 3) pa_nil)) pe_int (nomark _)) (pss_one (ps_set (i := 3) S__law_drawing.nd rfl (Or.inl rfl) (pe_slice (kSl (K := K)) (pv 3) po_none (po_some (pe_un un_neg pe_int))))))
      (pss_one (ps_ret (pv 3))))), ?_⟩
  rintro rs m ⟨j, many, far, rfl, hd, y0, y1, f0, f1⟩
  have hj := hd.lt
  obtain ⟨v, m1, ev1, v0, v1, r1⟩ := ex_roll (K := K) (E := E0) (es := [.c j, .d (.int many), .d (.int far), .no, .no]) (i := 0) (te := tOp (rAddU K) (tVar 1) (tC (.int 1))) rfl (ev_op (ev_var rfl nofun) ev_int o_addI) hd (by omega) (by omega)
  have hi := ei_rng1 (K := K) (arg1 ev1) (by omega) (by omega)
  obtain ⟨ls, m2, hL, nL, gL, jL⟩ := exLc (K := K) (i := 4) (vs := [4]) (esw := wipeS [.c j, .d (.int many), .d (.int far), .no, .no] [4]) (te := tCall (spD K 3 gl) [] E0 (tCons (tVar 0) (tCons (tVar 2) (tCons (tC (.int 1)) tNil)))) (J := Rolled m j) (G := layerD far 1) (by simp) (rangeD 0 v.toNat) m1 r1 (by
    intro d mm hd2 rm
    obtain ⟨r, m', e1, hp⟩ := ex_callE (K := K) (E := E0) (n := 3) hgl (ta := tCons (tVar 0) (tCons (tVar 2) (tCons (tC (.int 1)) tNil))) (es := [.c j, .d (.int many), .d (.int far), .no, .d d]) (m := mm) (ea_cons (ev_var rfl nofun) (arg2 (ev_var rfl nofun) ev_int)) ⟨j, far, rfl, rm.die hj, f0, by omega⟩ rfl
    obtain ⟨x, rfl, gx, rx⟩ := hp j far rfl
    exact ⟨x, m', e1, gx, rm.trans rx⟩)
  rw [rangeD_len] at nL
  obtain ⟨i, ls', h1, h2, h3⟩ := while_cut (n := m.length) (s0 := .c j) (s1 := .d (.int many)) (s2 := .d (.int far)) (s4 := .no) (m := m2) f1 D__law_size v.toNat ls nL (by omega) gL
  refine exR_seq (sv_set (ev_cb (arg1 (el_d (el_lc hi hL (by rw [rangeD_len]; omega)))) c_tupL)) (exR_seq (sv_while h1) ⟨.d (.tuple ls'), m2, sv_ret0 (ev_var rfl nofun), jL.len, rfl, fun j' many' far' e => ?_⟩)
  cases e
  exact ⟨ls', rfl, by omega, h3, jL⟩
end
end K30

set_option Elab.async false
set_option linter.all false
set_option maxRecDepth 100000
set_option maxHeartbeats 4000000
namespace K30
variable [DL.Tbs]
open PySem PySem.Spec PyProof.Rows L2 DL HX TX SX
/-! ### drawings are data that may be compared -/
def laid (k : Nat) (d : PyData) : Prop := d.canLay0 = true ∧ d.depth ≤ k
theorem laid_all {k : Nat} : ∀ {xs : List PyData}, (∀ x, x ∈ xs → laid k x) → PyData.canLayAll0 xs = true ∧ PyData.depthAll xs ≤ k
  | [], _ => ⟨by simp [PyData.canLayAll0], by simp [PyData.depthAll]⟩
  | x :: xs, h => by
    obtain ⟨a, b⟩ := h x (by simp)
    obtain ⟨c, d⟩ := laid_all fun y hy => h y (List.mem_cons_of_mem _ hy)
    exact ⟨by rw [PyData.canLayAll0, a, c]; rfl, by rw [PyData.depthAll]; omega⟩
theorem laid_tup {k : Nat} {xs : List PyData} (h : ∀ x, x ∈ xs → laid k x) : laid (k + 1) (.tuple xs) := by
  obtain ⟨a, b⟩ := laid_all h
  exact ⟨by rw [PyData.canLay0]; exact a, by rw [PyData.depth]; omega⟩
theorem laid_int {k : Nat} {i : Int} : laid k (.int i) := ⟨by simp [PyData.canLay0], by simp [PyData.depth]⟩
theorem laid_non {k : Nat} : laid k .none := ⟨by simp [PyData.canLay0], by simp [PyData.depth]⟩
theorem laid_str {k : Nat} {x : Str} (h : PyData.canLay0 (.str x) = true) : laid k (.str x) := ⟨h, by simp [PyData.depth]⟩
theorem laid_up {j k : Nat} {d : PyData} (h : laid j d) (e : j ≤ k) : laid k d := ⟨h.1, Nat.le_trans h.2 e⟩
theorem short_laid {v : PyData} (h : shortNums v) : laid 1 v := by
  obtain ⟨⟨ds, rfl, _, hd⟩, _⟩ := h
  exact laid_tup fun x hx => by
    obtain ⟨i, rfl, _⟩ := hd x hx
    exact laid_int
theorem shape_laid {v : PyData} (h : shapeM v = true) : laid 4 v := by
  obtain ⟨r, ls, rfl, hr, _, hl⟩ := shape_parts h
  refine laid_tup fun x hx => ?_
  simp only [List.mem_cons, List.not_mem_nil, or_false] at hx
  rcases hx with rfl | rfl
  · rcases hr with rfl | rfl <;> exact laid_str (by decide +kernel)
  · refine laid_tup fun l hl' => ?_
    obtain ⟨ps, rfl, _, hp⟩ := loop_pts (hl l hl')
    exact laid_tup fun p hp' => short_laid (hp p hp')
theorem layer_laid : ∀ (n : Nat) {v : PyData}, nestedM n v = true → laid (5 + 2 * n) v := by
  intro n
  induction n with
  | zero =>
    intro v h
    rcases nested_parts h with ⟨s, c, o, rfl, hs, hc, ho⟩ | ⟨s, o, rfl, hs, ho⟩ | ⟨j, ls, o, c, mt, e, _⟩
    · refine laid_tup fun x hx => ?_
      simp only [List.mem_cons, List.not_mem_nil, or_false] at hx
      rcases hx with rfl | rfl | rfl | rfl
      · exact laid_str (by decide +kernel)
      · exact shape_laid hs
      · exact laid_up (short_laid (colour_short hc)) (by decide)
      · exact laid_up (short_laid (opacity_short ho)) (by decide)
    · refine laid_tup fun x hx => ?_
      simp only [List.mem_cons, List.not_mem_nil, or_false] at hx
      rcases hx with rfl | rfl | rfl
      · exact laid_str (by decide +kernel)
      · exact shape_laid hs
      · exact laid_up (short_laid (opacity_short ho)) (by decide)
    · omega
  | succ n ih =>
    intro v h
    rcases nested_parts h with ⟨s, c, o, rfl, hs, hc, ho⟩ | ⟨s, o, rfl, hs, ho⟩ | ⟨j, ls, o, c, mt, e, rfl, h4, hn, ho, hc, hm⟩
    · refine laid_up (j := 5) (laid_tup fun x hx => ?_) (by omega)
      simp only [List.mem_cons, List.not_mem_nil, or_false] at hx
      rcases hx with rfl | rfl | rfl | rfl
      · exact laid_str (by decide +kernel)
      · exact shape_laid hs
      · exact laid_up (short_laid (colour_short hc)) (by decide)
      · exact laid_up (short_laid (opacity_short ho)) (by decide)
    · refine laid_up (j := 5) (laid_tup fun x hx => ?_) (by omega)
      simp only [List.mem_cons, List.not_mem_nil, or_false] at hx
      rcases hx with rfl | rfl | rfl
      · exact laid_str (by decide +kernel)
      · exact shape_laid hs
      · exact laid_up (short_laid (opacity_short ho)) (by decide)
    · cases e
      refine laid_up (j := (5 + 2 * n + 1) + 1) (laid_tup fun x hx => ?_) (by omega)
      simp only [List.mem_cons, List.not_mem_nil, or_false] at hx
      rcases hx with rfl | rfl | rfl | rfl | rfl
      · exact laid_str (by decide +kernel)
      · exact laid_tup fun l hl => ih (hn l hl)
      · exact laid_up (short_laid (opacity_short ho)) (by omega)
      · cases hN : isNone x with
        | true =>
          cases x <;> first | (cases hN; done) | exact laid_non
        | false =>
          rw [hN, Bool.false_or] at hc
          exact laid_up (shape_laid hc) (by omega)
      · exact laid_up (short_laid (matrix_short hm)) (by omega)
theorem draw_shaped {ls : List PyData} (h : drawM (.tuple ls) = true) : SeqAt.shaped (.tuple ls) = true ∧ PyData.eqv (.tuple ls) (.tuple ls) = true := by
  obtain ⟨a, b⟩ := laid_tup fun l hl => layer_laid 2 ((draw_parts h).2 l hl)
  refine ⟨?_, SeqAt.eqv_refl _ a⟩
  unfold SeqAt.shaped
  rw [a, Bool.true_and, decide_eq_true_eq]
  omega
/-! ### lengths of drawn drawings' texts -/
theorem len3 {a b c : L} : (TL.joinL [32] [a, b, c]).length = a.length + b.length + c.length + 2 := by
  simp [TL.joinL]; omega
theorem len4 {a b c d : L} : (TL.joinL [32] [a, b, c, d]).length = a.length + b.length + c.length + d.length + 3 := by
  simp [TL.joinL]; omega
theorem len5 {a b c d e : L} : (TL.joinL [32] [a, b, c, d, e]).length = a.length + b.length + c.length + d.length + e.length + 4 := by
  simp [TL.joinL]; omega
theorem sep3 : SEP.length = 3 := rfl
theorem plain_text {n : Nat} {far : Int} {v : PyData} (h : nestedM n v = true) (p : plainD far v) : (fmtLayer n v).length ≤ 509 := by
  rcases nested_parts h with ⟨s, c, o, rfl, hs, hc, ho⟩ | ⟨s, o, rfl, hs, ho⟩ | ⟨j, ls, o, c, mt, e, rfl, _⟩
  · have := shape_len hs
    have := nums_len (s := 46) (colour_short hc)
    have := nums_len (s := 47) (opacity_short ho)
    rw [fmt_fill, len4]
    have : wFill.length = 4 := rfl
    omega
  · have := shape_len hs
    have := nums_len (s := 47) (opacity_short ho)
    rw [fmt_rub, len3]
    have : wRub.length = 3 := rfl
    omega
  · rcases p with ⟨_, _, e1, _⟩ | ⟨_, _, _, e1, _⟩
    · cases e1
    · cases e1
theorem group_text {n : Nat} {B : Nat} {ls : List PyData} {o c mt : PyData} (hl : ls.length ≤ 2) (ho : opacityM o = true) (hc : (isNone c || shapeM c) = true) (hm : matrixM mt = true) (hB : ∀ l, l ∈ ls → (fmtLayer n l).length ≤ B) : (fmtLayer (n + 1) (.tuple [.str "group", .tuple ls, o, c, mt])).length ≤ 2 * (B + 3) + 513 := by
  have h1 := nums_len (s := 46) (matrix_short hm)
  have h2 := nums_len (s := 47) (opacity_short ho)
  have h3 := clip_len hc
  have h4 := joinL_len (S := SEP) (B := B) (ps := ls.map (fmtLayer n)) fun p hp => by
    obtain ⟨x, hx, rfl⟩ := List.mem_map.mp hp
    exact hB x hx
  rw [List.length_map, sep3] at h4
  have h5 : ls.length * (B + 3) ≤ 2 * (B + 3) := Nat.mul_le_mul_right _ hl
  have h6 : (fmtLayersF (fmtLayer n) ls).length ≤ 2 * (B + 3) := Nat.le_trans h4 h5
  rw [fmt_group, len5]
  simp only [List.length_append, List.length_cons, List.length_nil]
  have : wGroup.length = 5 := rfl
  omega
theorem drawn_text {n : Nat} {far : Int} {v : PyData} (h : nestedM n v = true) (p : layerD far 1 v) : (fmtLayer n v).length ≤ 1537 := by
  rcases p with p | ⟨ls, o, c, mt, rfl, h2, hp, _⟩
  · exact Nat.le_trans (plain_text h p) (by decide)
  · rcases nested_parts h with ⟨_, _, _, e, _⟩ | ⟨_, _, e, _⟩ | ⟨j, ls', o', c', mt', rfl, e, h4, hn, ho, hc, hm⟩
    · cases e
    · cases e
    · cases e
      exact Nat.le_trans (group_text h2 ho hc hm fun l hl => plain_text (hn l hl) (hp l hl)) (by decide)
theorem top_text {far : Int} {ls : List PyData} (h3 : ls.length ≤ 3) (hn : ∀ l, l ∈ ls → nestedM 2 l = true) (hp : ∀ l, l ∈ ls → layerD far 1 l) : (fmtLayersF (fmtLayer 2) ls).length ≤ 10000 := by
  have h4 := joinL_len (S := SEP) (B := 1537) (ps := ls.map (fmtLayer 2)) fun p hp' => by
    obtain ⟨x, hx, rfl⟩ := List.mem_map.mp hp'
    exact drawn_text (hn x hx) (hp x hx)
  rw [List.length_map, sep3] at h4
  have h5 : ls.length * (1537 + 3) ≤ 3 * (1537 + 3) := Nat.mul_le_mul_right _ h3
  exact Nat.le_trans h4 (by omega)
def wrapD (ls : List PyData) : PyData := .tuple [.str "group", .tuple (ls.take 2), .tuple [.int 2, .int 4], .none, .tuple [.int 1, .int 0, .int 0, .int (-1), .int 9, .int (-9)]]
theorem wrap_text {far : Int} {ls : List PyData} (hn : nestedM 2 (wrapD ls) = true) (hp : ∀ l, l ∈ ls → layerD far 1 l) : (fmtLayersF (fmtLayer 2) [wrapD ls]).length ≤ 10000 := by
  rcases nested_parts hn with ⟨_, _, _, e, _⟩ | ⟨_, _, e, _⟩ | ⟨j, ls', o', c', mt', e2, e, h4, hn, ho, hc, hm⟩
  · cases e
  · cases e
  · cases e
    cases e2
    have h := group_text (n := 1) (B := 1537) (ls := ls.take 2) (by rw [List.length_take]; omega) ho hc hm fun l hl => drawn_text (hn l hl) (hp l (List.mem_of_mem_take hl))
    exact Nat.le_trans h (by decide)
/-! ### what is_drawing may be asked -/
theorem okL_down : ∀ (n : Nat) {v : PyData}, okL (n + 1) v = true → okL n v = true := by
  intro n
  induction n with
  | zero =>
    intro v h
    cases v with
    | tuple xs =>
      cases xs with
      | nil => rfl
      | cons k xs =>
        cases k with
        | str k =>
          unfold okL at h ⊢
          simp only [Bool.and_eq_true] at h ⊢
          exact ⟨h.1, trivial⟩
        | _ => cases h
    | _ => rfl
  | succ n ih =>
    intro v h
    cases v with
    | tuple xs =>
      cases xs with
      | nil => rfl
      | cons k xs =>
        cases k with
        | str k =>
          unfold okL at h ⊢
          simp only [Bool.and_eq_true] at h ⊢
          refine ⟨h.1, ?_⟩
          have h2 := h.2
          by_cases e : k = "group"
          · rw [if_pos e] at h2 ⊢
            unfold okHead at h2 ⊢
            split
            · rename_i ls _ 
              exact List.all_eq_true.mpr fun l hl => ih (List.all_eq_true.mp h2 l hl)
            · rfl
          · rw [if_neg e]
        | _ => cases h
    | _ => rfl
theorem wrap_ok {ls : List PyData} (h : ∀ l, l ∈ ls → okL 2 l = true) : okLs 2 (.tuple [wrapD ls]) = true := by
  show [wrapD ls].all (okL 2) = true
  rw [List.all_cons]
  have : okL 2 (wrapD ls) = true := by
    unfold wrapD okL
    show (true && true && (if ("group" : Str) = "group" then (ls.take 2).all (okL 1) else true)) = true
    rw [if_pos rfl, List.all_eq_true.mpr fun l hl => okL_down 1 (h l (List.mem_of_mem_take hl))]
    rfl
  rw [this]; rfl
/-! ### reading back -/
theorem parse_ok {ls : List PyData} (h : drawM (.tuple ls) = true) (hl : (fmtLayersF (fmtLayer 2) ls).length ≤ 10000) : parseM (.str (mk (fmtLayersF (fmtLayer 2) ls))) = some (.tuple ls) := by
  have e : readLayersF (readLayer 2) (TL.tl (mk (fmtLayersF (fmtLayer 2) ls))) = some ls := by
    rw [tl_of_mk]
    exact layers_read fun l hl => layer_good 2 ((draw_parts h).2 l hl)
  show (if (mk (fmtLayersF (fmtLayer 2) ls)).length ≤ 10000 then (match readLayersF (readLayer 2) (TL.tl (mk (fmtLayersF (fmtLayer 2) ls))) with
    | some ls => if drawM (.tuple ls) = true then some (.tuple ls) else none
    | none => none) else none) = some (PyData.tuple ls)
  rw [if_pos (by rw [mk_len]; exact hl), e]
  exact if_pos h
theorem parse_back {v : PyData} {d : PyData} (h : parseM v = some d) : ∃ ls, d = .tuple ls ∧ okLs 2 (.tuple ls) = true ∧ drawM (.tuple ls) = true ∧ v = .str (mk (fmtLayersF (fmtLayer 2) ls)) := by
  cases v with
  | str t =>
    have h : (if t.length ≤ 10000 then (match readLayersF (readLayer 2) (TL.tl t) with
      | some ls => if drawM (.tuple ls) = true then some (PyData.tuple ls) else none
      | none => none) else none) = some d := h
    split at h
    · split at h
      · rename_i ls e
        split at h
        · rename_i hd
          cases h
          exact ⟨ls, rfl, layers_okL e, hd, by rw [layers_back e, mk_of_tl]⟩
        · cases h
      · cases h
    · cases h
  | _ => cases h
theorem parse_long {t : Str} (h1 : 38 ∉ TL.tl t) (h2 : (TL.tl t).head? = some 114) (h3 : 489 < t.length) : parseM (.str t) = none := by
  cases hp : parseM (.str t) with
  | none => rfl
  | some d =>
    exfalso
    obtain ⟨ls, _, _, hd, e⟩ := parse_back hp
    have e : t = mk (fmtLayersF (fmtLayer 2) ls) := by injection e
    obtain ⟨_, hn⟩ := draw_parts hd
    rw [TL.len_tl] at h3
    rw [e, tl_of_mk] at h1 h2 h3
    match ls, hn with
    | [], _ => cases h2
    | [l], hn =>
      have e1 : fmtLayersF (fmtLayer 2) [l] = fmtLayer 2 l := rfl
      rw [e1] at h2 h3
      rcases nested_parts (hn l (by simp)) with ⟨s, c, o, rfl, hs, hc, ho⟩ | ⟨s, o, rfl, hs, ho⟩ | ⟨j, ls', o, c, mt, e, rfl, _⟩
      · rw [fmt_fill] at h2
        cases h2
      · have := shape_len hs
        have := nums_len (s := 47) (opacity_short ho)
        rw [fmt_rub, len3] at h3
        have : wRub.length = 3 := rfl
        omega
      · cases e
        rw [fmt_group] at h2
        cases h2
    | a :: b :: r, _ =>
      refine h1 ?_
      show 38 ∈ TL.joinL SEP (fmtLayer 2 a :: (b :: r).map (fmtLayer 2))
      rw [joinL_cons (by simp)]
      exact List.mem_append_right _ (List.mem_append_left _ (by decide))
theorem mem_mulF {c : Nat} {a : Array Nat} : ∀ (n : Nat) {acc : Array Nat}, c ∈ ((List.replicate n a).foldl (· ++ ·) acc).toList → c ∈ acc.toList ∨ c ∈ a.toList
  | 0, _, h => .inl h
  | n + 1, acc, h => by
    rw [List.replicate_succ, List.foldl_cons] at h
    rcases mem_mulF n h with h | h
    · rw [Array.toList_append, List.mem_append] at h
      exact h
    · exact .inr h
theorem mem_mul {c : Nat} {x : Str} {n : Int} (h : c ∈ TL.tl (Txt.mul x n)) : c ∈ TL.tl x := by
  unfold Txt.mul at h
  split at h
  · cases h
  · split at h
    · exact h
    · rcases mem_mulF _ h with h | h
      · cases h
      · exact h
def ones : Str := Txt.mul "1" 5000
theorem ones_len : ones.length = 5000 := by
  have := PyProof.Rows.len_mul "1" 5000
  have e : ("1" : Str).length = 1 := by decide +kernel
  rw [e] at this
  have z : ((Txt.mul "1" 5000).length : Int) = 5000 := by rw [this]; rfl
  unfold ones
  omega
def nums5 : List Str := ["+1", ones, "", "--1", "1_0"]
def cases6 (d : PyData) : List PyData := [.none, .int 5, d, .str " ", .str "fill", .str "fill odd(0,0;1,0;0,1) 1.0.0 1/2 & "]
def cases7 : List PyData := [.str "rub odd(0,0;1,0;0,1) 01/2"]
def rubT (x : Str) : Str := ("rub odd(" ++ x) ++ ",0;1,0;0,1) 1/2"
theorem rub_ones : parseM (.str (rubT ones)) = none := by
  have e : TL.tl (rubT ones) = (TL.tl ("rub odd(" : Str) ++ TL.tl ones) ++ TL.tl (",0;1,0;0,1) 1/2" : Str) := by unfold rubT; rw [TL.tl_append, TL.tl_append]
  refine parse_long ?_ ?_ ?_
  · rw [e]
    intro h
    rcases List.mem_append.mp h with h | h
    · rcases List.mem_append.mp h with h | h
      · exact absurd h (by decide +kernel)
      · exact absurd (mem_mul h) (by decide +kernel)
    · exact absurd h (by decide +kernel)
  · rw [e]
    have : TL.tl ("rub odd(" : Str) = 114 :: [117, 98, 32, 111, 100, 100, 40] := by decide +kernel
    rw [this]
    rfl
  · have := ones_len
    unfold rubT
    rw [len_app, len_app]
    omega
theorem rub_no {x : Str} (h : x ∈ nums5) : parseM (.str (rubT x)) = none := by
  simp only [nums5, List.mem_cons, List.not_mem_nil, or_false] at h
  rcases h with rfl | rfl | rfl | rfl | rfl
  · decide +kernel
  · exact rub_ones
  · decide +kernel
  · decide +kernel
  · decide +kernel
theorem case_no {ls : List PyData} {d : PyData} (h : d ∈ cases6 (.tuple ls) ++ cases7) : parseM d = none ∧ ∀ t, d = .str t → t.length ≤ 1000000 := by
  simp only [cases6, cases7, List.mem_append, List.mem_cons, List.not_mem_nil, or_false] at h
  rcases h with (rfl | rfl | rfl | rfl | rfl | rfl) | rfl
  · exact ⟨rfl, nofun⟩
  · exact ⟨rfl, nofun⟩
  · exact ⟨rfl, nofun⟩
  · exact ⟨by decide +kernel, fun t e => by cases e; decide +kernel⟩
  · exact ⟨by decide +kernel, fun t e => by cases e; decide +kernel⟩
  · exact ⟨by decide +kernel, fun t e => by cases e; decide +kernel⟩
  · exact ⟨by decide +kernel, fun t e => by cases e; decide +kernel⟩
theorem parse_empty : parseM (.str "") = some (.tuple []) ∧ fmtLayersF (fmtLayer 2) [] = [] ∧ drawM (.tuple []) = true := ⟨by
  show (if ("" : Str).length ≤ 10000 then (match readLayersF (readLayer 2) (TL.tl ("" : Str)) with
    | some ls => if drawM (.tuple ls) = true then some (PyData.tuple ls) else none
    | none => none) else none) = some (PyData.tuple [])
  rfl, rfl, by decide +kernel⟩
end K30

set_option Elab.async false
set_option linter.all false
set_option maxRecDepth 100000
set_option maxHeartbeats 4000000
namespace K30
variable [DL.Tbs]
open PySem PySem.Spec PyProof.Rows L2 DL HX LamX
/-- _law_told(lambda: ..) -/
theorem pe_toldL {X : Cx} {T : List (Addr × Str)} {CS c Pt fT g : Addr} {fd fdT : FuncData} {spT : SpP} {t : XK → TE} {k : Nat} {params : Arguments} {body : Expr} {scope : Scope} {p lpos pos : Pos} (hg : Gl X "_law_told") (F : Fun X.K "_law_told" "_law_told" st__law_told g fd) (hm : X.mg "_law_told" = some (.ref g)) (hB : L2.Binds X.K fd ["_law_deed"] [])
    (mx : X.mg "PictureError" = some (.ref CS)) (mt : X.mg "_law_term" = some (.ref fT)) (kt : PySem.W.keepIn X.K (.ref fT) = true) (hbT : L2.Binds X.K fdT ["_law_e"] []) (FT : FnP X.prog X.w X.K X.mg X.base C8.CX0 1 fT fdT ["_law_e"] spT)
    (TB : TabB X.base X.mg c Pt) (hcode : X.env.code = .ref c) (hmT : (Pt, X.env.qual ++ "<lambda>") ∈ T) (hu : ∀ p ∈ T, p.1 = Pt → p.2 = X.env.qual ++ "<lambda>") (hr : Room (k + 2) X.A) (L : LamS X.env.scope scope) (hdef : defaultsOf params X.env = ([], []))
    (hbind : ∀ (q : Str) (cl : List (Str × Addr)) (pm cv ctv : Value), bindArgs (PySem.W.kla_fn "<lambda>" q params body scope cl pm cv ctv) ⟨[], []⟩ = pure [])
    (hbody : ∀ (A : Around) (outer : List Env) (s : Shared) (H : Hp) (E : XK) (f c' : Addr), Room k (A.deeper (lamEnv X scope s.heap.objs.size f c')) → PE (lamN X A outer s H E scope f c') body (t E)) :
    PE X (.Call (.Name "_law_told" p) [.Lambda params body scope lpos] [] pos) (tTold X.K T Pt CS spT t) := by
  obtain ⟨oc, od, kV, doc, pm, an, cdv, ct, osl, rfl, lk, hcd⟩ := F.ex
  exact pe_told (en := "_law_e") (Ng := N__law_told) hg hm F.kp lk hcd hB S__law_told rfl rfl (.inl rfl) rfl rfl rfl mx mt kt hbT FT (by omega) TB hcode hmT hu hr L hdef hbind hbody (by decide) (by decide) (by decide) (by decide) (by decide) (by decide) (by decide)
theorem passL {X : Cx} {A : Around} {outer : List Env} {s : Shared} {H : Hp} {E : XK} {scope : Scope} {f c' : Addr} : Passes (L2N.CX X.prog X.w) (lamN X A outer s H E scope f c') E :=
  L2N.passes_call (X := lamN X A outer s H E scope f c') (L2N.takes_of rfl rfl rfl rfl) fun _ _ _ _ h => h
/-- the body count_points((_law_bad,)) -/
theorem pe_lamBody {X : Cx} {k i : Nat} {g : List Sl → M → Res → M → Prop} {scope : Scope} {p1 p2 p3 p4 : Pos} {j : Nat} (D : DefX X.prog X.w X.K X.mg X.base k "count_points" ["drawing"] g) (hs : scope.names.lookup ("count_points" : Str) = some .globalImplicit) (hf : scope.names.lookup ("_law_bad" : Str) = some .free)
    (hN : X.N[i]? = some "_law_bad") (A : Around) (outer : List Env) (s : Shared) (H : Hp) (E : XK) (f c' : Addr) (hr : Room k (A.deeper (lamEnv X scope s.heap.objs.size f c'))) :
    PE (lamN X A outer s H E scope f c') (.Call (.Name "count_points" p1) [.Tuple [.Name "_law_bad" p2] j p3] [] p4) (tCall (spX X.K 1 g) [] E (tCons (tTup (tCons (tVar i) tNil)) tNil)) :=
  pe_def (X := lamN X A outer s H E scope f c') D hr hs passL (pa_cons (pe_tup (pa_cons (pe_var hN (.inr (.inr hf))) pa_nil)) pa_nil)
end K30

set_option Elab.async false
set_option linter.all false
set_option maxRecDepth 100000
set_option maxHeartbeats 4000000
namespace K30
variable [DL.Tbs]
open PySem PySem.Spec PyProof.Rows L2 DL HX TX SX
section
variable {P : Program} {w : World} {K : PySem.W.Frag} {mg : Str → Option Value} {base : Heap}
theorem turn_of {tb : TS} {es : List Sl} {m : M} {a : Addr} {k : Nat} (h : ∃ es2 m2, Sv K 0 tb es m (.nx es2 m2) ∧ ∃ es', es2 = .v (.ref a) :: es' ∧ es'.length = k) : ∃ es' m', Sv K 0 tb es m (.nx (.v (.ref a) :: es') m') ∧ es'.length = k := by
  obtain ⟨es2, m2, h, es', rfl, hl⟩ := h
  exact ⟨es', m2, h, hl⟩
theorem exN_for {es : List Sl} {m m1 : M} {n i : Nat} {wi : TI} {tb rest : TS} {ds : List PyData} {Q : List Sl → M → Prop} (J : Nat → List Sl → M → Prop) (hi : EvI K wi es m ds m1) (h0 : J 0 es m1)
    (st : ∀ (l : Nat) (d : PyData) (es : List Sl) (m : M), ds[l]? = some d → J l es m → ∃ es2 m2, (Sv K n tb (es.set i (.d d)) m (.nx es2 m2) ∨ Sv K n tb (es.set i (.d d)) m (.cnt es2 m2)) ∧ J (l + 1) es2 m2)
    (hd : ∀ es m, J ds.length es m → ∃ es2 m2, Sv K n rest es m (.nx es2 m2) ∧ Q es2 m2) : ∃ es2 m2, Sv K n (tSeq (tFor wi (gName i) tb) rest) es m (.nx es2 m2) ∧ Q es2 m2 := by
  obtain ⟨es', m', h1, h2⟩ := sv_forIe (n := n) (i := i) (tb := tb) J hi h0 st
  exact ex_then h1 (hd es' m' h2)
theorem sv_par {n i j : Nat} {es : List Sl} {m m1 : M} {ta : TA} {r1 r2 : Sl} (h : EvA K ta es m [r1, r2] m1) : Sv K n (tPar i j ta) es m (.nx ((es.set i r1).set j r2) m1) := fun σ H H0 ρ hn w e D q =>
  h σ H H0 ρ w e _ fun vs H1 H01 s1 w1 k => by
    cases k with
    | cons a t =>
      cases t with
      | cons b u =>
        cases u
        exact ⟨_, _, rfl, q _ ρ H1 H01 s1.low w1 (((e.mono s1.ex).set a).set b)⟩
theorem cutS_len {z : Str} {lo hi : Option Int} : (cutS z lo hi).length ≤ z.length := by
  show (((z.cps.toList.drop _).take _).toArray).size ≤ z.cps.size
  rw [List.size_toArray, List.length_take, List.length_drop, Array.length_toList]
  omega
theorem atI_in {α : Type} {xs : List α} {i : Int} (h0 : 0 ≤ i) (h1 : i < xs.length) : ∃ x, atI xs i = some x := by
  unfold atI ixN
  refine ⟨xs[i.toNat]'(by omega), ?_⟩
  rw [if_pos h0, if_pos h1]
  exact List.getElem?_eq_getElem _
def badD : PyData := .tuple [.str "error", .str "InvalidText"]
theorem bad_shaped : SeqAt.shaped badD = true := by decide +kernel
theorem bad_eqv : PyData.eqv badD badD = true := by decide +kernel
def toldD : Option PyData → PyData
  | none => badD
  | some d => d
theorem ev_badD {es : List Sl} {m : M} : EvE K (tTup (tCons (tC (.str "error")) (tCons (tC (.str "InvalidText")) tNil))) es m (.d badD) m := ev_tup (arg2 ev_str ev_str) (ds := [.str "error", .str "InvalidText"]) rfl (by simp)
theorem ev_tell {Pt : Addr} {q : Str} {D : Addr} {cs : Cs} {v : PyData} {es : List Sl} {m : M} {te : TE} (hmT : (Pt, q) ∈ Tbs.T) (eD : ErrD K cs 10 D) (h : EvE K te es m (.d v) m) (hv : ∀ t, v = .str t → t.length ≤ 1000000) :
    EvE K (tTold K Tbs.T Pt cs.PictureError (spTerm K (R_term K cs)) fun E => tCall (spX K 1 (xG D R_parse)) [] E (tCons te tNil)) es m (.d (toldD (parseM v))) m := by
  have q := x_call (K := K) (D := D) (R := R_parse) (n := 1) (arg1 h) (ds := [v]) rfl ⟨v, rfl, hv, rfl⟩ rfl
  cases hp : parseM v with
  | none =>
    rw [hp] at q
    exact ev_told (D := D) (y := badD) hmT q eD.caught ⟨10, by decide, eD, rfl⟩
  | some d =>
    rw [hp] at q
    exact ev_told0 hmT q
theorem eb_bad {Pt : Addr} {q : Str} {D : Addr} {cs : Cs} {v : PyData} {es : List Sl} {m : M} {te : TE} (hmT : (Pt, q) ∈ Tbs.T) (eD : ErrD K cs 10 D) (h : EvE K te es m (.d v) m) (hv : ∀ t, v = .str t → t.length ≤ 1000000) (hn : parseM v = none) :
    EvB K (tTest (tOp (rNeU K) (tTold K Tbs.T Pt cs.PictureError (spTerm K (R_term K cs)) fun E => tCall (spX K 1 (xG D R_parse)) [] E (tCons te tNil)) (tTup (tCons (tC (.str "error")) (tCons (tC (.str "InvalidText")) tNil))))) es m false m := by
  have e := ev_tell (K := K) hmT eD h hv
  rw [hn] at e
  exact eb_cast (eb_test (ev_op e ev_badD (o_neD bad_shaped bad_shaped))) (by show (!PyData.eqv badD badD) = false; rw [bad_eqv]; rfl)
def spLaw (K : PySem.W.Frag) : Sp := fun vs H Q _ => LamX.Tabs Tbs.T H ∧ ∃ (a : Addr) (ns : List Int), vs = [.ref a] ∧ SqL K H a (ns.map V.int) ∧ ns.length ≤ 63 ∧ ∀ H', Q (.bl true) H'
theorem c_law {k0 : Nat} (hk0 : 4 ≤ k0) {f cc Pt CS fT gT : Addr} {fd fdT fdTold : FuncData} {D : Addr} {cs : Cs} (F : Fun K "law" "law" st_law f fd) (hcc : fd.code = .ref cc) (b_len : mg "len" = none) (b_range : mg "range" = none)
    (D__law_rounds : DefC P w K mg base CX0 k0 "_law_rounds" ["_law_script", "_law_most"] (spRounds K)) (DEdr : DefE P w K mg base k0 "_law_drawing" ["_law_dice", "_law_many", "_law_far"] PreDr PostDr)
    (D__law_roll : DefC P w K mg base CX0 k0 "_law_roll" ["_law_dice", "_law_many"] (spD K 2 rollG))
    (D_is_drawing : PureC P w K mg base k0 "is_drawing" ["value"] R_is_drawing) (D__law_text : PureC P w K mg base k0 "_law_text" ["_law_drawing_here"] (R_flayers 2)) (D_format_drawing : PureC P w K mg base k0 "format_drawing" ["drawing"] R_fdrawing)
    (D_parse_drawing : PureX P w K mg base D k0 "parse_drawing" ["text"] R_parse)
    (FTold : Fun K "_law_told" "_law_told" st__law_told gT fdTold) (mTold : mg "_law_told" = some (.ref gT)) (bTold : L2.Binds K fdTold ["_law_deed"] []) (mPE : mg "PictureError" = some (.ref CS)) (mTerm : mg "_law_term" = some (.ref fT)) (kTerm : PySem.W.keepIn K (.ref fT) = true) (bTerm : L2.Binds K fdT ["_law_e"] [])
    (FTerm : FnP P w K mg base C8.CX0 1 fT fdT ["_law_e"] (spTerm K (R_term K cs))) (TB : LamX.TabB base mg cc Pt) (hmT : (Pt, ("law.<locals>." : Str) ++ "<lambda>") ∈ Tbs.T) (huT : ∀ p ∈ Tbs.T, p.1 = Pt → p.2 = ("law.<locals>." : Str) ++ "<lambda>")
    (eD : ErrD K cs 10 D) (hPE : cs.PictureError = CS) : FnOk P w K mg base CX0 (k0 + 3) f fd ["_law_script"] (spLaw K) := by
  obtain ⟨oc, od, kV, doc, pm, an, cdv, ct, osl, rfl, lk, hcd⟩ := F.ex
  obtain rfl : cdv = .ref cc := hcc
  subst hPE
  obtain ⟨gD, hgD, D__law_drawing⟩ := DEdr
  refine fn_of lk hcd S_law (fun vs H Q E h => by obtain ⟨_, a, ns, rfl, _⟩ := h; rfl) fun A outer s H vs Q E hr h => ?_
  obtain ⟨tb0, a, ns, rfl, hS, hn, q⟩ := h
  have hu := hr.units
  have hrT := hr
  have hcode : (cxOf CX0 P w K mg base N_law "law" (defScope st_law) f (.ref cc) A outer s H E).nox.env.code = .ref cc := rfl
  refine ⟨_, L2.PSs.nox (pss_cons (ps_for PassesOwn.never rfl (kSeq (K := K) (pe_def D__law_rounds (hr.mono (by omega)) (by rfl) pass0 (pa_cons (pv 0) (pa_cons pe_int pa_nil)))) (pg_name (i := 1) S_law.nd rfl (Or.inl rfl)) (pss_cons (ps_set (i := 2) S_law.nd rfl (Or.inl rfl) (pe_def D__law_drawing (hr.mono (by omega)) (by rfl) pass0 (pa_cons (pv 1) (pa_cons pe_int (pa_cons pe_int pa_nil)))))
      (pss_cons (ps_if (pt_cmpR (kEq (K := K) hu) (pe_def D__law_roll (hr.mono (by omega)) (by rfl) pass0 (pa_cons (pv 1) (pa_cons pe_int pa_nil))) pe_int (nomark _)) (pss_one (ps_set (i := 2) S_law.nd rfl (Or.inl rfl) (pe_tup (pa_cons (pe_tup (pa_cons pe_str (pa_cons (pe_slice (kSlU (K := K)) (pv 2) po_none (po_some pe_int)) (pa_cons (pe_tup (pa_cons pe_int (pa_cons pe_int pa_nil))) (pa_cons pe_non (pa_cons (pe_tup (pa_cons pe_int (pa_cons pe_int (pa_cons pe_int (pa_cons (pe_un un_neg pe_int) (pa_cons pe_int (pa_cons (pe_un un_neg pe_int) pa_nil))))))) pa_nil)))))) pa_nil)))) pss_nil)
      (pss_cons (ps_if (pt_val (pe_def D_is_drawing (hr.mono (by omega)) (by rfl) pass0 (pa_cons (pv 2) pa_nil))) (pss_cons (ps_set (i := 3) S_law.nd rfl (Or.inr rfl) (pe_def D__law_text (hr.mono (by omega)) (by rfl) pass0 (pa_cons (pv 2) pa_nil)))
      (pss_cons (ps_if (PW.pt (pw_or (pt_cmpR (kNe (K := K) hu) (pe_def D_format_drawing (hr.mono (by omega)) (by rfl) pass0 (pa_cons (pv 2) pa_nil)) (pv 3) (nomark _)) (pw_or1 (pt_cmpR (kNe (K := K) hu) (pe_toldL (T := Tbs.T) (by rfl) FTold mTold bTold mPE mTerm kTerm bTerm FTerm TB hcode hmT huT hrT (LamX.lamS_by (sc := defScope st_law) (by decide +kernel)) rfl (fun _ _ _ _ _ => rfl) (fun A o s H E f c' r => pe_def D_parse_drawing r (by rfl) passL (pa_cons (pv 3) pa_nil))) (pv 2) (nomark _))))) (pss_one (ps_ret pe_bl)) pss_nil)
      (pss_one (ps_for PassesOwn.never rfl (pi_range1 (by rfl) b_range (pa_cons pe_int pa_nil)) (pg_name (i := 4) S_law.nd rfl (Or.inl rfl)) (pss_cons (ps_par (i := 5) (j := 6) rfl S_law.nd rfl rfl (by decide) rfl rfl (pa_cons (pe_def D__law_roll (hr.mono (by omega)) (by rfl) pass0 (pa_cons (pv 1) (pa_cons (pe_op (kAddV (K := K)) (pe_callB (kLen (K := K)) (by rfl) b_len (by decide +kernel) (pa_cons (pv 3) pa_nil)) pe_int) pa_nil))) (pa_cons (pe_ix (kIx (K := K)) pe_str (pe_def D__law_roll (hr.mono (by omega)) (by rfl) pass0 (pa_cons (pv 1) (pa_cons pe_int pa_nil))) (fun _ _ => rfl)) pa_nil)) (by rfl))
      (pss_cons (ps_set (i := 7) S_law.nd rfl (Or.inr rfl) (pe_ix (kIx (K := K)) (pe_lst (pa_cons (pe_op (kAddV (K := K)) (pe_slice (kSlU (K := K)) (pv 3) po_none (po_some (pv 5))) (pe_slice (kSlU (K := K)) (pv 3) (po_some (pe_op (kAddV (K := K)) (pv 5) pe_int)) po_none)) (pa_cons (pe_op (kAddV (K := K)) (pe_op (kAddV (K := K)) (pe_slice (kSlU (K := K)) (pv 3) po_none (po_some (pv 5))) (pv 6)) (pe_slice (kSlU (K := K)) (pv 3) (po_some (pv 5)) po_none)) (pa_cons (pe_op (kAddV (K := K)) (pv 3) (pv 6)) (pa_cons (pe_slice (kSlU (K := K)) (pv 3) po_none (po_some (pv 5))) pa_nil))))) (pe_op op_mod (pv 4) pe_int) (fun _ _ => rfl)))
      (pss_cons (ps_set (i := 8) S_law.nd rfl (Or.inl rfl) (pe_toldL (T := Tbs.T) (by rfl) FTold mTold bTold mPE mTerm kTerm bTerm FTerm TB hcode hmT huT hrT (LamX.lamS_by (sc := defScope st_law) (by decide +kernel)) rfl (fun _ _ _ _ _ => rfl) (fun A o s H E f c' r => pe_def D_parse_drawing r (by rfl) passL (pa_cons (pv 7) pa_nil))))
      (pss_one (ps_if (pt_cmpR (kNe (K := K) hu) (pv 8) (pe_tup (pa_cons pe_str (pa_cons pe_str pa_nil))) (nomark _)) (pss_one (ps_if (PW.pt (pw_or (pt_not (pt_val (pe_def D_is_drawing (hr.mono (by omega)) (by rfl) pass0 (pa_cons (pv 8) pa_nil)))) (pw_or1 (pt_cmpR (kNe (K := K) hu) (pe_def D_format_drawing (hr.mono (by omega)) (by rfl) pass0 (pa_cons (pv 8) pa_nil)) (pv 7) (nomark _))))) (pss_one (ps_ret pe_bl)) pss_nil)) pss_nil))))))))) pss_nil)
      (pss_cons (ps_set (i := 9) S_law.nd rfl (Or.inl rfl) (pe_lst (pa_cons pe_non (pa_cons pe_int (pa_cons (pv 2) (pa_cons pe_str (pa_cons pe_str (pa_cons pe_str pa_nil))))))))
      (pss_cons (ps_set (i := 9) S_law.nd rfl (Or.inl rfl) (pe_op (kAdd (K := K)) (pv 9) (pe_lst (pa_cons pe_str pa_nil))))
      (pss_cons (ps_for PassesOwn.never rfl (kSeq (K := K) (pv 9)) (pg_name (i := 10) S_law.nd rfl (Or.inr rfl)) (pss_one (ps_if (pt_cmpR (kNe (K := K) hu) (pe_toldL (T := Tbs.T) (by rfl) FTold mTold bTold mPE mTerm kTerm bTerm FTerm TB hcode hmT huT hrT (LamX.lamS_by (sc := defScope st_law) (by decide +kernel)) rfl (fun _ _ _ _ _ => rfl) (fun A o s H E f c' r => pe_def D_parse_drawing r (by rfl) passL (pa_cons (pv 10) pa_nil))) (pe_tup (pa_cons pe_str (pa_cons pe_str pa_nil))) (nomark _)) (pss_one (ps_ret pe_bl)) pss_nil)))
      (pss_cons (ps_for PassesOwn.never rfl (kSeq (K := K) (pe_lst (pa_cons pe_str (pa_cons (pe_op (kMulV (K := K)) pe_str pe_int) (pa_cons pe_str (pa_cons pe_str (pa_cons pe_str pa_nil))))))) (pg_name (i := 11) S_law.nd rfl (Or.inr rfl)) (pss_one (ps_if (pt_cmpR (kNe (K := K) hu) (pe_toldL (T := Tbs.T) (by rfl) FTold mTold bTold mPE mTerm kTerm bTerm FTerm TB hcode hmT huT hrT (LamX.lamS_by (sc := defScope st_law) (by decide +kernel)) rfl (fun _ _ _ _ _ => rfl) (fun A o s H E f c' r => pe_def D_parse_drawing r (by rfl) passL (pa_cons (pe_op (kAddV (K := K)) (pe_op (kAddV (K := K)) pe_str (pv 11)) pe_str) pa_nil))) (pe_tup (pa_cons pe_str (pa_cons pe_str pa_nil))) (nomark _)) (pss_one (ps_ret pe_bl)) pss_nil)))
      (pss_one (ps_if (PW.pt (pw_or (pt_cmpR (kNe (K := K) hu) (pe_toldL (T := Tbs.T) (by rfl) FTold mTold bTold mPE mTerm kTerm bTerm FTerm TB hcode hmT huT hrT (LamX.lamS_by (sc := defScope st_law) (by decide +kernel)) rfl (fun _ _ _ _ _ => rfl) (fun A o s H E f c' r => pe_def D_parse_drawing r (by rfl) passL (pa_cons pe_str pa_nil))) (pe_tup pa_nil) (nomark _)) (pw_or1 (pt_cmpR (kNe (K := K) hu) (pe_def D_format_drawing (hr.mono (by omega)) (by rfl) pass0 (pa_cons (pe_tup pa_nil) pa_nil)) pe_str (nomark _))))) (pss_one (ps_ret pe_bl)) pss_nil))))))))))
      (pss_one (ps_ret pe_bl))), ?_⟩
  refine law_loop (K := K) (a := a) (L := 12) (es0 := [.no, .no, .no, .no, .no, .no, .no, .no, .no, .no]) rfl rfl (by simp) (fun R hR => ?_) (fun x => ?_) (fun σ' H' => q H') tb0
  · exact .inr ⟨_, rfl, ⟨tb0, a, ns, 4, rfl, hS, by omega, by decide, fun D rs xs H' e1 t1 e2 e3 e4 e5 e6 e7 e8 => ⟨D, rfl, ⟨_, .inl (.inl e3)⟩, hR D rs xs H' e1 t1 e2 e3 e4 e5 e6 e7 e8⟩⟩⟩
  · clear hr hu hrT
    obtain ⟨r1, m1, ev1, p1⟩ := ex_callE (K := K) (E := E0) (n := 3) hgD (ta := tCons (tVar 1) (tCons (tC (.int 3)) (tCons (tC (.int 9)) tNil))) (es := [.v (.ref a), .c 0, .no, .no, .no, .no, .no, .no, .no, .no, .no, .no]) (m := [[.int x, .int 0]]) (ea_cons (ev_var rfl nofun) (arg2 ev_int ev_int)) ⟨0, 3, 9, rfl, ⟨x, 0, rfl⟩, by decide, by decide, by decide, by decide⟩ rfl
    obtain ⟨ls, rfl, hl3, ⟨hls, hpts⟩, hro⟩ := p1 0 3 9 rfl
    have hl3 : ls.length ≤ 3 := by omega
    have hok : ∀ l, l ∈ ls → okL 2 l = true := fun l h => (layer_ok (by decide) 1 (hls l h)).2
    have hnest : ∀ l, l ∈ ls → nestedM 2 l = true := fun l h => (layer_ok (by decide) 1 (hls l h)).1
    have hdie := hro.die (show 0 < [[PyData.int x, PyData.int 0]].length from Nat.succ_pos 0)
    refine turn_of ?_
    refine ex_then (sv_set ev1) ?_
    obtain ⟨v, m2, evr, v0, v1, hro2⟩ := ex_roll (K := K) (E := E0) (es := [.v (.ref a), .c 0, .d (.tuple ls), .no, .no, .no, .no, .no, .no, .no, .no, .no]) (m := m1) (i := 1) (te := tC (.int 3)) rfl ev_int hdie (by decide) (by decide)
    have hdie2 := hro2.die hdie.lt
    refine ex_bind (Q1 := fun es2 m2 => ∃ ls2, es2 = [.v (.ref a), .c 0, .d (.tuple ls2), .no, .no, .no, .no, .no, .no, .no, .no, .no] ∧ DieAt m2 0 ∧ okLs 2 (.tuple ls2) = true ∧ (drawM (.tuple ls2) = true → (fmtLayersF (fmtLayer 2) ls2).length ≤ 10000)) ?wrap ?rest
    case wrap =>
      by_cases hv : v = 0
      · refine ex_ifT (eb_cast (eb_test (ev_op evr ev_int o_eqI)) (by rw [hv]; rfl)) ⟨_, _, sv_set (r := .d (.tuple [wrapD ls])) (ev_tup (ds := [wrapD ls]) (arg1 ?w) rfl (by simp)), [wrapD ls], rfl, hdie2, wrap_ok hok, fun hd => wrap_text ((draw_parts hd).2 _ (by simp)) hls⟩
        refine ev_tup (ds := [.str "group", .tuple (ls.take 2), .tuple [.int 2, .int 4], .none, .tuple [.int 1, .int 0, .int 0, .int (-1), .int 9, .int (-9)]]) (ea_cons ev_str (ea_cons ?sl (ea_cons (ev_tup (ds := [.int 2, .int 4]) (arg2 ev_int ev_int) rfl (by simp)) (ea_cons ev_non (ea_cons (ev_tup (ds := [.int 1, .int 0, .int 0, .int (-1), .int 9, .int (-9)]) (ea_cons ev_int (ea_cons ev_int (ea_cons ev_int (ea_cons (ev_un ev_int o_neg) (ea_cons ev_int (ea_cons (ev_un ev_int o_neg) ea_nil)))))) rfl (by simp)) ea_nil))))) rfl (by simp)
        have z := ev_slT (K := K) (es := [.v (.ref a), .c 0, .d (.tuple ls), .no, .no, .no, .no, .no, .no, .no, .no, .no]) (m := m2) (te := tVar 2) (xs := ls) (ev_var rfl nofun) eo_none (eo_some (ev_int (i := ((2 : Nat) : Int))))
        rw [cut_to] at z
        exact z
      · exact ex_ifF (eb_cast (eb_test (ev_op evr ev_int o_eqI)) (by simpa using hv)) ⟨_, _, sv_next, ls, rfl, hdie2, List.all_eq_true.mpr hok, fun hd => top_text hl3 hnest hls⟩
    case rest =>
      clear hls hpts hro hl3 hok hnest hdie ev1 p1 evr hro2 hdie2
      rintro es2 mm ⟨ls2, rfl, hdie, hok2, hlen⟩
      refine ex_bind (Q1 := fun es2 m2 => ∃ x3 x4 x5 x6 x7 x8, es2 = [.v (.ref a), .c 0, .d (.tuple ls2), x3, x4, x5, x6, x7, x8, .no, .no, .no]) ?main ?cases
      case main =>
        by_cases hd : drawM (.tuple ls2) = true
        · have hT := hlen hd
          obtain ⟨h4, hn2⟩ := draw_parts hd
          obtain ⟨sh, eqv⟩ := draw_shaped hd
          refine ex_ifT (m1 := mm) (eb_cast (eb_val (ev_pure (arg1 (ev_var rfl nofun)) (ds := [.tuple ls2]) rfl ⟨.tuple ls2, rfl, hok2, rfl⟩ rfl)) hd) ?_
          have hpo := parse_ok hd hT
          have hTl : (mk (fmtLayersF (fmtLayer 2) ls2)).length ≤ 10000 := by rw [mk_len]; exact hT
          refine ex_then (m1 := mm) (sv_set (r := .d (.str (mk (fmtLayersF (fmtLayer 2) ls2)))) (ev_pure (arg1 (ev_var rfl nofun)) (ds := [.tuple ls2]) rfl ⟨ls2, rfl, h4, hn2, rfl⟩ rfl)) ?_
          have et := ev_tell (K := K) (te := tVar 3) (v := .str (mk (fmtLayersF (fmtLayer 2) ls2))) (es := [.v (.ref a), .c 0, .d (.tuple ls2), .d (.str (mk (fmtLayersF (fmtLayer 2) ls2))), .no, .no, .no, .no, .no, .no, .no, .no]) (m := mm) hmT eD (ev_var rfl nofun) (fun t e => by cases e; omega)
          rw [hpo] at et
          have hfmt : ∀ {te : TE} {E : XK} {es : List Sl} {m : M}, EvE K te es m (.d (.tuple ls2)) m → EvE K (tCall (spD K 1 (pureG R_fdrawing)) [] E (tCons te tNil)) es m (.d (.str (mk (fmtLayersF (fmtLayer 2) ls2)))) m := fun h => ev_pure (arg1 h) (ds := [.tuple ls2]) rfl ⟨ls2, rfl, hok2, hd, rfl⟩ rfl
          refine ex_then (m1 := mm) (sv_ifF (m1 := mm) (eb_orF (m1 := mm) (eb_cast (eb_test (ev_op (hfmt (ev_var rfl nofun)) (ev_var rfl nofun) o_neS)) (by simp)) (eb_cast (eb_test (ev_op et (ev_var rfl nofun) (o_neD sh sh))) (by show (!PyData.eqv (.tuple ls2) (.tuple ls2)) = false; rw [eqv]; rfl))) sv_next) ?_
          generalize mk (fmtLayersF (fmtLayer 2) ls2) = T at hTl
          clear et hfmt hpo
          refine ex_for (i := 4) (ds := rangeD 0 (8 : Int).toNat) (m1 := mm) (fun _ es m2 => (∃ x4 x5 x6 x7 x8, es = [.v (.ref a), .c 0, .d (.tuple ls2), .d (.str T), x4, x5, x6, x7, x8, .no, .no, .no]) ∧ DieAt m2 0) (ei_rng1 (arg1 ev_int) (by omega) (by omega)) ⟨⟨_, _, _, _, _, rfl⟩, hdie⟩ ?st ?fin
          case fin =>
            rintro es m2 ⟨⟨x4, x5, x6, x7, x8, rfl⟩, _⟩
            exact ⟨_, _, _, _, _, _, rfl⟩
          case st =>
            rintro l d es m2 hd' ⟨⟨x4, x5, x6, x7, x8, rfl⟩, hdie2⟩
            obtain ⟨hl8, rfl⟩ := rangeD_get hd'
            have hlenE : EvE K (tCB (fun xs H Q => ∃ x n, xs = [x] ∧ LenV K x H n ∧ Q (.int n) H) (tCons (tVar 3) tNil)) [.v (.ref a), .c 0, .d (.tuple ls2), .d (.str T), .d (.int (0 + (l : Int))), x5, x6, x7, x8, .no, .no, .no] m2 (.d (.int (T.length : Int))) m2 := ev_cb (arg1 (ev_var rfl nofun)) (c_len (n := T.length) (by
              show (if T.length ≤ 1000000 then some T.length else none) = some T.length
              rw [if_pos (by omega)]))
            obtain ⟨at', ma, eva, a0, a1, hroa⟩ := ex_roll (K := K) (E := E0) (i := 1) (te := tOp (rAddV K) (tCB (fun xs H Q => ∃ x n, xs = [x] ∧ LenV K x H n ∧ Q (.int n) H) (tCons (tVar 3) tNil)) (tC (.int 1))) rfl (ev_op hlenE ev_int o_addVI) hdie2 (by omega) (by omega)
            have hdie3 := hroa.die hdie2.lt
            obtain ⟨g, mb, evg, g0, g1, hrob⟩ := ex_roll (K := K) (E := E0) (es := [.v (.ref a), .c 0, .d (.tuple ls2), .d (.str T), .d (.int (0 + (l : Int))), x5, x6, x7, x8, .no, .no, .no]) (m := ma) (i := 1) (te := tC (.int 9)) rfl ev_int hdie3 (by decide) (by decide)
            have hdie4 := hrob.die hdie3.lt
            obtain ⟨c, hc⟩ := atI_in (xs := ("; .0/-([ " : Str).cps.toList) g0 (by
              have : ("; .0/-([ " : Str).cps.toList.length = 9 := by decide +kernel
              omega)
            refine ex_left (ex_then (sv_par (ea_cons eva (ea_cons (ev_op ev_str evg (o_ixS (by decide +kernel) hc)) ea_nil))) ?_)
            have zS : sizeLine = 16777216 := rfl
            have one : (⟨#[c]⟩ : Str).length = 1 := rfl
            have cl := fun lo hi => cutS_len (z := T) (lo := lo) (hi := hi)
            have c1 := cl none (some at')
            have c2 := cl (some (at' + 1)) none
            have c3 := cl (some at') none
            have hcs : ∀ s, s ∈ [cutS T none (some at') ++ cutS T (some (at' + 1)) none, (cutS T none (some at') ++ ⟨#[c]⟩) ++ cutS T (some at') none, T ++ ⟨#[c]⟩, cutS T none (some at')] → s.length ≤ 30000 := by
              intro s hs
              simp only [List.mem_cons, List.not_mem_nil, or_false] at hs
              rcases hs with rfl | rfl | rfl | rfl
              · rw [len_app]; omega
              · rw [len_app, len_app, one]; omega
              · rw [len_app, one]; omega
              · omega
            have evs : ∀ (es : List Sl) (m : M), es[3]? = some (.d (.str T)) → es[5]? = some (.d (.int at')) → es[6]? = some (.d (.str ⟨#[c]⟩)) → es[4]? = some (.d (.int (0 + (l : Int)))) → ∃ b : Str, b.length ≤ 30000 ∧ EvE K (tOp (rIx K) (tLst (tCons (tOp (rAddV K) (tSl (rSlU K) (tVar 3) tNoPart (tPart (tVar 5))) (tSl (rSlU K) (tVar 3) (tPart (tOp (rAddV K) (tVar 5) (tC (.int 1)))) tNoPart)) (tCons (tOp (rAddV K) (tOp (rAddV K) (tSl (rSlU K) (tVar 3) tNoPart (tPart (tVar 5))) (tVar 6)) (tSl (rSlU K) (tVar 3) (tPart (tVar 5)) tNoPart)) (tCons (tOp (rAddV K) (tVar 3) (tVar 6)) (tCons (tSl (rSlU K) (tVar 3) tNoPart (tPart (tVar 5))) tNil))))) (tOp (rI (fun _ j => 0 < j) fun i j => .int (i % j)) (tVar 4) (tC (.int 4)))) es m (.d (.str b)) m := by
              intro es m e3 e5 e6 e4
              have hj : l % 4 < 4 := Nat.mod_lt _ (by decide)
              have t3 : EvE K (tVar 3) es m (.d (.str T)) m := ev_var e3 nofun
              have t5 : EvE K (tVar 5) es m (.d (.int at')) m := ev_var e5 nofun
              have t6 : EvE K (tVar 6) es m (.d (.str ⟨#[c]⟩)) m := ev_var e6 nofun
              have s1 := ev_slS (K := K) (es := es) (m := m) t3 eo_none (eo_some t5) (by omega)
              have s2 := ev_slS (K := K) (es := es) (m := m) t3 (eo_some (ev_op t5 (ev_int (i := 1)) o_addVI)) eo_none (by omega)
              have s3 := ev_slS (K := K) (es := es) (m := m) t3 (eo_some t5) eo_none (by omega)
              refine ⟨[cutS T none (some at') ++ cutS T (some (at' + 1)) none, (cutS T none (some at') ++ ⟨#[c]⟩) ++ cutS T (some at') none, T ++ ⟨#[c]⟩, cutS T none (some at')][l % 4], hcs _ (List.getElem_mem _), ?_⟩
              refine ev_op (ev_lst (ds := [.str (cutS T none (some at') ++ cutS T (some (at' + 1)) none), .str ((cutS T none (some at') ++ ⟨#[c]⟩) ++ cutS T (some at') none), .str (T ++ ⟨#[c]⟩), .str (cutS T none (some at'))]) (ea_cons (ev_op s1 s2 (o_addS (by omega))) (ea_cons (ev_op (ev_op s1 t6 (o_addS (by rw [one]; omega))) s3 (o_addS (by rw [len_app, one]; omega))) (ea_cons (ev_op t3 t6 (o_addS (by rw [one]; omega))) (ea_cons s1 ea_nil)))) rfl (by simp)) (ev_op (ev_var e4 nofun) ev_int (o_mod (by decide))) (o_ixL (j := l % 4) (by omega) ?_)
              show (List.map PyData.str [cutS T none (some at') ++ cutS T (some (at' + 1)) none, (cutS T none (some at') ++ ⟨#[c]⟩) ++ cutS T (some at') none, T ++ ⟨#[c]⟩, cutS T none (some at')])[l % 4]? = _
              rw [List.getElem?_map, List.getElem?_eq_getElem (by exact hj)]
              rfl
            obtain ⟨b, hb, evb⟩ := evs [.v (.ref a), .c 0, .d (.tuple ls2), .d (.str T), .d (.int (0 + (l : Int))), .d (.int at'), .d (.str ⟨#[c]⟩), x7, x8, .no, .no, .no] mb rfl rfl rfl rfl
            refine ex_then (sv_set evb) ?_
            refine ex_then (sv_set (ev_tell (v := .str b) hmT eD (ev_var rfl nofun) (fun t e => by cases e; omega))) ?_
            cases hp : parseM (.str b) with
            | none => exact ex_ifF (eb_cast (eb_test (ev_op (ev_var (r := .d badD) rfl nofun) ev_badD (o_neD bad_shaped bad_shaped))) (by show (!PyData.eqv badD badD) = false; rw [bad_eqv]; rfl)) ⟨_, _, sv_next, ⟨_, _, _, _, _, rfl⟩, hdie4⟩
            | some dd =>
              obtain ⟨ls3, rfl, ok3, hd3, e3⟩ := parse_back hp
              obtain ⟨sh3, _⟩ := draw_shaped hd3
              have eb : b = mk (fmtLayersF (fmtLayer 2) ls3) := by injection e3
              have etest := eb_test (ev_op (K := K) (es := [.v (.ref a), .c 0, .d (.tuple ls2), .d (.str T), .d (.int (0 + (l : Int))), .d (.int at'), .d (.str ⟨#[c]⟩), .d (.str b), .d (.tuple ls3), .no, .no, .no]) (m := mb) (ta := tVar 8) (ev_var rfl nofun) ev_badD (o_neD sh3 bad_shaped))
              by_cases hq : PyData.eqv (.tuple ls3) badD = true
              · exact ex_ifF (eb_cast etest (by show (!PyData.eqv (.tuple ls3) badD) = false; rw [hq]; rfl)) ⟨_, _, sv_next, ⟨_, _, _, _, _, rfl⟩, hdie4⟩
              · refine ex_ifT (eb_cast etest (by show (!PyData.eqv (.tuple ls3) badD) = true; rw [Bool.eq_false_iff.mpr hq]; rfl)) (ex_ifF (m1 := mb) (eb_orF (m1 := mb) (eb_notT (eb_cast (eb_val (ev_pure (arg1 (ev_var rfl nofun)) (ds := [.tuple ls3]) rfl ⟨.tuple ls3, rfl, ok3, rfl⟩ rfl)) hd3)) (eb_cast (eb_test (ev_op (ev_pure (arg1 (ev_var rfl nofun)) (ds := [.tuple ls3]) rfl ⟨ls3, rfl, ok3, hd3, rfl⟩ rfl) (ev_var rfl nofun) o_neS)) (by rw [← eb]; simp))) ⟨_, _, sv_next, ⟨_, _, _, _, _, rfl⟩, hdie4⟩)
        · exact ex_ifF (eb_cast (eb_val (ev_pure (arg1 (ev_var rfl nofun)) (ds := [.tuple ls2]) rfl ⟨.tuple ls2, rfl, hok2, rfl⟩ rfl)) (Bool.eq_false_iff.mpr hd)) ⟨_, _, sv_next, _, _, _, _, _, _, rfl⟩
      case cases =>
        rintro es2 m3 ⟨x3, x4, x5, x6, x7, x8, rfl⟩
        refine ex_then (sv_cell (ds := cases6 (.tuple ls2)) (m1 := m3) (el_lst (ds := cases6 (.tuple ls2)) (ea_cons ev_non (ea_cons ev_int (ea_cons (ev_var rfl nofun) (ea_cons ev_str (ea_cons ev_str (ea_cons ev_str ea_nil)))))) rfl (by simp [cases6]))) ?_
        refine ex_then (sv_set (r := .d (.list (cases6 (.tuple ls2) ++ cases7))) (m1 := m3 ++ [cases6 (.tuple ls2)]) (el_d (el_cat rfl (el_lst (ds := cases7) (arg1 ev_str) rfl (by simp [cases7])) last_get (by simp [cases6, cases7])))) ?_
        refine exN_for (i := 10) (ds := cases6 (.tuple ls2) ++ cases7) (m1 := m3 ++ [cases6 (.tuple ls2)]) (fun _ es m4 => m4 = m3 ++ [cases6 (.tuple ls2)] ∧ ∃ b, es = [.v (.ref a), .c 0, .d (.tuple ls2), x3, x4, x5, x6, x7, x8, .d (.list (cases6 (.tuple ls2) ++ cases7)), b, .no]) (ei_seqL (ev_var rfl nofun)) ⟨rfl, .no, rfl⟩ ?st1 ?fin1
        case st1 =>
          rintro l d es m4 hd ⟨rfl, b, rfl⟩
          obtain ⟨f1, f2⟩ := case_no (List.mem_of_getElem? hd)
          exact ex_one ⟨_, _, sv_ifF (m1 := m3 ++ [cases6 (.tuple ls2)]) (eb_bad hmT eD (ev_var rfl nofun) f2 f1) sv_next, rfl, .d d, rfl⟩
        case fin1 =>
          rintro es m4 ⟨rfl, b, rfl⟩
          have l5 : ∀ x, x ∈ nums5 → x.length ≤ 5000 := by
            intro x hx
            simp only [nums5, List.mem_cons, List.not_mem_nil, or_false] at hx
            rcases hx with rfl | rfl | rfl | rfl | rfl
            · decide +kernel
            · exact Nat.le_of_eq ones_len
            · decide +kernel
            · decide +kernel
            · decide +kernel
          refine exN_for (i := 11) (ds := nums5.map .str) (m1 := m3 ++ [cases6 (.tuple ls2)]) (fun _ es m4 => m4 = m3 ++ [cases6 (.tuple ls2)] ∧ ∃ b2, es = [.v (.ref a), .c 0, .d (.tuple ls2), x3, x4, x5, x6, x7, x8, .d (.list (cases6 (.tuple ls2) ++ cases7)), b, b2])
            (ei_seqL (ev_lst (ds := nums5.map .str) (ea_cons ev_str (ea_cons (ev_op ev_str ev_int (o_mulS (x := "1") (n := 5000) ⟨by decide, fun _ _ => by decide +kernel, fun _ _ => by decide +kernel⟩)) (ea_cons ev_str (ea_cons ev_str (ea_cons ev_str ea_nil))))) rfl (by simp [nums5]))) ⟨rfl, .no, rfl⟩ ?st2 ?fin2
          case st2 =>
            rintro l d es m4 hd ⟨rfl, b2, rfl⟩
            obtain ⟨y, hy, rfl⟩ := List.mem_map.mp (List.mem_of_getElem? hd)
            have hyl := l5 y hy
            have zS : sizeLine = 16777216 := rfl
            have k1 : ("rub odd(" : Str).length = 8 := by decide +kernel
            have k2 : (",0;1,0;0,1) 1/2" : Str).length = 15 := by decide +kernel
            have ly : (rubT y).length ≤ 1000000 := by unfold rubT; rw [len_app, len_app, k1, k2]; omega
            exact ex_one ⟨_, _, sv_ifF (m1 := m3 ++ [cases6 (.tuple ls2)]) (eb_bad (v := .str (rubT y)) hmT eD (ev_op (ev_op ev_str (ev_var rfl nofun) (o_addS (by rw [k1]; omega))) ev_str (o_addS (by rw [len_app, k1, k2]; omega))) (fun t e => by cases e; exact ly) (rub_no hy)) sv_next, rfl, .d (.str y), rfl⟩
          case fin2 =>
            rintro es m4 ⟨rfl, b2, rfl⟩
            have et := ev_tell (K := K) (te := tC (.str "")) (v := .str "") (es := [.v (.ref a), .c 0, .d (.tuple ls2), x3, x4, x5, x6, x7, x8, .d (.list (cases6 (.tuple ls2) ++ cases7)), b, b2]) (m := m3 ++ [cases6 (.tuple ls2)]) hmT eD ev_str (fun t e => by cases e; decide +kernel)
            rw [parse_empty.1] at et
            refine ⟨_, _, sv_ifF (m1 := m3 ++ [cases6 (.tuple ls2)]) (eb_orF (m1 := m3 ++ [cases6 (.tuple ls2)]) (eb_cast (eb_test (ev_op et (ev_tup ea_nil (ds := []) rfl (by simp)) (o_neD (by decide +kernel) (by decide +kernel)))) (by decide +kernel)) (eb_cast (eb_test (ev_op (ev_pure (arg1 (ev_tup ea_nil (ds := []) rfl (by simp))) (ds := [.tuple []]) rfl ⟨[], rfl, rfl, parse_empty.2.2, rfl⟩ rfl) ev_str o_neS)) (by decide +kernel))) sv_next, _, rfl, rfl⟩
end
end K30

set_option Elab.async false
set_option linter.all false
set_option maxRecDepth 100000
set_option maxHeartbeats 4000000
namespace K30
open PySem PySem.Spec PyProof.Rows L2 DL
structure Top (K : PySem.W.Frag) (mg : Str → Option Value) : Prop where
  d_is_whole : DefT K mg "is_whole" st_is_whole ["value"]
  d_are_whole : DefT K mg "are_whole" st_are_whole ["value", "many", "low", "high"]
  d_is_loop : DefT K mg "is_loop" st_is_loop ["value"]
  d_is_shape : DefT K mg "is_shape" st_is_shape ["value"]
  d_is_colour : DefT K mg "is_colour" st_is_colour ["value"]
  d_is_opacity : DefT K mg "is_opacity" st_is_opacity ["value"]
  d_is_matrix : DefT K mg "is_matrix" st_is_matrix ["value"]
  d_is_fill : DefT K mg "is_fill" st_is_fill ["value"]
  d_is_rub : DefT K mg "is_rub" st_is_rub ["value"]
  d_is_group : DefT K mg "is_group" st_is_group ["value", "deepest"]
  d_is_nested_layer : DefT K mg "is_nested_layer" st_is_nested_layer ["value", "deepest"]
  d_are_layers : DefT K mg "are_layers" st_are_layers ["value", "deepest"]
  d_list_shapes : DefT K mg "list_shapes" st_list_shapes ["layers"]
  d_add_points : DefT K mg "add_points" st_add_points ["layers"]
  d_is_drawing : DefT K mg "is_drawing" st_is_drawing ["value"]
  d_check_drawing : DefT K mg "check_drawing" st_check_drawing ["value"]
  d_join_numbers : DefT K mg "join_numbers" st_join_numbers ["numbers", "sign"]
  d_format_loop : DefT K mg "format_loop" st_format_loop ["loop"]
  d_format_shape : DefT K mg "format_shape" st_format_shape ["shape"]
  d_format_group : DefT K mg "format_group" st_format_group ["group"]
  d_format_layer : DefT K mg "format_layer" st_format_layer ["layer"]
  d_format_layers : DefT K mg "format_layers" st_format_layers ["layers"]
  d_format_drawing : DefT K mg "format_drawing" st_format_drawing ["drawing"]
  d_split_words : DefT K mg "split_words" st_split_words ["text", "many"]
  d_read_number : DefT K mg "read_number" st_read_number ["word"]
  d_read_numbers : DefT K mg "read_numbers" st_read_numbers ["text", "sign"]
  d_read_loop : DefT K mg "read_loop" st_read_loop ["text"]
  d_read_shape : DefT K mg "read_shape" st_read_shape ["text"]
  d_read_fill : DefT K mg "read_fill" st_read_fill ["text"]
  d_read_rub : DefT K mg "read_rub" st_read_rub ["text"]
  d_read_group : DefT K mg "read_group" st_read_group ["text", "deepest"]
  d_read_layer : DefT K mg "read_layer" st_read_layer ["text", "deepest"]
  d_split_layers : DefT K mg "split_layers" st_split_layers ["text"]
  d_read_layers : DefT K mg "read_layers" st_read_layers ["text", "deepest"]
  d_parse_drawing : DefT K mg "parse_drawing" st_parse_drawing ["text"]
  d__law_cell : DefT K mg "_law_cell" st__law_cell ["_law_script", "_law_k"]
  d__law_drawn : DefT K mg "_law_drawn" st__law_drawn ["_law_cell_here", "_law_k"]
  d__law_roll : DefT K mg "_law_roll" st__law_roll ["_law_dice", "_law_many"]
  d__law_rounds : DefT K mg "_law_rounds" st__law_rounds ["_law_script", "_law_most"]
  d__law_term : DefT K mg "_law_term" st__law_term ["_law_e"]
  d__law_told : DefT K mg "_law_told" st__law_told ["_law_deed"]
  d__law_loop : DefT K mg "_law_loop" st__law_loop ["_law_dice", "_law_far"]
  d__law_shape : DefT K mg "_law_shape" st__law_shape ["_law_dice", "_law_far"]
  d__law_opacity : DefT K mg "_law_opacity" st__law_opacity ["_law_dice"]
  d__law_matrix : DefT K mg "_law_matrix" st__law_matrix ["_law_dice"]
  d__law_layer : DefT K mg "_law_layer" st__law_layer ["_law_dice", "_law_far", "_law_deep"]
  d__law_drawing : DefT K mg "_law_drawing" st__law_drawing ["_law_dice", "_law_many", "_law_far"]
  d__law_size : DefT K mg "_law_size" st__law_size ["_law_layers"]
  d__law_shape_text : DefT K mg "_law_shape_text" st__law_shape_text ["_law_shape_here"]
  d__law_text : DefT K mg "_law_text" st__law_text ["_law_drawing_here"]
  b_isinstance : mg "isinstance" = none
  b_tuple : mg "tuple" = none
  b_int : mg "int" = none
  b_bool : mg "bool" = none
  b_len : mg "len" = none
  b_all : mg "all" = none
  b_sum : mg "sum" = none
  b_max : mg "max" = none
  b_min : mg "min" = none
  b_range : mg "range" = none
  b_str : mg "str" = none
  b_ValueError : mg "ValueError" = none
  RULES : ∃ a, mg "RULES" = some (.ref a) ∧ ∀ H, Dp K H (.ref a) (.tuple [.str "odd", .str "turns"])
  FARTHEST : ∃ t, mg "FARTHEST" = some (.int 9 t)
  MOST_LAYERS : ∃ t, mg "MOST_LAYERS" = some (.int 4 t)
  MOST_POINTS : ∃ t, mg "MOST_POINTS" = some (.int 60 t)
  DEEPEST : ∃ t, mg "DEEPEST" = some (.int 2 t)
  BETWEEN_LAYERS : ∃ t, mg "BETWEEN_LAYERS" = some (.str " & " t)
  DIGITS : ∃ t, mg "DIGITS" = some (.str "0123456789" t)
  LONGEST : ∃ t, mg "LONGEST" = some (.int 10000 t)
end K30

set_option Elab.async false
set_option linter.all false
set_option maxRecDepth 100000
set_option maxHeartbeats 4000000
namespace K30
variable [DL.Tbs]
open PySem PySem.Spec PyProof.Rows L2 DL HX TX SX
section
variable {P : Program} {w : World} {K : PySem.W.Frag} {mg : Str → Option Value} {base : Heap}
theorem neverP {x : Str} {st : Stmt} {ps : List Str} (T : DefT K mg x st ps) : PureC P w K mg base 0 x ps (fun _ _ => False) := by
  obtain ⟨f, fd, F, hm, hB⟩ := T.ex
  refine ⟨f, fd, ⟨fun vs H Q E h => h.1, fun A outer s H args us vs Q E hr he hb hv h => ?_⟩, hm, F.kp, hB⟩
  obtain ⟨_, _, _, _, _, _, _, _, _, ⟨_, _, _, h, _⟩, _⟩ := h
  exact h.elim
theorem DefE.mono {x : Str} {ps : List Str} {k k' : Nat} {Pre : List Sl → M → Prop} {Post : List Sl → M → Sl → M → Prop} (h : DefE P w K mg base k x ps Pre Post) (hk : k ≤ k') : DefE P w K mg base k' x ps Pre Post := by
  obtain ⟨g, a, b⟩ := h
  exact ⟨g, a, b.mono hk⟩
theorem tower (T : Top K mg) (B : Blt mg) (sh : PureC P w K mg base 4 "is_shape" ["value"] R_is_shape) (co : PureC P w K mg base 3 "is_colour" ["value"] R_is_colour) (op : PureC P w K mg base 3 "is_opacity" ["value"] R_is_opacity) (mx : PureC P w K mg base 3 "is_matrix" ["value"] R_is_matrix)
    (fi : PureC P w K mg base 5 "is_fill" ["value"] R_is_fill) (ru : PureC P w K mg base 5 "is_rub" ["value"] R_is_rub) : ∀ n : Nat, PureC P w K mg base (6 + 3 * n) "is_nested_layer" ["value", "deepest"] (R_nested n) ∧ PureC P w K mg base (7 + 3 * n) "are_layers" ["value", "deepest"] (R_layers n)
  | 0 => by
    have g0 := c_group (n := 0) (k := 4) B T.d_is_group ((never (N := []) (n := 2) T.d_are_layers).mono (Nat.zero_le 4)) (fun j e => by cases e) (Nat.le_refl _) sh op mx
    have n0 := c_nested (n := 0) B T.d_is_nested_layer (Nat.le_refl _) fi ru g0
    exact ⟨n0, c_layers B T.d_are_layers n0 T.MOST_LAYERS⟩
  | n + 1 => by
    obtain ⟨_, l⟩ := tower T B sh co op mx fi ru n
    have g1 := c_group (n := n + 1) B T.d_is_group l (fun j e => by cases e; rfl) (by omega) sh op mx
    have n1 := c_nested (n := n + 1) B T.d_is_nested_layer (by omega) fi ru g1
    exact ⟨n1.mono (by omega), (c_layers B T.d_are_layers n1 T.MOST_LAYERS).mono (by omega)⟩
theorem shapes_tower (T : Top K mg) (B : Blt mg) : DefC P w K mg base CX0 3 "list_shapes" ["layers"] (spL K 1 (G_list_shapes 2)) := by
  have z : DefC P w K mg base CX0 0 "list_shapes" ["layers"] (spL K 1 fun _ _ _ _ => False) := by
    obtain ⟨f, fd, F, hm, hB⟩ := T.d_list_shapes.ex
    refine ⟨f, fd, ⟨fun vs H Q E h => h.1, fun A outer s H args us vs Q E hr he hb hv h => ?_⟩, hm, F.kp, hB⟩
    obtain ⟨_, _, _, _, _, _, _, _, _, h, _⟩ := h
    exact h.elim
  have s0 := c_list_shapes (n := 0) B T.d_list_shapes z (fun j e => by cases e) (by decide)
  have s1 := c_list_shapes (n := 1) B T.d_list_shapes s0 (fun j e => by cases e; rfl) (by decide)
  exact c_list_shapes (n := 2) B T.d_list_shapes s1 (fun j e => by cases e; rfl) (by decide)
theorem law_all (T : Top K mg) {f cc Pt : Addr} {fd : FuncData} {cs : Cs} (hC : CsOk mg cs) (eD : ErrD K cs 10 cs.InvalidText) (rD : RaiseD K cs.InvalidText) (F : Fun K "law" "law" st_law f fd) (hcc : fd.code = .ref cc)
    (TB : LamX.TabB base mg cc Pt) (hmT : (Pt, ("law.<locals>." : Str) ++ "<lambda>") ∈ Tbs.T) (huT : ∀ p ∈ Tbs.T, p.1 = Pt → p.2 = ("law.<locals>." : Str) ++ "<lambda>") : FnOk P w K mg base CX0 19 f fd ["_law_script"] (spLaw K) := by
  have B : Blt mg := ⟨T.b_isinstance, T.b_tuple, T.b_int, T.b_bool, T.b_len, T.b_all, T.b_sum⟩
  have D : BltD mg := ⟨T.b_len, T.b_max, T.b_min, T.b_range⟩
  have d1 := c_is_whole (P := P) (w := w) (K := K) (base := base) B T.d_is_whole
  have d2 := c_are_whole B T.d_are_whole d1
  have d3 := c_is_loop B T.d_is_loop d2 T.FARTHEST
  have d4 := c_is_shape B T.d_is_shape d3 T.RULES
  have d5 := c_is_colour B T.d_is_colour d2
  have d6 := c_is_opacity B T.d_is_opacity d2
  have d7 := c_is_matrix B T.d_is_matrix d2 T.FARTHEST
  have d8 := c_is_fill B T.d_is_fill d4 d5 d6
  have d9 := c_is_rub B T.d_is_rub d4 d6
  obtain ⟨n2, l2⟩ := tower T B d4 d5 d6 d7 d8 d9 2
  have ls := shapes_tower (P := P) (w := w) (base := base) T B
  have ap := c_add_points B T.d_add_points ls (Nat.le_refl _)
  have dr := c_is_drawing (k := 13) B T.d_is_drawing l2 (ap.mono (by decide)) T.DEEPEST T.MOST_POINTS
  have ck := c_check B T.d_check_drawing dr
  -- the texts that the program writes
  have jn := c_joinNums (P := P) (w := w) (K := K) (base := base) T.b_str T.d_join_numbers
  have fl := c_floop T.d_format_loop jn
  have fs := c_fshape T.d_format_shape fl
  have w0 := c_flayer (n := 0) (k := 3) (by decide) (by decide) T.d_format_layer jn fs ((neverP (P := P) (w := w) (base := base) T.d_format_group).mono (by decide)) (fun j e => by cases e)
  have s0 := c_flayers (n := 0) (by decide) T.d_format_layers T.BETWEEN_LAYERS w0
  have g0 := c_fgroup (n := 0) (by decide) (by decide) T.d_format_group jn fs s0
  have w1 := c_flayer (n := 1) (by decide) (by decide) T.d_format_layer jn fs g0 (fun j e => by cases e; rfl)
  have s1 := c_flayers (n := 1) (by decide) T.d_format_layers T.BETWEEN_LAYERS w1
  have g1 := c_fgroup (n := 1) (by decide) (by decide) T.d_format_group jn fs s1
  have w2 := c_flayer (n := 2) (by decide) (by decide) T.d_format_layer jn fs g1 (fun j e => by cases e; rfl)
  have s2 := c_flayers (n := 2) (by decide) T.d_format_layers T.BETWEEN_LAYERS w2
  have fo := c_fdrawing (k := 15) T.d_format_drawing (ck.mono (by decide)) (s2.mono (by decide))
  -- the texts that it reads
  have gD := hC.InvalidText
  have x1 := c_words (P := P) (w := w) (base := base) T.b_len T.d_split_words gD rD
  have x2 := c_numX (P := P) (w := w) (base := base) T.b_len T.b_int T.d_read_number T.DIGITS gD rD
  have x3 := c_numsX T.b_tuple T.d_read_numbers x2
  have x4 := c_loopX T.b_tuple T.d_read_loop x3
  have x5 := c_shapeX T.b_tuple T.d_read_shape gD rD x4
  have x6 := c_fillX T.d_read_fill x1 x5 x3
  have x7 := c_rubX T.d_read_rub x1 x5 x3
  have x8 := c_splitX (P := P) (w := w) (base := base) T.d_split_layers T.BETWEEN_LAYERS gD rD
  have q0 := c_groupX (n := 0) (k := 4) (by decide) T.d_read_group gD rD x1 x5 x3 (neverK (k := 4) T.d_read_layers) (fun j e => by cases e)
  have u0 := c_layerX (n := 0) (by decide) T.d_read_layer gD rD x6 x7 q0
  have v0 := c_layersX (n := 0) (by decide) T.b_tuple T.d_read_layers x8 u0
  have q1 := c_groupX (n := 1) (by decide) T.d_read_group gD rD x1 x5 x3 v0 (fun j e => by cases e; rfl)
  have u1 := c_layerX (n := 1) (by decide) T.d_read_layer gD rD x6 x7 q1
  have v1 := c_layersX (n := 1) (by decide) T.b_tuple T.d_read_layers x8 u1
  have q2 := c_groupX (n := 2) (by decide) T.d_read_group gD rD x1 x5 x3 v1 (fun j e => by cases e; rfl)
  have u2 := c_layerX (n := 2) (by decide) T.d_read_layer gD rD x6 x7 q2
  have v2 := c_layersX (n := 2) (by decide) T.b_tuple T.d_read_layers x8 u2
  have pd := c_parse (k := 14) (j := 0) (by decide) T.b_isinstance T.b_str T.b_len T.d_parse_drawing gD rD T.LONGEST T.DEEPEST (dr.mono (by decide)) (v2.mono (by decide))
  -- the law's own text
  have t0 := c_stext (P := P) (w := w) (K := K) (base := base) T.b_str T.d__law_shape_text
  have y0 := c_ltext (n := 0) (k := 1) (by decide) (by decide) T.b_str T.d__law_text t0 ((neverP (P := P) (w := w) (base := base) T.d__law_text).mono (by decide)) (fun j e => by cases e)
  have y1 := c_ltext (n := 1) (by decide) (by decide) T.b_str T.d__law_text t0 y0 (fun j e => by cases e; rfl)
  have y2 := c_ltext (n := 2) (by decide) (by decide) T.b_str T.d__law_text t0 y1 (fun j e => by cases e; rfl)
  -- what is drawn
  have ce := c_cell (P := P) (w := w) (K := K) (base := base) D T.d__law_cell
  have dn := c_drawn (P := P) (w := w) (K := K) (base := base) D T.d__law_drawn
  have ro := c_roll D T.d__law_roll dn
  have rn := c_rounds D T.d__law_rounds ce
  obtain ⟨fT, fdT, mTerm, kTerm, bTerm, FTerm⟩ := c_term (P := P) (w := w) (K := K) (base := base) T.b_isinstance T.b_sum T.b_int T.d__law_term T.b_ValueError hC
  have g1 := c_loop T.b_range T.b_tuple T.d__law_loop ro
  have g2 := c_shape T.b_range T.b_tuple T.d__law_shape (ro.mono (by decide)) g1
  have g3 := c_opacity T.d__law_opacity ro
  have g4 := c_matrix T.d__law_matrix ro
  have e0 := c_layer (k := 4) (n := 0) (by decide) T.b_range T.b_tuple T.d__law_layer (ro.mono (by decide)) g2 (DefE.mono g3 (by decide)) (DefE.mono g4 (by decide)) (fun i e => by cases e) ((never (N := []) (n := 3) T.d__law_layer).mono (by decide))
  obtain ⟨gL, hgL, e0'⟩ := e0
  have e1 := c_layer (k := 5) (n := 1) (by decide) T.b_range T.b_tuple T.d__law_layer (ro.mono (by decide)) (DefE.mono g2 (by decide)) (DefE.mono g3 (by decide)) (DefE.mono g4 (by decide)) (gL := gL) (fun i e => by cases e; exact hgL) e0'
  have z0 := c_size (k := 0) (n := 0) T.b_len T.b_sum T.d__law_size (neverP (P := P) (w := w) (base := base) T.d__law_size) (fun i e => by cases e)
  have z1 := c_size (n := 1) T.b_len T.b_sum T.d__law_size z0 (fun i e => by cases e; rfl)
  have z2 := c_size (n := 2) T.b_len T.b_sum T.d__law_size z1 (fun i e => by cases e; rfl)
  have gd := c_drawing (k := 6) T.b_range T.b_tuple T.d__law_drawing (ro.mono (by decide)) e1 (z2.mono (by decide))
  obtain ⟨gT, fdTold, FTold, mTold, bTold⟩ := T.d__law_told.ex
  exact c_law (k0 := 16) (by decide) F hcc T.b_len T.b_range (rn.mono (by decide)) (DefE.mono gd (by decide)) (ro.mono (by decide)) (dr.mono (by decide)) (y2.mono (by decide)) (fo.mono (by decide)) (pd.mono (by decide))
    FTold mTold bTold hC.PictureError mTerm kTerm bTerm FTerm TB hmT huT eD rfl
end
theorem errs_mk {K : PySem.W.Frag} {h0 : Heap} {mg : Str → Option Value} {a_InvalidNumber a_InvalidPoint a_InvalidShape a_InvalidLayer a_InvalidDrawing a_InvalidRegion a_InvalidPlan a_InvalidIndex a_InvalidBox a_InvalidMove a_InvalidText a_OnEdge a_Blank a_TooMany a_NothingToUndo a_PictureError : Addr}
    (_ : K.In h0) (m_InvalidNumber : mg "InvalidNumber" = some (.ref a_InvalidNumber)) (m_InvalidPoint : mg "InvalidPoint" = some (.ref a_InvalidPoint)) (m_InvalidShape : mg "InvalidShape" = some (.ref a_InvalidShape)) (m_InvalidLayer : mg "InvalidLayer" = some (.ref a_InvalidLayer)) (m_InvalidDrawing : mg "InvalidDrawing" = some (.ref a_InvalidDrawing)) (m_InvalidRegion : mg "InvalidRegion" = some (.ref a_InvalidRegion)) (m_InvalidPlan : mg "InvalidPlan" = some (.ref a_InvalidPlan)) (m_InvalidIndex : mg "InvalidIndex" = some (.ref a_InvalidIndex)) (m_InvalidBox : mg "InvalidBox" = some (.ref a_InvalidBox)) (m_InvalidMove : mg "InvalidMove" = some (.ref a_InvalidMove)) (m_InvalidText : mg "InvalidText" = some (.ref a_InvalidText)) (m_OnEdge : mg "OnEdge" = some (.ref a_OnEdge)) (m_Blank : mg "Blank" = some (.ref a_Blank)) (m_TooMany : mg "TooMany" = some (.ref a_TooMany)) (m_NothingToUndo : mg "NothingToUndo" = some (.ref a_NothingToUndo)) (m_PictureError : mg "PictureError" = some (.ref a_PictureError))
    (hg : PySem.W.findIn K (.ref a_InvalidText) "__getattribute__" = some (some (.builtin "BaseException.__getattribute__"))) (hk : PySem.W.findIn K (.ref a_InvalidText) "__getattr__" = some none) (hs : PySem.W.subIn K (.ref a_InvalidText) (.type "BaseException") = some true) (hd : PySem.W.hasDictIn K a_InvalidText = true)
    (ha : PySem.W.findIn K (.ref a_InvalidText) "__class__" = some (some (.builtin "object.__class__"))) (hn : PySem.W.specialIn K (.builtin "object.__class__") "__get__" = some (some (.builtin "getset_descriptor.__get__"))) (ht : PySem.W.takesIn K (.builtin "object.__class__") = some true) (hm : PySem.W.mroIn K a_InvalidText (.type "object") = some true)
    (tests : [a_InvalidNumber, a_InvalidPoint, a_InvalidShape, a_InvalidLayer, a_InvalidDrawing, a_InvalidRegion, a_InvalidPlan, a_InvalidIndex, a_InvalidBox, a_InvalidMove, a_InvalidText, a_OnEdge, a_Blank, a_TooMany, a_NothingToUndo].map (fun C => PySem.W.kitOne K (.ref a_InvalidText) (.ref C)) = (List.range 15).map fun i => some (i == 10)) (value : PySem.W.kitOne K (.ref a_InvalidText) (.type "ValueError") = some true) (caught : PySem.W.exmOne K (.ref a_InvalidText) (.ref a_PictureError) = some true)
    (own : PySem.W.excIn K a_InvalidText [.type "ValueError", .type "Exception", .type "BaseException", .type "object"] "ValueError.__new__" = true) (kp : PySem.W.keepIn K (.ref a_InvalidText) = true) (tF : PySem.W.typeIn K (.ref a_InvalidText) = some (.type "type")) :
    ∃ cs : Cs, CsOk mg cs ∧ ErrD K cs 10 cs.InvalidText ∧ RaiseD K cs.InvalidText :=
  ⟨⟨a_InvalidNumber, a_InvalidPoint, a_InvalidShape, a_InvalidLayer, a_InvalidDrawing, a_InvalidRegion, a_InvalidPlan, a_InvalidIndex, a_InvalidBox, a_InvalidMove, a_InvalidText, a_OnEdge, a_Blank, a_TooMany, a_NothingToUndo, a_PictureError⟩, ⟨m_InvalidNumber, m_InvalidPoint, m_InvalidShape, m_InvalidLayer, m_InvalidDrawing, m_InvalidRegion, m_InvalidPlan, m_InvalidIndex, m_InvalidBox, m_InvalidMove, m_InvalidText, m_OnEdge, m_Blank, m_TooMany, m_NothingToUndo, m_PictureError⟩, ⟨⟨hg, hk, hs, hd, ha, hn, ht, hm⟩, tests, value, caught⟩, ⟨own, kp, hs, tF⟩⟩
end K30

set_option Elab.async false
set_option linter.all false
set_option maxRecDepth 100000
set_option maxHeartbeats 4000000
namespace DL
open PySem PySem.Spec PyProof.Rows L2
theorem lawU_mk {K : PySem.W.Frag} {h : Heap} {mg : Str → Option Value} {f fa c Pt : Addr} {x p : Str} {st : Stmt} {oc kV doc pm ct ec : Value} {od an dc : Option Addr} {osl sl : Array (Option Value)} {vs : Array Value} (X : K.In h) (G : h.Ns mainGlobals mg) (hfa : mg x = some (.ref fa))
    (a : PySem.W.nsIn K mainGlobals x = some (some (.ref f))) (l : K.lookup f = some ⟨oc, od, .func (PySem.W.fnOf x x (defArgs st) (defBody st) (defScope st) .none kV doc pm an (.ref c) ct), osl⟩) (ci : PySem.W.codeIn K (.ref c) x = true) (k : PySem.W.keepIn K (.ref f) = true)
    (lc : K.lookup c = some ⟨ec, dc, .fields vs, sl⟩) (h11 : vs[11]? = some (.ref Pt)) (hd : PySem.W.codeHdIn K c Pt = true) (nP : K.lookup Pt = none) (hT : h.get? Pt = some { cls := .none, data := .fields #[] })
    (b : ∀ (s : Shared) (kV doc pm : Value) (an : Option Addr) (cdv ct : Value) (v : Value), BindsTo s (PySem.W.fnOf x x (defArgs st) (defBody st) (defScope st) .none kV doc pm an cdv ct) ⟨[v], []⟩ [(p, v)]) :
    ∃ (fd : FuncData) (c Pt : Addr), (Fun K x x st fa fd ∧ ∀ (s : Shared) (v : Value), BindsTo s fd ⟨[v], []⟩ [(p, v)]) ∧ fd.code = .ref c ∧ h.get? Pt = some { cls := .none, data := .fields #[] } ∧ K.lookup Pt = none ∧ PySem.W.CodeHd h c Pt := by
  have e := hfa.symm.trans (PySem.W.mg_of X G a)
  cases e
  exact ⟨_, c, Pt, ⟨fun_mk (st := st) l ci k, fun s v => b s kV doc pm an _ ct v⟩, rfl, hT, nP, PySem.W.codeHd_of_K X hd⟩
theorem strs_mk {K : PySem.W.Frag} {h : Heap} {mg : Str → Option Value} {a : Addr} {x : Str} {ss : List Str} {n : Nat} {od : Option Addr} {osl : Array (Option Value)} {its : Array Value} (X : K.In h) (G : h.Ns mainGlobals mg)
    (hn : PySem.W.nsIn K mainGlobals x = some (some (.ref a))) (l : K.lookup a = some ⟨.type "tuple", od, .seq its n, osl⟩) (z : its.size ≤ sizeLine) (v : Vals (ss.map V.str) its.toList) : ∃ a, mg x = some (.ref a) ∧ ∀ H, Dp K H (.ref a) (.tuple (ss.map .str)) :=
  ⟨a, PySem.W.mg_of X G hn, dp_strs l rfl rfl z v⟩
end DL
open PySem PySem.W PyProof.Rows
set_option maxHeartbeats 0 in
theorem PySem.Challenge.cw_samepictures_k30_whole_texts_holds : PySem.Challenge.rw_samepictures_k30_whole_texts.Holds := by
  w_on; o_law; k_head; (case hw => w_witness2)
  k_fill
  refine LamX.walk_ofTs (l := PySem.Challenge.rw_samepictures_k30_whole_texts) (n := 63) (k := 19) (x := "_law_script") (CX := fun _ => L2.CX0) rfl (by decide) rfl ⟨rfl, by decide, by decide⟩ (fun w h Y => PySem.W.km_in_of Y) ?F (fun _ _ _ _ _ h => h)
  case F =>
    intro w mg fa h Y KX G hmg
    have d_is_whole := (DL.defT_mk (x := "is_whole") (st := K30.st_is_whole) (ps := ["value"]) KX G (by k_is) (by k_is) (by k_is) (by k_is) (fun _ _ _ _ _ _ us hl => match us, hl with | [_], _ => rfl))
    have d_are_whole := (DL.defT_mk (x := "are_whole") (st := K30.st_are_whole) (ps := ["value", "many", "low", "high"]) KX G (by k_is) (by k_is) (by k_is) (by k_is) (fun _ _ _ _ _ _ us hl => match us, hl with | [_, _, _, _], _ => rfl))
    have d_is_loop := (DL.defT_mk (x := "is_loop") (st := K30.st_is_loop) (ps := ["value"]) KX G (by k_is) (by k_is) (by k_is) (by k_is) (fun _ _ _ _ _ _ us hl => match us, hl with | [_], _ => rfl))
    have d_is_shape := (DL.defT_mk (x := "is_shape") (st := K30.st_is_shape) (ps := ["value"]) KX G (by k_is) (by k_is) (by k_is) (by k_is) (fun _ _ _ _ _ _ us hl => match us, hl with | [_], _ => rfl))
    have d_is_colour := (DL.defT_mk (x := "is_colour") (st := K30.st_is_colour) (ps := ["value"]) KX G (by k_is) (by k_is) (by k_is) (by k_is) (fun _ _ _ _ _ _ us hl => match us, hl with | [_], _ => rfl))
    have d_is_opacity := (DL.defT_mk (x := "is_opacity") (st := K30.st_is_opacity) (ps := ["value"]) KX G (by k_is) (by k_is) (by k_is) (by k_is) (fun _ _ _ _ _ _ us hl => match us, hl with | [_], _ => rfl))
    have d_is_matrix := (DL.defT_mk (x := "is_matrix") (st := K30.st_is_matrix) (ps := ["value"]) KX G (by k_is) (by k_is) (by k_is) (by k_is) (fun _ _ _ _ _ _ us hl => match us, hl with | [_], _ => rfl))
    have d_is_fill := (DL.defT_mk (x := "is_fill") (st := K30.st_is_fill) (ps := ["value"]) KX G (by k_is) (by k_is) (by k_is) (by k_is) (fun _ _ _ _ _ _ us hl => match us, hl with | [_], _ => rfl))
    have d_is_rub := (DL.defT_mk (x := "is_rub") (st := K30.st_is_rub) (ps := ["value"]) KX G (by k_is) (by k_is) (by k_is) (by k_is) (fun _ _ _ _ _ _ us hl => match us, hl with | [_], _ => rfl))
    have d_is_group := (DL.defT_mk (x := "is_group") (st := K30.st_is_group) (ps := ["value", "deepest"]) KX G (by k_is) (by k_is) (by k_is) (by k_is) (fun _ _ _ _ _ _ us hl => match us, hl with | [_, _], _ => rfl))
    have d_is_nested_layer := (DL.defT_mk (x := "is_nested_layer") (st := K30.st_is_nested_layer) (ps := ["value", "deepest"]) KX G (by k_is) (by k_is) (by k_is) (by k_is) (fun _ _ _ _ _ _ us hl => match us, hl with | [_, _], _ => rfl))
    have d_are_layers := (DL.defT_mk (x := "are_layers") (st := K30.st_are_layers) (ps := ["value", "deepest"]) KX G (by k_is) (by k_is) (by k_is) (by k_is) (fun _ _ _ _ _ _ us hl => match us, hl with | [_, _], _ => rfl))
    have d_list_shapes := (DL.defT_mk (x := "list_shapes") (st := K30.st_list_shapes) (ps := ["layers"]) KX G (by k_is) (by k_is) (by k_is) (by k_is) (fun _ _ _ _ _ _ us hl => match us, hl with | [_], _ => rfl))
    have d_add_points := (DL.defT_mk (x := "add_points") (st := K30.st_add_points) (ps := ["layers"]) KX G (by k_is) (by k_is) (by k_is) (by k_is) (fun _ _ _ _ _ _ us hl => match us, hl with | [_], _ => rfl))
    have d_is_drawing := (DL.defT_mk (x := "is_drawing") (st := K30.st_is_drawing) (ps := ["value"]) KX G (by k_is) (by k_is) (by k_is) (by k_is) (fun _ _ _ _ _ _ us hl => match us, hl with | [_], _ => rfl))
    have d_check_drawing := (DL.defT_mk (x := "check_drawing") (st := K30.st_check_drawing) (ps := ["value"]) KX G (by k_is) (by k_is) (by k_is) (by k_is) (fun _ _ _ _ _ _ us hl => match us, hl with | [_], _ => rfl))
    have d_join_numbers := (DL.defT_mk (x := "join_numbers") (st := K30.st_join_numbers) (ps := ["numbers", "sign"]) KX G (by k_is) (by k_is) (by k_is) (by k_is) (fun _ _ _ _ _ _ us hl => match us, hl with | [_, _], _ => rfl))
    have d_format_loop := (DL.defT_mk (x := "format_loop") (st := K30.st_format_loop) (ps := ["loop"]) KX G (by k_is) (by k_is) (by k_is) (by k_is) (fun _ _ _ _ _ _ us hl => match us, hl with | [_], _ => rfl))
    have d_format_shape := (DL.defT_mk (x := "format_shape") (st := K30.st_format_shape) (ps := ["shape"]) KX G (by k_is) (by k_is) (by k_is) (by k_is) (fun _ _ _ _ _ _ us hl => match us, hl with | [_], _ => rfl))
    have d_format_group := (DL.defT_mk (x := "format_group") (st := K30.st_format_group) (ps := ["group"]) KX G (by k_is) (by k_is) (by k_is) (by k_is) (fun _ _ _ _ _ _ us hl => match us, hl with | [_], _ => rfl))
    have d_format_layer := (DL.defT_mk (x := "format_layer") (st := K30.st_format_layer) (ps := ["layer"]) KX G (by k_is) (by k_is) (by k_is) (by k_is) (fun _ _ _ _ _ _ us hl => match us, hl with | [_], _ => rfl))
    have d_format_layers := (DL.defT_mk (x := "format_layers") (st := K30.st_format_layers) (ps := ["layers"]) KX G (by k_is) (by k_is) (by k_is) (by k_is) (fun _ _ _ _ _ _ us hl => match us, hl with | [_], _ => rfl))
    have d_format_drawing := (DL.defT_mk (x := "format_drawing") (st := K30.st_format_drawing) (ps := ["drawing"]) KX G (by k_is) (by k_is) (by k_is) (by k_is) (fun _ _ _ _ _ _ us hl => match us, hl with | [_], _ => rfl))
    have d_split_words := (DL.defT_mk (x := "split_words") (st := K30.st_split_words) (ps := ["text", "many"]) KX G (by k_is) (by k_is) (by k_is) (by k_is) (fun _ _ _ _ _ _ us hl => match us, hl with | [_, _], _ => rfl))
    have d_read_number := (DL.defT_mk (x := "read_number") (st := K30.st_read_number) (ps := ["word"]) KX G (by k_is) (by k_is) (by k_is) (by k_is) (fun _ _ _ _ _ _ us hl => match us, hl with | [_], _ => rfl))
    have d_read_numbers := (DL.defT_mk (x := "read_numbers") (st := K30.st_read_numbers) (ps := ["text", "sign"]) KX G (by k_is) (by k_is) (by k_is) (by k_is) (fun _ _ _ _ _ _ us hl => match us, hl with | [_, _], _ => rfl))
    have d_read_loop := (DL.defT_mk (x := "read_loop") (st := K30.st_read_loop) (ps := ["text"]) KX G (by k_is) (by k_is) (by k_is) (by k_is) (fun _ _ _ _ _ _ us hl => match us, hl with | [_], _ => rfl))
    have d_read_shape := (DL.defT_mk (x := "read_shape") (st := K30.st_read_shape) (ps := ["text"]) KX G (by k_is) (by k_is) (by k_is) (by k_is) (fun _ _ _ _ _ _ us hl => match us, hl with | [_], _ => rfl))
    have d_read_fill := (DL.defT_mk (x := "read_fill") (st := K30.st_read_fill) (ps := ["text"]) KX G (by k_is) (by k_is) (by k_is) (by k_is) (fun _ _ _ _ _ _ us hl => match us, hl with | [_], _ => rfl))
    have d_read_rub := (DL.defT_mk (x := "read_rub") (st := K30.st_read_rub) (ps := ["text"]) KX G (by k_is) (by k_is) (by k_is) (by k_is) (fun _ _ _ _ _ _ us hl => match us, hl with | [_], _ => rfl))
    have d_read_group := (DL.defT_mk (x := "read_group") (st := K30.st_read_group) (ps := ["text", "deepest"]) KX G (by k_is) (by k_is) (by k_is) (by k_is) (fun _ _ _ _ _ _ us hl => match us, hl with | [_, _], _ => rfl))
    have d_read_layer := (DL.defT_mk (x := "read_layer") (st := K30.st_read_layer) (ps := ["text", "deepest"]) KX G (by k_is) (by k_is) (by k_is) (by k_is) (fun _ _ _ _ _ _ us hl => match us, hl with | [_, _], _ => rfl))
    have d_split_layers := (DL.defT_mk (x := "split_layers") (st := K30.st_split_layers) (ps := ["text"]) KX G (by k_is) (by k_is) (by k_is) (by k_is) (fun _ _ _ _ _ _ us hl => match us, hl with | [_], _ => rfl))
    have d_read_layers := (DL.defT_mk (x := "read_layers") (st := K30.st_read_layers) (ps := ["text", "deepest"]) KX G (by k_is) (by k_is) (by k_is) (by k_is) (fun _ _ _ _ _ _ us hl => match us, hl with | [_, _], _ => rfl))
    have d_parse_drawing := (DL.defT_mk (x := "parse_drawing") (st := K30.st_parse_drawing) (ps := ["text"]) KX G (by k_is) (by k_is) (by k_is) (by k_is) (fun _ _ _ _ _ _ us hl => match us, hl with | [_], _ => rfl))
    have d__law_cell := (DL.defT_mk (x := "_law_cell") (st := K30.st__law_cell) (ps := ["_law_script", "_law_k"]) KX G (by k_is) (by k_is) (by k_is) (by k_is) (fun _ _ _ _ _ _ us hl => match us, hl with | [_, _], _ => rfl))
    have d__law_drawn := (DL.defT_mk (x := "_law_drawn") (st := K30.st__law_drawn) (ps := ["_law_cell_here", "_law_k"]) KX G (by k_is) (by k_is) (by k_is) (by k_is) (fun _ _ _ _ _ _ us hl => match us, hl with | [_, _], _ => rfl))
    have d__law_roll := (DL.defT_mk (x := "_law_roll") (st := K30.st__law_roll) (ps := ["_law_dice", "_law_many"]) KX G (by k_is) (by k_is) (by k_is) (by k_is) (fun _ _ _ _ _ _ us hl => match us, hl with | [_, _], _ => rfl))
    have d__law_rounds := (DL.defT_mk (x := "_law_rounds") (st := K30.st__law_rounds) (ps := ["_law_script", "_law_most"]) KX G (by k_is) (by k_is) (by k_is) (by k_is) (fun _ _ _ _ _ _ us hl => match us, hl with | [_, _], _ => rfl))
    have d__law_term := (DL.defT_mk (x := "_law_term") (st := K30.st__law_term) (ps := ["_law_e"]) KX G (by k_is) (by k_is) (by k_is) (by k_is) (fun _ _ _ _ _ _ us hl => match us, hl with | [_], _ => rfl))
    have d__law_told := (DL.defT_mk (x := "_law_told") (st := K30.st__law_told) (ps := ["_law_deed"]) KX G (by k_is) (by k_is) (by k_is) (by k_is) (fun _ _ _ _ _ _ us hl => match us, hl with | [_], _ => rfl))
    have d__law_loop := (DL.defT_mk (x := "_law_loop") (st := K30.st__law_loop) (ps := ["_law_dice", "_law_far"]) KX G (by k_is) (by k_is) (by k_is) (by k_is) (fun _ _ _ _ _ _ us hl => match us, hl with | [_, _], _ => rfl))
    have d__law_shape := (DL.defT_mk (x := "_law_shape") (st := K30.st__law_shape) (ps := ["_law_dice", "_law_far"]) KX G (by k_is) (by k_is) (by k_is) (by k_is) (fun _ _ _ _ _ _ us hl => match us, hl with | [_, _], _ => rfl))
    have d__law_opacity := (DL.defT_mk (x := "_law_opacity") (st := K30.st__law_opacity) (ps := ["_law_dice"]) KX G (by k_is) (by k_is) (by k_is) (by k_is) (fun _ _ _ _ _ _ us hl => match us, hl with | [_], _ => rfl))
    have d__law_matrix := (DL.defT_mk (x := "_law_matrix") (st := K30.st__law_matrix) (ps := ["_law_dice"]) KX G (by k_is) (by k_is) (by k_is) (by k_is) (fun _ _ _ _ _ _ us hl => match us, hl with | [_], _ => rfl))
    have d__law_layer := (DL.defT_mk (x := "_law_layer") (st := K30.st__law_layer) (ps := ["_law_dice", "_law_far", "_law_deep"]) KX G (by k_is) (by k_is) (by k_is) (by k_is) (fun _ _ _ _ _ _ us hl => match us, hl with | [_, _, _], _ => rfl))
    have d__law_drawing := (DL.defT_mk (x := "_law_drawing") (st := K30.st__law_drawing) (ps := ["_law_dice", "_law_many", "_law_far"]) KX G (by k_is) (by k_is) (by k_is) (by k_is) (fun _ _ _ _ _ _ us hl => match us, hl with | [_, _, _], _ => rfl))
    have d__law_size := (DL.defT_mk (x := "_law_size") (st := K30.st__law_size) (ps := ["_law_layers"]) KX G (by k_is) (by k_is) (by k_is) (by k_is) (fun _ _ _ _ _ _ us hl => match us, hl with | [_], _ => rfl))
    have d__law_shape_text := (DL.defT_mk (x := "_law_shape_text") (st := K30.st__law_shape_text) (ps := ["_law_shape_here"]) KX G (by k_is) (by k_is) (by k_is) (by k_is) (fun _ _ _ _ _ _ us hl => match us, hl with | [_], _ => rfl))
    have d__law_text := (DL.defT_mk (x := "_law_text") (st := K30.st__law_text) (ps := ["_law_drawing_here"]) KX G (by k_is) (by k_is) (by k_is) (by k_is) (fun _ _ _ _ _ _ us hl => match us, hl with | [_], _ => rfl))
    have b_isinstance : mg "isinstance" = none := PySem.W.mg_none_of KX G (by k_is)
    have b_tuple : mg "tuple" = none := PySem.W.mg_none_of KX G (by k_is)
    have b_int : mg "int" = none := PySem.W.mg_none_of KX G (by k_is)
    have b_bool : mg "bool" = none := PySem.W.mg_none_of KX G (by k_is)
    have b_len : mg "len" = none := PySem.W.mg_none_of KX G (by k_is)
    have b_all : mg "all" = none := PySem.W.mg_none_of KX G (by k_is)
    have b_sum : mg "sum" = none := PySem.W.mg_none_of KX G (by k_is)
    have b_max : mg "max" = none := PySem.W.mg_none_of KX G (by k_is)
    have b_min : mg "min" = none := PySem.W.mg_none_of KX G (by k_is)
    have b_range : mg "range" = none := PySem.W.mg_none_of KX G (by k_is)
    have b_str : mg "str" = none := PySem.W.mg_none_of KX G (by k_is)
    have b_ValueError : mg "ValueError" = none := PySem.W.mg_none_of KX G (by k_is)
    have c_RULES := DL.strs_mk (x := "RULES") (ss := ["odd", "turns"]) KX G (by k_is) (by k_is) (by decide) (.cons ⟨_, rfl⟩ (.cons ⟨_, rfl⟩ (.nil)))
    have c_FARTHEST : ∃ t, mg "FARTHEST" = some (.int 9 t) := ⟨_, PySem.W.mg_of KX G (by k_is)⟩
    have c_MOST_LAYERS : ∃ t, mg "MOST_LAYERS" = some (.int 4 t) := ⟨_, PySem.W.mg_of KX G (by k_is)⟩
    have c_MOST_POINTS : ∃ t, mg "MOST_POINTS" = some (.int 60 t) := ⟨_, PySem.W.mg_of KX G (by k_is)⟩
    have c_DEEPEST : ∃ t, mg "DEEPEST" = some (.int 2 t) := ⟨_, PySem.W.mg_of KX G (by k_is)⟩
    have c_BETWEEN_LAYERS : ∃ t, mg "BETWEEN_LAYERS" = some (.str " & " t) := ⟨_, PySem.W.mg_of KX G (by k_is)⟩
    have c_DIGITS : ∃ t, mg "DIGITS" = some (.str "0123456789" t) := ⟨_, PySem.W.mg_of KX G (by k_is)⟩
    have c_LONGEST : ∃ t, mg "LONGEST" = some (.int 10000 t) := ⟨_, PySem.W.mg_of KX G (by k_is)⟩
    have m_InvalidNumber := PySem.W.mg_of KX G (n := "InvalidNumber") (by k_is)
    have m_InvalidPoint := PySem.W.mg_of KX G (n := "InvalidPoint") (by k_is)
    have m_InvalidShape := PySem.W.mg_of KX G (n := "InvalidShape") (by k_is)
    have m_InvalidLayer := PySem.W.mg_of KX G (n := "InvalidLayer") (by k_is)
    have m_InvalidDrawing := PySem.W.mg_of KX G (n := "InvalidDrawing") (by k_is)
    have m_InvalidRegion := PySem.W.mg_of KX G (n := "InvalidRegion") (by k_is)
    have m_InvalidPlan := PySem.W.mg_of KX G (n := "InvalidPlan") (by k_is)
    have m_InvalidIndex := PySem.W.mg_of KX G (n := "InvalidIndex") (by k_is)
    have m_InvalidBox := PySem.W.mg_of KX G (n := "InvalidBox") (by k_is)
    have m_InvalidMove := PySem.W.mg_of KX G (n := "InvalidMove") (by k_is)
    have m_InvalidText := PySem.W.mg_of KX G (n := "InvalidText") (by k_is)
    have m_OnEdge := PySem.W.mg_of KX G (n := "OnEdge") (by k_is)
    have m_Blank := PySem.W.mg_of KX G (n := "Blank") (by k_is)
    have m_TooMany := PySem.W.mg_of KX G (n := "TooMany") (by k_is)
    have m_NothingToUndo := PySem.W.mg_of KX G (n := "NothingToUndo") (by k_is)
    have m_PictureError := PySem.W.mg_of KX G (n := "PictureError") (by k_is)
    obtain ⟨cs, hC, eD, rD⟩ := K30.errs_mk KX m_InvalidNumber m_InvalidPoint m_InvalidShape m_InvalidLayer m_InvalidDrawing m_InvalidRegion m_InvalidPlan m_InvalidIndex m_InvalidBox m_InvalidMove m_InvalidText m_OnEdge m_Blank m_TooMany m_NothingToUndo m_PictureError
      (by k_is) (by k_is) (by k_is) (by k_is) (by k_is) (by k_is) (by k_is) (by k_is) (by kernel_rfl) (by kernel_rfl) (by kernel_rfl) (by kernel_rfl) (by k_is) (by k_is)
    obtain ⟨fd, cc, Pt, ⟨F, hb⟩, hcc, hT, nT, C⟩ := DL.lawU_mk (x := "law") (p := "_law_script") (st := K30.st_law) KX G hmg (by k_is) (by k_is) (by k_is) (by k_is) (by k_is) (by rfl) (by kernel_rfl) (by kernel_rfl) (by exact PySem.W.km_tabs_of Y _ (List.mem_singleton_self _)) (fun s kV doc pm an cdv ct v => .of_eq rfl)
    have one : ∀ p ∈ [(cc, Pt)], p = (cc, Pt) := fun p hp => List.mem_singleton.mp hp
    exact ⟨fd, [(cc, Pt)], @K30.spLaw ⟨[(Pt, "law.<locals>.<lambda>")]⟩ _, fun p hp => one p hp ▸ hT, fun p hp => one p hp ▸ nT, fun p hp => one p hp ▸ C, hb,
      fun H a ns hl _ hH hS => ⟨fun p hp => by rw [List.mem_singleton.mp hp]; exact LamX.TabS.nil (hH _ (List.mem_singleton_self _)), a, ns, rfl, hS, hl, fun _ => rfl⟩,
      fun base _ _ TB => @K30.law_all ⟨[(Pt, "law.<locals>.<lambda>")]⟩ _ _ _ _ _ ⟨d_is_whole, d_are_whole, d_is_loop, d_is_shape, d_is_colour, d_is_opacity, d_is_matrix, d_is_fill, d_is_rub, d_is_group, d_is_nested_layer, d_are_layers, d_list_shapes, d_add_points, d_is_drawing, d_check_drawing, d_join_numbers, d_format_loop, d_format_shape, d_format_group, d_format_layer, d_format_layers, d_format_drawing, d_split_words, d_read_number, d_read_numbers, d_read_loop, d_read_shape, d_read_fill, d_read_rub, d_read_group, d_read_layer, d_split_layers, d_read_layers, d_parse_drawing, d__law_cell, d__law_drawn, d__law_roll, d__law_rounds, d__law_term, d__law_told, d__law_loop, d__law_shape, d__law_opacity, d__law_matrix, d__law_layer, d__law_drawing, d__law_size, d__law_shape_text, d__law_text, b_isinstance, b_tuple, b_int, b_bool, b_len, b_all, b_sum, b_max, b_min, b_range, b_str, b_ValueError, c_RULES, c_FARTHEST, c_MOST_LAYERS, c_MOST_POINTS, c_DEEPEST, c_BETWEEN_LAYERS, c_DIGITS, c_LONGEST⟩ _ _ _ _ cs hC eD rD F hcc (TB _ (List.mem_singleton_self _)) (List.mem_singleton_self _) (fun p hp _ => by rw [List.mem_singleton.mp hp]; rfl)⟩
