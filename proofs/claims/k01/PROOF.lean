import PyProof.Rows.All
import Wide.All
import OpenK.AllK
import Wide.FinOn
import HandS.ForMost
import HandS.IsInst
import HandS.TupAny
import HandS.TupMul
import HandS.Deep
import HandS.Evl
import HandS.Wide
import HandS.Lambda
import HandS.Flow
import HandS.Style
import PySem.Challenge.RW_samepictures_k01_whole_painted_points
import HandS.HotCalls
import HandS.ExcIs
import KE.GoesComp
import PyProof.SumWalk
import PyProof.Walks
import KE.GoesMore
import HandS.SuiteRaise
import HandS.WordsExc
import HandS.Gcd
import KE.KUnpackStar
import HandS.Sort
import KE.KDictKeyed
import HandS.SetKeys
import HandS.Iter
import HandS.Text
import PyProof.Rows.StrSplitMax
import PyProof.Rows.RegReprOcc
import HandS.StrSplit
import HandS.StrMore
import HandS.FStr
import HandS.TryOnly
import HandS.Star
import HandS.Zip
import HandS.EndOwn
import KE.KNestM
set_option Elab.async false
set_option linter.all false
set_option maxRecDepth 100000
namespace DL
open PySem PySem.Spec PyProof.Rows L2


abbrev M : Type := List (List PyData)
/-- the tables of code objects, with the names of what is made there -/
class Tbs where
  T : List (Addr × Str)
instance (priority := low) noTbs : Tbs := ⟨[]⟩
variable [Tbs]

/-- what a slot or a result is, by its data -/
inductive Sl where
  | no
  | d (x : PyData)
  | c (j : Nat)
  | v (x : V)

section
variable (K : PySem.W.Frag)

structure Wd (H0 H : Hp) (ρ : List Addr) (m : M) : Prop where
  ex : Evl.Ex H0 H
  len : ρ.length = m.length
  nd : ρ.Nodup
  cel : ∀ (j : Nat) (p : Addr) (ds : List PyData), ρ[j]? = some p → m[j]? = some ds → H0 p = none ∧ ∃ vs, H p = some (.lst vs) ∧ DpAll K H0 vs ds
  tab : LamX.Tabs Tbs.T H
  nT : ∀ p ∈ Tbs.T, H0 p.1 = none

def SlOk (H0 : Hp) (ρ : List Addr) (v : V) : Sl → Prop
  | .no => True
  | .d x => Dp K H0 v x
  | .c j => ∃ p, v = .ref p ∧ ρ[j]? = some p
  | .v x => v = x

inductive SlAll (H0 : Hp) (ρ : List Addr) : List V → List Sl → Prop
  | nil : SlAll H0 ρ [] []
  | cons {v vs r rs} : SlOk K H0 ρ v r → SlAll H0 ρ vs rs → SlAll H0 ρ (v :: vs) (r :: rs)

def EnvS (H0 : Hp) (ρ : List Addr) (σ : L2.St) (es : List Sl) : Prop :=
  σ.length = es.length ∧ ∀ (i : Nat) (s : Sl), es[i]? = some s → s = .no ∨ ∃ v, σ[i]? = some (some v) ∧ SlOk K H0 ρ v s
end

/-- a step: n cells are the caller's -/
structure Stp (n : Nat) (ρ : List Addr) (H0 H : Hp) (ρ' : List Addr) (H0' H' : Hp) : Prop where
  ex : Evl.Ex H0 H0'
  keep : ∀ b o, H b = some o → b ∉ ρ → (∀ ps, o ≠ .tbl ps) → H' b = some o
  dom : ∀ b, H' b = none → H b = none
  fresh : ∀ b o, H0' b = some o → H0 b = some o ∨ H b = none ∨ b ∈ ρ.drop n
  pre : ρ'.take n = ρ.take n
  cel : ∀ b, b ∈ ρ' → b ∈ ρ ∨ H b = none

section
variable {K : PySem.W.Frag} {H0 H H0' H' H0'' H'' : Hp} {ρ ρ' ρ'' : List Addr} {m m' : M} {σ : L2.St} {es : List Sl} {n : Nat}

theorem Stp.refl : Stp n ρ H0 H ρ H0 H := ⟨Evl.Ex.refl _, fun _ _ h _ _ => h, fun _ h => h, fun _ _ h => .inl h, rfl, fun _ h => .inl h⟩
theorem nd_split {ρ : List Addr} (nd : ρ.Nodup) {b : Addr} (h1 : b ∈ ρ.take n) (h2 : b ∈ ρ.drop n) : False := by
  have e := List.take_append_drop n ρ
  rw [← e] at nd
  exact (List.nodup_append.mp nd).2.2 b h1 b h2 rfl
theorem Stp.trans (nd : ρ'.Nodup) (a : Stp n ρ H0 H ρ' H0' H') (b : Stp n ρ' H0' H' ρ'' H0'' H'') : Stp n ρ H0 H ρ'' H0'' H'' where
  ex := a.ex.trans b.ex
  keep := fun x o h hn nt => b.keep x o (a.keep x o h hn nt) (fun hx => by
    rcases a.cel x hx with z | z
    · exact hn z
    · rw [z] at h; cases h) nt
  dom := fun x h => a.dom x (b.dom x h)
  fresh := fun x o h => by
    rcases b.fresh x o h with z | z | z
    · exact a.fresh x o z
    · exact .inr (.inl (a.dom x z))
    · rcases a.cel x (List.mem_of_mem_drop z) with y | y
      · rw [← List.take_append_drop n ρ] at y
        rcases List.mem_append.mp y with y | y
        · rw [← a.pre] at y
          exact (nd_split nd y z).elim
        · exact .inr (.inr y)
      · exact .inr (.inl y)
  pre := b.pre.trans a.pre
  cel := fun x h => by
    rcases b.cel x h with z | z
    · exact a.cel x z
    · exact .inr (a.dom x z)

mutual
theorem dp_mono (e : Evl.Ex H H') : ∀ {v : V} {d : PyData}, Dp K H v d → Dp K H' v d
  | _, _, .non => .non
  | _, _, .bl b => .bl b
  | _, _, .int i => .int i
  | _, _, .str x => .str x
  | _, _, .lst h a => .lst (Evl.ex_l e h) (dpAll_mono e a)
  | _, _, .tup h a => .tup (Evl.ex_t e h) (dpAll_mono e a)
theorem dpAll_mono (e : Evl.Ex H H') : ∀ {vs : List V} {ds : List PyData}, DpAll K H vs ds → DpAll K H' vs ds
  | _, _, .nil => .nil
  | _, _, .cons h t => .cons (dp_mono e h) (dpAll_mono e t)
end
theorem SlOk.mono (e : Evl.Ex H0 H0') {v : V} : ∀ {r : Sl}, SlOk K H0 ρ v r → SlOk K H0' ρ v r
  | .no, _ => trivial
  | .d _, h => dp_mono e h
  | .c _, h => h
  | .v _, h => h
theorem SlAll.mono (e : Evl.Ex H0 H0') {vs : List V} {rs : List Sl} (h : SlAll K H0 ρ vs rs) : SlAll K H0' ρ vs rs := by
  induction h with
  | nil => exact .nil
  | cons a _ ih => exact .cons (a.mono e) ih
theorem SlAll.length {vs : List V} {rs : List Sl} (h : SlAll K H0 ρ vs rs) : vs.length = rs.length := by
  induction h with
  | nil => rfl
  | cons a _ ih => rw [List.length_cons, List.length_cons, ih]
theorem EnvS.mono (e : Evl.Ex H0 H0') (h : EnvS K H0 ρ σ es) : EnvS K H0' ρ σ es := ⟨h.1, fun i s q => by
  rcases h.2 i s q with z | ⟨v, a, b⟩
  · exact .inl z
  · exact .inr ⟨v, a, b.mono e⟩⟩
theorem EnvS.set {i : Nat} {v : V} {r : Sl} (h : EnvS K H0 ρ σ es) (hv : SlOk K H0 ρ v r) : EnvS K H0 ρ (σ.set i (some v)) (es.set i r) := by
  refine ⟨by rw [List.length_set, List.length_set]; exact h.1, fun j s q => ?_⟩
  by_cases hj : i = j
  · subst hj
    by_cases hl : i < es.length
    · rw [List.getElem?_set_self hl] at q
      cases q
      exact .inr ⟨v, by rw [List.getElem?_set_self (by rw [h.1]; exact hl)], hv⟩
    · rw [List.getElem?_eq_none (by rw [List.length_set]; omega)] at q
      cases q
  · rw [List.getElem?_set_ne hj] at q
    rcases h.2 j s q with z | ⟨v', a, b⟩
    · exact .inl z
    · exact .inr ⟨v', by rw [List.getElem?_set_ne hj]; exact a, b⟩
theorem EnvS.unset {i : Nat} (h : EnvS K H0 ρ σ es) : EnvS K H0 ρ (σ.set i none) (es.set i .no) := by
  refine ⟨by rw [List.length_set, List.length_set]; exact h.1, fun j s q => ?_⟩
  by_cases hj : i = j
  · subst hj
    by_cases hl : i < es.length
    · rw [List.getElem?_set_self hl] at q
      cases q
      exact .inl rfl
    · rw [List.getElem?_eq_none (by rw [List.length_set]; omega)] at q
      cases q
  · rw [List.getElem?_set_ne hj] at q
    rcases h.2 j s q with z | ⟨v', a, b⟩
    · exact .inl z
    · exact .inr ⟨v', by rw [List.getElem?_set_ne hj]; exact a, b⟩
def wipeS (es : List Sl) : List Nat → List Sl
  | [] => es
  | v :: vs => (wipeS es vs).set v .no
theorem EnvS.wipe (h : EnvS K H0 ρ σ es) : ∀ vs : List Nat, EnvS K H0 ρ (wipe σ vs) (wipeS es vs)
  | [] => h
  | v :: vs => by
    unfold L2.wipe wipeS
    exact (EnvS.wipe h vs).unset
theorem Wd.nT_fresh (w : Wd K H0 H ρ m) (p : Addr × Str) (hp : p ∈ Tbs.T) (h : ∀ o, H0' p.1 = some o → H0 p.1 = some o ∨ H p.1 = none) : H0' p.1 = none := by
  cases q : H0' p.1 with
  | none => rfl
  | some o =>
    obtain ⟨ps, e, _⟩ := w.tab p hp
    rcases h o q with z | z
    · rw [w.nT p hp] at z; cases z
    · rw [e] at z; cases z
theorem Wd.grow {n : Nat} (w : Wd K H0 H ρ m) (ex : Evl.Ex H0 H0') (ex2 : Evl.Ex H0' H') (k : Evl.Ex H H') (fresh : ∀ b o, H0' b = some o → H0 b = some o ∨ H b = none) : Wd K H0' H' ρ m ∧ Stp n ρ H0 H ρ H0' H' := by
  refine ⟨⟨ex2, w.len, w.nd, fun j p ds a b => ?_, w.tab.ext k, fun p hp => w.nT_fresh p hp fun o h => fresh _ o h⟩, ⟨ex, fun b o h _ _ => k b o h, fun b h => ?_, fun b o h => ?_, rfl, fun b h => .inl h⟩⟩
  · obtain ⟨h1, vs, h2, h3⟩ := w.cel j p ds a b
    refine ⟨?_, vs, k _ _ h2, dpAll_mono ex h3⟩
    cases q : H0' p with
    | none => rfl
    | some o =>
      rcases fresh p o q with z | z
      · rw [h1] at z; cases z
      · rw [h2] at z; cases z
  · exact Evl.fresh_back k h
  · rcases fresh b o h with z | z
    · exact .inl z
    · exact .inr (.inl z)
theorem Wd.new {n : Nat} {p : Addr} {o : HO} (w : Wd K H0 H ρ m) (hp : H p = none) : Wd K (upd H0 p o) (upd H p o) ρ m ∧ Stp n ρ H0 H ρ (upd H0 p o) (upd H p o) := by
  have h0 : H0 p = none := Evl.fresh_back w.ex hp
  refine w.grow (Evl.Ex.new h0) (fun b u h => ?_) (Evl.Ex.new hp) fun b u h => ?_
  · by_cases e : b = p
    · subst e
      rw [upd_same] at h ⊢
      exact h
    · rw [upd_ne e] at h ⊢
      exact w.ex _ _ h
  · by_cases e : b = p
    · subst e
      exact .inr hp
    · rw [upd_ne e] at h
      exact .inl h
end

/-! ### judgements -/
section
variable (K : PySem.W.Frag)
def EvE (te : TE) (es : List Sl) (m : M) (r : Sl) (m' : M) : Prop := ∀ σ H H0 ρ, Wd K H0 H ρ m → EnvS K H0 ρ σ es → ∀ Q : VK,
  (∀ v H' H0', Stp ρ.length ρ H0 H ρ H0' H' → Wd K H0' H' ρ m' → SlOk K H0' ρ v r → Q v H') → te σ H Q
def EvB (tt : TT) (es : List Sl) (m : M) (b : Bool) (m' : M) : Prop := ∀ σ H H0 ρ, Wd K H0 H ρ m → EnvS K H0 ρ σ es → ∀ Q : Bool → Hp → Prop,
  (∀ H' H0', Stp ρ.length ρ H0 H ρ H0' H' → Wd K H0' H' ρ m' → Q b H') → tt σ H Q
def EvA (ta : TA) (es : List Sl) (m : M) (rs : List Sl) (m' : M) : Prop := ∀ σ H H0 ρ, Wd K H0 H ρ m → EnvS K H0 ρ σ es → ∀ Q : List V → Hp → Prop,
  (∀ vs H' H0', Stp ρ.length ρ H0 H ρ H0' H' → Wd K H0' H' ρ m' → SlAll K H0' ρ vs rs → Q vs H') → ta σ H Q
def EvO (to : TO) (es : List Sl) (m : M) (o : Option Int) (m' : M) : Prop := ∀ σ H H0 ρ, Wd K H0 H ρ m → EnvS K H0 ρ σ es → ∀ Q : Option Int → Hp → Prop,
  (∀ H' H0', Stp ρ.length ρ H0 H ρ H0' H' → Wd K H0' H' ρ m' → Q o H') → to σ H Q
/-- an operation on values: new objects only -/
def Op2 (r : R2) (x y z : PyData) : Prop := ∀ H0 H, Evl.Ex H0 H → ∀ v w, Dp K H0 v x → Dp K H0 w y → ∀ Q : VK,
  (∀ u H' H0', Evl.Ex H0 H0' → Evl.Ex H0' H' → Evl.Ex H H' → (∀ b o, H0' b = some o → H0 b = some o ∨ H b = none) → Dp K H0' u z → Q u H') → r v w H Q
def Op1 (r : V → Hp → VK → Prop) (x z : PyData) : Prop := ∀ H0 H, Evl.Ex H0 H → ∀ v, Dp K H0 v x → ∀ Q : VK,
  (∀ u H' H0', Evl.Ex H0 H0' → Evl.Ex H0' H' → Evl.Ex H H' → (∀ b o, H0' b = some o → H0 b = some o ∨ H b = none) → Dp K H0' u z → Q u H') → r v H Q
/-- a call on values -/
def OpC (r : List V → Hp → VK → Prop) (rs : List Sl) (z : PyData) : Prop := ∀ H0 H ρ, Evl.Ex H0 H → ∀ vs, SlAll K H0 ρ vs rs → ∀ Q : VK,
  (∀ u H' H0', Evl.Ex H0 H0' → Evl.Ex H0' H' → Evl.Ex H H' → (∀ b o, H0' b = some o → H0 b = some o ∨ H b = none) → Dp K H0' u z → Q u H') → r vs H Q
end

section
variable {K : PySem.W.Frag} {te ta tb tc : TE} {tt tu : TT} {es : List Sl} {m m1 m2 m3 : M} {r x y z : Sl} {a b c : Bool}

theorem ev_var {i : Nat} (h : es[i]? = some r) (hn : r ≠ .no) : EvE K (tVar i) es m r m := fun σ H H0 ρ w e Q q => by
  rcases e.2 i r h with z | ⟨v, h1, h2⟩
  · exact (hn z).elim
  · exact ⟨v, h1, q v H H0 .refl w h2⟩
theorem ev_c {v : V} (h : ∀ H0 ρ, SlOk K H0 ρ v r) : EvE K (tC v) es m r m := fun σ H H0 ρ w e Q q => q v H H0 .refl w (h H0 ρ)
theorem ev_int {i : Int} : EvE K (tC (.int i)) es m (.d (.int i)) m := ev_c fun _ _ => .int i
theorem ev_bl {i : Bool} : EvE K (tC (.bl i)) es m (.d (.bool i)) m := ev_c fun _ _ => .bl i
theorem ev_str {i : Str} : EvE K (tC (.str i)) es m (.d (.str i)) m := ev_c fun _ _ => .str i
theorem ev_non : EvE K (tC .non) es m (.d .none) m := ev_c fun _ _ => .non
theorem ev_ty {n : String} : EvE K (tC (.ty n)) es m (.v (.ty n)) m := ev_c fun _ _ => rfl
theorem ev_cast {r' : Sl} (h : EvE K te es m r m1) (e : r = r') : EvE K te es m r' m1 := e ▸ h
theorem eb_cast {b' : Bool} (h : EvB K tt es m b m1) (e : b = b') : EvB K tt es m b' m1 := e ▸ h

theorem two (h1 : EvE K ta es m x m1) (h2 : EvE K tb es m1 y m2) {R : V → V → Hp → Prop} {σ H H0 ρ} (w : Wd K H0 H ρ m) (e : EnvS K H0 ρ σ es)
    (hR : ∀ u v H' H0', Stp ρ.length ρ H0 H ρ H0' H' → Wd K H0' H' ρ m2 → SlOk K H0' ρ u x → SlOk K H0' ρ v y → R u v H') : ta σ H fun u H1 => tb σ H1 fun v H2 => R u v H2 :=
  h1 σ H H0 ρ w e _ fun u H1 H01 s1 w1 k1 => h2 σ H1 H01 ρ w1 (e.mono s1.ex) _ fun v H2 H02 s2 w2 k2 => hR u v H2 H02 (s1.trans w1.nd s2) w2 (k1.mono s2.ex) k2

theorem ev_op {rr : R2} {x y z : PyData} (h1 : EvE K ta es m (.d x) m1) (h2 : EvE K tb es m1 (.d y) m2) (hr : Op2 K rr x y z) : EvE K (tOp rr ta tb) es m (.d z) m2 := fun σ H H0 ρ w e Q q =>
  two h1 h2 w e fun u v H' H0' s' w' ku kv => hr H0' H' w'.ex u v ku kv Q fun z' H2 H02 e1 e2 e3 fr kz => by
    obtain ⟨w2, s2⟩ := w'.grow (n := ρ.length) e1 e2 e3 fr
    exact q z' H2 H02 (s'.trans w'.nd s2) w2 kz
theorem ev_un {rr : V → Hp → VK → Prop} {x z : PyData} (h1 : EvE K ta es m (.d x) m1) (hr : Op1 K rr x z) : EvE K (tUn rr ta) es m (.d z) m1 := fun σ H H0 ρ w e Q q =>
  h1 σ H H0 ρ w e _ fun u H' H0' s' w' ku => hr H0' H' w'.ex u ku Q fun z' H2 H02 e1 e2 e3 fr kz => by
    obtain ⟨w2, s2⟩ := w'.grow (n := ρ.length) e1 e2 e3 fr
    exact q z' H2 H02 (s'.trans w'.nd s2) w2 kz
theorem ea_nil : EvA K tNil es m [] m := fun σ H H0 ρ w e Q q => q [] H H0 .refl w .nil
theorem ea_cons {t : TA} {rs : List Sl} (h1 : EvE K ta es m r m1) (h2 : EvA K t es m1 rs m2) : EvA K (tCons ta t) es m (r :: rs) m2 := fun σ H H0 ρ w e Q q =>
  h1 σ H H0 ρ w e _ fun u H' H0' s' w' ku => h2 σ H' H0' ρ w' (e.mono s'.ex) _ fun vs H2 H02 s2 w2 kv => q (u :: vs) H2 H02 (s'.trans w'.nd s2) w2 (.cons (ku.mono s2.ex) kv)
theorem slAll_d {H0 : Hp} {ρ : List Addr} : ∀ {ds : List PyData} {vs : List V}, SlAll K H0 ρ vs (ds.map .d) → DpAll K H0 vs ds
  | [], _, h => by cases h; exact .nil
  | d :: ds, _, h => by
    cases h with
    | cons a t => exact .cons a (slAll_d t)
theorem dpAll_len {H0 : Hp} : ∀ {vs : List V} {ds : List PyData}, DpAll K H0 vs ds → vs.length = ds.length
  | _, _, .nil => rfl
  | _, _, .cons _ t => by rw [List.length_cons, List.length_cons, dpAll_len t]
theorem ev_tup {t : TA} {rs : List Sl} {ds : List PyData} (h : EvA K t es m rs m1) (e : rs = ds.map .d) (hl : ds.length ≤ 1000) : EvE K (tTup t) es m (.d (.tuple ds)) m1 := fun σ H H0 ρ w ee Q q => by
  subst e
  refine h σ H H0 ρ w ee _ fun vs H' H0' s' w' kv => ?_
  have hd := slAll_d kv
  refine ⟨Nat.le_of_lt (small1000 (by rw [dpAll_len hd]; exact hl)), fun p hp => ?_⟩
  obtain ⟨w2, s2⟩ := w'.new (n := ρ.length) (o := .tup vs) hp
  exact q _ _ _ (s'.trans w'.nd s2) w2 (Dp.tup (.inl (.inl upd_same)) (dpAll_mono s2.ex hd))
theorem ev_lst {t : TA} {rs : List Sl} {ds : List PyData} (h : EvA K t es m rs m1) (e : rs = ds.map .d) (hl : ds.length ≤ 1000) : EvE K (tLst t) es m (.d (.list ds)) m1 := fun σ H H0 ρ w ee Q q => by
  subst e
  refine h σ H H0 ρ w ee _ fun vs H' H0' s' w' kv => ?_
  have hd := slAll_d kv
  refine ⟨Nat.le_of_lt (small1000 (by rw [dpAll_len hd]; exact hl)), fun p hp => ?_⟩
  obtain ⟨w2, s2⟩ := w'.new (n := ρ.length) (o := .lst vs) hp
  exact q _ _ _ (s'.trans w'.nd s2) w2 (Dp.lst (.inl (.inl upd_same)) (dpAll_mono s2.ex hd))
/-- a built-in's call -/
theorem ev_cb {rr : List V → Hp → VK → Prop} {t : TA} {rs : List Sl} {z : PyData} (h : EvA K t es m rs m1) (hr : OpC K rr rs z) : EvE K (tCB rr t) es m (.d z) m1 := fun σ H H0 ρ w e Q q =>
  h σ H H0 ρ w e _ fun vs H' H0' s' w' kv => hr H0' H' ρ w'.ex vs kv Q fun z' H2 H02 e1 e2 e3 fr kz => by
    obtain ⟨w2, s2⟩ := w'.grow (n := ρ.length) e1 e2 e3 fr
    exact q z' H2 H02 (s'.trans w'.nd s2) w2 kz

/-! ### and, or, not, tests -/
theorem ev_and (h1 : EvE K ta es m (.d (.bool a)) m1) (h2 : a = true → EvE K tb es m1 (.d (.bool b)) m1) : EvE K (tAndV ta tb) es m (.d (.bool (a && b))) m1 := fun σ H H0 ρ w e Q q =>
  h1 σ H H0 ρ w e _ fun u H' H0' s' w' ku => by
    cases ku
    refine ⟨a, rfl, ?_⟩
    cases a with
    | true => exact iteT (h2 rfl σ H' H0' ρ w' (e.mono s'.ex) Q fun v H2 H02 s2 w2 k2 => q v H2 H02 (s'.trans w'.nd s2) w2 k2)
    | false => exact iteF (q _ H' H0' s' w' (.bl false))
theorem ev_or (h1 : EvE K ta es m (.d (.bool a)) m1) (h2 : a = false → EvE K tb es m1 (.d (.bool b)) m1) : EvE K (tOrV ta tb) es m (.d (.bool (a || b))) m1 := fun σ H H0 ρ w e Q q =>
  h1 σ H H0 ρ w e _ fun u H' H0' s' w' ku => by
    cases ku
    refine ⟨a, rfl, ?_⟩
    cases a with
    | true => exact iteT (q _ H' H0' s' w' (.bl true))
    | false => exact iteF (h2 rfl σ H' H0' ρ w' (e.mono s'.ex) Q fun v H2 H02 s2 w2 k2 => q v H2 H02 (s'.trans w'.nd s2) w2 k2)
theorem ev_not (h1 : EvE K ta es m (.d (.bool a)) m1) : EvE K (tNotV ta) es m (.d (.bool (!a))) m1 := fun σ H H0 ρ w e Q q =>
  h1 σ H H0 ρ w e _ fun u H' H0' s' w' ku => by
    cases ku
    exact ⟨a, rfl, q _ H' H0' s' w' (.bl _)⟩
theorem eb_val (h1 : EvE K ta es m (.d (.bool a)) m1) : EvB K (tB ta) es m a m1 := fun σ H H0 ρ w e Q q =>
  h1 σ H H0 ρ w e _ fun u H' H0' s' w' ku => by
    cases ku
    exact ⟨a, rfl, q H' H0' s' w'⟩
theorem eb_test (h1 : EvE K ta es m (.d (.bool a)) m1) : EvB K (tTest ta) es m a m1 := fun σ H H0 ρ w e Q q =>
  h1 σ H H0 ρ w e _ fun u H' H0' s' w' ku => by
    cases ku
    exact ⟨a, rfl, q H' H0' s' w'⟩
theorem eb_and (h1 : EvB K tt es m a m1) (h2 : a = true → EvB K tu es m1 b m1) : EvB K (tAnd tt tu) es m (a && b) m1 := fun σ H H0 ρ w e Q q =>
  h1 σ H H0 ρ w e _ fun H' H0' s' w' => by
    cases a with
    | true => exact iteT (h2 rfl σ H' H0' ρ w' (e.mono s'.ex) Q fun H2 H02 s2 w2 => q H2 H02 (s'.trans w'.nd s2) w2)
    | false => exact iteF (q H' H0' s' w')
theorem eb_or (h1 : EvB K tt es m a m1) (h2 : a = false → EvB K tu es m1 b m1) : EvB K (tOr tt tu) es m (a || b) m1 := fun σ H H0 ρ w e Q q =>
  h1 σ H H0 ρ w e _ fun H' H0' s' w' => by
    cases a with
    | true => exact iteT (q H' H0' s' w')
    | false => exact iteF (h2 rfl σ H' H0' ρ w' (e.mono s'.ex) Q fun H2 H02 s2 w2 => q H2 H02 (s'.trans w'.nd s2) w2)
theorem eb_not (h1 : EvB K tt es m a m1) : EvB K (tNot tt) es m (!a) m1 := fun σ H H0 ρ w e Q q =>
  h1 σ H H0 ρ w e _ fun H' H0' s' w' => q H' H0' s' w'
theorem ev_if (h1 : EvB K tt es m a m1) (h2 : a = true → EvE K ta es m1 r m2) (h3 : a = false → EvE K tb es m1 r m2) : EvE K (tIf tt ta tb) es m r m2 := fun σ H H0 ρ w e Q q =>
  h1 σ H H0 ρ w e _ fun H' H0' s' w' => by
    cases a with
    | true => exact iteT (h2 rfl σ H' H0' ρ w' (e.mono s'.ex) Q fun v H2 H02 s2 w2 k2 => q v H2 H02 (s'.trans w'.nd s2) w2 k2)
    | false => exact iteF (h3 rfl σ H' H0' ρ w' (e.mono s'.ex) Q fun v H2 H02 s2 w2 k2 => q v H2 H02 (s'.trans w'.nd s2) w2 k2)
/-- a < b < c -/
theorem ev_chain {rr rs : R2} {x y z : PyData} (h1 : EvE K ta es m (.d x) m1) (h2 : EvE K tb es m1 (.d y) m2) (hr : Op2 K rr x y (.bool a)) (h3 : a = true → EvE K tc es m2 (.d z) m2) (hs : a = true → Op2 K rs y z (.bool b)) :
    EvE K (tChain rr rs ta tb tc) es m (.d (.bool (a && b))) m2 := fun σ H H0 ρ w e Q q =>
  two h1 h2 w e fun u v H' H0' s' w' ku kv => hr H0' H' w'.ex u v ku kv _ fun z' H2 H02 e1 e2 e3 fr kz => by
    obtain ⟨w2, s2⟩ := w'.grow (n := ρ.length) e1 e2 e3 fr
    have s3 := s'.trans w'.nd s2
    cases kz
    refine ⟨a, rfl, ?_⟩
    cases a with
    | true =>
      refine iteT (h3 rfl σ H2 H02 ρ w2 (e.mono s3.ex) _ fun t H4 H04 s4 w4 kt => hs rfl H04 H4 w4.ex v t (dp_mono (s2.ex.trans s4.ex) kv) kt Q fun z5 H5 H05 e1 e2 e3 fr kz => ?_)
      obtain ⟨w5, s5⟩ := w4.grow (n := ρ.length) e1 e2 e3 fr
      exact q z5 H5 H05 ((s3.trans w2.nd s4).trans w4.nd s5) w5 kz
    | false => exact iteF (q _ H2 H02 s3 w2 (.bl false))
end
end DL

set_option Elab.async false
set_option linter.all false
set_option maxRecDepth 100000
namespace DL
variable [Tbs]
open PySem PySem.Spec PyProof.Rows L2

/-! ### defs -/
section
variable (K : PySem.W.Frag)
def spD (n : Nat) (g : List Sl → M → Sl → M → Prop) : Sp := fun vs H Q E => vs.length = n ∧ ∃ H0 ρ m rs r m', Wd K H0 H ρ m ∧ SlAll K H0 ρ vs rs ∧ g rs m r m' ∧
  ∀ v H' H0', Stp ρ.length ρ H0 H ρ H0' H' → Wd K H0' H' ρ m' → SlOk K H0' ρ v r → Q v H'
end
structure DefC (P : Program) (w : World) (K : PySem.W.Frag) (mg : Str → Option Value) (base : Heap) (CX : CXT) (k : Nat) (x : Str) (ps : List Str) (sp : Sp) : Prop where
  ex : ∃ f fd, FnOk P w K mg base CX k f fd ps sp ∧ mg x = some (.ref f) ∧ PySem.W.keepIn K (.ref f) = true ∧ Binds K fd ps []
structure DefT (K : PySem.W.Frag) (mg : Str → Option Value) (x : Str) (st : Stmt) (ps : List Str) : Prop where
  ex : ∃ f fd, Fun K x x st f fd ∧ mg x = some (.ref f) ∧ Binds K fd ps []
theorem DefC.mono {P : Program} {w : World} {K : PySem.W.Frag} {mg : Str → Option Value} {base : Heap} {CX : CXT} {j k : Nat} {x : Str} {ps : List Str} {sp : Sp} (D : DefC P w K mg base CX j x ps sp) (h : j ≤ k) : DefC P w K mg base CX k x ps sp := by
  obtain ⟨f, fd, F, r⟩ := D.ex
  exact ⟨f, fd, F.mono h, r⟩
theorem pe_def {X : Cx} {CX : CXT} {k : Nat} {x : Str} {ps : List Str} {sp : Sp} {E : XK} {e : Expr} {es : List Expr} {t : TA} {p pos : Pos} (D : DefC X.prog X.w X.K X.mg X.base CX k x ps sp) (hr : Room k X.A) (hg : Gl X x) (hx : Passes CX X E)
    (ha : PA X (e :: es) t) (hdb : (x == ("__debug__" : Str)) = false := by decide) (he : starEach (e :: es) X.env = (false, eval e X.env) :: starEach es X.env := by rfl) (hpl : (backTo pos (starEach es X.env)).any (·.1) = false := by rfl) :
    PE X (.Call (.Name x p) (e :: es) [] pos) (tCall sp [] E t) := by
  obtain ⟨f, fd, F, hm, hk, hb⟩ := D.ex
  exact pe_call F hr hg hm hk hb .nil hx ha hdb he hpl
theorem opOr {X : Cx} {f : Value → Value → Sem Value} {r1 r2 : R2} (h1 : OpR X f r1) (h2 : OpR X f r2) : OpR X f (fun x y H Q => r1 x y H Q ∨ r2 x y H Q) := by
  intro pins s σ H x y v u Q I rx ry h
  rcases h with h | h
  · exact h1 pins s σ H x y v u Q I rx ry h
  · exact h2 pins s σ H x y v u Q I rx ry h
theorem callOr {X : Cx} {f : Value} {r1 r2 : List V → Hp → VK → Prop} (h1 : CallR X f r1) (h2 : CallR X f r2) : CallR X f (fun x H Q => r1 x H Q ∨ r2 x H Q) := by
  intro pins s σ H xs us Q I r h
  rcases h with h | h
  · exact h1 pins s σ H xs us Q I r h
  · exact h2 pins s σ H xs us Q I r h
theorem piOr {X : Cx} {tg iter : Expr} {w1 w2 : TI} (h1 : PI X tg iter w1) (h2 : PI X tg iter w2) : PI X tg iter (fun σ H R => w1 σ H R ∨ w2 σ H R) := by
  refine ⟨fun pins s σ H R I h => ?_⟩
  rcases h with h | h
  · exact h1.run pins s σ H R I h
  · exact h2.run pins s σ H R I h
theorem peOr {X : Cx} {e : Expr} {t1 t2 : TE} (h1 : PE X e t1) (h2 : PE X e t2) : PE X e (fun σ H Q => t1 σ H Q ∨ t2 σ H Q) := by
  refine ⟨fun pins s σ H Q I h => ?_⟩
  rcases h with h | h
  · exact h1.run pins s σ H Q I h
  · exact h2.run pins s σ H Q I h

section
variable {K : PySem.W.Frag} {te ta tb tc : TE} {tt tu : TT} {es : List Sl} {m m1 m2 m3 : M} {r x y z : Sl} {a b c : Bool}
theorem ev_call {n : Nat} {g : List Sl → M → Sl → M → Prop} {E : XK} {t : TA} {rs : List Sl} (h : EvA K t es m rs m1) (hg : g rs m1 r m2) (hn : rs.length = n) : EvE K (tCall (spD K n g) [] E t) es m r m2 := fun σ H H0 ρ w e Q q =>
  h σ H H0 ρ w e _ fun vs H' H0' s' w' kv => by
    rw [List.append_nil]
    exact ⟨by rw [kv.length]; exact hn, H0', ρ, m1, rs, r, m2, w', kv, hg, fun v H2 H02 s2 w2 k2 => q v H2 H02 (s'.trans w'.nd s2) w2 k2⟩
theorem ev_orL {t1 t2 : TE} (h : EvE K t1 es m r m1) : EvE K (fun σ H Q => t1 σ H Q ∨ t2 σ H Q) es m r m1 := fun σ H H0 ρ w e Q q => .inl (h σ H H0 ρ w e Q q)
theorem ev_orR {t1 t2 : TE} (h : EvE K t2 es m r m1) : EvE K (fun σ H Q => t1 σ H Q ∨ t2 σ H Q) es m r m1 := fun σ H H0 ρ w e Q q => .inr (h σ H H0 ρ w e Q q)

/-! ### statements -/
inductive Out where
  | nx (es : List Sl) (m : M)
  | ret (r : Sl) (m : M)
  | brk (es : List Sl) (m : M)
  | cnt (es : List Sl) (m : M)
  /-- hands back the cell behind m, a new list of these -/
  | rtc (ds : List PyData) (m : M)
variable (K) in
def SvO (D : Ends) (n : Nat) (ρ : List Addr) (H0 H : Hp) : Out → Prop
  | .nx es' m' => ∀ σ' ρ' H' H0', Stp n ρ H0 H ρ' H0' H' → Wd K H0' H' ρ' m' → EnvS K H0' ρ' σ' es' → D.nx σ' H'
  | .ret r m' => ∀ v ρ' H' H0' ml, Stp n ρ H0 H ρ' H0' H' → Wd K H0' H' ρ' (m' ++ ml) → SlOk K H0' ρ' v r → D.rt v H'
  | .brk es' m' => ∀ σ' ρ' H' H0', Stp n ρ H0 H ρ' H0' H' → Wd K H0' H' ρ' m' → EnvS K H0' ρ' σ' es' → D.bk σ' H'
  | .cnt es' m' => ∀ σ' ρ' H' H0', Stp n ρ H0 H ρ' H0' H' → Wd K H0' H' ρ' m' → EnvS K H0' ρ' σ' es' → D.ct σ' H'
  | .rtc ds m' => ∀ p ρ' H' H0', Stp n ρ H0 H ρ' H0' H' → Wd K H0' H' ρ' (m' ++ [ds]) → ρ'[m'.length]? = some p → D.rt (.ref p) H'
variable (K) in
def Sv (n : Nat) (t : TS) (es : List Sl) (m : M) (o : Out) : Prop := ∀ σ H H0 ρ, n ≤ ρ.length → Wd K H0 H ρ m → EnvS K H0 ρ σ es → ∀ D : Ends, SvO K D n ρ H0 H o → t D σ H

theorem SvO.step {D : Ends} {n : Nat} {ρ ρ' : List Addr} {H0 H H0' H' : Hp} (nd : ρ'.Nodup) (s : Stp n ρ H0 H ρ' H0' H') : ∀ {o : Out}, SvO K D n ρ H0 H o → SvO K D n ρ' H0' H' o
  | .nx _ _, h => fun σ2 ρ2 H2 H02 s2 w2 e2 => h σ2 ρ2 H2 H02 (s.trans nd s2) w2 e2
  | .ret _ _, h => fun v ρ2 H2 H02 ml s2 w2 e2 => h v ρ2 H2 H02 ml (s.trans nd s2) w2 e2
  | .brk _ _, h => fun σ2 ρ2 H2 H02 s2 w2 e2 => h σ2 ρ2 H2 H02 (s.trans nd s2) w2 e2
  | .cnt _ _, h => fun σ2 ρ2 H2 H02 s2 w2 e2 => h σ2 ρ2 H2 H02 (s.trans nd s2) w2 e2
  | .rtc _ _, h => fun p ρ2 H2 H02 s2 w2 e2 => h p ρ2 H2 H02 (s.trans nd s2) w2 e2
theorem Stp.low {n : Nat} {ρ : List Addr} {H0 H H0' H' : Hp} (s : Stp ρ.length ρ H0 H ρ H0' H') : Stp n ρ H0 H ρ H0' H' :=
  ⟨s.ex, s.keep, s.dom, fun b o h => by
    rcases s.fresh b o h with z | z | z
    · exact .inl z
    · exact .inr (.inl z)
    · rw [List.drop_length] at z
      exact absurd z (by simp), rfl, fun b h => .inl h⟩

theorem sv_cast {n : Nat} {t : TS} {o o' : Out} (h : Sv K n t es m o) (e : o = o') : Sv K n t es m o' := e ▸ h
theorem sv_seq {n : Nat} {t u : TS} {es1 : List Sl} {o : Out} (h1 : Sv K n t es m (.nx es1 m1)) (h2 : Sv K n u es1 m1 o) : Sv K n (tSeq t u) es m o := fun σ H H0 ρ hn w e D q =>
  h1 σ H H0 ρ hn w e _ fun σ1 ρ1 H1 H01 s1 w1 e1 => h2 σ1 H1 H01 ρ1 (by
    have := congrArg List.length s1.pre
    rw [List.length_take, List.length_take] at this
    omega) w1 e1 D (q.step w1.nd s1)
def Out.no : Out → Bool
  | .nx _ _ => false
  | _ => true
theorem sv_out {n : Nat} {t u : TS} : ∀ {o : Out}, o.no = true → Sv K n t es m o → Sv K n (tSeq t u) es m o
  | .nx _ _, h, _ => by cases h
  | .ret _ _, _, h => fun σ H H0 ρ hn w e D q => h σ H H0 ρ hn w e _ q
  | .brk _ _, _, h => fun σ H H0 ρ hn w e D q => h σ H H0 ρ hn w e _ q
  | .cnt _ _, _, h => fun σ H H0 ρ hn w e D q => h σ H H0 ρ hn w e _ q
  | .rtc _ _, _, h => fun σ H H0 ρ hn w e D q => h σ H H0 ρ hn w e _ q
theorem sv_if {n : Nat} {t u : TS} {o : Out} (h : EvB K tt es m a m1) (h1 : a = true → Sv K n t es m1 o) (h2 : a = false → Sv K n u es m1 o) : Sv K n (tIfS tt t u) es m o := fun σ H H0 ρ hn w e D q =>
  h σ H H0 ρ w e _ fun H1 H01 s1 w1 => by
    cases a with
    | true => exact iteT (h1 rfl σ H1 H01 ρ hn w1 (e.mono s1.ex) D (q.step w1.nd s1.low))
    | false => exact iteF (h2 rfl σ H1 H01 ρ hn w1 (e.mono s1.ex) D (q.step w1.nd s1.low))
/-- if, and what comes behind it -/
theorem sv_ifs {n : Nat} {t u v : TS} {o : Out} (h : EvB K tt es m a m1) (h1 : a = true → Sv K n (tSeq t v) es m1 o) (h2 : a = false → Sv K n (tSeq u v) es m1 o) : Sv K n (tSeq (tIfS tt t u) v) es m o := fun σ H H0 ρ hn w e D q =>
  h σ H H0 ρ w e _ fun H1 H01 s1 w1 => by
    cases a with
    | true => exact iteT (h1 rfl σ H1 H01 ρ hn w1 (e.mono s1.ex) D (q.step w1.nd s1.low))
    | false => exact iteF (h2 rfl σ H1 H01 ρ hn w1 (e.mono s1.ex) D (q.step w1.nd s1.low))
theorem sv_next {n : Nat} : Sv K n tNext es m (.nx es m) := fun σ H H0 ρ hn w e D q => q σ ρ H H0 .refl w e
theorem sv_skip {n : Nat} {v : TS} {o : Out} (h : Sv K n v es m o) : Sv K n (tSeq tNext v) es m o := sv_seq sv_next h
theorem sv_ret {n : Nat} {ml : M} (h : EvE K te es m r (m1 ++ ml)) : Sv K n (tRet te) es m (.ret r m1) := fun σ H H0 ρ hn w e D q =>
  h σ H H0 ρ w e _ fun v H1 H01 s1 w1 k1 => q v ρ H1 H01 ml s1.low w1 k1
theorem sv_ret0 {n : Nat} (h : EvE K te es m r m1) : Sv K n (tRet te) es m (.ret r m1) := sv_ret (ml := []) (by rw [List.append_nil]; exact h)
/-- return of a cell -/
theorem sv_rtc {n i : Nat} {ds : List PyData} (hi : es[i]? = some (.c m.length)) : Sv K n (tRet (tVar i)) es (m ++ [ds]) (.rtc ds m) := fun σ H H0 ρ hn w e D q => by
  rcases e.2 i _ hi with z | ⟨v, h1, p, rfl, h2⟩
  · cases z
  · exact ⟨_, h1, q p ρ H H0 .refl w h2⟩
theorem sv_break {n : Nat} : Sv K n tBreak es m (.brk es m) := fun σ H H0 ρ hn w e D q => q σ ρ H H0 .refl w e
theorem sv_cont {n : Nat} : Sv K n tCont es m (.cnt es m) := fun σ H H0 ρ hn w e D q => q σ ρ H H0 .refl w e
theorem sv_drop {n : Nat} (h : EvE K te es m r m1) : Sv K n (tDrop te) es m (.nx es m1) := fun σ H H0 ρ hn w e D q =>
  h σ H H0 ρ w e _ fun v H1 H01 s1 w1 k1 => q σ ρ H1 H01 s1.low w1 (e.mono s1.ex)

/-! ### targets -/
variable (K) in
def Gv (g : TG) (is : List Nat) (r : Sl) (es es' : List Sl) : Prop := ∀ σ H H0 ρ v, Evl.Ex H0 H → EnvS K H0 ρ σ es → SlOk K H0 ρ v r → ∀ Q : L2.St → Hp → Prop,
  (∀ σ', EnvS K H0 ρ σ' es' → (∀ vs : List Nat, (∀ i, i ∈ is → i ∈ vs) → wipe σ' vs = wipe σ vs) → Q σ' H) → g v σ H Q
variable (K) in
def Gvs (g : TGs) (is : List Nat) (rs : List PyData) (es es' : List Sl) : Prop := ∀ σ H H0 ρ vs, Evl.Ex H0 H → EnvS K H0 ρ σ es → DpAll K H0 vs rs → ∀ Q : L2.St → Hp → Prop,
  (∀ σ', EnvS K H0 ρ σ' es' → (∀ vs : List Nat, (∀ i, i ∈ is → i ∈ vs) → wipe σ' vs = wipe σ vs) → Q σ' H) → g vs σ H Q
theorem wipe_get : ∀ (vs : List Nat) (σ : L2.St) (i : Nat), (wipe σ vs)[i]? = if i ∈ vs then σ[i]?.map (fun _ => none) else σ[i]?
  | [], σ, i => by simp [wipe]
  | v :: vs, σ, i => by
    have ih := wipe_get vs σ i
    show ((wipe σ vs).set v none)[i]? = _
    by_cases h : v = i
    · subst h
      rw [if_pos List.mem_cons_self]
      by_cases hl : v < (wipe σ vs).length
      · rw [List.getElem?_set_self hl]
        rw [wipe_length] at hl
        rw [List.getElem?_eq_getElem hl]
        rfl
      · rw [List.getElem?_eq_none (by rw [List.length_set]; omega)]
        rw [wipe_length] at hl
        rw [List.getElem?_eq_none (by omega)]
        rfl
    · rw [List.getElem?_set_ne h, ih]
      by_cases hm : i ∈ vs
      · rw [if_pos hm, if_pos (List.mem_cons_of_mem _ hm)]
      · rw [if_neg hm, if_neg (fun z => by
          rcases List.mem_cons.mp z with z | z
          · exact h z.symm
          · exact hm z)]
theorem wipe_ext {σ τ : L2.St} {vs : List Nat} (hl : σ.length = τ.length) (h : ∀ i, i ∉ vs → σ[i]? = τ[i]?) : wipe σ vs = wipe τ vs := by
  refine List.ext_getElem? fun i => ?_
  rw [wipe_get, wipe_get]
  by_cases hm : i ∈ vs
  · rw [if_pos hm, if_pos hm]
    by_cases hi : i < σ.length
    · rw [List.getElem?_eq_getElem hi, List.getElem?_eq_getElem (by omega)]
      rfl
    · rw [List.getElem?_eq_none (by omega), List.getElem?_eq_none (by omega)]
  · rw [if_neg hm, if_neg hm]
    exact h i hm
theorem wipe_set {σ : L2.St} {vs : List Nat} {i : Nat} {x : Option V} (h : i ∈ vs) : wipe (σ.set i x) vs = wipe σ vs :=
  wipe_ext (by rw [List.length_set]) fun j hj => by
    rw [List.getElem?_set_ne]
    rintro rfl
    exact hj h
theorem wipe_wipe {σ : L2.St} {vs : List Nat} : wipe (wipe σ vs) vs = wipe σ vs :=
  wipe_ext (by rw [wipe_length]) fun j hj => by rw [wipe_get, if_neg hj]
theorem gv_name {i : Nat} : Gv K (gName i) [i] r es (es.set i r) := fun σ H H0 ρ v ex e k Q q => q _ (e.set k) fun vs h => wipe_set (h i (by simp))
theorem gvs_nil : Gvs K gNil [] [] es es := fun σ H H0 ρ vs ex e k Q q => by
  cases k
  exact ⟨rfl, q σ e fun _ _ => rfl⟩
theorem gvs_cons {g : TG} {gs : TGs} {is js : List Nat} {d : PyData} {ds : List PyData} {es1 es2 : List Sl} (h1 : Gv K g is (.d d) es es1) (h2 : Gvs K gs js ds es1 es2) : Gvs K (gCons g gs) (is ++ js) (d :: ds) es es2 := fun σ H H0 ρ vs ex e k Q q => by
  cases k with
  | cons a t =>
    refine ⟨_, _, rfl, h1 σ H H0 ρ _ ex e a _ fun σ1 e1 w1 => h2 σ1 H H0 ρ _ ex e1 t _ fun σ2 e2 w2 => q σ2 e2 fun vs h => ?_⟩
    rw [w2 vs fun i hi => h i (List.mem_append_right _ hi), w1 vs fun i hi => h i (List.mem_append_left _ hi)]
theorem gv_tup {n : Nat} {gs : TGs} {is : List Nat} {ds : List PyData} {es1 : List Sl} (h : Gvs K gs is ds es es1) (hn : ds.length = n) : Gv K (gTup K n gs) is (.d (.tuple ds)) es es1 := fun σ H H0 ρ v ex e k Q q => by
  cases k with
  | tup hs ha => exact ⟨_, _, rfl, Evl.ex_t ex hs, by rw [dpAll_len ha]; exact hn, h σ H H0 ρ _ ex e ha Q q⟩
theorem sv_asg {n : Nat} {g : TG} {is : List Nat} {es1 : List Sl} (h : EvE K te es m r m1) (hg : Gv K g is r es es1) : Sv K n (tAsg te g) es m (.nx es1 m1) := fun σ H H0 ρ hn w e D q =>
  h σ H H0 ρ w e _ fun v H1 H01 s1 w1 k1 => hg σ H1 H01 ρ v w1.ex (e.mono s1.ex) k1 _ fun σ' e' _ => q σ' ρ H1 H01 s1.low w1 e'
theorem sv_set {n : Nat} {i : Nat} (h : EvE K te es m r m1) : Sv K n (tAsg te (gName i)) es m (.nx (es.set i r) m1) := sv_asg h gv_name

/-! ### what is walked -/
variable (K) in
def ItOk (J : It) (H0 : Hp) (ds : List PyData) : Prop := ∀ (i : Nat) (H : Hp), Evl.Ex H0 H → (i < ds.length → J.go i H) ∧ (ds.length ≤ i → J.stop i H) ∧ ∀ x H', i < ds.length → J.yld i H x H' → H' = H ∧ ∃ d, ds[i]? = some d ∧ Dp K H0 x d
theorem ItOk.mono {J : It} {H0 H0' : Hp} {ds : List PyData} (e : Evl.Ex H0 H0') (h : ItOk K J H0 ds) : ItOk K J H0' ds := fun i H ex => by
  obtain ⟨h1, h2, h3⟩ := h i H (e.trans ex)
  refine ⟨h1, h2, fun x H' hi y => ?_⟩
  obtain ⟨e1, d, e2, e3⟩ := h3 x H' hi y
  exact ⟨e1, d, e2, dp_mono e e3⟩
variable (K) in
def EvI (wi : TI) (es : List Sl) (m : M) (ds : List PyData) (m' : M) : Prop := ∀ σ H H0 ρ, Wd K H0 H ρ m → EnvS K H0 ρ σ es → ∀ R : It → Hp → Prop,
  (∀ J H' H0', Stp ρ.length ρ H0 H ρ H0' H' → Wd K H0' H' ρ m' → ItOk K J H0' ds → R J H') → wi σ H R
theorem dpAll_get {H0 : Hp} : ∀ {vs : List V} {ds : List PyData} {i : Nat} {v : V}, DpAll K H0 vs ds → vs[i]? = some v → ∃ d, ds[i]? = some d ∧ Dp K H0 v d
  | _, _, _, _, .nil, h => by simp at h
  | _, _, 0, _, .cons a _, h => by
    cases h
    exact ⟨_, rfl, a⟩
  | _, _, i + 1, _, .cons _ t, h => dpAll_get (i := i) t h
theorem dpAll_get' {H0 : Hp} : ∀ {vs : List V} {ds : List PyData} {i : Nat} {d : PyData}, DpAll K H0 vs ds → ds[i]? = some d → ∃ v, vs[i]? = some v ∧ Dp K H0 v d
  | _, _, _, _, .nil, h => by simp at h
  | _, _, 0, _, .cons a _, h => by
    cases h
    exact ⟨_, rfl, a⟩
  | _, _, i + 1, _, .cons _ t, h => dpAll_get' (i := i) t h
theorem itOk_l {a : Addr} {xs : List V} {H0 : Hp} {ds : List PyData} (hs : SqL K H0 a xs) (ha : DpAll K H0 xs ds) : ItOk K (Itl K a) H0 ds := fun i H ex => by
  have hl := dpAll_len ha
  refine ⟨fun h => ⟨xs, xs[i], Evl.ex_l ex hs, List.getElem?_eq_getElem (by omega)⟩, fun h => ⟨xs, Evl.ex_l ex hs, by omega⟩, fun x H' _ y => ?_⟩
  obtain ⟨e, q⟩ := y
  exact ⟨e, dpAll_get ha (q xs (Evl.ex_l ex hs))⟩
theorem itOk_t {a : Addr} {xs : List V} {H0 : Hp} {ds : List PyData} (hs : SqT K H0 a xs) (ha : DpAll K H0 xs ds) : ItOk K (Itt K a) H0 ds := fun i H ex => by
  have hl := dpAll_len ha
  refine ⟨fun h => ⟨xs, xs[i], Evl.ex_t ex hs, List.getElem?_eq_getElem (by omega)⟩, fun h => ⟨xs, Evl.ex_t ex hs, by omega⟩, fun x H' _ y => ?_⟩
  obtain ⟨e, q⟩ := y
  exact ⟨e, dpAll_get ha (q xs (Evl.ex_t ex hs))⟩
theorem ei_list {ds : List PyData} (h : EvE K te es m (.d (.list ds)) m1) : EvI K (iList K te) es m ds m1 := fun σ H H0 ρ w e R q =>
  h σ H H0 ρ w e _ fun v H1 H01 s1 w1 k1 => by
    cases k1 with
    | lst hs ha => exact ⟨_, rfl, ⟨_, Evl.ex_l w1.ex hs⟩, q _ H1 H01 s1 w1 (itOk_l hs ha)⟩
theorem ei_tup {ds : List PyData} (h : EvE K te es m (.d (.tuple ds)) m1) : EvI K (iTup K te) es m ds m1 := fun σ H H0 ρ w e R q =>
  h σ H H0 ρ w e _ fun v H1 H01 s1 w1 k1 => by
    cases k1 with
    | tup hs ha => exact ⟨_, rfl, ⟨_, Evl.ex_t w1.ex hs⟩, q _ H1 H01 s1 w1 (itOk_t hs ha)⟩
theorem ei_orL {w1 w2 : TI} {ds : List PyData} (h : EvI K w1 es m ds m1) : EvI K (fun σ H R => w1 σ H R ∨ w2 σ H R) es m ds m1 := fun σ H H0 ρ w e R q => .inl (h σ H H0 ρ w e R q)
theorem ei_orR {w1 w2 : TI} {ds : List PyData} (h : EvI K w2 es m ds m1) : EvI K (fun σ H R => w1 σ H R ∨ w2 σ H R) es m ds m1 := fun σ H H0 ρ w e R q => .inr (h σ H H0 ρ w e R q)
def rangeD (lo : Int) (n : Nat) : List PyData := (List.range n).map fun (i : Nat) => PyData.int (lo + i)
theorem rangeD_len {lo : Int} {n : Nat} : (rangeD lo n).length = n := by unfold rangeD; simp
theorem itOk_r {lo : Int} {n : Nat} {H0 : Hp} : ItOk K (Itr lo n) H0 (rangeD lo n) := fun i H ex => by
  rw [rangeD_len]
  refine ⟨id, id, fun x H' hi y => ?_⟩
  obtain ⟨e, q⟩ := y
  subst q
  refine ⟨e, .int (lo + i), ?_, .int _⟩
  unfold rangeD
  rw [List.getElem?_map, List.getElem?_range hi]
  rfl
theorem ei_rng1 {ta : TA} {j : Int} (h : EvA K ta es m [.d (.int j)] m1) (h1 : -(2 ^ 62) ≤ j) (h2 : j < 2 ^ 62) : EvI K (iRng1 ta) es m (rangeD 0 j.toNat) m1 := fun σ H H0 ρ w e R q =>
  h σ H H0 ρ w e _ fun vs H1 H01 s1 w1 k1 => by
    cases k1 with
    | cons a t =>
      cases t
      cases a
      exact ⟨j, rfl, h1, h2, q _ H1 H01 s1 w1 itOk_r⟩

/-! ### for -/
inductive ForR (K : PySem.W.Frag) (n : Nat) (g : TG) (tb : TS) : List PyData → List Sl → M → Out → Prop
  | nil {es : List Sl} {m : M} : ForR K n g tb [] es m (.nx es m)
  | nx {d : PyData} {ds : List PyData} {is : List Nat} {es : List Sl} {es1 : List Sl} {es2 : List Sl} {m : M} {m2 : M} {o : Out} : Gv K g is (.d d) es es1 → Sv K n tb es1 m (.nx es2 m2) → ForR K n g tb ds es2 m2 o → ForR K n g tb (d :: ds) es m o
  | cnt {d : PyData} {ds : List PyData} {is : List Nat} {es : List Sl} {es1 : List Sl} {es2 : List Sl} {m : M} {m2 : M} {o : Out} : Gv K g is (.d d) es es1 → Sv K n tb es1 m (.cnt es2 m2) → ForR K n g tb ds es2 m2 o → ForR K n g tb (d :: ds) es m o
  | brk {d : PyData} {ds : List PyData} {is : List Nat} {es : List Sl} {es1 : List Sl} {es2 : List Sl} {m : M} {m2 : M} : Gv K g is (.d d) es es1 → Sv K n tb es1 m (.brk es2 m2) → ForR K n g tb (d :: ds) es m (.nx es2 m2)
  | ret {d : PyData} {ds : List PyData} {is : List Nat} {es : List Sl} {es1 : List Sl} {r : Sl} {m : M} {m2 : M} : Gv K g is (.d d) es es1 → Sv K n tb es1 m (.ret r m2) → ForR K n g tb (d :: ds) es m (.ret r m2)
theorem pre_len {n : Nat} {ρ ρ' : List Addr} {H0 H H0' H' : Hp} (hn : n ≤ ρ.length) (s : Stp n ρ H0 H ρ' H0' H') : n ≤ ρ'.length := by
  have := congrArg List.length s.pre
  rw [List.length_take, List.length_take] at this
  omega
theorem drop_cons {α : Type} {l : List α} {i : Nat} {d : α} (h : l[i]? = some d) : l.drop i = d :: l.drop (i + 1) := by
  obtain ⟨h1, h2⟩ := List.getElem?_eq_some_iff.mp h
  rw [← h2]
  exact List.drop_eq_getElem_cons h1
theorem sv_for {n : Nat} {wi : TI} {g : TG} {tb : TS} {ds : List PyData} {o : Out} (hi : EvI K wi es m ds m1) (h : ForR K n g tb ds es m1 o) : Sv K n (tFor wi g tb) es m o := fun σ H H0 ρ hn w e D q =>
  hi σ H H0 ρ w e _ fun J H1 H01 s1 w1 it => by
    refine ⟨fun i k σ2 H2 => k = ds.length - i ∧ i ≤ ds.length ∧ ∃ es2 m2 ρ2 H02, ForR K n g tb (ds.drop i) es2 m2 o ∧ Stp n ρ H0 H ρ2 H02 H2 ∧ Wd K H02 H2 ρ2 m2 ∧ EnvS K H02 ρ2 σ2 es2 ∧ ItOk K J H02 ds,
      ⟨ds.length, by omega, Nat.zero_le _, es, m1, ρ, H01, h, s1.low, w1, e.mono s1.ex, it⟩, fun i k σ2 H2 hW => ?_⟩
    obtain ⟨rfl, hle, es2, m2, ρ2, H02, fr, s2, w2, e2, it2⟩ := hW
    have hn2 := pre_len hn s2
    obtain ⟨g1, g2, g3⟩ := it2 i H2 w2.ex
    by_cases hlt : i < ds.length
    · refine .inr ⟨g1 hlt, ?_⟩
      have hd : ds[i]? = some ds[i] := List.getElem?_eq_getElem hlt
      rw [drop_cons hd] at fr
      have fin : ∀ {x H'}, J.yld i H2 x H' → H' = H2 ∧ Dp K H02 x ds[i] := fun {x H'} y => by
        obtain ⟨e1, d, q1, q2⟩ := g3 x H' hlt y
        rw [hd] at q1
        cases q1
        exact ⟨e1, q2⟩
      cases fr with
      | @nx _ _ is _ es3 es4 _ m4 _ hg hb hr =>
        refine ⟨fun σ' H' => ∃ ρ4 H04, Stp n ρ H0 H ρ4 H04 H' ∧ Wd K H04 H' ρ4 m4 ∧ EnvS K H04 ρ4 σ' es4 ∧ ItOk K J H04 ds, fun σ' H' ⟨ρ4, H04, s4, w4, e4, it4⟩ => ⟨ds.length - (i + 1), by omega, rfl, hlt, es4, m4, ρ4, H04, hr, s4, w4, e4, it4⟩, fun x H' y => ?_⟩
        obtain ⟨rfl, kx⟩ := fin y
        exact hg σ2 _ H02 ρ2 x w2.ex e2 kx _ fun σ3 e3 _ => hb σ3 _ H02 ρ2 hn2 w2 e3 _ fun σ4 ρ4 H4 H04 s4 w4 e4 => ⟨ρ4, H04, s2.trans w2.nd s4, w4, e4, it2.mono s4.ex⟩
      | @cnt _ _ is _ es3 es4 _ m4 _ hg hb hr =>
        refine ⟨fun σ' H' => ∃ ρ4 H04, Stp n ρ H0 H ρ4 H04 H' ∧ Wd K H04 H' ρ4 m4 ∧ EnvS K H04 ρ4 σ' es4 ∧ ItOk K J H04 ds, fun σ' H' ⟨ρ4, H04, s4, w4, e4, it4⟩ => ⟨ds.length - (i + 1), by omega, rfl, hlt, es4, m4, ρ4, H04, hr, s4, w4, e4, it4⟩, fun x H' y => ?_⟩
        obtain ⟨rfl, kx⟩ := fin y
        exact hg σ2 _ H02 ρ2 x w2.ex e2 kx _ fun σ3 e3 _ => hb σ3 _ H02 ρ2 hn2 w2 e3 _ fun σ4 ρ4 H4 H04 s4 w4 e4 => ⟨ρ4, H04, s2.trans w2.nd s4, w4, e4, it2.mono s4.ex⟩
      | @brk _ _ is _ es3 es4 _ m4 hg hb =>
        refine ⟨fun _ _ => False, fun _ _ z => z.elim, fun x H' y => ?_⟩
        obtain ⟨rfl, kx⟩ := fin y
        exact hg σ2 _ H02 ρ2 x w2.ex e2 kx _ fun σ3 e3 _ => hb σ3 _ H02 ρ2 hn2 w2 e3 _ fun σ4 ρ4 H4 H04 s4 w4 e4 => q σ4 ρ4 H4 H04 (s2.trans w2.nd s4) w4 e4
      | @ret _ _ is _ es3 r _ m4 hg hb =>
        refine ⟨fun _ _ => False, fun _ _ z => z.elim, fun x H' y => ?_⟩
        obtain ⟨rfl, kx⟩ := fin y
        exact hg σ2 _ H02 ρ2 x w2.ex e2 kx _ fun σ3 e3 _ => hb σ3 _ H02 ρ2 hn2 w2 e3 _ fun v ρ4 H4 H04 ml s4 w4 k4 => q v ρ4 H4 H04 ml (s2.trans w2.nd s4) w4 k4
    · have ei : i = ds.length := by omega
      subst ei
      rw [List.drop_length] at fr
      cases fr with
      | nil => exact .inl ⟨g2 (Nat.le_refl _), q σ2 ρ2 H2 H02 s2 w2 e2⟩

/-! ### comprehensions -/
inductive LcR (K : PySem.W.Frag) (g : TG) (tt : TT) (te : TE) (esw : List Sl) (vs : List Nat) : List PyData → M → List PyData → M → Prop
  | nil {m : M} : LcR K g tt te esw vs [] m [] m
  | yes {d : PyData} {ds : List PyData} {es2 : List Sl} {m : M} {m1 : M} {m2 : M} {m3 : M} {r : PyData} {rs : List PyData} {is : List Nat} : Gv K g is (.d d) esw es2 → (∀ i, i ∈ is → i ∈ vs) → EvB K tt es2 m true m1 → EvE K te es2 m1 (.d r) m2 → LcR K g tt te esw vs ds m2 rs m3 → LcR K g tt te esw vs (d :: ds) m (r :: rs) m3
  | not {d : PyData} {ds : List PyData} {es2 : List Sl} {m : M} {m1 : M} {m3 : M} {rs : List PyData} {is : List Nat} : Gv K g is (.d d) esw es2 → (∀ i, i ∈ is → i ∈ vs) → EvB K tt es2 m false m1 → LcR K g tt te esw vs ds m1 rs m3 → LcR K g tt te esw vs (d :: ds) m rs m3
theorem LcR.len {g : TG} {esw : List Sl} {vs : List Nat} {ds rs : List PyData} (h : LcR K g tt te esw vs ds m rs m1) : rs.length ≤ ds.length := by
  induction h with
  | nil => exact Nat.le_refl _
  | yes _ _ _ _ _ ih => rw [List.length_cons, List.length_cons]; omega
  | not _ _ _ _ ih => rw [List.length_cons]; omega
theorem eb_yes : EvB K tYes es m true m := fun σ H H0 ρ w e Q q => q H H0 .refl w
variable (K) in
/-- a new list that nobody else holds -/
def EvL (te : TE) (es : List Sl) (m : M) (ds : List PyData) (m' : M) : Prop := ∀ σ H H0 ρ, Wd K H0 H ρ m → EnvS K H0 ρ σ es → ∀ Q : VK,
  (∀ p vs H' H0', Stp ρ.length ρ H0 H ρ H0' H' → Wd K H0' H' ρ m' → H p = none → H0' p = none → p ∉ ρ → H' p = some (.lst vs) → DpAll K H0' vs ds → Q (.ref p) H') → te σ H Q
theorem dpAll_app {H0 : Hp} : ∀ {vs us : List V} {ds es : List PyData}, DpAll K H0 vs ds → DpAll K H0 us es → DpAll K H0 (vs ++ us) (ds ++ es)
  | _, _, _, _, .nil, h => h
  | _, _, _, _, .cons a t, h => .cons a (dpAll_app t h)
theorem Wd.notin {H0 H : Hp} {ρ : List Addr} (w : Wd K H0 H ρ m) {p : Addr} (h : H p = none) : p ∉ ρ := fun hp => by
  obtain ⟨j, hj, e⟩ := List.getElem_of_mem hp
  have hj' : j < m.length := by rw [← w.len]; exact hj
  obtain ⟨_, vs, q, _⟩ := w.cel j p m[j] (by rw [List.getElem?_eq_getElem hj, e]) (List.getElem?_eq_getElem hj')
  rw [h] at q
  cases q
theorem tabs_mut {T : List (Addr × Str)} {H : Hp} {p : Addr} {o : HO} (t : LamX.Tabs T H) (hp : H p = none ∨ ∃ vs, H p = some (.lst vs)) : LamX.Tabs T (upd H p o) := fun q hq => by
  obtain ⟨ps, h1, h2, h3⟩ := t q hq
  have n1 : q.1 ≠ p := by
    rintro e
    rw [e] at h1
    rcases hp with z | ⟨vs, z⟩ <;> rw [z] at h1 <;> cases h1
  refine ⟨ps, by rw [upd_ne n1]; exact h1, h2, fun pos cv hc => ?_⟩
  obtain ⟨c, e1, e2⟩ := h3 pos cv hc
  have n2 : c ≠ p := by
    rintro e
    rw [e] at e2
    rcases hp with z | ⟨vs, z⟩
    · rw [z] at e2; cases e2
    · rw [z] at e2
      unfold LamX.CodeO at e2
      cases e2
  exact ⟨c, e1, by rw [upd_ne n2]; exact e2⟩
/-- an object outside of all that is told may change -/
theorem Wd.off {H0 H : Hp} {ρ : List Addr} {p : Addr} {o : HO} (w : Wd K H0 H ρ m) (h0 : H0 p = none) (hp : p ∉ ρ) (hm : H p = none ∨ ∃ vs, H p = some (.lst vs)) : Wd K H0 (upd H p o) ρ m := by
  refine ⟨Evl.Ex.mut w.ex h0, w.len, w.nd, fun j q ds a b => ?_, tabs_mut w.tab hm, w.nT⟩
  obtain ⟨h1, vs, h2, h3⟩ := w.cel j q ds a b
  refine ⟨h1, vs, ?_, h3⟩
  rw [upd_ne]
  · exact h2
  · rintro rfl
    exact hp (List.mem_of_getElem? a)
theorem Stp.off {n : Nat} {ρ ρ' : List Addr} {H0 H H0' H' : Hp} {p : Addr} {o : HO} (s : Stp n ρ H0 H ρ' H0' H') (hp : H p = none) : Stp n ρ H0 H ρ' H0' (upd H' p o) :=
  ⟨s.ex, fun b u h hb nt => by
    rw [upd_ne (ne_of_none h hp)]
    exact s.keep b u h hb nt, fun b h => by
    by_cases e : b = p
    · rw [e]; exact hp
    · rw [upd_ne e] at h
      exact s.dom b h, s.fresh, s.pre, s.cel⟩
theorem el_lc {wi : TI} {g : TG} {vs : List Nat} {ds rs : List PyData} (hi : EvI K wi es m ds m1) (h : LcR K g tt te (wipeS es vs) vs ds m1 rs m2) (hl : ds.length ≤ 1000) : EvL K (tLc wi g tt te vs) es m rs m2 := fun σ H H0 ρ w e Q q =>
  hi σ H H0 ρ w e _ fun J H1 H01 s1 w1 it => fun D hD => by
    have hD0 : H D = none := s1.dom D hD
    have hDρ : D ∉ ρ := w1.notin hD
    refine ⟨fun i k H2 => k = ds.length - i ∧ i ≤ ds.length ∧ ∃ acc va rs1 m3 H02, rs = acc ++ rs1 ∧ acc.length ≤ i ∧ LcR K g tt te (wipeS es vs) vs (ds.drop i) m3 rs1 m2 ∧ Stp ρ.length ρ H0 H ρ H02 H2 ∧ Wd K H02 H2 ρ m3 ∧ EnvS K H02 ρ σ es ∧ ItOk K J H02 ds ∧ H02 D = none ∧ H2 D = some (.lst va) ∧ DpAll K H02 va acc,
      ⟨ds.length, by omega, Nat.zero_le _, [], [], rs, m1, H01, rfl, Nat.le_refl _, h, s1.off hD0, w1.off (Evl.fresh_back w1.ex hD) hDρ (.inl hD), e.mono s1.ex, it, Evl.fresh_back w1.ex hD, upd_same, .nil⟩, fun i k H2 hW => ?_⟩
    obtain ⟨rfl, hle, acc, va, rs1, m3, H02, er, hacc, fr, s2, w2, e2, it2, d0, d2, da⟩ := hW
    obtain ⟨g1, g2, g3⟩ := it2 i H2 w2.ex
    by_cases hlt : i < ds.length
    · refine .inr ⟨g1 hlt, ?_⟩
      have hd : ds[i]? = some ds[i] := List.getElem?_eq_getElem hlt
      rw [drop_cons hd] at fr
      have fin : ∀ {x H'}, J.yld i H2 x H' → H' = H2 ∧ Dp K H02 x ds[i] := fun {x H'} y => by
        obtain ⟨e1, d, q1, q2⟩ := g3 x H' hlt y
        rw [hd] at q1
        cases q1
        exact ⟨e1, q2⟩
      -- the new list through a step
      have keepD : ∀ {H3 H03 : Hp}, Stp ρ.length ρ H02 H2 ρ H03 H3 → H03 D = none ∧ H3 D = some (.lst va) := fun {H3 H03} s3 => by
        refine ⟨?_, s3.keep D _ d2 hDρ fun ps z => nomatch z⟩
        cases z : H03 D with
        | none => rfl
        | some u =>
          rcases s3.fresh D u z with y | y | y
          · rw [d0] at y; cases y
          · rw [d2] at y; cases y
          · rw [List.drop_length] at y
            exact absurd y (by simp)
      have hvl := dpAll_len da
      cases fr with
      | @yes _ _ es3 _ m4 m5 _ r rs2 is hg hiv hb he hr =>
        refine ⟨fun H' => ∃ va' H04, Stp ρ.length ρ H0 H ρ H04 H' ∧ Wd K H04 H' ρ m5 ∧ EnvS K H04 ρ σ es ∧ ItOk K J H04 ds ∧ H04 D = none ∧ H' D = some (.lst va') ∧ DpAll K H04 va' (acc ++ [r]),
          fun H' ⟨va', H04, s4, w4, e4, it4, z0, z1, z2⟩ => ⟨ds.length - (i + 1), by omega, rfl, hlt, acc ++ [r], va', rs2, m5, H04, by rw [er, List.append_assoc]; rfl, by rw [List.length_append, List.length_singleton]; omega, hr, s4, w4, e4, it4, z0, z1, z2⟩, fun x H' y => ?_⟩
        obtain ⟨rfl, kx⟩ := fin y
        refine hg _ _ H02 ρ x w2.ex (e2.wipe vs) kx _ fun σ3 e3 hw => ⟨by rw [hw vs hiv, wipe_wipe], ?_⟩
        refine hb σ3 _ H02 ρ w2 e3 _ fun H3 H03 s3 w3 => ?_
        refine iteT (he σ3 H3 H03 ρ w3 (e3.mono s3.ex) _ fun y H4 H04 s4 w4 ky => ?_)
        have s5 := s3.trans w3.nd s4
        obtain ⟨k1, k2⟩ := keepD s5
        refine ⟨va, k2, small1000 (by omega), va ++ [y], H04, (s2.trans w2.nd s5).off hD0, w4.off k1 hDρ (.inr ⟨_, k2⟩), e2.mono s5.ex, it2.mono s5.ex, k1, upd_same, dpAll_app (dpAll_mono s5.ex da) (.cons ky .nil)⟩
      | @not _ _ es3 _ m4 _ _ is hg hiv hb hr =>
        refine ⟨fun H' => ∃ H04, Stp ρ.length ρ H0 H ρ H04 H' ∧ Wd K H04 H' ρ m4 ∧ EnvS K H04 ρ σ es ∧ ItOk K J H04 ds ∧ H04 D = none ∧ H' D = some (.lst va) ∧ DpAll K H04 va acc,
          fun H' ⟨H04, s4, w4, e4, it4, z0, z1, z2⟩ => ⟨ds.length - (i + 1), by omega, rfl, hlt, acc, va, rs1, m4, H04, er, by omega, hr, s4, w4, e4, it4, z0, z1, z2⟩, fun x H' y => ?_⟩
        obtain ⟨rfl, kx⟩ := fin y
        refine hg _ _ H02 ρ x w2.ex (e2.wipe vs) kx _ fun σ3 e3 hw => ⟨by rw [hw vs hiv, wipe_wipe], ?_⟩
        refine hb σ3 _ H02 ρ w2 e3 _ fun H3 H03 s3 w3 => ?_
        obtain ⟨k1, k2⟩ := keepD s3
        exact iteF ⟨H03, s2.trans w2.nd s3, w3, e2.mono s3.ex, it2.mono s3.ex, k1, k2, dpAll_mono s3.ex da⟩
    · have ei : i = ds.length := by omega
      subst ei
      rw [List.drop_length] at fr
      cases fr with
      | nil =>
        refine .inl ⟨g2 (Nat.le_refl _), ?_⟩
        rw [List.append_nil] at er
        subst er
        exact q D va H2 H02 s2 w2 hD0 d0 hDρ d2 da
/-- a new list as data -/
theorem el_d {ds : List PyData} (h : EvL K te es m ds m1) : EvE K te es m (.d (.list ds)) m1 := fun σ H H0 ρ w e Q q =>
  h σ H H0 ρ w e _ fun p vs H1 H01 s1 w1 hp hp0 hpρ e1 ha => by
    have hx : Evl.Ex H01 (upd H01 p (.lst vs)) := Evl.Ex.new hp0
    refine q _ H1 (upd H01 p (.lst vs)) ⟨s1.ex.trans hx, s1.keep, s1.dom, fun b o z => ?_, rfl, fun b z => .inl z⟩ ⟨fun b o z => ?_, w1.len, w1.nd, fun j a ds' z1 z2 => ?_, w1.tab, fun q hq => by
        rw [upd_ne]
        · exact w1.nT q hq
        · obtain ⟨_, z, _⟩ := w1.tab q hq
          exact ne_of z e1 (fun z => nomatch z)⟩ (.lst (.inl (.inl upd_same)) (dpAll_mono hx ha))
    · by_cases e : b = p
      · rw [e]; exact .inr (.inl hp)
      · rw [upd_ne e] at z
        exact s1.fresh b o z
    · by_cases e : b = p
      · subst e
        rw [upd_same] at z
        rw [e1]
        exact z
      · rw [upd_ne e] at z
        exact w1.ex b o z
    · obtain ⟨y1, ws, y2, y3⟩ := w1.cel j a ds' z1 z2
      refine ⟨?_, ws, y2, dpAll_mono hx y3⟩
      rw [upd_ne]
      · exact y1
      · rintro rfl
        exact hpρ (List.mem_of_getElem? z1)
/-- a new list kept by a name: a cell -/
theorem sv_cell {n : Nat} {i : Nat} {ds : List PyData} (h : EvL K te es m ds m1) : Sv K n (tAsg te (gName i)) es m (.nx (es.set i (.c m1.length)) (m1 ++ [ds])) := fun σ H H0 ρ hn w e D q =>
  h σ H H0 ρ w e _ fun p vs H1 H01 s1 w1 hp hp0 hpρ e1 ha => by
    have nd : (ρ ++ [p]).Nodup := List.nodup_append.mpr ⟨w1.nd, by simp, fun a ha b hb => by
      rcases List.mem_singleton.mp hb with rfl
      rintro rfl
      exact hpρ ha⟩
    have w2 : Wd K H01 H1 (ρ ++ [p]) (m1 ++ [ds]) := by
      refine ⟨w1.ex, by rw [List.length_append, List.length_append, w1.len]; rfl, nd, fun j a ds' z1 z2 => ?_, w1.tab, w1.nT⟩
      by_cases hj : j < ρ.length
      · rw [List.getElem?_append_left hj] at z1
        rw [List.getElem?_append_left (by rw [← w1.len]; exact hj)] at z2
        exact w1.cel j a ds' z1 z2
      · rw [List.getElem?_append_right (by omega)] at z1
        rw [List.getElem?_append_right (by rw [← w1.len]; omega)] at z2
        rw [← w1.len] at z2
        have e0 : j - ρ.length = 0 := by
          cases hk : j - ρ.length with
          | zero => rfl
          | succ k => rw [hk] at z1; simp at z1
        rw [e0] at z1 z2
        cases z1
        cases z2
        exact ⟨hp0, vs, e1, ha⟩
    have s2 : Stp n ρ H0 H (ρ ++ [p]) H01 H1 := ⟨s1.ex, s1.keep, s1.dom, s1.low.fresh, List.take_append_of_le_length hn, fun b z => by
      rcases List.mem_append.mp z with z | z
      · exact .inl z
      · rw [List.mem_singleton.mp z]; exact .inr hp⟩
    have e2 : EnvS K H01 (ρ ++ [p]) σ es := by
      refine ⟨e.1, fun j s z => ?_⟩
      rcases (e.mono s1.ex).2 j s z with y | ⟨v, y1, y2⟩
      · exact .inl y
      · refine .inr ⟨v, y1, ?_⟩
        cases s with
        | no => trivial
        | d x => exact y2
        | v x => exact y2
        | c k =>
          obtain ⟨a, h1, h2⟩ := y2
          refine ⟨a, h1, ?_⟩
          rw [List.getElem?_append_left (List.getElem?_eq_some_iff.mp h2).1]
          exact h2
    refine q _ (ρ ++ [p]) H1 H01 s2 w2 (e2.set ⟨p, rfl, ?_⟩)
    rw [← w1.len, List.getElem?_append_right (Nat.le_refl _), Nat.sub_self]
    rfl
end
end DL

set_option Elab.async false
set_option linter.all false
set_option maxRecDepth 100000
namespace DL
variable [Tbs]
open PySem PySem.Spec PyProof.Rows L2

section
variable {K : PySem.W.Frag} {te ta tb tc : TE} {tt tu : TT} {es : List Sl} {m m1 m2 m3 : M} {r : Sl} {a b c : Bool}

/-- no new object -/
theorem here {H0 H : Hp} {u : V} {z : PyData} {Q : VK} (ex : Evl.Ex H0 H) (k : Dp K H0 u z)
    (q : ∀ u H' H0', Evl.Ex H0 H0' → Evl.Ex H0' H' → Evl.Ex H H' → (∀ b o, H0' b = some o → H0 b = some o ∨ H b = none) → Dp K H0' u z → Q u H') : Q u H :=
  q u H H0 (Evl.Ex.refl _) ex (Evl.Ex.refl _) (fun _ _ h => .inl h) k
/-- a new tuple -/
theorem newT {H0 H : Hp} {p : Addr} {xs : List V} {ds : List PyData} {Q : VK} (ex : Evl.Ex H0 H) (hp : H p = none) (k : DpAll K H0 xs ds)
    (q : ∀ u H' H0', Evl.Ex H0 H0' → Evl.Ex H0' H' → Evl.Ex H H' → (∀ b o, H0' b = some o → H0 b = some o ∨ H b = none) → Dp K H0' u (.tuple ds) → Q u H') : Q (.ref p) (upd H p (.tup xs)) := by
  have h0 : H0 p = none := Evl.fresh_back ex hp
  refine q _ _ (upd H0 p (.tup xs)) (Evl.Ex.new h0) (fun b o h => ?_) (Evl.Ex.new hp) (fun b o h => ?_) (.tup (.inl (.inl upd_same)) (dpAll_mono (Evl.Ex.new h0) k))
  · by_cases e : b = p
    · subst e
      rw [upd_same] at h ⊢
      exact h
    · rw [upd_ne e] at h ⊢
      exact ex _ _ h
  · by_cases e : b = p
    · rw [e]; exact .inr hp
    · rw [upd_ne e] at h
      exact .inl h
theorem newL {H0 H : Hp} {p : Addr} {xs : List V} {ds : List PyData} {Q : VK} (ex : Evl.Ex H0 H) (hp : H p = none) (k : DpAll K H0 xs ds)
    (q : ∀ u H' H0', Evl.Ex H0 H0' → Evl.Ex H0' H' → Evl.Ex H H' → (∀ b o, H0' b = some o → H0 b = some o ∨ H b = none) → Dp K H0' u (.list ds) → Q u H') : Q (.ref p) (upd H p (.lst xs)) := by
  have h0 : H0 p = none := Evl.fresh_back ex hp
  refine q _ _ (upd H0 p (.lst xs)) (Evl.Ex.new h0) (fun b o h => ?_) (Evl.Ex.new hp) (fun b o h => ?_) (.lst (.inl (.inl upd_same)) (dpAll_mono (Evl.Ex.new h0) k))
  · by_cases e : b = p
    · subst e
      rw [upd_same] at h ⊢
      exact h
    · rw [upd_ne e] at h ⊢
      exact ex _ _ h
  · by_cases e : b = p
    · rw [e]; exact .inr hp
    · rw [upd_ne e] at h
      exact .inl h

/-! ### operators by data -/
theorem o_eq {x y : PyData} (hx : SeqAt.shaped x = true) (hy : SeqAt.shaped y = true) : Op2 K (rEqD K) x y (.bool (PyData.eqv x y)) := fun H0 H ex v w kv kw Q q => ⟨x, y, dp_mono ex kv, dp_mono ex kw, hx, hy, here ex (.bl _) q⟩
theorem o_ne {x y : PyData} (hx : SeqAt.shaped x = true) (hy : SeqAt.shaped y = true) : Op2 K (rNeD K) x y (.bool (!PyData.eqv x y)) := fun H0 H ex v w kv kw Q q => ⟨x, y, dp_mono ex kv, dp_mono ex kw, hx, hy, here ex (.bl _) q⟩
theorem o_i0b {f : Int → Int → Bool} {i j : Int} : Op2 K (rI0 fun i j => .bl (f i j)) (.int i) (.int j) (.bool (f i j)) := fun H0 H ex v w kv kw Q q => by
  cases kv
  cases kw
  exact ⟨i, j, rfl, rfl, here ex (.bl _) q⟩
theorem o_i0 {f : Int → Int → Int} {i j : Int} : Op2 K (rI0 fun i j => .int (f i j)) (.int i) (.int j) (.int (f i j)) := fun H0 H ex v w kv kw Q q => by
  cases kv
  cases kw
  exact ⟨i, j, rfl, rfl, here ex (.int _) q⟩
theorem o_i {C : Int → Int → Prop} {f : Int → Int → Int} {i j : Int} (h : C i j) : Op2 K (rI C fun i j => .int (f i j)) (.int i) (.int j) (.int (f i j)) := fun H0 H ex v w kv kw Q q => by
  cases kv
  cases kw
  exact ⟨i, j, rfl, rfl, h, here ex (.int _) q⟩
theorem o_orL {r1 r2 : R2} {x y z : PyData} (h : Op2 K r1 x y z) : Op2 K (fun x y H Q => r1 x y H Q ∨ r2 x y H Q) x y z := fun H0 H ex v w kv kw Q q => .inl (h H0 H ex v w kv kw Q q)
theorem o_orR {r1 r2 : R2} {x y z : PyData} (h : Op2 K r2 x y z) : Op2 K (fun x y H Q => r1 x y H Q ∨ r2 x y H Q) x y z := fun H0 H ex v w kv kw Q q => .inr (h H0 H ex v w kv kw Q q)
theorem o_neg {i : Int} : Op1 K (rU fun i => .int (-i)) (.int i) (.int (-i)) := fun H0 H ex v kv Q q => by
  cases kv
  exact ⟨i, rfl, here ex (.int _) q⟩
def isNone : PyData → Bool
  | .none => true
  | _ => false
theorem isNone_v {H0 : Hp} {v : V} {x : PyData} (k : Dp K H0 v x) : decide (v = .non) = isNone x := by cases k <;> rfl
theorem o_isN {x : PyData} : Op2 K (fun x y H Q => y = .non ∧ Q (.bl (decide (x = .non))) H) x .none (.bool (isNone x)) := fun H0 H ex v w kv kw Q q => by
  cases kw
  refine ⟨rfl, ?_⟩
  rw [isNone_v kv]
  exact here ex (.bl _) q
theorem o_notN {x : PyData} : Op2 K (fun x y H Q => y = .non ∧ Q (.bl (!decide (x = .non))) H) x .none (.bool (!isNone x)) := fun H0 H ex v w kv kw Q q => by
  cases kw
  refine ⟨rfl, ?_⟩
  rw [isNone_v kv]
  exact here ex (.bl _) q
/-- flat data -/
def flatD : PyData → Bool
  | .none => true
  | .bool _ => true
  | .int _ => true
  | .str _ => true
  | _ => false
theorem flat_v {H0 : Hp} {v : V} {x : PyData} (k : Dp K H0 v x) (h : flatD x = true) : flatV v = true := by
  cases k <;> first | rfl | cases h
theorem eqV_v {H0 : Hp} {v w : V} {x y : PyData} (k : Dp K H0 v x) (l : Dp K H0 w y) (h : flatD x = true) (h' : flatD y = true) : eqV v w = PyData.eqv x y := by
  cases k <;> cases l <;> first
    | (simp only [eqV, PyData.eqv]; done)
    | rfl
    | (exact absurd h Bool.false_ne_true)
    | (exact absurd h' Bool.false_ne_true)
theorem inV_v {H0 : Hp} {v : V} {x : PyData} (k : Dp K H0 v x) (h : flatD x = true) : ∀ {ws : List V} {ds : List PyData}, DpAll K H0 ws ds → ds.all flatD = true → ws.all flatV = true ∧ inV v ws = ds.any fun z => PyData.eqv z x
  | _, _, .nil, _ => ⟨rfl, rfl⟩
  | _, _, .cons a t, ha => by
    rw [List.all_cons, Bool.and_eq_true] at ha
    obtain ⟨h1, h2⟩ := inV_v k h t ha.2
    refine ⟨by rw [List.all_cons, flat_v a ha.1, h1]; rfl, ?_⟩
    show (_ :: _).any _ = _
    rw [List.any_cons, List.any_cons, eqV_v a k ha.1 h]
    congr 1
theorem o_in {x : PyData} {ds : List PyData} (h : flatD x = true) (ha : ds.all flatD = true) : Op2 K (rIn K false) x (.tuple ds) (.bool (ds.any fun z => PyData.eqv z x)) := fun H0 H ex v w kv kw Q q => by
  cases kw with
  | tup hs hd =>
    obtain ⟨h1, h2⟩ := inV_v kv h hd ha
    refine ⟨_, _, rfl, .inr (Evl.ex_t ex hs), flat_v kv h, h1, ?_⟩
    rw [if_neg Bool.false_ne_true, h2]
    exact here ex (.bl _) q
theorem o_inL {x : PyData} {ds : List PyData} (h : SeqAt.shaped x = true) (h' : SeqAt.shaped (.list ds) = true) : Op2 K (rInD K) x (.list ds) (.bool (ds.any fun z => PyData.eqv z x)) := fun H0 H ex v w kv kw Q q =>
  ⟨x, ds, dp_mono ex kv, dp_mono ex kw, h, h', here ex (.bl _) q⟩
theorem o_ixT {ds : List PyData} {i : Int} {j : Nat} {d : PyData} (e : i = (j : Int)) (h : ds[j]? = some d) : Op2 K (rIx K) (.tuple ds) (.int i) d := fun H0 H ex v w kv kw Q q => by
  cases kw
  cases kv with
  | tup hs hd =>
    obtain ⟨v, hv, k⟩ := dpAll_get' hd h
    exact .inr (.inl ⟨_, _, _, v, rfl, rfl, Evl.ex_t ex hs, at_of e hv, here ex k q⟩)
theorem o_ixL {ds : List PyData} {i : Int} {j : Nat} {d : PyData} (e : i = (j : Int)) (h : ds[j]? = some d) : Op2 K (rIx K) (.list ds) (.int i) d := fun H0 H ex v w kv kw Q q => by
  cases kw
  cases kv with
  | lst hs hd =>
    obtain ⟨v, hv, k⟩ := dpAll_get' hd h
    exact .inl ⟨_, _, _, v, rfl, rfl, Evl.ex_l ex hs, at_of e hv, here ex k q⟩
theorem dpAll_nil {H0 : Hp} {ds : List PyData} (h : DpAll K H0 [] ds) : ds = [] := by cases h; rfl
theorem dpAll_nil' {H0 : Hp} {vs : List V} (h : DpAll K H0 vs []) : vs = [] := by cases h; rfl
theorem o_cat {xs ys : List PyData} (hl : xs.length + ys.length ≤ 1000) : Op2 K (rCatA K) (.tuple xs) (.tuple ys) (.tuple (xs ++ ys)) := fun H0 H ex v w kv kw Q q => by
  cases kv with
  | tup hs hd =>
    cases kw with
    | tup hs' hd' =>
      refine ⟨_, _, _, _, rfl, rfl, Evl.ex_t ex hs, Evl.ex_t ex hs', Nat.le_of_lt (small1000 (by rw [dpAll_len hd, dpAll_len hd']; exact hl)), fun e => ?_, fun e e' => ?_, fun e e' p hp => newT ex hp (dpAll_app hd hd') q⟩
      · subst e
        rw [dpAll_nil hd] at q
        exact here ex (.tup hs' hd') q
      · subst e'
        rw [dpAll_nil hd', List.append_nil] at q
        exact here ex (.tup hs hd) q
theorem dpAll_rep {H0 : Hp} {vs : List V} {ds : List PyData} (h : DpAll K H0 vs ds) : ∀ n : Nat, DpAll K H0 (List.replicate n vs).flatten (List.replicate n ds).flatten
  | 0 => .nil
  | n + 1 => by
    rw [List.replicate_succ, List.replicate_succ, List.flatten_cons, List.flatten_cons]
    exact dpAll_app h (dpAll_rep h n)
theorem o_rep {xs : List PyData} {k : Int} (hx : xs ≠ []) (h2 : 2 ≤ k) (h3 : k ≤ 1000) (hl : xs.length ≤ 1000) : Op2 K (rRepT K) (.tuple xs) (.int k) (.tuple (List.replicate k.toNat xs).flatten) := fun H0 H ex v w kv kw Q q => by
  cases kw
  cases kv with
  | tup hs hd =>
    refine ⟨_, k, _, rfl, rfl, Evl.ex_t ex hs, ?_, h2, h3, by rw [dpAll_len hd]; exact hl, fun p hp => newT ex hp (dpAll_rep hd _) q⟩
    rintro rfl
    exact hx (dpAll_nil hd)

/-! ### slices -/
theorem eo_none : EvO K tNoPart es m none m := fun σ H H0 ρ w e Q q => q H H0 .refl w
theorem eo_some {i : Int} (h : EvE K te es m (.d (.int i)) m1) : EvO K (tPart te) es m (some i) m1 := fun σ H H0 ρ w e Q q =>
  h σ H H0 ρ w e _ fun u H' H0' s' w' ku => by
    cases ku
    exact ⟨i, rfl, q H' H0' s' w'⟩
def cutD (xs : List PyData) (lo hi : Option Int) : List PyData := (xs.drop (HT.sIx xs.length 0 lo)).take (HT.sIx xs.length xs.length hi - HT.sIx xs.length 0 lo)
theorem dpAll_drop {H0 : Hp} : ∀ {vs : List V} {ds : List PyData} (n : Nat), DpAll K H0 vs ds → DpAll K H0 (vs.drop n) (ds.drop n)
  | _, _, 0, h => h
  | _, _, n + 1, .nil => .nil
  | _, _, n + 1, .cons _ t => dpAll_drop n t
theorem dpAll_take {H0 : Hp} : ∀ {vs : List V} {ds : List PyData} (n : Nat), DpAll K H0 vs ds → DpAll K H0 (vs.take n) (ds.take n)
  | _, _, 0, h => .nil
  | _, _, n + 1, .nil => .nil
  | _, _, n + 1, .cons a t => .cons a (dpAll_take n t)
theorem ev_sl {xs : List PyData} {lo hi : Option Int} {tl th : TO} (h : EvE K te es m (.d (.tuple xs)) m1) (hl : EvO K tl es m1 lo m2) (hh : EvO K th es m2 hi m3) : EvE K (tSl (rSlA K) te tl th) es m (.d (.tuple (cutD xs lo hi))) m3 := fun σ H H0 ρ w e Q q =>
  h σ H H0 ρ w e _ fun v H1 H01 s1 w1 k1 => hl σ H1 H01 ρ w1 (e.mono s1.ex) _ fun H2 H02 s2 w2 => hh σ H2 H02 ρ w2 (e.mono (s1.ex.trans s2.ex)) _ fun H3 H03 s3 w3 => by
    have s4 := (s1.trans w1.nd s2).trans w2.nd s3
    cases dp_mono (s2.ex.trans s3.ex) k1 with
    | @tup _ vs _ hs hd =>
      have hl := dpAll_len hd
      refine ⟨_, _, rfl, Evl.ex_t w3.ex hs, fun hw => ?_, fun hw p hp => ?_⟩
      · have e : cutD xs lo hi = xs := by
          unfold cutD
          rw [← hl, hw.1, hw.2, Nat.sub_zero, List.drop_zero, hl, List.take_length]
        rw [e] at q
        exact q _ H3 H03 s4 w3 (.tup hs hd)
      · have hc : DpAll K H03 (cutV vs lo hi) (cutD xs lo hi) := by
          unfold cutV cutD
          rw [hl]
          exact dpAll_take _ (dpAll_drop _ hd)
        obtain ⟨w5, s5⟩ := w3.new (n := ρ.length) (o := .tup (cutV vs lo hi)) hp
        exact q _ _ _ (s4.trans w3.nd s5) w5 (.tup (.inl (.inl upd_same)) (dpAll_mono s5.ex hc))

/-! ### built-in calls by data -/
def lenD : PyData → Option Nat
  | .list xs => some xs.length
  | .tuple xs => some xs.length
  | .str x => if x.length ≤ 1000000 then some x.length else none
  | _ => none
theorem c_len {x : PyData} {n : Nat} (h : lenD x = some n) : OpC K (fun xs H Q => ∃ x n, xs = [x] ∧ LenV K x H n ∧ Q (.int n) H) [.d x] (.int n) := fun H0 H ρ ex vs k Q q => by
  cases k with
  | cons a t =>
    cases t
    refine ⟨_, n, rfl, ?_, here ex (.int _) q⟩
    cases a with
    | lst hs hd =>
      cases h
      exact .inl ⟨_, Evl.ex_l ex hs, (dpAll_len hd).symm⟩
    | tup hs hd =>
      cases h
      exact .inr ⟨_, Evl.ex_t ex hs, (dpAll_len hd).symm⟩
    | str x =>
      have h' : (if x.length ≤ 1000000 then some x.length else none) = some n := h
      split at h'
      · cases h'
        exact ⟨Nat.le_trans (by assumption) (by decide), rfl⟩
      · cases h'
    | non => cases h
    | bl _ => cases h
    | int _ => cases h
/-- the type of data -/
def tyD : PyData → String
  | .none => "NoneType"
  | .bool _ => "bool"
  | .int _ => "int"
  | .str _ => "str"
  | .list _ => "list"
  | .tuple _ => "tuple"
  | .dict _ => "dict"
theorem tyX_v {H0 H : Hp} (ex : Evl.Ex H0 H) {v : V} {x : PyData} (k : Dp K H0 v x) : TyX K H v (.type (tyD x)) := by
  cases k with
  | non => exact .base .non
  | bl b => exact .base (.bl b)
  | int i => exact .base (.int i)
  | str x => exact .base (.str x)
  | lst hs _ =>
    rcases Evl.ex_l ex hs with (h | ⟨o, h⟩) | ⟨o, its, n, h, c, _⟩
    · exact .base (.lst h)
    · exact .base (.frz h)
    · exact .kList h c
  | tup hs _ =>
    rcases Evl.ex_t ex hs with (h | ⟨o, h⟩) | ⟨o, its, n, h, c, _⟩
    · exact .base (.tup h)
    · exact .fTuple h
    · exact .kTuple h c
theorem c_isi {x : PyData} {T : String} {b : Bool} (h : kitB (tyD x) T = some b) : OpC K (rIsi K) [.d x, .v (.ty T)] (.bool b) := fun H0 H ρ ex vs k Q q => by
  cases k with
  | cons a t =>
    cases t with
    | cons a2 t2 =>
      cases t2
      cases a2
      exact ⟨_, _, _, _, b, rfl, .ty T, tyX_v ex a, kit_ty h, here ex (.bl b) q⟩
def isTup : PyData → Bool
  | .tuple _ => true
  | _ => false
def isInt : PyData → Bool
  | .int _ => true
  | .bool _ => true
  | _ => false
def isBool : PyData → Bool
  | .bool _ => true
  | _ => false
def isStr : PyData → Bool
  | .str _ => true
  | _ => false
theorem kit_tup (x : PyData) (h : tyD x ≠ "dict") : kitB (tyD x) "tuple" = some (isTup x) := by
  cases x with
  | none => exact (by decide +kernel : kitB "NoneType" "tuple" = some false)
  | bool _ => exact (by decide +kernel : kitB "bool" "tuple" = some false)
  | int _ => exact (by decide +kernel : kitB "int" "tuple" = some false)
  | str _ => exact (by decide +kernel : kitB "str" "tuple" = some false)
  | list _ => exact (by decide +kernel : kitB "list" "tuple" = some false)
  | tuple _ => exact (by decide +kernel : kitB "tuple" "tuple" = some true)
  | dict _ => exact absurd rfl h
theorem kit_int (x : PyData) (h : tyD x ≠ "dict") : kitB (tyD x) "int" = some (isInt x) := by
  cases x with
  | none => exact (by decide +kernel : kitB "NoneType" "int" = some false)
  | bool _ => exact (by decide +kernel : kitB "bool" "int" = some true)
  | int _ => exact (by decide +kernel : kitB "int" "int" = some true)
  | str _ => exact (by decide +kernel : kitB "str" "int" = some false)
  | list _ => exact (by decide +kernel : kitB "list" "int" = some false)
  | tuple _ => exact (by decide +kernel : kitB "tuple" "int" = some false)
  | dict _ => exact absurd rfl h
theorem kit_bool (x : PyData) (h : tyD x ≠ "dict") : kitB (tyD x) "bool" = some (isBool x) := by
  cases x with
  | none => exact (by decide +kernel : kitB "NoneType" "bool" = some false)
  | bool _ => exact (by decide +kernel : kitB "bool" "bool" = some true)
  | int _ => exact (by decide +kernel : kitB "int" "bool" = some false)
  | str _ => exact (by decide +kernel : kitB "str" "bool" = some false)
  | list _ => exact (by decide +kernel : kitB "list" "bool" = some false)
  | tuple _ => exact (by decide +kernel : kitB "tuple" "bool" = some false)
  | dict _ => exact absurd rfl h
theorem kit_str (x : PyData) (h : tyD x ≠ "dict") : kitB (tyD x) "str" = some (isStr x) := by
  cases x with
  | none => exact (by decide +kernel : kitB "NoneType" "str" = some false)
  | bool _ => exact (by decide +kernel : kitB "bool" "str" = some false)
  | int _ => exact (by decide +kernel : kitB "int" "str" = some false)
  | str _ => exact (by decide +kernel : kitB "str" "str" = some true)
  | list _ => exact (by decide +kernel : kitB "list" "str" = some false)
  | tuple _ => exact (by decide +kernel : kitB "tuple" "str" = some false)
  | dict _ => exact absurd rfl h
theorem dp_nodict {H0 : Hp} {v : V} {x : PyData} (k : Dp K H0 v x) : tyD x ≠ "dict" := by
  cases k <;> first
    | exact (by decide : "NoneType" ≠ "dict")
    | exact (by decide : "bool" ≠ "dict")
    | exact (by decide : "int" ≠ "dict")
    | exact (by decide : "str" ≠ "dict")
    | exact (by decide : "list" ≠ "dict")
    | exact (by decide : "tuple" ≠ "dict")
theorem c_isi' {x : PyData} {T : String} {f : PyData → Bool} (h : ∀ x, tyD x ≠ "dict" → kitB (tyD x) T = some (f x)) : OpC K (rIsi K) [.d x, .v (.ty T)] (.bool (f x)) := fun H0 H ρ ex vs k Q q => by
  have hx : tyD x ≠ "dict" := by
    cases k with
    | cons a t => exact dp_nodict a
  exact c_isi (h x hx) H0 H ρ ex vs k Q q
theorem c_tup {x : PyData} : OpC K (rIsi K) [.d x, .v (.ty "tuple")] (.bool (isTup x)) := c_isi' kit_tup
theorem c_int {x : PyData} : OpC K (rIsi K) [.d x, .v (.ty "int")] (.bool (isInt x)) := c_isi' kit_int
theorem c_bool {x : PyData} : OpC K (rIsi K) [.d x, .v (.ty "bool")] (.bool (isBool x)) := c_isi' kit_bool
theorem c_str {x : PyData} : OpC K (rIsi K) [.d x, .v (.ty "str")] (.bool (isStr x)) := c_isi' kit_str
theorem dpAll_bools {H0 : Hp} : ∀ {bs : List Bool} {vs : List V}, DpAll K H0 vs (bs.map .bool) → vs = bs.map V.bl
  | [], _, h => by cases h; rfl
  | b :: bs, _, h => by
    cases h with
    | cons a t =>
      cases a
      rw [dpAll_bools t]
      rfl
theorem dpAll_ints {H0 : Hp} : ∀ {ns : List Int} {vs : List V}, DpAll K H0 vs (ns.map .int) → vs = ns.map V.int
  | [], _, h => by cases h; rfl
  | b :: bs, _, h => by
    cases h with
    | cons a t =>
      cases a
      rw [dpAll_ints t]
      rfl
theorem c_all {bs : List Bool} : OpC K (rAll K) [.d (.list (bs.map .bool))] (.bool (bs.all id)) := fun H0 H ρ ex vs k Q q => by
  cases k with
  | cons a t =>
    cases t
    cases a with
    | lst hs hd =>
      rw [dpAll_bools hd] at hs
      exact ⟨_, bs, rfl, Evl.ex_l ex hs, here ex (.bl _) q⟩
theorem c_any {bs : List Bool} : OpC K (rAny K) [.d (.list (bs.map .bool))] (.bool (bs.any id)) := fun H0 H ρ ex vs k Q q => by
  cases k with
  | cons a t =>
    cases t
    cases a with
    | lst hs hd =>
      rw [dpAll_bools hd] at hs
      exact ⟨_, bs, rfl, Evl.ex_l ex hs, here ex (.bl _) q⟩
theorem c_sum {ns : List Int} : OpC K (rSum K) [.d (.list (ns.map .int))] (.int ns.sum) := fun H0 H ρ ex vs k Q q => by
  cases k with
  | cons a t =>
    cases t
    cases a with
    | lst hs hd =>
      rw [dpAll_ints hd] at hs
      exact ⟨_, ns, rfl, Evl.ex_l ex hs, here ex (.int _) q⟩
theorem c_max2 {i j : Int} : OpC K (fun xs H Q => ∃ i j, xs = [.int i, .int j] ∧ Q (.int (if j > i then j else i)) H) [.d (.int i), .d (.int j)] (.int (if j > i then j else i)) := fun H0 H ρ ex vs k Q q => by
  cases k with
  | cons a t =>
    cases a
    cases t with
    | cons a t =>
      cases a
      cases t
      exact ⟨i, j, rfl, here ex (.int _) q⟩
theorem c_min2 {i j : Int} : OpC K (fun xs H Q => ∃ i j, xs = [.int i, .int j] ∧ Q (.int (if j < i then j else i)) H) [.d (.int i), .d (.int j)] (.int (if j < i then j else i)) := fun H0 H ρ ex vs k Q q => by
  cases k with
  | cons a t =>
    cases a
    cases t with
    | cons a t =>
      cases a
      cases t
      exact ⟨i, j, rfl, here ex (.int _) q⟩
theorem c_tupL {ds : List PyData} : OpC K (fun xs H Q => ∃ p ys, xs = [.ref p] ∧ ((SqL K H p ys ∧ ∀ l, H l = none → Q (.ref l) (upd H l (.tup ys))) ∨ (SqT K H p ys ∧ Q (.ref p) H))) [.d (.list ds)] (.tuple ds) := fun H0 H ρ ex vs k Q q => by
  cases k with
  | cons a t =>
    cases t
    cases a with
    | lst hs hd => exact ⟨_, _, rfl, .inl ⟨Evl.ex_l ex hs, fun l hl => newT ex hl hd q⟩⟩
theorem c_tupT {ds : List PyData} : OpC K (fun xs H Q => ∃ p ys, xs = [.ref p] ∧ ((SqL K H p ys ∧ ∀ l, H l = none → Q (.ref l) (upd H l (.tup ys))) ∨ (SqT K H p ys ∧ Q (.ref p) H))) [.d (.tuple ds)] (.tuple ds) := fun H0 H ρ ex vs k Q q => by
  cases k with
  | cons a t =>
    cases t
    cases a with
    | tup hs hd => exact ⟨_, _, rfl, .inr ⟨Evl.ex_t ex hs, here ex (.tup hs hd) q⟩⟩
theorem c_listT {ds : List PyData} : OpC K (fun xs H Q => ∃ p ys, xs = [.ref p] ∧ (SqL K H p ys ∨ SqT K H p ys) ∧ ∀ l, H l = none → Q (.ref l) (upd H l (.lst ys))) [.d (.tuple ds)] (.list ds) := fun H0 H ρ ex vs k Q q => by
  cases k with
  | cons a t =>
    cases t
    cases a with
    | tup hs hd => exact ⟨_, _, rfl, .inr (Evl.ex_t ex hs), fun l hl => newL ex hl hd q⟩
/-- a constant of the written part -/
theorem dp_strs {a : Addr} {o : Obj} {its : Array Value} {n : Nat} {ss : List Str} (l : K.lookup a = some o) (c : o.cls = .type "tuple") (d : o.data = .seq its n) (z : its.size ≤ sizeLine) (v : Vals (ss.map V.str) its.toList) : ∀ H, Dp K H (.ref a) (.tuple (ss.map .str)) := fun H =>
  .tup (.inr ⟨o, its, n, l, c, d, z, v⟩) (by
    clear v
    induction ss with
    | nil => exact .nil
    | cons s ss ih => exact .cons (.str s) ih)

/-! ### cells -/
theorem ea1 {i : Nat} (h : es[i]? = some r) (hn : r ≠ .no) : EvE K (tVar i) es m r m := ev_var h hn
theorem cell_get {H0 H : Hp} {ρ : List Addr} {j : Nat} {p : Addr} {ds : List PyData} (w : Wd K H0 H ρ m) (h : ρ[j]? = some p) (hm : m[j]? = some ds) : ∃ vs, H p = some (.lst vs) ∧ DpAll K H0 vs ds := (w.cel j p ds h hm).2
theorem cell_put {n : Nat} {H0 H : Hp} {ρ : List Addr} {j : Nat} {p : Addr} {ds : List PyData} {vs : List V} (w : Wd K H0 H ρ m) (h : ρ[j]? = some p) (k : DpAll K H0 vs ds) : Wd K H0 (upd H p (.lst vs)) ρ (m.set j ds) ∧ Stp n ρ H0 H ρ H0 (upd H p (.lst vs)) := by
  have hj := (List.getElem?_eq_some_iff.mp h).1
  have hj2 : j < m.length := by rw [← w.len]; exact hj
  have h0 : H0 p = none := (w.cel j p (m[j]'hj2) h (List.getElem?_eq_getElem hj2)).1
  refine ⟨⟨Evl.Ex.mut w.ex h0, by rw [List.length_set]; exact w.len, w.nd, fun i q es a b => ?_, tabs_mut w.tab (.inr (let ⟨vs, e, _⟩ := cell_get w h (List.getElem?_eq_getElem hj2); ⟨vs, e⟩)), w.nT⟩, ⟨Evl.Ex.refl _, fun b o hb hn _ => ?_, fun b hb => ?_, fun b o hb => .inl hb, rfl, fun b hb => .inl hb⟩⟩
  · by_cases hi : j = i
    · subst hi
      rw [List.getElem?_set_self (by rw [← w.len]; exact hj)] at b
      cases b
      rw [h] at a
      cases a
      exact ⟨h0, vs, upd_same, k⟩
    · rw [List.getElem?_set_ne hi] at b
      obtain ⟨y1, ws, y2, y3⟩ := w.cel i q es a b
      refine ⟨y1, ws, ?_, y3⟩
      rw [upd_ne]
      · exact y2
      · rintro rfl
        exact hi (nd_ix w.nd h a)
  · rw [upd_ne]
    · exact hb
    · rintro rfl
      exact hn (List.mem_of_getElem? h)
  · by_cases e : b = p
    · subst e
      rw [upd_same] at hb
      cases hb
    · rw [upd_ne e] at hb
      exact hb
/-- xs.append(e) -/
theorem sv_append {n i j : Nat} {x : PyData} {ds : List PyData} (hi : es[i]? = some (.c j)) (h : EvE K te es m (.d x) m1) (hm : m1[j]? = some ds) (hm0 : ∃ d0, m[j]? = some d0) (hl : ds.length < 1000) : Sv K n (tDrop (tBM K "list" rAppend (tVar i) (tCons te tNil))) es m (.nx es (m1.set j (ds ++ [x]))) := fun σ H H0 ρ hn w e D q => by
  rcases e.2 i _ hi with z | ⟨v, h1, p, rfl, h2⟩
  · cases z
  · obtain ⟨d0, hm0⟩ := hm0
    obtain ⟨vs0, g0, _⟩ := cell_get w h2 hm0
    refine ⟨_, h1, .inl ⟨rfl, vs0, .inl (.inl g0)⟩, h σ H H0 ρ w e _ fun v H1 H01 s1 w1 k1 => ?_⟩
    obtain ⟨vs, g1, g2⟩ := cell_get w1 h2 hm
    obtain ⟨w2, s2⟩ := cell_put (n := n) w1 h2 (dpAll_app g2 (.cons k1 .nil))
    exact ⟨p, vs, v, rfl, rfl, g1, small1000 (by rw [dpAll_len g2]; omega), q σ ρ _ _ (s1.low.trans w1.nd s2) w2 (e.mono s1.ex)⟩
/-- xs.extend(e), e a list that was just made -/
theorem sv_extend {n i j : Nat} {ys ds : List PyData} (hi : es[i]? = some (.c j)) (h : EvL K te es m ys m1) (hm : m1[j]? = some ds) (hm0 : ∃ d0, m[j]? = some d0) (hl : ds.length + ys.length < 1000) : Sv K n (tDrop (tBM K "list" rExtend (tVar i) (tCons te tNil))) es m (.nx es (m1.set j (ds ++ ys))) := fun σ H H0 ρ hn w e D q => by
  rcases e.2 i _ hi with z | ⟨v, h1, p, rfl, h2⟩
  · cases z
  · obtain ⟨d0, hm0⟩ := hm0
    obtain ⟨vs0, g0, _⟩ := cell_get w h2 hm0
    refine ⟨_, h1, .inl ⟨rfl, vs0, .inl (.inl g0)⟩, h σ H H0 ρ w e _ fun b us H1 H01 s1 w1 hb hb0 hbρ e1 k1 => ?_⟩
    obtain ⟨vs, g1, g2⟩ := cell_get w1 h2 hm
    obtain ⟨w2, s2⟩ := cell_put (n := n) w1 h2 (dpAll_app g2 k1)
    exact ⟨p, b, vs, us, rfl, rfl, g1, e1, Nat.le_of_lt (small1000 (by rw [dpAll_len g2, dpAll_len k1]; omega)), q σ ρ _ _ (s1.low.trans w1.nd s2) w2 (e.mono s1.ex)⟩
/-- the item of a cell -/
theorem ev_cix {i j l : Nat} {k : Int} {ds : List PyData} {d : PyData} (hi : es[i]? = some (.c j)) (hm : m[j]? = some ds) (hk : k = (l : Int)) (h : ds[l]? = some d) : EvE K (tOp (rIx K) (tVar i) (tC (.int k))) es m (.d d) m := fun σ H H0 ρ w e Q q => by
  rcases e.2 i _ hi with z | ⟨v, h1, p, rfl, h2⟩
  · cases z
  · obtain ⟨vs, g1, g2⟩ := cell_get w h2 hm
    obtain ⟨v, hv, kv⟩ := dpAll_get' g2 h
    exact ⟨_, h1, .inl ⟨_, _, _, v, rfl, rfl, .inl (.inl g1), at_of hk hv, q v H H0 .refl w kv⟩⟩
theorem dpAll_set {H0 : Hp} {v : V} {x : PyData} : ∀ {vs : List V} {ds : List PyData} {l : Nat}, DpAll K H0 vs ds → Dp K H0 v x → DpAll K H0 (vs.set l v) (ds.set l x)
  | _, _, _, .nil, _ => .nil
  | _, _, 0, .cons _ t, k => .cons k t
  | _, _, l + 1, .cons a t, k => .cons a (dpAll_set (l := l) t k)
/-- xs[k] = e -/
theorem sv_store {n i j l : Nat} {k : Int} {x : PyData} {ds : List PyData} (hi : es[i]? = some (.c j)) (h : EvE K te es m (.d x) m1) (hm : m1[j]? = some ds) (hk : k = (l : Int)) (hl : l < ds.length) : Sv K n (tAsg te (gSub (tVar i) (tC (.int k)) rSetL)) es m (.nx es (m1.set j (ds.set l x))) := fun σ H H0 ρ hn w e D q => by
  rcases e.2 i _ hi with z | ⟨v, h1, p, rfl, h2⟩
  · cases z
  · refine h σ H H0 ρ w e _ fun v H1 H01 s1 w1 k1 => ?_
    obtain ⟨vs, g1, g2⟩ := cell_get w1 h2 hm
    have hx : DpAll K H01 (vs.set l v) (ds.set l x) := dpAll_set g2 k1
    obtain ⟨w2, s2⟩ := cell_put (n := n) w1 h2 hx
    refine ⟨_, h1, p, vs, k, l, rfl, rfl, g1, ?_, q σ ρ _ _ (s1.low.trans w1.nd s2) w2 (e.mono s1.ex)⟩
    have hlen := dpAll_len g2
    unfold ixN
    rw [if_pos (by omega), if_pos (by omega), hk]
    rfl
/-- the last cell as data -/
def fzS (j : Nat) (ds : List PyData) : Sl → Sl
  | .c k => if k = j then .d (.list ds) else .c k
  | s => s
theorem sv_freeze {n : Nat} {t : TS} {ds : List PyData} {o : Out} (hn : n ≤ m.length) (h : Sv K n t (es.map (fzS m.length ds)) m o) : Sv K n t es (m ++ [ds]) o := fun σ H H0 ρ hnρ w e D q => by
  have hl : ρ.length = m.length + 1 := by rw [w.len, List.length_append]; rfl
  have hp : ρ[m.length]? = some ρ[m.length] := List.getElem?_eq_getElem (by omega)
  have hm : (m ++ [ds])[m.length]? = some ds := by rw [List.getElem?_append_right (Nat.le_refl _), Nat.sub_self]; rfl
  obtain ⟨h0, vs, g1, g2⟩ := w.cel _ _ _ hp hm
  have hx : Evl.Ex H0 (upd H0 ρ[m.length] (.lst vs)) := Evl.Ex.new h0
  have sub : ∀ (j : Nat) (a : Addr), (ρ.take m.length)[j]? = some a → j < m.length ∧ ρ[j]? = some a := fun j a h => by
    have hj : j < m.length := by
      have := (List.getElem?_eq_some_iff.mp h).1
      rw [List.length_take] at this
      omega
    rw [List.getElem?_take_of_lt hj] at h
    exact ⟨hj, h⟩
  have w2 : Wd K (upd H0 ρ[m.length] (.lst vs)) H (ρ.take m.length) m := by
    refine ⟨fun b o z => ?_, by rw [List.length_take]; omega, w.nd.sublist (List.take_sublist _ _), fun j a es' z1 z2 => ?_, w.tab, fun q hq => by
      rw [upd_ne]
      · exact w.nT q hq
      · obtain ⟨_, z, _⟩ := w.tab q hq
        exact ne_of z g1 (fun z => nomatch z)⟩
    · by_cases eb : b = ρ[m.length]
      · subst eb
        rw [upd_same] at z
        rw [g1]
        exact z
      · rw [upd_ne eb] at z
        exact w.ex b o z
    · obtain ⟨hj, z3⟩ := sub j a z1
      obtain ⟨y1, ws, y2, y3⟩ := w.cel j a es' z3 (by rw [List.getElem?_append_left hj]; exact z2)
      refine ⟨?_, ws, y2, dpAll_mono hx y3⟩
      rw [upd_ne]
      · exact y1
      · rintro rfl
        have := nd_ix w.nd z3 hp
        omega
  have e2 : EnvS K (upd H0 ρ[m.length] (.lst vs)) (ρ.take m.length) σ (es.map (fzS m.length ds)) := by
    refine ⟨by rw [List.length_map]; exact e.1, fun i s z => ?_⟩
    rw [List.getElem?_map] at z
    cases ei : es[i]? with
    | none => rw [ei] at z; cases z
    | some s0 =>
      rw [ei] at z
      have z : s = fzS m.length ds s0 := (Option.some.inj z).symm
      rcases e.2 i s0 ei with y | ⟨v, y1, y2⟩
      · subst y
        exact .inl z
      · refine .inr ⟨v, y1, ?_⟩
        cases s0 with
        | no => rw [z]; trivial
        | d x => rw [z]; exact dp_mono hx y2
        | v x => rw [z]; exact y2
        | c k =>
          obtain ⟨a, a1, a2⟩ := y2
          by_cases hk : k = m.length
          · have e3 : fzS m.length ds (.c k) = .d (.list ds) := if_pos hk
            rw [z, e3, a1]
            subst hk
            rw [hp] at a2
            cases a2
            exact .lst (.inl (.inl upd_same)) (dpAll_mono hx g2)
          · have e3 : fzS m.length ds (.c k) = .c k := if_neg hk
            rw [z, e3]
            refine ⟨a, a1, ?_⟩
            have hk2 := (List.getElem?_eq_some_iff.mp a2).1
            rw [List.getElem?_take_of_lt (by omega)]
            exact a2
  have st : Stp n ρ H0 H (ρ.take m.length) (upd H0 ρ[m.length] (.lst vs)) H := by
    refine ⟨hx, fun b o h _ _ => h, fun b h => h, fun b o z => ?_, ?_, fun b z => .inl (List.mem_of_mem_take z)⟩
    · by_cases eb : b = ρ[m.length]
      · refine .inr (.inr ?_)
        rw [eb]
        refine List.mem_of_getElem? (i := m.length - n) ?_
        rw [List.getElem?_drop, show n + (m.length - n) = m.length by omega]
        exact hp
      · rw [upd_ne eb] at z
        exact .inl z
    · rw [List.take_take, Nat.min_eq_left hn]
  exact h σ H _ _ (by rw [List.length_take]; omega) w2 e2 D (q.step w2.nd st)
end

/-! ### a def by its body -/
theorem start_env {K : PySem.W.Frag} {H0 : Hp} {ρ : List Addr} {N : List Str} {vs : List V} {rs : List Sl} (h : SlAll K H0 ρ vs rs) : EnvS K H0 ρ (L2.start N vs) (rs ++ List.replicate (N.length - rs.length) .no) := by
  have hl := h.length
  refine ⟨by unfold L2.start; simp [hl], fun i s z => ?_⟩
  by_cases hi : i < rs.length
  · rw [List.getElem?_append_left hi] at z
    have key : ∀ {vs : List V} {rs : List Sl} {i : Nat} {s : Sl}, SlAll K H0 ρ vs rs → rs[i]? = some s → ∃ v, vs[i]? = some v ∧ SlOk K H0 ρ v s := by
      intro vs rs i s h
      induction h generalizing i with
      | nil => intro z; simp at z
      | cons a t ih =>
        intro z
        cases i with
        | zero => cases z; exact ⟨_, rfl, a⟩
        | succ i => exact ih z
    obtain ⟨v, h1, h2⟩ := key h z
    refine .inr ⟨v, ?_, h2⟩
    unfold L2.start
    rw [List.getElem?_append_left (by rw [List.length_map, hl]; exact hi), List.getElem?_map, h1]
    rfl
  · rw [List.getElem?_append_right (by omega)] at z
    rw [List.getElem?_replicate] at z
    split at z
    · cases z; exact .inl rfl
    · cases z
def Sl.plain : Sl → Bool
  | .c _ => false
  | _ => true
theorem slOk_plain {K : PySem.W.Frag} {H0 : Hp} {ρ ρ' : List Addr} {v : V} : ∀ {r : Sl}, r.plain = true → SlOk K H0 ρ v r → SlOk K H0 ρ' v r
  | .no, _, _ => trivial
  | .d _, _, h => h
  | .v _, _, h => h
  | .c _, h, _ => by cases h
/-- THE RULE for a def -/
theorem mkDef {P : Program} {w : World} {K : PySem.W.Frag} {mg : Str → Option Value} {base : Heap} {x : Str} {st : Stmt} {N ps : List Str} {n k : Nat} {g : List Sl → M → Sl → M → Prop} (T : DefT K mg x st ps) (S : FnScope N ps (defScope st)) (hn : ps.length = n)
    (hg : ∀ rs m r m', g rs m r m' → m'.length = m.length ∧ r.plain = true)
    (hb : ∀ (f : Addr) (cdv : Value) (A : Around) (outer : List Env) (s : Shared) (H : Hp) (E : XK), Room k (A.deeper (envOfC x (defScope st) s.heap.objs.size f cdv)) →
      ∃ t, PSs (cxOf CX0 P w K mg base N x (defScope st) f cdv A outer s H E).nox (defBody st) t ∧ ∀ rs m r m', rs.length = n → g rs m r m' → Sv K m.length t (rs ++ List.replicate (N.length - rs.length) .no) m (.ret r m')) :
    DefC P w K mg base CX0 (k + 1) x ps (spD K n g) := by
  obtain ⟨f, fd, F, hm, hB⟩ := T.ex
  refine ⟨f, fd, F.ok S (fun vs H Q E h => by rw [hn]; exact h.1) (fun cdv A outer s H vs Q E hr h => ?_), hm, F.kp, hB⟩
  obtain ⟨t, ht, q⟩ := hb f cdv A outer s H E hr
  refine ⟨t, ht, ?_⟩
  obtain ⟨hl, H0, ρ, m, rs, r, m', w', kv, hgr, hq⟩ := h
  obtain ⟨hgl, hgp⟩ := hg rs m r m' hgr
  refine q rs m r m' (by rw [← kv.length]; exact hl) hgr (L2.start N vs) H H0 ρ (by rw [w'.len]; exact Nat.le_refl _) w' (start_env kv) _ fun v ρ' H' H0' ml s' w2 k2 => ?_
  have e : ρ'.take m.length = ρ := by
    rw [s'.pre, ← w'.len, List.take_length]
  refine hq v H' H0' ⟨s'.ex, s'.keep, s'.dom, fun b o z => ?_, rfl, fun b z => .inl z⟩ ?_ (slOk_plain hgp k2)
  · rcases s'.fresh b o z with y | y | y
    · exact .inl y
    · exact .inr (.inl y)
    · rw [← w'.len] at y
      exact .inr (.inr y)
  · have hlen : ρ.length = m'.length := by rw [w'.len, hgl]
    refine ⟨w2.ex, hlen, w'.nd, fun j p ds a b => ?_, w2.tab, w2.nT⟩
    have hj := (List.getElem?_eq_some_iff.mp b).1
    refine w2.cel j p ds ?_ (by rw [List.getElem?_append_left hj]; exact b)
    rw [← e, List.getElem?_take_of_lt (by omega)] at a
    exact a
end DL

set_option Elab.async false
set_option linter.all false
set_option maxRecDepth 100000
namespace DL
variable [Tbs]
open PySem PySem.Spec PyProof.Rows L2

/-! ### operators of any kind -/
section
variable {X : Cx}
theorem op_mulI : OpR X (binaryOp .Mult) (rI IntMulOk fun i j => .int (i * j)) := opI fun _ _ _ _ _ _ _ hc q => mul_int q hc
def rAddU (K : PySem.W.Frag) : R2 := fun x y H Q => rI0 (fun i j => .int (i + j)) x y H Q ∨ rCatA K x y H Q ∨ rCat x y H Q
theorem op_addU : OpR X (binaryOp .Add) (rAddU X.K) := opOr op_add (opOr op_catA op_cat)
def rMulU (K : PySem.W.Frag) : R2 := fun x y H Q => rI IntMulOk (fun i j => .int (i * j)) x y H Q ∨ rRepT K x y H Q
theorem op_mulU : OpR X (binaryOp .Mult) (rMulU X.K) := opOr op_mulI op_repT
def rInU (K : PySem.W.Frag) : R2 := fun x y H Q => rIn K false x y H Q ∨ rInD K x y H Q
theorem op_inU (hu : X.A.units + 65 < cLine) : OpR X (compareOp .In) (rInU X.K) := opOr op_in_seq (op_inD hu)
theorem hu5_of {k : Nat} {A : Around} (r : Room k A) : A.units + 65 < cLine := by have := r.un; omega
def iSeq (K : PySem.W.Frag) (te : TE) : TI := fun σ H R => iTup K te σ H R ∨ iList K te σ H R
theorem pi_seq {tg l : Expr} {tl : TE} (h : PE X l tl) : PI X tg l (iSeq X.K tl) := piOr (pi_tup h) (pi_list h)
end
section
variable {K : PySem.W.Frag}
theorem o_addI {i j : Int} : Op2 K (rAddU K) (.int i) (.int j) (.int (i + j)) := o_orL o_i0
theorem o_addT {xs ys : List PyData} (hl : xs.length + ys.length ≤ 1000) : Op2 K (rAddU K) (.tuple xs) (.tuple ys) (.tuple (xs ++ ys)) := o_orR (o_orL (o_cat hl))
theorem o_mulII {i j : Int} (h : IntMulOk i j) : Op2 K (rMulU K) (.int i) (.int j) (.int (i * j)) := o_orL (o_i h)
theorem o_mulT {xs : List PyData} {k : Int} (hx : xs ≠ []) (h2 : 2 ≤ k) (h3 : k ≤ 1000) (hl : xs.length ≤ 1000) : Op2 K (rMulU K) (.tuple xs) (.int k) (.tuple (List.replicate k.toNat xs).flatten) := o_orR (o_rep hx h2 h3 hl)
theorem o_inT {x : PyData} {ds : List PyData} (h : flatD x = true) (ha : ds.all flatD = true) : Op2 K (rInU K) x (.tuple ds) (.bool (ds.any fun z => PyData.eqv z x)) := o_orL (o_in h ha)
theorem o_inLL {x : PyData} {ds : List PyData} (h : SeqAt.shaped x = true) (h' : SeqAt.shaped (.list ds) = true) : Op2 K (rInU K) x (.list ds) (.bool (ds.any fun z => PyData.eqv z x)) := o_orR (o_inL h h')
variable {te ta tb tc : TE} {tt tu : TT} {es : List Sl} {m m1 m2 m3 : M}
theorem ei_seqT {ds : List PyData} (h : EvE K te es m (.d (.tuple ds)) m1) : EvI K (iSeq K te) es m ds m1 := ei_orL (ei_tup h)
theorem ei_seqL {ds : List PyData} (h : EvE K te es m (.d (.list ds)) m1) : EvI K (iSeq K te) es m ds m1 := ei_orR (ei_list h)

/-! ### lists made item by item -/
theorem lcMap {i : Nat} {vs : List Nat} {esw : List Sl} {f : PyData → PyData} (hi : i ∈ vs) : ∀ {ds : List PyData}, (∀ d, d ∈ ds → EvE K te (esw.set i (.d d)) m (.d (f d)) m) → LcR K (gName i) tYes te esw vs ds m (ds.map f) m
  | [], _ => .nil
  | d :: ds, h => .yes gv_name (fun j hj => by rw [List.mem_singleton.mp hj]; exact hi) eb_yes (h d List.mem_cons_self) (lcMap hi fun d hd => h d (List.mem_cons_of_mem _ hd))
/-- all([p(x) for x in xs]) -/
theorem ev_all {wi : TI} {i : Nat} {ds : List PyData} {p : PyData → Bool} (hi : EvI K wi es m ds m) (hl : ds.length ≤ 1000) (h : ∀ d, d ∈ ds → EvE K te ((wipeS es [i]).set i (.d d)) m (.d (.bool (p d))) m) :
    EvE K (tCB (rAll K) (tCons (tLc wi (gName i) tYes te [i]) tNil)) es m (.d (.bool (ds.all p))) m := by
  have h1 : LcR K (gName i) tYes te (wipeS es [i]) [i] ds m (ds.map fun d => .bool (p d)) m := lcMap (by simp) h
  have h2 := el_d (el_lc hi h1 hl)
  have e : (ds.map fun d => PyData.bool (p d)) = (ds.map p).map .bool := by rw [List.map_map]; rfl
  rw [e] at h2
  have h3 := ev_cb (ea_cons h2 ea_nil) (c_all (K := K))
  have e2 : (ds.map p).all id = ds.all p := by rw [List.all_map]; rfl
  rw [e2] at h3
  exact h3

/-! ### pure defs -/
def pureG (P : List PyData → PyData → Prop) : List Sl → M → Sl → M → Prop := fun rs m r m' => ∃ ds y, rs = ds.map .d ∧ P ds y ∧ r = .d y ∧ m' = m
theorem pureG_ok {P : List PyData → PyData → Prop} : ∀ rs m r m', pureG P rs m r m' → m'.length = m.length ∧ r.plain = true := by
  rintro rs m r m' ⟨ds, y, _, _, rfl, rfl⟩
  exact ⟨rfl, rfl⟩
theorem ev_pure {n : Nat} {P : List PyData → PyData → Prop} {E : XK} {t : TA} {rs : List Sl} {ds : List PyData} {y : PyData} (h : EvA K t es m rs m1) (e : rs = ds.map .d) (hp : P ds y) (hn : ds.length = n) : EvE K (tCall (spD K n (pureG P)) [] E t) es m (.d y) m1 :=
  ev_call h ⟨ds, y, e, hp, rfl, rfl⟩ (by rw [e, List.length_map]; exact hn)
end
abbrev PureC (P : Program) (w : World) (K : PySem.W.Frag) (mg : Str → Option Value) (base : Heap) (k : Nat) (x : Str) (ps : List Str) (R : List PyData → PyData → Prop) : Prop := DefC P w K mg base CX0 k x ps (spD K ps.length (pureG R))
theorem mkPure {P : Program} {w : World} {K : PySem.W.Frag} {mg : Str → Option Value} {base : Heap} {x : Str} {st : Stmt} {N ps : List Str} {k : Nat} {R : List PyData → PyData → Prop} (T : DefT K mg x st ps) (S : FnScope N ps (defScope st))
    (hb : ∀ (f : Addr) (cdv : Value) (A : Around) (outer : List Env) (s : Shared) (H : Hp) (E : XK), Room k (A.deeper (envOfC x (defScope st) s.heap.objs.size f cdv)) →
      ∃ t, PSs (cxOf CX0 P w K mg base N x (defScope st) f cdv A outer s H E).nox (defBody st) t ∧ ∀ ds m y, ds.length = ps.length → R ds y → Sv K m.length t (ds.map .d ++ List.replicate (N.length - ds.length) .no) m (.ret (.d y) m)) :
    PureC P w K mg base (k + 1) x ps R := by
  refine mkDef T S rfl pureG_ok fun f cdv A outer s H E hr => ?_
  obtain ⟨t, h1, h2⟩ := hb f cdv A outer s H E hr
  refine ⟨t, h1, ?_⟩
  rintro rs m r m' hl ⟨ds, y, rfl, hp, rfl, rfl⟩
  rw [List.length_map] at hl ⊢
  exact h2 ds m' y hl hp
/-- a def that is not called -/
theorem never {P : Program} {w : World} {K : PySem.W.Frag} {mg : Str → Option Value} {base : Heap} {x : Str} {st : Stmt} {N ps : List Str} {n : Nat} (T : DefT K mg x st ps) : DefC P w K mg base CX0 0 x ps (spD K n fun _ _ _ _ => False) := by
  obtain ⟨f, fd, F, hm, hB⟩ := T.ex
  refine ⟨f, fd, ⟨fun vs H Q E h => ?_, fun A outer s H args us vs Q E hr he hb hv h => ?_⟩, hm, F.kp, hB⟩
  · obtain ⟨_, _, _, _, _, _, _, _, _, h, _⟩ := h
    exact h.elim
  · obtain ⟨_, _, _, _, _, _, _, _, _, h, _⟩ := h
    exact h.elim

/-! ### defs that hand back a new list -/
section
variable (K : PySem.W.Frag)
def spL (n : Nat) (g : List Sl → M → List PyData → M → Prop) : Sp := fun vs H Q E => vs.length = n ∧ ∃ H0 ρ m rs ds m', Wd K H0 H ρ m ∧ SlAll K H0 ρ vs rs ∧ g rs m ds m' ∧
  ∀ p xs H' H0', Stp ρ.length ρ H0 H ρ H0' H' → Wd K H0' H' ρ m' → H p = none → H0' p = none → p ∉ ρ → H' p = some (.lst xs) → DpAll K H0' xs ds → Q (.ref p) H'
end
theorem el_call {K : PySem.W.Frag} {es : List Sl} {m m1 m2 : M} {n : Nat} {g : List Sl → M → List PyData → M → Prop} {E : XK} {t : TA} {rs : List Sl} {ds : List PyData} (h : EvA K t es m rs m1) (hg : g rs m1 ds m2) (hn : rs.length = n) : EvL K (tCall (spL K n g) [] E t) es m ds m2 := fun σ H H0 ρ w e Q q =>
  h σ H H0 ρ w e _ fun vs H' H0' s' w' kv => by
    rw [List.append_nil]
    exact ⟨by rw [kv.length]; exact hn, H0', ρ, m1, rs, ds, m2, w', kv, hg, fun p xs H2 H02 s2 w2 h1 h2 h3 h4 h5 => q p xs H2 H02 (s'.trans w'.nd s2) w2 (s'.dom p h1) h2 h3 h4 h5⟩
theorem mkDefL {P : Program} {w : World} {K : PySem.W.Frag} {mg : Str → Option Value} {base : Heap} {x : Str} {st : Stmt} {N ps : List Str} {n k : Nat} {g : List Sl → M → List PyData → M → Prop} (T : DefT K mg x st ps) (S : FnScope N ps (defScope st)) (hn : ps.length = n)
    (hg : ∀ rs m ds m', g rs m ds m' → m'.length = m.length)
    (hb : ∀ (f : Addr) (cdv : Value) (A : Around) (outer : List Env) (s : Shared) (H : Hp) (E : XK), Room k (A.deeper (envOfC x (defScope st) s.heap.objs.size f cdv)) →
      ∃ t, PSs (cxOf CX0 P w K mg base N x (defScope st) f cdv A outer s H E).nox (defBody st) t ∧ ∀ rs m ds m', rs.length = n → g rs m ds m' → Sv K m.length t (rs ++ List.replicate (N.length - rs.length) .no) m (.rtc ds m')) :
    DefC P w K mg base CX0 (k + 1) x ps (spL K n g) := by
  obtain ⟨f, fd, F, hm, hB⟩ := T.ex
  refine ⟨f, fd, F.ok S (fun vs H Q E h => by rw [hn]; exact h.1) (fun cdv A outer s H vs Q E hr h => ?_), hm, F.kp, hB⟩
  obtain ⟨t, ht, q⟩ := hb f cdv A outer s H E hr
  refine ⟨t, ht, ?_⟩
  obtain ⟨hl, H0, ρ, m, rs, ds, m', w', kv, hgr, hq⟩ := h
  have hgl := hg rs m ds m' hgr
  refine q rs m ds m' (by rw [← kv.length]; exact hl) hgr (L2.start N vs) H H0 ρ (by rw [w'.len]; exact Nat.le_refl _) w' (start_env kv) _ fun p ρ' H' H0' s' w2 hp => ?_
  have e : ρ'.take m.length = ρ := by
    rw [s'.pre, ← w'.len, List.take_length]
  have hlen : ρ.length = m'.length := by rw [w'.len, hgl]
  obtain ⟨c1, xs, c2, c3⟩ := w2.cel _ p ds hp (by rw [List.getElem?_append_right (Nat.le_refl _), Nat.sub_self]; rfl)
  have hpρ : p ∉ ρ := fun z => by
    rw [← e] at z
    obtain ⟨j, hj, ej⟩ := List.getElem_of_mem z
    have hj' : (ρ'.take m.length)[j]? = some p := by rw [List.getElem?_eq_getElem hj, ej]
    rw [List.length_take] at hj
    rw [List.getElem?_take_of_lt (by omega)] at hj'
    have := nd_ix w2.nd hj' hp
    omega
  have hpH : H p = none := by
    rcases s'.cel p (List.mem_of_getElem? hp) with z | z
    · exact (hpρ z).elim
    · exact z
  refine hq p xs H' H0' ⟨s'.ex, s'.keep, s'.dom, fun b o z => ?_, rfl, fun b z => .inl z⟩ ⟨w2.ex, hlen, w'.nd, fun j p ds a b => ?_, w2.tab, w2.nT⟩ hpH c1 hpρ c2 c3
  · rcases s'.fresh b o z with y | y | y
    · exact .inl y
    · exact .inr (.inl y)
    · rw [← w'.len] at y
      exact .inr (.inr y)
  · have hj := (List.getElem?_eq_some_iff.mp b).1
    refine w2.cel j p ds ?_ (by rw [List.getElem?_append_left hj]; exact b)
    rw [← e, List.getElem?_take_of_lt (by omega)] at a
    exact a
/-- where a def stands behind the top -/
theorem defT_mk {K : PySem.W.Frag} {h : Heap} {mg : Str → Option Value} {f : Addr} {x : Str} {st : Stmt} {ps : List Str} {oc kV doc pm cdv ct : Value} {od an : Option Addr} {osl : Array (Option Value)} (X : K.In h) (G : h.Ns mainGlobals mg)
    (a : PySem.W.nsIn K mainGlobals x = some (some (.ref f))) (l : K.lookup f = some ⟨oc, od, .func (PySem.W.fnOf x x (defArgs st) (defBody st) (defScope st) .none kV doc pm an cdv ct), osl⟩) (c : PySem.W.codeIn K cdv x = true) (k : PySem.W.keepIn K (.ref f) = true)
    (b : ∀ (kV doc pm : Value) (an : Option Addr) (cdv ct : Value) (us : List Value), us.length = ps.length → bindArgs (PySem.W.fnOf x x (defArgs st) (defBody st) (defScope st) .none kV doc pm an cdv ct) ⟨us, []⟩ = pure (ps.zip us)) : DefT K mg x st ps := by
  have F := fun_mk (st := st) l c k
  exact ⟨f, _, F, PySem.W.mg_of X G a, F.binds b⟩
end DL

set_option Elab.async false
set_option linter.all false
set_option maxRecDepth 100000
namespace DL
variable [Tbs]
open PySem PySem.Spec PyProof.Rows L2
section
variable {K : PySem.W.Frag} {te ta tb tc : TE} {tt tu : TT} {es : List Sl} {m m1 m2 m3 : M}
inductive Lc2R (K : PySem.W.Frag) (g : TG) (tt : TT) (wi1 : TI) (g1 : TG) (tt1 : TT) (te : TE) (esw : List Sl) (vs vs1 : List Nat) : List PyData → M → List PyData → M → Prop
  | nil {m : M} : Lc2R K g tt wi1 g1 tt1 te esw vs vs1 [] m [] m
  | yes {d : PyData} {ds : List PyData} {es2 : List Sl} {m m1 m2 m3 m4 : M} {ds1 rs1 rs : List PyData} {is : List Nat} : Gv K g is (.d d) esw es2 → (∀ i, i ∈ is → i ∈ vs) → EvB K tt es2 m true m1 → EvI K wi1 es2 m1 ds1 m2 →
      LcR K g1 tt1 te (wipeS es2 vs1) vs1 ds1 m2 rs1 m3 → Lc2R K g tt wi1 g1 tt1 te esw vs vs1 ds m3 rs m4 → Lc2R K g tt wi1 g1 tt1 te esw vs vs1 (d :: ds) m (rs1 ++ rs) m4
theorem keepD {ρ : List Addr} {H02 H2 H03 H3 : Hp} {D : Addr} {va : List V} (hDρ : D ∉ ρ) (d0 : H02 D = none) (d2 : H2 D = some (.lst va)) (s3 : Stp ρ.length ρ H02 H2 ρ H03 H3) : H03 D = none ∧ H3 D = some (.lst va) := by
  refine ⟨?_, s3.keep D _ d2 hDρ fun ps z => nomatch z⟩
  cases z : H03 D with
  | none => rfl
  | some u =>
    rcases s3.fresh D u z with y | y | y
    · rw [d0] at y; cases y
    · rw [d2] at y; cases y
    · rw [List.drop_length] at y
      exact absurd y (by simp)
theorem el_lc2 {wi wi1 : TI} {g g1 : TG} {tt1 : TT} {vs vs1 : List Nat} {ds rs : List PyData} (hi : EvI K wi es m ds m1) (h : Lc2R K g tt wi1 g1 tt1 te (wipeS es vs) vs vs1 ds m1 rs m2) (hl : rs.length ≤ 1000) : EvL K (tLc2 wi g tt wi1 g1 tt1 te vs vs1) es m rs m2 := fun σ H H0 ρ w e Q q =>
  hi σ H H0 ρ w e _ fun J H1 H01 s1 w1 it => fun D hD => by
    have hD0 : H D = none := s1.dom D hD
    have hDρ : D ∉ ρ := w1.notin hD
    refine ⟨fun i k H2 => k = ds.length - i ∧ i ≤ ds.length ∧ ∃ acc va rs1 m3 H02, rs = acc ++ rs1 ∧ Lc2R K g tt wi1 g1 tt1 te (wipeS es vs) vs vs1 (ds.drop i) m3 rs1 m2 ∧ Stp ρ.length ρ H0 H ρ H02 H2 ∧ Wd K H02 H2 ρ m3 ∧ EnvS K H02 ρ σ es ∧ ItOk K J H02 ds ∧ H02 D = none ∧ H2 D = some (.lst va) ∧ DpAll K H02 va acc,
      ⟨ds.length, by omega, Nat.zero_le _, [], [], rs, m1, H01, rfl, h, s1.off hD0, w1.off (Evl.fresh_back w1.ex hD) hDρ (.inl hD), e.mono s1.ex, it, Evl.fresh_back w1.ex hD, upd_same, .nil⟩, fun i k H2 hW => ?_⟩
    obtain ⟨rfl, hle, acc, va, rs1, m3, H02, er, fr, s2, w2, e2, it2, d0, d2, da⟩ := hW
    obtain ⟨g1', g2', g3'⟩ := it2 i H2 w2.ex
    by_cases hlt : i < ds.length
    · refine .inr ⟨g1' hlt, ?_⟩
      have hd : ds[i]? = some ds[i] := List.getElem?_eq_getElem hlt
      rw [drop_cons hd] at fr
      have fin : ∀ {x H'}, J.yld i H2 x H' → H' = H2 ∧ Dp K H02 x ds[i] := fun {x H'} y => by
        obtain ⟨e1, d, q1, q2⟩ := g3' x H' hlt y
        rw [hd] at q1
        cases q1
        exact ⟨e1, q2⟩
      cases fr with
      | @yes _ _ es3 _ m4 m5 m6 _ ds1 ra rb is hg hiv hb hi1 hlc hr =>
        refine ⟨fun H' => ∃ va' H04, Stp ρ.length ρ H0 H ρ H04 H' ∧ Wd K H04 H' ρ m6 ∧ EnvS K H04 ρ σ es ∧ ItOk K J H04 ds ∧ H04 D = none ∧ H' D = some (.lst va') ∧ DpAll K H04 va' (acc ++ ra),
          fun H' ⟨va', H04, s4, w4, e4, it4, z0, z1, z2⟩ => ⟨ds.length - (i + 1), by omega, rfl, hlt, acc ++ ra, va', rb, m6, H04, by rw [er, List.append_assoc], hr, s4, w4, e4, it4, z0, z1, z2⟩, fun x H' y => ?_⟩
        obtain ⟨rfl, kx⟩ := fin y
        refine hg _ _ H02 ρ x w2.ex (e2.wipe vs) kx _ fun σ3 e3 hw => ⟨by rw [hw vs hiv, wipe_wipe], ?_⟩
        refine hb σ3 _ H02 ρ w2 e3 _ fun H3 H03 s3 w3 => ?_
        refine iteT (hi1 σ3 H3 H03 ρ w3 (e3.mono s3.ex) _ fun J1 H4 H04 s4 w4 it4 => ?_)
        have s5 := s3.trans w3.nd s4
        obtain ⟨k1, k2⟩ := keepD hDρ d0 d2 s5
        refine ⟨fun j k H5 => k = ds1.length - j ∧ j ≤ ds1.length ∧ ∃ acc1 va1 ra1 m7 H05, ra = acc1 ++ ra1 ∧ LcR K g1 tt1 te (wipeS es3 vs1) vs1 (ds1.drop j) m7 ra1 m6 ∧ Stp ρ.length ρ H0 H ρ H05 H5 ∧ Wd K H05 H5 ρ m7 ∧ EnvS K H05 ρ σ es ∧ EnvS K H05 ρ σ3 es3 ∧ ItOk K J H05 ds ∧ ItOk K J1 H05 ds1 ∧ H05 D = none ∧ H5 D = some (.lst va1) ∧ DpAll K H05 va1 (acc ++ acc1),
          ⟨ds1.length, by omega, Nat.zero_le _, [], va, ra, m5, H04, rfl, hlc, s2.trans w2.nd s5, w4, e2.mono s5.ex, e3.mono s5.ex, it2.mono s5.ex, it4, k1, k2, by rw [List.append_nil]; exact dpAll_mono s5.ex da⟩, fun j k H5 hW => ?_⟩
        obtain ⟨rfl, hle1, acc1, va1, ra1, m7, H05, er1, fr1, s6, w6, e6, e7, it6, it7, y0, y1, y2⟩ := hW
        obtain ⟨g4, g5, g6⟩ := it7 j H5 w6.ex
        by_cases hlt1 : j < ds1.length
        · refine .inr ⟨g4 hlt1, ?_⟩
          have hd1 : ds1[j]? = some ds1[j] := List.getElem?_eq_getElem hlt1
          rw [drop_cons hd1] at fr1
          have fin1 : ∀ {x H'}, J1.yld j H5 x H' → H' = H5 ∧ Dp K H05 x ds1[j] := fun {x H'} y => by
            obtain ⟨e1, d, q1, q2⟩ := g6 x H' hlt1 y
            rw [hd1] at q1
            cases q1
            exact ⟨e1, q2⟩
          have hvl := dpAll_len y2
          cases fr1 with
          | @yes _ _ es8 _ m8 m9 _ r rs2 is1 hg1 hiv1 hb1 he1 hr1 =>
            refine ⟨fun H' => ∃ va' H04, Stp ρ.length ρ H0 H ρ H04 H' ∧ Wd K H04 H' ρ m9 ∧ EnvS K H04 ρ σ es ∧ EnvS K H04 ρ σ3 es3 ∧ ItOk K J H04 ds ∧ ItOk K J1 H04 ds1 ∧ H04 D = none ∧ H' D = some (.lst va') ∧ DpAll K H04 va' (acc ++ (acc1 ++ [r])),
              fun H' ⟨va', H04, z1, z2, z3, z4, z5, z6, z7, z8, z9⟩ => ⟨ds1.length - (j + 1), by omega, rfl, hlt1, acc1 ++ [r], va', rs2, m9, H04, by rw [er1, List.append_assoc]; rfl, hr1, z1, z2, z3, z4, z5, z6, z7, z8, z9⟩, fun x H' y => ?_⟩
            obtain ⟨rfl, kx⟩ := fin1 y
            refine hg1 _ _ H05 ρ x w6.ex (e7.wipe vs1) kx _ fun σ9 e9 hw9 => ⟨by rw [hw9 vs1 hiv1, wipe_wipe], ?_⟩
            refine hb1 σ9 _ H05 ρ w6 e9 _ fun H7 H07 s7 w7 => ?_
            refine iteT (he1 σ9 H7 H07 ρ w7 (e9.mono s7.ex) _ fun yv H8 H08 s8 w8 ky => ?_)
            have s9 := s7.trans w7.nd s8
            obtain ⟨x1, x2⟩ := keepD hDρ y0 y1 s9
            have hlen : va1.length < 1001 := by
              have h1 : rs.length = acc.length + ((acc1.length + (rs2.length + 1)) + rb.length) := by
                rw [er, er1]
                simp only [List.length_append, List.length_cons]
              rw [hvl, List.length_append]
              omega
            refine ⟨va1, x2, small1000 (by omega), va1 ++ [yv], H08, (s6.trans w6.nd s9).off hD0, w8.off x1 hDρ (.inr ⟨_, x2⟩), e6.mono s9.ex, e7.mono s9.ex, it6.mono s9.ex, it7.mono s9.ex, x1, upd_same, ?_⟩
            rw [← List.append_assoc]
            exact dpAll_app (dpAll_mono s9.ex y2) (.cons ky .nil)
          | @not _ _ es8 _ m8 _ _ is1 hg1 hiv1 hb1 hr1 =>
            refine ⟨fun H' => ∃ H04, Stp ρ.length ρ H0 H ρ H04 H' ∧ Wd K H04 H' ρ m8 ∧ EnvS K H04 ρ σ es ∧ EnvS K H04 ρ σ3 es3 ∧ ItOk K J H04 ds ∧ ItOk K J1 H04 ds1 ∧ H04 D = none ∧ H' D = some (.lst va1) ∧ DpAll K H04 va1 (acc ++ acc1),
              fun H' ⟨H04, z1, z2, z3, z4, z5, z6, z7, z8, z9⟩ => ⟨ds1.length - (j + 1), by omega, rfl, hlt1, acc1, va1, ra1, m8, H04, er1, hr1, z1, z2, z3, z4, z5, z6, z7, z8, z9⟩, fun x H' y => ?_⟩
            obtain ⟨rfl, kx⟩ := fin1 y
            refine hg1 _ _ H05 ρ x w6.ex (e7.wipe vs1) kx _ fun σ9 e9 hw9 => ⟨by rw [hw9 vs1 hiv1, wipe_wipe], ?_⟩
            refine hb1 σ9 _ H05 ρ w6 e9 _ fun H7 H07 s7 w7 => ?_
            obtain ⟨x1, x2⟩ := keepD hDρ y0 y1 s7
            exact iteF ⟨H07, s6.trans w6.nd s7, w7, e6.mono s7.ex, e7.mono s7.ex, it6.mono s7.ex, it7.mono s7.ex, x1, x2, dpAll_mono s7.ex y2⟩
        · have ej : j = ds1.length := by omega
          subst ej
          rw [List.drop_length] at fr1
          cases fr1 with
          | nil =>
            rw [List.append_nil] at er1
            subst er1
            exact .inl ⟨g5 (Nat.le_refl _), va1, H05, s6, w6, e6, it6, y0, y1, y2⟩
    · have ei : i = ds.length := by omega
      subst ei
      rw [List.drop_length] at fr
      cases fr with
      | nil =>
        refine .inl ⟨g2' (Nat.le_refl _), ?_⟩
        rw [List.append_nil] at er
        subst er
        exact q D va H2 H02 s2 w2 hD0 d0 hDρ d2 da
variable {r : Sl} {a b : Bool}
theorem ev_andF (h1 : EvE K ta es m (.d (.bool false)) m1) : EvE K (tAndV ta tb) es m (.d (.bool false)) m1 := ev_and (a := false) (b := false) h1 fun h => nomatch h
theorem ev_andT (h1 : EvE K ta es m (.d (.bool true)) m1) (h2 : EvE K tb es m1 (.d (.bool b)) m1) : EvE K (tAndV ta tb) es m (.d (.bool b)) m1 := ev_cast (ev_and (a := true) h1 fun _ => h2) (by rw [Bool.true_and])
theorem ev_orT (h1 : EvE K ta es m (.d (.bool true)) m1) : EvE K (tOrV ta tb) es m (.d (.bool true)) m1 := ev_or (a := true) (b := false) h1 fun h => nomatch h
theorem ev_orF (h1 : EvE K ta es m (.d (.bool false)) m1) (h2 : EvE K tb es m1 (.d (.bool b)) m1) : EvE K (tOrV ta tb) es m (.d (.bool b)) m1 := ev_cast (ev_or (a := false) h1 fun _ => h2) (by rw [Bool.false_or])
theorem eb_andF (h1 : EvB K tt es m false m1) : EvB K (tAnd tt tu) es m false m1 := eb_and (a := false) (b := false) h1 fun h => nomatch h
theorem eb_andT (h1 : EvB K tt es m true m1) (h2 : EvB K tu es m1 b m1) : EvB K (tAnd tt tu) es m b m1 := eb_cast (eb_and (a := true) h1 fun _ => h2) (by rw [Bool.true_and])
theorem eb_orT (h1 : EvB K tt es m true m1) : EvB K (tOr tt tu) es m true m1 := eb_or (a := true) (b := false) h1 fun h => nomatch h
theorem eb_orF (h1 : EvB K tt es m false m1) (h2 : EvB K tu es m1 b m1) : EvB K (tOr tt tu) es m b m1 := eb_cast (eb_or (a := false) h1 fun _ => h2) (by rw [Bool.false_or])
theorem ev_ifT (h1 : EvB K tt es m true m1) (h2 : EvE K ta es m1 r m2) : EvE K (tIf tt ta tb) es m r m2 := ev_if (a := true) h1 (fun _ => h2) fun h => nomatch h
theorem ev_ifF (h1 : EvB K tt es m false m1) (h2 : EvE K tb es m1 r m2) : EvE K (tIf tt ta tb) es m r m2 := ev_if (a := false) h1 (fun h => nomatch h) fun _ => h2
theorem sv_ifT {n : Nat} {t u : TS} {o : Out} (h : EvB K tt es m true m1) (h1 : Sv K n t es m1 o) : Sv K n (tIfS tt t u) es m o := sv_if (a := true) h (fun _ => h1) fun h => nomatch h
theorem sv_ifF {n : Nat} {t u : TS} {o : Out} (h : EvB K tt es m false m1) (h1 : Sv K n u es m1 o) : Sv K n (tIfS tt t u) es m o := sv_if (a := false) h (fun h => nomatch h) fun _ => h1
/-- if t: return ..; what follows -/
theorem sv_ifsT {n : Nat} {t u v : TS} {o : Out} (h : EvB K tt es m true m1) (ho : o.no = true) (h1 : Sv K n t es m1 o) : Sv K n (tSeq (tIfS tt t u) v) es m o := sv_out ho (sv_ifT h h1)
theorem sv_ifsF {n : Nat} {t v : TS} {o : Out} (h : EvB K tt es m false m1) (h1 : Sv K n v es m1 o) : Sv K n (tSeq (tIfS tt t tNext) v) es m o := sv_seq (sv_ifF h sv_next) h1
/-- a < b < c, the first of them false -/
theorem ev_chainF {rr rs : R2} {x y : PyData} (h1 : EvE K ta es m (.d x) m1) (h2 : EvE K tb es m1 (.d y) m2) (hr : Op2 K rr x y (.bool false)) : EvE K (tChain rr rs ta tb tc) es m (.d (.bool false)) m2 :=
  ev_chain (a := false) (b := false) (z := .none) h1 h2 hr (fun h => nomatch h) fun h => nomatch h
theorem eqvI {i j : Int} : PyData.eqv (.int i) (.int j) = (i == j) := by simp only [PyData.eqv]
theorem eqvS {x y : Str} : PyData.eqv (.str x) (.str y) = (x == y) := by simp only [PyData.eqv]
theorem eqvB {x y : Bool} : PyData.eqv (.bool x) (.bool y) = (x == y) := by simp only [PyData.eqv]
def rEqU (K : PySem.W.Frag) : R2 := fun x y H Q => rEq x y H Q ∨ rEqD K x y H Q
def rNeU (K : PySem.W.Frag) : R2 := fun x y H Q => rNe x y H Q ∨ rNeD K x y H Q
theorem op_eqU {X : Cx} (hu : X.A.units + 64 < cLine) : OpR X (compareOp .Eq) (rEqU X.K) := opOr op_eq (op_eqD hu)
theorem op_neU {X : Cx} (hu : X.A.units + 64 < cLine) : OpR X (compareOp .NotEq) (rNeU X.K) := opOr op_ne (op_neD hu)
theorem o_eqD {x y : PyData} (hx : SeqAt.shaped x = true) (hy : SeqAt.shaped y = true) : Op2 K (rEqU K) x y (.bool (PyData.eqv x y)) := o_orR (o_eq hx hy)
theorem o_neD {x y : PyData} (hx : SeqAt.shaped x = true) (hy : SeqAt.shaped y = true) : Op2 K (rNeU K) x y (.bool (!PyData.eqv x y)) := o_orR (o_ne hx hy)
theorem o_eqI {i j : Int} : Op2 K (rEqU K) (.int i) (.int j) (.bool (i == j)) := by
  have h := o_eqD (K := K) (x := .int i) (y := .int j) rfl rfl
  rw [eqvI] at h
  exact h
theorem o_neI {i j : Int} : Op2 K (rNeU K) (.int i) (.int j) (.bool (!(i == j))) := by
  have h := o_neD (K := K) (x := .int i) (y := .int j) rfl rfl
  rw [eqvI] at h
  exact h
theorem o_eqB {i j : Bool} : Op2 K (rEqU K) (.bool i) (.bool j) (.bool (i == j)) := by
  have h := o_eqD (K := K) (x := .bool i) (y := .bool j) rfl rfl
  rw [eqvB] at h
  exact h
theorem o_neB {i j : Bool} : Op2 K (rNeU K) (.bool i) (.bool j) (.bool (!(i == j))) := by
  have h := o_neD (K := K) (x := .bool i) (y := .bool j) rfl rfl
  rw [eqvB] at h
  exact h
theorem decS {i j : Str} : decide (V.str i = V.str j) = decide (i = j) := by
  by_cases h : i = j
  · rw [h, decide_eq_true rfl, decide_eq_true rfl]
  · rw [decide_eq_false h, decide_eq_false fun e => h (V.str.inj e)]
theorem o_eqS {i j : Str} : Op2 K (rEqU K) (.str i) (.str j) (.bool (decide (i = j))) := o_orL fun H0 H ex v w kv kw Q q => by
  cases kv
  cases kw
  refine ⟨rfl, ?_⟩
  rw [decS]
  exact here ex (.bl _) q
theorem o_neS {i j : Str} : Op2 K (rNeU K) (.str i) (.str j) (.bool (!decide (i = j))) := o_orL fun H0 H ex v w kv kw Q q => by
  cases kv
  cases kw
  refine ⟨rfl, ?_⟩
  rw [decS]
  exact here ex (.bl _) q
theorem eb_notT (h : EvB K tt es m true m1) : EvB K (tNot tt) es m false m1 := eb_not h
theorem eb_notF (h : EvB K tt es m false m1) : EvB K (tNot tt) es m true m1 := eb_not h
theorem cut_to {xs : List PyData} {k : Nat} : cutD xs none (some (k : Int)) = xs.take k := by
  unfold cutD
  rw [HT.sIx_none, show HT.sIx xs.length xs.length (some (k : Int)) = min k xs.length from HT.sIx_nat xs.length xs.length k, List.drop_zero, Nat.sub_zero]
  by_cases h : k ≤ xs.length
  · rw [Nat.min_eq_left h]
  · rw [Nat.min_eq_right (by omega), List.take_length, List.take_of_length_le (by omega)]
theorem cut_from {xs : List PyData} {k : Nat} : cutD xs (some (k : Int)) none = xs.drop k := by
  unfold cutD
  rw [HT.sIx_none, show HT.sIx xs.length 0 (some (k : Int)) = min k xs.length from HT.sIx_nat xs.length 0 k]
  by_cases h : k ≤ xs.length
  · rw [Nat.min_eq_left h, List.take_of_length_le (by rw [List.length_drop]; exact Nat.le_refl _)]
  · rw [Nat.min_eq_right (by omega), List.drop_length, List.drop_of_length_le (by omega), List.take_nil]
theorem ev_to {xs : List PyData} {k : Nat} (h : EvE K te es m (.d (.tuple xs)) m1) : EvE K (tSl (rSlA K) te tNoPart (tPart (tC (.int (k : Int))))) es m (.d (.tuple (xs.take k))) m1 := by
  rw [← cut_to]
  exact ev_sl h eo_none (eo_some ev_int)
theorem ev_from {xs : List PyData} {k : Nat} (h : EvE K te es m (.d (.tuple xs)) m1) : EvE K (tSl (rSlA K) te (tPart (tC (.int (k : Int)))) tNoPart) es m (.d (.tuple (xs.drop k))) m1 := by
  rw [← cut_from]
  exact ev_sl h (eo_some ev_int) eo_none
/-- an item of a tuple that is named -/
theorem ev_at {i j : Nat} {xs : List PyData} {d : PyData} {k : Int} (h : es[i]? = some (.d (.tuple xs))) (hk : k = (j : Int)) (hd : xs[j]? = some d) : EvE K (tOp (rIx K) (tVar i) (tC (.int k))) es m (.d d) m := ev_op (ev_var h nofun) ev_int (o_ixT hk hd)
theorem mul_ok {i j : Int} (h1 : -(2 ^ 64) < i) (h2 : i < 2 ^ 64) : IntMulOk i j := .of_left (intBits_le_64 h1 h2)
end
/-- a loop by its invariant: J (turn) (slots) (cells) -/
theorem forI {K : PySem.W.Frag} {n i : Nat} {tb : TS} (J : Nat → List Sl → M → Prop) : ∀ (ds : List PyData) (k : Nat) (es : List Sl) (m : M), J k es m →
    (∀ (l : Nat) (d : PyData) (es : List Sl) (m : M), ds[l]? = some d → J (k + l) es m → ∃ es2 m2, (Sv K n tb (es.set i (.d d)) m (.nx es2 m2) ∨ Sv K n tb (es.set i (.d d)) m (.cnt es2 m2)) ∧ J (k + l + 1) es2 m2) →
    ∃ es' m', ForR K n (gName i) tb ds es m (.nx es' m') ∧ J (k + ds.length) es' m'
  | [], k, es, m, h, _ => ⟨es, m, .nil, h⟩
  | d :: ds, k, es, m, h, st => by
    obtain ⟨es2, m2, hb, h2⟩ := st 0 d es m rfl h
    obtain ⟨es', m', f, h3⟩ := forI (tb := tb) J ds (k + 1) es2 m2 h2 fun l d' es m hd hj => by
      have q := st (l + 1) d' es m hd (by rw [show k + (l + 1) = k + 1 + l by omega]; exact hj)
      rw [show k + (l + 1) + 1 = k + 1 + l + 1 by omega] at q
      exact q
    refine ⟨es', m', ?_, by rw [List.length_cons, show k + (ds.length + 1) = k + 1 + ds.length by omega]; exact h3⟩
    rcases hb with hb | hb
    · exact .nx gv_name hb f
    · exact .cnt gv_name hb f
theorem sv_forI {K : PySem.W.Frag} {es : List Sl} {m m1 : M} {n i : Nat} {wi : TI} {tb rest : TS} {ds : List PyData} {o : Out} (J : Nat → List Sl → M → Prop) (hi : EvI K wi es m ds m1) (h0 : J 0 es m1)
    (st : ∀ (l : Nat) (d : PyData) (es : List Sl) (m : M), ds[l]? = some d → J l es m → ∃ es2 m2, (Sv K n tb (es.set i (.d d)) m (.nx es2 m2) ∨ Sv K n tb (es.set i (.d d)) m (.cnt es2 m2)) ∧ J (l + 1) es2 m2)
    (hd : ∀ es m, J ds.length es m → Sv K n rest es m o) : Sv K n (tSeq (tFor wi (gName i) tb) rest) es m o := by
  obtain ⟨es', m', f, h⟩ := forI (K := K) (n := n) (i := i) (tb := tb) J ds 0 es m1 h0 (by simpa using st)
  rw [Nat.zero_add] at h
  exact sv_seq (sv_for hi f) (hd es' m' h)
/-- .. as the last statement of a block -/
theorem sv_forIe {K : PySem.W.Frag} {es : List Sl} {m m1 : M} {n i : Nat} {wi : TI} {tb : TS} {ds : List PyData} (J : Nat → List Sl → M → Prop) (hi : EvI K wi es m ds m1) (h0 : J 0 es m1)
    (st : ∀ (l : Nat) (d : PyData) (es : List Sl) (m : M), ds[l]? = some d → J l es m → ∃ es2 m2, (Sv K n tb (es.set i (.d d)) m (.nx es2 m2) ∨ Sv K n tb (es.set i (.d d)) m (.cnt es2 m2)) ∧ J (l + 1) es2 m2) :
    ∃ es' m', Sv K n (tFor wi (gName i) tb) es m (.nx es' m') ∧ J ds.length es' m' := by
  obtain ⟨es', m', f, h⟩ := forI (K := K) (n := n) (i := i) (tb := tb) J ds 0 es m1 h0 (by simpa using st)
  rw [Nat.zero_add] at h
  exact ⟨es', m', sv_for hi f, h⟩
theorem el_new {K : PySem.W.Frag} {es : List Sl} {m : M} : EvL K (tLst tNil) es m [] m := fun σ H H0 ρ w' e Q q =>
  ⟨Nat.zero_le _, fun p hp => q p [] _ H0 ⟨Evl.Ex.refl _, fun b o h _ _ => Evl.Ex.new hp b o h, fun b h => Evl.fresh_back (Evl.Ex.new hp) h, fun b o h => .inl h, rfl, fun b h => .inl h⟩ (w'.off (Evl.fresh_back w'.ex hp) (w'.notin hp) (.inl hp)) hp (Evl.fresh_back w'.ex hp) (w'.notin hp) upd_same .nil⟩
theorem last_set {m : M} {a b : List PyData} : (m ++ [a]).set m.length b = m ++ [b] := by
  rw [List.set_append_right _ _ (Nat.le_refl _), Nat.sub_self]
  rfl
theorem last_get {m : M} {a : List PyData} : (m ++ [a])[m.length]? = some a := by
  rw [List.getElem?_append_right (Nat.le_refl _), Nat.sub_self]
  rfl
/-- a def that falls off its end -/
theorem mkPureN {P : Program} {w : World} {K : PySem.W.Frag} {mg : Str → Option Value} {base : Heap} {x : Str} {st : Stmt} {N ps : List Str} {k : Nat} {R : List PyData → PyData → Prop} (T : DefT K mg x st ps) (S : FnScope N ps (defScope st)) (hR : ∀ ds y, R ds y → y = .none)
    (hb : ∀ (f : Addr) (cdv : Value) (A : Around) (outer : List Env) (s : Shared) (H : Hp) (E : XK), Room k (A.deeper (envOfC x (defScope st) s.heap.objs.size f cdv)) →
      ∃ t, PSs (cxOf CX0 P w K mg base N x (defScope st) f cdv A outer s H E).nox (defBody st) t ∧ ∀ ds m y, ds.length = ps.length → R ds y → ∃ es', Sv K m.length t (ds.map .d ++ List.replicate (N.length - ds.length) .no) m (.nx es' m)) :
    PureC P w K mg base (k + 1) x ps R := by
  obtain ⟨f, fd, F, hm, hB⟩ := T.ex
  refine ⟨f, fd, F.ok S (fun vs H Q E h => h.1) (fun cdv A outer s H vs Q E hr h => ?_), hm, F.kp, hB⟩
  obtain ⟨t, ht, q⟩ := hb f cdv A outer s H E hr
  refine ⟨t, ht, ?_⟩
  obtain ⟨hl, H0, ρ, m, rs, r, m', w', kv, ⟨ds, y, rfl, hp, rfl, rfl⟩, hq⟩ := h
  have hy := hR ds y hp
  subst hy
  have hdl : ds.length = ps.length := by rw [← hl, kv.length, List.length_map]
  obtain ⟨es', q⟩ := q ds m' _ hdl hp
  have es := start_env (N := N) kv
  rw [List.length_map] at es
  refine q (L2.start N vs) H H0 ρ (by rw [w'.len]; exact Nat.le_refl _) w' es _ fun σ' ρ' H' H0' s' w2 e2 => ?_
  have e : ρ'.take m'.length = ρ := by
    rw [s'.pre, ← w'.len, List.take_length]
  have hlen := w2.len
  have e3 : ρ' = ρ := by
    rw [← e, ← hlen, List.take_length]
  subst e3
  refine hq .non H' H0' ⟨s'.ex, s'.keep, s'.dom, fun b o z => ?_, rfl, fun b z => .inl z⟩ w2 .non
  rcases s'.fresh b o z with y | y | y
  · exact .inl y
  · exact .inr (.inl y)
  · rw [← w'.len] at y
    exact .inr (.inr y)
end DL

set_option Elab.async false
set_option linter.all false
set_option maxRecDepth 100000
namespace DL
variable [Tbs]
open PySem PySem.Spec PyProof.Rows L2
section
variable {X : Cx} {K : PySem.W.Frag}
theorem kAdd (h : X.K = K := by rfl) : OpR X (binaryOp .Add) (rAddU K) := h ▸ op_addU
theorem kMul (h : X.K = K := by rfl) : OpR X (binaryOp .Mult) (rMulU K) := h ▸ op_mulU
theorem kIn (hu : X.A.units + 65 < cLine) (h : X.K = K := by rfl) : OpR X (compareOp .In) (rInU K) := h ▸ op_inU hu
theorem kEq (hu : X.A.units + 64 < cLine) (h : X.K = K := by rfl) : OpR X (compareOp .Eq) (rEqU K) := h ▸ op_eqU hu
theorem kNe (hu : X.A.units + 64 < cLine) (h : X.K = K := by rfl) : OpR X (compareOp .NotEq) (rNeU K) := h ▸ op_neU hu
theorem kIx (h : X.K = K := by rfl) : IxR X (rIx K) := h ▸ ix_seq
theorem kSl (h : X.K = K := by rfl) : SlR X (rSlA K) := h ▸ sl_tupA
theorem kLen (h : X.K = K := by rfl) : CallR X (.builtin "len") (fun xs H Q => ∃ x n, xs = [x] ∧ LenV K x H n ∧ Q (.int n) H) := h ▸ call_len
theorem kIsi (h : X.K = K := by rfl) : CallR X (.builtin "isinstance") (rIsi K) := h ▸ call_isi
theorem kAll (hc : X.calm = true) (h : X.K = K := by rfl) : CallR X (.builtin "all") (rAll K) := h ▸ cr_all hc
theorem kAny (hc : X.calm = true) (h : X.K = K := by rfl) : CallR X (.builtin "any") (rAny K) := h ▸ cr_any hc
theorem kSum (hc : X.calm = true) (h : X.K = K := by rfl) : CallR X (.builtin "sum") (rSum K) := h ▸ cr_sum hc
theorem kTup (h : X.K = K := by rfl) : CallR X (.type "tuple") (fun xs H Q => ∃ p ys, xs = [.ref p] ∧ ((SqL K H p ys ∧ ∀ l, H l = none → Q (.ref l) (upd H l (.tup ys))) ∨ (SqT K H p ys ∧ Q (.ref p) H))) := h ▸ call_tuple_of
theorem kList (h : X.K = K := by rfl) : CallR X (.type "list") (fun xs H Q => ∃ p ys, xs = [.ref p] ∧ (SqL K H p ys ∨ SqT K H p ys) ∧ ∀ l, H l = none → Q (.ref l) (upd H l (.lst ys))) := h ▸ call_list_of
theorem kSeq {tg l : Expr} {tl : TE} (he : PE X l tl) (h : X.K = K := by rfl) : PI X tg l (iSeq K tl) := h ▸ pi_seq he
theorem kBm {o e : Expr} {es : List Expr} {to : TE} {t : TA} {name : Str} {apos cpos : Pos} {T id : String} {r : V → List V → Hp → VK → Prop} (pa : PlainAttrs T) (slot : Slot T name id) (hty : typeOf (.builtin id) = pure (.type "method_descriptor")) (hm : MtR X id r) (ho : PE X o to) (ha : PA X (e :: es) t)
    (hbase : attributeBase o name X.env (eval o X.env) = eval o X.env := by rfl)
    (hfew : ((backTo cpos (starEach (e :: es) X.env)).all (fun x => !x.1) && (backToKw cpos (keywordEach [] X.env)).all (fun x => x.1.isSome)
      && decide ((e :: es).length + ([] : List Keyword).length + (if ([] : List Keyword).isEmpty then 0 else 1) < 30)) = true := by rfl)
    (hline : (apos.endLine == cpos.line) = true := by rfl) (hs : starEach (e :: es) X.env = (false, eval e X.env) :: starEach es X.env := by rfl) (hplain : (backTo cpos (starEach es X.env)).any (·.1) = false := by rfl) (h : X.K = K := by rfl) :
    PE X (.Call (.Attribute o name apos) (e :: es) [] cpos) (tBM K T r to t) := h ▸ pe_bm pa slot hty hm ho ha hbase hfew hline hs hplain
theorem kTupG {es : List Expr} {k : Nat} {t : TGs} {n : Nat} {pos : Pos} (hc : X.calm = true) (h : PGs X es t)
    (hn : (assignEach es X.env).length = n := by rfl) (hst : (assignEach es X.env).findIdx? (·.1) = none := by rfl) (hK : X.K = K := by rfl) : PG X (.Tuple es k pos) (gTup K n t) := hK ▸ pg_tup hc h hn hst
end
section
variable {K : PySem.W.Frag}
theorem arg1 {es : List Sl} {m m1 : M} {te : TE} {r : Sl} (h : EvE K te es m r m1) : EvA K (tCons te tNil) es m [r] m1 := ea_cons h ea_nil
theorem arg2 {es : List Sl} {m m1 m2 : M} {te tf : TE} {r q : Sl} (h : EvE K te es m r m1) (h2 : EvE K tf es m1 q m2) : EvA K (tCons te (tCons tf tNil)) es m [r, q] m2 := ea_cons h (ea_cons h2 ea_nil)
end
end DL

set_option Elab.async false
set_option linter.all false
set_option maxRecDepth 100000
namespace DL
variable [Tbs]
open PySem PySem.Spec PyProof.Rows L2
/-- all but the tables -/
def nt (H : Hp) : Hp := fun b => match H b with | some (.tbl _) => none | x => x
theorem nt_some {H : Hp} {b : Addr} {o : HO} (h : nt H b = some o) : H b = some o ∧ ∀ ps, o ≠ .tbl ps := by
  unfold nt at h
  cases e : H b with
  | none => rw [e] at h; cases h
  | some u =>
    rw [e] at h
    cases u <;> first | (cases h; exact ⟨rfl, fun ps z => nomatch z⟩) | cases h
theorem nt_none {H : Hp} {b : Addr} (h : H b = none) : nt H b = none := by unfold nt; rw [h]
theorem nt_l {K : PySem.W.Frag} {H : Hp} {a : Addr} {xs : List V} (h : SqL K H a xs) : SqL K (nt H) a xs := by
  rcases h with (h | ⟨o, h⟩) | h
  · exact .inl (.inl (by unfold nt; rw [h]))
  · exact .inl (.inr ⟨o, by unfold nt; rw [h]⟩)
  · exact .inr h
theorem nt_T {T : List (Addr × Str)} {H : Hp} (t : LamX.Tabs T H) : ∀ p ∈ T, nt H p.1 = none := fun p hp => by
  obtain ⟨ps, e, _⟩ := t p hp
  unfold nt
  rw [e]
theorem nt_ex (H : Hp) : Evl.Ex (nt H) H := fun _ _ z => (nt_some z).1
/-! ### the rounds of a law: a new list of new lists, each a die of its own -/
def spRounds (K : PySem.W.Frag) : Sp := fun vs H Q _ => LamX.Tabs Tbs.T H ∧ ∃ (a : Addr) (ns : List Int) (k : Nat), vs = [.ref a, .int k] ∧ SqL K H a (ns.map V.int) ∧ ns.length ≤ 1000 ∧ k ≤ 1000 ∧
  ∀ (D : Addr) (rs : List Addr) (xs : List Int) (H' : Hp), Evl.Ex (nt H) H' → LamX.Tabs Tbs.T H' → H D = none → H' D = some (.lst (rs.map V.ref)) → rs.length = xs.length → rs.Nodup → D ∉ rs → (∀ r, r ∈ rs → H r = none) → (∀ (i : Nat) (r : Addr) (x : Int), rs[i]? = some r → xs[i]? = some x → H' r = some (.lst [.int x, .int 0])) → Q (.ref D) H'
theorem law_loop {K : PySem.W.Frag} {a : Addr} {L : Nat} {es0 : List Sl} {wi : TI} {tb rest : TS} {D : Ends} {σ : L2.St} {H : Hp} (hL : σ.length = es0.length + 2) (hσ : σ[0]? = some (some (.ref a))) (h0 : ∀ s, s ∈ es0 → s = .no)
    (hwi : ∀ R : It → Hp → Prop, (∀ (Dd : Addr) (rs : List Addr) (xs : List Int) (H' : Hp), Evl.Ex (nt H) H' → LamX.Tabs Tbs.T H' → H Dd = none → H' Dd = some (.lst (rs.map V.ref)) → rs.length = xs.length → rs.Nodup → Dd ∉ rs → (∀ r, r ∈ rs → H r = none) →
      (∀ (i : Nat) (r : Addr) (x : Int), rs[i]? = some r → xs[i]? = some x → H' r = some (.lst [.int x, .int 0])) → R (Itl K Dd) H') → wi σ H R)
    (hb : ∀ x : Int, ∃ es' m', Sv K 0 tb (.v (.ref a) :: .c 0 :: es0) [[.int x, .int 0]] (.nx (.v (.ref a) :: es') m') ∧ es'.length = es0.length + 1)
    (hr : ∀ σ' H', rest D σ' H') (tb0 : LamX.Tabs Tbs.T H) : tSeq (tFor wi (gName 1) tb) rest D σ H := by
  refine hwi _ fun Dd rs xs H1 e1 tb1 hD1 hD hlen nd hDr hfr hx => ?_
  refine ⟨fun i k σ2 H2 => k = rs.length - i ∧ i ≤ rs.length ∧ σ2.length = es0.length + 2 ∧ σ2[0]? = some (some (.ref a)) ∧ (Evl.Ex (nt H) H2 ∧ LamX.Tabs Tbs.T H2) ∧ H2 Dd = some (.lst (rs.map V.ref)) ∧ ∀ (j : Nat) (r : Addr) (x : Int), i ≤ j → rs[j]? = some r → xs[j]? = some x → H2 r = some (.lst [.int x, .int 0]),
    ⟨rs.length, by omega, Nat.zero_le _, hL, hσ, ⟨e1, tb1⟩, hD, fun j r x _ h1 h2 => hx j r x h1 h2⟩, fun i k σ2 H2 hW => ?_⟩
  obtain ⟨rfl, hle, l2, s2, ⟨e2, tb2⟩, d2, x2⟩ := hW
  have sl : SqL K H2 Dd (rs.map V.ref) := .inl (.inl d2)
  by_cases hlt : i < rs.length
  · have hri : rs[i]? = some rs[i] := List.getElem?_eq_getElem hlt
    have hxi : xs[i]? = some (xs[i]'(by omega)) := List.getElem?_eq_getElem (by omega)
    have hmi : (rs.map V.ref)[i]? = some (.ref rs[i]) := by rw [List.getElem?_map, hri]; rfl
    refine .inr ⟨⟨_, _, sl, hmi⟩, ?_⟩
    obtain ⟨es', m', hsv, hes⟩ := hb (xs[i]'(by omega))
    refine ⟨fun σ' H' => σ'.length = es0.length + 2 ∧ σ'[0]? = some (some (.ref a)) ∧ (Evl.Ex (nt H) H' ∧ LamX.Tabs Tbs.T H') ∧ H' Dd = some (.lst (rs.map V.ref)) ∧ ∀ (j : Nat) (r : Addr) (x : Int), i + 1 ≤ j → rs[j]? = some r → xs[j]? = some x → H' r = some (.lst [.int x, .int 0]), fun σ' H' ⟨y1, y2, y3, y4, y5⟩ => ⟨rs.length - (i + 1), by omega, rfl, hlt, y1, y2, y3, y4, y5⟩, fun x H' y => ?_⟩
    obtain ⟨rfl, hy⟩ := y
    have ex : x = .ref rs[i] := Option.some.inj ((hy _ sl).symm.trans hmi)
    subst ex
    have hp : H rs[i] = none := hfr _ (List.getElem_mem hlt)
    have hpD : rs[i] ≠ Dd := fun z => hDr (by rw [← z]; exact List.getElem_mem hlt)
    have hp2 := x2 i rs[i] _ (Nat.le_refl _) hri hxi
    have w : Wd K (nt H) H' [rs[i]] [[.int (xs[i]'(by omega)), .int 0]] := ⟨e2, rfl, by simp, fun j p ds z1 z2 => by
      cases j with
      | zero =>
        cases z1
        cases z2
        exact ⟨nt_none hp, _, hp2, .cons (.int _) (.cons (.int _) .nil)⟩
      | succ j => simp at z1, tb2, nt_T tb0⟩
    have en : EnvS K (nt H) [rs[i]] (σ2.set 1 (some (.ref rs[i]))) (.v (.ref a) :: .c 0 :: es0) := by
      refine ⟨by rw [List.length_set, l2]; rfl, fun j s z => ?_⟩
      match j, z with
      | 0, z =>
        cases z
        exact .inr ⟨_, by rw [List.getElem?_set_ne (by omega)]; exact s2, rfl⟩
      | 1, z =>
        cases z
        exact .inr ⟨_, by rw [List.getElem?_set_self (by omega)], _, rfl, rfl⟩
      | j + 2, z => exact .inl (h0 s (List.mem_of_getElem? z))
    refine hsv _ H' (nt H) [rs[i]] (Nat.zero_le _) w en _ fun σ3 ρ3 H3 H03 s3 w3 e3 => ?_
    have keepB : ∀ b o, H' b = some o → b ≠ rs[i] → (∀ ps, o ≠ .tbl ps) → H3 b = some o := fun b o z hb nt => s3.keep b o z (by simp [hb]) nt
    refine ⟨by rw [e3.1, List.length_cons, hes], ?_, ⟨fun b o z => keepB b o (e2 b o z) (ne_of_none (nt_some z).1 hp) (nt_some z).2, w3.tab⟩, keepB Dd _ d2 (Ne.symm hpD) (fun ps z => nomatch z), fun j r x hj z1 z2 => keepB r _ (x2 j r x (by omega) z1 z2) (fun z => ?_) (fun ps z => nomatch z)⟩
    · rcases e3.2 0 _ rfl with z | ⟨v, z1, z2⟩
      · cases z
      · have z2 : v = .ref a := z2
        rw [z2] at z1
        exact z1
    · have := nd_ix nd z1 (by rw [hri, z])
      omega
  · exact .inl ⟨⟨_, sl, by rw [List.length_map]; omega⟩, hr σ2 H2⟩

/-! ### the dice -/
def mix0M (c k : Int) : Int := (c * 6364136223846793005 + (k + 1) * 1442695040888963407) % 340282366920938463463374607431768211507
def mix1M (a : Int) : Int := a * a % 340282366920938463463374607431768211297
def mix2M (b : Int) : Int := (b % 18446744073709551557 + 1) * (b / 18446744073709551557 + 1) * b % 340282366920938463463374607431768211507
def drawnM (c k : Int) : Int := mix2M (mix1M (mix0M c k))
theorem mix0_lt (c k : Int) : 0 ≤ mix0M c k ∧ mix0M c k < 340282366920938463463374607431768211507 := ⟨Int.emod_nonneg _ (by decide), Int.emod_lt_of_pos _ (by decide)⟩
theorem mix1_lt (a : Int) : 0 ≤ mix1M a ∧ mix1M a < 340282366920938463463374607431768211297 := ⟨Int.emod_nonneg _ (by decide), Int.emod_lt_of_pos _ (by decide)⟩
def rollM (x c n : Int) : Int := if x ≥ 10 ^ 18 then x % n else drawnM x (c + 1) / 8 % n
def diceM (x c n : Int) : List PyData := if x ≥ 10 ^ 18 then [.int (x / n), .int c] else [.int x, .int (c + 1)]
theorem roll_lt {x c n : Int} (h : 0 < n) : 0 ≤ rollM x c n ∧ rollM x c n < n := by
  unfold rollM
  split
  · exact ⟨Int.emod_nonneg _ (by omega), Int.emod_lt_of_pos _ h⟩
  · exact ⟨Int.emod_nonneg _ (by omega), Int.emod_lt_of_pos _ h⟩
def cellM (ns : List Int) (k : Int) : Int := if ns = [] then k * 7919 else ns.getD (k % (ns.length : Int)).toNat 0 + k / (ns.length : Int) * 104729
/-- a roll: the die at cell j -/
def rollG : List Sl → M → Sl → M → Prop := fun rs m r m' => ∃ j x c n, rs = [.c j, .d (.int n)] ∧ m[j]? = some [.int x, .int c] ∧ 0 < n ∧ n < 2 ^ 62 ∧ r = .d (.int (rollM x c n)) ∧ m' = m.set j (diceM x c n)
theorem diceM_two {x c n : Int} : ∃ y d, diceM x c n = [.int y, .int d] := by
  unfold diceM
  split
  · exact ⟨_, _, rfl⟩
  · exact ⟨_, _, rfl⟩
theorem shaped_ints (ns : List Int) : SeqAt.shaped (.list (ns.map .int)) = true := by
  have h1 : PyData.canLayAll0 (ns.map .int) = true := by
    induction ns with
    | nil => simp [PyData.canLayAll0]
    | cons n ns ih => simp [PyData.canLayAll0, PyData.canLay0, ih]
  have h2 : PyData.depthAll (ns.map .int) ≤ 1 := by
    clear h1
    induction ns with
    | nil => simp [PyData.depthAll]
    | cons n ns ih =>
      simp only [List.map_cons, PyData.depthAll, PyData.depth]
      omega
  have h3 : PyData.depth (.list (ns.map .int)) ≤ 64 := by
    simp only [PyData.depth]
    omega
  show (PyData.canLay0 (.list (ns.map .int)) && decide (PyData.depth (.list (ns.map .int)) ≤ 64)) = true
  rw [Bool.and_eq_true]
  exact ⟨by simp only [PyData.canLay0]; exact h1, decide_eq_true h3⟩
section
variable {K : PySem.W.Frag}
theorem o_mod {i j : Int} (h : 0 < j) : Op2 K (rI (fun _ j => 0 < j) fun i j => .int (i % j)) (.int i) (.int j) (.int (i % j)) := o_i h
theorem o_div {i j : Int} (h : CDivW i j) : Op2 K (rI CDivW fun i j => .int (i / j)) (.int i) (.int j) (.int (i / j)) := o_i h
theorem o_pow {i j : Int} (h : CPow i j) : Op2 K (rI CPow fun i j => .int (i ^ j.toNat)) (.int i) (.int j) (.int (i ^ j.toNat)) := o_i h
end
theorem dp_ints {K : PySem.W.Frag} {H : Hp} : ∀ ns : List Int, DpAll K H (ns.map V.int) (ns.map .int)
  | [] => .nil
  | n :: ns => .cons (.int n) (dp_ints ns)
theorem runA {K : PySem.W.Frag} {ta : TA} {es rs : List Sl} {σ : L2.St} {H H0 : Hp} {Q : List V → Hp → Prop} (h : EvA K ta es [] rs []) (ex : Evl.Ex H0 H) (tb : LamX.Tabs Tbs.T H) (hn : ∀ p ∈ Tbs.T, H0 p.1 = none) (e : EnvS K H0 [] σ es)
    (q : ∀ vs H' H0', Stp 0 [] H0 H [] H0' H' → Wd K H0' H' [] [] → SlAll K H0' [] vs rs → Q vs H') : ta σ H Q :=
  h σ H H0 [] ⟨ex, rfl, .nil, fun j p ds z => by simp at z, tb, hn⟩ e Q q
end DL

set_option Elab.async false
set_option linter.all false
set_option maxRecDepth 100000
namespace DL
variable [Tbs]
open PySem PySem.Spec PyProof.Rows L2
section
variable {X : Cx} {K : PySem.W.Frag}
/-- x is not True, x an int -/
def rNotIB : R2 := fun x y H Q => ∃ (i : Int) (b : Bool), x = .int i ∧ y = .bl b ∧ Q (.bl true) H
theorem op_notIB : OpR X (compareOp .IsNot) rNotIB := by
  intro pins s σ H x y v u Q I rx ry h
  obtain ⟨i, b, rfl, rfl, q⟩ := h
  obtain ⟨t, rfl⟩ := (show ∃ t, v = Value.int i t from rx)
  cases (show u = Value.bool b from ry)
  exact wpAny_isNot_other rfl (fun z => nomatch z) ⟨.bl true, H, I, rfl, q⟩
def rNotBU : R2 := fun x y H Q => rNotIB x y H Q ∨ rNotB x y H Q
theorem op_notB : OpR X (compareOp .IsNot) rNotBU := opOr op_notIB op_notBl
theorem o_notIB {i : Int} {b : Bool} : Op2 K rNotBU (.int i) (.bool b) (.bool true) := fun H0 H ex v w kv kw Q q => by
  cases kv
  cases kw
  exact .inl ⟨i, b, rfl, rfl, here ex (.bl true) q⟩
theorem o_notBB {a b : Bool} : Op2 K rNotBU (.bool a) (.bool b) (.bool (!decide (a = b))) := fun H0 H ex v w kv kw Q q => by
  cases kv
  cases kw
  exact .inr ⟨a, b, rfl, rfl, here ex (.bl _) q⟩
theorem ev_to' {te tk : TE} {es : List Sl} {m m1 m2 : M} {xs : List PyData} {k : Nat} (h : EvE K te es m (.d (.tuple xs)) m1) (hk : EvE K tk es m1 (.d (.int (k : Int))) m2) : EvE K (tSl (rSlA K) te tNoPart (tPart tk)) es m (.d (.tuple (xs.take k))) m2 := by
  rw [← cut_to]
  exact ev_sl h eo_none (eo_some hk)
theorem ev_from' {te tk : TE} {es : List Sl} {m m1 m2 : M} {xs : List PyData} {k : Nat} (h : EvE K te es m (.d (.tuple xs)) m1) (hk : EvE K tk es m1 (.d (.int (k : Int))) m2) : EvE K (tSl (rSlA K) te (tPart tk) tNoPart) es m (.d (.tuple (xs.drop k))) m2 := by
  rw [← cut_from]
  exact ev_sl h (eo_some hk) eo_none
theorem ex_seq {n : Nat} {t u : TS} {es es1 : List Sl} {m m1 : M} {Q : List Sl → M → Prop} (h : Sv K n t es m (.nx es1 m1)) (h2 : ∃ es2 m2, Sv K n u es1 m1 (.nx es2 m2) ∧ Q es2 m2) : ∃ es2 m2, (Sv K n (tSeq t u) es m (.nx es2 m2) ∨ Sv K n (tSeq t u) es m (.cnt es2 m2)) ∧ Q es2 m2 := by
  obtain ⟨es2, m2, h3, q⟩ := h2
  exact ⟨es2, m2, .inl (sv_seq h h3), q⟩
theorem ex_one {n : Nat} {t : TS} {es : List Sl} {m : M} {Q : List Sl → M → Prop} (h2 : ∃ es2 m2, Sv K n t es m (.nx es2 m2) ∧ Q es2 m2) : ∃ es2 m2, (Sv K n t es m (.nx es2 m2) ∨ Sv K n t es m (.cnt es2 m2)) ∧ Q es2 m2 := by
  obtain ⟨es2, m2, h3, q⟩ := h2
  exact ⟨es2, m2, .inl h3, q⟩
theorem ex_then {n : Nat} {t u : TS} {es es1 : List Sl} {m m1 : M} {Q : List Sl → M → Prop} (h : Sv K n t es m (.nx es1 m1)) (h2 : ∃ es2 m2, Sv K n u es1 m1 (.nx es2 m2) ∧ Q es2 m2) : ∃ es2 m2, Sv K n (tSeq t u) es m (.nx es2 m2) ∧ Q es2 m2 := by
  obtain ⟨es2, m2, h3, q⟩ := h2
  exact ⟨es2, m2, sv_seq h h3, q⟩
theorem ex_for {es : List Sl} {m m1 : M} {n i : Nat} {wi : TI} {tb : TS} {ds : List PyData} {Q : List Sl → M → Prop} (J : Nat → List Sl → M → Prop) (hi : EvI K wi es m ds m1) (h0 : J 0 es m1)
    (st : ∀ (l : Nat) (d : PyData) (es : List Sl) (m : M), ds[l]? = some d → J l es m → ∃ es2 m2, (Sv K n tb (es.set i (.d d)) m (.nx es2 m2) ∨ Sv K n tb (es.set i (.d d)) m (.cnt es2 m2)) ∧ J (l + 1) es2 m2)
    (hQ : ∀ es m, J ds.length es m → Q es m) : ∃ es2 m2, Sv K n (tFor wi (gName i) tb) es m (.nx es2 m2) ∧ Q es2 m2 := by
  obtain ⟨es', m', h, j⟩ := sv_forIe (K := K) (n := n) (i := i) (tb := tb) J hi h0 st
  exact ⟨es', m', h, hQ es' m' j⟩
theorem rangeD_get {lo : Int} {n l : Nat} {d : PyData} (h : (rangeD lo n)[l]? = some d) : l < n ∧ d = .int (lo + (l : Int)) := by
  have hl : l < n := by
    have := (List.getElem?_eq_some_iff.mp h).1
    rw [rangeD_len] at this
    exact this
  refine ⟨hl, ?_⟩
  unfold rangeD at h
  rw [List.getElem?_map, List.getElem?_range hl] at h
  cases h
  rfl
end
end DL

set_option Elab.async false
set_option linter.all false
set_option maxRecDepth 100000
namespace K01
open PySem PySem.Spec PyProof.Rows L2 DL
def topS (i : Nat) : Stmt := PySem.Challenge.pw_samepictures_k01_whole_painted_points.main.body.getD i (.Pass ⟨0, 0, 0, 0⟩)
abbrev N_is_whole : List Str := ["value"]
abbrev st_is_whole : Stmt := topS 20
theorem S_is_whole : FnScope N_is_whole ["value"] (defScope st_is_whole) := ⟨rfl, rfl, rfl, by decide +kernel, rfl, by decide +kernel, by decide +kernel⟩
abbrev N_are_whole : List Str := ["value", "many", "low", "high", "number"]
abbrev st_are_whole : Stmt := topS 21
theorem S_are_whole : FnScope N_are_whole ["value", "many", "low", "high"] (defScope st_are_whole) := ⟨rfl, rfl, rfl, by decide +kernel, rfl, by decide +kernel, by decide +kernel⟩
abbrev N_is_fraction : List Str := ["value"]
abbrev st_is_fraction : Stmt := topS 22
theorem S_is_fraction : FnScope N_is_fraction ["value"] (defScope st_is_fraction) := ⟨rfl, rfl, rfl, by decide +kernel, rfl, by decide +kernel, by decide +kernel⟩
abbrev N_are_fractions : List Str := ["value", "many", "number"]
abbrev st_are_fractions : Stmt := topS 23
theorem S_are_fractions : FnScope N_are_fractions ["value", "many"] (defScope st_are_fractions) := ⟨rfl, rfl, rfl, by decide +kernel, rfl, by decide +kernel, by decide +kernel⟩
abbrev N_is_point : List Str := ["value"]
abbrev st_is_point : Stmt := topS 24
theorem S_is_point : FnScope N_is_point ["value"] (defScope st_is_point) := ⟨rfl, rfl, rfl, by decide +kernel, rfl, by decide +kernel, by decide +kernel⟩
abbrev N_lowest : List Str := ["top", "bottom", "divisor"]
abbrev st_lowest : Stmt := topS 25
theorem S_lowest : FnScope N_lowest ["top", "bottom"] (defScope st_lowest) := ⟨rfl, rfl, rfl, by decide +kernel, rfl, by decide +kernel, by decide +kernel⟩
abbrev N_plus : List Str := ["one", "other"]
abbrev st_plus : Stmt := topS 26
theorem S_plus : FnScope N_plus ["one", "other"] (defScope st_plus) := ⟨rfl, rfl, rfl, by decide +kernel, rfl, by decide +kernel, by decide +kernel⟩
abbrev N_times : List Str := ["one", "other"]
abbrev st_times : Stmt := topS 27
theorem S_times : FnScope N_times ["one", "other"] (defScope st_times) := ⟨rfl, rfl, rfl, by decide +kernel, rfl, by decide +kernel, by decide +kernel⟩
abbrev N_rest_of : List Str := ["fraction"]
abbrev st_rest_of : Stmt := topS 28
theorem S_rest_of : FnScope N_rest_of ["fraction"] (defScope st_rest_of) := ⟨rfl, rfl, rfl, by decide +kernel, rfl, by decide +kernel, by decide +kernel⟩
abbrev N_is_loop : List Str := ["value", "pair"]
abbrev st_is_loop : Stmt := topS 35
theorem S_is_loop : FnScope N_is_loop ["value"] (defScope st_is_loop) := ⟨rfl, rfl, rfl, by decide +kernel, rfl, by decide +kernel, by decide +kernel⟩
abbrev N_is_shape : List Str := ["value", "rule", "loops", "loop"]
abbrev st_is_shape : Stmt := topS 36
theorem S_is_shape : FnScope N_is_shape ["value"] (defScope st_is_shape) := ⟨rfl, rfl, rfl, by decide +kernel, rfl, by decide +kernel, by decide +kernel⟩
abbrev N_is_colour : List Str := ["value"]
abbrev st_is_colour : Stmt := topS 37
theorem S_is_colour : FnScope N_is_colour ["value"] (defScope st_is_colour) := ⟨rfl, rfl, rfl, by decide +kernel, rfl, by decide +kernel, by decide +kernel⟩
abbrev N_is_opacity : List Str := ["value"]
abbrev st_is_opacity : Stmt := topS 38
theorem S_is_opacity : FnScope N_is_opacity ["value"] (defScope st_is_opacity) := ⟨rfl, rfl, rfl, by decide +kernel, rfl, by decide +kernel, by decide +kernel⟩
abbrev N_is_matrix : List Str := ["value", "a", "b", "c", "d"]
abbrev st_is_matrix : Stmt := topS 39
theorem S_is_matrix : FnScope N_is_matrix ["value"] (defScope st_is_matrix) := ⟨rfl, rfl, rfl, by decide +kernel, rfl, by decide +kernel, by decide +kernel⟩
abbrev N_is_fill : List Str := ["value"]
abbrev st_is_fill : Stmt := topS 40
theorem S_is_fill : FnScope N_is_fill ["value"] (defScope st_is_fill) := ⟨rfl, rfl, rfl, by decide +kernel, rfl, by decide +kernel, by decide +kernel⟩
abbrev N_is_rub : List Str := ["value"]
abbrev st_is_rub : Stmt := topS 41
theorem S_is_rub : FnScope N_is_rub ["value"] (defScope st_is_rub) := ⟨rfl, rfl, rfl, by decide +kernel, rfl, by decide +kernel, by decide +kernel⟩
abbrev N_is_group : List Str := ["value", "deepest", "_", "layers", "opacity", "clip", "matrix"]
abbrev st_is_group : Stmt := topS 42
theorem S_is_group : FnScope N_is_group ["value", "deepest"] (defScope st_is_group) := ⟨rfl, rfl, rfl, by decide +kernel, rfl, by decide +kernel, by decide +kernel⟩
abbrev N_is_nested_layer : List Str := ["value", "deepest"]
abbrev st_is_nested_layer : Stmt := topS 43
theorem S_is_nested_layer : FnScope N_is_nested_layer ["value", "deepest"] (defScope st_is_nested_layer) := ⟨rfl, rfl, rfl, by decide +kernel, rfl, by decide +kernel, by decide +kernel⟩
abbrev N_are_layers : List Str := ["value", "deepest", "layer"]
abbrev st_are_layers : Stmt := topS 44
theorem S_are_layers : FnScope N_are_layers ["value", "deepest"] (defScope st_are_layers) := ⟨rfl, rfl, rfl, by decide +kernel, rfl, by decide +kernel, by decide +kernel⟩
abbrev N_list_shapes : List Str := ["layers", "shapes", "layer"]
abbrev st_list_shapes : Stmt := topS 45
theorem S_list_shapes : FnScope N_list_shapes ["layers"] (defScope st_list_shapes) := ⟨rfl, rfl, rfl, by decide +kernel, rfl, by decide +kernel, by decide +kernel⟩
abbrev N_add_points : List Str := ["layers", "shape", "loop"]
abbrev st_add_points : Stmt := topS 46
theorem S_add_points : FnScope N_add_points ["layers"] (defScope st_add_points) := ⟨rfl, rfl, rfl, by decide +kernel, rfl, by decide +kernel, by decide +kernel⟩
abbrev N_is_drawing : List Str := ["value"]
abbrev st_is_drawing : Stmt := topS 47
theorem S_is_drawing : FnScope N_is_drawing ["value"] (defScope st_is_drawing) := ⟨rfl, rfl, rfl, by decide +kernel, rfl, by decide +kernel, by decide +kernel⟩
abbrev N_check_drawing : List Str := ["value"]
abbrev st_check_drawing : Stmt := topS 48
theorem S_check_drawing : FnScope N_check_drawing ["value"] (defScope st_check_drawing) := ⟨rfl, rfl, rfl, by decide +kernel, rfl, by decide +kernel, by decide +kernel⟩
abbrev N_make_spot : List Str := ["x", "y", "scale", "divisor"]
abbrev st_make_spot : Stmt := topS 50
theorem S_make_spot : FnScope N_make_spot ["x", "y", "scale"] (defScope st_make_spot) := ⟨rfl, rfl, rfl, by decide +kernel, rfl, by decide +kernel, by decide +kernel⟩
abbrev N_spot_of : List Str := ["point", "x_top", "x_bottom", "y_top", "y_bottom"]
abbrev st_spot_of : Stmt := topS 51
theorem S_spot_of : FnScope N_spot_of ["point"] (defScope st_spot_of) := ⟨rfl, rfl, rfl, by decide +kernel, rfl, by decide +kernel, by decide +kernel⟩
abbrev N_edges_of : List Str := ["loop", "pairs", "k", "start", "end"]
abbrev st_edges_of : Stmt := topS 53
theorem S_edges_of : FnScope N_edges_of ["loop"] (defScope st_edges_of) := ⟨rfl, rfl, rfl, by decide +kernel, rfl, by decide +kernel, by decide +kernel⟩
abbrev N_side_of : List Str := ["edge", "spot", "start_x", "start_y", "end_x", "end_y", "x", "y", "scale"]
abbrev st_side_of : Stmt := topS 54
theorem S_side_of : FnScope N_side_of ["edge", "spot"] (defScope st_side_of) := ⟨rfl, rfl, rfl, by decide +kernel, rfl, by decide +kernel, by decide +kernel⟩
abbrev N_is_between : List Str := ["one", "other", "number"]
abbrev st_is_between : Stmt := topS 55
theorem S_is_between : FnScope N_is_between ["one", "other", "number"] (defScope st_is_between) := ⟨rfl, rfl, rfl, by decide +kernel, rfl, by decide +kernel, by decide +kernel⟩
abbrev N_is_on_edge : List Str := ["edge", "spot", "start_x", "start_y", "end_x", "end_y", "x", "y", "scale"]
abbrev st_is_on_edge : Stmt := topS 56
theorem S_is_on_edge : FnScope N_is_on_edge ["edge", "spot"] (defScope st_is_on_edge) := ⟨rfl, rfl, rfl, by decide +kernel, rfl, by decide +kernel, by decide +kernel⟩
abbrev N_is_on_shape : List Str := ["shape", "spot", "_", "loops", "loop", "edge"]
abbrev st_is_on_shape : Stmt := topS 57
theorem S_is_on_shape : FnScope N_is_on_shape ["shape", "spot"] (defScope st_is_on_shape) := ⟨rfl, rfl, rfl, by decide +kernel, rfl, by decide +kernel, by decide +kernel⟩
abbrev N_count_turns : List Str := ["loop", "spot", "_", "y", "scale", "turns", "start", "end", "side"]
abbrev st_count_turns : Stmt := topS 58
theorem S_count_turns : FnScope N_count_turns ["loop", "spot"] (defScope st_count_turns) := ⟨rfl, rfl, rfl, by decide +kernel, rfl, by decide +kernel, by decide +kernel⟩
abbrev N_is_inside : List Str := ["shape", "spot", "rule", "loops", "turns", "loop"]
abbrev st_is_inside : Stmt := topS 59
theorem S_is_inside : FnScope N_is_inside ["shape", "spot"] (defScope st_is_inside) := ⟨rfl, rfl, rfl, by decide +kernel, rfl, by decide +kernel, by decide +kernel⟩
abbrev N_lead : List Str := ["matrix", "pair", "a", "b", "c", "d", "e", "f", "x", "y"]
abbrev st_lead : Stmt := topS 62
theorem S_lead : FnScope N_lead ["matrix", "pair"] (defScope st_lead) := ⟨rfl, rfl, rfl, by decide +kernel, rfl, by decide +kernel, by decide +kernel⟩
abbrev N_follow : List Str := ["outer", "inner", "a", "b", "c", "d", "_", "inner_a", "inner_b", "inner_c", "inner_d", "inner_e", "inner_f", "moved"]
abbrev st_follow : Stmt := topS 63
theorem S_follow : FnScope N_follow ["outer", "inner"] (defScope st_follow) := ⟨rfl, rfl, rfl, by decide +kernel, rfl, by decide +kernel, by decide +kernel⟩
abbrev N_place_shape : List Str := ["shape", "matrix", "rule", "loops", "loop", "pair"]
abbrev st_place_shape : Stmt := topS 64
theorem S_place_shape : FnScope N_place_shape ["shape", "matrix"] (defScope st_place_shape) := ⟨rfl, rfl, rfl, by decide +kernel, rfl, by decide +kernel, by decide +kernel⟩
abbrev N_place_group : List Str := ["group", "matrix", "_", "layers", "opacity", "clip", "own", "whole", "placed_clip"]
abbrev st_place_group : Stmt := topS 65
theorem S_place_group : FnScope N_place_group ["group", "matrix"] (defScope st_place_group) := ⟨rfl, rfl, rfl, by decide +kernel, rfl, by decide +kernel, by decide +kernel⟩
abbrev N_place_layer : List Str := ["layer", "matrix", "kind", "shape", "rest"]
abbrev st_place_layer : Stmt := topS 66
theorem S_place_layer : FnScope N_place_layer ["layer", "matrix"] (defScope st_place_layer) := ⟨rfl, rfl, rfl, by decide +kernel, rfl, by decide +kernel, by decide +kernel⟩
abbrev N_place_layers : List Str := ["layers", "matrix", "layer"]
abbrev st_place_layers : Stmt := topS 67
theorem S_place_layers : FnScope N_place_layers ["layers", "matrix"] (defScope st_place_layers) := ⟨rfl, rfl, rfl, by decide +kernel, rfl, by decide +kernel, by decide +kernel⟩
abbrev N_filled : List Str := ["colour", "opacity", "top", "bottom", "parts", "number"]
abbrev st_filled : Stmt := topS 71
theorem S_filled : FnScope N_filled ["colour", "opacity"] (defScope st_filled) := ⟨rfl, rfl, rfl, by decide +kernel, rfl, by decide +kernel, by decide +kernel⟩
abbrev N_weakened : List Str := ["value", "fraction", "part"]
abbrev st_weakened : Stmt := topS 72
theorem S_weakened : FnScope N_weakened ["value", "fraction"] (defScope st_weakened) := ⟨rfl, rfl, rfl, by decide +kernel, rfl, by decide +kernel, by decide +kernel⟩
abbrev N_laying : List Str := ["value"]
abbrev st_laying : Stmt := topS 73
theorem S_laying : FnScope N_laying ["value"] (defScope st_laying) := ⟨rfl, rfl, rfl, by decide +kernel, rfl, by decide +kernel, by decide +kernel⟩
abbrev N_laid : List Str := ["effects", "seen", "value", "rest", "one", "other"]
abbrev st_laid : Stmt := topS 74
theorem S_laid : FnScope N_laid ["effects"] (defScope st_laid) := ⟨rfl, rfl, rfl, by decide +kernel, rfl, by decide +kernel, by decide +kernel⟩
abbrev N_stack_layer : List Str := ["layer", "numbers", "kind", "shape", "rest", "layers", "opacity", "clip", "matrix", "clip_number"]
abbrev st_stack_layer : Stmt := topS 76
theorem S_stack_layer : FnScope N_stack_layer ["layer", "numbers"] (defScope st_stack_layer) := ⟨rfl, rfl, rfl, by decide +kernel, rfl, by decide +kernel, by decide +kernel⟩
abbrev N_stack_up : List Str := ["layers", "numbers", "layer"]
abbrev st_stack_up : Stmt := topS 77
theorem S_stack_up : FnScope N_stack_up ["layers", "numbers"] (defScope st_stack_up) := ⟨rfl, rfl, rfl, by decide +kernel, rfl, by decide +kernel, by decide +kernel⟩
abbrev N_shown_by_group : List Str := ["group", "inside", "_", "layers", "top", "bottom", "clip"]
abbrev st_shown_by_group : Stmt := topS 78
theorem S_shown_by_group : FnScope N_shown_by_group ["group", "inside"] (defScope st_shown_by_group) := ⟨rfl, rfl, rfl, by decide +kernel, rfl, by decide +kernel, by decide +kernel⟩
abbrev N_effect_of : List Str := ["layer", "inside"]
abbrev st_effect_of : Stmt := topS 79
theorem S_effect_of : FnScope N_effect_of ["layer", "inside"] (defScope st_effect_of) := ⟨rfl, rfl, rfl, by decide +kernel, rfl, by decide +kernel, by decide +kernel⟩
abbrev N_shown : List Str := ["stack", "inside", "layer"]
abbrev st_shown : Stmt := topS 80
theorem S_shown : FnScope N_shown ["stack", "inside"] (defScope st_shown) := ⟨rfl, rfl, rfl, by decide +kernel, rfl, by decide +kernel, by decide +kernel⟩
abbrev N_check_point : List Str := ["value"]
abbrev st_check_point : Stmt := topS 82
theorem S_check_point : FnScope N_check_point ["value"] (defScope st_check_point) := ⟨rfl, rfl, rfl, by decide +kernel, rfl, by decide +kernel, by decide +kernel⟩
abbrev N_painted : List Str := ["drawing", "point", "shapes", "stack", "spot", "shape"]
abbrev st_painted : Stmt := topS 83
theorem S_painted : FnScope N_painted ["drawing", "point"] (defScope st_painted) := ⟨rfl, rfl, rfl, by decide +kernel, rfl, by decide +kernel, by decide +kernel⟩
abbrev N__law_cell : List Str := ["_law_script", "_law_k"]
abbrev st__law_cell : Stmt := topS 85
theorem S__law_cell : FnScope N__law_cell ["_law_script", "_law_k"] (defScope st__law_cell) := ⟨rfl, rfl, rfl, by decide +kernel, rfl, by decide +kernel, by decide +kernel⟩
abbrev N__law_drawn : List Str := ["_law_cell_here", "_law_k", "_law_more"]
abbrev st__law_drawn : Stmt := topS 86
theorem S__law_drawn : FnScope N__law_drawn ["_law_cell_here", "_law_k"] (defScope st__law_drawn) := ⟨rfl, rfl, rfl, by decide +kernel, rfl, by decide +kernel, by decide +kernel⟩
abbrev N__law_roll : List Str := ["_law_dice", "_law_many", "_law_told_here"]
abbrev st__law_roll : Stmt := topS 87
theorem S__law_roll : FnScope N__law_roll ["_law_dice", "_law_many"] (defScope st__law_roll) := ⟨rfl, rfl, rfl, by decide +kernel, rfl, by decide +kernel, by decide +kernel⟩
abbrev N__law_rounds : List Str := ["_law_script", "_law_most", "_law_k"]
abbrev st__law_rounds : Stmt := topS 88
theorem S__law_rounds : FnScope N__law_rounds ["_law_script", "_law_most"] (defScope st__law_rounds) := ⟨rfl, rfl, rfl, by decide +kernel, rfl, by decide +kernel, by decide +kernel⟩
abbrev N__law_term : List Str := ["_law_e", "_law_flags", "_law_kinds", "_law_flag"]
abbrev st__law_term : Stmt := topS 89
theorem S__law_term : FnScope N__law_term ["_law_e"] (defScope st__law_term) := ⟨rfl, rfl, rfl, by decide +kernel, rfl, by decide +kernel, by decide +kernel⟩
abbrev N__law_told : List Str := ["_law_deed", "_law_e"]
abbrev st__law_told : Stmt := topS 90
theorem S__law_told : FnScope N__law_told ["_law_deed"] (defScope st__law_told) := ⟨rfl, rfl, rfl, by decide +kernel, rfl, by decide +kernel, by decide +kernel⟩
abbrev N__law_low : List Str := ["_law_top", "_law_bottom", "_law_one", "_law_other"]
abbrev st__law_low : Stmt := topS 91
theorem S__law_low : FnScope N__law_low ["_law_top", "_law_bottom"] (defScope st__law_low) := ⟨rfl, rfl, rfl, by decide +kernel, rfl, by decide +kernel, by decide +kernel⟩
abbrev N__law_plus : List Str := ["_law_one", "_law_other"]
abbrev st__law_plus : Stmt := topS 92
theorem S__law_plus : FnScope N__law_plus ["_law_one", "_law_other"] (defScope st__law_plus) := ⟨rfl, rfl, rfl, by decide +kernel, rfl, by decide +kernel, by decide +kernel⟩
abbrev N__law_minus : List Str := ["_law_one", "_law_other"]
abbrev st__law_minus : Stmt := topS 93
theorem S__law_minus : FnScope N__law_minus ["_law_one", "_law_other"] (defScope st__law_minus) := ⟨rfl, rfl, rfl, by decide +kernel, rfl, by decide +kernel, by decide +kernel⟩
abbrev N__law_times : List Str := ["_law_one", "_law_other"]
abbrev st__law_times : Stmt := topS 94
theorem S__law_times : FnScope N__law_times ["_law_one", "_law_other"] (defScope st__law_times) := ⟨rfl, rfl, rfl, by decide +kernel, rfl, by decide +kernel, by decide +kernel⟩
abbrev N__law_loop : List Str := ["_law_dice", "_law_far", "_law_some", "_law_turn"]
abbrev st__law_loop : Stmt := topS 95
theorem S__law_loop : FnScope N__law_loop ["_law_dice", "_law_far"] (defScope st__law_loop) := ⟨rfl, rfl, rfl, by decide +kernel, rfl, by decide +kernel, by decide +kernel⟩
abbrev N__law_shape : List Str := ["_law_dice", "_law_far", "_law_loops", "_law_turn"]
abbrev st__law_shape : Stmt := topS 96
theorem S__law_shape : FnScope N__law_shape ["_law_dice", "_law_far"] (defScope st__law_shape) := ⟨rfl, rfl, rfl, by decide +kernel, rfl, by decide +kernel, by decide +kernel⟩
abbrev N__law_opacity : List Str := ["_law_dice", "_law_bottom"]
abbrev st__law_opacity : Stmt := topS 97
theorem S__law_opacity : FnScope N__law_opacity ["_law_dice"] (defScope st__law_opacity) := ⟨rfl, rfl, rfl, by decide +kernel, rfl, by decide +kernel, by decide +kernel⟩
abbrev N__law_matrix : List Str := ["_law_dice", "_law_turns"]
abbrev st__law_matrix : Stmt := topS 98
theorem S__law_matrix : FnScope N__law_matrix ["_law_dice"] (defScope st__law_matrix) := ⟨rfl, rfl, rfl, by decide +kernel, rfl, by decide +kernel, by decide +kernel⟩
abbrev N__law_layer : List Str := ["_law_dice", "_law_far", "_law_deep", "_law_pick", "_law_inner", "_law_clip", "_law_colour", "_law_turn"]
abbrev st__law_layer : Stmt := topS 99
theorem S__law_layer : FnScope N__law_layer ["_law_dice", "_law_far", "_law_deep"] (defScope st__law_layer) := ⟨rfl, rfl, rfl, by decide +kernel, rfl, by decide +kernel, by decide +kernel⟩
abbrev N__law_drawing : List Str := ["_law_dice", "_law_many", "_law_far", "_law_found", "_law_turn"]
abbrev st__law_drawing : Stmt := topS 100
theorem S__law_drawing : FnScope N__law_drawing ["_law_dice", "_law_many", "_law_far"] (defScope st__law_drawing) := ⟨rfl, rfl, rfl, by decide +kernel, rfl, by decide +kernel, by decide +kernel⟩
abbrev N__law_size : List Str := ["_law_layers", "_law_count", "_law_layer_here", "_law_shape_here", "_law_loop_here"]
abbrev st__law_size : Stmt := topS 101
theorem S__law_size : FnScope N__law_size ["_law_layers"] (defScope st__law_size) := ⟨rfl, rfl, rfl, by decide +kernel, rfl, by decide +kernel, by decide +kernel⟩
abbrev N__law_led : List Str := ["_law_point_here", "_law_matrix_here", "_law_a", "_law_b", "_law_c", "_law_d", "_law_e", "_law_f"]
abbrev st__law_led : Stmt := topS 102
theorem S__law_led : FnScope N__law_led ["_law_point_here", "_law_matrix_here"] (defScope st__law_led) := ⟨rfl, rfl, rfl, by decide +kernel, rfl, by decide +kernel, by decide +kernel⟩
abbrev N__law_both : List Str := ["_law_outer_one", "_law_inner", "_law_start", "_law_across", "_law_up"]
abbrev st__law_both : Stmt := topS 103
theorem S__law_both : FnScope N__law_both ["_law_outer_one", "_law_inner"] (defScope st__law_both) := ⟨rfl, rfl, rfl, by decide +kernel, rfl, by decide +kernel, by decide +kernel⟩
abbrev N__law_round : List Str := ["_law_loop_here", "_law_point_here", "_law_total", "_law_x", "_law_y", "_law_at", "_law_one", "_law_other", "_law_ax", "_law_ay", "_law_bx", "_law_by", "_law_cross"]
abbrev st__law_round : Stmt := topS 104
theorem S__law_round : FnScope N__law_round ["_law_loop_here", "_law_point_here"] (defScope st__law_round) := ⟨rfl, rfl, rfl, by decide +kernel, rfl, by decide +kernel, by decide +kernel⟩
abbrev N__law_inside : List Str := ["_law_shape_here", "_law_matrix_here", "_law_point_here", "_law_total", "_law_loop_here", "_law_turns_there", "_law_one"]
abbrev st__law_inside : Stmt := topS 105
theorem S__law_inside : FnScope N__law_inside ["_law_shape_here", "_law_matrix_here", "_law_point_here"] (defScope st__law_inside) := ⟨rfl, rfl, rfl, by decide +kernel, rfl, by decide +kernel, by decide +kernel⟩
abbrev N__law_over : List Str := ["_law_below", "_law_above", "_law_left", "_law_at", "_law_one"]
abbrev st__law_over : Stmt := topS 106
theorem S__law_over : FnScope N__law_over ["_law_below", "_law_above"] (defScope st__law_over) := ⟨rfl, rfl, rfl, by decide +kernel, rfl, by decide +kernel, by decide +kernel⟩
abbrev N__law_nothing : List Str := []
abbrev st__law_nothing : Stmt := topS 107
theorem S__law_nothing : FnScope N__law_nothing [] (defScope st__law_nothing) := ⟨rfl, rfl, rfl, by decide +kernel, rfl, by decide +kernel, by decide +kernel⟩
abbrev N__law_paint : List Str := ["_law_layers", "_law_matrix_here", "_law_point_here", "_law_found", "_law_layer_here", "_law_shape_here", "_law_inner", "_law_flag", "_law_some", "_law_part", "_law_value", "_law_one"]
abbrev st__law_paint : Stmt := topS 108
theorem S__law_paint : FnScope N__law_paint ["_law_layers", "_law_matrix_here", "_law_point_here"] (defScope st__law_paint) := ⟨rfl, rfl, rfl, by decide +kernel, rfl, by decide +kernel, by decide +kernel⟩
abbrev N__law_shown : List Str := ["_law_drawing_here", "_law_point_here"]
abbrev st__law_shown : Stmt := topS 109
theorem S__law_shown : FnScope N__law_shown ["_law_drawing_here", "_law_point_here"] (defScope st__law_shown) := ⟨rfl, rfl, rfl, by decide +kernel, rfl, by decide +kernel, by decide +kernel⟩
abbrev N__law_point : List Str := ["_law_dice", "_law_far", "_law_across", "_law_up"]
abbrev st__law_point : Stmt := topS 110
theorem S__law_point : FnScope N__law_point ["_law_dice", "_law_far"] (defScope st__law_point) := ⟨rfl, rfl, rfl, by decide +kernel, rfl, by decide +kernel, by decide +kernel⟩
abbrev N_law : List Str := ["_law_script", "_law_dice", "_law_drawing_here", "_law_turn", "_law_point_here", "_law_due", "_law_made", "_law_cases", "_law_bad", "_law_half"]
abbrev st_law : Stmt := topS 111
theorem S_law : FnScope N_law ["_law_script"] (defScope st_law) := ⟨rfl, rfl, rfl, by decide +kernel, rfl, by decide +kernel, by decide +kernel⟩
end K01

set_option Elab.async false
set_option linter.all false
set_option maxRecDepth 100000
set_option maxHeartbeats 4000000
namespace K01
variable [DL.Tbs]
open PySem PySem.Spec PyProof.Rows L2 DL

/-! ### what the program means, over data -/
def wholeM (v : PyData) : Bool := isInt v && !isBool v
def inR (lo hi : Int) : PyData → Bool
  | .int i => decide (lo ≤ i) && decide (i ≤ hi)
  | _ => false
def areM (v : PyData) (n lo hi : Int) : Bool := match v with
  | .tuple xs => decide ((xs.length : Int) = n) && xs.all (inR lo hi)
  | _ => false
def loopM (v : PyData) : Bool := match v with
  | .tuple xs => (decide ((3 : Int) ≤ (xs.length : Int)) && decide ((xs.length : Int) ≤ 8)) && xs.all fun p => areM p 2 (-9) 9
  | _ => false
def ruleM (r : PyData) : Bool := [PyData.str "odd", .str "turns"].any fun z => PyData.eqv z r
def loopsM (v : PyData) : Bool := match v with
  | .tuple ls => (decide ((1 : Int) ≤ (ls.length : Int)) && decide ((ls.length : Int) ≤ 3)) && ls.all loopM
  | _ => false
def shapeM (v : PyData) : Bool := match v with
  | .tuple [r, l] => ruleM r && loopsM l
  | _ => false
/-- the rule's place holds something flat -/
def okS (v : PyData) : Bool := match v with
  | .tuple [r, _] => flatD r
  | _ => true

def colourM (v : PyData) : Bool := areM v 3 0 9
def topLe (v : PyData) : Bool := match v with
  | .tuple [.int a, .int b] => decide (a ≤ b)
  | _ => false
def opacityM (v : PyData) : Bool := areM v 2 1 6 && topLe v
def detM (v : PyData) : Bool := match v with
  | .tuple (.int a :: .int b :: .int c :: .int d :: _) => !(a * d == b * c)
  | _ => false
def headT (v : PyData) : PyData := match v with
  | .tuple xs => .tuple (xs.take 4)
  | x => x
def tailT (v : PyData) : PyData := match v with
  | .tuple xs => .tuple (xs.drop 4)
  | x => x
def matrixM (v : PyData) : Bool := areM (headT v) 4 (-2) 2 && (detM v && areM (tailT v) 2 (-9) 9)
section
variable {P : Program} {w : World} {K : PySem.W.Frag} {mg : Str → Option Value} {base : Heap}
structure Blt (mg : Str → Option Value) : Prop where
  b_isinstance : mg "isinstance" = none
  b_tuple : mg "tuple" = none
  b_int : mg "int" = none
  b_bool : mg "bool" = none
  b_len : mg "len" = none
  b_all : mg "all" = none
  b_sum : mg "sum" = none

local macro_rules | `(tactic| trivial) => `(tactic| first
  | exact ev_int | exact ev_bl | exact ev_str | exact ev_non | exact ev_ty
  | exact ev_var rfl nofun
  | exact ea_nil
  | apply ea_cons
  | refine ev_and ?_ (fun _ => ?_)
  | refine ev_or ?_ (fun _ => ?_)
  | refine ev_not ?_
  | apply ev_cb
  | apply ev_op
  | apply ev_un
  | refine eb_val ?_ | refine eb_test ?_
  | refine eb_and ?_ (fun _ => ?_)
  | refine eb_or ?_ (fun _ => ?_)
  | refine eb_not ?_
  | exact c_tup | exact c_int | exact c_bool | exact c_str
  | exact c_len rfl
  | exact o_neg | exact o_i0b | exact o_addI | exact o_eqI | exact o_neI | exact o_eqS | exact o_neS)

theorem c_is_whole (T : Blt mg) (TD : DefT K mg "is_whole" st_is_whole ["value"]) : PureC P w K mg base 1 "is_whole" ["value"] (fun ds y => ∃ v, ds = [v] ∧ y = .bool (wholeM v)) := by
  refine mkPure TD S_is_whole fun f cdv A outer s H E hr => ⟨_, (pss_one (ps_ret (pe_and (pe_callB (kIsi (K := K)) (by rfl) T.b_isinstance (by decide +kernel) (pa_cons (pv 0) (pa_cons (pe_bltn (v := .ty "int") (u := .type "int") (by rfl) T.b_int (by decide +kernel) rfl) pa_nil))) (pe_one (pe_not (pe_callB (kIsi (K := K)) (by rfl) T.b_isinstance (by decide +kernel) (pa_cons (pv 0) (pa_cons (pe_bltn (v := .ty "bool") (u := .type "bool") (by rfl) T.b_bool (by decide +kernel) rfl) pa_nil)))))))), ?_⟩
  rintro ds m y hl ⟨v, rfl, rfl⟩
  refine sv_ret0 ?_
  repeat' trivial

theorem c_are_whole (T : Blt mg) (TD : DefT K mg "are_whole" st_are_whole ["value", "many", "low", "high"]) (D_is_whole : PureC P w K mg base 1 "is_whole" ["value"] (fun ds y => ∃ v, ds = [v] ∧ y = .bool (wholeM v))) :
    PureC P w K mg base 2 "are_whole" ["value", "many", "low", "high"] (fun ds y => ∃ v n lo hi, ds = [v, .int n, .int lo, .int hi] ∧ n ≤ 1000 ∧ y = .bool (areM v n lo hi)) := by
  refine mkPure TD S_are_whole fun f cdv A outer s H E hr => ?_
  have hu := hr.units
  refine ⟨_, (pss_one (ps_ret (pe_and (pe_callB (kIsi (K := K)) (by rfl) T.b_isinstance (by decide +kernel) (pa_cons (pv 0) (pa_cons (pe_bltn (v := .ty "tuple") (u := .type "tuple") (by rfl) T.b_tuple (by decide +kernel) rfl) pa_nil))) (pe_and (pe_cmpR (kEq (K := K) hu) (pe_callB (kLen (K := K)) (by rfl) T.b_len (by decide +kernel) (pa_cons (pv 0) pa_nil)) (pv 1) (nomark _)) (pe_one (pe_callB (kAll (K := K) rfl) (by rfl) T.b_all (by decide +kernel) (pa_cons (pe_lc (own := [("number", 4)]) (by rfl) S_are_whole.nd (kSeq (K := K) (pv 0)) (blkOk_by (N := N_are_whole) (sc := defScope st_are_whole) (by decide +kernel)) (fun _ _ _ _ _ => pg_name (i := 4) S_are_whole.nd rfl (by first | exact Or.inl rfl | exact Or.inr rfl)) (fun _ _ _ _ _ => pts_nil) (fun _ _ _ _ _ => (pe_and (pe_def D_is_whole (hr.mono (by omega)) (by rfl) pass0 (pa_cons (pv 4) pa_nil)) (pe_one (pe_chain op_le op_le (pv 2) (pv 4) (pv 3)))))) pa_nil))))))), ?_⟩
  rintro ds m y hl ⟨v, n, lo, hi, rfl, hn, rfl⟩
  refine sv_ret0 ?_
  cases v with
  | tuple xs =>
    refine ev_cast (r := .d (.bool (isTup (.tuple xs) && (((xs.length : Int) == n) && xs.all (inR lo hi))))) (ev_and (by repeat' trivial) fun _ => ev_and (by repeat' trivial) fun hlen => ?_) ?_
    · refine ev_all (ei_seqT (by repeat' trivial)) (by simp at hlen; omega) fun d hd => ?_
      cases d with
      | int i =>
        refine ev_and (a := true) (ev_pure (ea_cons (ev_var rfl nofun) ea_nil) (ds := [.int i]) rfl ⟨_, rfl, rfl⟩ rfl) fun _ => ?_
        exact ev_chain (ev_var rfl nofun) (ev_var rfl nofun) o_i0b (fun _ => ev_var rfl nofun) (fun _ => o_i0b)
      | _ => exact ev_andF (ev_pure (ea_cons (ev_var rfl nofun) ea_nil) (ds := [_]) rfl ⟨_, rfl, rfl⟩ rfl)
    · show Sl.d (.bool (true && _)) = _
      rw [Bool.true_and]
      rfl
  | _ => exact ev_andF (by repeat' trivial)

abbrev R_is_whole : List PyData → PyData → Prop := fun ds y => ∃ v, ds = [v] ∧ y = .bool (wholeM v)
abbrev R_are_whole : List PyData → PyData → Prop := fun ds y => ∃ v n lo hi, ds = [v, .int n, .int lo, .int hi] ∧ n ≤ 1000 ∧ y = .bool (areM v n lo hi)
theorem ev_are {E : XK} {es : List Sl} {m m1 : M} {t : TA} {v : PyData} {n lo hi : Int} (h : EvA K t es m [.d v, .d (.int n), .d (.int lo), .d (.int hi)] m1) (hn : n ≤ 1000) :
    EvE K (tCall (spD K 4 (pureG R_are_whole)) [] E t) es m (.d (.bool (areM v n lo hi))) m1 := ev_pure h (ds := [v, .int n, .int lo, .int hi]) rfl ⟨v, n, lo, hi, rfl, hn, rfl⟩ rfl

abbrev R_is_loop : List PyData → PyData → Prop := fun ds y => ∃ v, ds = [v] ∧ y = .bool (loopM v)
theorem c_is_loop (T : Blt mg) (TD : DefT K mg "is_loop" st_is_loop ["value"]) (D_are_whole : PureC P w K mg base 2 "are_whole" ["value", "many", "low", "high"] R_are_whole) (h_FARTHEST : ∃ t, mg "FARTHEST" = some (.int 9 t)) :
    PureC P w K mg base 3 "is_loop" ["value"] R_is_loop := by
  refine mkPure TD S_is_loop fun f cdv A outer s H E hr => ?_
  have hu := hr.units
  refine ⟨_, (pss_one (ps_ret (pe_and (pe_callB (kIsi (K := K)) (by rfl) T.b_isinstance (by decide +kernel) (pa_cons (pv 0) (pa_cons (pe_bltn (v := .ty "tuple") (u := .type "tuple") (by rfl) T.b_tuple (by decide +kernel) rfl) pa_nil))) (pe_and (pe_chain op_le op_le pe_int (pe_callB (kLen (K := K)) (by rfl) T.b_len (by decide +kernel) (pa_cons (pv 0) pa_nil)) pe_int) (pe_one (pe_callB (kAll (K := K) rfl) (by rfl) T.b_all (by decide +kernel) (pa_cons (pe_lc (own := [("pair", 1)]) (by rfl) S_is_loop.nd (kSeq (K := K) (pv 0)) (blkOk_by (N := N_is_loop) (sc := defScope st_is_loop) (by decide +kernel)) (fun _ _ _ _ _ => pg_name (i := 1) S_is_loop.nd rfl (by first | exact Or.inl rfl | exact Or.inr rfl)) (fun _ _ _ _ _ => pts_nil) (fun _ _ _ _ _ => (pe_def D_are_whole (hr.mono (by omega)) (by rfl) pass0 (pa_cons (pv 1) (pa_cons pe_int (pa_cons (pe_un un_neg (pe_glob (v := .int 9) (by rfl) h_FARTHEST.choose_spec ⟨_, rfl⟩)) (pa_cons (pe_glob (v := .int 9) (by rfl) h_FARTHEST.choose_spec ⟨_, rfl⟩) pa_nil))))))) pa_nil))))))), ?_⟩
  rintro ds m y hl ⟨v, rfl, rfl⟩
  refine sv_ret0 ?_
  cases v with
  | tuple xs =>
    refine ev_andT (by repeat' trivial) (ev_and (ev_chain (by repeat' trivial) (by repeat' trivial) o_i0b (fun _ => by repeat' trivial) (fun _ => o_i0b)) fun hlen => ?_)
    refine ev_all (ei_seqT (by repeat' trivial)) (by simp at hlen; omega) fun d hd => ?_
    exact ev_are (by repeat' trivial) (by decide)
  | _ => exact ev_andF (by repeat' trivial)

abbrev R_is_shape : List PyData → PyData → Prop := fun ds y => ∃ v, ds = [v] ∧ okS v = true ∧ y = .bool (shapeM v)
theorem c_is_shape (T : Blt mg) (TD : DefT K mg "is_shape" st_is_shape ["value"]) (D_is_loop : PureC P w K mg base 3 "is_loop" ["value"] R_is_loop)
    (h_RULES : ∃ a, mg "RULES" = some (.ref a) ∧ ∀ H, Dp K H (.ref a) (.tuple [.str "odd", .str "turns"])) :
    PureC P w K mg base 4 "is_shape" ["value"] R_is_shape := by
  refine mkPure TD S_is_shape fun f cdv A outer s H E hr => ?_
  have hu := hr.units
  have hu5 := hu5_of hr
  refine ⟨_, (pss_cons (ps_if (PW.pt (pw_or (pt_not (pt_val (pe_callB (kIsi (K := K)) (by rfl) T.b_isinstance (by decide +kernel) (pa_cons (pv 0) (pa_cons (pe_bltn (v := .ty "tuple") (u := .type "tuple") (by rfl) T.b_tuple (by decide +kernel) rfl) pa_nil))))) (pw_or1 (pt_cmpR (kNe (K := K) hu) (pe_callB (kLen (K := K)) (by rfl) T.b_len (by decide +kernel) (pa_cons (pv 0) pa_nil)) pe_int (nomark _))))) (pss_one (ps_ret pe_bl)) pss_nil)
      (pss_cons (ps_asg (pv 0) (kTupG (K := K) rfl (pgs_cons (pg_name (i := 1) S_is_shape.nd rfl (Or.inl rfl)) (pgs_cons (pg_name (i := 2) S_is_shape.nd rfl (Or.inl rfl)) pgs_nil))))
      (pss_one (ps_ret (pe_and (pe_cmpR (kIn (K := K) hu5) (pv 1) (pe_glob (v := .ref h_RULES.choose) (by rfl) h_RULES.choose_spec.1 rfl) (by rfl)) (pe_and (pe_callB (kIsi (K := K)) (by rfl) T.b_isinstance (by decide +kernel) (pa_cons (pv 2) (pa_cons (pe_bltn (v := .ty "tuple") (u := .type "tuple") (by rfl) T.b_tuple (by decide +kernel) rfl) pa_nil))) (pe_and (pe_chain op_le op_le pe_int (pe_callB (kLen (K := K)) (by rfl) T.b_len (by decide +kernel) (pa_cons (pv 2) pa_nil)) pe_int) (pe_one (pe_callB (kAll (K := K) rfl) (by rfl) T.b_all (by decide +kernel) (pa_cons (pe_lc (own := [("loop", 3)]) (by rfl) S_is_shape.nd (kSeq (K := K) (pv 2)) (blkOk_by (N := N_is_shape) (sc := defScope st_is_shape) (by decide +kernel)) (fun _ _ _ _ _ => pg_name (i := 3) S_is_shape.nd rfl (by first | exact Or.inl rfl | exact Or.inr rfl)) (fun _ _ _ _ _ => pts_nil) (fun _ _ _ _ _ => (pe_def D_is_loop (hr.mono (by omega)) (by rfl) pass0 (pa_cons (pv 3) pa_nil)))) pa_nil)))))))))), ?_⟩
  rintro ds m y hl ⟨v, rfl, hok, rfl⟩
  cases v with
  | tuple xs =>
    by_cases h2 : xs.length = 2
    · obtain ⟨r, l, rfl⟩ : ∃ r l, xs = [r, l] := by
        match xs, h2 with
        | [r, l], _ => exact ⟨r, l, rfl⟩
      refine sv_ifsF (m1 := m) (eb_orF (eb_notT (by repeat' trivial)) (by repeat' trivial)) ?_
      refine sv_seq (sv_asg (ev_var rfl nofun) (gv_tup (gvs_cons gv_name (gvs_cons gv_name gvs_nil)) rfl)) ?_
      refine sv_ret0 ?_
      refine ev_and (a := ruleM r) (ev_op (ev_var rfl nofun) (ev_c fun H0 ρ => h_RULES.choose_spec.2 H0) (o_inT hok rfl)) fun _ => ?_
      cases l with
      | tuple ls =>
        refine ev_andT (by repeat' trivial) (ev_and (ev_chain (by repeat' trivial) (by repeat' trivial) o_i0b (fun _ => by repeat' trivial) (fun _ => o_i0b)) fun hlen => ?_)
        refine ev_all (ei_seqT (by repeat' trivial)) (by simp at hlen; omega) fun d hd => ?_
        exact ev_pure (by repeat' trivial) (ds := [d]) rfl ⟨d, rfl, rfl⟩ rfl
      | _ => exact ev_andF (by repeat' trivial)
    · have e : shapeM (.tuple xs) = false := by
        unfold shapeM
        split
        · rename_i q
          cases q
          exact absurd rfl h2
        · rfl
      rw [e]
      refine sv_ifsT (m1 := m) (eb_orF (eb_notT (by repeat' trivial)) (eb_cast (b := !((xs.length : Int) == 2)) (by repeat' trivial) ?_)) rfl (sv_ret0 ev_bl)
      rw [Bool.not_eq_true']
      exact beq_eq_false_iff_ne.mpr (by omega)
  | _ => exact sv_ifsT (m1 := m) (eb_orT (eb_notF (by repeat' trivial))) rfl (sv_ret0 ev_bl)

abbrev R_is_colour : List PyData → PyData → Prop := fun ds y => ∃ v, ds = [v] ∧ y = .bool (colourM v)
theorem c_is_colour (T : Blt mg) (TD : DefT K mg "is_colour" st_is_colour ["value"]) (D_are_whole : PureC P w K mg base 2 "are_whole" ["value", "many", "low", "high"] R_are_whole) :
    PureC P w K mg base 3 "is_colour" ["value"] R_is_colour := by
  refine mkPure TD S_is_colour fun f cdv A outer s H E hr => ?_
  refine ⟨_, (pss_one (ps_ret (pe_def D_are_whole (hr.mono (by omega)) (by rfl) pass0 (pa_cons (pv 0) (pa_cons pe_int (pa_cons pe_int (pa_cons pe_int pa_nil))))))), ?_⟩
  rintro ds m y hl ⟨v, rfl, rfl⟩
  exact sv_ret0 (ev_are (by repeat' trivial) (by decide))

theorem inR_int {lo hi : Int} {x : PyData} (h : inR lo hi x = true) : ∃ i, x = .int i ∧ lo ≤ i ∧ i ≤ hi := by
  cases x with
  | int i =>
    have h : (decide (lo ≤ i) && decide (i ≤ hi)) = true := h
    rw [Bool.and_eq_true] at h
    exact ⟨i, rfl, of_decide_eq_true h.1, of_decide_eq_true h.2⟩
  | _ => cases h
theorem are_get {v : PyData} {n lo hi : Int} (h : areM v n lo hi = true) : ∃ xs, v = .tuple xs ∧ (xs.length : Int) = n ∧ ∀ x, x ∈ xs → ∃ i, x = .int i ∧ lo ≤ i ∧ i ≤ hi := by
  cases v with
  | tuple xs =>
    have h : (decide ((xs.length : Int) = n) && xs.all (inR lo hi)) = true := h
    rw [Bool.and_eq_true, List.all_eq_true] at h
    exact ⟨xs, rfl, of_decide_eq_true h.1, fun x hx => inR_int (h.2 x hx)⟩
  | _ => cases h
theorem are_two {v : PyData} {lo hi : Int} (h : areM v 2 lo hi = true) : ∃ a b, v = .tuple [.int a, .int b] ∧ (lo ≤ a ∧ a ≤ hi) ∧ (lo ≤ b ∧ b ≤ hi) := by
  obtain ⟨xs, rfl, hl, hx⟩ := are_get h
  match xs, hl, hx with
  | [x, y], _, hx =>
    obtain ⟨a, rfl, ha⟩ := hx x (by simp)
    obtain ⟨b, rfl, hb⟩ := hx y (by simp)
    exact ⟨a, b, rfl, ha, hb⟩
  | [], hl, _ => simp at hl
  | [_], hl, _ => simp at hl
  | _ :: _ :: _ :: _, hl, _ => simp at hl; omega
end
end K01

set_option Elab.async false
set_option linter.all false
set_option maxRecDepth 100000
set_option maxHeartbeats 4000000
namespace K01
variable [DL.Tbs]
open PySem PySem.Spec PyProof.Rows L2 DL
def fillM (xs : List PyData) : Bool := match xs with
  | [_, s, c, o] => shapeM s && (colourM c && opacityM o)
  | _ => false
def rubM (xs : List PyData) : Bool := match xs with
  | [_, s, o] => shapeM s && opacityM o
  | _ => false
def layersOf (f : PyData → Bool) (v : PyData) : Bool := match v with
  | .tuple ls => decide ((ls.length : Int) ≤ 4) && ls.all f
  | _ => false
def groupOf (f : PyData → Bool) (xs : List PyData) : Bool := match xs with
  | [_, l, o, c, mt] => layersOf f l && (opacityM o && ((isNone c || shapeM c) && matrixM mt))
  | _ => false
def kindIs (k : PyData) (s : Str) : Bool := match k with
  | .str x => decide (x = s)
  | _ => false
def nestedM : Nat → PyData → Bool
  | n, .tuple (.str k :: xs) => if k = "fill" then fillM (.str k :: xs) else if k = "rub" then rubM (.str k :: xs) else decide (k = "group") && (match n with
    | 0 => false
    | n + 1 => groupOf (nestedM n) (.str k :: xs))
  | _, _ => false
def okAt (xs : List PyData) (i : Nat) : Bool := match xs[i]? with
  | some d => okS d
  | none => true
def okHead (f : PyData → Bool) (xs : List PyData) : Bool := match xs with
  | .tuple ls :: _ => ls.all f
  | _ => true
/-- what stands where a shape is wanted has a flat rule; a layer's first word is a text -/
def okL : Nat → PyData → Bool
  | n, .tuple (.str k :: xs) => (decide (k = "group") || okAt xs 0) && okAt xs 2 && (match n with
    | 0 => true
    | n + 1 => if k = "group" then okHead (okL n) xs else true)
  | _, .tuple (_ :: _) => false
  | _, _ => true
theorem okL_get {n : Nat} {k : Str} {xs : List PyData} (h : okL n (.tuple (.str k :: xs)) = true) : (k ≠ "group" → okAt xs 0 = true) ∧ okAt xs 2 = true ∧ ∀ j, n = j + 1 → k = "group" → okHead (okL j) xs = true := by
  cases n with
  | zero =>
    unfold okL at h
    rw [Bool.and_eq_true, Bool.and_eq_true] at h
    exact ⟨fun hk => by
      have z := h.1.1
      rw [decide_eq_false hk] at z
      exact z, h.1.2, fun j e => by cases e⟩
  | succ n =>
    unfold okL at h
    rw [Bool.and_eq_true, Bool.and_eq_true] at h
    refine ⟨fun hk => by
      have z := h.1.1
      rw [decide_eq_false hk] at z
      exact z, h.1.2, fun j e hk => ?_⟩
    cases e
    have h2 : (if k = "group" then okHead (okL n) xs else true) = true := h.2
    rw [if_pos hk] at h2
    exact h2
section
variable {P : Program} {w : World} {K : PySem.W.Frag} {mg : Str → Option Value} {base : Heap}
local macro_rules | `(tactic| trivial) => `(tactic| first
  | exact ev_int | exact ev_bl | exact ev_str | exact ev_non | exact ev_ty
  | exact ev_var rfl nofun
  | exact ea_nil
  | apply ea_cons
  | refine ev_and ?_ (fun _ => ?_)
  | refine ev_or ?_ (fun _ => ?_)
  | refine ev_not ?_
  | apply ev_cb
  | apply ev_op
  | apply ev_un
  | refine eb_val ?_ | refine eb_test ?_
  | refine eb_and ?_ (fun _ => ?_)
  | refine eb_or ?_ (fun _ => ?_)
  | refine eb_not ?_
  | exact c_tup | exact c_int | exact c_bool | exact c_str
  | exact c_len rfl
  | exact o_neg | exact o_i0b | exact o_addI | exact o_eqI | exact o_neI | exact o_eqS | exact o_neS)

abbrev R_is_opacity : List PyData → PyData → Prop := fun ds y => ∃ v, ds = [v] ∧ y = .bool (opacityM v)
theorem c_is_opacity (T : Blt mg) (TD : DefT K mg "is_opacity" st_is_opacity ["value"]) (D_are_whole : PureC P w K mg base 2 "are_whole" ["value", "many", "low", "high"] R_are_whole) :
    PureC P w K mg base 3 "is_opacity" ["value"] R_is_opacity := by
  refine mkPure TD S_is_opacity fun f cdv A outer s H E hr => ?_
  refine ⟨_, (pss_one (ps_ret (pe_and (pe_def D_are_whole (hr.mono (by omega)) (by rfl) pass0 (pa_cons (pv 0) (pa_cons pe_int (pa_cons pe_int (pa_cons pe_int pa_nil))))) (pe_one (pe_cmpR op_le (pe_ix (kIx (K := K)) (pv 0) pe_int (fun _ _ => rfl)) (pe_ix (kIx (K := K)) (pv 0) pe_int (fun _ _ => rfl)) (nomark _)))))), ?_⟩
  rintro ds m y hl ⟨v, rfl, rfl⟩
  refine sv_ret0 (ev_and (ev_are (by repeat' trivial) (by decide)) fun h => ?_)
  obtain ⟨a, b, rfl, _, _⟩ := are_two h
  exact ev_op (ev_at (j := 0) rfl rfl rfl) (ev_at (j := 1) rfl rfl rfl) o_i0b

abbrev R_is_matrix : List PyData → PyData → Prop := fun ds y => ∃ v, ds = [v] ∧ y = .bool (matrixM v)
theorem c_is_matrix (T : Blt mg) (TD : DefT K mg "is_matrix" st_is_matrix ["value"]) (D_are_whole : PureC P w K mg base 2 "are_whole" ["value", "many", "low", "high"] R_are_whole) (h_FARTHEST : ∃ t, mg "FARTHEST" = some (.int 9 t)) :
    PureC P w K mg base 3 "is_matrix" ["value"] R_is_matrix := by
  refine mkPure TD S_is_matrix fun f cdv A outer s H E hr => ?_
  have hu := hr.units
  refine ⟨_, (pss_cons (ps_if (PW.pt (pw_or (pt_not (pt_val (pe_callB (kIsi (K := K)) (by rfl) T.b_isinstance (by decide +kernel) (pa_cons (pv 0) (pa_cons (pe_bltn (v := .ty "tuple") (u := .type "tuple") (by rfl) T.b_tuple (by decide +kernel) rfl) pa_nil))))) (pw_or1 (pt_not (pt_val (pe_def D_are_whole (hr.mono (by omega)) (by rfl) pass0 (pa_cons (pe_slice (kSl (K := K)) (pv 0) po_none (po_some pe_int)) (pa_cons pe_int (pa_cons (pe_un un_neg pe_int) (pa_cons pe_int pa_nil)))))))))) (pss_one (ps_ret pe_bl)) pss_nil)
      (pss_cons (ps_asg (pe_slice (kSl (K := K)) (pv 0) po_none (po_some pe_int)) (kTupG (K := K) rfl (pgs_cons (pg_name (i := 1) S_is_matrix.nd rfl (Or.inl rfl)) (pgs_cons (pg_name (i := 2) S_is_matrix.nd rfl (Or.inl rfl)) (pgs_cons (pg_name (i := 3) S_is_matrix.nd rfl (Or.inl rfl)) (pgs_cons (pg_name (i := 4) S_is_matrix.nd rfl (Or.inl rfl)) pgs_nil))))))
      (pss_one (ps_ret (pe_and (pe_cmpR (kNe (K := K) hu) (pe_op (kMul (K := K)) (pv 1) (pv 4)) (pe_op (kMul (K := K)) (pv 2) (pv 3)) (nomark _)) (pe_one (pe_def D_are_whole (hr.mono (by omega)) (by rfl) pass0 (pa_cons (pe_slice (kSl (K := K)) (pv 0) (po_some pe_int) po_none) (pa_cons pe_int (pa_cons (pe_un un_neg (pe_glob (v := .int 9) (by rfl) h_FARTHEST.choose_spec ⟨_, rfl⟩)) (pa_cons (pe_glob (v := .int 9) (by rfl) h_FARTHEST.choose_spec ⟨_, rfl⟩) pa_nil))))))))))), ?_⟩
  rintro ds m y hl ⟨v, rfl, rfl⟩
  cases v with
  | tuple xs =>
    have hsl : ∀ es : List Sl, es[0]? = some (.d (.tuple xs)) → EvE K (tSl (rSlA K) (tVar 0) tNoPart (tPart (tC (.int 4)))) es m (.d (headT (.tuple xs))) m := fun es he => ev_to (k := 4) (ev_var he nofun)
    have hsl2 : ∀ es : List Sl, es[0]? = some (.d (.tuple xs)) → EvE K (tSl (rSlA K) (tVar 0) (tPart (tC (.int 4))) tNoPart) es m (.d (tailT (.tuple xs))) m := fun es he => ev_from (k := 4) (ev_var he nofun)
    cases hh : areM (headT (.tuple xs)) 4 (-2) 2 with
    | false =>
      have e : matrixM (.tuple xs) = false := by
        unfold matrixM
        rw [hh]
        rfl
      rw [e]
      exact sv_ifsT (m1 := m) (eb_orF (eb_notT (by repeat' trivial)) (eb_notF (eb_cast (eb_val (ev_are (ea_cons (hsl _ rfl) (ea_cons ev_int (ea_cons (ev_un ev_int o_neg) (ea_cons ev_int ea_nil)))) (by decide))) hh))) rfl (sv_ret0 ev_bl)
    | true =>
      obtain ⟨ys, e1, e2, e3⟩ := are_get hh
      obtain ⟨a, b, c, d, rest, rfl, ha, hb, hc, hd⟩ : ∃ a b c d rest, xs = .int a :: .int b :: .int c :: .int d :: rest ∧ (-2 ≤ a ∧ a ≤ 2) ∧ (-2 ≤ b ∧ b ≤ 2) ∧ (-2 ≤ c ∧ c ≤ 2) ∧ (-2 ≤ d ∧ d ≤ 2) := by
        have e1 : xs.take 4 = ys := PyData.tuple.inj e1
        match xs, e1, e2, e3 with
        | x :: y :: z :: u :: rest, e1, e2, e3 =>
          have e1 : [x, y, z, u] = ys := e1
          subst e1
          obtain ⟨a, rfl, ha⟩ := e3 x (by simp)
          obtain ⟨b, rfl, hb⟩ := e3 y (by simp)
          obtain ⟨c, rfl, hc⟩ := e3 z (by simp)
          obtain ⟨d, rfl, hd⟩ := e3 u (by simp)
          exact ⟨a, b, c, d, rest, rfl, ha, hb, hc, hd⟩
        | [], e1, e2, _ => rw [← e1] at e2; exact absurd e2 (by decide)
        | [_], e1, e2, _ => rw [← e1] at e2; exact absurd e2 (by show ¬ ((1 : Nat) : Int) = 4; decide)
        | [_, _], e1, e2, _ => rw [← e1] at e2; exact absurd e2 (by show ¬ ((2 : Nat) : Int) = 4; decide)
        | [_, _, _], e1, e2, _ => rw [← e1] at e2; exact absurd e2 (by show ¬ ((3 : Nat) : Int) = 4; decide)
      refine sv_ifsF (m1 := m) (eb_orF (eb_notT (by repeat' trivial)) (eb_notT (eb_cast (eb_val (ev_are (ea_cons (hsl _ rfl) (ea_cons ev_int (ea_cons (ev_un ev_int o_neg) (ea_cons ev_int ea_nil)))) (by decide))) hh))) ?_
      refine sv_seq (m1 := m) (sv_asg (hsl _ rfl) (gv_tup (gvs_cons gv_name (gvs_cons gv_name (gvs_cons gv_name (gvs_cons gv_name gvs_nil)))) rfl)) ?_
      refine sv_ret0 (ev_cast (ev_and (ev_op (ev_op (ev_var rfl nofun) (ev_var rfl nofun) (o_mulII (mul_ok (by omega) (by omega)))) (ev_op (ev_var rfl nofun) (ev_var rfl nofun) (o_mulII (mul_ok (by omega) (by omega)))) o_neI) fun _ => ev_are (ea_cons (hsl2 _ rfl) (ea_cons ev_int (ea_cons (ev_un ev_int o_neg) (ea_cons ev_int ea_nil)))) (by decide)) ?_)
      unfold matrixM
      rw [hh]
      rfl
  | _ => exact sv_ifsT (m1 := m) (eb_orT (eb_notF (by repeat' trivial))) rfl (sv_ret0 ev_bl)
end
end K01

set_option Elab.async false
set_option linter.all false
set_option maxRecDepth 100000
set_option maxHeartbeats 4000000
namespace K01
variable [DL.Tbs]
open PySem PySem.Spec PyProof.Rows L2 DL
section
variable {P : Program} {w : World} {K : PySem.W.Frag} {mg : Str → Option Value} {base : Heap}
local macro_rules | `(tactic| trivial) => `(tactic| first
  | exact ev_int | exact ev_bl | exact ev_str | exact ev_non | exact ev_ty
  | exact ev_var rfl nofun
  | exact ea_nil
  | apply ea_cons
  | refine ev_and ?_ (fun _ => ?_)
  | refine ev_or ?_ (fun _ => ?_)
  | refine ev_not ?_
  | apply ev_cb
  | apply ev_op
  | apply ev_un
  | refine eb_val ?_ | refine eb_test ?_
  | refine eb_and ?_ (fun _ => ?_)
  | refine eb_or ?_ (fun _ => ?_)
  | refine eb_not ?_
  | exact c_tup | exact c_int | exact c_bool | exact c_str
  | exact c_len rfl
  | exact o_neg | exact o_i0b | exact o_addI | exact o_eqI | exact o_neI | exact o_eqS | exact o_neS)

theorem ev_shape {E : XK} {es : List Sl} {m m1 : M} {t : TA} {v : PyData} (h : EvA K t es m [.d v] m1) (hk : okS v = true) : EvE K (tCall (spD K 1 (pureG R_is_shape)) [] E t) es m (.d (.bool (shapeM v))) m1 := ev_pure h (ds := [v]) rfl ⟨v, rfl, hk, rfl⟩ rfl
theorem ev_colour {E : XK} {es : List Sl} {m m1 : M} {t : TA} {v : PyData} (h : EvA K t es m [.d v] m1) : EvE K (tCall (spD K 1 (pureG R_is_colour)) [] E t) es m (.d (.bool (colourM v))) m1 := ev_pure h (ds := [v]) rfl ⟨v, rfl, rfl⟩ rfl
theorem ev_opacity {E : XK} {es : List Sl} {m m1 : M} {t : TA} {v : PyData} (h : EvA K t es m [.d v] m1) : EvE K (tCall (spD K 1 (pureG R_is_opacity)) [] E t) es m (.d (.bool (opacityM v))) m1 := ev_pure h (ds := [v]) rfl ⟨v, rfl, rfl⟩ rfl
theorem ev_matrix {E : XK} {es : List Sl} {m m1 : M} {t : TA} {v : PyData} (h : EvA K t es m [.d v] m1) : EvE K (tCall (spD K 1 (pureG R_is_matrix)) [] E t) es m (.d (.bool (matrixM v))) m1 := ev_pure h (ds := [v]) rfl ⟨v, rfl, rfl⟩ rfl
abbrev R_is_fill : List PyData → PyData → Prop := fun ds y => ∃ xs, ds = [.tuple xs] ∧ okAt xs 1 = true ∧ y = .bool (fillM xs)
abbrev R_is_rub : List PyData → PyData → Prop := fun ds y => ∃ xs, ds = [.tuple xs] ∧ okAt xs 1 = true ∧ y = .bool (rubM xs)
theorem c_is_fill (T : Blt mg) (TD : DefT K mg "is_fill" st_is_fill ["value"]) (D_is_shape : PureC P w K mg base 4 "is_shape" ["value"] R_is_shape) (D_is_colour : PureC P w K mg base 3 "is_colour" ["value"] R_is_colour) (D_is_opacity : PureC P w K mg base 3 "is_opacity" ["value"] R_is_opacity) :
    PureC P w K mg base 5 "is_fill" ["value"] R_is_fill := by
  refine mkPure TD S_is_fill fun f cdv A outer s H E hr => ?_
  have hu := hr.units
  refine ⟨_, (pss_one (ps_ret (pe_and (pe_cmpR (kEq (K := K) hu) (pe_callB (kLen (K := K)) (by rfl) T.b_len (by decide +kernel) (pa_cons (pv 0) pa_nil)) pe_int (nomark _)) (pe_and (pe_def D_is_shape (hr.mono (by omega)) (by rfl) pass0 (pa_cons (pe_ix (kIx (K := K)) (pv 0) pe_int (fun _ _ => rfl)) pa_nil)) (pe_and (pe_def D_is_colour (hr.mono (by omega)) (by rfl) pass0 (pa_cons (pe_ix (kIx (K := K)) (pv 0) pe_int (fun _ _ => rfl)) pa_nil)) (pe_one (pe_def D_is_opacity (hr.mono (by omega)) (by rfl) pass0 (pa_cons (pe_ix (kIx (K := K)) (pv 0) pe_int (fun _ _ => rfl)) pa_nil)))))))), ?_⟩
  rintro ds m y hl ⟨xs, rfl, hk, rfl⟩
  refine sv_ret0 ?_
  by_cases h4 : xs.length = 4
  · obtain ⟨k, a, b, c, rfl⟩ : ∃ k a b c, xs = [k, a, b, c] := by
      match xs, h4 with
      | [k, a, b, c], _ => exact ⟨k, a, b, c, rfl⟩
    refine ev_andT (by repeat' trivial) ?_
    exact ev_and (ev_shape (arg1 (ev_at (j := 1) rfl rfl rfl)) hk) fun _ => ev_and (ev_colour (arg1 (ev_at (j := 2) rfl rfl rfl))) fun _ => ev_opacity (arg1 (ev_at (j := 3) rfl rfl rfl))
  · have e : fillM xs = false := by
      unfold fillM
      split
      · exact absurd rfl h4
      · rfl
    rw [e]
    refine ev_andF (ev_cast (r := .d (.bool ((xs.length : Int) == 4))) (by repeat' trivial) ?_)
    rw [beq_eq_false_iff_ne.mpr (by omega)]
theorem c_is_rub (T : Blt mg) (TD : DefT K mg "is_rub" st_is_rub ["value"]) (D_is_shape : PureC P w K mg base 4 "is_shape" ["value"] R_is_shape) (D_is_opacity : PureC P w K mg base 3 "is_opacity" ["value"] R_is_opacity) :
    PureC P w K mg base 5 "is_rub" ["value"] R_is_rub := by
  refine mkPure TD S_is_rub fun f cdv A outer s H E hr => ?_
  have hu := hr.units
  refine ⟨_, (pss_one (ps_ret (pe_and (pe_cmpR (kEq (K := K) hu) (pe_callB (kLen (K := K)) (by rfl) T.b_len (by decide +kernel) (pa_cons (pv 0) pa_nil)) pe_int (nomark _)) (pe_and (pe_def D_is_shape (hr.mono (by omega)) (by rfl) pass0 (pa_cons (pe_ix (kIx (K := K)) (pv 0) pe_int (fun _ _ => rfl)) pa_nil)) (pe_one (pe_def D_is_opacity (hr.mono (by omega)) (by rfl) pass0 (pa_cons (pe_ix (kIx (K := K)) (pv 0) pe_int (fun _ _ => rfl)) pa_nil))))))), ?_⟩
  rintro ds m y hl ⟨xs, rfl, hk, rfl⟩
  refine sv_ret0 ?_
  by_cases h4 : xs.length = 3
  · obtain ⟨k, a, b, rfl⟩ : ∃ k a b, xs = [k, a, b] := by
      match xs, h4 with
      | [k, a, b], _ => exact ⟨k, a, b, rfl⟩
    refine ev_andT (by repeat' trivial) ?_
    exact ev_and (ev_shape (arg1 (ev_at (j := 1) rfl rfl rfl)) hk) fun _ => ev_opacity (arg1 (ev_at (j := 2) rfl rfl rfl))
  · have e : rubM xs = false := by
      unfold rubM
      split
      · exact absurd rfl h4
      · rfl
    rw [e]
    refine ev_andF (ev_cast (r := .d (.bool ((xs.length : Int) == 3))) (by repeat' trivial) ?_)
    rw [beq_eq_false_iff_ne.mpr (by omega)]

/-! ### groups within groups -/
def okLs (n : Nat) (v : PyData) : Bool := match v with
  | .tuple ls => ls.all (okL n)
  | _ => true
abbrev R_layers (n : Nat) : List PyData → PyData → Prop := fun ds y => ∃ v, ds = [v, .int n] ∧ okLs n v = true ∧ y = .bool (layersOf (nestedM n) v)
abbrev R_nested (n : Nat) : List PyData → PyData → Prop := fun ds y => ∃ v, ds = [v, .int n] ∧ okL n v = true ∧ y = .bool (nestedM n v)
def groupN (n : Nat) (xs : List PyData) : Bool := match n with
  | 0 => false
  | n + 1 => groupOf (nestedM n) xs
def okG (n : Nat) (xs : List PyData) : Bool := match n with
  | 0 => true
  | n + 1 => okAt xs 3 && (match xs with
    | _ :: l :: _ => okLs n l
    | _ => true)
abbrev R_group (n : Nat) : List PyData → PyData → Prop := fun ds y => ∃ xs, ds = [.tuple xs, .int n] ∧ okG n xs = true ∧ y = .bool (groupN n xs)

theorem c_layers (T : Blt mg) (TD : DefT K mg "are_layers" st_are_layers ["value", "deepest"]) {n k : Nat} (D_is_nested_layer : PureC P w K mg base k "is_nested_layer" ["value", "deepest"] (R_nested n)) (h_MOST_LAYERS : ∃ t, mg "MOST_LAYERS" = some (.int 4 t)) :
    PureC P w K mg base (k + 1) "are_layers" ["value", "deepest"] (R_layers n) := by
  refine mkPure TD S_are_layers fun f cdv A outer s H E hr => ?_
  refine ⟨_, (pss_one (ps_ret (pe_and (pe_callB (kIsi (K := K)) (by rfl) T.b_isinstance (by decide +kernel) (pa_cons (pv 0) (pa_cons (pe_bltn (v := .ty "tuple") (u := .type "tuple") (by rfl) T.b_tuple (by decide +kernel) rfl) pa_nil))) (pe_and (pe_cmpR op_le (pe_callB (kLen (K := K)) (by rfl) T.b_len (by decide +kernel) (pa_cons (pv 0) pa_nil)) (pe_glob (v := .int 4) (by rfl) h_MOST_LAYERS.choose_spec ⟨_, rfl⟩) (nomark _)) (pe_one (pe_callB (kAll (K := K) rfl) (by rfl) T.b_all (by decide +kernel) (pa_cons (pe_lc (own := [("layer", 2)]) (by rfl) S_are_layers.nd (kSeq (K := K) (pv 0)) (blkOk_by (N := N_are_layers) (sc := defScope st_are_layers) (by decide +kernel)) (fun _ _ _ _ _ => pg_name (i := 2) S_are_layers.nd rfl (by first | exact Or.inl rfl | exact Or.inr rfl)) (fun _ _ _ _ _ => pts_nil) (fun _ _ _ _ _ => (pe_def D_is_nested_layer (hr.mono (by omega)) (by rfl) pass0 (pa_cons (pv 2) (pa_cons (pv 1) pa_nil))))) pa_nil))))))), ?_⟩
  rintro ds m y hl ⟨v, rfl, hk, rfl⟩
  refine sv_ret0 ?_
  cases v with
  | tuple ls =>
    refine ev_andT (by repeat' trivial) (ev_and (by repeat' trivial) fun hlen => ?_)
    refine ev_all (ei_seqT (by repeat' trivial)) (by have := of_decide_eq_true hlen; omega) fun d hd => ?_
    exact ev_pure (arg2 (ev_var rfl nofun) (ev_var rfl nofun)) (ds := [d, .int n]) rfl ⟨d, rfl, List.all_eq_true.mp hk d hd, rfl⟩ rfl
  | _ => exact ev_andF (by repeat' trivial)

theorem c_group {k n : Nat} (T : Blt mg) (TD : DefT K mg "is_group" st_is_group ["value", "deepest"]) {g : List Sl → M → Sl → M → Prop} (D_are_layers : DefC P w K mg base CX0 k "are_layers" ["value", "deepest"] (spD K 2 g))
    (hg : ∀ j, n = j + 1 → g = pureG (R_layers j)) (h4 : 4 ≤ k)
    (D_is_shape : PureC P w K mg base 4 "is_shape" ["value"] R_is_shape) (D_is_opacity : PureC P w K mg base 3 "is_opacity" ["value"] R_is_opacity) (D_is_matrix : PureC P w K mg base 3 "is_matrix" ["value"] R_is_matrix) :
    PureC P w K mg base (k + 1) "is_group" ["value", "deepest"] (R_group n) := by
  refine mkPure TD S_is_group fun f cdv A outer s H E hr => ?_
  have hu := hr.units
  refine ⟨_, (pss_cons (ps_if (PW.pt (pw_or (pt_cmpR (kNe (K := K) hu) (pe_callB (kLen (K := K)) (by rfl) T.b_len (by decide +kernel) (pa_cons (pv 0) pa_nil)) pe_int (nomark _)) (pw_or1 (pt_cmpR (kEq (K := K) hu) (pv 1) pe_int (nomark _))))) (pss_one (ps_ret pe_bl)) pss_nil)
      (pss_cons (ps_asg (pv 0) (kTupG (K := K) rfl (pgs_cons (pg_name (i := 2) S_is_group.nd rfl (Or.inl rfl)) (pgs_cons (pg_name (i := 3) S_is_group.nd rfl (Or.inl rfl)) (pgs_cons (pg_name (i := 4) S_is_group.nd rfl (Or.inl rfl)) (pgs_cons (pg_name (i := 5) S_is_group.nd rfl (Or.inl rfl)) (pgs_cons (pg_name (i := 6) S_is_group.nd rfl (Or.inl rfl)) pgs_nil)))))))
      (pss_one (ps_ret (pe_and (pe_def D_are_layers (hr.mono (by omega)) (by rfl) pass0 (pa_cons (pv 3) (pa_cons (pe_op op_sub (pv 1) pe_int) pa_nil))) (pe_and (pe_def D_is_opacity (hr.mono (by omega)) (by rfl) pass0 (pa_cons (pv 4) pa_nil)) (pe_and (pe_or (pe_cmpR op_isN (pv 5) pe_non (nomark _)) (pe_one (pe_def D_is_shape (hr.mono (by omega)) (by rfl) pass0 (pa_cons (pv 5) pa_nil)))) (pe_one (pe_def D_is_matrix (hr.mono (by omega)) (by rfl) pass0 (pa_cons (pv 6) pa_nil)))))))))), ?_⟩
  rintro ds m y hl ⟨xs, rfl, hk, rfl⟩
  by_cases h5 : xs.length = 5
  · obtain ⟨a, l, o, c, mt, rfl⟩ : ∃ a l o c mt, xs = [a, l, o, c, mt] := by
      match xs, h5 with
      | [a, l, o, c, mt], _ => exact ⟨a, l, o, c, mt, rfl⟩
    cases n with
    | zero => exact sv_ifsT (m1 := m) (eb_orF (by repeat' trivial) (by repeat' trivial)) rfl (sv_ret0 ev_bl)
    | succ n =>
      have e := hg n rfl
      subst e
      have hk : (okAt [a, l, o, c, mt] 3 && okLs n l) = true := hk
      rw [Bool.and_eq_true] at hk
      refine sv_ifsF (m1 := m) (eb_orF (by repeat' trivial) (eb_cast (b := (((n + 1 : Nat) : Int) == 0)) (by repeat' trivial) (beq_eq_false_iff_ne.mpr (by omega)))) ?_
      refine sv_seq (m1 := m) (sv_asg (ev_var rfl nofun) (gv_tup (gvs_cons gv_name (gvs_cons gv_name (gvs_cons gv_name (gvs_cons gv_name (gvs_cons gv_name gvs_nil))))) rfl)) ?_
      refine sv_ret0 ?_
      refine ev_and (ev_pure (arg2 (ev_var rfl nofun) (ev_op (ev_var rfl nofun) ev_int o_i0)) (ds := [l, .int n]) ?_ ⟨l, rfl, hk.2, rfl⟩ rfl) fun _ => ?_
      · show [Sl.d l, Sl.d (.int (((n + 1 : Nat) : Int) - 1))] = [Sl.d l, Sl.d (.int (n : Int))]
        rw [show ((n + 1 : Nat) : Int) - 1 = (n : Int) by omega]
      · refine ev_and (ev_opacity (arg1 (ev_var rfl nofun))) fun _ => ?_
        refine ev_and (ev_or (ev_op (ev_var rfl nofun) ev_non o_isN) fun _ => ev_shape (arg1 (ev_var rfl nofun)) hk.1) fun _ => ?_
        exact ev_matrix (arg1 (ev_var rfl nofun))
  · have e : groupN n xs = false := by
      cases n with
      | zero => rfl
      | succ n =>
        show groupOf (nestedM n) xs = false
        unfold groupOf
        split
        · exact absurd rfl h5
        · rfl
    rw [e]
    refine sv_ifsT (m1 := m) (eb_orT (eb_cast (b := !((xs.length : Int) == 5)) (by repeat' trivial) ?_)) rfl (sv_ret0 ev_bl)
    rw [beq_eq_false_iff_ne.mpr (by omega)]
    rfl

theorem c_nested {k n : Nat} (T : Blt mg) (TD : DefT K mg "is_nested_layer" st_is_nested_layer ["value", "deepest"]) (h5 : 5 ≤ k) (D_is_fill : PureC P w K mg base 5 "is_fill" ["value"] R_is_fill) (D_is_rub : PureC P w K mg base 5 "is_rub" ["value"] R_is_rub)
    (D_is_group : PureC P w K mg base k "is_group" ["value", "deepest"] (R_group n)) : PureC P w K mg base (k + 1) "is_nested_layer" ["value", "deepest"] (R_nested n) := by
  refine mkPure TD S_is_nested_layer fun f cdv A outer s H E hr => ?_
  have hu := hr.units
  refine ⟨_, (pss_cons (ps_if (PW.pt (pw_or (pt_not (pt_val (pe_callB (kIsi (K := K)) (by rfl) T.b_isinstance (by decide +kernel) (pa_cons (pv 0) (pa_cons (pe_bltn (v := .ty "tuple") (u := .type "tuple") (by rfl) T.b_tuple (by decide +kernel) rfl) pa_nil))))) (pw_or1 (pt_cmpR (kEq (K := K) hu) (pe_callB (kLen (K := K)) (by rfl) T.b_len (by decide +kernel) (pa_cons (pv 0) pa_nil)) pe_int (nomark _))))) (pss_one (ps_ret pe_bl)) pss_nil)
      (pss_cons (ps_if (pt_cmpR (kEq (K := K) hu) (pe_ix (kIx (K := K)) (pv 0) pe_int (fun _ _ => rfl)) pe_str (nomark _)) (pss_one (ps_ret (pe_def D_is_fill (hr.mono (by omega)) (by rfl) pass0 (pa_cons (pv 0) pa_nil)))) pss_nil)
      (pss_cons (ps_if (pt_cmpR (kEq (K := K) hu) (pe_ix (kIx (K := K)) (pv 0) pe_int (fun _ _ => rfl)) pe_str (nomark _)) (pss_one (ps_ret (pe_def D_is_rub (hr.mono (by omega)) (by rfl) pass0 (pa_cons (pv 0) pa_nil)))) pss_nil)
      (pss_one (ps_ret (pe_and (pe_cmpR (kEq (K := K) hu) (pe_ix (kIx (K := K)) (pv 0) pe_int (fun _ _ => rfl)) pe_str (nomark _)) (pe_one (pe_def D_is_group (hr.mono (by omega)) (by rfl) pass0 (pa_cons (pv 0) (pa_cons (pv 1) pa_nil)))))))))), ?_⟩
  rintro ds m y hl ⟨v, rfl, hk, rfl⟩
  cases v with
  | tuple xs =>
    cases xs with
    | nil =>
      have e : nestedM n (.tuple []) = false := by
        unfold nestedM
        rfl
      rw [e]
      exact sv_ifsT (m1 := m) (eb_orF (eb_notT (by repeat' trivial)) (by repeat' trivial)) rfl (sv_ret0 ev_bl)
    | cons x xs =>
      cases x with
      | str k =>
        obtain ⟨k0, k2, k3⟩ := okL_get hk
        have k0 : k ≠ "group" → okAt (.str k :: xs) 1 = true := k0
        have hne : ((((PyData.str k :: xs).length : Nat) : Int) == 0) = false := beq_eq_false_iff_ne.mpr (by rw [List.length_cons]; omega)
        refine sv_ifsF (m1 := m) (eb_orF (eb_notT (by repeat' trivial)) (eb_cast (b := ((((PyData.str k :: xs).length : Nat) : Int) == 0)) (by repeat' trivial) hne)) ?_
        have hat : ∀ es : List Sl, es[0]? = some (.d (.tuple (.str k :: xs))) → EvE K (tOp (rIx K) (tVar 0) (tC (.int 0))) es m (.d (.str k)) m := fun es he => ev_at (j := 0) he rfl rfl
        by_cases f1 : k = "fill"
        · refine sv_ifsT (m1 := m) (eb_cast (eb_test (ev_op (hat _ rfl) ev_str o_eqS)) (decide_eq_true f1)) rfl (sv_ret0 ?_)
          have e : nestedM n (.tuple (.str k :: xs)) = fillM (.str k :: xs) := by
            unfold nestedM
            rw [if_pos f1]
          rw [e]
          exact ev_pure (arg1 (ev_var rfl nofun)) (ds := [_]) rfl ⟨_, rfl, k0 (by rw [f1]; decide), rfl⟩ rfl
        · refine sv_ifsF (m1 := m) (eb_cast (eb_test (ev_op (hat _ rfl) ev_str o_eqS)) (decide_eq_false f1)) ?_
          by_cases f2 : k = "rub"
          · refine sv_ifsT (m1 := m) (eb_cast (eb_test (ev_op (hat _ rfl) ev_str o_eqS)) (decide_eq_true f2)) rfl (sv_ret0 ?_)
            have e : nestedM n (.tuple (.str k :: xs)) = rubM (.str k :: xs) := by
              unfold nestedM
              rw [if_neg f1, if_pos f2]
            rw [e]
            exact ev_pure (arg1 (ev_var rfl nofun)) (ds := [_]) rfl ⟨_, rfl, k0 (by rw [f2]; decide), rfl⟩ rfl
          · refine sv_ifsF (m1 := m) (eb_cast (eb_test (ev_op (hat _ rfl) ev_str o_eqS)) (decide_eq_false f2)) (sv_ret0 ?_)
            have e : nestedM n (.tuple (.str k :: xs)) = (decide (k = "group") && groupN n (.str k :: xs)) := by
              cases n <;> (unfold nestedM; rw [if_neg f1, if_neg f2]; rfl)
            rw [e]
            refine ev_and (ev_op (hat _ rfl) ev_str o_eqS) fun hg => ev_pure (arg2 (ev_var rfl nofun) (ev_var rfl nofun)) (ds := [_, _]) rfl ⟨_, rfl, ?_, rfl⟩ rfl
            cases n with
            | zero => rfl
            | succ n =>
              show (okAt xs 2 && _) = true
              rw [k2, Bool.true_and]
              cases xs with
              | nil => rfl
              | cons l r =>
                cases l with
                | tuple ls => exact k3 n rfl (of_decide_eq_true hg)
                | _ => rfl
      | _ => exact absurd hk (by unfold okL; exact Bool.false_ne_true)
  | _ =>
    have e : ∀ v, isTup v = false → nestedM n v = false := fun v hv => by
      cases v with
      | tuple _ => cases hv
      | _ => unfold nestedM; rfl
    rw [e _ rfl]
    exact sv_ifsT (m1 := m) (eb_orT (eb_notF (by repeat' trivial))) rfl (sv_ret0 ev_bl)
end
end K01

set_option Elab.async false
set_option linter.all false
set_option maxRecDepth 100000
set_option maxHeartbeats 4000000
namespace K01
variable [DL.Tbs]
open PySem PySem.Spec PyProof.Rows L2 DL
/-! ### what a valid layer is made of -/
theorem nested_get {n : Nat} {v : PyData} (h : nestedM n v = true) :
    (∃ k s r, v = .tuple (.str k :: s :: r) ∧ k ≠ "group" ∧ shapeM s = true) ∨
    (∃ j ls o c mt, n = j + 1 ∧ v = .tuple [.str "group", .tuple ls, o, c, mt] ∧ ls.length ≤ 4 ∧ ls.all (nestedM j) = true ∧ (isNone c = true ∨ shapeM c = true)) := by
  cases v with
  | tuple xs =>
    cases xs with
    | cons x xs =>
      cases x with
      | str k =>
        by_cases f1 : k = "fill"
        · have h' : fillM (.str k :: xs) = true := by
            unfold nestedM at h
            rw [if_pos f1] at h
            exact h
          clear h
          rename _ => h
          unfold fillM at h
          split at h
          · rename_i q
            cases q
            rw [Bool.and_eq_true] at h
            exact .inl ⟨_, _, _, rfl, by rw [f1]; decide, h.1⟩
          · cases h
        · by_cases f2 : k = "rub"
          · have h' : rubM (.str k :: xs) = true := by
              unfold nestedM at h
              rw [if_neg f1, if_pos f2] at h
              exact h
            clear h
            rename _ => h
            unfold rubM at h
            split at h
            · rename_i q
              cases q
              rw [Bool.and_eq_true] at h
              exact .inl ⟨_, _, _, rfl, by rw [f2]; decide, h.1⟩
            · cases h
          · have h' : (decide (k = "group") && groupN n (.str k :: xs)) = true := by
              cases n <;> (unfold nestedM at h; rw [if_neg f1, if_neg f2] at h; exact h)
            clear h
            rw [Bool.and_eq_true] at h'
            obtain ⟨f3, h⟩ := h'
            have f3 := of_decide_eq_true f3
            subst f3
            cases n with
            | zero => cases h
            | succ j =>
              have h' : groupOf (nestedM j) (.str "group" :: xs) = true := h
              clear h
              rename _ => h
              unfold groupOf at h
              split at h
              · rename_i l o c mt q
                cases q
                simp only [Bool.and_eq_true, Bool.or_eq_true] at h
                obtain ⟨hl, _, hc, _⟩ := h
                cases l with
                | tuple ls =>
                  have hl : (decide ((ls.length : Int) ≤ 4) && ls.all (nestedM j)) = true := hl
                  rw [Bool.and_eq_true] at hl
                  exact .inr ⟨j, ls, o, c, mt, rfl, rfl, by have := of_decide_eq_true hl.1; omega, hl.2, hc⟩
                | _ => cases hl
              · cases h
      | _ => unfold nestedM at h; cases h
    | nil => unfold nestedM at h; cases h
  | _ => unfold nestedM at h; cases h
theorem shape_get {v : PyData} (h : shapeM v = true) : ∃ r ls, v = .tuple [r, .tuple ls] ∧ ls.length ≤ 3 ∧ ∀ l, l ∈ ls → ∃ ps, l = .tuple ps ∧ ps.length ≤ 8 := by
  unfold shapeM at h
  split at h
  · rename_i r l
    rw [Bool.and_eq_true] at h
    have h := h.2
    cases l with
    | tuple ls =>
      have h : ((decide ((1 : Int) ≤ (ls.length : Int)) && decide ((ls.length : Int) ≤ 3)) && ls.all loopM) = true := h
      simp only [Bool.and_eq_true, List.all_eq_true] at h
      refine ⟨r, ls, rfl, by have := of_decide_eq_true h.1.2; omega, fun l hl => ?_⟩
      have q := h.2 l hl
      cases l with
      | tuple ps =>
        have q : ((decide ((3 : Int) ≤ (ps.length : Int)) && decide ((ps.length : Int) ≤ 8)) && ps.all fun p => areM p 2 (-9) 9) = true := q
        simp only [Bool.and_eq_true] at q
        exact ⟨ps, rfl, by have := of_decide_eq_true q.1.2; omega⟩
      | _ => cases q
    | _ => cases h
  · cases h

/-! ### the shapes of layers, their points -/
def clipOf (c : PyData) : List PyData := if isNone c then [] else [c]
def shapesOf (f : List PyData → List PyData) (v : PyData) : List PyData := match v with
  | .tuple (.str k :: s :: r) => if k = "group" then (match s, r with
    | .tuple ls, [_, c, _] => f ls ++ clipOf c
    | _, _ => []) else [s]
  | _ => []
def shapesM : Nat → List PyData → List PyData
  | 0, ls => ls.flatMap (shapesOf fun _ => [])
  | n + 1, ls => ls.flatMap (shapesOf (shapesM n))
def shapesJ (n : Nat) : List PyData → List PyData := match n with
  | 0 => fun _ => []
  | n + 1 => shapesM n
theorem shapesM_eq (n : Nat) (ls : List PyData) : shapesM n ls = ls.flatMap (shapesOf (shapesJ n)) := by cases n <;> rfl
def cap : Nat → Nat
  | 0 => 1
  | n + 1 => 4 * cap n + 1
theorem shapes_cap : ∀ (n : Nat) (ls : List PyData), ls.all (nestedM n) = true → (shapesM n ls).length ≤ ls.length * cap n
  | n, [], _ => by rw [shapesM_eq]; simp
  | n, v :: ls, h => by
    rw [List.all_cons, Bool.and_eq_true] at h
    have ih := shapes_cap n ls h.2
    rw [shapesM_eq] at ih ⊢
    rw [List.flatMap_cons, List.length_append, List.length_cons, Nat.add_mul, Nat.one_mul, Nat.add_comm]
    refine Nat.add_le_add ih ?_
    rcases nested_get h.1 with ⟨k, s, r, rfl, hk, _⟩ | ⟨j, l2, o, c, mt, rfl, rfl, h4, ha, _⟩
    · show (if k = "group" then _ else [s]).length ≤ _
      rw [if_neg hk]
      cases n with
      | zero => exact Nat.le_refl _
      | succ n => show 1 ≤ 4 * cap n + 1; omega
    · have e : shapesOf (shapesJ (j + 1)) (.tuple [.str "group", .tuple l2, o, c, mt]) = shapesM j l2 ++ clipOf c := by
        simp only [shapesOf, shapesJ, if_true]
      rw [e, List.length_append]
      have i2 := shapes_cap j l2 ha
      have i3 : l2.length * cap j ≤ 4 * cap j := Nat.mul_le_mul_right _ h4
      have i4 : (clipOf c).length ≤ 1 := by unfold clipOf; split <;> simp
      show _ ≤ 4 * cap j + 1
      omega
theorem shapes_ok : ∀ (n : Nat) (ls : List PyData), ls.all (nestedM n) = true → ∀ s, s ∈ shapesM n ls → shapeM s = true
  | n, [], _, s, hs => by rw [shapesM_eq] at hs; simp at hs
  | n, v :: ls, h, s, hs => by
    rw [List.all_cons, Bool.and_eq_true] at h
    rw [shapesM_eq, List.flatMap_cons, List.mem_append] at hs
    rcases hs with hs | hs
    · rcases nested_get h.1 with ⟨k, s', r, rfl, hk, h1⟩ | ⟨j, l2, o, c, mt, rfl, rfl, h4, ha, hc⟩
      · have hs : s ∈ (if k = "group" then _ else [s']) := hs
        rw [if_neg hk] at hs
        rw [List.mem_singleton.mp hs]
        exact h1
      · have e : shapesOf (shapesJ (j + 1)) (.tuple [.str "group", .tuple l2, o, c, mt]) = shapesM j l2 ++ clipOf c := by
          simp only [shapesOf, shapesJ, if_true]
        rw [e, List.mem_append] at hs
        rcases hs with hs | hs
        · exact shapes_ok j l2 ha s hs
        · unfold clipOf at hs
          rcases hc with hc | hc
          · rw [if_pos hc] at hs
            simp at hs
          · split at hs
            · simp at hs
            · rw [List.mem_singleton.mp hs]
              exact hc
    · exact shapes_ok n ls h.2 s (by rw [shapesM_eq]; exact hs)
def loopsOf (s : PyData) : List PyData := match s with
  | .tuple [_, .tuple ls] => ls
  | _ => []
def lenI (l : PyData) : Int := match l with
  | .tuple ps => (ps.length : Int)
  | _ => 0
def ptsM (ss : List PyData) : Int := (ss.flatMap fun s => (loopsOf s).map lenI).sum

section
variable {P : Program} {w : World} {K : PySem.W.Frag} {mg : Str → Option Value} {base : Heap}
local macro_rules | `(tactic| trivial) => `(tactic| first
  | exact ev_int | exact ev_bl | exact ev_str | exact ev_non | exact ev_ty
  | exact ev_var rfl nofun
  | exact ea_nil
  | apply ea_cons
  | refine ev_and ?_ (fun _ => ?_)
  | refine ev_or ?_ (fun _ => ?_)
  | refine ev_not ?_
  | apply ev_cb
  | apply ev_op
  | apply ev_un
  | refine eb_val ?_ | refine eb_test ?_
  | refine eb_and ?_ (fun _ => ?_)
  | refine eb_or ?_ (fun _ => ?_)
  | refine eb_not ?_
  | exact c_tup | exact c_int | exact c_bool | exact c_str
  | exact c_len rfl
  | exact o_neg | exact o_i0b | exact o_addI | exact o_eqI | exact o_neI | exact o_eqS | exact o_neS)

abbrev G_list_shapes (n : Nat) : List Sl → M → List PyData → M → Prop := fun rs m ds m' => ∃ ls, rs = [.d (.tuple ls)] ∧ ls.length ≤ 4 ∧ ls.all (nestedM n) = true ∧ ds = shapesM n ls ∧ m' = m
theorem c_list_shapes {k n : Nat} (T : Blt mg) (TD : DefT K mg "list_shapes" st_list_shapes ["layers"]) {g : List Sl → M → List PyData → M → Prop} (D_list_shapes : DefC P w K mg base CX0 k "list_shapes" ["layers"] (spL K 1 g)) (hg : ∀ j, n = j + 1 → g = G_list_shapes j) (hn : n ≤ 2) :
    DefC P w K mg base CX0 (k + 1) "list_shapes" ["layers"] (spL K 1 (G_list_shapes n)) := by
  refine mkDefL TD S_list_shapes rfl (by rintro rs m ds m' ⟨ls, _, _, _, _, rfl⟩; rfl) fun f cdv A outer s H E hr => ?_
  have hu := hr.units
  refine ⟨_, (pss_cons (ps_set (i := 1) S_list_shapes.nd rfl (Or.inl rfl) (pe_lst pa_nil))
      (pss_cons (ps_for PassesOwn.never rfl (kSeq (K := K) (pv 0)) (pg_name (i := 2) S_list_shapes.nd rfl (Or.inl rfl)) (pss_cons (ps_if (pt_cmpR (kNe (K := K) hu) (pe_ix (kIx (K := K)) (pv 2) pe_int (fun _ _ => rfl)) pe_str (nomark _)) (pss_cons (ps_expr (kBm (K := K) PySem.F.plainAttrs_list PySem.F.slot_list_append PySem.F.type_list_append mt_append (pv 1) (pa_cons (pe_ix (kIx (K := K)) (pv 2) pe_int (fun _ _ => rfl)) pa_nil)))
      (pss_one ps_continue)) pss_nil)
      (pss_cons (ps_expr (kBm (K := K) PySem.F.plainAttrs_list PySem.F.slot_list_extend PySem.F.type_list_extend mt_extend (pv 1) (pa_cons (pe_def D_list_shapes (hr.mono (by omega)) (by rfl) pass0 (pa_cons (pe_ix (kIx (K := K)) (pv 2) pe_int (fun _ _ => rfl)) pa_nil)) pa_nil)))
      (pss_one (ps_if (pt_cmpR op_notN (pe_ix (kIx (K := K)) (pv 2) pe_int (fun _ _ => rfl)) pe_non (nomark _)) (pss_one (ps_expr (kBm (K := K) PySem.F.plainAttrs_list PySem.F.slot_list_append PySem.F.type_list_append mt_append (pv 1) (pa_cons (pe_ix (kIx (K := K)) (pv 2) pe_int (fun _ _ => rfl)) pa_nil)))) pss_nil)))))
      (pss_one (ps_ret (pv 1))))), ?_⟩
  rintro rs m ds m' hl ⟨ls, rfl, h4, ha, rfl, rfl⟩
  have hcap : (shapesM n ls).length < 1000 := by
    have h1 := shapes_cap n ls ha
    have h2 : cap n ≤ 21 := by
      match n, hn with
      | 0, _ => decide
      | 1, _ => decide
      | 2, _ => decide
    have h3 : ls.length * cap n ≤ 4 * 21 := Nat.mul_le_mul h4 h2
    omega
  refine sv_seq (es1 := [.d (.tuple ls), .c m'.length, .no]) (m1 := m' ++ [[]]) (sv_cell el_new) ?_
  refine sv_forI (m1 := m' ++ [[]]) (fun k es m => ∃ z, es = [.d (.tuple ls), .c m'.length, z] ∧ m = m' ++ [shapesM n (ls.take k)]) (ei_seqT (ev_var (r := .d (.tuple ls)) rfl nofun)) (by exact ⟨.no, rfl, by rw [shapesM_eq]; rfl⟩) ?stp ?fin
  case stp =>
    intro k v es m hv hJ
    obtain ⟨z, rfl, rfl⟩ := hJ
    have hv1 : nestedM n v = true := List.all_eq_true.mp ha v (List.mem_of_getElem? hv)
    have el : shapesM n (ls.take (k + 1)) = shapesM n (ls.take k) ++ shapesOf (shapesJ n) v := by
      rw [shapesM_eq, shapesM_eq, List.take_add_one, hv, List.flatMap_append]
      simp
    have hlen : (shapesM n (ls.take (k + 1))).length < 1000 := by
      have e : shapesM n ls = shapesM n (ls.take (k + 1)) ++ shapesM n (ls.drop (k + 1)) := by
        rw [shapesM_eq, shapesM_eq, shapesM_eq, ← List.flatMap_append, List.take_append_drop]
      rw [e, List.length_append] at hcap
      omega
    refine ⟨[.d (.tuple ls), .c m'.length, .d v], m' ++ [shapesM n (ls.take (k + 1))], ?_, _, rfl, rfl⟩
    rw [el] at hlen ⊢
    generalize shapesM n (ls.take k) = acc at hlen ⊢
    rcases nested_get hv1 with ⟨k, s, r, rfl, hk, h1⟩ | ⟨j, l3, o, c, mt, rfl, rfl, h4, ha3, hc⟩
    · have es : shapesOf (shapesJ n) (.tuple (.str k :: s :: r)) = [s] := if_neg hk
      rw [es] at hlen ⊢
      rw [List.length_append] at hlen
      refine .inr ?_
      refine sv_ifsT (m1 := m' ++ [acc]) (eb_cast (eb_test (ev_op (ev_at (j := 0) rfl rfl rfl) ev_str o_neS)) (by rw [decide_eq_false hk]; rfl)) rfl ?_
      refine sv_seq (es1 := [.d (.tuple ls), .c m'.length, .d (.tuple (.str k :: s :: r))]) (m1 := m' ++ [acc ++ [s]]) ?_ sv_cont
      have q := sv_append (K := K) (n := m'.length) (es := [.d (.tuple ls), .c m'.length, .d (.tuple (.str k :: s :: r))]) (i := 1) (j := m'.length) (x := s) (ds := acc) rfl (ev_at (m := m' ++ [acc]) (i := 2) (j := 1) (k := 1) rfl rfl rfl) last_get ⟨_, last_get⟩ (by omega)
      rw [last_set] at q
      exact q
    · have es : shapesOf (shapesJ (j + 1)) (.tuple [.str "group", .tuple l3, o, c, mt]) = shapesM j l3 ++ clipOf c := by
        simp only [shapesOf, shapesJ, if_true]
      have e := hg j rfl
      subst e
      rw [es] at hlen ⊢
      rw [List.length_append, List.length_append] at hlen
      refine .inl ?_
      refine sv_ifsF (m1 := m' ++ [acc]) (eb_cast (eb_test (ev_op (ev_at (j := 0) rfl rfl rfl) ev_str o_neS)) rfl) ?_
      refine sv_seq (es1 := [.d (.tuple ls), .c m'.length, .d (.tuple [.str "group", .tuple l3, o, c, mt])]) (m1 := m' ++ [acc ++ shapesM j l3]) ?_ ?_
      · have q := sv_extend (K := K) (n := m'.length) (es := [.d (.tuple ls), .c m'.length, .d (.tuple [.str "group", .tuple l3, o, c, mt])]) (i := 1) (j := m'.length) (ys := shapesM j l3) (ds := acc) rfl
          (el_call (n := 1) (g := G_list_shapes j) (E := E0) (m := m' ++ [acc]) (arg1 (ev_at (i := 2) (j := 1) (k := 1) rfl rfl rfl)) ⟨l3, rfl, h4, ha3, rfl, rfl⟩ rfl) last_get ⟨_, last_get⟩ (by omega)
        rw [last_set] at q
        exact q
      · cases hn : isNone c with
        | true =>
          have e0 : clipOf c = [] := if_pos hn
          rw [e0, List.append_nil]
          exact sv_ifF (m1 := m' ++ [acc ++ shapesM j l3]) (eb_cast (eb_test (ev_op (ev_at (j := 3) rfl rfl rfl) ev_non o_notN)) (by rw [hn]; rfl)) sv_next
        | false =>
          have e0 : clipOf c = [c] := if_neg (by rw [hn]; exact Bool.false_ne_true)
          rw [e0] at hlen ⊢
          rw [← List.append_assoc]
          refine sv_ifT (m1 := m' ++ [acc ++ shapesM j l3]) (eb_cast (eb_test (ev_op (ev_at (j := 3) rfl rfl rfl) ev_non o_notN)) (by rw [hn]; rfl)) ?_
          have q := sv_append (K := K) (n := m'.length) (es := [.d (.tuple ls), .c m'.length, .d (.tuple [.str "group", .tuple l3, o, c, mt])]) (i := 1) (j := m'.length) (x := c) (ds := acc ++ shapesM j l3) rfl (ev_at (m := m' ++ [acc ++ shapesM j l3]) (i := 2) (j := 3) (k := 3) rfl rfl rfl) last_get ⟨_, last_get⟩ (by rw [List.length_append]; simp at hlen; omega)
          rw [last_set] at q
          exact q
  case fin =>
    intro es m hJ
    obtain ⟨z, rfl, rfl⟩ := hJ
    rw [List.take_length]
    exact sv_rtc rfl
end
end K01

set_option Elab.async false
set_option linter.all false
set_option maxRecDepth 100000
set_option maxHeartbeats 4000000
namespace K01
variable [DL.Tbs]
open PySem PySem.Spec PyProof.Rows L2 DL
def layerM (v : PyData) : Bool := nestedM 2 v && decide (ptsM (shapesM 2 [v]) ≤ 60)
def itemsOf (v : PyData) : List PyData := match v with
  | .tuple ls => ls
  | _ => []
def drawM (v : PyData) : Bool := layersOf (nestedM 2) v && decide (ptsM (shapesM 2 (itemsOf v)) ≤ 60)
theorem cap_le {n : Nat} (h : n ≤ 2) : cap n ≤ 21 := by
  match n, h with
  | 0, _ => decide
  | 1, _ => decide
  | 2, _ => decide
theorem flat_cap : ∀ (ss : List PyData), (∀ s, s ∈ ss → shapeM s = true) → (ss.flatMap fun s => (loopsOf s).map fun l => PyData.int (lenI l)).length ≤ 3 * ss.length
  | [], _ => by simp
  | s :: ss, h => by
    obtain ⟨r, ls, rfl, hl, _⟩ := shape_get (h s (by simp))
    have ih := flat_cap ss fun s hs => h s (by simp [hs])
    rw [List.flatMap_cons, List.length_append, List.length_cons, List.length_map]
    have e : loopsOf (.tuple [r, .tuple ls]) = ls := rfl
    rw [e]
    omega
theorem flat_ints (ss : List PyData) : (ss.flatMap fun s => (loopsOf s).map fun l => PyData.int (lenI l)) = (ss.flatMap fun s => (loopsOf s).map lenI).map .int := by
  induction ss with
  | nil => rfl
  | cons s ss ih =>
    rw [List.flatMap_cons, List.flatMap_cons, List.map_append, ih, List.map_map]
    rfl
section
variable {P : Program} {w : World} {K : PySem.W.Frag} {mg : Str → Option Value} {base : Heap}
local macro_rules | `(tactic| trivial) => `(tactic| first
  | exact ev_int | exact ev_bl | exact ev_str | exact ev_non | exact ev_ty
  | exact ev_var rfl nofun
  | exact ea_nil
  | apply ea_cons
  | refine ev_and ?_ (fun _ => ?_)
  | refine ev_or ?_ (fun _ => ?_)
  | refine ev_not ?_
  | apply ev_cb
  | apply ev_op
  | apply ev_un
  | refine eb_val ?_ | refine eb_test ?_
  | refine eb_and ?_ (fun _ => ?_)
  | refine eb_or ?_ (fun _ => ?_)
  | refine eb_not ?_
  | exact c_tup | exact c_int | exact c_bool | exact c_str
  | exact c_len rfl
  | exact o_neg | exact o_i0b | exact o_addI | exact o_eqI | exact o_neI | exact o_eqS | exact o_neS)

theorem lc2_pts {m : M} {x : Sl} : ∀ (ss : List PyData), (∀ s, s ∈ ss → shapeM s = true) →
    Lc2R K (gName 1) tYes (iSeq K (tOp (rIx K) (tVar 1) (tC (.int 1)))) (gName 2) tYes (tCB (fun xs H Q => ∃ x n, xs = [x] ∧ LenV K x H n ∧ Q (.int n) H) (tCons (tVar 2) tNil)) [x, .no, .no] [1, 2] [2] ss m (ss.flatMap fun s => (loopsOf s).map fun l => .int (lenI l)) m
  | [], _ => .nil
  | s :: ss, h => by
    obtain ⟨r, ls, rfl, hl, hp⟩ := shape_get (h s (by simp))
    rw [List.flatMap_cons]
    refine .yes (es2 := [x, .d (.tuple [r, .tuple ls]), .no]) (ds1 := ls) (m1 := m) (m2 := m) (m3 := m) gv_name (by simp) eb_yes (ei_seqT (ev_at (j := 1) rfl rfl rfl)) ?_ (lc2_pts ss fun s hs => h s (by simp [hs]))
    have e : loopsOf (.tuple [r, .tuple ls]) = ls := rfl
    rw [e]
    refine lcMap (by simp) fun d hd => ?_
    obtain ⟨ps, rfl, _⟩ := hp d hd
    exact ev_cb (arg1 (ev_var rfl nofun)) (c_len rfl)

abbrev R_add (n : Nat) : List PyData → PyData → Prop := fun ds y => ∃ ls, ds = [.tuple ls] ∧ ls.length ≤ 4 ∧ ls.all (nestedM n) = true ∧ y = .int (ptsM (shapesM n ls))
theorem c_add_points {k n : Nat} (T : Blt mg) (TD : DefT K mg "add_points" st_add_points ["layers"]) (D_list_shapes : DefC P w K mg base CX0 k "list_shapes" ["layers"] (spL K 1 (G_list_shapes n))) (hn : n ≤ 2) :
    PureC P w K mg base (k + 1) "add_points" ["layers"] (R_add n) := by
  refine mkPure TD S_add_points fun f cdv A outer s H E hr => ?_
  refine ⟨_, (pss_one (ps_ret (pe_callB (kSum (K := K) rfl) (by rfl) T.b_sum (by decide +kernel) (pa_cons (pe_lc2 (own := [("shape", 1), ("loop", 2)]) (vs1 := [2]) (by rfl) S_add_points.nd (kSeq (K := K) (pe_def D_list_shapes (hr.mono (by omega)) (by rfl) pass0 (pa_cons (pv 0) pa_nil))) (blkOk_by (N := N_add_points) (sc := defScope st_add_points) (by decide +kernel)) (by simp) (fun _ _ _ _ _ => pg_name (i := 1) S_add_points.nd rfl (by first | exact Or.inl rfl | exact Or.inr rfl)) (fun _ _ _ _ _ => pts_nil) (fun _ _ _ _ _ => (kSeq (K := K) (pe_ix (kIx (K := K)) (pv 1) pe_int (fun _ _ => rfl)))) (fun _ _ _ _ _ => pg_name (i := 2) S_add_points.nd rfl (by first | exact Or.inl rfl | exact Or.inr rfl)) (fun _ _ _ _ _ => pts_nil) (fun _ _ _ _ _ => (pe_callB (kLen (K := K)) (by rfl) T.b_len (by decide +kernel) (pa_cons (pv 2) pa_nil)))) pa_nil)))), ?_⟩
  rintro ds m y hl ⟨ls, rfl, h4, ha, rfl⟩
  have hok := shapes_ok n ls ha
  have hcap : (shapesM n ls).length ≤ 84 := by
    have h1 := shapes_cap n ls ha
    have h2 : cap n ≤ 21 := cap_le hn
    have h3 : ls.length * cap n ≤ 4 * 21 := Nat.mul_le_mul h4 h2
    exact Nat.le_trans h1 h3
  have h3 := flat_cap _ hok
  have q := lc2_pts (K := K) (m := m) (x := .d (.tuple ls)) (shapesM n ls) hok
  have q2 := el_d (el_lc2 (K := K) (vs := [1, 2]) (vs1 := [2]) (es := [.d (.tuple ls), .no, .no]) (ei_seqL (el_d (el_call (n := 1) (g := G_list_shapes n) (E := E0) (m := m) (arg1 (ev_var (i := 0) rfl nofun)) ⟨ls, rfl, h4, ha, rfl, rfl⟩ rfl))) q (Nat.le_trans h3 (by omega)))
  rw [flat_ints] at q2
  exact sv_ret0 (ev_cb (arg1 q2) c_sum)

abbrev R_is_layer : List PyData → PyData → Prop := fun ds y => ∃ v, ds = [v] ∧ okL 2 v = true ∧ y = .bool (layerM v)
abbrev R_is_drawing : List PyData → PyData → Prop := fun ds y => ∃ v, ds = [v] ∧ okLs 2 v = true ∧ y = .bool (drawM v)
theorem c_is_drawing {k : Nat} (T : Blt mg) (TD : DefT K mg "is_drawing" st_is_drawing ["value"]) (D_are_layers : PureC P w K mg base k "are_layers" ["value", "deepest"] (R_layers 2)) (D_add_points : PureC P w K mg base k "add_points" ["layers"] (R_add 2))
    (h_DEEPEST : ∃ t, mg "DEEPEST" = some (.int 2 t)) (h_MOST_POINTS : ∃ t, mg "MOST_POINTS" = some (.int 60 t)) : PureC P w K mg base (k + 1) "is_drawing" ["value"] R_is_drawing := by
  refine mkPure TD S_is_drawing fun f cdv A outer s H E hr => ?_
  refine ⟨_, (pss_one (ps_ret (pe_and (pe_def D_are_layers (hr.mono (by omega)) (by rfl) pass0 (pa_cons (pv 0) (pa_cons (pe_glob (v := .int 2) (by rfl) h_DEEPEST.choose_spec ⟨_, rfl⟩) pa_nil))) (pe_one (pe_cmpR op_le (pe_def D_add_points (hr.mono (by omega)) (by rfl) pass0 (pa_cons (pv 0) pa_nil)) (pe_glob (v := .int 60) (by rfl) h_MOST_POINTS.choose_spec ⟨_, rfl⟩) (nomark _)))))), ?_⟩
  rintro ds m y hl ⟨v, rfl, hk, rfl⟩
  refine sv_ret0 (ev_and (ev_pure (arg2 (ev_var rfl nofun) ev_int) (ds := [v, .int 2]) rfl ⟨v, rfl, hk, rfl⟩ rfl) fun hv => ?_)
  cases v with
  | tuple ls =>
    have hv : (decide ((ls.length : Int) ≤ 4) && ls.all (nestedM 2)) = true := hv
    rw [Bool.and_eq_true] at hv
    exact ev_op (ev_pure (arg1 (ev_var rfl nofun)) (ds := [.tuple ls]) rfl ⟨ls, rfl, by have := of_decide_eq_true hv.1; omega, hv.2, rfl⟩ rfl) ev_int o_i0b
  | _ => cases hv
abbrev R_check : List PyData → PyData → Prop := fun ds y => ∃ v, ds = [v] ∧ okLs 2 v = true ∧ drawM v = true ∧ y = .none
theorem c_check {k : Nat} (T : Blt mg) (TD : DefT K mg "check_drawing" st_check_drawing ["value"]) (D_is_drawing : PureC P w K mg base k "is_drawing" ["value"] R_is_drawing) : PureC P w K mg base (k + 1) "check_drawing" ["value"] R_check := by
  refine mkPureN TD S_check_drawing (by rintro ds y ⟨v, _, _, _, rfl⟩; rfl) fun f cdv A outer s H E hr => ?_
  refine ⟨_, (pss_one (ps_if (pt_not (pt_val (pe_def D_is_drawing (hr.mono (by omega)) (by rfl) pass0 (pa_cons (pv 0) pa_nil)))) (pss_one ps_never) pss_nil)), ?_⟩
  rintro ds m y hl ⟨v, rfl, hk, hv, rfl⟩
  refine ⟨_, sv_ifF (m1 := m) (eb_notT (eb_cast (eb_val (ev_pure (arg1 (ev_var rfl nofun)) (ds := [v]) rfl ⟨v, rfl, hk, rfl⟩ rfl)) hv)) sv_next⟩
abbrev R_count : List PyData → PyData → Prop := fun ds y => ∃ ls, ds = [.tuple ls] ∧ okLs 2 (.tuple ls) = true ∧ drawM (.tuple ls) = true ∧ y = .int (ptsM (shapesM 2 ls))
end
end K01

set_option Elab.async false
set_option linter.all false
set_option maxRecDepth 100000
namespace HX
open PySem PySem.Spec PyProof.Rows L2 HotX

section
variable {prog : Program} {w : World} {A : Around} {E : Value → Shared → Prop} {s : Shared}

/-- a list's walk ends while an exception is handled -/
theorem lend {it l x1 : Addr} {i : Nat} {items : Array Value} {Q : Option Value → Shared → Prop} (hot : HotAt A x1 s.heap) (n1 : x1 ≠ it)
    (hit : s.heap.IsListIter it l i) (hl : s.heap.IsList l items) (hx : items[i]? = none)
    (hQ : ∀ g, (∀ b o, b ≠ it → s.heap.get? b = some o → g.get? b = some o) → Q none { s with heap := g }) : wpAny (model prog w) A (pyNext (.ref it)) Q E s := by
  obtain ⟨io, i1, i2, i3⟩ := id hit
  obtain ⟨lo, l1, l2, l3, l4⟩ := hl
  obtain ⟨hh, xo, xv, x2, x3, x4⟩ := hot
  unfold pyNext
  apply wpAny_bind; apply wpAny_attempt
  refine wpAny_callSpecial?_slot (name := Str.ofString "__next__") hit.typeIs slot_listiter_next ?_
  refine wpAny_call_entry slot_listiter_next hit.typeIs entry_listiter_next ?_ (args_listiter_next _)
  show wpAny _ _ (do let lv ← field (.ref it) 0; _) _ _ s
  apply wpAny_bind
  refine wpAny_field i1 i3 (x := Value.ref l) (by rfl) ?_
  have f1 : ((Value.ref l == Value.none) = true) = False := by simp
  simp only [f1, if_false]
  apply wpAny_bind
  refine wpAny_field i1 i3 (x := Value.int i 0) (by rfl) ?_
  apply wpAny_bind
  refine wpAny_seqItems l1 l4 ?_
  simp only [Int.toNat_natCast, hx]
  apply wpAny_bind; apply wpAny_rule; apply wpAny_bind
  refine wpAny_setField i1 i3 (by simp) ?_
  apply wpAny_bind
  simp only [newExc, newTuple]
  apply wpAny_bind
  refine wpAny_newObj_type ?_ (by size_fits)
  apply wpAny_bind
  refine wpAny_of_eq (a := Value.none) (by simp only [firstArgMember]; rfl) ?_
  refine wpAny_newObj_type ?_ (by size_fits)
  have kp : ∀ b o, b ≠ it → s.heap.get? b = some o → (s.heap.update it (Obj.mapFields (·.setIfInBounds 0 Value.none))).get? b = some o := fun b o n e => by
    rw [Heap.get?_update_other _ _ (Ne.symm n)]; exact e
  generalize s.heap.update it (Obj.mapFields fun x => x.setIfInBounds 0 Value.none) = g1 at kp ⊢
  have e1 := kp _ _ n1 x2
  generalize hg2 : g1.push { cls := .type "tuple", data := .seq #[] } = g2
  have up2 : ∀ b o, g1.get? b = some o → g2.get? b = some o := fun b o e => by rw [← hg2]; exact Heap.get?_push_of_some _ e
  dsimp only
  refine raiseNew_hot (x1 := x1) ⟨hh, xo, xv, Heap.get?_push_of_some _ (up2 _ _ e1), x3, x4⟩ (Nat.ne_of_lt (Heap.lt_size (up2 _ _ e1))) (Heap.get?_push_size _ rfl) rfl (by simp; omega) ?_
  apply wpAny_bind
  refine wpAny_isInstance (T := "StopIteration") (b := true) ⟨_, Heap.get?_update_self _ (Heap.get?_push_size _ rfl) rfl, rfl⟩ isSubtype_stop (wpAny_pure (hQ _ ?_))
  intro b o hb e
  have hlt := Heap.lt_size (up2 _ _ (kp _ _ hb e))
  exact (Heap.get?_update_other _ _ (Nat.ne_of_gt hlt)).trans (Heap.get?_push_of_some _ (up2 _ _ (kp _ _ hb e)))
/-- its walk -/
theorem lwalk {x1 I ax : Addr} {xo : Obj} {vs : Array Value} (hh : A.handled = some (.ref x1)) (d : xo.data = .fields vs) (c : vs[2]? = some .none) (h1 : ax ≠ I) (h2 : x1 ≠ I) (items : Array Value) :
    Walks prog w A I [I, ax, x1] [I] items.size (fun i v => items[i]? = some v) (fun i h => (h.IsListIter I ax i ∧ h.IsList ax items) ∧ h.get? x1 = some xo) where
  sub b hb := by simp only [List.mem_singleton] at hb; subst hb; exact List.mem_cons_self
  frame i h h' st hk := ⟨⟨st.1.1.at (hk I (by simp)), st.1.2.at (hk ax (by simp))⟩, hk x1 (by simp) _ st.2⟩
  item i t Q E hi st hQ := by
    refine wpAny_pyNext_list_item st.1.1 st.1.2 (x := items[i]) (by simp [hi]) ?_
    intro g g1 g2
    refine hQ items[i] g t.toks (by simp [hi]) ⟨⟨g1, st.1.2.extBut g2.extBut h1⟩, g2.extBut _ _ h2 st.2⟩ ?_
    intro b o hb e
    exact g2.extBut b o (fun z => hb (z ▸ List.mem_singleton_self _)) e
  done t Q E st hQ := lend ⟨hh, _, _, st.2, d, c⟩ h2 st.1.1 st.1.2 (by simp) fun g hg => hQ g t.toks fun b o hb e => hg b o (fun z => hb (z ▸ List.mem_singleton_self _)) e
  self _ _ _ _ st hQ := wpAny_pyIter_listiter st.1.1 hQ
/-- sum of a list of ints there -/
theorem hsum {x1 ax : Addr} {xo : Obj} {vs items : Array Value} {val : Nat → Int} {Q : Value → Shared → Prop} (hh : A.handled = some (.ref x1)) (d : xo.data = .fields vs) (c : vs[2]? = some .none) (hx : s.heap.get? x1 = some xo)
    (hl : s.heap.IsList ax items) (hv : ∀ (i : Nat) (v : Value), items[i]? = some v → ∃ t, v = Value.int (val i) t)
    (hQ : ∀ g tk t', (∀ b o, s.heap.get? b = some o → g.get? b = some o) → Q (.int (preSum val items.size) t') { s with heap := g, toks := tk }) : wpAny (model prog w) A (call (.builtin "sum") [.ref ax]) Q E s := by
  apply call_sum_walkG
  refine wpAny_pyIter_list hl ?_
  have n1 := Heap.lt_size hx
  have n2 : ax < s.heap.objs.size := by obtain ⟨o, h, _⟩ := hl; exact Heap.lt_size h
  have up : ∀ {b o}, s.heap.get? b = some o → (s.heap.push { cls := .type "list_iterator", data := .fields #[.ref ax, Value.int 0 0] }).get? b = some o := fun e => Heap.get?_push_of_some _ e
  refine ⟨s.heap.objs.size, _, _, _, _, _, val, rfl, lwalk (prog := prog) (w := w) (A := A.in1) (x1 := x1) hh d c (Nat.ne_of_lt n2) (Nat.ne_of_lt n1) items, ⟨⟨⟨_, Heap.get?_push_size _ rfl, rfl, rfl⟩, hl.at fun o e => up e⟩, up hx⟩, ?_, hv, ?_⟩
  · intro b hb
    rw [Heap.size_push]
    simp only [List.mem_cons, List.not_mem_nil, or_false] at hb
    rcases hb with rfl | rfl | rfl
    · exact Nat.lt_succ_self _
    · exact Nat.lt_succ_of_lt n2
    · exact Nat.lt_succ_of_lt n1
  · intro g tk t' hk
    refine hQ g tk t' fun b o e => hk b o ?_ (up e)
    simp only [List.mem_singleton]
    exact Nat.ne_of_lt (Heap.lt_size e)
/-- a name that is a built-in's -/
theorem bname {env : Env} {mg mb : Str → Option Value} {x : Str} {u : Value} {pos : Pos} {Q : Value → Shared → Prop} (hk : env.scope.kind = .function) (hx : env.kindOf x = some .globalImplicit) (hg : s.heap.Ns env.globals mg) (hm : mg x = none)
    (hb : s.heap.Ns env.builtins mb) (hv : mb x = some u) (h : Q u s) (hd : (x == ("__debug__" : Str)) = false := by decide) : wpAny (model prog w) A (eval (.Name x pos) env) Q E s :=
  Calls.Name_function_global hk hx (Calls.loadGlobal_builtin hg hm hb hv h) hd
end
end HX

set_option Elab.async false
set_option linter.all false
set_option maxRecDepth 100000
namespace HX
open PySem PySem.Spec PyProof.Rows L2 HotX
def b2i (b : Bool) : Int := if b then 1 else 0
section
variable {prog : Program} {w : World} {A : Around} {E : Value → Shared → Prop} {s : Shared}
/-- [int(f) for f in a list of bools], while an exception is handled -/
theorem hints {x1 ax : Addr} {xo : Obj} {vs : Array Value} {bs : List Bool} {env : Env} {mg mb : Str → Option Value} {scope : Scope} {cl : List (Str × Addr)} {f : Str} {iter : Expr} {pf q1 q2 cpos pos : Pos} {Q : Value → Shared → Prop}
    (hh : A.handled = some (.ref x1)) (d : xo.data = .fields vs) (c : vs[2]? = some .none) (hx : s.heap.get? x1 = some xo) (hl : s.heap.IsList ax (bs.map Value.bool).toArray) (hz : bs.length ≤ sizeLine)
    (hclos : closureFor scope env = pure cl) (hcell : ∀ y ∈ scope.names, y.2 ≠ .cell) (hkind : scope.kind = .function) (hnames : ∀ y ∈ scope.names, y.2 = .local → scope.names.lookup y.1 = some .local)
    (hf : scope.names.lookup f = some .local) (hi : scope.names.lookup ("int" : Str) = some .globalImplicit) (hfd : (f == ("__debug__" : Str)) = false)
    (hg : s.heap.Ns env.globals mg) (hm : mg "int" = none) (hb : s.heap.Ns env.builtins mb) (hv : mb "int" = some (.type "int"))
    (hs : ∀ x, foldedSetIterable iter env x = pure x) (hit : ∀ {R : Value → Shared → Prop}, R (.ref ax) s → wpAny (model prog w) A (eval iter env) R E s)
    (hQ : ∀ D g tk ys, (∀ b o, s.heap.get? b = some o → g.get? b = some o) → g.IsList D ys → ys.size = bs.length → (∀ i v, ys[i]? = some v → ∃ t, v = Value.int (b2i (bs.getD i false)) t) → Q (.ref D) { s with heap := g, toks := tk }) :
    wpAny (model prog w) A (eval (.ListComp (.Call (.Name "int" q1) [.Name f q2] [] cpos) [⟨.Name f pf, iter, [], 0⟩] scope pos) env) Q E s := by
  refine ListComp_goes hclos hcell hkind hnames (hit (wpAny_pyIter_list hl ?_)) hs
  have n1 := Heap.lt_size hx
  have n2 : ax < s.heap.objs.size := by obtain ⟨o, h, _⟩ := hl; exact Heap.lt_size h
  generalize hS : ({ s with heap := s.heap.push { cls := .type "list_iterator", data := .fields #[.ref ax, Value.int 0 0] } } : Shared) = s2
  have up : ∀ b o, s.heap.get? b = some o → s2.heap.get? b = some o := fun b o e => by rw [← hS]; exact Heap.get?_push_of_some _ e
  have hI : s2.heap.IsListIter s.heap.objs.size ax 0 := by rw [← hS]; exact ⟨_, Heap.get?_push_size _ rfl, rfl, rfl⟩
  have sz : s2.heap.objs.size = s.heap.objs.size + 1 := by rw [← hS]; exact Heap.size_push ..
  have W := lwalk (prog := prog) (w := w) hh d c (Nat.ne_of_lt n2) (Nat.ne_of_lt n1) (bs.map Value.bool).toArray
  refine ⟨s.heap.objs.size, _, _, _, _, _, rfl, Goes.ofWalks (target := .Name f pf) W (fun i v t R F st q => ?_), by simpa using hz, ⟨⟨hI, hl.at (up ax)⟩, up _ _ hx⟩, ?_, ?_⟩
  · obtain ⟨o, e1, e2, e3⟩ := st.1.1
    exact letGo_of_cls e1 e2 e3 (by decide) q
  · intro b hb
    simp only [List.mem_cons, List.not_mem_nil, or_false] at hb
    rw [sz]
    rcases hb with rfl | rfl | rfl
    · exact Nat.lt_succ_self _
    · exact Nat.lt_succ_of_lt n2
    · exact Nat.lt_succ_of_lt n1
  · intro D C s3 B
    obtain ⟨g3, tk3, e3⟩ := B.only
    have sC : s.heap.objs.size < C := by have h := B.newC; rw [sz] at h; exact h
    have ltC : ∀ b o, s.heap.get? b = some o → b ≠ C := fun b o e => Nat.ne_of_lt (Nat.lt_trans (Heap.lt_size e) sC)
    have old3 : ∀ b o, s.heap.get? b = some o → s3.heap.get? b = some o := fun b o e => B.old b o (up b o e)
    refine ⟨fun i ys t => (∃ g tk, t = { s with heap := g, toks := tk }) ∧ (∀ b o, s.heap.get? b = some o → t.heap.get? b = some o) ∧ (∃ m, t.heap.Ns C m) ∧ ys.length = i ∧ ∀ j v, ys[j]? = some v → ∃ t, v = Value.int (b2i (bs.getD j false)) t, ?_, ?_, ?_, ?_⟩
    · exact ⟨⟨g3, tk3, by rw [e3, ← hS]⟩, old3, ⟨_, B.names⟩, rfl, fun j v e => by cases e⟩
    · intro i ys t g tk G keep htk
      obtain ⟨⟨g1, tk1, e1⟩, o1, ⟨m, hm⟩, l1, v1⟩ := G
      have nD : ∀ b, b < s2.heap.objs.size → b ≠ s.heap.objs.size → b ∉ D :: [s.heap.objs.size] := fun b h1 h2 z => by
        simp only [List.mem_cons, List.not_mem_nil, or_false] at z
        rcases z with z | z
        · exact Nat.lt_irrefl _ (Nat.lt_of_lt_of_le h1 (z ▸ B.newD))
        · exact h2 z
      refine ⟨⟨g, tk, by rw [e1]⟩, fun b o e => keep b o (nD b (by rw [sz]; exact Nat.lt_succ_of_lt (Heap.lt_size e)) (Nat.ne_of_lt (Heap.lt_size e))) (o1 b o e), ⟨m, hm.at' fun o e => keep C o ?_ e⟩, l1, v1⟩
      simp only [List.mem_cons, List.not_mem_nil, or_false]
      rintro (z | z)
      · exact B.ne z.symm
      · exact Nat.lt_irrefl (s.heap.objs.size) (by have h := B.newC; rw [sz, z] at h; exact h)
    · intro i v ys t hlt hY hSt G hD
      obtain ⟨⟨g1, tk1, e1⟩, o1, ⟨m, hm'⟩, l1, v1⟩ := G
      have hv' : bs[i]? = some (bs.getD i false) ∧ v = Value.bool (bs.getD i false) := by
        have e : ((bs.map Value.bool).toArray)[i]? = some v := hY
        simp only [List.getElem?_toArray, List.getElem?_map] at e
        cases q : bs[i]? with
        | none => rw [q] at e; cases e
        | some b =>
          rw [q] at e
          simp only [Option.map_some, Option.some.injEq] at e
          simp only [List.getD_eq_getElem?_getD, q, Option.getD_some]
          exact ⟨trivial, e.symm⟩
      have kx : ∀ {x k}, k ≠ NameKind.free → scope.names.lookup x = some k → (compEnvC scope cl C env).kindOf x = some k := fun {x k} h1 h2 => lookup_relS_keep h1 h2
      refine wpAny_assign_Name (wpAny_storeName_local (kx (by decide) hf) hm' (fun g2 hn2 sb2 => ?_) (by simp [compEnvC, relabel, hkind]))
      have o2 : ∀ b o, s.heap.get? b = some o → g2.get? b = some o := fun b o e => sb2.extBut b o (ltC b o e) (o1 b o e)
      refine wpAny_pure ?_
      simp only [if_true]
      refine Call_ (bname hkind (kx (by decide) hi) (hg.at' (o2 _)) hm (hb.at' (o2 _)) hv (callWith_type1 (Calls.spliced_cons (wpAny_Name (wpAny_loadName_local hkind (kx (by decide) hf) hn2 (by rw [if_pos rfl]) (Calls.spliced_nil ?_)) hfd))))
      rw [hv'.2]
      refine call_int_bool ?_
      have nI : s.heap.objs.size ≠ C := Nat.ne_of_lt sC
      refine ⟨⟨⟨g2, _, by rw [e1]⟩, o2, ⟨_, hn2⟩, by rw [List.length_append, l1]; rfl, fun j v' e => ?_⟩, ⟨⟨hSt.1.1.at (sb2.extBut _ · nI), hSt.1.2.at fun o e => sb2.extBut _ _ ?_ e⟩, ?_⟩, hD.at (sb2.extBut _ · B.ne)⟩
      · rcases Nat.lt_or_ge j i with h | h
        · rw [List.getElem?_append_left (by rw [l1]; exact h)] at e
          exact v1 j v' e
        · rw [List.getElem?_append_right (by rw [l1]; exact h)] at e
          have hj : j - ys.length = 0 := by
            cases q : j - ys.length with
            | zero => rfl
            | succ k => rw [q] at e; cases e
          have ej : j = i := by omega
          rw [hj] at e
          subst ej
          exact ⟨_, (Option.some.inj e).symm⟩
      · exact Nat.ne_of_lt (Nat.lt_trans n2 sC)
      · exact sb2.extBut _ _ (ltC _ _ hx) hSt.2
    · intro ys t G hD
      obtain ⟨⟨g1, tk1, e1⟩, o1, ⟨m, hm⟩, l1, v1⟩ := G
      refine ⟨m, hm, fun g sb => ?_⟩
      have r := hQ D g t.toks ys.toArray (fun b o e => sb.extBut b o (ltC b o e) (o1 b o e)) (hD.isList.at (sb.extBut _ · B.ne)) (by simpa using l1) (fun j v e => v1 j v (by simpa using e))
      rw [e1] at r ⊢
      exact r
end
end HX

set_option Elab.async false
set_option linter.all false
set_option maxRecDepth 100000
namespace HX
open PySem PySem.Spec PyProof.Rows L2 HotX L2H

theorem bls : ∀ {bs : List Bool} {its : List Value}, Vals (bs.map V.bl) its → its = bs.map Value.bool
  | [], _, h => by cases h; rfl
  | b :: bs, _, h => by
    cases h with
    | cons r t =>
      obtain rfl := bls t
      cases r
      rfl

/-- what the comprehension's block must be -/
def blkB (scope : Scope) (f : Str) : Bool :=
  decide (scope.kind = .function) && (scope.names.all fun y => decide (y.2 ≠ .cell) && decide (y.2 ≠ .free) && (decide (y.2 ≠ .local) || decide (scope.names.lookup y.1 = some .local)))
    && decide (scope.names.lookup f = some .local) && decide (scope.names.lookup ("int" : Str) = some .globalImplicit) && !(f == ("__debug__" : Str))

/-- sum([int(f) for f in x]), x a local, a list of bools -/
def tSumB (K : PySem.W.Frag) (i : Nat) : TE := fun σ H Q => ∃ (a : Addr) (bs : List Bool), σ[i]? = some (some (.ref a)) ∧ SqL K H a (bs.map V.bl) ∧ Q (.int (preSum (fun i => b2i (bs.getD i false)) bs.length)) H

theorem pe_sumints {X : Cx} {i : Nat} {x f : Str} {scope : Scope} {p0 p1 p2 p3 p4 p5 pos cpos : Pos} (hc : HotC X) (hN : X.N[i]? = some x) (hx : X.env.scope.names.lookup x = some .local) (hB : blkB scope f = true)
    (gs : Gl X "sum") (ms : X.mg "sum" = none) (mi : X.mg "int" = none) (hd : (x == ("__debug__" : Str)) = false := by decide)
    (hs : ∀ v, foldedSetIterable (.Name x p1) X.env v = pure v := by intro _; rfl) :
    PE X (.Call (.Name "sum" p0) [.ListComp (.Call (.Name "int" p2) [.Name f p3] [] cpos) [⟨.Name f p4, .Name x p1, [], 0⟩] scope p5] [] pos) (tSumB X.K i) := by
  refine ⟨fun pins s σ H Q I h => ?_⟩
  obtain ⟨a, bs, e1, e2, q⟩ := h
  unfold blkB at hB
  simp only [Bool.and_eq_true, Bool.or_eq_true, Bool.not_eq_true', decide_eq_true_eq, List.all_eq_true] at hB
  obtain ⟨⟨⟨⟨hk, hn⟩, hf⟩, hi⟩, hfd⟩ := hB
  obtain ⟨p, ⟨hh, v1, d1, c1⟩, hp⟩ := hc
  have hx1 := (I.pin p (List.mem_append_left _ hp)).1
  obtain ⟨its, rv, hl, hz⟩ := I.list e2
  rw [bls rv] at hl
  obtain ⟨mb, hb1, hb2⟩ := I.mod.blt
  obtain ⟨m, hn1, hn2⟩ := I.loc
  obtain ⟨u, r, lk⟩ := hn2 i x _ hN e1 (.inl hx)
  obtain rfl : u = Value.ref a := r
  have hmx : m x = some (Value.ref a) := by
    rcases lk with ⟨_, z⟩ | ⟨z, _⟩
    · exact z
    · have hx' : X.env.kindOf x = some .local := hx
      rcases z with z | z <;> rw [hx'] at z <;> cases z
  refine Call_ (ld_blt I gs ms rfl (callWith_builtin1 (Calls.spliced_cons ?_)))
  refine hints (bs := bs) hh d1 c1 hx1 hl.isList (by simpa using hz) (closure_ok fun y hy e => absurd e (hn y hy).1.2) (fun y hy => (hn y hy).1.1) hk (fun y hy e => ((hn y hy).2).elim (fun z => absurd e z) id) hf hi hfd
    (mg := X.mg) (mb := mb) (by rw [I.ok.glob]; exact I.mod.glob.keeps I.bk) mi (by rw [I.ok.blt]; exact hb1.keeps I.bk) ((hb2 _ (by decide)).trans rfl) hs (fun {R} hR => wpAny_Name (wpAny_loadName_local I.ok.kind hx hn1 hmx hR) hd) ?_
  intro D g tk ys k1 k2 k3 k4
  refine Calls.spliced_nil ?_
  refine hsum (val := fun i => b2i (bs.getD i false)) hh d1 c1 (k1 _ _ hx1) k2 k4 ?_
  intro g' tk' t' k5
  rw [k3]
  exact ⟨.int _, H, I.kept fun b o e => k5 b o (k1 b o e), ⟨_, rfl⟩, q⟩

/-- isinstance(e, c), e an exception that the context bears -/
theorem isX {X : Cx} {a D : Addr} {oe : Obj} (C : ExcC X.K D) (hp : (a, oe) ∈ X.pn) (hz : Zc (.ref D) none oe) (hf : ∃ vs, oe.data = .fields vs) : CallR X (.builtin "isinstance") (rIsE X.K D a) := by
  intro pins s σ H xs us Q I r ⟨c, cv, b, ex, hcv, e, q⟩
  subst ex
  cases r with
  | cons r1 r2 =>
    cases r2 with
    | cons r3 r4 =>
      cases r4
      cases r1
      rw [hcv _ r3]
      have g := (I.pin (a, oe) (List.mem_append_left _ hp)).1
      have J : PySem.W.InstAt s.heap a oe D none := by
        obtain ⟨vs, hv⟩ := hf
        obtain ⟨o1, o2, o3, o4⟩ := oe
        obtain ⟨h1, h2⟩ := hz
        simp only at h1 h2 hv
        subst h1; subst h2; subst hv
        exact ⟨g, rfl, rfl, trivial⟩
      refine PySem.W.kia_one (PySem.W.handS_kitx_exc C.hg C.hk C.hs C.hd C.ha C.hn C.ht C.hm) I.kIn J e (fun z => nomatch z) fun tk => ?_
      exact ⟨.bl b, H, I.tok tk, rfl, q⟩

/-! ### a def that is called in the suite, with the exception -/
abbrev SpP := Addr × Obj → Sp
structure FnP (P : Program) (w : World) (K : PySem.W.Frag) (mg : Str → Option Value) (base : Heap) (CX : CXT) (k : Nat) (f : Addr) (fd : FuncData) (ps : List Str) (sp : SpP) : Prop where
  len : ∀ p vs H Q E, sp p vs H Q E → vs.length = ps.length
  run : ∀ p : Addr × Obj, ∀ (A : Around) (outer : List Env) (s : Shared) (H : Hp) (args : Args) (us : List Value) (vs : List V) (Q : VK) (E : XK), RoomH k A → Hot1 A p → PinOk outer H s p → Env0 P w K mg base A outer s H → BindsTo s fd args (ps.zip us) → Vals vs us → sp p vs H Q E →
    codeAny (model P w) A (.call (.ref f) args) (CR CX outer P w H s Q E) s

theorem fnP {CX : CXT} {P : Program} {w : World} {K : PySem.W.Frag} {mg : Str → Option Value} {base : Heap} {k : Nat} {f : Addr} {name qual : Str} {params : Arguments} {body : List Stmt} {scope : Scope} {dV kV doc pm cdv ct oc : Value} {an od : Option Addr}
    {osl : Array (Option Value)} {N ps : List Str} {sp : SpP} (lk : K.lookup f = some ⟨oc, od, .func (PySem.W.fnOf name qual params body scope dV kV doc pm an cdv ct), osl⟩) (hcd : PySem.W.codeIn K cdv qual = true) (S : FnScope N ps scope)
    (len : ∀ p vs H Q E, sp p vs H Q E → vs.length = ps.length)
    (hbody : ∀ (A : Around) (outer : List Env) (s : Shared) (H : Hp) (vs : List V) (Q : VK) (E : XK) (p : Addr × Obj), Hot1 A p → H p.1 = none → RoomH k (A.deeper (envOfC qual scope s.heap.objs.size f cdv)) → sp p vs H Q E →
      ∃ t, PSs (cxH CX P w K mg base N qual scope f cdv A outer s H E p) body t ∧ t { nx := fun _ H' => Q .non H', rt := Q } (L2.start N vs) H) :
    FnP P w K mg base CX (k + 1) f (PySem.W.fnOf name qual params body scope dV kV doc pm an cdv ct) ps sp := by
  constructor
  · exact len
  intro p A outer s H args us vs Q E hr hot hpin e0 hb r hsp
  have hl := len _ _ _ _ _ hsp
  have kk : ∀ b o, base.get? b = some o → s.heap.get? b = some o := fun b o e => (e0.bs b o e).1
  have KX := e0.mod.kin.keeps kk
  refine codeAny_call_function hr.depth (KX _ _ lk) rfl S.co S.gen rfl (PySem.W.codeRec_of KX hcd) (hb _ _ _ _ ?_)
  refine wpAny_newFunctionEnv_cells S.kind ?_ ?_
  · rintro ⟨n, v⟩ hy
    have hm := (List.of_mem_zip hy).1
    rcases S.par n hm with q | q
    · exact .inl q
    · exact .inr ⟨q, PySem.W.cellsFrom_some _ _ _ (.inl q)⟩
  rintro env rfl s1 x
  refine ⟨(e0.mod.nolimit.keeps kk).keeps x.toInCall.keep, codeAny_func ?_⟩
  obtain ⟨t, ht, hq⟩ := hbody A outer s H vs Q E p hot hpin.free (hr.deeper _) hsp
  have I := inv_startH (CX := CX) (qual := qual) (f := f) (cd := cdv) (E := E) S hpin e0 hl r x
  refine wpAny_mono (ht.run [] s1 (L2.start N vs) H _ I hq) ?_ fun e s' hs => hs
  intro fl s' hs
  cases fl
  case ret u =>
    obtain ⟨v, σ', H', J, rv, q⟩ := hs
    exact ⟨v, H', J.os, J.bare, J.base, J.hok, rv, q⟩
  case next =>
    obtain ⟨σ', H', J, q⟩ := hs
    exact ⟨V.non, H', J.os, J.bare, J.base, J.hok, rfl, q⟩
  case brk =>
    obtain ⟨_, _, _, q⟩ := hs
    exact q.elim
  case cont =>
    obtain ⟨_, _, _, q⟩ := hs
    exact q.elim
end HX

set_option Elab.async false
set_option linter.all false
set_option maxRecDepth 100000
namespace HX
open PySem PySem.Spec PyProof.Rows L2 HotX L2H LamX

/-- g(e) in a suite: g knows the exception p -/
theorem pe_callP {X : Cx} {k : Nat} {f : Addr} {fd : FuncData} {ps : List Str} {sp : SpP} {x : Str} {q pos : Pos} {e : Expr} {ta : TA} {p : Addr × Obj} (F : FnP X.prog X.w X.K X.mg X.base C8.CX0 k f fd ps sp) (hr : RoomH k X.A) (hot : Hot1 X.A p) (hp : p ∈ X.pn)
    (hg : Gl X x) (hm : X.mg x = some (.ref f)) (hk : PySem.W.keepIn X.K (.ref f) = true) (hb : Binds X.K fd ps []) (ha : PA X [e] ta) (hdb : (x == ("__debug__" : Str)) = false := by decide)
    (he : starEach [e] X.env = [(false, eval e X.env)] := by rfl) :
    PE X (.Call (.Name x q) [e] [] pos) (fun σ H Q => ta σ H fun vs H1 => sp p vs H1 Q C8.E0) := by
  constructor
  intro pins s σ H Q I h
  apply wpAny_Call_Name_kw
  refine ld_glob I hg hm ?_ hdb
  refine PySem.W.callWith_K (h₀ := X.base) I.ok.mod.kin hk ?_ he rfl
  refine thn (ha.run pos pins s σ H _ I h) ?_
  rintro us s1 ⟨vs, H1, I1, r, hq⟩
  refine ⟨I1.kIn, ?_⟩
  have hl := F.len _ _ _ _ _ hq
  have bt := hb s1 us I1.kIn (by rw [List.append_nil, ← r.length]; exact hl)
  rw [List.append_nil] at bt
  obtain ⟨p1, p2, p3, p4, p5⟩ := I1.pin p (List.mem_append_left _ hp)
  have pin : PinOk X.stack H1 s1 p := ⟨p1, p2, fun z => by
    rcases List.mem_cons.mp (I1.stkSub _ z) with y | y
    · exact p3 y
    · exact p4 y, p5⟩
  apply wpAny_call
  refine codeAny_mono (F.run p X.A X.stack s1 H1 ⟨us, []⟩ us vs Q C8.E0 hr hot pin I1.env0 bt r hq) ?_
  intro rs t ht
  match rs, ht with
  | .ok (.ret w), ht => exact I1.after ht
  | .ok .next, ht => exact ht.elim
  | .ok .brk, ht => exact ht.elim
  | .ok .cont, ht => exact ht.elim
  | .error _, ht => exact ht.elim

/-! ### a lambda whose exceptions are known to have no context -/
def lamN (X : Cx) (A : Around) (outer : List Env) (s : Shared) (H : Hp) (E : XK) (scope : Scope) (f c' : Addr) : Cx :=
  (lamCx X A outer s H E scope f c').wish fun e t => wpAny (model X.prog X.w) (A.deeper (lamEnv X scope s.heap.objs.size f c')) (leaving (lamEnv X scope s.heap.objs.size f c') e) (fun _ t' => L2N.CX X.prog X.w outer H s E e t') (fun e' t' => L2N.CX X.prog X.w outer H s E e' t') t

/-- what is known of the lambda that was made -/
structure Made (X : Cx) (params : Arguments) (body : Expr) (scope : Scope) (s : Shared) (H : Hp) (f c' : Addr) : Prop where
  obj : ∃ pm ctv, s.heap.get? f = some (PySem.W.kla_obj "<lambda>" (X.env.qual ++ "<lambda>") params body scope (cloFrom X.env.cells scope.names []) pm c' ctv)
  no : H f = none
  nf : f ∉ frs X.stack
  code : H c' = some (CodeO c' (X.env.qual ++ "<lambda>"))

/-- the lambda runs: called from a context Z over X's stack -/
theorem runLam {X Z : Cx} {pins pinsZ : List (Addr × Obj)} {σ σZ : L2.St} {H HZ : Hp} {s t : Shared} {params : Arguments} {body : Expr} {scope : Scope} {f c' : Addr} {k : Nat} {tb : TE} {E : XK} {Q : VK} {envZ : Env}
    (I : Inv X pins σ H s) (L : LamS X.env.scope scope) (hM : Made X params body scope s H f c') (hbind : ∀ (q : Str) (cl : List (Str × Addr)) (pm cv ctv : Value), bindArgs (PySem.W.kla_fn "<lambda>" q params body scope cl pm cv ctv) ⟨[], []⟩ = pure [])
    (IZ : Inv Z pinsZ σZ HZ t) (z1 : Z.prog = X.prog) (z2 : Z.w = X.w) (z3 : Z.K = X.K) (z4 : Z.mg = X.mg) (z5 : Z.base = X.base) (z6 : Z.stack = envZ :: X.stack) (z7 : Z.s_0 = s) (z8 : Z.H_0 = H) (z9 : Z.outer = X.stack) (z10 : Z.ex = [])
    (hr : Room (k + 1) Z.A) (hc : HZ c' = some (CodeO c' (X.env.qual ++ "<lambda>")))
    (hbody : ∀ (A : Around) (outer : List Env) (s : Shared) (H : Hp), Room k (A.deeper (lamEnv X scope s.heap.objs.size f c')) → PE (lamN X A outer s H E scope f c') body tb) (ht : tb σ HZ Q) :
    codeAny (model X.prog X.w) Z.A (.call (.ref f) ⟨[], []⟩) (CR (L2N.CX X.prog X.w) Z.stack X.prog X.w HZ t Q E) t := by
  obtain ⟨pm, ctv, hf⟩ := hM.obj
  have un : Un (frs X.stack) [] H HZ s.heap t.heap := by
    have b := IZ.base
    rw [z7, z8, z10] at b
    unfold Cx.fs at b
    rw [z9] at b
    exact b
  have f2 := un.keep f _ hf hM.no hM.nf (by simp)
  obtain ⟨⟨oc, vs, tt, hoc, hdc, hvc⟩, _, _⟩ := IZ.hok _ _ hc
  refine PySem.W.kla_callFunE hr.depth f2 rfl L.co L.gen rfl ⟨_, oc, vs, tt, rfl, hoc, hdc, hvc⟩ ?_
  rw [hbind]
  refine wpAny_pure (wpAny_newFunctionEnv (fun y hy => (L.own y hy).2) (by simp) ?_ L.kind)
  intro g hns sb
  refine ⟨IZ.nolimit.fresh _ sb, ?_⟩
  have kp : ∀ b o, t.heap.get? b = some o → g.get? b = some o := fun b o e => sb.extBut _ _ (Nat.ne_of_lt (Heap.lt_size e)) (Heap.get?_push_of_some _ e)
  have e0 := IZ.env0
  rw [z1, z2, z3, z4, z5] at e0
  have J := (lam_start2 (E := E) (c' := c') (f := f) (tk := t.toks + ([] : List (Str × Value)).length) I L e0 hr.hd un hns kp).wish (fun e t' => wpAny (model X.prog X.w) (Z.A.deeper (lamEnv X scope t.heap.objs.size f c')) (leaving (lamEnv X scope t.heap.objs.size f c') e)
    (fun _ t'' => L2N.CX X.prog X.w Z.stack HZ t E e t'') (fun e' t'' => L2N.CX X.prog X.w Z.stack HZ t E e' t'') t')
  apply PySem.W.kla_codeExpr
  refine wpAny_mono ((hbody Z.A Z.stack t HZ (hr.deeper _)).run [] _ _ HZ Q J ht) ?_ fun e s' hq => hq
  rintro v s' ⟨w', H', J', rv, q⟩
  exact ⟨w', H', J'.os, J'.bare, J'.base, J'.hok, rv, q⟩
end HX

set_option Elab.async false
set_option linter.all false
set_option maxRecDepth 100000
namespace HX
open PySem PySem.Spec PyProof.Rows L2 HotX L2H LamX

theorem tabs_more {T : List (Addr × Str)} {H : Hp} {P c : Addr} {q : Str} {ps : Array Value} {pos : Pos} (hT : Tabs T H) (hP : H P = some (.tbl ps)) (hc : H c = none) (hu : ∀ p ∈ T, p.1 = P → p.2 = q) :
    Tabs T (upd (upd H P (.tbl (ps ++ #[rawInt pos.line, rawInt pos.col, .ref c]))) c (CodeO c q)) := by
  have nPc := ne_of_none hP hc
  have kp : ∀ b o, b ≠ P → H b = some o → upd (upd H P (.tbl (ps ++ #[rawInt pos.line, rawInt pos.col, .ref c]))) c (CodeO c q) b = some o := fun b o n e => by
    rw [upd_ne (ne_of_none e hc), upd_ne n]; exact e
  intro r hr
  obtain ⟨rs, h1, h2, h3⟩ := hT r hr
  have code : ∀ {pos' : Pos} {cv : Value}, codeAmong pos' rs.toList = some cv → ∃ d, cv = .ref d ∧ upd (upd H P (.tbl (ps ++ #[rawInt pos.line, rawInt pos.col, .ref c]))) c (CodeO c q) d = some (CodeO d r.2) := fun {pos' cv} h => by
    obtain ⟨d, e1, e2⟩ := h3 pos' cv h
    refine ⟨d, e1, kp d _ (fun z => ?_) e2⟩
    rw [z, hP] at e2
    exact codeO_ne _ (Option.some.inj e2).symm
  by_cases hb : r.1 = P
  · rw [hb, hP] at h1
    obtain rfl : ps = rs := by cases h1; rfl
    refine ⟨_, by rw [hb, upd_ne nPc, upd_same], ?_, fun pos' cv h => ?_⟩
    · rw [Array.toList_append]
      exact PySem.TriplesOk_snoc _ _ _ _ h2
    · rw [Array.toList_append] at h
      rcases among_app _ h2 h with z | z
      · exact code z
      · exact ⟨c, z, by rw [upd_same, hu r hr hb]⟩
  · exact ⟨rs, kp _ _ hb h1, h2, fun pos' cv h => code h⟩

/-- a lambda is made: nothing that is told changes but its table -/
theorem mkLam {X : Cx} {pins : List (Addr × Obj)} {σ : L2.St} {H : Hp} {s : Shared} {T : List (Addr × Str)} {c P : Addr} {params : Arguments} {body : Expr} {scope : Scope} {pos : Pos} {E Q : Value → Shared → Prop} (I : Inv X pins σ H s) (TB : TabB X.base X.mg c P) (hcode : X.env.code = .ref c)
    (hm : (P, X.env.qual ++ "<lambda>") ∈ T) (hu : ∀ p ∈ T, p.1 = P → p.2 = X.env.qual ++ "<lambda>") (hT : Tabs T H) (hdef : defaultsOf params X.env = ([], [])) (L : LamS X.env.scope scope)
    (h : ∀ (f c' : Addr) (H1 : Hp) (s' : Shared), Inv X pins σ H1 s' → (∀ b o, b ≠ P → H b = some o → H1 b = some o) → Tabs T H1 → Made X params body scope s' H1 f c' → Q (.ref f) s') :
    wpAny (model X.prog X.w) X.A (eval (.Lambda params body scope pos) X.env) Q E s := by
  obtain ⟨ps, hP, ht, ha⟩ := hT _ hm
  have oP : s.heap.get? P = some { cls := .none, data := .fields ps } := I.hok P _ hP
  have bP : s.heap.BuiltinsAt X.mg P := TB.bm.keeps I.bk
  have away : ∀ {f}, s.heap.objs.size ≤ f → f ∉ frs X.stack := fun {f} hf z => by
    rcases List.mem_cons.mp (I.stkSub _ z) with e | e
    · exact absurd I.lt (by rw [← e]; exact Nat.not_lt.mpr hf)
    · exact I.nofs hf e
  apply PySem.W.kla_eval hdef
  have clo := closure_ok (L.has I.ok)
  cases hc : codeAmong pos ps.toList with
  | some cv =>
    obtain ⟨c', rfl, hco⟩ := ha pos cv hc
    apply PySem.W.kla_makeFunctionHit (mg := X.mg) (c := c) (P := P) (ps := ps) clo I.ok.glob (I.mod.glob.keeps I.bk) hcode (TB.code.keeps I.bk) oP ht hc bP
    intro ctv g tk hx hsz
    exact h g.objs.size c' H _ (I.kept fun b o e => Heap.get?_push_of_some _ (hx b o e)) (fun _ _ _ e => e) hT ⟨⟨_, _, Heap.get?_push_size _ rfl⟩, I.hok.fresh hsz, away hsz, hco⟩
  | none =>
    apply PySem.W.kla_makeFunction (mg := X.mg) (c := c) (P := P) (ps := ps) clo I.ok.glob (I.mod.glob.keeps I.bk) hcode (TB.code.keeps I.bk) oP ht hc TB.gP bP
    rintro c' ctv g tk hx hge hlt ⟨c2, oc, vs, t, e2, hoc, hd, hv⟩ htb
    obtain rfl : c2 = c' := by cases e2; rfl
    have nC : H c2 = none := I.hok.fresh hge
    have hsz := Nat.le_trans hge (Nat.le_of_lt hlt)
    refine h g.objs.size c2 _ _ (inv_table (q := X.env.qual ++ "<lambda>") (more := #[rawInt pos.line, rawInt pos.col, .ref c2]) (t' := tk) I hP (fun b o hb e => Heap.get?_push_of_some _ (hx b o hb e)) (Heap.get?_push_of_some _ htb) hge ⟨oc, vs, t, Heap.get?_push_of_some _ hoc, hd, hv⟩) ?_ (tabs_more hT hP nC hu) ⟨⟨_, _, Heap.get?_push_size _ rfl⟩, ?_, away hsz, upd_same⟩
    · intro b o hb e
      rw [upd_ne (ne_of_none e nC), upd_ne hb]; exact e
    · have hl := Heap.lt_size oP
      rw [upd_ne (Nat.ne_of_gt hlt), upd_ne (Nat.ne_of_gt (Nat.lt_of_lt_of_le hl hsz))]
      exact I.hok.fresh hsz
end HX

set_option Elab.async false
set_option linter.all false
set_option maxRecDepth 100000
namespace HX
open PySem PySem.Spec PyProof.Rows L2 HotX L2H LamX

/-- a(), in the def that got the lambda -/
theorem pe_actN {X : Cx} {pins : List (Addr × Obj)} {σ : L2.St} {H : Hp} {s : Shared} {CXg : CXT} {Eg : XK} {Ng : List Str} {qg : Str} {sg : Scope} {g f c' : Addr} {cdg : Value} {params : Arguments} {body : Expr} {scope : Scope} {k i : Nat} {a : Str} {pn : List (Addr × Obj)} {xe : Value → Shared → Prop}
    {W : WX} {E : XK} {tb : TE} {p1 p2 : Pos} (I : Inv X pins σ H s) (L : LamS X.env.scope scope) (hM : Made X params body scope s H f c')
    (hbind : ∀ (q : Str) (cl : List (Str × Addr)) (pm cv ctv : Value), bindArgs (PySem.W.kla_fn "<lambda>" q params body scope cl pm cv ctv) ⟨[], []⟩ = pure [])
    (tk : L2N.Takes ((cxOf CXg X.prog X.w X.K X.mg X.base Ng qg sg g cdg X.A X.stack s H Eg).tr pn xe) W) (hW : ∀ cls d τ H', E cls d H' → W cls d τ H') (hr : Room (k + 1) (X.A.deeper (envOfC qg sg s.heap.objs.size g cdg)))
    (hbody : ∀ (A : Around) (outer : List Env) (s : Shared) (H : Hp), Room k (A.deeper (lamEnv X scope s.heap.objs.size f c')) → PE (lamN X A outer s H E scope f c') body tb)
    (hN : Ng[i]? = some a) (hv : Vis sg a) (hd : (a == ("__debug__" : Str)) = false) (hcd : (a == ("__classdict__" : Str)) = false) :
    PE ((cxOf CXg X.prog X.w X.K X.mg X.base Ng qg sg g cdg X.A X.stack s H Eg).tr pn xe) (.Call (.Name a p1) [] [] p2)
      (fun τ HZ Q => τ[i]? = some (some (.ref f)) ∧ HZ c' = some (CodeO c' (X.env.qual ++ "<lambda>")) ∧ tb σ HZ Q) := by
  constructor
  rintro pinsZ t τ HZ Q IZ ⟨h1, h2, h3⟩
  apply wpAny_Call_Name_kw
  refine thn ((pe_var (pos := p1) (i := i) hN hv hd hcd).run pinsZ t τ HZ (fun v H1 => v = .ref f ∧ H1 = HZ) IZ ⟨.ref f, h1, rfl, rfl⟩) ?_
  rintro u t1 ⟨v, H1, I1, r1, rfl, rfl⟩
  have eu : u = Value.ref f := r1
  rw [eu]
  obtain ⟨pm, ctv, hf⟩ := hM.obj
  have f1 := I1.base.keep f _ hf hM.no hM.nf (show f ∉ ([] : List Addr) by simp)
  refine PySem.W.callWith_F0 ⟨_, _, _, _, f1⟩ ?_
  apply wpAny_call
  refine codeAny_mono (runLam (X := X) (Z := (cxOf CXg X.prog X.w X.K X.mg X.base Ng qg sg g cdg X.A X.stack s H Eg).tr pn xe) (E := E) (Q := Q) (tb := tb) (envZ := envOfC qg sg s.heap.objs.size g cdg) I L hM hbind I1 rfl rfl rfl rfl rfl rfl rfl rfl rfl rfl hr h2 hbody h3) ?_
  intro rs t2 ht
  match rs, ht with
  | .ok (.ret w), ht => exact I1.after ht
  | .ok .next, ht => exact ht.elim
  | .ok .brk, ht => exact ht.elim
  | .ok .cont, ht => exact ht.elim
  | .error e, ht => exact L2N.passes_call tk (fun cls d τ' H' h => hW cls d τ' H' h) pinsZ τ _ t1 e t2 I1 ht

/-- what told does with an exception: named by tm -/
def wTold (K : PySem.W.Frag) (CS : Addr) (spT : SpP) (Q : VK) : XK := fun cls d H' =>
  PySem.W.exmOne K cls (.ref CS) = some true ∧ ∀ (a : Addr) (oe : Obj), H' a = none → L2N.Zn cls d oe → (∃ vs, oe.data = .fields vs) → spT (a, oe) [.ref a] H' Q C8.E0
/-- x(lambda: body), x the def: try: return a() / except ex as en: return tm(en) -/
def tTold (K : PySem.W.Frag) (T : List (Addr × Str)) (P CS : Addr) (spT : SpP) (t : XK → TE) : TE := fun σ H Q => Tabs T H ∧ ∀ H1, (∀ b o, b ≠ P → H b = some o → H1 b = some o) → Tabs T H1 → t (wTold K CS spT Q) σ H1 Q

theorem pe_told {X : Cx} {T : List (Addr × Str)} {CS : Addr} {spT : SpP} {t : XK → TE} {x a ex en tm : Str} {g c P fT : Addr} {k kT : Nat} {pg : Arguments} {sg : Scope} {dV kV doc pm cdv ct oc : Value} {an od : Option Addr} {osl : Array (Option Value)} {Ng : List Str} {fdT : FuncData} {psT : List Str}
    {params : Arguments} {body : Expr} {scope : Scope} {p lpos pos p1 p2 p3 p4 p5 p6 p7 p8 p9 p10 : Pos} (hg : Gl X x) (hm : X.mg x = some (.ref g)) (hk : PySem.W.keepIn X.K (.ref g) = true)
    (lk : X.K.lookup g = some ⟨oc, od, .func (PySem.W.fnOf x x pg [.Try [.Return (some (.Call (.Name a p1) [] [] p2)) p3] [.ExceptHandler (some (.Name ex p4)) (some en) [.Return (some (.Call (.Name tm p5) [.Name en p6] [] p7)) p8] p9] [] [] p10] sg dV kV doc pm an cdv ct), osl⟩)
    (hcg : PySem.W.codeIn X.K cdv x = true) (hb : L2.Binds X.K (PySem.W.fnOf x x pg [.Try [.Return (some (.Call (.Name a p1) [] [] p2)) p3] [.ExceptHandler (some (.Name ex p4)) (some en) [.Return (some (.Call (.Name tm p5) [.Name en p6] [] p7)) p8] p9] [] [] p10] sg dV kV doc pm an cdv ct) [a] [])
    (Sg : FnScope Ng [a] sg) (hN0 : Ng[0]? = some a) (hN1 : Ng[1]? = some en) (hva : Vis sg a) (hve : sg.names.lookup en = some .local) (hgx : sg.names.lookup ex = some .globalImplicit) (hgt : sg.names.lookup tm = some .globalImplicit)
    (mx : X.mg ex = some (.ref CS)) (mt : X.mg tm = some (.ref fT)) (kt : PySem.W.keepIn X.K (.ref fT) = true) (hbT : L2.Binds X.K fdT psT []) (FT : FnP X.prog X.w X.K X.mg X.base C8.CX0 kT fT fdT psT spT) (hkT : kT ≤ k + 1)
    (TB : TabB X.base X.mg c P) (hcode : X.env.code = .ref c) (hmT : (P, X.env.qual ++ "<lambda>") ∈ T) (hu : ∀ p ∈ T, p.1 = P → p.2 = X.env.qual ++ "<lambda>") (hr : Room (k + 2) X.A) (L : LamS X.env.scope scope) (hdef : defaultsOf params X.env = ([], []))
    (hbind : ∀ (q : Str) (cl : List (Str × Addr)) (pm cv ctv : Value), bindArgs (PySem.W.kla_fn "<lambda>" q params body scope cl pm cv ctv) ⟨[], []⟩ = pure [])
    (hbody : ∀ (A : Around) (outer : List Env) (s : Shared) (H : Hp) (E : XK) (f c' : Addr), Room k (A.deeper (lamEnv X scope s.heap.objs.size f c')) → PE (lamN X A outer s H E scope f c') body (t E))
    (d1 : (x == ("__debug__" : Str)) = false) (d2 : (a == ("__debug__" : Str)) = false) (d3 : (a == ("__classdict__" : Str)) = false) (d4 : (ex == ("__debug__" : Str)) = false) (d5 : (tm == ("__debug__" : Str)) = false) (d6 : (en == ("__debug__" : Str)) = false) (d7 : (en == ("__classdict__" : Str)) = false) :
    PE X (.Call (.Name x p) [.Lambda params body scope lpos] [] pos) (tTold X.K T P CS spT t) := by
  constructor
  rintro pins s σ H Q I ⟨hT, h⟩
  apply wpAny_Call_Name_kw
  refine ld_glob I hg hm ?_ d1
  refine PySem.W.callWith_K (h₀ := X.base) I.ok.mod.kin hk ?_ rfl rfl
  show wpAny _ _ (spliced ((false, eval (.Lambda params body scope lpos) X.env) :: backTo pos (starEach [] X.env))) _ _ s
  apply Calls.spliced_cons
  refine mkLam I TB hcode hmT hu hT hdef L ?_
  intro f c' H1 s' I1 eN T1 hM
  refine Calls.spliced_nil ⟨I1.kIn, ?_⟩
  apply wpAny_call
  refine codeAny_mono (R := CR C8.CX0 X.stack X.prog X.w H1 s' Q C8.E0) ?_ ?_
  · refine run_ofS (N := Ng) (ps := [a]) (us := [.ref f]) (vs := [.ref f]) lk hcg Sg hr I1.env0 (hb s' [.ref f] I1.kIn rfl) (.cons rfl .nil) rfl fun hr' => ?_
    generalize hZ : (cxOf C8.CX0 X.prog X.w X.K X.mg X.base Ng x sg g cdv X.A X.stack s' H1 C8.E0) = Z
    have ts := L2N.ps_try_as (X := Z) (x := ex) (n := en) (c := .ref CS) (i := 1) (Wout := fun _ _ _ _ => False) (np := p4) (pos := p10) (pos' := p9)
      (body := [.Return (some (.Call (.Name a p1) [] [] p2)) p3]) (b₀ := .Return (some (.Call (.Name tm p5) [.Name en p6] [] p7)) p8) (suite := [])
      (tb := fun W D τ HZ => ∃ E : XK, (∀ cls d τ' H', E cls d H' → W cls d τ' H') ∧ τ[0]? = some (some (.ref f)) ∧ HZ c' = some (CodeO c' (X.env.qual ++ "<lambda>")) ∧ t E σ HZ D.rt)
      (ts := fun e cls d D τ HZ => (τ.length = Ng.length → τ[1]? = some (some (.ref e))) ∧ ∀ oe, L2N.Zn cls d oe → (∃ vs, oe.data = .fields vs) → spT (e, oe) [.ref e] HZ D.rt C8.E0)
      (by rw [← hZ]; rfl) (by rw [← hZ]; rfl) (by rw [← hZ]; exact Sg.nd) (by rw [← hZ]; exact hN1) (by rw [← hZ]; exact hve) (by rw [← hZ]; exact ⟨hgx, d4, .inl mx⟩) ?_ ?_ ?_
    · refine ⟨_, pss_one ts, ?_⟩
      refine ⟨wTold X.K CS spT Q, ?_, ?_, hM.code, h H1 eN T1⟩
      · rintro cls d τ' H' ⟨w1, w2⟩
        rw [← hZ]
        refine ⟨true, w1, fun _ e he => ⟨fun hl => ?_, fun oe => w2 e oe he⟩, fun z => nomatch z⟩
        rw [List.length_set] at hl
        exact List.getElem?_set_self (by rw [hl]; exact (List.getElem?_eq_some_iff.mp hN1).1)
      · rfl
    · rintro u t' ⟨_, _, _, _, _, _, _, _, _, _, _, _, _, _, _, _, z⟩
      exact z.elim
    · intro W pn xe tk _
      subst hZ
      constructor
      rintro pins2 t2 τ HZ D IZ ⟨E, hW, h1, h2, h3⟩
      exact (pss_one (ps_ret (pos := p3) (pe_actN (p1 := p1) (p2 := p2) I1 L hM hbind tk hW hr' (fun A o s H r => hbody A o s H E f c' r) hN0 hva d2 d3))).run pins2 t2 τ HZ D IZ ⟨h1, h2, h3⟩
    · intro e oe cls d pn hz hv
      subst hZ
      constructor
      rintro pins2 t2 τ HZ D IZ ⟨h1, h2⟩
      have rh : RoomH kT (X.A.deeper (envOfC x sg s'.heap.objs.size g cdv)) := (roomH_of hr').mono hkT
      obtain ⟨vs, hvs⟩ := hv
      refine (pss_one (ps_ret (pos := p8) (pe_callP (X := (cxOf C8.CX0 X.prog X.w X.K X.mg X.base Ng x sg g cdv X.A X.stack s' H1 C8.E0).suite e ((e, oe) :: pn)) (p := (e, oe)) (q := p5) (pos := p7) FT ⟨rh.dp, rh.un⟩ ⟨rfl, vs, hvs, hz.2.2 vs hvs⟩ List.mem_cons_self hgt mt kt hbT (pa_cons (pe_var (pos := p6) (i := 1) hN1 (.inl hve) d6 d7) pa_nil) d5))).run pins2 t2 τ HZ D IZ ?_
      exact ⟨.ref e, h1 IZ.len, h2 oe hz ⟨vs, hvs⟩⟩
  · intro rs t2 ht
    match rs, ht with
    | .ok (.ret w), ht => exact I1.after ht
    | .ok .next, ht => exact ht.elim
    | .ok .brk, ht => exact ht.elim
    | .ok .cont, ht => exact ht.elim
    | .error e, ht => exact ht.elim
end HX

set_option Elab.async false
set_option linter.all false
set_option maxRecDepth 100000
namespace HX
variable [DL.Tbs]
open PySem PySem.Spec PyProof.Rows L2 HotX L2H LamX DL

/-- a value, or an exception of the class D -/
inductive Res where
  | ok (r : Sl)
  | exc (D : Addr)
/-- what code that may raise comes to -/
def EvX (K : PySem.W.Frag) (t : XK → TE) (es : List Sl) (m : M) : Res → M → Prop
  | .ok r, m' => ∀ E, EvE K (t E) es m r m'
  | .exc D, m' => ∀ σ H H0 ρ, Wd K H0 H ρ m → EnvS K H0 ρ σ es → ∀ (Q : VK) (E : XK), (∀ H' H0', Stp ρ.length ρ H0 H ρ H0' H' → Wd K H0' H' ρ m' → E (.ref D) none H') → t E σ H Q

/-- what naming an exception comes to: class D, named by y -/
def spTerm (K : PySem.W.Frag) (R : Addr → PyData → Prop) : SpP := fun p vs H Q _ => vs = [.ref p.1] ∧ ∃ D y H0 ρ m, R D y ∧ L2N.Zn (.ref D) none p.2 ∧ (∃ vs, p.2.data = .fields vs) ∧ Wd K H0 H ρ m ∧
  ∀ v H' H0', Stp ρ.length ρ H0 H ρ H0' H' → Wd K H0' H' ρ m → Dp K H0' v y → Q v H'

section
variable {K : PySem.W.Frag} {es : List Sl} {m m1 : M} {t : XK → TE}
/-- a lambda's making, in the world -/
theorem lamWd {P : Addr} {q : Str} {H H1 H0 : Hp} {ρ : List Addr} (hm : (P, q) ∈ Tbs.T) (w : Wd K H0 H ρ m) (k : ∀ b o, b ≠ P → H b = some o → H1 b = some o) (t1 : Tabs Tbs.T H1) : Wd K H0 H1 ρ m ∧ Stp ρ.length ρ H0 H ρ H0 H1 := by
  obtain ⟨ps, hP, _⟩ := w.tab _ hm
  obtain ⟨ps1, hP1, _⟩ := t1 _ hm
  have k0 : ∀ b o, H b = some o → (∀ ps, o ≠ .tbl ps) → H1 b = some o := fun b o e n => k b o (fun z => by
    rw [z, hP] at e
    exact n ps (Option.some.inj e).symm) e
  have n0 : H0 P = none := w.nT _ hm
  refine ⟨⟨fun b o e => k b o (fun z => by rw [z, n0] at e; cases e) (w.ex b o e), w.len, w.nd, fun j p ds a b => ?_, t1, w.nT⟩, ⟨Evl.Ex.refl _, fun b o e _ n => k0 b o e n, fun b e => ?_, fun b o h => .inl h, rfl, fun b h => .inl h⟩⟩
  · obtain ⟨h1, vs, h2, h3⟩ := w.cel j p ds a b
    exact ⟨h1, vs, k0 _ _ h2 (fun _ z => nomatch z), h3⟩
  · cases q : H b with
    | none => rfl
    | some o =>
      by_cases hb : b = P
      · rw [hb, hP1] at e; cases e
      · rw [k b o hb q] at e; cases e

theorem ev_told {P CS D : Addr} {q : Str} {R : Addr → PyData → Prop} {y : PyData} (hm : (P, q) ∈ Tbs.T) (h : EvX K t es m (.exc D) m1) (hx : PySem.W.exmOne K (.ref D) (.ref CS) = some true) (hR : R D y) : EvE K (tTold K Tbs.T P CS (spTerm K R) t) es m (.d y) m1 := by
  intro σ H H0 ρ w e Q q
  refine ⟨w.tab, fun H1 k1 t1 => ?_⟩
  obtain ⟨w1, s1⟩ := lamWd hm w k1 t1
  refine h σ H1 H0 ρ w1 e Q _ fun H2 H02 s2 w2 => ⟨hx, fun a oe ha hz hv => ⟨rfl, D, y, H02, ρ, m1, hR, hz, hv, w2, fun v H3 H03 s3 w3 k3 => ?_⟩⟩
  exact q v H3 H03 (s1.trans w1.nd (s2.trans w2.nd s3)) w3 k3
theorem ev_told0 {P CS : Addr} {q : Str} {R : Addr → PyData → Prop} {r : Sl} (hm : (P, q) ∈ Tbs.T) (h : EvX K t es m (.ok r) m1) : EvE K (tTold K Tbs.T P CS (spTerm K R) t) es m r m1 := by
  intro σ H H0 ρ w e Q q
  refine ⟨w.tab, fun H1 k1 t1 => ?_⟩
  obtain ⟨w1, s1⟩ := lamWd hm w k1 t1
  exact h _ σ H1 H0 ρ w1 e Q fun v H2 H02 s2 w2 k2 => q v H2 H02 (s1.trans w1.nd s2) w2 k2

/-! ### in the suite: isinstance, sum, index -/
theorem ev_isE {a D : Addr} {c : V} {cv : Value} {b : Bool} {ta : TA} (h : EvA K ta es m [.v (.ref a), .v c] m1) (hc : ∀ u, RelV c u → u = cv) (hk : PySem.W.kitOne K (.ref D) cv = some b) : EvE K (tCB (rIsE K D a) ta) es m (.d (.bool b)) m1 := by
  intro σ H H0 ρ w e Q q
  refine h σ H H0 ρ w e _ fun vs H' H0' s' w' kv => ?_
  cases kv with
  | cons k1 k2 =>
    cases k2 with
    | cons k3 k4 =>
      cases k4
      have k1 : _ = V.ref a := k1
      have k3 : _ = c := k3
      subst k1; subst k3
      exact ⟨_, cv, b, rfl, hc, hk, q _ H' H0' s' w' (.bl b)⟩
theorem bools : ∀ {H0 : Hp} {vs : List V} {bs : List Bool}, DpAll K H0 vs (bs.map .bool) → vs = bs.map V.bl
  | _, _, [], h => by cases h; rfl
  | _, _, b :: bs, h => by
    cases h with
    | cons a t =>
      cases a
      rw [bools t]
      rfl
theorem ev_sumB {i : Nat} {bs : List Bool} (h : es[i]? = some (.d (.list (bs.map .bool)))) : EvE K (tSumB K i) es m (.d (.int (preSum (fun i => b2i (bs.getD i false)) bs.length))) m := by
  intro σ H H0 ρ w e Q q
  rcases e.2 i _ h with z | ⟨v, h1, h2⟩
  · cases z
  · have h2 : Dp K H0 v (.list (bs.map .bool)) := h2
    cases h2 with
    | lst hs ha =>
      rw [bools ha] at hs
      exact ⟨_, bs, h1, Evl.ex_l w.ex hs, q _ H H0 .refl w (.int _)⟩
end
end HX

set_option Elab.async false
set_option linter.all false
set_option maxRecDepth 100000
namespace HX
variable [DL.Tbs]
open PySem PySem.Spec PyProof.Rows L2 HotX L2H LamX DL
section
variable {K : PySem.W.Frag} {es : List Sl} {m m1 m2 : M} {te : TE} {ta : TA}
/-- [..] as a new list -/
theorem el_lst {rs : List Sl} {ds : List PyData} (h : EvA K ta es m rs m1) (e : rs = ds.map .d) (hl : ds.length ≤ 1000) : EvL K (tLst ta) es m ds m1 := by
  subst e
  intro σ H H0 ρ w ee Q q
  refine h σ H H0 ρ w ee _ fun vs H' H0' s' w' kv => ?_
  have hd := slAll_d kv
  refine ⟨Nat.le_of_lt (small1000 (by rw [dpAll_len hd]; exact hl)), fun p hp => ?_⟩
  have h0 := Evl.fresh_back w'.ex hp
  have hH : H p = none := s'.dom p hp
  exact q p vs _ H0' (s'.off hH) (w'.off h0 (w'.notin hp) (.inl hp)) hH h0 (w'.notin hp) upd_same hd
/-- x + [..], x a cell -/
theorem el_cat {i j : Nat} {xs ds : List PyData} (hi : es[i]? = some (.c j)) (h : EvL K te es m ds m1) (hm : m1[j]? = some xs) (hl : xs.length + ds.length ≤ 1000) : EvL K (tOp (rAddU K) (tVar i) te) es m (xs ++ ds) m1 := by
  intro σ H H0 ρ w e Q q
  rcases e.2 i _ hi with z | ⟨v, h1, p, rfl, h2⟩
  · cases z
  refine ⟨_, h1, h σ H H0 ρ w e _ fun b us H' H0' s' w' f1 f2 f3 f4 f5 => ?_⟩
  obtain ⟨vs, g1, g2⟩ := cell_get w' h2 hm
  refine .inr (.inr ⟨p, b, vs, us, rfl, rfl, g1, f4, Nat.le_of_lt (small1000 (by rw [dpAll_len g2, dpAll_len f5]; exact hl)), fun r hr => ?_⟩)
  have h0 := Evl.fresh_back w'.ex hr
  have hH : H r = none := s'.dom r hr
  exact q r _ _ H0' (s'.off hH) (w'.off h0 (w'.notin hr) (.inl hr)) hH h0 (w'.notin hr) upd_same (dpAll_app g2 f5)
theorem up_get {j : Nat} {x a : List PyData} (h : m[j]? = some x) : (m ++ [a])[j]? = some x := by
  rw [List.getElem?_append_left (List.getElem?_eq_some_iff.mp h).1]; exact h
theorem ev_sumC {i j : Nat} {bs : List Bool} {n : Int} (h : es[i]? = some (.c j)) (hm : m[j]? = some (bs.map .bool)) (hn : preSum (fun i => b2i (bs.getD i false)) bs.length = n) : EvE K (tSumB K i) es m (.d (.int n)) m := by
  intro σ H H0 ρ w e Q q
  rcases e.2 i _ h with z | ⟨v, h1, p, rfl, h2⟩
  · cases z
  obtain ⟨vs, g1, g2⟩ := cell_get w h2 hm
  rw [bools g2] at g1
  exact ⟨p, bs, h1, .inl (.inl g1), q _ H H0 .refl w (hn ▸ .int _)⟩
theorem ev_indexC {i j k : Nat} {bs : List Bool} (h : es[i]? = some (.c j)) (hm : m[j]? = some (bs.map .bool)) (hk : bs[k]? = some true) (hb : ∀ l, l < k → bs[l]? = some false) : EvE K (tBM K "list" (rIndex K) (tVar i) (tCons (tC (.bl true)) tNil)) es m (.d (.int (k : Nat))) m := by
  intro σ H H0 ρ w e Q q
  rcases e.2 i _ h with z | ⟨v, h1, p, rfl, h2⟩
  · cases z
  obtain ⟨vs, g1, g2⟩ := cell_get w h2 hm
  rw [bools g2] at g1
  have hS : SqL K H p (bs.map V.bl) := .inl (.inl g1)
  refine ⟨_, h1, .inl ⟨rfl, _, hS⟩, p, bs.map V.bl, .bl true, k, .bl true, rfl, rfl, hS, rfl, ?_, ?_, rfl, ?_, q _ H H0 .refl w (.int _)⟩
  · exact List.all_eq_true.mpr fun x hx => by
      obtain ⟨b, _, rfl⟩ := List.mem_map.mp hx
      rfl
  · rw [List.getElem?_map, hk]; rfl
  · intro l z' hl hz
    rw [List.getElem?_map, hb l hl] at hz
    cases hz
    rfl
/-- an item of a cell -/
theorem ev_cixE {i j l : Nat} {k : Int} {ds : List PyData} {d : PyData} (hi : es[i]? = some (.c j)) (h : EvE K te es m (.d (.int k)) m) (hm : m[j]? = some ds) (hk : k = (l : Int)) (hd : ds[l]? = some d) : EvE K (tOp (rIx K) (tVar i) te) es m (.d d) m := by
  intro σ H H0 ρ w e Q q
  rcases e.2 i _ hi with z | ⟨v, h1, p, rfl, h2⟩
  · cases z
  refine ⟨_, h1, h σ H H0 ρ w e _ fun u H' H0' s' w' ku => ?_⟩
  have ku : Dp K H0' u (.int k) := ku
  cases ku
  obtain ⟨vs, g1, g2⟩ := cell_get w' h2 hm
  obtain ⟨v, hv, kv⟩ := dpAll_get' g2 hd
  exact .inl ⟨_, _, _, v, rfl, rfl, .inl (.inl g1), at_of hk hv, q v H' H0' s' w' kv⟩
theorem pre_of {α : Type} {a b : List α} (h : a <+: b) : ∃ c, b = a ++ c := by
  obtain ⟨c, e⟩ := h
  exact ⟨c, e.symm⟩
theorem sv_retA {n : Nat} {r : Sl} (h : EvE K te es m r m2) (e : m1 <+: m2) : Sv K n (tRet te) es m (.ret r m1) := by
  obtain ⟨c, e⟩ := e
  exact sv_ret (ml := c) (e.symm ▸ h)
/-- a def's own cells are gone at its end -/
theorem retBack {ρ ρ' : List Addr} {H0 H H0' H' : Hp} {ml : M} (w : Wd K H0 H ρ m) (s : Stp ρ.length ρ H0 H ρ' H0' H') (w2 : Wd K H0' H' ρ' (m ++ ml)) : Stp ρ.length ρ H0 H ρ H0' H' ∧ Wd K H0' H' ρ m := by
  have e : ρ'.take ρ.length = ρ := by rw [s.pre, List.take_length]
  constructor
  · refine ⟨s.ex, s.keep, s.dom, fun b o z => (s.fresh b o z).imp id (Or.imp id fun y => ?_), rfl, fun b z => .inl z⟩
    exact y
  · refine ⟨w2.ex, w.len, w.nd, fun j p ds h1 h2 => ?_, w2.tab, w2.nT⟩
    have hj := (List.getElem?_eq_some_iff.mp h2).1
    apply w2.cel j p ds
    · rw [← e, List.getElem?_take_of_lt (by rw [w.len]; exact hj)] at h1
      exact h1
    · rw [List.getElem?_append_left hj]; exact h2
/-- isinstance's class, by its name -/
theorem ev_cls {C : Addr} : EvE K (tC (.ref C)) es m (.v (.ref C)) m := ev_c fun _ _ => rfl
theorem eb_val' : True := trivial
end

/-! ### the classes of errors -/
abbrev kinds : List Str := ["InvalidNumber", "InvalidPoint", "InvalidShape", "InvalidLayer", "InvalidDrawing", "InvalidRegion", "InvalidPlan", "InvalidIndex", "InvalidBox", "InvalidMove", "InvalidText", "OnEdge", "Blank", "TooMany", "NothingToUndo"]
structure Cs where
  InvalidNumber : Addr
  InvalidPoint : Addr
  InvalidShape : Addr
  InvalidLayer : Addr
  InvalidDrawing : Addr
  InvalidRegion : Addr
  InvalidPlan : Addr
  InvalidIndex : Addr
  InvalidBox : Addr
  InvalidMove : Addr
  InvalidText : Addr
  OnEdge : Addr
  Blank : Addr
  TooMany : Addr
  NothingToUndo : Addr
  PictureError : Addr
def Cs.all (c : Cs) : List Addr := [c.InvalidNumber, c.InvalidPoint, c.InvalidShape, c.InvalidLayer, c.InvalidDrawing, c.InvalidRegion, c.InvalidPlan, c.InvalidIndex, c.InvalidBox, c.InvalidMove, c.InvalidText, c.OnEdge, c.Blank, c.TooMany, c.NothingToUndo]
structure CsOk (mg : Str → Option Value) (c : Cs) : Prop where
  InvalidNumber : mg "InvalidNumber" = some (.ref c.InvalidNumber)
  InvalidPoint : mg "InvalidPoint" = some (.ref c.InvalidPoint)
  InvalidShape : mg "InvalidShape" = some (.ref c.InvalidShape)
  InvalidLayer : mg "InvalidLayer" = some (.ref c.InvalidLayer)
  InvalidDrawing : mg "InvalidDrawing" = some (.ref c.InvalidDrawing)
  InvalidRegion : mg "InvalidRegion" = some (.ref c.InvalidRegion)
  InvalidPlan : mg "InvalidPlan" = some (.ref c.InvalidPlan)
  InvalidIndex : mg "InvalidIndex" = some (.ref c.InvalidIndex)
  InvalidBox : mg "InvalidBox" = some (.ref c.InvalidBox)
  InvalidMove : mg "InvalidMove" = some (.ref c.InvalidMove)
  InvalidText : mg "InvalidText" = some (.ref c.InvalidText)
  OnEdge : mg "OnEdge" = some (.ref c.OnEdge)
  Blank : mg "Blank" = some (.ref c.Blank)
  TooMany : mg "TooMany" = some (.ref c.TooMany)
  NothingToUndo : mg "NothingToUndo" = some (.ref c.NothingToUndo)
  PictureError : mg "PictureError" = some (.ref c.PictureError)
/-- D is the class of errors that stands at place k -/
structure ErrD (K : PySem.W.Frag) (c : Cs) (k : Nat) (D : Addr) : Prop where
  exc : ExcC K D
  tests : c.all.map (fun C => PySem.W.kitOne K (.ref D) (.ref C)) = (List.range 15).map fun i => some (i == k)
  value : PySem.W.kitOne K (.ref D) (.type "ValueError") = some true
  caught : PySem.W.exmOne K (.ref D) (.ref c.PictureError) = some true
theorem ErrD.test {K : PySem.W.Frag} {c : Cs} {k D : Nat} (e : ErrD K c k D) (i : Nat) {C : Addr} (h : c.all[i]? = some C) : PySem.W.kitOne K (.ref D) (.ref C) = some (i == k) := by
  have z := congrArg (fun l => l[i]?) e.tests
  simp only [List.getElem?_map, h, Option.map_some] at z
  have hi : i < 15 := (List.getElem?_eq_some_iff.mp h).1
  rw [List.getElem?_range hi] at z
  exact Option.some.inj z
end HX

set_option Elab.async false
set_option linter.all false
set_option maxRecDepth 100000
namespace HX
variable [DL.Tbs]
open PySem PySem.Spec PyProof.Rows L2 HotX L2H LamX DL

/-! ### defs that may raise -/
def SpRes (K : PySem.W.Frag) (ρ : List Addr) (H0 H : Hp) (m' : M) (Q : VK) (E : XK) : Res → Prop
  | .ok r => ∀ v H' H0', Stp ρ.length ρ H0 H ρ H0' H' → Wd K H0' H' ρ m' → SlOk K H0' ρ v r → Q v H'
  | .exc D => ∀ H' H0', Stp ρ.length ρ H0 H ρ H0' H' → Wd K H0' H' ρ m' → E (.ref D) none H'
def spX (K : PySem.W.Frag) (n : Nat) (g : List Sl → M → Res → M → Prop) : Sp := fun vs H Q E => vs.length = n ∧ ∃ H0 ρ m rs res m', Wd K H0 H ρ m ∧ SlAll K H0 ρ vs rs ∧ g rs m res m' ∧ SpRes K ρ H0 H m' Q E res
abbrev DefX (P : Program) (w : World) (K : PySem.W.Frag) (mg : Str → Option Value) (base : Heap) (k : Nat) (x : Str) (ps : List Str) (g : List Sl → M → Res → M → Prop) : Prop := DefC P w K mg base (L2N.CX P w) k x ps (spX K ps.length g)
theorem passN0 {X : Cx} : Passes (L2N.CX X.prog X.w) X C8.E0 := fun _ _ _ _ _ _ _ ⟨_, _, _, _, _, _, _, _, _, _, _, _, z⟩ => z.elim
theorem takesN {P : Program} {w : World} {K : PySem.W.Frag} {mg : Str → Option Value} {base : Heap} {N : List Str} {q : Str} {sc : Scope} {f : Addr} {cd : Value} {A : Around} {outer : List Env} {s : Shared} {H : Hp} {E : XK} :
    L2N.Takes (cxOf (L2N.CX P w) P w K mg base N q sc f cd A outer s H E) (fun cls d _ H => E cls d H) := L2N.takes_of rfl rfl rfl rfl
theorem passN {P : Program} {w : World} {K : PySem.W.Frag} {mg : Str → Option Value} {base : Heap} {N : List Str} {q : Str} {sc : Scope} {f : Addr} {cd : Value} {A : Around} {outer : List Env} {s : Shared} {H : Hp} {E : XK} :
    Passes (L2N.CX P w) (cxOf (L2N.CX P w) P w K mg base N q sc f cd A outer s H E) E := L2N.passes_call takesN fun _ _ _ _ h => h

section
variable {K : PySem.W.Frag} {es : List Sl} {m m1 m2 : M} {t : XK → TE} {tt : TT} {n : Nat}
/-- a call that may raise -/
theorem ex_call {g : List Sl → M → Res → M → Prop} {ta : TA} {rs : List Sl} {D : Addr} (h : EvA K ta es m rs m1) (hg : g rs m1 (.exc D) m2) (hn : rs.length = n) : EvX K (fun E => tCall (spX K n g) [] E ta) es m (.exc D) m2 := by
  intro σ H H0 ρ w e Q E q
  refine h σ H H0 ρ w e _ fun vs H' H0' s' w' kv => ?_
  rw [List.append_nil]
  exact ⟨by rw [kv.length]; exact hn, H0', ρ, m1, rs, .exc D, m2, w', kv, hg, fun H2 H02 s2 w2 => q H2 H02 (s'.trans w'.nd s2) w2⟩
theorem ok_call {g : List Sl → M → Res → M → Prop} {ta : TA} {rs : List Sl} {r : Sl} {E : XK} (h : EvA K ta es m rs m1) (hg : g rs m1 (.ok r) m2) (hn : rs.length = n) : EvE K (tCall (spX K n g) [] E ta) es m r m2 := by
  intro σ H H0 ρ w e Q q
  refine h σ H H0 ρ w e _ fun vs H' H0' s' w' kv => ?_
  rw [List.append_nil]
  exact ⟨by rw [kv.length]; exact hn, H0', ρ, m1, rs, .ok r, m2, w', kv, hg, fun v H2 H02 s2 w2 k2 => q v H2 H02 (s'.trans w'.nd s2) w2 k2⟩
/-- statements that raise -/
def SvX (K : PySem.W.Frag) (n : Nat) (t : XK → TS) (es : List Sl) (m : M) (D : Addr) (m' : M) : Prop := ∀ σ H H0 ρ, n ≤ ρ.length → Wd K H0 H ρ m → EnvS K H0 ρ σ es → ∀ (Dn : Ends) (E : XK), (∀ ρ' H' H0' ml, Stp n ρ H0 H ρ' H0' H' → Wd K H0' H' ρ' (m' ++ ml) → E (.ref D) none H') → t E Dn σ H
theorem sx_raise {D : Addr} {c : Addr} (h : D = c) : SvX K n (fun E => fun _ σ H => (fun (_ : L2.St) (H : Hp) (Q : XK) => Q (.ref c) none H) σ H fun cls d H' => E cls d H') es m D m := by
  subst h
  intro σ H H0 ρ hn w e Dn E q
  exact q ρ H H0 [] .refl (by rw [List.append_nil]; exact w)
theorem sx_ifT {a b : XK → TS} {D : Addr} (h : EvB K tt es m true m1) (h1 : SvX K n a es m1 D m2) : SvX K n (fun E => tIfS tt (a E) (b E)) es m D m2 := by
  intro σ H H0 ρ hn w e Dn E q
  refine h σ H H0 ρ w e _ fun H1 H01 s1 w1 => iteT (h1 σ H1 H01 ρ hn w1 (e.mono s1.ex) Dn E fun ρ' H' H0' ml s' w' => q ρ' H' H0' ml (s1.low.trans w1.nd s') w')
theorem sx_ifF {a b : XK → TS} {D : Addr} (h : EvB K tt es m false m1) (h1 : SvX K n b es m1 D m2) : SvX K n (fun E => tIfS tt (a E) (b E)) es m D m2 := by
  intro σ H H0 ρ hn w e Dn E q
  refine h σ H H0 ρ w e _ fun H1 H01 s1 w1 => iteF (h1 σ H1 H01 ρ hn w1 (e.mono s1.ex) Dn E fun ρ' H' H0' ml s' w' => q ρ' H' H0' ml (s1.low.trans w1.nd s') w')
theorem sx_drop {D : Addr} (h : EvX K t es m (.exc D) m1) : SvX K n (fun E => tDrop (t E)) es m D m1 := by
  intro σ H H0 ρ hn w e Dn E q
  exact h σ H H0 ρ w e _ E fun H1 H01 s1 w1 => q ρ H1 H01 [] s1.low (by rw [List.append_nil]; exact w1)
theorem sx_ret {D : Addr} (h : EvX K t es m (.exc D) m1) : SvX K n (fun E => tRet (t E)) es m D m1 := by
  intro σ H H0 ρ hn w e Dn E q
  exact h σ H H0 ρ w e _ E fun H1 H01 s1 w1 => q ρ H1 H01 [] s1.low (by rw [List.append_nil]; exact w1)
/-- the first of two raises -/
theorem sx_fst {a b : XK → TS} {D : Addr} (h : SvX K n a es m D m1) : SvX K n (fun E => tSeq (a E) (b E)) es m D m1 := fun σ H H0 ρ hn w e Dn E q => h σ H H0 ρ hn w e _ E q
theorem sx_snd {a b : XK → TS} {D : Addr} {es1 : List Sl} (h : ∀ E, Sv K n (a E) es m (.nx es1 m1)) (h2 : SvX K n b es1 m1 D m2) : SvX K n (fun E => tSeq (a E) (b E)) es m D m2 := by
  intro σ H H0 ρ hn w e Dn E q
  exact h E σ H H0 ρ hn w e _ fun σ1 ρ1 H1 H01 s1 w1 e1 => h2 σ1 H1 H01 ρ1 (pre_len hn s1) w1 e1 Dn E fun ρ' H' H0' ml s' w' => q ρ' H' H0' ml (s1.trans w1.nd s') w'
end

/-- what a body comes to -/
def BodyR (K : PySem.W.Frag) (n : Nat) (t : XK → TS) (es : List Sl) (m : M) : Res → M → Prop
  | .ok r, m' => (∀ E, Sv K n (t E) es m (.ret r m')) ∨ (r = .d .none ∧ ∃ es', ∀ E, Sv K n (t E) es m (.nx es' m'))
  | .exc D, m' => SvX K n t es m D m'
def Res.plain : Res → Bool
  | .ok r => r.plain
  | .exc _ => true
theorem mkDefX {P : Program} {w : World} {K : PySem.W.Frag} {mg : Str → Option Value} {base : Heap} {x : Str} {st : Stmt} {N ps : List Str} {k : Nat} {g : List Sl → M → Res → M → Prop} (T : DefT K mg x st ps) (S : FnScope N ps (defScope st))
    (hg : ∀ rs m r m', g rs m r m' → m'.length = m.length ∧ r.plain = true)
    (hb : ∀ (f : Addr) (cdv : Value) (A : Around) (outer : List Env) (s : Shared) (H : Hp), Room k (A.deeper (envOfC x (defScope st) s.heap.objs.size f cdv)) →
      ∃ t : XK → TS, (∀ E, PSs (cxOf (L2N.CX P w) P w K mg base N x (defScope st) f cdv A outer s H E) (defBody st) (t E)) ∧ ∀ rs m r m', rs.length = ps.length → g rs m r m' → BodyR K m.length t (rs ++ List.replicate (N.length - rs.length) .no) m r m') :
    DefX P w K mg base (k + 1) x ps g := by
  obtain ⟨f, fd, F, hm, hB⟩ := T.ex
  refine ⟨f, fd, ?_, hm, F.kp, hB⟩
  obtain ⟨oc, od, kV, doc, pm, an, cdv, ct, osl, rfl, lk, hcd⟩ := F.ex
  refine fn_of lk hcd S (fun vs H Q E h => h.1) fun A outer s H vs Q E hr h => ?_
  obtain ⟨t, ht, q⟩ := hb f cdv A outer s H hr
  refine ⟨t E, ht E, ?_⟩
  obtain ⟨hl, H0, ρ, m, rs, r, m', w', kv, hgr, hq⟩ := h
  obtain ⟨hgl, hgp⟩ := hg rs m r m' hgr
  have wb := q rs m r m' (by rw [← kv.length]; exact hl) hgr
  have back : ∀ {ρ' : List Addr} {H' H0' : Hp} {ml : M}, Stp m.length ρ H0 H ρ' H0' H' → Wd K H0' H' ρ' (m' ++ ml) → Stp ρ.length ρ H0 H ρ H0' H' ∧ Wd K H0' H' ρ m' := fun {ρ' H' H0' ml} s' w2 => by
    rw [← w'.len] at s'
    have e : ρ'.take ρ.length = ρ := by rw [s'.pre, List.take_length]
    refine ⟨⟨s'.ex, s'.keep, s'.dom, fun b o z => s'.fresh b o z, rfl, fun b z => .inl z⟩, ⟨w2.ex, by rw [w'.len, hgl], w'.nd, fun j p ds h1 h2 => ?_, w2.tab, w2.nT⟩⟩
    have hj := (List.getElem?_eq_some_iff.mp h2).1
    apply w2.cel j p ds
    · rw [← e, List.getElem?_take_of_lt (by rw [w'.len, ← hgl]; exact hj)] at h1
      exact h1
    · rw [List.getElem?_append_left hj]; exact h2
  have n0 : m.length ≤ ρ.length := by rw [w'.len]; exact Nat.le_refl _
  cases r with
  | exc D => exact wb (L2.start N vs) H H0 ρ n0 w' (start_env kv) _ E fun ρ' H' H0' ml s' w2 => hq H' H0' (back s' w2).1 (back s' w2).2
  | ok r =>
    rcases wb with wb | ⟨rfl, es', wb⟩
    · exact wb E (L2.start N vs) H H0 ρ n0 w' (start_env kv) _ fun v ρ' H' H0' ml s' w2 k2 => hq v H' H0' (back s' w2).1 (back s' w2).2 (slOk_plain hgp k2)
    · exact wb E (L2.start N vs) H H0 ρ n0 w' (start_env kv) _ fun σ' ρ' H' H0' s' w2 e2 => hq .non H' H0' (back (ml := []) s' (by rw [List.append_nil]; exact w2)).1 (back (ml := []) s' (by rw [List.append_nil]; exact w2)).2 .non
end HX

set_option Elab.async false
set_option linter.all false
set_option maxRecDepth 100000
namespace HX
variable [DL.Tbs]
open PySem PySem.Spec PyProof.Rows L2 HotX L2H LamX DL

/-! ### defs of which only this is told: what comes of a good start is good -/
def DefE (P : Program) (w : World) (K : PySem.W.Frag) (mg : Str → Option Value) (base : Heap) (k : Nat) (x : Str) (ps : List Str) (Pre : List Sl → M → Prop) (Post : List Sl → M → Sl → M → Prop) : Prop :=
  ∃ g : List Sl → M → Sl → M → Prop, (∀ rs m, Pre rs m → ∃ r m', g rs m r m' ∧ Post rs m r m') ∧ DefC P w K mg base CX0 k x ps (spD K ps.length g)
theorem mkDefE {P : Program} {w : World} {K : PySem.W.Frag} {mg : Str → Option Value} {base : Heap} {x : Str} {st : Stmt} {N ps : List Str} {k : Nat} {Pre : List Sl → M → Prop} {Post : List Sl → M → Sl → M → Prop} (T : DefT K mg x st ps) (S : FnScope N ps (defScope st))
    (hb : ∃ t, (∀ (f : Addr) (cdv : Value) (A : Around) (outer : List Env) (s : Shared) (H : Hp) (E : XK), Room k (A.deeper (envOfC x (defScope st) s.heap.objs.size f cdv)) → PSs (cxOf CX0 P w K mg base N x (defScope st) f cdv A outer s H E).nox (defBody st) t) ∧
      ∀ rs m, Pre rs m → ∃ r m', Sv K m.length t (rs ++ List.replicate (N.length - rs.length) .no) m (.ret r m') ∧ m'.length = m.length ∧ r.plain = true ∧ Post rs m r m') : DefE P w K mg base (k + 1) x ps Pre Post := by
  obtain ⟨t, ht, q⟩ := hb
  refine ⟨fun rs m r m' => Sv K m.length t (rs ++ List.replicate (N.length - rs.length) .no) m (.ret r m') ∧ m'.length = m.length ∧ r.plain = true, fun rs m h => ?_, ?_⟩
  · obtain ⟨r, m', h1, h2, h3, h4⟩ := q rs m h
    exact ⟨r, m', ⟨h1, h2, h3⟩, h4⟩
  · exact mkDef T S rfl (fun rs m r m' h => h.2) fun f cdv A outer s H E hr => ⟨t, ht f cdv A outer s H E hr, fun rs m r m' _ h => h.1⟩

/-! ### dice -/
/-- there is a die at j -/
def DieAt (m : M) (j : Nat) : Prop := ∃ x c, m[j]? = some [.int x, .int c]
theorem DieAt.set {m : M} {j : Nat} {x c : Int} (h : j < m.length) : DieAt (m.set j [.int x, .int c]) j := ⟨x, c, List.getElem?_set_self h⟩
theorem DieAt.lt {m : M} {j : Nat} (h : DieAt m j) : j < m.length := by
  obtain ⟨x, c, e⟩ := h
  exact (List.getElem?_eq_some_iff.mp e).1
/-- only the die at j has changed -/
def Rolled (m : M) (j : Nat) (m' : M) : Prop := ∃ x c, m' = m.set j [.int x, .int c]
theorem Rolled.refl {m : M} {j : Nat} (h : DieAt m j) : Rolled m j m := by
  obtain ⟨x, c, e⟩ := h
  refine ⟨x, c, ?_⟩
  obtain ⟨h1, h2⟩ := List.getElem?_eq_some_iff.mp e
  rw [← h2, List.set_getElem_self]
theorem Rolled.trans {m m1 m2 : M} {j : Nat} (a : Rolled m j m1) (b : Rolled m1 j m2) : Rolled m j m2 := by
  obtain ⟨x, c, rfl⟩ := a
  obtain ⟨y, d, rfl⟩ := b
  exact ⟨y, d, by rw [List.set_set]⟩
theorem Rolled.die {m m1 : M} {j : Nat} (a : Rolled m j m1) (h : j < m.length) : DieAt m1 j := by
  obtain ⟨x, c, rfl⟩ := a
  exact .set h
theorem Rolled.len {m m1 : M} {j : Nat} (a : Rolled m j m1) : m1.length = m.length := by
  obtain ⟨x, c, rfl⟩ := a
  rw [List.length_set]
theorem Rolled.other {m m1 : M} {j i : Nat} (a : Rolled m j m1) (h : i ≠ j) : m1[i]? = m[i]? := by
  obtain ⟨x, c, rfl⟩ := a
  rw [List.getElem?_set_ne (Ne.symm h)]
theorem Rolled.app {m m1 : M} {j : Nat} (a : Rolled m j m1) (h : j < m.length) (l : M) : Rolled (m ++ l) j (m1 ++ l) := by
  obtain ⟨x, c, rfl⟩ := a
  exact ⟨x, c, by rw [List.set_append_left _ _ h]⟩
section
variable {K : PySem.W.Frag} {es : List Sl} {m m1 : M}
theorem ex_roll {i j : Nat} {n : Int} {te : TE} {E : XK} (hi : es[i]? = some (.c j)) (h : EvE K te es m (.d (.int n)) m) (hd : DieAt m j) (h1 : 0 < n) (h2 : n < 2 ^ 62) :
    ∃ (v : Int) (m' : M), EvE K (tCall (spD K 2 rollG) [] E (tCons (tVar i) (tCons te tNil))) es m (.d (.int v)) m' ∧ 0 ≤ v ∧ v < n ∧ Rolled m j m' := by
  obtain ⟨x, c, e⟩ := hd
  obtain ⟨y, d, ed⟩ := diceM_two (x := x) (c := c) (n := n)
  refine ⟨rollM x c n, m.set j (diceM x c n), ev_call (arg2 (ev_var hi nofun) h) ⟨j, x, c, n, rfl, e, h1, h2, rfl, rfl⟩ rfl, (roll_lt h1).1, (roll_lt h1).2, y, d, by rw [ed]⟩
theorem exR_seq {n : Nat} {t u : TS} {es1 : List Sl} {P : Sl → M → Prop} (h : Sv K n t es m (.nx es1 m1)) (h2 : ∃ r m', Sv K n u es1 m1 (.ret r m') ∧ P r m') : ∃ r m', Sv K n (tSeq t u) es m (.ret r m') ∧ P r m' := by
  obtain ⟨r, m', a, b⟩ := h2
  exact ⟨r, m', sv_seq h a, b⟩
theorem exR_for {n i : Nat} {wi : TI} {tb rest : TS} {ds : List PyData} {P : Sl → M → Prop} (J : Nat → List Sl → M → Prop) (hi : EvI K wi es m ds m1) (h0 : J 0 es m1)
    (st : ∀ (l : Nat) (d : PyData) (es : List Sl) (m : M), ds[l]? = some d → J l es m → ∃ es2 m2, (Sv K n tb (es.set i (.d d)) m (.nx es2 m2) ∨ Sv K n tb (es.set i (.d d)) m (.cnt es2 m2)) ∧ J (l + 1) es2 m2)
    (hd : ∀ es m, J ds.length es m → ∃ r m', Sv K n rest es m (.ret r m') ∧ P r m') : ∃ r m', Sv K n (tSeq (tFor wi (gName i) tb) rest) es m (.ret r m') ∧ P r m' := by
  obtain ⟨es', m', h1, h2⟩ := sv_forIe (n := n) (i := i) (tb := tb) J hi h0 st
  exact exR_seq h1 (hd es' m' h2)
theorem exR_ifT {n : Nat} {tt : TT} {a b u : TS} {P : Sl → M → Prop} (h : EvB K tt es m true m1) (h1 : ∃ r m', Sv K n (tSeq a u) es m1 (.ret r m') ∧ P r m') : ∃ r m', Sv K n (tSeq (tIfS tt a b) u) es m (.ret r m') ∧ P r m' := by
  obtain ⟨r, m', x, y⟩ := h1
  exact ⟨r, m', sv_ifs h (fun _ => x) (fun z => nomatch z), y⟩
theorem exR_ifF {n : Nat} {tt : TT} {a b u : TS} {P : Sl → M → Prop} (h : EvB K tt es m false m1) (h1 : ∃ r m', Sv K n (tSeq b u) es m1 (.ret r m') ∧ P r m') : ∃ r m', Sv K n (tSeq (tIfS tt a b) u) es m (.ret r m') ∧ P r m' := by
  obtain ⟨r, m', x, y⟩ := h1
  exact ⟨r, m', sv_ifs h (fun z => nomatch z) (fun _ => x), y⟩
theorem exLc {i : Nat} {vs : List Nat} {esw : List Sl} {te : TE} {J : M → Prop} {G : PyData → Prop} (hi : i ∈ vs) : ∀ (ds : List PyData) (m : M), J m → (∀ d m, d ∈ ds → J m → ∃ r m', EvE K te (esw.set i (.d d)) m (.d r) m' ∧ G r ∧ J m') →
    ∃ rs m', LcR K (gName i) tYes te esw vs ds m rs m' ∧ rs.length = ds.length ∧ (∀ r, r ∈ rs → G r) ∧ J m'
  | [], m, h0, _ => ⟨[], m, .nil, rfl, by simp, h0⟩
  | d :: ds, m, h0, st => by
    obtain ⟨r, m1, e1, g1, j1⟩ := st d m List.mem_cons_self h0
    obtain ⟨rs, m2, l2, n2, g2, j2⟩ := exLc hi ds m1 j1 fun d m hd => st d m (List.mem_cons_of_mem _ hd)
    refine ⟨r :: rs, m2, .yes gv_name (fun j hj => by rw [List.mem_singleton.mp hj]; exact hi) eb_yes e1 l2, by rw [List.length_cons, List.length_cons, n2], fun x hx => ?_, j2⟩
    rcases List.mem_cons.mp hx with h | h
    · rw [h]; exact g1
    · exact g2 x h
/-- tuple(x), x a cell -/
theorem ev_tupC {i j : Nat} {ds : List PyData} (hi : es[i]? = some (.c j)) (hm : m[j]? = some ds) :
    EvE K (tCB (fun xs H Q => ∃ p ys, xs = [V.ref p] ∧ ((SqL K H p ys ∧ ∀ l, H l = none → Q (.ref l) (upd H l (.tup ys))) ∨ (SqT K H p ys ∧ Q (.ref p) H))) (tCons (tVar i) tNil)) es m (.d (.tuple ds)) m := by
  intro σ H H0 ρ w e Q q
  rcases e.2 i _ hi with z | ⟨v, h1, p, rfl, h2⟩
  · cases z
  obtain ⟨vs, g1, g2⟩ := cell_get w h2 hm
  refine ⟨_, h1, p, vs, rfl, .inl ⟨.inl (.inl g1), fun l hl => ?_⟩⟩
  obtain ⟨w2, s2⟩ := w.new (n := ρ.length) (o := .tup vs) hl
  exact q _ _ _ s2 w2 (Dp.tup (.inl (.inl upd_same)) (dpAll_mono s2.ex g2))
theorem app_at {a : List PyData} : (m ++ [a])[m.length]? = some a := last_get
/-! ### while -/
inductive WhR (K : PySem.W.Frag) (n : Nat) (c : TT) (tb : TS) : Nat → List Sl → M → List Sl → M → Prop
  | stop {es : List Sl} {m m1 : M} : EvB K c es m false m1 → WhR K n c tb 0 es m es m1
  | go {k : Nat} {es es2 es3 : List Sl} {m m1 m2 m3 : M} : EvB K c es m true m1 → Sv K n tb es m1 (.nx es2 m2) → WhR K n c tb k es2 m2 es3 m3 → WhR K n c tb (k + 1) es m es3 m3
theorem sv_while {n k : Nat} {c : TT} {tb : TS} {es' : List Sl} {m' : M} (h : WhR K n c tb k es m es' m') : Sv K n (tWhile c tb) es m (.nx es' m') := by
  intro σ H H0 ρ hn w e D q
  refine ⟨fun k2 σ2 H2 => ∃ es2 m2 ρ2 H02, WhR K n c tb k2 es2 m2 es' m' ∧ Stp n ρ H0 H ρ2 H02 H2 ∧ Wd K H02 H2 ρ2 m2 ∧ EnvS K H02 ρ2 σ2 es2, ⟨k, es, m, ρ, H0, h, .refl, w, e⟩, ?_⟩
  rintro k2 σ2 H2 ⟨es2, m2, ρ2, H02, r, s2, w2, e2⟩
  cases r with
  | stop hb => exact hb σ2 H2 H02 ρ2 w2 e2 _ fun H3 H03 s3 w3 => iteF (q σ2 ρ2 H3 H03 (s2.trans w2.nd s3.low) w3 (e2.mono s3.ex))
  | @go k3 _ es4 _ _ m3 m4 _ hb ht hr =>
    refine hb σ2 H2 H02 ρ2 w2 e2 _ fun H3 H03 s3 w3 => iteT ⟨fun σ' H' => ∃ ρ4 H04, Stp n ρ H0 H ρ4 H04 H' ∧ Wd K H04 H' ρ4 m4 ∧ EnvS K H04 ρ4 σ' es4, ?_, ?_⟩
    · rintro σ' H' ⟨ρ4, H04, s4, w4, e4⟩
      exact ⟨k3, Nat.lt_succ_self _, es4, m4, ρ4, H04, hr, s4, w4, e4⟩
    · exact ht σ2 H3 H03 ρ2 (pre_len hn s2) w3 (e2.mono s3.ex) _ fun σ4 ρ4 H4 H04 s4 w4 e4 => ⟨ρ4, H04, (s2.trans w2.nd s3.low).trans w3.nd s4, w4, e4⟩
end
end HX

set_option Elab.async false
set_option linter.all false
set_option maxRecDepth 100000
namespace GX
open PySem PySem.Spec PyProof.Rows L2
theorem args_gcd3 (a b c : Value) : argsOk "math.gcd" ⟨[a, b, c], []⟩ := by unfold argsOk; kernel_rfl
theorem run_gcd3 (a : Int) (t : Tok) (b : Int) (u : Tok) (c : Int) (v : Tok) :
    Gives (Builtin.«math.gcd» ⟨[.int a t, .int b u, .int c v], []⟩) (.int (((((Nat.gcd 0 a.natAbs).gcd b.natAbs).gcd c.natAbs : Nat) : Int))) :=
  .of_wp fun M A E s Q h => by obtain ⟨hp, g, d, tk, os⟩ := s; wp_walk; exact ⟨_, rfl, h⟩
section
variable {prog : Program} {w : World} {A : Around} {E : Value → Shared → Prop} {s : Shared} {Q : Value → Shared → Prop} {a b c : Int} {t u v : Tok}
theorem call_gcd3 (h : Q (.int (((a.natAbs.gcd b.natAbs).gcd c.natAbs : Nat) : Int) s.toks) { s with toks := s.toks + 1 }) :
    wpAny (model prog w) A (call (.builtin "math.gcd") [.int a t, .int b u, .int c v]) Q E s := by
  have g := run_gcd3 a t b u c v
  rw [Nat.gcd_zero_left] at g
  exact call_function_meets PySem.W.MGF.kind_gcd PySem.W.MGF.plain_gcd PySem.W.MGF.entry_gcd (args_gcd3 _ _ _) g.meets h
end
section
variable {X : Cx}
/-- gcd of two or of three numbers -/
def rGcdN : List V → Hp → VK → Prop := fun vs H Q => (∃ a b : Int, vs = [.int a, .int b] ∧ Q (.int ((Nat.gcd a.natAbs b.natAbs : Nat) : Int)) H) ∨ ∃ a b c : Int, vs = [.int a, .int b, .int c] ∧ Q (.int (((a.natAbs.gcd b.natAbs).gcd c.natAbs : Nat) : Int)) H
theorem cr_gcdN : CallR X (.builtin "math.gcd") rGcdN := by
  intro pins s σ H vs us Q I r h
  rcases h with ⟨a, b, rfl, q⟩ | ⟨a, b, c, rfl, q⟩
  · obtain ⟨t, u, rfl⟩ := Vals.int2 r
    exact PySem.W.mg_gcd fun _ => ⟨.int _, H, I.tok _, ⟨_, rfl⟩, q⟩
  · cases r with
    | cons r1 r =>
      obtain ⟨t, u, rfl⟩ := Vals.int2 r
      obtain ⟨k, rfl⟩ := r1
      exact call_gcd3 ⟨.int _, H, I.tok _, ⟨_, rfl⟩, q⟩
end
end GX

set_option Elab.async false
set_option linter.all false
set_option maxRecDepth 100000
namespace GX
open PySem PySem.Spec PyProof.Rows L2
/-! ### a, b, *c = a tuple -/
section
variable {prog : Program} {w : World} {A : Around} {E : Value → Shared → Prop} {s : Shared} {env : Env}
theorem unpack_starT {l : Addr} {items : Array Value} {n i : Nat} {Q : List Value → Shared → Prop} (hl : IsTup s.heap l items) (hh : A.handled = none) (hi : i < n) (hn : n ≤ items.size + 1) (hz : items.size ≤ 16384)
    (h : ∀ (h₂ : Heap) (tk : Nat), (∀ b o, s.heap.get? b = some o → h₂.get? b = some o) → Q (items.toList.take i ++ [.ref h₂.objs.size] ++ (items.toList.drop i).drop (items.size + 1 - n)) { s with heap := h₂.push (seqObj "list" ((items.toList.drop i).take (items.size + 1 - n)).toArray 0), toks := tk }) :
    wpAny (model prog w) A (unpackItems (.ref l) n (some i)) Q E s := by
  have hlt : l ≠ s.heap.objs.size := by obtain ⟨o, ho, _⟩ := hl; exact Nat.ne_of_lt (Heap.lt_size ho)
  have hll : l < s.heap.objs.size := by obtain ⟨o, ho, _⟩ := hl; exact Heap.lt_size ho
  unfold unpackItems
  refine wpAny_bind ?_
  unfold notIterableAtAll
  refine wpAny_bind (wpAny_specialOf hl.typeIs slot_tuple_iter.lookup ?_)
  refine wpAny_pure ?_
  simp only [Bool.false_eq_true, if_false]
  refine wpAny_bind (wpAny_holding (iter_tuple hl ?_))
  refine wpAny_bind (wpAny_holding (draw_tuple hlt i 0 _ _ ⟨_, Heap.get?_push_size _ rfl, rfl, rfl⟩ (hl.push _) (by omega) fun h₁ hit₁ hs₁ => ?_))
  have hl₁ : IsTup h₁ l items := (hl.push _).extBut hs₁.extBut hlt
  rw [Nat.zero_add] at hit₁
  have hit₁' := hit₁
  obtain ⟨oi, hoi, _⟩ := hit₁'
  have hl₁' := hl₁
  obtain ⟨ol, hol, _⟩ := hl₁'
  rw [List.drop_zero]
  have hfl : (items.toList.take i).length = i := by rw [List.length_take, Array.length_toList]; omega
  rw [if_neg (show ¬ ((items.toList.take i).length < i) by rw [hfl]; omega)]
  refine wpAny_bind (wpAny_holding (PySem.W.kun_collect (s := { s with heap := h₁ }) (T := "tuple_iterator") (.inr (.inr (.inr rfl))) (Walks.tuple (A := A.in1) hh s.heap.objs.size l hlt items) (fun j u st => st.1.typeIs) (k := i) (by omega) ⟨hit₁, hl₁⟩ (Heap.lt_size hoi) (Heap.lt_size hol) (fun h₂ tk hk => ?_) (by rw [sizeLine_eq]; omega)))
  have hrl : (items.toList.drop i).length = items.size - i := by rw [List.length_drop, Array.length_toList]
  have hmid : (items.toList.drop i).length - (n - 1 - i) = items.size + 1 - n := by rw [hrl]; omega
  show wpAny _ _ (if (items.toList.drop i).length < n - 1 - i then _ else _) _ _ _
  rw [if_neg (by rw [hrl]; omega)]
  show wpAny _ _ (newList ((items.toList.drop i).take ((items.toList.drop i).length - (n - 1 - i))) >>= fun d => pure (items.toList.take i ++ [d] ++ (items.toList.drop i).drop ((items.toList.drop i).length - (n - 1 - i)))) _ _ _
  rw [hmid]
  have he : ∀ b o, s.heap.get? b = some o → h₂.get? b = some o := fun b o e => hk b o (Nat.ne_of_lt (Heap.lt_size e)) (hs₁.extBut b o (Nat.ne_of_lt (Heap.lt_size e)) (Heap.get?_push_of_some _ e))
  refine wpAny_bind (wpAny_newList (s := { s with heap := h₂, toks := tk }) ?_ (by rw [List.length_take, hrl, sizeLine_eq]; omega))
  exact wpAny_pure (h h₂ tk he)
theorem assign_starT {elts : List Expr} {k} {pos : Pos} {l : Addr} {items : Array Value} {n i : Nat} {Q : Unit → Shared → Prop} (hl : IsTup s.heap l items) (hh : A.handled = none) (hlen : (assignEach elts env).length = n) (hstar : (assignEach elts env).findIdx? (·.1) = some i) (hi : i < n) (hn : n ≤ items.size + 1) (hz : items.size ≤ 16384)
    (h : ∀ (h₂ : Heap) (tk : Nat), (∀ b o, s.heap.get? b = some o → h₂.get? b = some o) → wpAny (model prog w) A (assignInOrder ((assignEach elts env).map (·.2)) (items.toList.take i ++ [.ref h₂.objs.size] ++ (items.toList.drop i).drop (items.size + 1 - n))) Q E { s with heap := h₂.push (seqObj "list" ((items.toList.drop i).take (items.size + 1 - n)).toArray 0), toks := tk }) :
    wpAny (model prog w) A (assign (.Tuple elts k pos) env (.ref l)) Q E s := by
  rw [assign_Tuple]
  refine wpAny_bind (wpAny_standAt ?_)
  unfold unpack
  rw [hlen, hstar]
  exact wpAny_bind (wpAny_holding (unpack_starT hl hh hi hn hz h))
end
section
variable {X : Cx} {pos : Pos}
theorem vals_take {xs : List V} {us : List Value} (h : Vals xs us) (n : Nat) : Vals (xs.take n) (us.take n) := by
  induction h generalizing n with
  | nil => rw [List.take_nil, List.take_nil]; exact .nil
  | cons a t ih =>
    cases n with
    | zero => exact .nil
    | succ n => exact .cons a (ih n)
theorem vals_drop {xs : List V} {us : List Value} (h : Vals xs us) (n : Nat) : Vals (xs.drop n) (us.drop n) := by
  induction h generalizing n with
  | nil => rw [List.drop_nil, List.drop_nil]; exact .nil
  | cons a t ih =>
    cases n with
    | zero => exact .cons a t
    | succ n => exact ih n
theorem vals_app {xs ys : List V} {us vs : List Value} (h : Vals xs us) (h2 : Vals ys vs) : Vals (xs ++ ys) (us ++ vs) := by
  induction h with
  | nil => exact h2
  | cons a t ih => exact .cons a ih
/-- a, b, *c = a tuple: the last name gets a new list -/
def gStar (K : PySem.W.Frag) (i : Nat) (t : TGs) : TG := fun v σ H Q => ∃ a xs, v = .ref a ∧ SqT K H a xs ∧ i ≤ xs.length ∧ xs.length ≤ 16384 ∧ ∀ D, H D = none → t (xs.take i ++ [.ref D]) σ (upd H D (.lst (xs.drop i))) Q
theorem pg_star {es : List Expr} {k : Nat} {t : TGs} {i : Nat} (hc : X.calm = true) (h : PGs X es t)
    (hn : (assignEach es X.env).length = i + 1 := by rfl) (hst : (assignEach es X.env).findIdx? (·.1) = some i := by rfl) : PG X (.Tuple es k pos) (gStar X.K i t) := by
  refine ⟨fun pins s σ H v u Q I r hw => ?_⟩
  obtain ⟨a, xs, e1, hq, hl, hz, hw⟩ := hw
  subst e1
  cases r
  obtain ⟨its, rv, ht, hz2⟩ := I.tuple hq
  have hlen := rv.length
  have hsz : its.toArray.size = its.length := by simp
  refine assign_starT ht (I.ok.hd hc) hn hst (by omega) (by omega) (by omega) fun h₂ tk hk => ?_
  have e1 : its.toArray.size + 1 - (i + 1) = its.length - i := by omega
  have e2 : (its.drop i).take (its.length - i) = its.drop i := List.take_of_length_le (by rw [List.length_drop]; omega)
  have e3 : (its.drop i).drop (its.length - i) = [] := List.drop_eq_nil_of_le (by rw [List.length_drop]; omega)
  show wpAny _ _ (assignInOrder _ (its.take i ++ [.ref h₂.objs.size] ++ (its.drop i).drop (its.toArray.size + 1 - (i + 1)))) _ _ { s with heap := h₂.push (seqObj "list" ((its.drop i).take (its.toArray.size + 1 - (i + 1))).toArray 0), toks := tk }
  rw [e1, e2, e3, List.append_nil]
  have I1 : Inv X pins σ H { s with heap := h₂, toks := tk } := I.kept hk
  have hfr : H h₂.objs.size = none := I1.hok.fresh (Nat.le_refl _)
  have I2 : Inv X pins σ (upd H h₂.objs.size (.lst (xs.drop i))) { s with heap := h₂.push (seqObj "list" (its.drop i).toArray 0), toks := tk } :=
    I1.laid (t' := tk) (fun b u e => Heap.get?_push_of_some _ e) (Nat.le_refl _) (show ObjOk X.prog X.w _ _ _ (.lst (xs.drop i)) from ⟨by rw [List.length_drop, sizeLine_eq]; omega, (its.drop i), 0, vals_drop rv i, Heap.get?_push_size _ rfl⟩)
  exact h.run pins _ σ _ (xs.take i ++ [.ref h₂.objs.size]) _ Q I2 (vals_app (vals_take rv i) (.cons (show RelV (V.ref h₂.objs.size) (Value.ref h₂.objs.size) from rfl) .nil)) (hw _ hfr)
theorem pgs_consS {e : Expr} {p : Pos} {es : List Expr} {t : TG} {u : TGs} (h1 : PG X e t) (h2 : PGs X es u)
    (hs : (assignEach (.Starred e p :: es) X.env).map (·.2) = assign e X.env :: (assignEach es X.env).map (·.2) := by rfl) : PGs X (.Starred e p :: es) (gCons t u) := by
  refine ⟨fun pins s σ H vs us Q I r h => ?_⟩
  obtain ⟨v, vr, e1, h⟩ := h
  subst e1
  cases r with
  | cons r rr =>
    rw [hs]
    refine assignInOrder_cons (thn (h1.run pins s σ H _ _ _ I r h) fun _ s1 ⟨σ1, H1, I1, q1⟩ => ?_)
    exact h2.run pins s1 σ1 H1 _ _ Q I1 rr q1
end
end GX

set_option Elab.async false
set_option linter.all false
set_option maxRecDepth 100000
namespace GX
open PySem PySem.Spec PyProof.Rows L2 DL
/-! ### dicts whose keys are nested tuples and whose values are numbers -/
mutual
def keyOf : PyData → Option NestedKey
  | .none => some .none
  | .int i => some (.num i)
  | .str x => some (.text x)
  | .tuple xs => (keysOf xs).map .tup
  | _ => none
def keysOf : List PyData → Option (List NestedKey)
  | [] => some []
  | x :: xs => match keyOf x, keysOf xs with
    | some k, some ks => some (k :: ks)
    | _, _ => none
end
section
variable {X : Cx} {pins : List (Addr × Obj)} {σ : L2.St} {H : Hp} {s : Shared}
mutual
theorem dp_key (I : Inv X pins σ H s) : ∀ (d : PyData) (v : V) (u : Value) (k : NestedKey), Dp X.K H v d → keyOf d = some k → RelV v u → NestedIs s.heap k u
  | .none, v, u, k, h, e, r => by
    cases h
    rw [keyOf] at e
    cases e
    cases r
    exact .none
  | .int i, v, u, k, h, e, r => by
    cases h
    rw [keyOf] at e
    cases e
    obtain ⟨t, rfl⟩ := r
    exact .int i t
  | .str x, v, u, k, h, e, r => by
    cases h
    rw [keyOf] at e
    cases e
    obtain ⟨t, rfl⟩ := r
    exact .text x t
  | .tuple xs, v, u, k, h, e, r => by
    rw [keyOf] at e
    obtain ⟨ks, e1, rfl⟩ := Option.map_eq_some_iff.mp e
    cases h with
    | tup hs hd =>
      obtain ⟨its, rv, ⟨o, ho, hc, n, hdat⟩, _⟩ := I.tuple hs
      cases r
      exact .tup ho hc hdat (dp_keys I xs _ its ks hd e1 rv)
  | .bool _, v, u, k, h, e, r => by rw [keyOf] at e; cases e; all_goals (intros; simp_all)
  | .list _, v, u, k, h, e, r => by rw [keyOf] at e; cases e; all_goals (intros; simp_all)
  | .dict _, v, u, k, h, e, r => by rw [keyOf] at e; cases e; all_goals (intros; simp_all)
theorem dp_keys (I : Inv X pins σ H s) : ∀ (ds : List PyData) (vs : List V) (us : List Value) (ks : List NestedKey), DpAll X.K H vs ds → keysOf ds = some ks → Vals vs us → NestedAll s.heap ks us
  | [], vs, us, ks, h, e, r => by
    cases h
    rw [keysOf] at e
    cases e
    cases r
    exact .nil
  | d :: ds, vs, us, ks, h, e, r => by
    rw [keysOf] at e
    cases h with
    | cons h1 h2 =>
      cases r with
      | cons r1 r2 =>
        split at e
        · rename_i k ks' e1 e2
          cases e
          exact .cons (dp_key I d _ _ k h1 e1 r1) (dp_keys I ds _ _ ks' h2 e2 r2)
        · cases e
end
end
abbrev Ent : Type := NestedKey × Addr × Int
def EntR (p : Ent) (q : NestedKey × Addr × Value) : Prop := p.1 = q.1 ∧ p.2.1 = q.2.1 ∧ RelV (.int p.2.2) q.2.2
def dRaw (P : Program) (w : World) (d : Addr) (xs : List Ent) (h : Heap) : Prop := (d == sysModules) = false ∧ ∃ (ys : List (NestedKey × Addr × Value)) (o : Obj) (es : Array DictEntry) (ep : Nat), Paired EntR xs ys ∧
  h.get? d = some o ∧ o.ExactDict ∧ o.data = .dict es ep ∧ es.toList = ys.map (entryOfKey (nestedKind P w)) ∧ (ys.map (·.1)).Nodup
def NDk (P : Program) (w : World) (d : Addr) (xs : List Ent) : HO := .ext (dRaw P w d xs)
section
variable {P : Program} {w : World}
theorem dRaw_at {d : Addr} {xs : List Ent} {h h' : Heap} (x : dRaw P w d xs h) (k : ∀ o, h.get? d = some o → h'.get? d = some o) : dRaw P w d xs h' := by
  obtain ⟨a, ys, o, es, ep, b, c, r⟩ := x
  exact ⟨a, ys, o, es, ep, b, k o c, r⟩
theorem nd_new {d : Addr} {xs : List Ent} {H : Hp} {h : Heap} (x : dRaw P w d xs h) : ObjOk P w H h d (NDk P w d xs) := by
  have ⟨_, _, o, _, _, _, c, _⟩ := x
  exact ⟨x, ⟨o, c⟩, fun h1 h2 p k => dRaw_at p k⟩
theorem nd_get {X : Cx} {pins : List (Addr × Obj)} {σ : L2.St} {H : Hp} {s : Shared} {d : Addr} {xs : List Ent} (I : Inv X pins σ H s) (h : H d = some (NDk X.prog X.w d xs)) : dRaw X.prog X.w d xs s.heap := (I.hok d _ h).1
theorem nd_empty {H : Hp} (h : Heap) (hb : sysModules < h.objs.size) : ObjOk P w H (h.push { cls := .type "dict", data := .dict #[] }) h.objs.size (NDk P w h.objs.size []) :=
  nd_new ⟨beq_eq_false_iff_ne.mpr (Ne.symm (Nat.ne_of_lt hb)), [], _, #[], 0, .nil, Heap.get?_push_size _ rfl, ⟨rfl, rfl, rfl⟩, rfl, rfl, List.nodup_nil⟩
/-- the keys are tuples that stand in the heap -/
def KeysOk (K : PySem.W.Frag) (H : Hp) (xs : List Ent) : Prop := ∀ x ∈ xs, ∃ d, Dp K H (.ref x.2.1) d ∧ keyOf d = some x.1 ∧ x.1.depth ≤ 8
def findK (xs : List Ent) (k : NestedKey) : Option Int := (xs.find? fun x => decide (x.1 = k)).map fun x => x.2.2
theorem find_rel {k : NestedKey} : ∀ {xs : List Ent} {ys : List (NestedKey × Addr × Value)}, Paired EntR xs ys → (findK xs k = none ∧ atKey ys k = none) ∨ ∃ i p, findK xs k = some i ∧ atKey ys k = some p ∧ RelV (.int i) p.2
  | _, _, .nil => .inl ⟨rfl, rfl⟩
  | x :: xs, y :: ys, .cons ⟨h1, h2, h3⟩ r => by
    by_cases e : x.1 = k
    · refine .inr ⟨x.2.2, y.2, ?_, ?_, h3⟩
      · unfold findK; rw [List.find?_cons_of_pos (by simpa using e)]; rfl
      · unfold atKey; rw [List.find?_cons_of_pos (by rw [← h1]; simpa using e)]; rfl
    · have e1 : findK (x :: xs) k = findK xs k := by unfold findK; rw [List.find?_cons_of_neg (by simpa using e)]
      have e2 : atKey (y :: ys) k = atKey ys k := by unfold atKey; rw [List.find?_cons_of_neg (by rw [← h1]; simpa using e)]
      rw [e1, e2]
      exact find_rel r
theorem ent_mem : ∀ {xs : List Ent} {ys : List (NestedKey × Addr × Value)}, Paired EntR xs ys → ∀ y, y ∈ ys → ∃ x, x ∈ xs ∧ x.1 = y.1 ∧ x.2.1 = y.2.1
  | _, _, .nil, y, h => by cases h
  | x :: xs, y' :: ys, .cons ⟨h1, h2, _⟩ r, y, h => by
    rcases List.mem_cons.mp h with rfl | h
    · exact ⟨x, by simp, h1, h2⟩
    · obtain ⟨z, hz, e⟩ := ent_mem r y h
      exact ⟨z, List.mem_cons_of_mem _ hz, e⟩
theorem ent_app : ∀ {xs : List Ent} {ys : List (NestedKey × Addr × Value)} {x : Ent} {y : NestedKey × Addr × Value}, Paired EntR xs ys → EntR x y → Paired EntR (xs ++ [x]) (ys ++ [y])
  | _, _, _, _, .nil, h => .cons h .nil
  | _, _, _, _, .cons a t, h => .cons a (ent_app t h)
theorem ent_len {xs : List Ent} {ys : List (NestedKey × Addr × Value)} (h : Paired EntR xs ys) : xs.length = ys.length := h.length
end
section
variable {X : Cx} {pins : List (Addr × Obj)} {σ : L2.St} {H : Hp} {s : Shared}
theorem nd_of {d : Addr} {xs : List Ent} (I : Inv X pins σ H s) (h : H d = some (NDk X.prog X.w d xs)) (hk : KeysOk X.K H xs) :
    (d == sysModules) = false ∧ ∃ ys, Paired EntR xs ys ∧ s.heap.DictOfH (nestedKind X.prog X.w) d ys := by
  obtain ⟨a, ys, o, es, ep, b, c, e1, e2, e3, e4⟩ := nd_get I h
  refine ⟨a, ys, b, o, es, ep, c, e1, e2, e3, fun y hy => ?_, e4⟩
  obtain ⟨x, hx, f1, f2⟩ := ent_mem b y hy
  obtain ⟨dd, g1, g2, g3⟩ := hk x hx
  rw [← f1, ← f2]
  exact ⟨dp_key I dd _ _ _ g1 g2 rfl, g3⟩
/-- {} -/
def tNew (P : Program) (w : World) : TE := fun _ H Q => ∀ p, H p = none → Q (.ref p) (upd H p (NDk P w p []))
theorem pe_nnew {pos : Pos} : PE X (.Dict [] [] pos) (tNew X.prog X.w) := ⟨fun pins s σ H Q I h =>
  wpAny_Dict_empty ⟨.ref s.heap.objs.size, _, I.laid (a := s.heap.objs.size) (o := NDk X.prog X.w s.heap.objs.size []) (t' := s.toks) (fun _ _ q => Heap.get?_push_of_some _ q) (Nat.le_refl _) (nd_empty s.heap I.big), rfl, h _ (I.hok.fresh (Nat.le_refl _))⟩⟩
theorem nd_setd {d b : Addr} {dk : PyData} {k : NestedKey} {n : Int} {r : Value} {xs : List Ent} {A : Around} {E : Value → Shared → Prop} {Q : Value → Shared → Prop} (I : Inv X pins σ H s) (hu : A.units + 16 < cLine) (e : H d = some (NDk X.prog X.w d xs)) (hk : KeysOk X.K H xs)
    (hd : Dp X.K H (.ref b) dk) (hdk : keyOf dk = some k) (h8 : k.depth ≤ 8) (rd : RelV (.int n) r) (hl : xs.length < sizeLine)
    (h1 : ∀ i, findK xs k = some i → ∀ (w' : Value) (s' : Shared), Inv X pins σ H s' → RelV (.int i) w' → Q w' s')
    (h2 : findK xs k = none → ∀ (w' : Value) (s' : Shared), Inv X pins σ (upd H d (NDk X.prog X.w d (xs ++ [(k, b, n)]))) s' → RelV (.int n) w' → Q w' s') :
    wpAny (model X.prog X.w) A (call (.builtin "dict.setdefault") [.ref d, .ref b, r]) Q E s := by
  obtain ⟨hs, ys, rel, dd⟩ := nd_of I e hk
  have hlen := ent_len rel
  refine call_setdefault_heap (knd := nestedKind X.prog X.w) (xs := ys) (k := k) (show A.in1.units + 8 < cLine from by show A.units + 1 + 8 < cLine; omega) ⟨dp_key I dk _ _ k hd hdk rfl, h8⟩ hs dd (fun p hp => ?_) (fun hn h' dd' sb => ?_) (by omega)
  · rcases find_rel (k := k) rel with ⟨_, z⟩ | ⟨i, p', z1, z2, z3⟩
    · rw [z] at hp; cases hp
    · rw [z2] at hp
      cases hp
      exact h1 i z1 _ _ (I.tok _) z3
  · rcases find_rel (k := k) rel with ⟨z1, _⟩ | ⟨i, p', _, z2, _⟩
    · rw [storedH_new hn] at dd'
      obtain ⟨o, es, ep, f1, f2, f3, f4, _, f6⟩ := dd'
      have new : dRaw X.prog X.w d (xs ++ [(k, b, n)]) h' := ⟨hs, ys ++ [(k, b, r)], o, es, ep, ent_app rel ⟨rfl, rfl, rd⟩, f1, f2, f3, f4, f6⟩
      exact h2 z1 _ _ (d_write (t' := s.toks + (nestedKind X.prog X.w).draws k) I (by rw [e]; exact True.intro) sb ⟨o, f1⟩ (nd_new new)) rd
    · rw [z2] at hn; cases hn
end
end GX

set_option Elab.async false
set_option linter.all false
set_option maxRecDepth 100000
namespace GX
open PySem PySem.Spec PyProof.Rows L2 DL
section
variable {X : Cx} {pins : List (Addr × Obj)} {σ : L2.St} {H : Hp} {s : Shared}
theorem nd_ty {d : Addr} {xs : List Ent} (I : Inv X pins σ H s) (h : H d = some (NDk X.prog X.w d xs)) : s.TypeIs (.ref d) "dict" ∧ (∀ b, Value.ref d = .ref b → ∃ ob, s.heap.get? b = some ob ∧ ob.dict = none) ∧ (d == sysModules) = false := by
  obtain ⟨a, ys, o, es, ep, b, c, e1, e2, e3, e4⟩ := nd_get I h
  refine ⟨⟨o, c, e1.1⟩, fun b q => ?_, a⟩
  cases q
  exact ⟨o, c, e1.2.1⟩
/-- d.setdefault(key, number) -/
def tNSetd (P : Program) (w : World) (K : PySem.W.Frag) (td ty tx : TE) : TE := fun σ H Q => td σ H fun x H1 => ∃ a, x = .ref a ∧ (∃ xs, H1 a = some (NDk P w a xs)) ∧ ty σ H1 fun y H2 => tx σ H2 fun z H3 =>
  ∃ (xs : List Ent) (b : Addr) (dk : PyData) (k : NestedKey) (n : Int), H3 a = some (NDk P w a xs) ∧ KeysOk K H3 xs ∧ y = .ref b ∧ Dp K H3 (.ref b) dk ∧ keyOf dk = some k ∧ k.depth ≤ 8 ∧ z = .int n ∧ xs.length < sizeLine ∧
  (∀ i, findK xs k = some i → Q (.int i) H3) ∧ (findK xs k = none → Q (.int n) (upd H3 a (NDk P w a (xs ++ [(k, b, n)]))))
variable {o e f : Expr} {td ty tx : TE} {apos cpos : Pos}
theorem pe_nsetd (hu : X.A.units + 64 < cLine) (ho : PE X o td) (he : PE X e ty) (hf : PE X f tx) (m : M2 X o "setdefault" apos e f cpos) : PE X (.Call (.Attribute o "setdefault" apos) [e, f] [] cpos) (tNSetd X.prog X.w X.K td ty tx) := by
  refine ⟨fun pins s σ H Q I h => ?_⟩
  refine wpAny_Call_method m.base m.few m.line PySem.F.plainAttrs_dict PySem.F.slot_dict_setdefault PySem.F.type_dict_setdefault (thn (ho.run pins s σ H _ I h) fun u s1 ⟨x, H1, I1, rx, a, ex, ⟨xs0, d⟩, q1⟩ => ?_)
  subst ex
  obtain rfl : u = Value.ref a := rx
  obtain ⟨t1, t2, _⟩ := nd_ty I1 d
  refine ⟨t1, t2, ?_⟩
  rw [m.trees]
  refine Calls.callWith_builtin rfl (Calls.evalArgs_plain (Calls.spliced_cons (thn (he.run pins s1 σ H1 _ I1 q1) fun iv s2 ⟨y, H2, I2, ry, q2⟩ =>
    Calls.spliced_cons (thn (hf.run pins s2 σ H2 _ I2 q2) fun fv s3 ⟨z, H3, I3, rz, xs, b, dk, k, n, ea, hk, ey, hd, hdk, h8, ez, hl, q3, q4⟩ => Calls.spliced_nil ?_))))
  subst ey ez
  obtain rfl : iv = Value.ref b := ry
  exact nd_setd I3 (by omega) ea hk hd hdk h8 rz hl (fun v hv w' s4 I4 rw' => ⟨.int v, _, I4, rw', q3 v hv⟩) fun hn w' s4 I4 rw' => ⟨.int n, _, I4, rw', q4 hn⟩
/-- len(d) -/
def rNLen (P : Program) (w : World) : List V → Hp → VK → Prop := fun vs H Q => ∃ a xs, vs = [.ref a] ∧ H a = some (NDk P w a xs) ∧ xs.length ≤ 4000 ∧ Q (.int (xs.length : Nat)) H
theorem cr_nlen : CallR X (.builtin "len") (rNLen X.prog X.w) := by
  intro pins s σ H vs us Q I r h
  obtain ⟨a, xs, rfl, ha, hl, q⟩ := h
  cases r with
  | cons r1 r2 =>
    cases r2
    cases r1
    obtain ⟨hs, ys, ob, es, ep, rel, c, e1, e2, e3, e4⟩ := nd_get I ha
    have hr : s.heap.DictRaw a es ep := ⟨ob, c, e1, e2⟩
    have hz : es.size = xs.length := by
      rw [ent_len rel, ← Array.length_toList, e3, List.length_map]
    have z := sizeLine_eq
    refine call_len_slot (n := (xs.length : Int)) (nd_ty I ha).1 PySem.F.slot_dict_len (fun Q' hq => call_len_raw hs hr (by rw [hz]; exact hq)) (by omega) (by omega) ⟨.int (xs.length : Nat), H, I.tok _, ⟨_, rfl⟩, q⟩
end
end GX

set_option Elab.async false
set_option linter.all false
set_option maxRecDepth 100000
namespace GX
open PySem PySem.Spec PyProof.Rows L2 DL
/-! ### the keys of such a dict, walked -/
theorem ent_get : ∀ {xs : List Ent} {ys : List (NestedKey × Addr × Value)} {i : Nat} {x : Ent}, Paired EntR xs ys → xs[i]? = some x → ∃ y, ys[i]? = some y ∧ x.2.1 = y.2.1
  | _, _, _, _, .nil, h => by simp at h
  | x :: xs, y :: ys, 0, z, .cons a t, h => by
    cases h
    exact ⟨y, rfl, a.2.1⟩
  | x :: xs, y :: ys, i + 1, z, .cons a t, h => by
    rw [List.getElem?_cons_succ] at h ⊢
    exact ent_get (xs := xs) (ys := ys) (i := i) t h
def Itn (P : Program) (w : World) (d : Addr) (o : Obj) (xs : List Ent) : It :=
  ⟨fun i H => H d = some (.frz o (NDk P w d xs)) ∧ i < xs.length, fun i H x H' => H' = H ∧ ∃ e, xs[i]? = some e ∧ x = .ref e.2.1, fun i H => H d = some (.frz o (NDk P w d xs)) ∧ xs.length ≤ i⟩
section
variable {X : Cx} {pins : List (Addr × Obj)} {σ : L2.St} {H : Hp} {s : Shared}
theorem frzN {d : Addr} {o : Obj} {xs : List Ent} (I : Inv X pins σ H s) (h : H d = some (.frz o (NDk X.prog X.w d xs))) :
    (d == sysModules) = false ∧ s.heap.get? d = some o ∧ o.ExactDict ∧ ∃ (es : Array DictEntry) (ep : Nat), o.data = .dict es ep ∧ es.size = xs.length ∧ ∀ (i : Nat) (e : Ent), xs[i]? = some e → ∃ en : DictEntry, es[i]? = some en ∧ en.key = .ref e.2.1 := by
  obtain ⟨hd, ⟨hs, ys, o', es, ep, rel, ho, hx, hdt, he, _⟩, _⟩ := I.hok d _ h
  rw [hd] at ho
  cases ho
  refine ⟨hs, hd, hx, es, ep, hdt, ?_, fun i e q => ?_⟩
  · have l1 : es.size = ys.length := size_of_entries he
    rw [l1, ent_len rel]
  · obtain ⟨y, hy, e1⟩ := ent_get rel q
    have z := entry_at he i
    rw [hy] at z
    exact ⟨_, z, by rw [e1]; rfl⟩
end
section
variable {P : Program} {w : World} {K : PySem.W.Frag} {tg : Expr} {d : Addr} {o : Obj} {es : Array DictEntry} {ep : Nat}
theorem turn_nkeys {xs : List Ent} (it : Addr) (hod : o.data = .dict es ep) : Turn P w K tg (Itn P w d o xs) [it] it (fun i h => h.IsKeyIter it d i xs.length ep) where
  mem := by simp
  obj := fun i h st b hb => by
    have e : b = it := by simpa using hb
    subst e
    obtain ⟨oi, e, c, dd⟩ := st
    exact ⟨oi, e, fun v z => by rw [dd] at z; cases z⟩
  keep := fun i h h' st k => st.at fun oi e => k it (by simp) oi e
  item := by
    intro X hP hw hK hc i pins s σ H E I hf st hg
    subst hP hw hK
    obtain ⟨hd, hi⟩ := hg
    obtain ⟨f0, f1, f2, f3, f4, f5⟩ := hf it (by simp)
    obtain ⟨hs, hgd, hx, es', ep', hdt, hsz, ent⟩ := frzN I hd
    obtain ⟨rfl, rfl⟩ := dict_ep hod hdt
    obtain ⟨e, he⟩ : ∃ p, xs[i]? = some p := ⟨xs[i], List.getElem?_eq_getElem hi⟩
    obtain ⟨en, hen, hkey⟩ := ent i e he
    refine next_key_item st hgd hdt hsz hen fun h' st' sb => ?_
    have I1 : Inv X pins σ H { s with heap := h' } := I.turned (t' := s.toks) (fun b ob hb e => (sb.2 b hb).trans e) f0 f1 f3 f4 f5
    obtain ⟨oi, eo, c, dd⟩ := id st'
    exact ⟨en.key, rfl, go_of (s := { s with heap := h' }) eo c dd (by decide) ⟨.ref e.2.1, H, I1, hkey, ⟨rfl, e, he, rfl⟩, st', fun b hb => (hf b hb).1⟩⟩
  done := by
    intro X hP hw hK hc i pins s σ H E I hf st hg
    subst hP hw hK
    obtain ⟨hd, hi⟩ := hg
    obtain ⟨f0, f1, f2, f3, f4, f5⟩ := hf it (by simp)
    obtain ⟨hs, hgd, hx, es', ep', hdt, hsz, ent⟩ := frzN I hd
    obtain ⟨rfl, rfl⟩ := dict_ep hod hdt
    exact next_key_end (I.ok.hd hc) st hgd hdt hsz hi fun h' eb => ⟨rfl, I.turned (t' := s.toks) (fun b ob hb e => eb b ob hb e) f0 f1 f3 f4 f5⟩
  self := fun A i s Q E st h => by
    refine wpAny_pyIter_slot st.typeIs F.slot_dict_keyiterator_iter (wpAny_call_entry F.slot_dict_keyiterator_iter st.typeIs F.entry_dict_keyiterator_iter ?_ (F.args_dict_keyiterator_iter_1 _))
    show wpAny _ _ (ret (.ref it)) _ _ s
    exact wpAny_pure ⟨_, rfl, "dict_keyiterator", _, st.typeIs, F.slot_dict_keyiterator_next.lookup, h⟩
end
section
variable {X : Cx} {tg e : Expr} {td : TE}
/-- for .. in d: the dict is locked from here on -/
def iNKeys (P : Program) (w : World) (td : TE) : TI := fun σ H R => td σ H fun x H1 => ∃ d xs, x = .ref d ∧ ((H1 d = some (NDk P w d xs) ∧ ∀ o, R (Itn P w d o xs) (upd H1 d (.frz o (NDk P w d xs)))) ∨ ∃ o, H1 d = some (.frz o (NDk P w d xs)) ∧ R (Itn P w d o xs) H1)
theorem pi_nkeys (he : PE X e td) : PI X tg e (iNKeys X.prog X.w td) := by
  refine ⟨fun pins s σ H R I h => ?_⟩
  refine thn (he.run pins s σ H _ I h) fun u s1 ⟨x, H1, I1, rx, d, xs, ex, q⟩ => ?_
  subst ex
  obtain rfl : u = Value.ref d := rx
  have fin : ∀ (o : Obj) (H2 : Hp), Inv X pins σ H2 s1 → H2 d = some (.frz o (NDk X.prog X.w d xs)) → R (Itn X.prog X.w d o xs) H2 → wpAny (model X.prog X.w) X.A (pyIter (.ref d)) (PIE X pins σ tg R) X.xe s1 := by
    intro o H2 I2 hd q
    obtain ⟨hs, hgd, hx, es, ep, hdt, hsz, ent⟩ := frzN I2 hd
    refine iter_keys hs hgd hx hdt (pi_one (tk := s1.toks) I2 _ (turn_nkeys _ hdt) ⟨_, Heap.get?_push_size _ rfl, rfl, ?_⟩ q)
    rw [hsz] <;> rfl
  rcases q with ⟨hd, q⟩ | ⟨o, hd, q⟩
  · obtain ⟨od, I2⟩ := I1.lock hd True.intro
    exact fin od _ I2 (by unfold upd; simp) (q od)
  · exact fin o H1 I1 hd q
end
end GX

set_option Elab.async false
set_option linter.all false
set_option maxRecDepth 100000
namespace RT
open PySem PySem.Spec PyProof.Rows
/-! ### fractions in lowest terms as rational numbers -/
def fr (q : Rat) : PyData := .tuple [.int q.num, .int (q.den : Int)]
def lowT (t b : Int) : Int := t / (Int.gcd t b : Int)
def lowI (t b : Int) : PyData := .tuple [.int (lowT t b), .int (lowT b t)]
theorem low_num {t b : Int} (h : 0 < b) : lowT t b = (Rat.divInt t b).num := by
  rw [Rat.num_divInt, Int.sign_eq_one_of_pos h, Int.one_mul, Int.gcd_comm]
  rfl
theorem low_den {t b : Int} (h : 0 < b) : lowT b t = ((Rat.divInt t b).den : Int) := by
  rw [Rat.den_divInt, if_neg (by omega)]
  unfold lowT
  rw [Int.natCast_ediv, Int.natAbs_of_nonneg (by omega)]
theorem low_fr {t b : Int} (h : 0 < b) : lowI t b = fr (Rat.divInt t b) := by
  unfold lowI fr
  rw [low_num h, low_den h]
theorem den_pos (q : Rat) : 0 < (q.den : Int) := by
  have := q.den_pos
  omega
theorem fr_inj {a b : Rat} (h : fr a = fr b) : a = b := by
  unfold fr at h
  injection h with h
  injection h with h1 h2
  injection h2 with h2
  injection h1 with h1
  injection h2 with h2
  exact Rat.ext h1 (by omega)
theorem plus_fr (a b : Rat) : lowI (a.num * b.den + b.num * a.den) (a.den * b.den) = fr (a + b) := by
  rw [low_fr (Int.mul_pos (den_pos a) (den_pos b)), Rat.add_def', ← Rat.divInt_ofNat]
  congr 1
theorem times_fr (a b : Rat) : lowI (a.num * b.num) (a.den * b.den) = fr (a * b) := by
  rw [low_fr (Int.mul_pos (den_pos a) (den_pos b)), Rat.mul_def', ← Rat.divInt_ofNat]
  congr 1
theorem minus_fr (a b : Rat) : lowI (a.num * b.den - b.num * a.den) (a.den * b.den) = fr (a - b) := by
  rw [low_fr (Int.mul_pos (den_pos a) (den_pos b)), Rat.sub_def', ← Rat.divInt_ofNat]
  congr 1
theorem rest_fr (a : Rat) : lowI (a.den - a.num) a.den = fr (1 - a) := by
  rw [low_fr (den_pos a), Rat.sub_def', ← Rat.divInt_ofNat]
  congr 1
  simp
theorem frac_fr {t b : Int} (h : 0 < b) : lowI t b = fr ((t : Rat) / (b : Rat)) := by
  rw [low_fr h, Rat.divInt_eq_div]
/-- a pair in lowest terms is a rational number -/
theorem fr_of {t b : Int} (h : 0 < b) (g : Int.gcd t b = 1) : PyData.tuple [.int t, .int b] = fr (Rat.divInt t b) := by
  have e := low_fr (t := t) h
  unfold lowI lowT at e
  rw [Int.gcd_comm b t, g] at e
  simpa using e
/-! ### how great the numbers are -/
theorem num_le {t b : Int} (h : 0 < b) : (lowT t b).natAbs ≤ t.natAbs ∧ (lowT b t).natAbs ≤ b.natAbs := by
  unfold lowT
  constructor
  · rw [Int.natAbs_ediv_of_dvd (Int.gcd_dvd_left _ _)]
    exact Nat.div_le_self _ _
  · rw [Int.natAbs_ediv_of_dvd (Int.gcd_dvd_left _ _)]
    exact Nat.div_le_self _ _
/-! ### Euclid's way -/
def euc : Nat → Nat → Nat → Nat
  | 0, a, _ => a
  | n + 1, a, b => if b = 0 then a else euc n b (a % b)
theorem euc_gcd : ∀ (n a b : Nat), b < n → euc n a b = Nat.gcd a b
  | n + 1, a, b, h => by
    unfold euc
    by_cases hb : b = 0
    · rw [if_pos hb, hb, Nat.gcd_zero_right]
    · rw [if_neg hb, euc_gcd n b (a % b) (Nat.lt_of_lt_of_le (Nat.mod_lt _ (by omega)) (by omega)), Nat.gcd_comm a b, Nat.gcd_rec b a, Nat.gcd_comm]
end RT

set_option Elab.async false
set_option linter.all false
set_option maxRecDepth 100000
namespace RT
/-! ### edges round a point: the law's crossings and the program's are the same ones -/
abbrev Pr := Int × Int
structure Pt where
  x0 : Int
  x1 : Int
  y0 : Int
  y1 : Int
def offX (p : Pt) (s : Pr) : Int := s.1 * p.x1 - p.x0
def offY (p : Pt) (s : Pr) : Int := s.2 * p.y1 - p.y0
def crossL (p : Pt) (s e : Pr) : Int := offX p s * offY p e - offX p e * offY p s
def onL (p : Pt) (s e : Pr) : Bool := decide (s ≠ e) && (decide (crossL p s e = 0) && ((decide (min (offX p s) (offX p e) ≤ 0) && decide (0 ≤ max (offX p s) (offX p e))) && (decide (min (offY p s) (offY p e) ≤ 0) && decide (0 ≤ max (offY p s) (offY p e)))))
def turnL (p : Pt) (s e : Pr) : Int := (if offY p s ≤ 0 ∧ 0 < offY p e ∧ 0 < crossL p s e then 1 else 0) - (if offY p e ≤ 0 ∧ 0 < offY p s ∧ crossL p s e < 0 then 1 else 0)
/-- the spot of the point -/
structure Spot where
  x : Int
  y : Int
  c : Int
structure IsSpot (p : Pt) (t : Spot) (g : Int) : Prop where
  g0 : 0 < g
  x1 : 0 < p.x1
  y1 : 0 < p.y1
  hx : p.x0 * p.y1 = g * t.x
  hy : p.y0 * p.x1 = g * t.y
  hc : p.x1 * p.y1 = g * t.c
def sideP (t : Spot) (s e : Pr) : Int := (e.1 - s.1) * (t.y - s.2 * t.c) - (e.2 - s.2) * (t.x - s.1 * t.c)
def onP (t : Spot) (s e : Pr) : Bool := decide (sideP t s e = 0) && ((decide (min (s.1 * t.c) (e.1 * t.c) ≤ t.x) && decide (t.x ≤ max (s.1 * t.c) (e.1 * t.c))) && (decide (min (s.2 * t.c) (e.2 * t.c) ≤ t.y) && decide (t.y ≤ max (s.2 * t.c) (e.2 * t.c))))
def turnP (t : Spot) (s e : Pr) : Int := if (s.2 * t.c ≤ t.y ∧ t.y < e.2 * t.c) ∧ 0 < sideP t s e then 1 else if (e.2 * t.c ≤ t.y ∧ t.y < s.2 * t.c) ∧ sideP t s e < 0 then -1 else 0
section
variable {p : Pt} {t : Spot} {g : Int}
theorem side_cross (h : IsSpot p t g) (s e : Pr) : g * sideP t s e = crossL p s e := by
  obtain ⟨_, _, _, hx, hy, hc⟩ := h
  unfold sideP crossL offX offY
  have e1 : g * ((e.1 - s.1) * (t.y - s.2 * t.c) - (e.2 - s.2) * (t.x - s.1 * t.c)) = (e.1 - s.1) * (g * t.y - s.2 * (g * t.c)) - (e.2 - s.2) * (g * t.x - s.1 * (g * t.c)) := by grind
  rw [e1, ← hx, ← hy, ← hc]
  grind
theorem mulpos_le {g a b : Int} (h : 0 < g) : g * a ≤ g * b ↔ a ≤ b := ⟨fun k => Int.le_of_mul_le_mul_left k h, fun k => Int.mul_le_mul_of_nonneg_left k (Int.le_of_lt h)⟩
theorem mulpos_lt {g a b : Int} (h : 0 < g) : g * a < g * b ↔ a < b := ⟨fun k => Int.lt_of_mul_lt_mul_left k (Int.le_of_lt h), fun k => Int.mul_lt_mul_of_pos_left k h⟩
theorem offY_eq (h : IsSpot p t g) (s : Pr) : p.x1 * offY p s = g * (s.2 * t.c - t.y) := by
  obtain ⟨_, _, _, hx, hy, hc⟩ := h
  unfold offY
  have e1 : g * (s.2 * t.c - t.y) = s.2 * (g * t.c) - g * t.y := by grind
  rw [e1, ← hc, ← hy]
  grind
theorem offX_eq (h : IsSpot p t g) (s : Pr) : p.y1 * offX p s = g * (s.1 * t.c - t.x) := by
  obtain ⟨_, _, _, hx, hy, hc⟩ := h
  unfold offX
  have e1 : g * (s.1 * t.c - t.x) = s.1 * (g * t.c) - g * t.x := by grind
  rw [e1, ← hc, ← hx]
  grind
theorem sgn_pos {a b x y : Int} (ha : 0 < a) (hb : 0 < b) (e : a * x = b * y) : (x ≤ 0 ↔ y ≤ 0) ∧ (0 ≤ x ↔ 0 ≤ y) ∧ (0 < x ↔ 0 < y) ∧ (x < 0 ↔ y < 0) := by
  have h1 : a * x ≤ a * 0 ↔ x ≤ 0 := mulpos_le ha
  have h2 : b * y ≤ b * 0 ↔ y ≤ 0 := mulpos_le hb
  have h3 : a * 0 ≤ a * x ↔ 0 ≤ x := mulpos_le ha
  have h4 : b * 0 ≤ b * y ↔ 0 ≤ y := mulpos_le hb
  rw [Int.mul_zero] at h1 h2 h3 h4
  rw [e] at h1 h3
  have h5 := h1.symm.trans h2
  have h6 := h3.symm.trans h4
  refine ⟨h5, h6, ?_, ?_⟩
  · omega
  · omega
theorem offY_sgn (h : IsSpot p t g) (s : Pr) : (offY p s ≤ 0 ↔ s.2 * t.c ≤ t.y) ∧ (0 ≤ offY p s ↔ t.y ≤ s.2 * t.c) ∧ (0 < offY p s ↔ t.y < s.2 * t.c) := by
  obtain ⟨h1, h2, h3, _⟩ := sgn_pos h.x1 h.g0 (offY_eq h s)
  refine ⟨h1.trans ?_, h2.trans ?_, h3.trans ?_⟩ <;> omega
theorem offX_sgn (h : IsSpot p t g) (s : Pr) : (offX p s ≤ 0 ↔ s.1 * t.c ≤ t.x) ∧ (0 ≤ offX p s ↔ t.x ≤ s.1 * t.c) ∧ (0 < offX p s ↔ t.x < s.1 * t.c) := by
  obtain ⟨h1, h2, h3, _⟩ := sgn_pos h.y1 h.g0 (offX_eq h s)
  refine ⟨h1.trans ?_, h2.trans ?_, h3.trans ?_⟩ <;> omega
theorem cross_sgn (h : IsSpot p t g) (s e : Pr) : (crossL p s e = 0 ↔ sideP t s e = 0) ∧ (0 < crossL p s e ↔ 0 < sideP t s e) ∧ (crossL p s e < 0 ↔ sideP t s e < 0) := by
  have e1 := side_cross h s e
  obtain ⟨h1, h2, h3, h4⟩ := sgn_pos (a := 1) (b := g) (by decide) h.g0 (x := crossL p s e) (y := sideP t s e) (by rw [e1]; omega)
  refine ⟨?_, h3, h4⟩
  omega
theorem min_le_iff {a b c : Int} : min a b ≤ c ↔ a ≤ c ∨ b ≤ c := by omega
theorem le_max_iff {a b c : Int} : c ≤ max a b ↔ c ≤ a ∨ c ≤ b := by omega
theorem on_eq (h : IsSpot p t g) (s e : Pr) : onL p s e = (decide (s ≠ e) && onP t s e) := by
  obtain ⟨x1, x2, _⟩ := offX_sgn h s
  obtain ⟨x3, x4, _⟩ := offX_sgn h e
  obtain ⟨y1, y2, _⟩ := offY_sgn h s
  obtain ⟨y3, y4, _⟩ := offY_sgn h e
  obtain ⟨c1, _, _⟩ := cross_sgn h s e
  unfold onL onP
  congr 1
  congr 1
  · exact decide_eq_decide.mpr c1
  · congr 1
    · congr 1
      · exact decide_eq_decide.mpr (by rw [min_le_iff, min_le_iff, x1, x3])
      · exact decide_eq_decide.mpr (by rw [le_max_iff, le_max_iff, x2, x4])
    · congr 1
      · exact decide_eq_decide.mpr (by rw [min_le_iff, min_le_iff, y1, y3])
      · exact decide_eq_decide.mpr (by rw [le_max_iff, le_max_iff, y2, y4])
theorem turn_eq (h : IsSpot p t g) (s e : Pr) : turnL p s e = turnP t s e := by
  obtain ⟨y1, _, y2⟩ := offY_sgn h s
  obtain ⟨y3, _, y4⟩ := offY_sgn h e
  obtain ⟨_, c1, c2⟩ := cross_sgn h s e
  unfold turnL turnP
  simp only [y1, y2, y3, y4, c1, c2]
  split <;> split <;> (try omega) <;> (split <;> omega)
/-- an edge between equal points turns nothing -/
theorem turn_same (s : Pr) : turnL p s s = 0 := by
  unfold turnL
  split <;> split <;> omega
end
end RT

set_option Elab.async false
set_option linter.all false
set_option maxRecDepth 100000
namespace RT
/-! ### drawings of groups at most one deep, and what they show -/
structure Sh where
  odd : Bool
  loops : List (List Pr)
deriving DecidableEq
structure Mat where
  a : Int
  b : Int
  c : Int
  d : Int
  e : Int
  f : Int
inductive Pl where
  | fill (s : Sh) (c : List Int) (o : Pr)
  | rub (s : Sh) (o : Pr)
inductive L1 where
  | plain (p : Pl)
  | grp (ls : List Pl) (o : Pr) (c : Option Sh) (m : Mat)
def led (m : Mat) (p : Pr) : Pr := (m.a * p.1 + m.c * p.2 + m.e, m.b * p.1 + m.d * p.2 + m.f)
def both (o i : Mat) : Mat := ⟨o.a * i.a + o.c * i.b, o.b * i.a + o.d * i.b, o.a * i.c + o.c * i.d, o.b * i.c + o.d * i.d, (led o (i.e, i.f)).1, (led o (i.e, i.f)).2⟩
theorem both_led (o i : Mat) (p : Pr) : led (both o i) p = led o (led i p) := by
  unfold both led
  ext <;> grind
def still : Mat := ⟨1, 0, 0, 1, 0, 0⟩
theorem led_still (p : Pr) : led still p = p := by
  unfold led still
  ext <;> simp
def adj : List Pr → List (Pr × Pr)
  | a :: b :: r => (a, b) :: adj (b :: r)
  | _ => []
def lastD (a : Pr) (r : List Pr) : Pr := (a :: r).getLast (List.cons_ne_nil _ _)
def pairsL : List Pr → List (Pr × Pr)
  | [] => []
  | a :: r => adj (a :: r) ++ [(lastD a r, a)]
def pairsP : List Pr → List (Pr × Pr)
  | [] => []
  | a :: r => (lastD a r, a) :: adj (a :: r)
theorem pairs_mem {l : List Pr} {x : Pr × Pr} : x ∈ pairsL l ↔ x ∈ pairsP l := by
  cases l with
  | nil => exact Iff.rfl
  | cons a r => unfold pairsL pairsP; simp [or_comm]
theorem pairs_sum (f : Pr × Pr → Int) (l : List Pr) : ((pairsL l).map f).sum = ((pairsP l).map f).sum := by
  cases l with
  | nil => rfl
  | cons a r =>
    unfold pairsL pairsP
    rw [List.map_append, List.sum_append, List.map_cons, List.sum_cons, List.map_cons, List.sum_cons]
    simp
    omega
/-- a loop round a point, by the law -/
def onLoopL (p : Pt) (l : List Pr) : Bool := (pairsL l).any fun x => onL p x.1 x.2
def roundL (p : Pt) (l : List Pr) : Option Int := if onLoopL p l = true then none else some ((pairsL l).map fun x => turnL p x.1 x.2).sum
/-- the edges of the program -/
def edgesP (l : List Pr) : List (Pr × Pr) := (pairsP l).filter fun x => decide (x.1 ≠ x.2)
def onLoopP (t : Spot) (l : List Pr) : Bool := (edgesP l).any fun x => onP t x.1 x.2
def countP (t : Spot) (l : List Pr) : Int := ((edgesP l).map fun x => turnP t x.1 x.2).sum
section
variable {p : Pt} {t : Spot} {g : Int}
theorem onLoop_eq (h : IsSpot p t g) (l : List Pr) : onLoopL p l = onLoopP t l := by
  apply Bool.eq_iff_iff.mpr
  unfold onLoopL onLoopP edgesP
  simp only [List.any_eq_true, List.mem_filter, on_eq h, Bool.and_eq_true]
  constructor
  · rintro ⟨x, hx, h1, h2⟩
    exact ⟨x, ⟨pairs_mem.mp hx, h1⟩, h2⟩
  · rintro ⟨x, ⟨hx, h1⟩, h2⟩
    exact ⟨x, pairs_mem.mpr hx, h1, h2⟩
theorem sum_filter {f : Pr × Pr → Int} {q : Pr × Pr → Bool} : ∀ {l : List (Pr × Pr)}, (∀ x, x ∈ l → q x = false → f x = 0) → ((l.filter q).map f).sum = (l.map f).sum
  | [], _ => rfl
  | x :: l, h => by
    have ih := sum_filter fun y hy => h y (List.mem_cons_of_mem _ hy)
    by_cases hq : q x = true
    · rw [List.filter_cons_of_pos hq, List.map_cons, List.map_cons, List.sum_cons, List.sum_cons, ih]
    · rw [List.filter_cons_of_neg hq, List.map_cons, List.sum_cons, ih, h x List.mem_cons_self (Bool.eq_false_iff.mpr hq)]
      omega
theorem count_eq (h : IsSpot p t g) (l : List Pr) : ((pairsL l).map fun x => turnL p x.1 x.2).sum = countP t l := by
  rw [pairs_sum]
  unfold countP edgesP
  rw [sum_filter fun x hx hq => ?_]
  · congr 1
    exact List.map_congr_left fun x _ => turn_eq h x.1 x.2
  · have e : x.1 = x.2 := by simpa using hq
    rw [← turn_eq h, e, turn_same]
def ruled (odd : Bool) (k : Int) : Bool := if odd = true then decide (k % 2 = 1) else decide (k ≠ 0)
/-- the sum of the turns of loops, none on an edge -/
def roundsL (p : Pt) : List (List Pr) → Option Int
  | [] => some 0
  | l :: r => match roundL p l with
    | none => none
    | some k => (roundsL p r).map (k + ·)
def insideL (p : Pt) (s : Sh) : Option Bool := (roundsL p s.loops).map (ruled s.odd)
def onShP (t : Spot) (s : Sh) : Bool := s.loops.any (onLoopP t)
def insideP (t : Spot) (s : Sh) : Bool := ruled s.odd (s.loops.map (countP t)).sum
theorem rounds_eq (h : IsSpot p t g) : ∀ ls : List (List Pr), roundsL p ls = if ls.any (onLoopP t) = true then none else some (ls.map (countP t)).sum
  | [] => rfl
  | l :: r => by
    unfold roundsL roundL
    rw [onLoop_eq h, count_eq h, rounds_eq h r]
    by_cases h1 : onLoopP t l = true
    · have e : (l :: r).any (onLoopP t) = true := by rw [List.any_cons, h1]; rfl
      rw [if_pos h1, if_pos e]
    · rw [if_neg h1]
      have e : (l :: r).any (onLoopP t) = r.any (onLoopP t) := by rw [List.any_cons, Bool.eq_false_iff.mpr h1, Bool.false_or]
      rw [e]
      by_cases h2 : r.any (onLoopP t) = true
      · rw [if_pos h2, if_pos h2]; rfl
      · rw [if_neg h2, if_neg h2]; rfl
theorem inside_eq (h : IsSpot p t g) (s : Sh) : insideL p s = if onShP t s = true then none else some (insideP t s) := by
  unfold insideL onShP insideP
  rw [rounds_eq h]
  split <;> rfl
end
/-! ### values -/
abbrev Vl := List Rat
def zero4 : Vl := [0, 0, 0, 0]
def addV (v w : Vl) : Vl := List.zipWith (· + ·) v w
def mulV (v : Vl) (q : Rat) : Vl := v.map (· * q)
theorem mul_len (v : Vl) (q : Rat) : (mulV v q).length = v.length := List.length_map _
theorem add_len {v w : Vl} (h : v.length = w.length) : (addV v w).length = v.length := by
  unfold addV
  rw [List.length_zipWith, h, Nat.min_self]
theorem zero_add4 {v : Vl} (h : v.length = 4) : addV zero4 v = v := by
  match v, h with
  | [a, b, c, d], _ => simp [addV, zero4, Rat.zero_add]
theorem mul_one4 (v : Vl) : mulV v 1 = v := by
  unfold mulV
  rw [List.map_congr_left (g := id) fun x _ => Rat.mul_one x, List.map_id]
theorem mul_zero4 (q : Rat) : mulV zero4 q = zero4 := by simp [mulV, zero4]
def opq (o : Pr) : Rat := (o.1 : Rat) / (o.2 : Rat)
def fillV (c : List Int) (o : Pr) : Vl := opq o :: c.map fun (k : Int) => (k : Rat) * opq o
def headV (v : Vl) : Rat := v.headD 0
/-- v over what lies below -/
def overV (below v : Vl) : Vl := addV v (mulV below (1 - headV v))
theorem over_zero {v : Vl} (h : v.length = 4) : overV v zero4 = v := by
  unfold overV headV
  have e : (1 : Rat) - zero4.headD 0 = 1 := by simp only [zero4, List.headD_cons]; grind
  rw [e, mul_one4, zero_add4 h]
theorem over_len {b v : Vl} (h1 : b.length = 4) (h2 : v.length = 4) : (overV b v).length = 4 := by
  unfold overV
  rw [add_len (by rw [mul_len, h1, h2]), h2]
end RT

set_option Elab.async false
set_option linter.all false
set_option maxRecDepth 100000
namespace RT
def placeSh (m : Mat) (s : Sh) : Sh := ⟨s.odd, s.loops.map (·.map (led m))⟩
def Pl.sh : Pl → Sh
  | .fill s _ _ => s
  | .rub s _ => s
/-! ### painting by the law -/
def stepIn (b : Bool) (found : Vl) : Pl → Vl
  | .fill _ c o => if b = true then overV found (fillV c o) else found
  | .rub _ o => if b = true then mulV found (1 - opq o) else found
def paintPl (p : Pt) (m : Mat) (found : Vl) (l : Pl) : Option Vl := (insideL p (placeSh m l.sh)).map fun b => stepIn b found l
def paintPs (p : Pt) (m : Mat) : List Pl → Vl → Option Vl
  | [], v => some v
  | l :: r, v => match paintPl p m v l with
    | none => none
    | some v => paintPs p m r v
def flagL (p : Pt) (m : Mat) : Option Sh → Option Bool
  | none => some true
  | some s => insideL p (placeSh m s)
def paint1 (p : Pt) (m : Mat) (found : Vl) : L1 → Option Vl
  | .plain l => paintPl p m found l
  | .grp ls o c mt => match flagL p (both m mt) c, paintPs p (both m mt) ls zero4 with
    | some b, some v => some (if b = true then overV found (mulV v (opq o)) else found)
    | _, _ => none
def paint1s (p : Pt) (m : Mat) : List L1 → Vl → Option Vl
  | [], v => some v
  | l :: r, v => match paint1 p m v l with
    | none => none
    | some v => paint1s p m r v
/-! ### the program: layers put where they are led -/
def placePl (m : Mat) : Pl → Pl
  | .fill s c o => .fill (placeSh m s) c o
  | .rub s o => .rub (placeSh m s) o
def place1 (m : Mat) : L1 → L1
  | .plain l => .plain (placePl m l)
  | .grp ls o c mt => .grp (ls.map (placePl (both m mt))) o (c.map (placeSh (both m mt))) still
/-! ### stacks -/
def num (ks : List Sh) (s : Sh) : Nat × List Sh := if s ∈ ks then (ks.idxOf s, ks) else (ks.length, ks ++ [s])
inductive SP where
  | fill (n : Nat) (c : List Int) (o : Pr)
  | rub (n : Nat) (o : Pr)
inductive S1 where
  | plain (l : SP)
  | grp (ls : List SP) (o : Pr) (c : Option Nat)
def stackPl (ks : List Sh) : Pl → SP × List Sh
  | .fill s c o => (.fill (num ks s).1 c o, (num ks s).2)
  | .rub s o => (.rub (num ks s).1 o, (num ks s).2)
def stackPs : List Sh → List Pl → List SP × List Sh
  | ks, [] => ([], ks)
  | ks, l :: r => ((stackPl ks l).1 :: (stackPs (stackPl ks l).2 r).1, (stackPs (stackPl ks l).2 r).2)
def numC (ks : List Sh) : Option Sh → Option Nat × List Sh
  | none => (none, ks)
  | some s => (some (num ks s).1, (num ks s).2)
def stack1 (ks : List Sh) : L1 → S1 × List Sh
  | .plain l => (.plain (stackPl ks l).1, (stackPl ks l).2)
  | .grp ls o c _ => (.grp (stackPs (numC ks c).2 ls).1 o (numC ks c).1, (stackPs (numC ks c).2 ls).2)
def stack1s : List Sh → List L1 → List S1 × List Sh
  | ks, [] => ([], ks)
  | ks, l :: r => ((stack1 ks l).1 :: (stack1s (stack1 ks l).2 r).1, (stack1s (stack1 ks l).2 r).2)
/-! ### what a stack shows -/
abbrev Ef := Vl × Rat
def layE (v : Vl) : Ef := (v, 1 - headV v)
def effPl (ins : Nat → Bool) : SP → Ef
  | .fill n c o => if ins n = true then layE (fillV c o) else (zero4, 1)
  | .rub n o => if ins n = true then (zero4, 1 - opq o) else (zero4, 1)
def laidF (seen : Vl) (e : Ef) : Vl := addV e.1 (mulV seen e.2)
def laid (es : List Ef) : Vl := es.foldl laidF zero4
def shownPs (ins : Nat → Bool) (ls : List SP) : Vl := laid (ls.map (effPl ins))
def grpV (ins : Nat → Bool) (ls : List SP) (o : Pr) (c : Option Nat) : Vl := if (match c with | some n => !ins n | none => false) = true then zero4 else mulV (shownPs ins ls) (opq o)
def eff1 (ins : Nat → Bool) : S1 → Ef
  | .plain l => effPl ins l
  | .grp ls o c => layE (grpV ins ls o c)
def shown1s (ins : Nat → Bool) (ls : List S1) : Vl := laid (ls.map (eff1 ins))
/-! ### numbers and shapes -/
theorem num_get (ks : List Sh) (s : Sh) : (num ks s).2[(num ks s).1]? = some s := by
  unfold num
  split
  · rename_i h
    rw [List.getElem?_eq_getElem (List.idxOf_lt_length_of_mem h)]
    exact congrArg some (List.getElem_idxOf _)
  · exact List.getElem?_concat_length
theorem num_pre (ks : List Sh) (s : Sh) : ks <+: (num ks s).2 := by
  unfold num
  split
  · exact List.prefix_rfl
  · exact List.prefix_append _ _
theorem num_mem (ks : List Sh) (s x : Sh) : x ∈ (num ks s).2 ↔ x ∈ ks ∨ x = s := by
  unfold num
  split
  · rename_i h
    exact ⟨.inl, fun k => k.elim id fun e => e ▸ h⟩
  · simp
theorem num_nodup {ks : List Sh} {s : Sh} (h : ks.Nodup) : (num ks s).2.Nodup := by
  unfold num
  split
  · exact h
  · rename_i k
    exact List.nodup_append.mpr ⟨h, by simp, fun a ha b hb => by
      rcases List.mem_singleton.mp hb with rfl
      rintro rfl
      exact k ha⟩
theorem pre_get {ks fs : List Sh} {n : Nat} {s : Sh} (h : ks <+: fs) (e : ks[n]? = some s) : fs[n]? = some s := by
  obtain ⟨r, rfl⟩ := h
  rw [List.getElem?_append_left (List.getElem?_eq_some_iff.mp e).1]
  exact e
theorem stackPl_pre (ks : List Sh) (l : Pl) : ks <+: (stackPl ks l).2 := by
  cases l <;> exact num_pre _ _
theorem stackPs_pre : ∀ (ls : List Pl) (ks : List Sh), ks <+: (stackPs ks ls).2
  | [], ks => List.prefix_rfl
  | l :: r, ks => (stackPl_pre ks l).trans (stackPs_pre r _)
theorem numC_pre (ks : List Sh) (c : Option Sh) : ks <+: (numC ks c).2 := by
  cases c with
  | none => exact List.prefix_rfl
  | some s => exact num_pre _ _
theorem stack1_pre (ks : List Sh) (l : L1) : ks <+: (stack1 ks l).2 := by
  cases l with
  | plain l => exact stackPl_pre _ _
  | grp ls o c m => exact (numC_pre ks c).trans (stackPs_pre ls _)
theorem stack1s_pre : ∀ (ls : List L1) (ks : List Sh), ks <+: (stack1s ks ls).2
  | [], ks => List.prefix_rfl
  | l :: r, ks => (stack1_pre ks l).trans (stack1s_pre r _)
def shs1 : L1 → List Sh
  | .plain l => [l.sh]
  | .grp ls _ c _ => (match c with | some s => [s] | none => []) ++ ls.map Pl.sh
theorem stackPl_mem (ks : List Sh) (l : Pl) (x : Sh) : x ∈ (stackPl ks l).2 ↔ x ∈ ks ∨ x = l.sh := by
  cases l <;> exact num_mem _ _ _
theorem stackPs_mem : ∀ (ls : List Pl) (ks : List Sh) (x : Sh), x ∈ (stackPs ks ls).2 ↔ x ∈ ks ∨ x ∈ ls.map Pl.sh
  | [], ks, x => by simp [stackPs]
  | l :: r, ks, x => by
    show x ∈ (stackPs (stackPl ks l).2 r).2 ↔ _
    rw [stackPs_mem r, stackPl_mem, List.map_cons, List.mem_cons]
    grind
theorem stack1_mem (ks : List Sh) (l : L1) (x : Sh) : x ∈ (stack1 ks l).2 ↔ x ∈ ks ∨ x ∈ shs1 l := by
  cases l with
  | plain l => exact (stackPl_mem ks l x).trans (by simp [shs1])
  | grp ls o c m =>
    show x ∈ (stackPs (numC ks c).2 ls).2 ↔ _
    rw [stackPs_mem]
    cases c with
    | none => simp [numC, shs1]
    | some s =>
      show x ∈ (num ks s).2 ∨ _ ↔ _
      rw [num_mem]
      simp [shs1]
      grind
theorem stack1s_mem : ∀ (ls : List L1) (ks : List Sh) (x : Sh), x ∈ (stack1s ks ls).2 ↔ x ∈ ks ∨ x ∈ ls.flatMap shs1
  | [], ks, x => by simp [stack1s]
  | l :: r, ks, x => by
    show x ∈ (stack1s (stack1 ks l).2 r).2 ↔ _
    rw [stack1s_mem r, stack1_mem, List.flatMap_cons, List.mem_append]
    grind
/-! ### what is shown, by the shapes -/
section
variable {ins : Nat → Bool} {inS : Sh → Bool} {fs : List Sh}
def Ok (fs : List Sh) (ins : Nat → Bool) (inS : Sh → Bool) : Prop := ∀ (n : Nat) (s : Sh), fs[n]? = some s → ins n = inS s
theorem num_ins (k : Ok fs ins inS) {ks : List Sh} {s : Sh} (h : (num ks s).2 <+: fs) : ins (num ks s).1 = inS s := k _ _ (pre_get h (num_get ks s))
theorem zero_len : zero4.length = 4 := rfl
theorem laid_out {v : Vl} (h : v.length = 4) : laidF v (zero4, 1) = v := by
  show addV zero4 (mulV v 1) = v
  rw [mul_one4, zero_add4 h]
theorem laid_rub {v : Vl} {q : Rat} (h : v.length = 4) : laidF v (zero4, q) = mulV v q := by
  show addV zero4 (mulV v q) = _
  rw [zero_add4 (by rw [mul_len]; exact h)]
theorem laid_lay {v x : Vl} : laidF v (layE x) = overV v x := rfl
def Pl.ok : Pl → Prop
  | .fill _ c _ => c.length = 3
  | .rub _ _ => True
theorem fill_len {c : List Int} {o : Pr} (h : c.length = 3) : (fillV c o).length = 4 := by
  unfold fillV
  rw [List.length_cons, List.length_map, h]
theorem step_len {b : Bool} {v : Vl} {l : Pl} (h : v.length = 4) (hl : l.ok) : (stepIn b v l).length = 4 := by
  cases l with
  | fill s c o =>
    show (if b = true then overV v (fillV c o) else v).length = 4
    split
    · exact over_len h (fill_len hl)
    · exact h
  | rub s o =>
    show (if b = true then mulV v (1 - opq o) else v).length = 4
    split
    · rw [mul_len]; exact h
    · exact h
theorem stackPl_step (k : Ok fs ins inS) {ks : List Sh} {l : Pl} (h : (stackPl ks l).2 <+: fs) {v : Vl} (hv : v.length = 4) : laidF v (effPl ins (stackPl ks l).1) = stepIn (inS l.sh) v l := by
  cases l with
  | fill s c o =>
    have e := num_ins k (ks := ks) (s := s) h
    show laidF v (if ins (num ks s).1 = true then layE (fillV c o) else (zero4, 1)) = if inS s = true then overV v (fillV c o) else v
    rw [e]
    split
    · rfl
    · exact laid_out hv
  | rub s o =>
    have e := num_ins k (ks := ks) (s := s) h
    show laidF v (if ins (num ks s).1 = true then (zero4, 1 - opq o) else (zero4, 1)) = if inS s = true then mulV v (1 - opq o) else v
    rw [e]
    split
    · exact laid_rub hv
    · exact laid_out hv
def runPs (inS : Sh → Bool) (ls : List Pl) (v : Vl) : Vl := ls.foldl (fun v l => stepIn (inS l.sh) v l) v
theorem stackPs_run (k : Ok fs ins inS) : ∀ (ls : List Pl) (ks : List Sh) (v : Vl), (stackPs ks ls).2 <+: fs → (∀ l, l ∈ ls → l.ok) → v.length = 4 → ((stackPs ks ls).1.map (effPl ins)).foldl laidF v = runPs inS ls v ∧ (runPs inS ls v).length = 4
  | [], ks, v, _, _, hv => ⟨rfl, hv⟩
  | l :: r, ks, v, h, ho, hv => by
    have h' : (stackPs (stackPl ks l).2 r).2 <+: fs := h
    have e := stackPl_step k (ks := ks) (l := l) ((stackPs_pre r _).trans h') hv
    have hs := step_len (b := inS l.sh) hv (ho l (by simp))
    obtain ⟨i1, i2⟩ := stackPs_run k r (stackPl ks l).2 (stepIn (inS l.sh) v l) h' (fun x hx => ho x (List.mem_cons_of_mem _ hx)) hs
    refine ⟨?_, i2⟩
    show ((stackPs (stackPl ks l).2 r).1.map (effPl ins)).foldl laidF (laidF v (effPl ins (stackPl ks l).1)) = _
    rw [e]
    exact i1
def L1.ok : L1 → Prop
  | .plain l => l.ok
  | .grp ls _ _ _ => ∀ l, l ∈ ls → l.ok
def clipIn (inS : Sh → Bool) : Option Sh → Bool
  | none => true
  | some s => inS s
def run1 (inS : Sh → Bool) (v : Vl) : L1 → Vl
  | .plain l => stepIn (inS l.sh) v l
  | .grp ls o c _ => if clipIn inS c = true then overV v (mulV (runPs inS ls zero4) (opq o)) else v
def run1s (inS : Sh → Bool) (ls : List L1) (v : Vl) : Vl := ls.foldl (run1 inS) v
theorem stack1_run (k : Ok fs ins inS) {ks : List Sh} {l : L1} (h : (stack1 ks l).2 <+: fs) (ho : l.ok) {v : Vl} (hv : v.length = 4) : laidF v (eff1 ins (stack1 ks l).1) = run1 inS v l ∧ (run1 inS v l).length = 4 := by
  cases l with
  | plain l => exact ⟨stackPl_step k h hv, step_len hv ho⟩
  | grp ls o c m =>
    have h' : (stackPs (numC ks c).2 ls).2 <+: fs := h
    obtain ⟨i1, i2⟩ := stackPs_run k ls (numC ks c).2 zero4 h' ho zero_len
    have hc : (match (numC ks c).1 with | some n => !ins n | none => false) = !clipIn inS c := by
      cases c with
      | none => rfl
      | some s =>
        have e := num_ins k (ks := ks) (s := s) ((stackPs_pre ls _).trans h')
        show (!ins (num ks s).1) = !inS s
        rw [e]
    have e : eff1 ins (stack1 ks (.grp ls o c m)).1 = layE (if (!clipIn inS c) = true then zero4 else mulV (runPs inS ls zero4) (opq o)) := by
      show layE (if (match (numC ks c).1 with | some n => !ins n | none => false) = true then zero4 else mulV (laid ((stackPs (numC ks c).2 ls).1.map (effPl ins))) (opq o)) = _
      rw [hc]
      unfold laid
      rw [i1]
    rw [e, laid_lay]
    show overV v (if (!clipIn inS c) = true then zero4 else mulV (runPs inS ls zero4) (opq o)) = (if clipIn inS c = true then overV v (mulV (runPs inS ls zero4) (opq o)) else v) ∧ (if clipIn inS c = true then overV v (mulV (runPs inS ls zero4) (opq o)) else v).length = 4
    by_cases hq : clipIn inS c = true
    · rw [if_pos hq, if_neg (by rw [hq]; exact Bool.false_ne_true)]
      exact ⟨rfl, over_len hv (by rw [mul_len]; exact i2)⟩
    · rw [if_neg hq, if_pos (by rw [Bool.eq_false_iff.mpr hq]; rfl)]
      exact ⟨over_zero hv, hv⟩
theorem stack1s_run (k : Ok fs ins inS) : ∀ (ls : List L1) (ks : List Sh) (v : Vl), (stack1s ks ls).2 <+: fs → (∀ l, l ∈ ls → l.ok) → v.length = 4 → ((stack1s ks ls).1.map (eff1 ins)).foldl laidF v = run1s inS ls v ∧ (run1s inS ls v).length = 4
  | [], ks, v, _, _, hv => ⟨rfl, hv⟩
  | l :: r, ks, v, h, ho, hv => by
    have h' : (stack1s (stack1 ks l).2 r).2 <+: fs := h
    obtain ⟨e, hs⟩ := stack1_run k (ks := ks) (l := l) ((stack1s_pre r _).trans h') (ho l (by simp)) hv
    obtain ⟨i1, i2⟩ := stack1s_run k r (stack1 ks l).2 (run1 inS v l) h' (fun x hx => ho x (List.mem_cons_of_mem _ hx)) hs
    refine ⟨?_, i2⟩
    show ((stack1s (stack1 ks l).2 r).1.map (eff1 ins)).foldl laidF (laidF v (eff1 ins (stack1 ks l).1)) = _
    rw [e]
    exact i1
end
end RT

set_option Elab.async false
set_option linter.all false
set_option maxRecDepth 100000
namespace RT
/-! ### the law's painting is the program's -/
section
variable {p : Pt} {t : Spot} {g : Int}
theorem paintPl_eq (h : IsSpot p t g) (m : Mat) (v : Vl) (l : Pl) : paintPl p m v l = if onShP t (placeSh m l.sh) = true then none else some (stepIn (insideP t (placeSh m l.sh)) v l) := by
  unfold paintPl
  rw [inside_eq h]
  split <;> rfl
theorem place_sh (m : Mat) (l : Pl) : (placePl m l).sh = placeSh m l.sh := by cases l <;> rfl
theorem place_step (m : Mat) (b : Bool) (v : Vl) (l : Pl) : stepIn b v (placePl m l) = stepIn b v l := by cases l <;> rfl
theorem paintPs_eq (h : IsSpot p t g) (m : Mat) : ∀ (ls : List Pl) (v : Vl), paintPs p m ls v = if (ls.any fun l => onShP t (placeSh m l.sh)) = true then none else some (runPs (insideP t) (ls.map (placePl m)) v)
  | [], v => rfl
  | l :: r, v => by
    show (match paintPl p m v l with
      | none => none
      | some v => paintPs p m r v) = _
    rw [paintPl_eq h]
    by_cases h1 : onShP t (placeSh m l.sh) = true
    · rw [if_pos h1, if_pos (by rw [List.any_cons, h1]; rfl)]
    · rw [if_neg h1]
      show paintPs p m r _ = _
      rw [paintPs_eq h m r, List.any_cons, Bool.eq_false_iff.mpr h1, Bool.false_or]
      have e : runPs (insideP t) ((l :: r).map (placePl m)) v = runPs (insideP t) (r.map (placePl m)) (stepIn (insideP t (placeSh m l.sh)) v l) := by
        unfold runPs
        rw [List.map_cons, List.foldl_cons, place_sh, place_step]
      rw [e]
def onC (t : Spot) (m : Mat) : Option Sh → Bool
  | none => false
  | some s => onShP t (placeSh m s)
theorem flag_eq (h : IsSpot p t g) (m : Mat) (c : Option Sh) : flagL p m c = if onC t m c = true then none else some (clipIn (insideP t) (c.map (placeSh m))) := by
  cases c with
  | none => rfl
  | some s => exact inside_eq h _
theorem any_sh (m : Mat) (ls : List Pl) : ((ls.map (placePl m)).map Pl.sh).any (onShP t) = ls.any fun l => onShP t (placeSh m l.sh) := by
  rw [List.map_map, List.any_map]
  congr 1
  funext l
  show onShP t (placePl m l).sh = _
  rw [place_sh]
theorem paint1_eq (h : IsSpot p t g) (m : Mat) (v : Vl) (l : L1) : paint1 p m v l = if (shs1 (place1 m l)).any (onShP t) = true then none else some (run1 (insideP t) v (place1 m l)) := by
  cases l with
  | plain l =>
    show paintPl p m v l = if [(placePl m l).sh].any (onShP t) = true then none else some (stepIn (insideP t (placePl m l).sh) v (placePl m l))
    rw [paintPl_eq h, place_sh, place_step, List.any_cons, List.any_nil, Bool.or_false]
  | grp ls o c mt =>
    show (match flagL p (both m mt) c, paintPs p (both m mt) ls zero4 with
      | some b, some w => some (if b = true then overV v (mulV w (opq o)) else v)
      | _, _ => none) = if ((match c.map (placeSh (both m mt)) with | some s => [s] | none => []) ++ (ls.map (placePl (both m mt))).map Pl.sh).any (onShP t) = true then none
        else some (if clipIn (insideP t) (c.map (placeSh (both m mt))) = true then overV v (mulV (runPs (insideP t) (ls.map (placePl (both m mt))) zero4) (opq o)) else v)
    rw [flag_eq h, paintPs_eq h, List.any_append, any_sh]
    have hc : (match c.map (placeSh (both m mt)) with | some s => [s] | none => []).any (onShP t) = onC t (both m mt) c := by
      cases c with
      | none => rfl
      | some s => show [placeSh (both m mt) s].any (onShP t) = onShP t (placeSh (both m mt) s); simp
    rw [hc]
    by_cases h1 : onC t (both m mt) c = true
    · rw [if_pos h1, h1, Bool.true_or, if_pos rfl]
    · rw [if_neg h1, Bool.eq_false_iff.mpr h1, Bool.false_or]
      by_cases h2 : (ls.any fun l => onShP t (placeSh (both m mt) l.sh)) = true
      · rw [if_pos h2, if_pos h2]
      · rw [if_neg h2, if_neg h2]
theorem paint1s_eq (h : IsSpot p t g) (m : Mat) : ∀ (ls : List L1) (v : Vl), paint1s p m ls v = if ((ls.map (place1 m)).flatMap shs1).any (onShP t) = true then none else some (run1s (insideP t) (ls.map (place1 m)) v)
  | [], v => rfl
  | l :: r, v => by
    show (match paint1 p m v l with
      | none => none
      | some v => paint1s p m r v) = _
    rw [paint1_eq h, List.map_cons, List.flatMap_cons, List.any_append]
    by_cases h1 : (shs1 (place1 m l)).any (onShP t) = true
    · rw [if_pos h1, if_pos (by rw [h1]; rfl)]
    · rw [if_neg h1, Bool.eq_false_iff.mpr h1, Bool.false_or]
      exact paint1s_eq h m r _
theorem place_ok {m : Mat} {l : L1} (h : l.ok) : (place1 m l).ok := by
  cases l with
  | plain l => cases l <;> exact h
  | grp ls o c mt =>
    intro x hx
    obtain ⟨y, hy, rfl⟩ := List.mem_map.mp hx
    have z := h y hy
    cases y <;> exact z
/-- painted: OnEdge on an edge of a loop, else what the layers show -/
def paintedM (t : Spot) (ls : List L1) : Option Vl :=
  if (stack1s [] (ls.map (place1 still))).2.any (onShP t) = true then none else some (shown1s (fun n => ((stack1s [] (ls.map (place1 still))).2.map (insideP t)).getD n false) (stack1s [] (ls.map (place1 still))).1)
theorem painted_eq (h : IsSpot p t g) {ls : List L1} (ho : ∀ l, l ∈ ls → l.ok) : paintedM t ls = paint1s p still ls zero4 := by
  rw [paint1s_eq h]
  unfold paintedM
  have ha : (stack1s [] (ls.map (place1 still))).2.any (onShP t) = ((ls.map (place1 still)).flatMap shs1).any (onShP t) := by
    apply Bool.eq_iff_iff.mpr
    rw [List.any_eq_true, List.any_eq_true]
    have hm := stack1s_mem (ls.map (place1 still)) []
    constructor
    · rintro ⟨x, hx, hq⟩
      exact ⟨x, ((hm x).mp hx).elim (fun z => by cases z) id, hq⟩
    · rintro ⟨x, hx, hq⟩
      exact ⟨x, (hm x).mpr (.inr hx), hq⟩
  rw [ha]
  split
  · rfl
  · congr 1
    have ok : Ok (stack1s [] (ls.map (place1 still))).2 (fun n => ((stack1s [] (ls.map (place1 still))).2.map (insideP t)).getD n false) (insideP t) := fun n s e => by
      show ((stack1s [] (ls.map (place1 still))).2.map (insideP t)).getD n false = _
      rw [List.getD_eq_getElem?_getD, List.getElem?_map, e]
      rfl
    exact (stack1s_run ok (ls.map (place1 still)) [] zero4 List.prefix_rfl (fun l hl => by
      obtain ⟨y, hy, rfl⟩ := List.mem_map.mp hl
      exact place_ok (ho y hy)) zero_len).1
end
end RT

set_option Elab.async false
set_option linter.all false
set_option maxRecDepth 100000
namespace RT
/-! ### how many signs values have -/
def sz (k : Nat) (q : Rat) : Prop := q.num.natAbs ≤ 2 ^ k ∧ q.den ≤ 2 ^ k
theorem sz_up {j k : Nat} {q : Rat} (h : sz j q) (e : j ≤ k) : sz k q := ⟨Nat.le_trans h.1 (Nat.pow_le_pow_right (by decide) e), Nat.le_trans h.2 (Nat.pow_le_pow_right (by decide) e)⟩
theorem low_sz {t b : Int} {k : Nat} (h : 0 < b) (h1 : t.natAbs ≤ 2 ^ k) (h2 : b.natAbs ≤ 2 ^ k) : sz k (Rat.divInt t b) := by
  obtain ⟨a, c⟩ := num_le (t := t) h
  rw [low_num h] at a
  rw [low_den h] at c
  exact ⟨Nat.le_trans a h1, Nat.le_trans (by simpa using c) h2⟩
theorem add_div (a b : Rat) : a + b = Rat.divInt (a.num * b.den + b.num * a.den) (a.den * b.den) := by
  rw [Rat.add_def', ← Rat.divInt_ofNat]
  congr 1
theorem mul_div (a b : Rat) : a * b = Rat.divInt (a.num * b.num) (a.den * b.den) := by
  rw [Rat.mul_def', ← Rat.divInt_ofNat]
  congr 1
theorem rest_div (a : Rat) : 1 - a = Rat.divInt (a.den - a.num) a.den := fr_inj ((rest_fr a).symm.trans (low_fr (den_pos a)))
theorem nat_mul {x y : Int} {j k : Nat} (h1 : x.natAbs ≤ 2 ^ j) (h2 : y.natAbs ≤ 2 ^ k) : (x * y).natAbs ≤ 2 ^ (j + k) := by
  rw [Int.natAbs_mul, Nat.pow_add]
  exact Nat.mul_le_mul h1 h2
theorem nat_add {x y : Int} {k : Nat} (h1 : x.natAbs ≤ 2 ^ k) (h2 : y.natAbs ≤ 2 ^ k) : (x + y).natAbs ≤ 2 ^ (k + 1) := by
  have := Int.natAbs_add_le x y
  rw [Nat.pow_succ]
  omega
theorem den_nat {q : Rat} {k : Nat} (h : sz k q) : ((q.den : Int)).natAbs ≤ 2 ^ k := by simpa using h.2
theorem sz_add {a b : Rat} {j k : Nat} (h1 : sz j a) (h2 : sz k b) : sz (j + k + 1) (a + b) := by
  rw [add_div]
  refine low_sz (Int.mul_pos (den_pos a) (den_pos b)) (nat_add (nat_mul h1.1 (den_nat h2)) ?_) ?_
  · rw [Nat.add_comm j k]
    exact nat_mul h2.1 (den_nat h1)
  · exact Nat.le_trans (nat_mul (den_nat h1) (den_nat h2)) (Nat.pow_le_pow_right (by decide) (by omega))
theorem sz_mul {a b : Rat} {j k : Nat} (h1 : sz j a) (h2 : sz k b) : sz (j + k) (a * b) := by
  rw [mul_div]
  exact low_sz (Int.mul_pos (den_pos a) (den_pos b)) (nat_mul h1.1 h2.1) (nat_mul (den_nat h1) (den_nat h2))
theorem sz_rest {a : Rat} {k : Nat} (h : sz k a) : sz (k + 1) (1 - a) := by
  rw [rest_div]
  refine low_sz (den_pos a) ?_ (Nat.le_trans (den_nat h) (Nat.pow_le_pow_right (by decide) (by omega)))
  have := nat_add (x := (a.den : Int)) (y := -a.num) (den_nat h) (by rw [Int.natAbs_neg]; exact h.1)
  rwa [← Int.sub_eq_add_neg] at this
theorem sz_zero {k : Nat} : sz k 0 := ⟨by simp, Nat.one_le_two_pow⟩
theorem sz_one {k : Nat} : sz k 1 := ⟨Nat.one_le_two_pow, Nat.one_le_two_pow⟩
def szV (k : Nat) (v : Vl) : Prop := ∀ q, q ∈ v → sz k q
theorem szV_up {j k : Nat} {v : Vl} (h : szV j v) (e : j ≤ k) : szV k v := fun q hq => sz_up (h q hq) e
theorem szV_mul {j k : Nat} {v : Vl} {q : Rat} (h : szV j v) (h2 : sz k q) : szV (j + k) (mulV v q) := fun x hx => by
  obtain ⟨y, hy, rfl⟩ := List.mem_map.mp hx
  exact sz_mul (h y hy) h2
theorem mem_zip {f : Rat → Rat → Rat} : ∀ {v w : Vl} {x : Rat}, x ∈ List.zipWith f v w → ∃ a b, a ∈ v ∧ b ∈ w ∧ x = f a b
  | a :: v, b :: w, x, h => by
    rw [List.zipWith_cons_cons] at h
    rcases List.mem_cons.mp h with rfl | h
    · exact ⟨a, b, by simp, by simp, rfl⟩
    · obtain ⟨c, d, h1, h2, e⟩ := mem_zip h
      exact ⟨c, d, List.mem_cons_of_mem _ h1, List.mem_cons_of_mem _ h2, e⟩
  | [], _, x, h => by simp at h
  | _ :: _, [], x, h => by simp at h
theorem szV_add {j k : Nat} {v w : Vl} (h : szV j v) (h2 : szV k w) : szV (j + k + 1) (addV v w) := fun x hx => by
  obtain ⟨a, b, ha, hb, rfl⟩ := mem_zip hx
  exact sz_add (h a ha) (h2 b hb)
theorem szV_over {j k : Nat} {b v : Vl} (h1 : szV j b) (h2 : szV k v) : szV (2 * k + j + 2) (overV b v) := by
  have hh : sz k (headV v) := by
    unfold headV
    cases v with
    | nil => exact sz_zero
    | cons a r => exact h2 a (by simp)
  have := szV_add h2 (szV_mul h1 (sz_rest hh))
  exact szV_up this (by omega)
theorem bits_of {x : Int} {k : Nat} (h : x.natAbs ≤ 2 ^ k) (hk : k < 1000) : PySem.Builtin.Int.intBits x ≤ 2 ^ 20 := by
  refine Nat.le_trans (PyProof.Rows.intBits_le (k := k + 1) (Nat.lt_of_le_of_lt h (Nat.pow_lt_pow_right (by decide) (by omega)))) ?_
  exact Nat.le_trans (show k + 1 ≤ 1001 by omega) (by decide)
theorem mulOk {x y : Int} {j k : Nat} (h1 : x.natAbs ≤ 2 ^ j) (h2 : y.natAbs ≤ 2 ^ k) (hj : j < 1000) (hk : k < 1000) : PySem.IntMulOk x y := .of_bits (bits_of h1 hj) (bits_of h2 hk)
theorem divOk {t b : Int} {k : Nat} (h0 : 0 < b) (h : b.natAbs ≤ 2 ^ k) (hk : k < 8000) : L2.CDivW t b := by
  refine ⟨h0, ?_⟩
  have : b.natAbs.log2 < k + 1 := (Nat.log2_lt (by omega)).mpr (Nat.lt_of_le_of_lt h (Nat.pow_lt_pow_right (by decide) (by omega)))
  omega
end RT

set_option Elab.async false
set_option linter.all false
set_option maxRecDepth 100000
set_option maxHeartbeats 4000000
namespace K01
variable [DL.Tbs]
open PySem PySem.Spec PyProof.Rows L2 DL HX GX RT
section
variable {P : Program} {w : World} {K : PySem.W.Frag} {mg : Str → Option Value} {base : Heap}
/-! ### fractions -/
theorem c_gcd2 {a b : Int} : OpC K rGcdN [.d (.int a), .d (.int b)] (.int (Int.gcd a b : Int)) := fun H0 H ρ ex vs k Q q => by
  cases k with
  | cons x t =>
    cases t with
    | cons y t =>
      cases t
      have x : Dp K H0 _ (.int a) := x
      have y : Dp K H0 _ (.int b) := y
      cases x; cases y
      exact .inl ⟨a, b, rfl, here ex (.int _) q⟩
theorem c_gcd3 {a b c : Int} : OpC K rGcdN [.d (.int a), .d (.int b), .d (.int c)] (.int (((a.natAbs.gcd b.natAbs).gcd c.natAbs : Nat) : Int)) := fun H0 H ρ ex vs k Q q => by
  cases k with
  | cons x t =>
    cases t with
    | cons y t =>
      cases t with
      | cons z t =>
        cases t
        have x : Dp K H0 _ (.int a) := x
        have y : Dp K H0 _ (.int b) := y
        have z : Dp K H0 _ (.int c) := z
        cases x; cases y; cases z
        exact .inr ⟨a, b, c, rfl, here ex (.int _) q⟩
abbrev R_low : List PyData → PyData → Prop := fun ds y => ∃ t b : Int, ds = [.int t, .int b] ∧ 0 < b ∧ t.natAbs ≤ 2 ^ 900 ∧ b.natAbs ≤ 2 ^ 900 ∧ y = lowI t b
theorem gcd_pos {t b : Int} (h : 0 < b) : 0 < (Int.gcd t b : Int) := by
  have : 0 < Int.gcd t b := Int.gcd_pos_of_ne_zero_right t (by omega)
  omega
theorem gcd_le {t b : Int} (h : 0 < b) : ((Int.gcd t b : Int)).natAbs ≤ b.natAbs := by
  rw [Int.natAbs_natCast]
  exact Nat.le_of_dvd (by omega) (Nat.gcd_dvd_right _ _)
theorem c_lowest (m_gcd : mg "gcd" = some (.builtin "math.gcd")) (TD : DefT K mg "lowest" st_lowest ["top", "bottom"]) : PureC P w K mg base 1 "lowest" ["top", "bottom"] R_low := by
  refine mkPure TD S_lowest fun f cdv A outer s H E hr => ?_
  refine ⟨_, (pss_cons (ps_set (i := 2) S_lowest.nd rfl (Or.inl rfl) (pe_callBfun GX.cr_gcdN (by rfl) m_gcd (pa_cons (pv 0) (pa_cons (pv 1) pa_nil))))
      (pss_one (ps_ret (pe_tup (pa_cons (pe_op op_fdivW (pv 0) (pv 2)) (pa_cons (pe_op op_fdivW (pv 1) (pv 2)) pa_nil)))))), ?_⟩
  rintro ds m y hl ⟨t, b, rfl, hb, h1, h2, rfl⟩
  have hg := gcd_pos (t := t) hb
  have hle := Nat.le_trans (gcd_le (t := t) hb) h2
  refine sv_seq (es1 := [.d (.int t), .d (.int b), .d (.int (Int.gcd t b : Int))]) (m1 := m) (sv_set (ev_cb (arg2 (ev_var rfl nofun) (ev_var rfl nofun)) c_gcd2)) (sv_ret0 (ev_cast (ev_tup (ds := [.int (t / (Int.gcd t b : Int)), .int (b / (Int.gcd t b : Int))]) (arg2 (ev_op (ev_var rfl nofun) (ev_var rfl nofun) (o_div (divOk hg hle (by decide)))) (ev_op (ev_var rfl nofun) (ev_var rfl nofun) (o_div (divOk hg hle (by decide))))) rfl (by simp)) ?_))
  unfold lowI lowT
  rw [Int.gcd_comm b t]
theorem low_of {t b : Int} {k : Nat} (h : 0 < b) (h1 : t.natAbs ≤ 2 ^ k) (h2 : b.natAbs ≤ 2 ^ k) (hk : k ≤ 900) : R_low [.int t, .int b] (fr (Rat.divInt t b)) :=
  ⟨t, b, rfl, h, Nat.le_trans h1 (Nat.pow_le_pow_right (by decide) hk), Nat.le_trans h2 (Nat.pow_le_pow_right (by decide) hk), (low_fr h).symm⟩
abbrev R_two (f : Rat → Rat → Rat) : List PyData → PyData → Prop := fun ds y => ∃ a b : Rat, ds = [fr a, fr b] ∧ sz 400 a ∧ sz 400 b ∧ y = fr (f a b)
theorem c_plus {k : Nat} (TD : DefT K mg "plus" st_plus ["one", "other"]) (D_lowest : PureC P w K mg base k "lowest" ["top", "bottom"] R_low) : PureC P w K mg base (k + 1) "plus" ["one", "other"] (R_two (· + ·)) := by
  refine mkPure TD S_plus fun f cdv A outer s H E hr => ?_
  refine ⟨_, (pss_one (ps_ret (pe_def D_lowest (hr.mono (by omega)) (by rfl) pass0 (pa_cons (pe_op (kAdd (K := K)) (pe_op (kMul (K := K)) (pe_ix (kIx (K := K)) (pv 0) pe_int (fun _ _ => rfl)) (pe_ix (kIx (K := K)) (pv 1) pe_int (fun _ _ => rfl))) (pe_op (kMul (K := K)) (pe_ix (kIx (K := K)) (pv 1) pe_int (fun _ _ => rfl)) (pe_ix (kIx (K := K)) (pv 0) pe_int (fun _ _ => rfl)))) (pa_cons (pe_op (kMul (K := K)) (pe_ix (kIx (K := K)) (pv 0) pe_int (fun _ _ => rfl)) (pe_ix (kIx (K := K)) (pv 1) pe_int (fun _ _ => rfl))) pa_nil))))), ?_⟩
  rintro ds m y hl ⟨a, b, rfl, ha, hb, rfl⟩
  have da := den_nat ha
  have db := den_nat hb
  have e0 : ∀ {es : List Sl} {m : M} {i : Nat} {q : Rat}, es[i]? = some (.d (fr q)) → EvE K (tOp (rIx K) (tVar i) (tC (.int 0))) es m (.d (.int q.num)) m := fun h => ev_op (ev_var h nofun) ev_int (o_ixT (j := 0) rfl rfl)
  have e1 : ∀ {es : List Sl} {m : M} {i : Nat} {q : Rat}, es[i]? = some (.d (fr q)) → EvE K (tOp (rIx K) (tVar i) (tC (.int 1))) es m (.d (.int (q.den : Int))) m := fun h => ev_op (ev_var h nofun) ev_int (o_ixT (j := 1) rfl rfl)
  refine sv_ret0 (ev_pure (arg2 (ev_op (ev_op (e0 rfl) (e1 rfl) (o_mulII (mulOk ha.1 db (by decide) (by decide)))) (ev_op (e0 rfl) (e1 rfl) (o_mulII (mulOk hb.1 da (by decide) (by decide)))) o_addI) (ev_op (e1 rfl) (e1 rfl) (o_mulII (mulOk da db (by decide) (by decide))))) (ds := [.int (a.num * b.den + b.num * a.den), .int (a.den * b.den)]) rfl ?_ rfl)
  show R_low _ (fr (a + b))
  rw [add_div]
  exact low_of (k := 801) (Int.mul_pos (den_pos a) (den_pos b)) (nat_add (nat_mul ha.1 db) (nat_mul hb.1 da)) (Nat.le_trans (nat_mul da db) (Nat.pow_le_pow_right (by decide) (by decide))) (by decide)
theorem c_times {k : Nat} (TD : DefT K mg "times" st_times ["one", "other"]) (D_lowest : PureC P w K mg base k "lowest" ["top", "bottom"] R_low) : PureC P w K mg base (k + 1) "times" ["one", "other"] (R_two (· * ·)) := by
  refine mkPure TD S_times fun f cdv A outer s H E hr => ?_
  refine ⟨_, (pss_one (ps_ret (pe_def D_lowest (hr.mono (by omega)) (by rfl) pass0 (pa_cons (pe_op (kMul (K := K)) (pe_ix (kIx (K := K)) (pv 0) pe_int (fun _ _ => rfl)) (pe_ix (kIx (K := K)) (pv 1) pe_int (fun _ _ => rfl))) (pa_cons (pe_op (kMul (K := K)) (pe_ix (kIx (K := K)) (pv 0) pe_int (fun _ _ => rfl)) (pe_ix (kIx (K := K)) (pv 1) pe_int (fun _ _ => rfl))) pa_nil))))), ?_⟩
  rintro ds m y hl ⟨a, b, rfl, ha, hb, rfl⟩
  have da := den_nat ha
  have db := den_nat hb
  have e0 : ∀ {es : List Sl} {m : M} {i : Nat} {q : Rat}, es[i]? = some (.d (fr q)) → EvE K (tOp (rIx K) (tVar i) (tC (.int 0))) es m (.d (.int q.num)) m := fun h => ev_op (ev_var h nofun) ev_int (o_ixT (j := 0) rfl rfl)
  have e1 : ∀ {es : List Sl} {m : M} {i : Nat} {q : Rat}, es[i]? = some (.d (fr q)) → EvE K (tOp (rIx K) (tVar i) (tC (.int 1))) es m (.d (.int (q.den : Int))) m := fun h => ev_op (ev_var h nofun) ev_int (o_ixT (j := 1) rfl rfl)
  refine sv_ret0 (ev_pure (arg2 (ev_op (e0 rfl) (e0 rfl) (o_mulII (mulOk ha.1 hb.1 (by decide) (by decide)))) (ev_op (e1 rfl) (e1 rfl) (o_mulII (mulOk da db (by decide) (by decide))))) (ds := [.int (a.num * b.num), .int (a.den * b.den)]) rfl ?_ rfl)
  show R_low _ (fr (a * b))
  rw [mul_div]
  exact low_of (k := 800) (Int.mul_pos (den_pos a) (den_pos b)) (nat_mul ha.1 hb.1) (nat_mul da db) (by decide)
abbrev R_rest : List PyData → PyData → Prop := fun ds y => ∃ t b : Int, ds = [.tuple [.int t, .int b]] ∧ 0 < b ∧ t.natAbs ≤ 2 ^ 400 ∧ b.natAbs ≤ 2 ^ 400 ∧ y = lowI (b - t) b
theorem c_rest {k : Nat} (TD : DefT K mg "rest_of" st_rest_of ["fraction"]) (D_lowest : PureC P w K mg base k "lowest" ["top", "bottom"] R_low) : PureC P w K mg base (k + 1) "rest_of" ["fraction"] R_rest := by
  refine mkPure TD S_rest_of fun f cdv A outer s H E hr => ?_
  refine ⟨_, (pss_one (ps_ret (pe_def D_lowest (hr.mono (by omega)) (by rfl) pass0 (pa_cons (pe_op op_sub (pe_ix (kIx (K := K)) (pv 0) pe_int (fun _ _ => rfl)) (pe_ix (kIx (K := K)) (pv 0) pe_int (fun _ _ => rfl))) (pa_cons (pe_ix (kIx (K := K)) (pv 0) pe_int (fun _ _ => rfl)) pa_nil))))), ?_⟩
  rintro ds m y hl ⟨t, b, rfl, h0, ht, hb, rfl⟩
  refine sv_ret0 (ev_pure (arg2 (ev_op (ev_op (ev_var (r := .d (.tuple [.int t, .int b])) rfl nofun) ev_int (o_ixT (j := 1) rfl rfl)) (ev_op (ev_var (r := .d (.tuple [.int t, .int b])) rfl nofun) ev_int (o_ixT (j := 0) rfl rfl)) o_i0) (ev_op (ev_var (r := .d (.tuple [.int t, .int b])) rfl nofun) ev_int (o_ixT (j := 1) rfl rfl))) (ds := [.int (b - t), .int b]) rfl ?_ rfl)
  refine ⟨b - t, b, rfl, h0, ?_, Nat.le_trans hb (Nat.pow_le_pow_right (by decide) (by decide)), rfl⟩
  have := nat_add (x := b) (y := -t) hb (by rw [Int.natAbs_neg]; exact ht)
  rw [← Int.sub_eq_add_neg] at this
  exact Nat.le_trans this (Nat.pow_le_pow_right (by decide) (by decide))
theorem rest_of_fr {a : Rat} (h : sz 400 a) : R_rest [fr a] (fr (1 - a)) := ⟨a.num, (a.den : Int), rfl, den_pos a, h.1, den_nat h, by rw [low_fr (den_pos a), ← rest_div]⟩
theorem one_sub_op {t b : Int} (h : 0 < b) : (1 : Rat) - (t : Rat) / (b : Rat) = Rat.divInt (b - t) b := by
  have hb : (b : Rat) ≠ 0 := by
    intro e
    have : b = 0 := by exact_mod_cast e
    omega
  rw [Rat.divInt_eq_div, Rat.intCast_sub, Rat.div_def, Rat.div_def, Rat.sub_eq_add_neg, Rat.sub_eq_add_neg, Rat.add_mul, Rat.mul_inv_cancel _ hb, Rat.neg_mul]
theorem rest_of_op {o : Pr} (h : 0 < o.2) (h1 : o.1.natAbs ≤ 2 ^ 400) (h2 : o.2.natAbs ≤ 2 ^ 400) : R_rest [.tuple [.int o.1, .int o.2]] (fr (1 - opq o)) := ⟨o.1, o.2, rfl, h, h1, h2, by rw [low_fr h]; unfold opq; rw [one_sub_op h]⟩
end
end K01

set_option Elab.async false
set_option linter.all false
set_option maxRecDepth 100000
set_option maxHeartbeats 4000000
set_option exponentiation.threshold 2000
namespace K01
variable [DL.Tbs]
open PySem PySem.Spec PyProof.Rows L2 DL HX GX RT
def prD (p : Pr) : PyData := .tuple [.int p.1, .int p.2]
def edD (e : Pr × Pr) : PyData := .tuple [prD e.1, prD e.2]
def spD' (t : Spot) : PyData := .tuple [.int t.x, .int t.y, .int t.c]
def loD (l : List Pr) : PyData := .tuple (l.map prD)
/-- numbers of at most so many signs -/
def nb (k : Nat) (i : Int) : Prop := i.natAbs ≤ 2 ^ k
theorem nb_up {j k : Nat} {i : Int} (h : nb j i) (e : j ≤ k) : nb k i := Nat.le_trans h (Nat.pow_le_pow_right (by decide) e)
theorem nb_mul {j k : Nat} {x y : Int} (h1 : nb j x) (h2 : nb k y) : nb (j + k) (x * y) := nat_mul h1 h2
theorem nb_sub {k : Nat} {x y : Int} (h1 : nb k x) (h2 : nb k y) : nb (k + 1) (x - y) := by
  rw [Int.sub_eq_add_neg]
  exact nat_add h1 (by rw [Int.natAbs_neg]; exact h2)
theorem nb_add {k : Nat} {x y : Int} (h1 : nb k x) (h2 : nb k y) : nb (k + 1) (x + y) := nat_add h1 h2
theorem nb_ok {x y : Int} {j k : Nat} (h1 : nb j x) (h2 : nb k y) (hj : j < 1000) (hk : k < 1000) : IntMulOk x y := mulOk h1 h2 hj hk
def prB (k : Nat) (p : Pr) : Prop := nb k p.1 ∧ nb k p.2
def spB (k : Nat) (t : Spot) : Prop := nb k t.x ∧ nb k t.y ∧ nb k t.c
section
variable {P : Program} {w : World} {K : PySem.W.Frag} {mg : Str → Option Value} {base : Heap}
abbrev R_side : List PyData → PyData → Prop := fun ds y => ∃ (e : Pr × Pr) (t : Spot), ds = [edD e, spD' t] ∧ prB 60 e.1 ∧ prB 60 e.2 ∧ spB 90 t ∧ y = .int (sideP t e.1 e.2)
theorem ev_sub {ta tb : TE} {es : List Sl} {m m1 m2 : M} {a b : Int} (h : EvE K ta es m (.d (.int a)) m1) (h2 : EvE K tb es m1 (.d (.int b)) m2) : EvE K (tOp (rI0 fun i j => .int (i - j)) ta tb) es m (.d (.int (a - b))) m2 := ev_op h h2 o_i0
theorem ev_mulN {ta tb : TE} {es : List Sl} {m m1 m2 : M} {a b : Int} {j k : Nat} (h : EvE K ta es m (.d (.int a)) m1) (h2 : EvE K tb es m1 (.d (.int b)) m2) (h3 : nb j a) (h4 : nb k b) (hj : j < 1000 := by decide) (hk : k < 1000 := by decide) : EvE K (tOp (rMulU K) ta tb) es m (.d (.int (a * b))) m2 := ev_op h h2 (o_mulII (nb_ok h3 h4 hj hk))
theorem ev_addN {ta tb : TE} {es : List Sl} {m m1 m2 : M} {a b : Int} (h : EvE K ta es m (.d (.int a)) m1) (h2 : EvE K tb es m1 (.d (.int b)) m2) : EvE K (tOp (rAddU K) ta tb) es m (.d (.int (a + b))) m2 := ev_op h h2 o_addI
theorem gv_edge {i j k l : Nat} {es : List Sl} {e : Pr × Pr} : Gv K (gTup K 2 (gCons (gTup K 2 (gCons (gName i) (gCons (gName j) gNil))) (gCons (gTup K 2 (gCons (gName k) (gCons (gName l) gNil))) gNil))) (([i] ++ ([j] ++ [])) ++ (([k] ++ ([l] ++ [])) ++ [])) (.d (edD e)) es ((((es.set i (.d (.int e.1.1))).set j (.d (.int e.1.2))).set k (.d (.int e.2.1))).set l (.d (.int e.2.2))) :=
  gv_tup (gvs_cons (gv_tup (gvs_cons gv_name (gvs_cons gv_name gvs_nil)) rfl) (gvs_cons (gv_tup (gvs_cons gv_name (gvs_cons gv_name gvs_nil)) rfl) gvs_nil)) rfl
theorem gv_spot {i j k : Nat} {es : List Sl} {t : Spot} : Gv K (gTup K 3 (gCons (gName i) (gCons (gName j) (gCons (gName k) gNil)))) ([i] ++ ([j] ++ ([k] ++ []))) (.d (spD' t)) es (((es.set i (.d (.int t.x))).set j (.d (.int t.y))).set k (.d (.int t.c))) :=
  gv_tup (gvs_cons gv_name (gvs_cons gv_name (gvs_cons gv_name gvs_nil))) rfl
theorem c_side (TD : DefT K mg "side_of" st_side_of ["edge", "spot"]) : PureC P w K mg base 1 "side_of" ["edge", "spot"] R_side := by
  refine mkPure TD S_side_of fun f cdv A outer s H E hr => ?_
  refine ⟨_, (pss_cons (ps_asg (pv 0) (kTupG (K := K) rfl (pgs_cons (kTupG (K := K) rfl (pgs_cons (pg_name (i := 2) S_side_of.nd rfl (Or.inl rfl)) (pgs_cons (pg_name (i := 3) S_side_of.nd rfl (Or.inl rfl)) pgs_nil))) (pgs_cons (kTupG (K := K) rfl (pgs_cons (pg_name (i := 4) S_side_of.nd rfl (Or.inl rfl)) (pgs_cons (pg_name (i := 5) S_side_of.nd rfl (Or.inl rfl)) pgs_nil))) pgs_nil))))
      (pss_cons (ps_asg (pv 1) (kTupG (K := K) rfl (pgs_cons (pg_name (i := 6) S_side_of.nd rfl (Or.inl rfl)) (pgs_cons (pg_name (i := 7) S_side_of.nd rfl (Or.inl rfl)) (pgs_cons (pg_name (i := 8) S_side_of.nd rfl (Or.inl rfl)) pgs_nil)))))
      (pss_one (ps_ret (pe_op op_sub (pe_op (kMul (K := K)) (pe_op op_sub (pv 4) (pv 2)) (pe_op op_sub (pv 7) (pe_op (kMul (K := K)) (pv 3) (pv 8)))) (pe_op (kMul (K := K)) (pe_op op_sub (pv 5) (pv 3)) (pe_op op_sub (pv 6) (pe_op (kMul (K := K)) (pv 2) (pv 8))))))))), ?_⟩
  rintro ds m y hl ⟨⟨⟨sx, sy⟩, ⟨ex, ey⟩⟩, ⟨x, y0, c⟩, rfl, ⟨h1, h2⟩, ⟨h3, h4⟩, ⟨h5, h6, h7⟩, rfl⟩
  refine sv_seq (m1 := m) (sv_asg (ev_var rfl nofun) gv_edge) ?_
  refine sv_seq (m1 := m) (sv_asg (ev_var rfl nofun) gv_spot) ?_
  refine sv_ret0 (ev_sub (ev_mulN (j := 61) (k := 151) (ev_sub (ev_var rfl nofun) (ev_var rfl nofun)) (ev_sub (ev_var rfl nofun) (ev_mulN (ev_var rfl nofun) (ev_var rfl nofun) h2 h7)) (nb_sub h3 h1) (nb_sub (nb_up h6 (by decide)) (nb_mul h2 h7)))
    (ev_mulN (j := 61) (k := 151) (ev_sub (ev_var rfl nofun) (ev_var rfl nofun)) (ev_sub (ev_var rfl nofun) (ev_mulN (ev_var rfl nofun) (ev_var rfl nofun) h1 h7)) (nb_sub h4 h2) (nb_sub (nb_up h5 (by decide)) (nb_mul h1 h7))))
abbrev R_between : List PyData → PyData → Prop := fun ds y => ∃ a b n : Int, ds = [.int a, .int b, .int n] ∧ y = .bool (decide (min a b ≤ n) && decide (n ≤ max a b))
theorem c_between (b_min : mg "min" = none) (b_max : mg "max" = none) (TD : DefT K mg "is_between" st_is_between ["one", "other", "number"]) : PureC P w K mg base 1 "is_between" ["one", "other", "number"] R_between := by
  refine mkPure TD S_is_between fun f cdv A outer s H E hr => ?_
  refine ⟨_, (pss_one (ps_ret (pe_chain op_le op_le (pe_callB (call_min2 rfl) (by rfl) b_min (by decide +kernel) (pa_cons (pv 0) (pa_cons (pv 1) pa_nil))) (pv 2) (pe_callB (call_max2 rfl) (by rfl) b_max (by decide +kernel) (pa_cons (pv 0) (pa_cons (pv 1) pa_nil)))))), ?_⟩
  rintro ds m y hl ⟨a, b, n, rfl, rfl⟩
  have e1 : (if b < a then b else a) = min a b := by split <;> omega
  have e2 : (if b > a then b else a) = max a b := by split <;> omega
  have k1 := ev_cb (K := K) (es := [.d (.int a), .d (.int b), .d (.int n)]) (m := m) (arg2 (ev_var (i := 0) rfl nofun) (ev_var (i := 1) rfl nofun)) (c_min2 (i := a) (j := b))
  have k2 := ev_cb (K := K) (es := [.d (.int a), .d (.int b), .d (.int n)]) (m := m) (arg2 (ev_var (i := 0) rfl nofun) (ev_var (i := 1) rfl nofun)) (c_max2 (i := a) (j := b))
  rw [e1] at k1
  rw [e2] at k2
  exact sv_ret0 (ev_chain k1 (ev_var rfl nofun) o_i0b (fun _ => k2) (fun _ => o_i0b))
abbrev R_onEdge : List PyData → PyData → Prop := fun ds y => ∃ (e : Pr × Pr) (t : Spot), ds = [edD e, spD' t] ∧ prB 60 e.1 ∧ prB 60 e.2 ∧ spB 90 t ∧ y = .bool (onP t e.1 e.2)
theorem ev_betw {E : XK} {es : List Sl} {m m1 : M} {t : TA} {a b n : Int} (h : EvA K t es m [.d (.int a), .d (.int b), .d (.int n)] m1) : EvE K (tCall (spD K 3 (pureG R_between)) [] E t) es m (.d (.bool (decide (min a b ≤ n) && decide (n ≤ max a b)))) m1 := ev_pure h (ds := [.int a, .int b, .int n]) rfl ⟨a, b, n, rfl, rfl⟩ rfl
theorem c_onEdge (TD : DefT K mg "is_on_edge" st_is_on_edge ["edge", "spot"]) (D_side_of : PureC P w K mg base 1 "side_of" ["edge", "spot"] R_side) (D_is_between : PureC P w K mg base 1 "is_between" ["one", "other", "number"] R_between) : PureC P w K mg base 2 "is_on_edge" ["edge", "spot"] R_onEdge := by
  refine mkPure TD S_is_on_edge fun f cdv A outer s H E hr => ?_
  have hu := hr.units
  refine ⟨_, (pss_cons (ps_asg (pv 0) (kTupG (K := K) rfl (pgs_cons (kTupG (K := K) rfl (pgs_cons (pg_name (i := 2) S_is_on_edge.nd rfl (Or.inl rfl)) (pgs_cons (pg_name (i := 3) S_is_on_edge.nd rfl (Or.inl rfl)) pgs_nil))) (pgs_cons (kTupG (K := K) rfl (pgs_cons (pg_name (i := 4) S_is_on_edge.nd rfl (Or.inl rfl)) (pgs_cons (pg_name (i := 5) S_is_on_edge.nd rfl (Or.inl rfl)) pgs_nil))) pgs_nil))))
      (pss_cons (ps_asg (pv 1) (kTupG (K := K) rfl (pgs_cons (pg_name (i := 6) S_is_on_edge.nd rfl (Or.inl rfl)) (pgs_cons (pg_name (i := 7) S_is_on_edge.nd rfl (Or.inl rfl)) (pgs_cons (pg_name (i := 8) S_is_on_edge.nd rfl (Or.inl rfl)) pgs_nil)))))
      (pss_one (ps_ret (pe_and (pe_cmpR (kEq (K := K) hu) (pe_def D_side_of (hr.mono (by omega)) (by rfl) pass0 (pa_cons (pv 0) (pa_cons (pv 1) pa_nil))) pe_int (nomark _)) (pe_and (pe_def D_is_between (hr.mono (by omega)) (by rfl) pass0 (pa_cons (pe_op (kMul (K := K)) (pv 2) (pv 8)) (pa_cons (pe_op (kMul (K := K)) (pv 4) (pv 8)) (pa_cons (pv 6) pa_nil)))) (pe_one (pe_def D_is_between (hr.mono (by omega)) (by rfl) pass0 (pa_cons (pe_op (kMul (K := K)) (pv 3) (pv 8)) (pa_cons (pe_op (kMul (K := K)) (pv 5) (pv 8)) (pa_cons (pv 7) pa_nil))))))))))), ?_⟩
  rintro ds m y hl ⟨⟨⟨sx, sy⟩, ⟨ex, ey⟩⟩, ⟨x, y0, c⟩, rfl, ⟨h1, h2⟩, ⟨h3, h4⟩, ⟨h5, h6, h7⟩, rfl⟩
  refine sv_seq (m1 := m) (sv_asg (ev_var rfl nofun) gv_edge) ?_
  refine sv_seq (m1 := m) (sv_asg (ev_var rfl nofun) gv_spot) ?_
  refine sv_ret0 (ev_cast (ev_and (a := decide (sideP ⟨x, y0, c⟩ (sx, sy) (ex, ey) = 0)) (ev_cast (ev_op (ev_pure (arg2 (ev_var rfl nofun) (ev_var rfl nofun)) (ds := [edD ((sx, sy), (ex, ey)), spD' ⟨x, y0, c⟩]) rfl ⟨((sx, sy), (ex, ey)), ⟨x, y0, c⟩, rfl, ⟨h1, h2⟩, ⟨h3, h4⟩, ⟨h5, h6, h7⟩, rfl⟩ rfl) ev_int o_eqI) (congrArg (fun b => Sl.d (.bool b)) (Bool.beq_eq_decide_eq _ _))) fun _ => ev_and (ev_betw (ea_cons (ev_mulN (ev_var rfl nofun) (ev_var rfl nofun) h1 h7) (arg2 (ev_mulN (ev_var rfl nofun) (ev_var rfl nofun) h3 h7) (ev_var rfl nofun)))) fun _ =>
    ev_betw (ea_cons (ev_mulN (ev_var rfl nofun) (ev_var rfl nofun) h2 h7) (arg2 (ev_mulN (ev_var rfl nofun) (ev_var rfl nofun) h4 h7) (ev_var rfl nofun)))) rfl)
def matD (m : Mat) : PyData := .tuple [.int m.a, .int m.b, .int m.c, .int m.d, .int m.e, .int m.f]
def matB (k : Nat) (m : Mat) : Prop := nb k m.a ∧ nb k m.b ∧ nb k m.c ∧ nb k m.d ∧ nb k m.e ∧ nb k m.f
abbrev R_lead : List PyData → PyData → Prop := fun ds y => ∃ (m : Mat) (p : Pr), ds = [matD m, prD p] ∧ matB 100 m ∧ prB 100 p ∧ y = prD (led m p)
theorem c_lead (TD : DefT K mg "lead" st_lead ["matrix", "pair"]) : PureC P w K mg base 1 "lead" ["matrix", "pair"] R_lead := by
  refine mkPure TD S_lead fun f cdv A outer s H E hr => ?_
  refine ⟨_, (pss_cons (ps_asg (pv 0) (kTupG (K := K) rfl (pgs_cons (pg_name (i := 2) S_lead.nd rfl (Or.inl rfl)) (pgs_cons (pg_name (i := 3) S_lead.nd rfl (Or.inl rfl)) (pgs_cons (pg_name (i := 4) S_lead.nd rfl (Or.inl rfl)) (pgs_cons (pg_name (i := 5) S_lead.nd rfl (Or.inl rfl)) (pgs_cons (pg_name (i := 6) S_lead.nd rfl (Or.inl rfl)) (pgs_cons (pg_name (i := 7) S_lead.nd rfl (Or.inl rfl)) pgs_nil))))))))
      (pss_cons (ps_asg (pv 1) (kTupG (K := K) rfl (pgs_cons (pg_name (i := 8) S_lead.nd rfl (Or.inl rfl)) (pgs_cons (pg_name (i := 9) S_lead.nd rfl (Or.inl rfl)) pgs_nil))))
      (pss_one (ps_ret (pe_tup (pa_cons (pe_op (kAdd (K := K)) (pe_op (kAdd (K := K)) (pe_op (kMul (K := K)) (pv 2) (pv 8)) (pe_op (kMul (K := K)) (pv 4) (pv 9))) (pv 6)) (pa_cons (pe_op (kAdd (K := K)) (pe_op (kAdd (K := K)) (pe_op (kMul (K := K)) (pv 3) (pv 8)) (pe_op (kMul (K := K)) (pv 5) (pv 9))) (pv 7)) pa_nil))))))), ?_⟩
  rintro ds m y hl ⟨⟨a, b, c, d, e, f⟩, ⟨px, py⟩, rfl, ⟨ha, hb, hc, hd, he, hf⟩, ⟨h1, h2⟩, rfl⟩
  refine sv_seq (m1 := m) (sv_asg (ev_var rfl nofun) (gv_tup (gvs_cons gv_name (gvs_cons gv_name (gvs_cons gv_name (gvs_cons gv_name (gvs_cons gv_name (gvs_cons gv_name gvs_nil)))))) rfl)) ?_
  refine sv_seq (m1 := m) (sv_asg (ev_var (r := .d (prD (px, py))) rfl nofun) (gv_tup (gvs_cons gv_name (gvs_cons gv_name gvs_nil)) rfl)) ?_
  exact sv_ret0 (ev_tup (ds := [.int (a * px + c * py + e), .int (b * px + d * py + f)]) (arg2 (ev_addN (ev_addN (ev_mulN (ev_var rfl nofun) (ev_var rfl nofun) ha h1) (ev_mulN (ev_var rfl nofun) (ev_var rfl nofun) hc h2)) (ev_var rfl nofun)) (ev_addN (ev_addN (ev_mulN (ev_var rfl nofun) (ev_var rfl nofun) hb h1) (ev_mulN (ev_var rfl nofun) (ev_var rfl nofun) hd h2)) (ev_var rfl nofun))) rfl (by simp))
end
end K01

set_option Elab.async false
set_option linter.all false
set_option maxRecDepth 100000
namespace RT
theorem adj_get : ∀ {l : List Pr} {k : Nat} {x y : Pr}, l[k]? = some x → l[k + 1]? = some y → (adj l)[k]? = some (x, y)
  | [], _, _, _, h, _ => by simp at h
  | [_], k, _, _, _, h => by simp at h
  | a :: b :: r, 0, x, y, h, h2 => by
    cases h
    cases h2
    rfl
  | a :: b :: r, k + 1, x, y, h, h2 => by
    show (adj (b :: r))[k]? = _
    exact adj_get (l := b :: r) (by simpa using h) (by simpa using h2)
theorem adj_len : ∀ l : List Pr, (adj l).length = l.length - 1
  | [] => rfl
  | [_] => rfl
  | a :: b :: r => by
    show (adj (b :: r)).length + 1 = _
    rw [adj_len (b :: r)]
    simp
theorem pairsP_len (l : List Pr) : (pairsP l).length = l.length := by
  cases l with
  | nil => rfl
  | cons a r =>
    unfold pairsP
    rw [List.length_cons, adj_len]
    simp
theorem pairsP_zero {l : List Pr} {x y : Pr} (h : l.getLast? = some x) (h2 : l[0]? = some y) : (pairsP l)[0]? = some (x, y) := by
  cases l with
  | nil => cases h
  | cons a r =>
    cases h2
    unfold pairsP lastD
    rw [List.getLast?_eq_some_getLast (List.cons_ne_nil _ r)] at h
    cases h
    rfl
theorem pairsP_succ {l : List Pr} {k : Nat} {x y : Pr} (h : l[k]? = some x) (h2 : l[k + 1]? = some y) : (pairsP l)[k + 1]? = some (x, y) := by
  cases l with
  | nil => simp at h
  | cons a r => exact adj_get h h2
theorem edges_mem {l : List Pr} {e : Pr × Pr} (h : e ∈ edgesP l) : e.1 ∈ l ∧ e.2 ∈ l := by
  have h := (List.mem_filter.mp h).1
  have key : ∀ (l : List Pr) (e : Pr × Pr), e ∈ adj l → e.1 ∈ l ∧ e.2 ∈ l := by
    intro l
    induction l with
    | nil => intro e h; cases h
    | cons a r ih =>
      intro e h
      cases r with
      | nil => cases h
      | cons b r =>
        rcases List.mem_cons.mp h with rfl | h
        · exact ⟨by simp, by simp⟩
        · obtain ⟨h1, h2⟩ := ih e h
          exact ⟨List.mem_cons_of_mem _ h1, List.mem_cons_of_mem _ h2⟩
  cases l with
  | nil => cases h
  | cons a r =>
    rcases List.mem_cons.mp h with rfl | h
    · exact ⟨List.getLast_mem _, by simp⟩
    · exact key _ e h
end RT

set_option Elab.async false
set_option linter.all false
set_option maxRecDepth 100000
namespace TX
open PySem PySem.Builtin PySem.Builtin.Str PySem.StrLaws TL

/-! ### split with a limit -/
def spm (S : List Nat) : Nat → List Nat → List (List Nat)
  | 0, l => [l]
  | n + 1, l => match par S [] l with
    | some (a, b) => a :: spm S n b
    | none => [l]
theorem max_run (s sub : Str) (hi limit lo : Nat) (hw : 1 ≤ sub.length) : ∀ (m cur : Nat) (st : Array Nat × Nat), ChainG s sub hi lo st.fst.toList st.snd → st.fst.size ≤ limit → (st.fst.size < limit → ∀ k, st.snd ≤ k → k < cur → ¬ At s sub hi k) →
    ChainG s sub hi lo (forIn (List.range' cur m) st (occBody s sub hi limit)).run.fst.toList (forIn (List.range' cur m) st (occBody s sub hi limit)).run.snd ∧
    (forIn (List.range' cur m) st (occBody s sub hi limit)).run.fst.size ≤ limit ∧
    ((forIn (List.range' cur m) st (occBody s sub hi limit)).run.fst.size < limit → ∀ k, (forIn (List.range' cur m) st (occBody s sub hi limit)).run.snd ≤ k → k < cur + m → ¬ At s sub hi k)
  | 0, cur, st, h, hl, hn => ⟨h, hl, hn⟩
  | m + 1, cur, st, h, hl, hn => by
    rw [List.range'_succ, List.forIn_cons]
    unfold occBody
    have e : cur + (m + 1) = (cur + 1) + m := by omega
    rw [e]
    split
    · rename_i hc
      refine max_run s sub hi limit lo hw m (cur + 1) _ ?_ ?_ ?_
      · show ChainG s sub hi lo (st.fst.push cur).toList (cur + sub.length)
        rw [Array.toList_push]
        exact chainG_snoc h hc.1.1.2 ⟨hc.1.2, hc.2⟩ (hn hc.1.1.1)
      · show (st.fst.push cur).size ≤ limit
        rw [Array.size_push]
        have := hc.1.1.1
        omega
      · intro _ k h1 h2
        have h1' : cur + sub.length ≤ k := h1
        omega
    · rename_i hc
      refine max_run s sub hi limit lo hw m (cur + 1) _ h hl ?_
      intro hlt k h1 h2 hA
      have hlt : st.fst.size < limit := hlt
      by_cases hk : k < cur
      · exact hn hlt k h1 hk hA
      · have ek : k = cur := by omega
        subst ek
        exact hc ⟨⟨⟨hlt, h1⟩, hA.1⟩, hA.2⟩
theorem occ_max (x y : Str) (limit : Nat) (hw : 1 ≤ y.length) : ∃ f, ChainG x y x.length 0 (occurrences x y 0 x.length limit) f ∧ (occurrences x y 0 x.length limit).length ≤ limit ∧ ((occurrences x y 0 x.length limit).length < limit → ∀ k, f ≤ k → ¬ At x y x.length k) := by
  rw [occ_eq]
  have key := max_run x y x.length limit 0 hw (x.length + 1 - 0) 0 ((#[] : Array Nat), 0) rfl (Nat.zero_le _) (fun _ k _ h => by omega)
  refine ⟨_, key.1, ?_, fun hlt k hk hA => ?_⟩
  · rw [Array.length_toList]; exact key.2.1
  · rw [Array.length_toList] at hlt
    exact key.2.2 hlt k hk (by have := hA.1; omega) hA
theorem parts_spm {x y : Str} (hy : tl y ≠ []) : ∀ (cuts : List Nat) (a f n : Nat), a ≤ (tl x).length → ChainG x y x.length a cuts f → cuts.length ≤ n → (cuts.length < n → ∀ k, f ≤ k → ¬ At x y x.length k) →
    (partsFrom x y.length a cuts).map tl = spm (tl y) n ((tl x).drop a)
  | [], a, f, n, ha, h, hl, hn => by
    have e : f = a := h
    subst e
    show [tl (strSub x f x.length)] = _
    rw [tl_strSub_end]
    cases n with
    | zero => rfl
    | succ n =>
      have run := par_run (tl y) (tl x) ((tl x).length - f) f [] (by omega) (fun k h1 _ => no_at hy (hn (Nat.succ_pos _) k h1))
      have e2 : f + ((tl x).length - f) = (tl x).length := by omega
      rw [e2, List.drop_length] at run
      show _ = (match par (tl y) [] ((tl x).drop f) with | some (a, b) => a :: spm (tl y) n b | none => [(tl x).drop f])
      rw [run]
      rfl
  | c :: r, a, f, n, ha, h, hl, hn => by
    obtain ⟨h1, h2, h3, h4⟩ := h
    have hc : c + y.length ≤ x.length := h2.1
    have hx := len_tl x
    have hly := len_tl y
    cases n with
    | zero => simp at hl
    | succ n =>
      have ih := parts_spm hy r (c + y.length) f n (by omega) h4 (by simpa using hl) (fun z => hn (by simpa using z))
      show tl (strSub x a c) :: (partsFrom x y.length (c + y.length) r).map tl = (match par (tl y) [] ((tl x).drop a) with | some (a, b) => a :: spm (tl y) n b | none => [(tl x).drop a])
      have run := par_run (tl y) (tl x) (c - a) a [] (by omega) (fun k k1 k2 => no_at hy (h3 k k1 (by omega)))
      have e2 : a + (c - a) = c := by omega
      rw [e2, List.nil_append, par_at hy ((at_iff hy c).mp h2)] at run
      rw [run]
      show _ = ((tl x).drop a).take (c - a) :: spm (tl y) n ((tl x).drop (c + (tl y).length))
      rw [ih, tl_strSub, hly]
theorem splitMax_spm (x y : Str) (k : Nat) (hk1 : 1 ≤ k) (hy : tl y ≠ []) (hk : ¬ Builtin.Str.strKind x < Builtin.Str.strKind y) : (Txt.splitMax x y (k : Int)).map tl = spm (tl y) k (tl x) := by
  have el : limitOf x (k : Int) = k := by
    unfold limitOf
    rw [if_neg (by omega)]
    exact Int.toNat_natCast k
  obtain ⟨f, g, gl, hn⟩ := occ_max x y k (len1 hy)
  have key := parts_spm hy _ 0 f k (Nat.zero_le _) g gl hn
  rw [List.drop_zero] at key
  have none_case : occurrences x y 0 x.length k = [] → [x].map tl = spm (tl y) k (tl x) := fun ho => by
    rw [ho] at key
    rw [← key]
    show [tl x] = [tl (strSub x 0 x.length)]
    rw [tl_strSub_end, List.drop_zero]
  unfold Txt.splitMax
  rw [el]
  by_cases h1 : (decide (x.length < y.length) || decide (Builtin.Str.strKind x < Builtin.Str.strKind y)) = true
  · rw [if_pos h1]
    have hlt : x.length < y.length := by
      simp only [Bool.or_eq_true, decide_eq_true_eq] at h1
      rcases h1 with h | h
      · exact h
      · exact absurd h hk
    refine none_case ?_
    cases ho : occurrences x y 0 x.length k with
    | nil => rfl
    | cons c r =>
      rw [ho] at g
      have hc : c + y.length ≤ x.length := g.2.1.1
      omega
  · rw [if_neg h1]
    by_cases h2 : (occurrences x y 0 x.length k).isEmpty = true
    · rw [if_pos h2]
      exact none_case (List.isEmpty_iff.mp h2)
    · rw [if_neg h2, partsBetween_eq]
      exact key
end TX

set_option Elab.async false
set_option linter.all false
set_option maxRecDepth 100000
namespace TX
open PySem PySem.Builtin PySem.Builtin.Str PySem.StrLaws TL
abbrev L := List Nat
def mk (l : L) : Str := ⟨l.toArray⟩
theorem tl_of_mk (l : L) : tl (mk l) = l := rfl
theorem mk_of_tl (x : Str) : mk (tl x) = x := mk_tl x
def mapO {α β : Type} (f : α → Option β) : List α → Option (List β)
  | [] => some []
  | a :: r => match f a with
    | none => none
    | some b => match mapO f r with
      | none => none
      | some bs => some (b :: bs)
theorem mapO_cons {α β : Type} {f : α → Option β} {a : α} {r : List α} {bs : List β} (h : mapO f (a :: r) = some bs) : ∃ b r', f a = some b ∧ mapO f r = some r' ∧ bs = b :: r' := by
  unfold mapO at h
  split at h
  · cases h
  · rename_i b e
    split at h
    · cases h
    · rename_i r' e'
      cases h
      exact ⟨b, r', e, e', rfl⟩
theorem mapO_back {α β : Type} {f : α → Option β} {g : β → α} : ∀ {l : List α} {r : List β}, (∀ a b, a ∈ l → f a = some b → g b = a) → mapO f l = some r → r.map g = l
  | [], r, _, h => by cases h; rfl
  | a :: l, r, hf, h => by
    obtain ⟨b, r', e1, e2, rfl⟩ := mapO_cons h
    rw [List.map_cons, hf a b List.mem_cons_self e1, mapO_back (fun a b h => hf a b (List.mem_cons_of_mem _ h)) e2]
theorem mapO_mem {α β : Type} {f : α → Option β} : ∀ {l : List α} {r : List β}, mapO f l = some r → ∀ b, b ∈ r → ∃ a, a ∈ l ∧ f a = some b
  | [], r, h, b, hb => by cases h; cases hb
  | a :: l, r, h, b, hb => by
    obtain ⟨b', r', e1, e2, rfl⟩ := mapO_cons h
    rcases List.mem_cons.mp hb with rfl | hb
    · exact ⟨a, List.mem_cons_self, e1⟩
    · obtain ⟨a', h1, h2⟩ := mapO_mem e2 b hb
      exact ⟨a', List.mem_cons_of_mem _ h1, h2⟩
theorem mapO_all {α β : Type} {f : α → Option β} {g : β → α} : ∀ {r : List β}, (∀ b, b ∈ r → f (g b) = some b) → mapO f (r.map g) = some r
  | [], _ => rfl
  | b :: r, h => by
    rw [List.map_cons]
    unfold mapO
    rw [h b List.mem_cons_self, mapO_all fun b hb => h b (List.mem_cons_of_mem _ hb)]
theorem mapO_len {α β : Type} {f : α → Option β} : ∀ {l : List α} {r : List β}, mapO f l = some r → r.length = l.length
  | [], r, h => by cases h; rfl
  | a :: l, r, h => by
    obtain ⟨b', r', e1, e2, rfl⟩ := mapO_cons h
    rw [List.length_cons, List.length_cons, mapO_len e2]

/-! ### joins of splits -/
theorem spl_ne (S : L) : ∀ (l : L) (k : Nat) (acc : L), spl S k acc l ≠ []
  | [], k, acc => by rw [spl_nil]; simp
  | c :: r, 0, acc => by
    show (if pre S (c :: r) = true then acc :: spl S (S.length - 1) [] r else spl S 0 (acc ++ [c]) r) ≠ []
    split
    · simp
    · exact spl_ne S r 0 _
  | c :: r, k + 1, acc => spl_ne S r k acc
theorem joinL_cons {S p : L} {ps : List L} (h : ps ≠ []) : joinL S (p :: ps) = p ++ (S ++ joinL S ps) := by
  cases ps with
  | nil => exact absurd rfl h
  | cons q r => rfl
theorem pre_eq {S l : L} (h : pre S l = true) : l = S ++ l.drop S.length := by
  have e : l.take S.length = S := by simpa [pre] using h
  rw [← e, List.length_take]
  have : l.take S.length ++ l.drop S.length = l := List.take_append_drop _ _
  by_cases hl : S.length ≤ l.length
  · rw [Nat.min_eq_left hl]; exact this.symm
  · rw [Nat.min_eq_right (by omega), List.take_of_length_le (by omega), List.drop_length, List.append_nil]
theorem join_spl {S : L} (hS : S ≠ []) : ∀ (n : Nat) (l acc : L), l.length ≤ n → joinL S (spl S 0 acc l) = acc ++ l
  | n, [], acc, _ => by rw [spl_nil, List.append_nil]; rfl
  | 0, c :: r, acc, h => by simp at h
  | n + 1, c :: r, acc, h => by
    have hr : r.length ≤ n := by simpa using h
    cases hp : pre S (c :: r) with
    | true =>
      rw [spl_hit hp, joinL_cons (spl_ne S _ _ _), spl_pass, join_spl hS n _ [] (by rw [List.length_drop]; omega), List.nil_append]
      have e := pre_eq hp
      cases S with
      | nil => exact absurd rfl hS
      | cons s S' =>
        have e2 : (c :: r).drop (s :: S').length = r.drop ((s :: S').length - 1) := by simp
        rw [e2] at e
        rw [← e]
    | false =>
      rw [spl_miss hp, join_spl hS n r _ hr, List.append_assoc]; rfl
theorem join_split {S : L} (hS : S ≠ []) (l : L) : joinL S (spl S 0 [] l) = l := by
  rw [join_spl hS l.length l [] (Nat.le_refl _)]; rfl
theorem par_eq {S : L} : ∀ {l acc a b : L}, par S acc l = some (a, b) → acc ++ l = a ++ (S ++ b)
  | [], acc, a, b, h => by cases h
  | c :: r, acc, a, b, h => by
    cases hp : pre S (c :: r) with
    | true =>
      rw [par_hit hp] at h
      cases h
      rw [← pre_eq hp]
    | false =>
      rw [par_miss hp] at h
      rw [← par_eq h, List.append_assoc]; rfl
theorem spm_ne (S : L) : ∀ (n : Nat) (l : L), spm S n l ≠ []
  | 0, l => by unfold spm; simp
  | n + 1, l => by
    unfold spm
    split <;> simp
theorem join_spm {S : L} : ∀ (n : Nat) (l : L), joinL S (spm S n l) = l
  | 0, l => rfl
  | n + 1, l => by
    unfold spm
    split
    · rename_i a b e
      rw [joinL_cons (spm_ne S n b), join_spm n b]
      have := par_eq e
      rw [List.nil_append] at this
      exact this.symm
    · rfl
theorem joinL_app {S : L} : ∀ {g F : List L}, g ≠ [] → F ≠ [] → joinL S (g ++ F) = joinL S g ++ (S ++ joinL S F)
  | [], _, h, _ => absurd rfl h
  | [p], F, _, hF => by
    rw [List.cons_append, List.nil_append, joinL_cons hF]; rfl
  | p :: q :: r, F, _, hF => by
    have ih := joinL_app (S := S) (g := q :: r) (F := F) (by simp) hF
    rw [List.cons_append, joinL_cons (by simp), ih, joinL_cons (ps := q :: r) (by simp), List.append_assoc, List.append_assoc]
theorem flat_ne {g : List L} {gs : List (List L)} (h : g ≠ []) : (g :: gs).flatten ≠ [] := by
  intro e
  rw [List.flatten_cons] at e
  exact h (List.append_eq_nil_iff.mp e).1
theorem joinL_flat {S : L} : ∀ (gs : List (List L)), (∀ g, g ∈ gs → g ≠ []) → joinL S (gs.map (joinL S)) = joinL S gs.flatten
  | [], _ => rfl
  | [g], h => by
    rw [List.map_cons, List.map_nil, List.flatten_cons, List.flatten_nil, List.append_nil]; rfl
  | g :: g' :: gs, h => by
    have ih := joinL_flat (S := S) (g' :: gs) fun x hx => h x (List.mem_cons_of_mem _ hx)
    have e : (g :: g' :: gs).flatten = g ++ (g' :: gs).flatten := List.flatten_cons
    rw [List.map_cons, joinL_cons (by simp), ih, e, joinL_app (h g List.mem_cons_self) (flat_ne (h g' (by simp)))]

/-! ### numbers -/
def readNum : L → Option PyData
  | [d] => if 48 ≤ d ∧ d ≤ 57 then some (.int ((d : Int) - 48)) else none
  | [c, d] => if c = 45 ∧ 49 ≤ d ∧ d ≤ 57 then some (.int (-((d : Int) - 48))) else none
  | _ => none
def numT (i : Int) : L := tl (Str.ofString (toString i))
def fmtNum : PyData → L
  | .int i => numT i
  | _ => []
theorem numT_pos : ∀ k : Fin 10, numT (k.val : Int) = [48 + k.val] := by
  intro k
  unfold numT
  rw [tl_num, numL_lt k.isLt]
theorem numT_neg : ∀ k : Fin 10, k.val ≠ 0 → numT (-(k.val : Int)) = [45, 48 + k.val] := by
  intro k hk
  unfold numT
  rw [tl_ofString]
  revert k
  decide +kernel
theorem read_num {w : L} {d : PyData} (h : readNum w = some d) : fmtNum d = w := by
  unfold readNum at h
  split at h
  · rename_i d'
    split at h
    · rename_i hd
      cases h
      have := numT_pos ⟨d' - 48, by omega⟩
      have e : ((d' - 48 : Nat) : Int) = (d' : Int) - 48 := by omega
      show numT ((d' : Int) - 48) = _
      rw [← e, this]
      show [48 + (d' - 48)] = [d']
      congr 1
      omega
    · cases h
  · rename_i c d'
    split at h
    · rename_i hd
      cases h
      have := numT_neg ⟨d' - 48, by omega⟩ (show d' - 48 ≠ 0 by omega)
      have e : ((d' - 48 : Nat) : Int) = (d' : Int) - 48 := by omega
      show numT (-((d' : Int) - 48)) = _
      rw [← e, this]
      show [45, 48 + (d' - 48)] = [c, d']
      rw [show 48 + (d' - 48) = d' by omega, show c = 45 from hd.1]
    · cases h
  · cases h
theorem num_read {i : Int} (h1 : -9 ≤ i) (h2 : i ≤ 9) : readNum (numT i) = some (.int i) := by
  by_cases h : 0 ≤ i
  · have := numT_pos ⟨i.toNat, by omega⟩
    have e : ((i.toNat : Nat) : Int) = i := by omega
    rw [show ((⟨i.toNat, by omega⟩ : Fin 10).val : Int) = i from e] at this
    rw [this]
    show (if 48 ≤ 48 + i.toNat ∧ 48 + i.toNat ≤ 57 then some (PyData.int (((48 + i.toNat : Nat) : Int) - 48)) else none) = _
    rw [if_pos (by omega)]
    congr 2
    omega
  · have := numT_neg ⟨(-i).toNat, by omega⟩ (show (-i).toNat ≠ 0 by omega)
    have e : (-(((-i).toNat : Nat) : Int)) = i := by omega
    rw [show (-((⟨(-i).toNat, by omega⟩ : Fin 10).val : Int)) = i from e] at this
    rw [this]
    show (if 45 = 45 ∧ 49 ≤ 48 + (-i).toNat ∧ 48 + (-i).toNat ≤ 57 then some (PyData.int (-(((48 + (-i).toNat : Nat) : Int) - 48))) else none) = _
    rw [if_pos (by omega)]
    congr 2
    omega
/-- the signs of a number from -9 to 9 -/
def isNumC (c : Nat) : Prop := c = 45 ∨ (48 ≤ c ∧ c ≤ 57)
theorem num_signs {i : Int} (h1 : -9 ≤ i) (h2 : i ≤ 9) : ∀ c, c ∈ numT i → isNumC c := by
  intro c hc
  by_cases h : 0 ≤ i
  · have := numT_pos ⟨i.toNat, by omega⟩
    have e : ((i.toNat : Nat) : Int) = i := by omega
    rw [show ((⟨i.toNat, by omega⟩ : Fin 10).val : Int) = i from e] at this
    rw [this] at hc
    have := List.mem_singleton.mp hc
    simp only at this
    exact .inr (by omega)
  · have := numT_neg ⟨(-i).toNat, by omega⟩ (show (-i).toNat ≠ 0 by omega)
    have e : (-(((-i).toNat : Nat) : Int)) = i := by omega
    rw [show (-((⟨(-i).toNat, by omega⟩ : Fin 10).val : Int)) = i from e] at this
    rw [this] at hc
    simp only [List.mem_cons, List.not_mem_nil, or_false] at hc
    rcases hc with rfl | rfl
    · exact .inl rfl
    · exact .inr (by omega)
end TX

set_option Elab.async false
set_option linter.all false
set_option maxRecDepth 100000
namespace TX
open PySem PySem.Builtin PySem.Builtin.Str PySem.StrLaws TL
def SEP : L := [32, 38, 32]
theorem SEP_ne : SEP ≠ [] := by decide
def wFill : L := [102, 105, 108, 108]
def wRub : L := [114, 117, 98]
def wGroup : L := [103, 114, 111, 117, 112]
theorem tl_fill : tl ("fill" : Str) = wFill := by decide +kernel
theorem tl_rub : tl ("rub" : Str) = wRub := by decide +kernel
theorem tl_group : tl ("group" : Str) = wGroup := by decide +kernel
def itemsD : PyData → List PyData
  | .tuple ds => ds
  | _ => []
def readNums (s : Nat) (t : L) : Option PyData := (mapO readNum (spl [s] 0 [] t)).map .tuple
def fmtNums (s : Nat) (d : PyData) : L := joinL [s] ((itemsD d).map fmtNum)
def readLoop (t : L) : Option PyData := (mapO (readNums 44) (spl [59] 0 [] t)).map .tuple
def fmtLoop (d : PyData) : L := joinL [59] ((itemsD d).map (fmtNums 44))
def readShape (t : L) : Option PyData := match par [40] [] t with
  | some (r, rest) => if rest.getLast? = some 41 then (mapO readLoop (spl [124] 0 [] rest.dropLast)).map (fun ls => .tuple [.str (mk r), .tuple ls]) else none
  | none => none
def fmtShape : PyData → L
  | .tuple [.str r, .tuple ls] => tl r ++ ([40] ++ (joinL [124] (ls.map fmtLoop) ++ [41]))
  | _ => []
def readFill (t : L) : Option PyData := match spm [32] 2 t with
  | [s, c, o] => match readShape s with
    | none => none
    | some s' => match readNums 46 c with
      | none => none
      | some c' => match readNums 47 o with
        | none => none
        | some o' => some (.tuple [.str "fill", s', c', o'])
  | _ => none
def readRub (t : L) : Option PyData := match spm [32] 1 t with
  | [s, o] => match readShape s with
    | none => none
    | some s' => match readNums 47 o with
      | none => none
      | some o' => some (.tuple [.str "rub", s', o'])
  | _ => none
def readClip (c : L) : Option PyData := if c = [45] then some .none else readShape c
def readGroup (f : L → Option (List PyData)) (t : L) : Option PyData := match spm [32] 3 t with
  | [m, o, c, i] => if i.head? = some 91 ∧ i.getLast? = some 93 then (match f (i.drop 1).dropLast with
    | none => none
    | some ls => match readClip c with
      | none => none
      | some c' => match readNums 47 o with
        | none => none
        | some o' => match readNums 46 m with
          | none => none
          | some m' => some (.tuple [.str "group", .tuple ls, o', c', m'])) else none
  | _ => none
def dep (p : L) : Int := (p.count 91 : Int) - (p.count 93 : Int)
def grp : List L → List L → Int → Option (List (List L))
  | [], held, _ => if held = [] then some [] else none
  | p :: r, held, k => if k + dep p = 0 then (match grp r [] 0 with
    | none => none
    | some gs => some ((held ++ [p]) :: gs)) else grp r (held ++ [p]) (k + dep p)
def splitLayers (t : L) : Option (List L) := match grp (spl SEP 0 [] t) [] 0 with
  | none => none
  | some gs => some (gs.map (joinL SEP))
def readLayersF (f : L → Option PyData) (t : L) : Option (List PyData) := if t = [] then some [] else match splitLayers t with
  | none => none
  | some ts => mapO f ts
def readLayer : Nat → L → Option PyData
  | n, t => match par [32] [] t with
    | none => none
    | some (k, rest) => if k = wFill then readFill rest else if k = wRub then readRub rest else if k = wGroup then (match n with
      | 0 => none
      | n + 1 => readGroup (readLayersF (readLayer n)) rest) else none
def clipT : PyData → L
  | .none => [45]
  | c => fmtShape c
def fmtLayersF (f : PyData → L) (ds : List PyData) : L := joinL SEP (ds.map f)
def fmtPlain (k : Str) (xs : List PyData) : L := match xs with
  | [s, c, o] => joinL [32] [tl k, fmtShape s, fmtNums 46 c, fmtNums 47 o]
  | [s, o] => joinL [32] [tl k, fmtShape s, fmtNums 47 o]
  | _ => []
def fmtGroup (f : List PyData → L) (xs : List PyData) : L := match xs with
  | [ls, o, c, m] => joinL [32] [wGroup, fmtNums 46 m, fmtNums 47 o, clipT c, [91] ++ (f (itemsD ls) ++ [93])]
  | _ => []
def fmtLayer : Nat → PyData → L
  | n, .tuple (.str k :: xs) => if k = "group" then (match n with
    | 0 => []
    | n + 1 => fmtGroup (fmtLayersF (fmtLayer n)) xs) else fmtPlain k xs
  | _, _ => []

/-! ### what is read is what is written -/
theorem nums_back {s : Nat} {t : L} {d : PyData} (h : readNums s t = some d) : fmtNums s d = t := by
  unfold readNums at h
  obtain ⟨ds, e, rfl⟩ := Option.map_eq_some_iff.mp h
  show joinL [s] (ds.map fmtNum) = t
  rw [mapO_back (fun a b _ => read_num) e, join_split (by simp)]
theorem loop_back {t : L} {d : PyData} (h : readLoop t = some d) : fmtLoop d = t := by
  unfold readLoop at h
  obtain ⟨ds, e, rfl⟩ := Option.map_eq_some_iff.mp h
  show joinL [59] (ds.map (fmtNums 44)) = t
  rw [mapO_back (fun a b _ => nums_back) e, join_split (by simp)]
theorem shape_back {t : L} {d : PyData} (h : readShape t = some d) : fmtShape d = t := by
  unfold readShape at h
  split at h
  · rename_i r rest e
    split at h
    · rename_i hl
      obtain ⟨ls, e2, rfl⟩ := Option.map_eq_some_iff.mp h
      show tl (mk r) ++ ([40] ++ (joinL [124] (ls.map fmtLoop) ++ [41])) = t
      rw [mapO_back (fun a b _ => loop_back) e2, join_split (by simp)]
      have e3 := par_eq e
      rw [List.nil_append] at e3
      rw [e3]
      show r ++ ([40] ++ (rest.dropLast ++ [41])) = _
      congr 2
      have hne : rest ≠ [] := by rintro rfl; cases hl
      have e4 := List.dropLast_concat_getLast hne
      rw [List.getLast?_eq_some_getLast hne] at hl
      rw [Option.some.inj hl] at e4
      exact e4
    · cases h
  · cases h
theorem fill_back {t : L} {d : PyData} (h : readFill t = some d) : ∃ s c o, d = .tuple [.str "fill", s, c, o] ∧ joinL [32] [fmtShape s, fmtNums 46 c, fmtNums 47 o] = t := by
  unfold readFill at h
  split at h
  · rename_i s c o e
    split at h
    · cases h
    · rename_i s' h1
      split at h
      · cases h
      · rename_i c' h2
        split at h
        · cases h
        · rename_i o' h3
          cases h
          refine ⟨s', c', o', rfl, ?_⟩
          rw [shape_back h1, nums_back h2, nums_back h3, ← e, join_spm]
  · cases h
theorem rub_back {t : L} {d : PyData} (h : readRub t = some d) : ∃ s o, d = .tuple [.str "rub", s, o] ∧ joinL [32] [fmtShape s, fmtNums 47 o] = t := by
  unfold readRub at h
  split at h
  · rename_i s o e
    split at h
    · cases h
    · rename_i s' h1
      split at h
      · cases h
      · rename_i o' h3
        cases h
        refine ⟨s', o', rfl, ?_⟩
        rw [shape_back h1, nums_back h3, ← e, join_spm]
  · cases h
theorem clip_back {c : L} {d : PyData} (h : readClip c = some d) : clipT d = c := by
  unfold readClip at h
  split at h
  · rename_i e
    cases h
    exact e.symm
  · have z := shape_back h
    obtain ⟨r, ls, rfl⟩ : ∃ r ls, d = .tuple [.str r, .tuple ls] := by
      unfold readShape at h
      split at h
      · split at h
        · obtain ⟨ls, _, e⟩ := Option.map_eq_some_iff.mp h
          exact ⟨_, ls, e.symm⟩
        · cases h
      · cases h
    exact z
theorem group_back {f : L → Option (List PyData)} {g : List PyData → L} (hf : ∀ t ls, f t = some ls → g ls = t) {t : L} {d : PyData} (h : readGroup f t = some d) :
    ∃ ls o c m, d = .tuple [.str "group", .tuple ls, o, c, m] ∧ joinL [32] [fmtNums 46 m, fmtNums 47 o, clipT c, [91] ++ (g ls ++ [93])] = t := by
  unfold readGroup at h
  split at h
  · rename_i m o c i e
    split at h
    · rename_i hi
      split at h
      · cases h
      · rename_i ls h1
        split at h
        · cases h
        · rename_i c' h2
          split at h
          · cases h
          · rename_i o' h3
            split at h
            · cases h
            · rename_i m' h4
              cases h
              refine ⟨ls, o', c', m', rfl, ?_⟩
              rw [nums_back h4, nums_back h3, clip_back h2, hf _ _ h1]
              have ei : [91] ++ ((i.drop 1).dropLast ++ [93]) = i := by
                cases i with
                | nil => cases hi.1
                | cons a r =>
                  have ha : a = 91 := Option.some.inj hi.1
                  subst ha
                  have hr : r ≠ [] := by rintro rfl; cases hi.2
                  have h2 := hi.2
                  rw [List.getLast?_cons_of_ne_nil hr] at h2
                  show 91 :: (r.dropLast ++ [93]) = 91 :: r
                  congr 1
                  have e4 := List.dropLast_concat_getLast hr
                  rw [List.getLast?_eq_some_getLast hr] at h2
                  rw [Option.some.inj h2] at e4
                  exact e4
              rw [ei, ← e, join_spm]
    · cases h
  · cases h
theorem grp_back : ∀ {ps held : List L} {k : Int} {gs : List (List L)}, grp ps held k = some gs → gs.flatten = held ++ ps ∧ ∀ g, g ∈ gs → g ≠ []
  | [], held, k, gs, h => by
    unfold grp at h
    split at h
    · rename_i e
      cases h
      subst e
      exact ⟨rfl, by simp⟩
    · cases h
  | p :: r, held, k, gs, h => by
    unfold grp at h
    split at h
    · split at h
      · cases h
      · rename_i gs' e
        cases h
        obtain ⟨h1, h2⟩ := grp_back e
        refine ⟨by rw [List.flatten_cons, h1, List.nil_append, List.append_assoc]; rfl, fun g hg => ?_⟩
        rcases List.mem_cons.mp hg with rfl | hg
        · simp
        · exact h2 g hg
    · obtain ⟨h1, h2⟩ := grp_back h
      exact ⟨by rw [h1, List.append_assoc]; rfl, h2⟩
theorem layersF_back {f : L → Option PyData} {g : PyData → L} (hf : ∀ t d, f t = some d → g d = t) {t : L} {ls : List PyData} (h : readLayersF f t = some ls) : fmtLayersF g ls = t := by
  unfold readLayersF at h
  split at h
  · rename_i e
    cases h
    exact e.symm
  · split at h
    · cases h
    · rename_i ts e
      unfold splitLayers at e
      split at e
      · cases e
      · rename_i gs eg
        cases e
        obtain ⟨h1, h2⟩ := grp_back eg
        unfold fmtLayersF
        rw [mapO_back (fun a b _ => hf a b) h, joinL_flat gs h2, h1, List.nil_append, join_split SEP_ne]
theorem layer_back : ∀ (n : Nat) {t : L} {d : PyData}, readLayer n t = some d → fmtLayer n d = t
  | n, t, d, h => by
    unfold readLayer at h
    split at h
    · cases h
    · rename_i k rest e
      have e3 := par_eq e
      rw [List.nil_append] at e3
      split at h
      · rename_i hk
        obtain ⟨s, c, o, rfl, e2⟩ := fill_back h
        unfold fmtLayer
        rw [if_neg (by decide)]
        show joinL [32] [tl "fill", fmtShape s, fmtNums 46 c, fmtNums 47 o] = t
        rw [joinL_cons (by simp), e2, e3, hk, tl_fill]
      · split at h
        · rename_i hk
          obtain ⟨s, o, rfl, e2⟩ := rub_back h
          unfold fmtLayer
          rw [if_neg (by decide)]
          show joinL [32] [tl "rub", fmtShape s, fmtNums 47 o] = t
          rw [joinL_cons (by simp), e2, e3, hk, tl_rub]
        · split at h
          · rename_i hk
            cases n with
            | zero => cases h
            | succ n =>
              obtain ⟨ls, o, c, m, rfl, e2⟩ := group_back (g := fmtLayersF (fmtLayer n)) (fun t ls => layersF_back fun t d => layer_back n) h
              unfold fmtLayer
              rw [if_pos rfl]
              show joinL [32] [wGroup, fmtNums 46 m, fmtNums 47 o, clipT c, [91] ++ (fmtLayersF (fmtLayer n) ls ++ [93])] = t
              rw [joinL_cons (by simp), e2, e3, hk]
          · cases h
end TX

set_option Elab.async false
set_option linter.all false
set_option maxRecDepth 100000
namespace TX
open PySem PySem.Builtin PySem.Builtin.Str PySem.StrLaws TL
def goodNum (d : PyData) : Prop := ∃ i : Int, d = .int i ∧ -9 ≤ i ∧ i ≤ 9
def goodNums (d : PyData) : Prop := ∃ ds, d = .tuple ds ∧ ds ≠ [] ∧ ∀ x, x ∈ ds → goodNum x
def goodLoop (d : PyData) : Prop := ∃ ds, d = .tuple ds ∧ ds ≠ [] ∧ ∀ x, x ∈ ds → goodNums x
def goodShape (d : PyData) : Prop := ∃ (r : Str) (ls : List PyData), d = .tuple [.str r, .tuple ls] ∧ (r = "odd" ∨ r = "turns") ∧ ls ≠ [] ∧ ∀ l, l ∈ ls → goodLoop l
def goodPlain (d : PyData) : Prop := (∃ s c o, d = .tuple [.str "fill", s, c, o] ∧ goodShape s ∧ goodNums c ∧ goodNums o) ∨ ∃ s o, d = .tuple [.str "rub", s, o] ∧ goodShape s ∧ goodNums o
def goodClip (c : PyData) : Prop := c = .none ∨ goodShape c
def goodLayer : Nat → PyData → Prop
  | 0, d => goodPlain d
  | n + 1, d => goodPlain d ∨ ∃ ls o c m, d = .tuple [.str "group", .tuple ls, o, c, m] ∧ (∀ l, l ∈ ls → goodLayer n l) ∧ goodNums o ∧ goodClip c ∧ goodNums m
theorem mem_joinL {S : L} {c : Nat} : ∀ {ps : List L}, c ∈ joinL S ps → c ∈ S ∨ ∃ p, p ∈ ps ∧ c ∈ p
  | [], h => by cases h
  | [p], h => .inr ⟨p, List.mem_cons_self, h⟩
  | p :: q :: r, h => by
    rw [joinL_cons (by simp)] at h
    rcases List.mem_append.mp h with h | h
    · exact .inr ⟨p, List.mem_cons_self, h⟩
    · rcases List.mem_append.mp h with h | h
      · exact .inl h
      · rcases mem_joinL h with h | ⟨p', h1, h2⟩
        · exact .inl h
        · exact .inr ⟨p', List.mem_cons_of_mem _ h1, h2⟩
theorem nums_signs {s : Nat} {d : PyData} (h : goodNums d) : ∀ c, c ∈ fmtNums s d → isNumC c ∨ c = s := by
  obtain ⟨ds, rfl, hne, hd⟩ := h
  intro c hc
  rcases mem_joinL hc with h | ⟨p, h1, h2⟩
  · exact .inr (List.mem_singleton.mp h)
  · obtain ⟨x, hx, rfl⟩ := List.mem_map.mp h1
    obtain ⟨i, rfl, i1, i2⟩ := hd x hx
    exact .inl (num_signs i1 i2 c h2)
theorem loop_signs {d : PyData} (h : goodLoop d) : ∀ c, c ∈ fmtLoop d → isNumC c ∨ c = 44 ∨ c = 59 := by
  obtain ⟨ds, rfl, hne, hd⟩ := h
  intro c hc
  rcases mem_joinL hc with h | ⟨p, h1, h2⟩
  · exact .inr (.inr (List.mem_singleton.mp h))
  · obtain ⟨x, hx, rfl⟩ := List.mem_map.mp h1
    rcases nums_signs (hd x hx) c h2 with h | h
    · exact .inl h
    · exact .inr (.inl h)
/-- the signs of a shape's text -/
def isShC (c : Nat) : Prop := isNumC c ∨ c = 44 ∨ c = 59 ∨ c = 124 ∨ c = 40 ∨ c = 41 ∨ (97 ≤ c ∧ c ≤ 122)
theorem tl_odd : tl ("odd" : Str) = [111, 100, 100] := by decide +kernel
theorem tl_turns : tl ("turns" : Str) = [116, 117, 114, 110, 115] := by decide +kernel
theorem rule_signs {r : Str} (h : r = "odd" ∨ r = "turns") : ∀ c, c ∈ tl r → 97 ≤ c ∧ c ≤ 122 := by
  intro c hc
  rcases h with rfl | rfl
  · rw [tl_odd] at hc
    simp only [List.mem_cons, List.not_mem_nil, or_false] at hc
    omega
  · rw [tl_turns] at hc
    simp only [List.mem_cons, List.not_mem_nil, or_false] at hc
    omega
theorem shape_signs {d : PyData} (h : goodShape d) : ∀ c, c ∈ fmtShape d → isShC c := by
  obtain ⟨r, ls, rfl, hr, hne, hl⟩ := h
  intro c hc
  have hc : c ∈ tl r ++ ([40] ++ (joinL [124] (ls.map fmtLoop) ++ [41])) := hc
  rcases List.mem_append.mp hc with h | h
  · exact .inr (.inr (.inr (.inr (.inr (.inr (rule_signs hr c h))))))
  · rcases List.mem_append.mp h with h | h
    · have := List.mem_singleton.mp h
      exact .inr (.inr (.inr (.inr (.inl this))))
    · rcases List.mem_append.mp h with h | h
      · rcases mem_joinL h with h | ⟨p, h1, h2⟩
        · exact .inr (.inr (.inr (.inl (List.mem_singleton.mp h))))
        · obtain ⟨x, hx, rfl⟩ := List.mem_map.mp h1
          rcases loop_signs (hl x hx) c h2 with h | h | h
          · exact .inl h
          · exact .inr (.inl h)
          · exact .inr (.inr (.inl h))
      · have := List.mem_singleton.mp h
        exact .inr (.inr (.inr (.inr (.inr (.inl this)))))
theorem not_sh {c : Nat} (h : c = 32 ∨ c = 38 ∨ c = 91 ∨ c = 93) : ¬ isShC c := by
  unfold isShC isNumC
  omega
/-! ### what is written is read -/
theorem nums_read {s : Nat} (hs : ¬ isNumC s) {d : PyData} (h : goodNums d) : readNums s (fmtNums s d) = some d := by
  obtain ⟨ds, rfl, hne, hd⟩ := h
  unfold readNums
  show Option.map PyData.tuple (mapO readNum (spl [s] 0 [] (joinL [s] (ds.map fmtNum)))) = _
  rw [spl_join (fun e => hne (List.map_eq_nil_iff.mp e)) fun p hp hm => ?_, mapO_all fun x hx => ?_]
  · rfl
  · obtain ⟨i, rfl, i1, i2⟩ := hd x hx
    exact num_read i1 i2
  · obtain ⟨x, hx, rfl⟩ := List.mem_map.mp hp
    obtain ⟨i, rfl, i1, i2⟩ := hd x hx
    exact hs (num_signs i1 i2 s hm)
theorem n44 : ¬ isNumC 44 := by unfold isNumC; omega
theorem n46 : ¬ isNumC 46 := by unfold isNumC; omega
theorem n47 : ¬ isNumC 47 := by unfold isNumC; omega
theorem loop_read {d : PyData} (h : goodLoop d) : readLoop (fmtLoop d) = some d := by
  obtain ⟨ds, rfl, hne, hd⟩ := h
  unfold readLoop
  show Option.map PyData.tuple (mapO (readNums 44) (spl [59] 0 [] (joinL [59] (ds.map (fmtNums 44))))) = _
  rw [spl_join (fun e => hne (List.map_eq_nil_iff.mp e)) fun p hp hm => ?_, mapO_all fun x hx => nums_read n44 (hd x hx)]
  · rfl
  · obtain ⟨x, hx, rfl⟩ := List.mem_map.mp hp
    have := nums_signs (hd x hx) _ hm
    unfold isNumC at this
    omega
theorem shape_read {d : PyData} (h : goodShape d) : readShape (fmtShape d) = some d := by
  obtain ⟨r, ls, rfl, hr, hne, hl⟩ := h
  unfold readShape
  show (match par [40] [] (tl r ++ ([40] ++ (joinL [124] (ls.map fmtLoop) ++ [41]))) with
    | some (r, rest) => if rest.getLast? = some 41 then (mapO readLoop (spl [124] 0 [] rest.dropLast)).map (fun ls => PyData.tuple [.str (mk r), .tuple ls]) else none
    | none => none) = _
  rw [par_part1 (s := 40) (S := []) fun hm => by have := rule_signs hr _ hm; omega]
  show (if (joinL [124] (ls.map fmtLoop) ++ [41]).getLast? = some 41 then (mapO readLoop (spl [124] 0 [] (joinL [124] (ls.map fmtLoop) ++ [41]).dropLast)).map (fun ls => PyData.tuple [.str (mk ([] ++ tl r)), .tuple ls]) else none) = _
  rw [if_pos (by rw [List.getLast?_append]; rfl), List.dropLast_concat, spl_join (fun e => hne (List.map_eq_nil_iff.mp e)) fun p hp hm => ?_, mapO_all fun x hx => loop_read (hl x hx)]
  · show some (PyData.tuple [.str (mk ([] ++ tl r)), .tuple ls]) = _
    rw [List.nil_append, mk_of_tl]
  · obtain ⟨x, hx, rfl⟩ := List.mem_map.mp hp
    have := loop_signs (hl x hx) _ hm
    unfold isNumC at this
    omega
theorem sh_free {c : Nat} (h : c = 32 ∨ c = 38 ∨ c = 91 ∨ c = 93) {d : PyData} (g : goodShape d) : c ∉ fmtShape d := fun hm => not_sh h (shape_signs g c hm)
theorem num_free {c s : Nat} (h : c = 32 ∨ c = 38 ∨ c = 91 ∨ c = 93) (hs : s = 46 ∨ s = 47) {d : PyData} (g : goodNums d) : c ∉ fmtNums s d := fun hm => by
  have := nums_signs g c hm
  unfold isNumC at this
  omega
theorem clip_free {c : Nat} (h : c = 32 ∨ c = 38 ∨ c = 91 ∨ c = 93) {d : PyData} (g : goodClip d) : c ∉ clipT d := by
  rcases g with rfl | g
  · intro hm
    have hm : c ∈ [45] := hm
    have := List.mem_singleton.mp hm
    omega
  · have e : clipT d = fmtShape d := by
      obtain ⟨r, ls, rfl, _⟩ := g
      rfl
    rw [e]
    exact sh_free h g
theorem spm_cons {s : Nat} {n : Nat} {p q : L} (h : s ∉ p) : spm [s] (n + 1) (p ++ ([s] ++ q)) = p :: spm [s] n q := by
  show (match par [s] [] (p ++ ([s] ++ q)) with | some (a, b) => a :: spm [s] n b | none => [p ++ ([s] ++ q)]) = _
  rw [par_part1 (s := s) (S := []) h, List.nil_append]
theorem clip_read {c : PyData} (h : goodClip c) : readClip (clipT c) = some c := by
  rcases h with rfl | h
  · rfl
  · have e : clipT c = fmtShape c := by
      obtain ⟨r, ls, rfl, _⟩ := h
      rfl
    rw [e]
    unfold readClip
    have hne : fmtShape c ≠ [45] := by
      intro z
      obtain ⟨r, ls, rfl, _⟩ := h
      have z : tl r ++ ([40] ++ (joinL [124] (ls.map fmtLoop) ++ [41])) = [45] := z
      have hl := congrArg List.length z
      simp only [List.length_append, List.length_cons, List.length_nil] at hl
      omega
    rw [if_neg hne, shape_read h]
/-! ### brackets -/
def depS (P : List L) : Int := (P.map dep).sum
theorem depS_cons (p : L) (P : List L) : depS (p :: P) = dep p + depS P := by unfold depS; rw [List.map_cons, List.sum_cons]
theorem depS_app (P Q : List L) : depS (P ++ Q) = depS P + depS Q := by
  induction P with
  | nil => show depS Q = 0 + depS Q; omega
  | cons p P ih => rw [List.cons_append, depS_cons, depS_cons, ih]; omega
theorem dep_app (p q : L) : dep (p ++ q) = dep p + dep q := by
  unfold dep
  rw [List.count_append, List.count_append]
  omega
theorem dep_free {p : L} (h1 : 91 ∉ p) (h2 : 93 ∉ p) : dep p = 0 := by
  unfold dep
  rw [List.count_eq_zero_of_not_mem h1, List.count_eq_zero_of_not_mem h2]
  rfl
structure Bal (P : List L) : Prop where
  ne : P ≠ []
  pos : ∀ q r, P = q ++ r → 0 ≤ depS q
  tot : depS P = 0
  inn : ∀ q r, P = q ++ r → q ≠ [] → r ≠ [] → depS q ≠ 0
theorem grp_run : ∀ (P h : List L) (k : Int) (R : List L), P ≠ [] → k + depS P = 0 → (∀ q r, P = q ++ r → q ≠ [] → r ≠ [] → k + depS q ≠ 0) → grp (P ++ R) h k = (match grp R [] 0 with
    | none => none
    | some gs => some ((h ++ P) :: gs))
  | [], _, _, _, h, _, _ => absurd rfl h
  | [p], h, k, R, _, ht, _ => by
    have e : k + dep p = 0 := by
      rw [depS_cons] at ht
      have : depS [] = 0 := rfl
      omega
    show (if k + dep p = 0 then (match grp R [] 0 with
      | none => none
      | some gs => some ((h ++ [p]) :: gs)) else grp R (h ++ [p]) (k + dep p)) = _
    rw [if_pos e]
  | p :: p' :: P, h, k, R, _, ht, hi => by
    have e : k + dep p ≠ 0 := by
      have := hi [p] (p' :: P) rfl (by simp) (by simp)
      rw [depS_cons] at this
      have z : depS [] = 0 := rfl
      omega
    show (if k + dep p = 0 then (match grp ((p' :: P) ++ R) [] 0 with
      | none => none
      | some gs => some ((h ++ [p]) :: gs)) else grp ((p' :: P) ++ R) (h ++ [p]) (k + dep p)) = _
    rw [if_neg e, grp_run (p' :: P) (h ++ [p]) (k + dep p) R (by simp) (by rw [depS_cons] at ht; omega) (fun q r e1 e2 e3 => by
      have := hi (p :: q) r (by rw [e1]; rfl) (by simp) e3
      rw [depS_cons] at this
      omega), List.append_assoc]
    rfl
theorem grp_all : ∀ (Ps : List (List L)), (∀ P, P ∈ Ps → Bal P) → grp Ps.flatten [] 0 = some Ps
  | [], _ => rfl
  | P :: Ps, h => by
    have b := h P List.mem_cons_self
    rw [List.flatten_cons, grp_run P [] 0 _ b.ne (by rw [b.tot]; rfl) (fun q r e1 e2 e3 => by have := b.inn q r e1 e2 e3; omega), grp_all Ps fun P hP => h P (List.mem_cons_of_mem _ hP)]
    rfl
theorem bal_flat : ∀ (Ps : List (List L)), (∀ P, P ∈ Ps → Bal P) → (∀ q r, Ps.flatten = q ++ r → 0 ≤ depS q) ∧ depS Ps.flatten = 0
  | [], _ => by
    refine ⟨fun q r e => ?_, rfl⟩
    have e : ([] : List L) = q ++ r := e
    have := (List.append_eq_nil_iff.mp e.symm).1
    rw [this]
    exact Int.le_refl _
  | P :: Ps, h => by
    have b := h P List.mem_cons_self
    obtain ⟨i1, i2⟩ := bal_flat Ps fun P hP => h P (List.mem_cons_of_mem _ hP)
    refine ⟨fun q r e => ?_, by rw [List.flatten_cons, depS_app, b.tot, i2]; rfl⟩
    rw [List.flatten_cons] at e
    rcases List.append_eq_append_iff.mp e with ⟨c, e1, e2⟩ | ⟨c, e1, e2⟩
    · rw [e1, depS_app, b.tot]
      have := i1 c r e2
      omega
    · exact b.pos q c e1
def addLast (B : L) : List L → List L
  | [] => []
  | [q] => [q ++ B]
  | q :: q' :: r => q :: addLast B (q' :: r)
def addFirst (A : L) : List L → List L
  | [] => []
  | q :: r => (A ++ q) :: r
theorem addLast_ne {B : L} : ∀ {Q : List L}, Q ≠ [] → addLast B Q ≠ []
  | [], h => absurd rfl h
  | [q], _ => by unfold addLast; simp
  | q :: q' :: r, _ => by unfold addLast; simp
theorem join_addLast {S B : L} : ∀ {Q : List L}, Q ≠ [] → joinL S (addLast B Q) = joinL S Q ++ B
  | [], h => absurd rfl h
  | [q], _ => rfl
  | q :: q' :: r, _ => by
    show joinL S (q :: addLast B (q' :: r)) = _
    rw [joinL_cons (addLast_ne (by simp)), join_addLast (by simp), joinL_cons (ps := q' :: r) (by simp), List.append_assoc, List.append_assoc]
theorem join_addFirst {S A : L} : ∀ {Q : List L}, Q ≠ [] → joinL S (addFirst A Q) = A ++ joinL S Q
  | [], h => absurd rfl h
  | [q], _ => rfl
  | q :: q' :: r, _ => by
    show joinL S ((A ++ q) :: q' :: r) = _
    rw [joinL_cons (by simp), joinL_cons (p := q) (ps := q' :: r) (by simp), List.append_assoc]
theorem depS_addLast {B : L} : ∀ {Q : List L}, Q ≠ [] → depS (addLast B Q) = depS Q + dep B
  | [], h => absurd rfl h
  | [q], _ => by
    show depS [q ++ B] = _
    rw [depS_cons, depS_cons, dep_app]
    have : depS [] = 0 := rfl
    omega
  | q :: q' :: r, _ => by
    show depS (q :: addLast B (q' :: r)) = _
    rw [depS_cons, depS_addLast (by simp), depS_cons q]
    omega
theorem pre_addLast {B : L} : ∀ {Q q r : List L}, addLast B Q = q ++ r → r ≠ [] → ∃ r', Q = q ++ r'
  | [], q, r, e, hr => by
    have e : ([] : List L) = q ++ r := e
    exact absurd (List.append_eq_nil_iff.mp e.symm).2 hr
  | [x], [], r, e, hr => ⟨[x], rfl⟩
  | [x], y :: q, r, e, hr => by
    have e : [x ++ B] = y :: (q ++ r) := e
    injection e with _ e
    exact absurd (List.append_eq_nil_iff.mp e.symm).2 hr
  | x :: x' :: Q, [], r, e, hr => ⟨_, rfl⟩
  | x :: x' :: Q, y :: q, r, e, hr => by
    have e : x :: addLast B (x' :: Q) = y :: (q ++ r) := e
    injection e with e1 e2
    obtain ⟨r', e3⟩ := pre_addLast e2 hr
    exact ⟨r', by rw [e1, e3]; rfl⟩
theorem bal_wrap {A B : L} {Q : List L} (hQ : Q ≠ []) (h1 : ∀ q r, Q = q ++ r → 0 ≤ depS q) (h2 : depS Q = 0) (hA : dep A = 1) (hB : dep B = -1) : Bal (addFirst A (addLast B Q)) := by
  have hne := addLast_ne (B := B) hQ
  obtain ⟨x, X, eX⟩ : ∃ x X, addLast B Q = x :: X := by
    cases h : addLast B Q with
    | nil => exact absurd h hne
    | cons x X => exact ⟨x, X, rfl⟩
  have tot : depS (addFirst A (addLast B Q)) = 0 := by
    rw [eX]
    show depS ((A ++ x) :: X) = 0
    have e := depS_addLast (B := B) hQ
    rw [eX, depS_cons] at e
    rw [depS_cons, dep_app]
    omega
  have inn : ∀ q r, addFirst A (addLast B Q) = q ++ r → q ≠ [] → r ≠ [] → 1 ≤ depS q := by
    intro q r e hq hr
    rw [eX] at e
    have e : (A ++ x) :: X = q ++ r := e
    cases q with
    | nil => exact absurd rfl hq
    | cons y q =>
      have e : (A ++ x) :: X = y :: (q ++ r) := e
      injection e with e1 e2
      have e3 : addLast B Q = (x :: q) ++ r := by rw [eX, e2]; rfl
      obtain ⟨r', e4⟩ := pre_addLast e3 hr
      have := h1 _ _ e4
      rw [depS_cons] at this
      rw [depS_cons, ← e1, dep_app]
      omega
  refine ⟨by rw [eX]; simp [addFirst], fun q r e => ?_, tot, fun q r e hq hr => ?_⟩
  · by_cases hq : q = []
    · rw [hq]; exact Int.le_refl _
    · by_cases hr : r = []
      · rw [hr, List.append_nil] at e
        rw [← e, tot]; exact Int.le_refl _
      · have := inn q r e hq hr
        omega
  · have := inn q r e hq hr
    omega
theorem spl_join3 : ∀ {parts : List L}, parts ≠ [] → (∀ p, p ∈ parts → 38 ∉ p) → spl SEP 0 [] (joinL SEP parts) = parts := by
  have free : ∀ (p q : L), 38 ∉ p → (q = [] ∨ q.head? = some 32) → ∀ i, i < p.length → pre SEP ((p ++ q).drop i) = false := by
    intro p q h hq i hi
    cases e : pre SEP ((p ++ q).drop i) with
    | false => rfl
    | true =>
      exfalso
      have z := pre_eq e
      have z1 : ((p ++ q).drop i)[1]? = some 38 := by rw [z]; rfl
      rw [List.getElem?_drop] at z1
      by_cases h1 : i + 1 < p.length
      · rw [List.getElem?_append_left h1] at z1
        exact h (List.mem_of_getElem? z1)
      · have e1 : i + 1 = p.length := by omega
        rw [e1, List.getElem?_append_right (Nat.le_refl _), Nat.sub_self] at z1
        rcases hq with rfl | hq
        · cases z1
        · cases q with
          | nil => cases hq
          | cons a q =>
            have e2 : a = 32 := Option.some.inj hq
            have e3 : a = 38 := Option.some.inj z1
            omega
  intro parts
  induction parts with
  | nil => intro h; exact absurd rfl h
  | cons p ps ih =>
    intro _ hp
    cases ps with
    | nil =>
      show spl SEP 0 [] p = [p]
      rw [spl_last fun i hi => ?_]
      · rfl
      · have := free p [] (hp p List.mem_cons_self) (.inl rfl) i hi
        rw [List.append_nil] at this
        exact this
    | cons q r =>
      rw [joinL_cons (by simp), spl_part SEP_ne (free p _ (hp p List.mem_cons_self) (.inr rfl)), ih (by simp) fun x hx => hp x (List.mem_cons_of_mem _ hx)]
      rfl
end TX

set_option Elab.async false
set_option linter.all false
set_option maxRecDepth 100000
namespace TX
open PySem PySem.Builtin PySem.Builtin.Str PySem.StrLaws TL
theorem goodPlain_layer {n : Nat} {d : PyData} (h : goodPlain d) : goodLayer n d := by
  cases n with
  | zero => exact h
  | succ n => exact .inl h
theorem fmt_fill (n : Nat) (s c o : PyData) : fmtLayer n (.tuple [.str "fill", s, c, o]) = joinL [32] [wFill, fmtShape s, fmtNums 46 c, fmtNums 47 o] := by
  unfold fmtLayer
  rw [if_neg (by decide)]
  show joinL [32] [tl "fill", fmtShape s, fmtNums 46 c, fmtNums 47 o] = _
  rw [tl_fill]
theorem fmt_rub (n : Nat) (s o : PyData) : fmtLayer n (.tuple [.str "rub", s, o]) = joinL [32] [wRub, fmtShape s, fmtNums 47 o] := by
  unfold fmtLayer
  rw [if_neg (by decide)]
  show joinL [32] [tl "rub", fmtShape s, fmtNums 47 o] = _
  rw [tl_rub]
theorem fmt_group (n : Nat) (ls : List PyData) (o c m : PyData) : fmtLayer (n + 1) (.tuple [.str "group", .tuple ls, o, c, m]) = joinL [32] [wGroup, fmtNums 46 m, fmtNums 47 o, clipT c, [91] ++ (fmtLayersF (fmtLayer n) ls ++ [93])] := by
  unfold fmtLayer
  rw [if_pos rfl]
  rfl
theorem w_free {c : Nat} (h : c = 32 ∨ c = 38 ∨ c = 91 ∨ c = 93) : c ∉ wFill ∧ c ∉ wRub ∧ c ∉ wGroup := by
  rcases h with rfl | rfl | rfl | rfl <;> decide
theorem free_join {c s : Nat} (hs : c ≠ s) {ps : List L} (h : ∀ p, p ∈ ps → c ∉ p) : c ∉ joinL [s] ps := fun hm => by
  rcases mem_joinL hm with z | ⟨p, h1, h2⟩
  · exact hs (List.mem_singleton.mp z)
  · exact h p h1 h2
theorem plain_free {c : Nat} (h : c = 38 ∨ c = 91 ∨ c = 93) {n : Nat} {d : PyData} (g : goodPlain d) : c ∉ fmtLayer n d := by
  have h4 : c = 32 ∨ c = 38 ∨ c = 91 ∨ c = 93 := .inr h
  have h32 : c ≠ 32 := by omega
  rcases g with ⟨s, cc, o, rfl, gs, gc, go⟩ | ⟨s, o, rfl, gs, go⟩
  · rw [fmt_fill]
    refine free_join h32 fun p hp => ?_
    simp only [List.mem_cons, List.not_mem_nil, or_false] at hp
    rcases hp with rfl | rfl | rfl | rfl
    · exact (w_free h4).1
    · exact sh_free h4 gs
    · exact num_free h4 (.inl rfl) gc
    · exact num_free h4 (.inr rfl) go
  · rw [fmt_rub]
    refine free_join h32 fun p hp => ?_
    simp only [List.mem_cons, List.not_mem_nil, or_false] at hp
    rcases hp with rfl | rfl | rfl
    · exact (w_free h4).2.1
    · exact sh_free h4 gs
    · exact num_free h4 (.inr rfl) go
theorem bal_one {p : L} (h : dep p = 0) : Bal [p] := by
  have e0 : depS [p] = 0 := by rw [depS_cons, h]; rfl
  refine ⟨by simp, fun q r e => ?_, e0, fun q r e hq hr => ?_⟩
  · cases q with
    | nil => exact Int.le_refl _
    | cons y q =>
      have e : [p] = y :: (q ++ r) := e
      injection e with e1 e2
      rw [(List.append_eq_nil_iff.mp e2.symm).1, ← e1, e0]
      exact Int.le_refl _
  · cases q with
    | nil => exact absurd rfl hq
    | cons y q =>
      have e : [p] = y :: (q ++ r) := e
      injection e with e1 e2
      exact absurd (List.append_eq_nil_iff.mp e2.symm).2 hr
theorem addLast_mem {B : L} : ∀ {Q : List L} {p : L}, p ∈ addLast B Q → ∃ q, q ∈ Q ∧ (p = q ∨ p = q ++ B)
  | [], p, h => by cases h
  | [x], p, h => by
    have h : p ∈ [x ++ B] := h
    exact ⟨x, List.mem_cons_self, .inr (List.mem_singleton.mp h)⟩
  | x :: x' :: Q, p, h => by
    have h : p ∈ x :: addLast B (x' :: Q) := h
    rcases List.mem_cons.mp h with h | h
    · exact ⟨x, List.mem_cons_self, .inl h⟩
    · obtain ⟨q, h1, h2⟩ := addLast_mem h
      exact ⟨q, List.mem_cons_of_mem _ h1, h2⟩
theorem addFirst_mem {A : L} : ∀ {Q : List L} {p : L}, p ∈ addFirst A Q → ∃ q, q ∈ Q ∧ (p = q ∨ p = A ++ q)
  | [], p, h => by cases h
  | x :: Q, p, h => by
    have h : p ∈ (A ++ x) :: Q := h
    rcases List.mem_cons.mp h with h | h
    · exact ⟨x, List.mem_cons_self, .inr h⟩
    · exact ⟨p, List.mem_cons_of_mem _ h, .inl rfl⟩
theorem choose_parts {f : PyData → L} : ∀ (ls : List PyData), (∀ l, l ∈ ls → ∃ P, f l = joinL SEP P ∧ Bal P ∧ ∀ p, p ∈ P → 38 ∉ p) → ∃ Ps : List (List L), ls.map f = Ps.map (joinL SEP) ∧ (∀ P, P ∈ Ps → Bal P) ∧ ∀ P, P ∈ Ps → ∀ p, p ∈ P → 38 ∉ p
  | [], _ => ⟨[], rfl, by simp, by simp⟩
  | l :: ls, h => by
    obtain ⟨P, e, b, n⟩ := h l List.mem_cons_self
    obtain ⟨Ps, e2, b2, n2⟩ := choose_parts ls fun l hl => h l (List.mem_cons_of_mem _ hl)
    refine ⟨P :: Ps, by rw [List.map_cons, List.map_cons, e, e2], fun Q hQ => ?_, fun Q hQ => ?_⟩
    · rcases List.mem_cons.mp hQ with rfl | hQ
      · exact b
      · exact b2 Q hQ
    · rcases List.mem_cons.mp hQ with rfl | hQ
      · exact n
      · exact n2 Q hQ
theorem layers_parts {f : PyData → L} {ls : List PyData} (h : ∀ l, l ∈ ls → ∃ P, f l = joinL SEP P ∧ Bal P ∧ ∀ p, p ∈ P → 38 ∉ p) :
    ∃ Q, Q ≠ [] ∧ fmtLayersF f ls = joinL SEP Q ∧ (∀ q r, Q = q ++ r → 0 ≤ depS q) ∧ depS Q = 0 ∧ ∀ p, p ∈ Q → 38 ∉ p := by
  obtain ⟨Ps, e, b, n⟩ := choose_parts ls h
  cases Ps with
  | nil =>
    have e1 : fmtLayersF f ls = joinL SEP [[]] := by
      unfold fmtLayersF
      rw [e]; rfl
    have b1 := bal_one (p := []) rfl
    exact ⟨[[]], by simp, e1, b1.pos, b1.tot, fun p hp => by rw [List.mem_singleton.mp hp]; simp⟩
  | cons P Ps =>
    obtain ⟨f1, f2⟩ := bal_flat (P :: Ps) b
    refine ⟨(P :: Ps).flatten, flat_ne (b P List.mem_cons_self).ne, ?_, f1, f2, fun p hp => ?_⟩
    · unfold fmtLayersF
      rw [e, joinL_flat _ fun g hg => (b g hg).ne]
    · obtain ⟨Q, hQ, hp⟩ := List.mem_flatten.mp hp
      exact n Q hQ p hp
theorem layer_parts : ∀ (n : Nat) {d : PyData}, goodLayer n d → ∃ P, fmtLayer n d = joinL SEP P ∧ Bal P ∧ ∀ p, p ∈ P → 38 ∉ p := by
  have plain : ∀ (n : Nat) {d : PyData}, goodPlain d → ∃ P, fmtLayer n d = joinL SEP P ∧ Bal P ∧ ∀ p, p ∈ P → 38 ∉ p := fun n d g => by
    refine ⟨[fmtLayer n d], rfl, bal_one (dep_free (plain_free (.inr (.inl rfl)) g) (plain_free (.inr (.inr rfl)) g)), fun p hp => ?_⟩
    rw [List.mem_singleton.mp hp]
    exact plain_free (.inl rfl) g
  intro n
  induction n with
  | zero => intro d g; exact plain 0 g
  | succ n ih =>
    intro d g
    rcases g with g | ⟨ls, o, c, m, rfl, hl, go, gc, gm⟩
    · exact plain _ g
    obtain ⟨Q, hQ, e, q1, q2, q3⟩ := layers_parts (f := fmtLayer n) fun l hl' => ih (hl l hl')
    have hA : ∀ c' : Nat, (c' = 38 ∨ c' = 91 ∨ c' = 93) → c' ∉ joinL [32] [wGroup, fmtNums 46 m, fmtNums 47 o, clipT c] := fun c' h => by
      refine free_join (by omega) fun p hp => ?_
      have h4 : c' = 32 ∨ c' = 38 ∨ c' = 91 ∨ c' = 93 := .inr h
      simp only [List.mem_cons, List.not_mem_nil, or_false] at hp
      rcases hp with rfl | rfl | rfl | rfl
      · exact (w_free h4).2.2
      · exact num_free h4 (.inl rfl) gm
      · exact num_free h4 (.inr rfl) go
      · exact clip_free h4 gc
    have eT : fmtLayer (n + 1) (.tuple [.str "group", .tuple ls, o, c, m]) = (joinL [32] [wGroup, fmtNums 46 m, fmtNums 47 o, clipT c] ++ [32, 91]) ++ (joinL SEP Q ++ [93]) := by
      rw [fmt_group, e, show [wGroup, fmtNums 46 m, fmtNums 47 o, clipT c, [91] ++ (joinL SEP Q ++ [93])] = [wGroup, fmtNums 46 m, fmtNums 47 o, clipT c] ++ [[91] ++ (joinL SEP Q ++ [93])] from rfl, joinL_app (by simp) (by simp), List.append_assoc]
      rfl
    generalize joinL [32] [wGroup, fmtNums 46 m, fmtNums 47 o, clipT c] = A at hA eT
    refine ⟨addFirst (A ++ [32, 91]) (addLast [93] Q), ?_, bal_wrap hQ q1 q2 ?_ (by decide), fun p hp => ?_⟩
    · rw [eT, join_addFirst (addLast_ne hQ), join_addLast hQ]
    · rw [dep_app, dep_free (hA 91 (.inr (.inl rfl))) (hA 93 (.inr (.inr rfl)))]
      rfl
    · obtain ⟨q, h1, h2⟩ := addFirst_mem hp
      obtain ⟨q', h3, h4⟩ := addLast_mem h1
      have n1 := q3 q' h3
      have n2 : 38 ∉ q := by
        rcases h4 with rfl | rfl
        · exact n1
        · intro hm
          rcases List.mem_append.mp hm with z | z
          · exact n1 z
          · exact absurd (List.mem_singleton.mp z) (by decide)
      rcases h2 with rfl | rfl
      · exact n2
      · intro hm
        rcases List.mem_append.mp hm with z | z
        · rcases List.mem_append.mp z with z | z
          · exact hA 38 (.inl rfl) z
          · revert z; decide
        · exact n2 z
theorem joinL_head {S p : L} {ps : List L} : ∃ r, joinL S (p :: ps) = p ++ r := by
  cases ps with
  | nil => exact ⟨[], by rw [List.append_nil]; rfl⟩
  | cons q r => exact ⟨S ++ joinL S (q :: r), rfl⟩
theorem layer_ne {n : Nat} {d : PyData} (g : goodLayer n d) : fmtLayer n d ≠ [] := by
  have plain : ∀ (n : Nat) {d : PyData}, goodPlain d → fmtLayer n d ≠ [] := fun n d g => by
    rcases g with ⟨s, c, o, rfl, _⟩ | ⟨s, o, rfl, _⟩
    · rw [fmt_fill]
      obtain ⟨r, e⟩ := joinL_head (S := [32]) (p := wFill) (ps := [fmtShape s, fmtNums 46 c, fmtNums 47 o])
      rw [e]; simp [wFill]
    · rw [fmt_rub]
      obtain ⟨r, e⟩ := joinL_head (S := [32]) (p := wRub) (ps := [fmtShape s, fmtNums 47 o])
      rw [e]; simp [wRub]
  cases n with
  | zero => exact plain 0 g
  | succ n =>
    rcases g with g | ⟨ls, o, c, m, rfl, _⟩
    · exact plain _ g
    · rw [fmt_group]
      obtain ⟨r, e⟩ := joinL_head (S := [32]) (p := wGroup) (ps := [fmtNums 46 m, fmtNums 47 o, clipT c, [91] ++ (fmtLayersF (fmtLayer n) ls ++ [93])])
      rw [e]; simp [wGroup]
theorem layersF_read {n : Nat} {ls : List PyData} (g : ∀ l, l ∈ ls → goodLayer n l) (hr : ∀ l, l ∈ ls → readLayer n (fmtLayer n l) = some l) : readLayersF (readLayer n) (fmtLayersF (fmtLayer n) ls) = some ls := by
  cases ls with
  | nil => rfl
  | cons l ls =>
    obtain ⟨Ps, e, b, nn⟩ := choose_parts (f := fmtLayer n) (l :: ls) fun l hl => layer_parts n (g l hl)
    have hne : fmtLayersF (fmtLayer n) (l :: ls) ≠ [] := by
      unfold fmtLayersF
      rw [List.map_cons]
      obtain ⟨r, e⟩ := joinL_head (S := SEP) (p := fmtLayer n l) (ps := ls.map (fmtLayer n))
      rw [e]
      intro z
      exact layer_ne (g l List.mem_cons_self) (List.append_eq_nil_iff.mp z).1
    have eT : fmtLayersF (fmtLayer n) (l :: ls) = joinL SEP Ps.flatten := by
      unfold fmtLayersF
      rw [e, joinL_flat _ fun g hg => (b g hg).ne]
    have hPs : Ps.flatten ≠ [] := by
      cases Ps with
      | nil => cases e
      | cons P Ps => exact flat_ne (b P List.mem_cons_self).ne
    unfold readLayersF splitLayers
    rw [if_neg hne, eT, spl_join3 hPs (fun p hp => by
      obtain ⟨Q, hQ, hp⟩ := List.mem_flatten.mp hp
      exact nn Q hQ p hp), grp_all Ps b]
    show mapO (readLayer n) (Ps.map (joinL SEP)) = _
    rw [← e, mapO_all hr]
theorem fill_read {s c o : PyData} (gs : goodShape s) (gc : goodNums c) (go : goodNums o) : readFill (joinL [32] [fmtShape s, fmtNums 46 c, fmtNums 47 o]) = some (.tuple [.str "fill", s, c, o]) := by
  have e : spm [32] 2 (joinL [32] [fmtShape s, fmtNums 46 c, fmtNums 47 o]) = [fmtShape s, fmtNums 46 c, fmtNums 47 o] := by
    rw [joinL_cons (by simp), spm_cons (sh_free (.inl rfl) gs), joinL_cons (by simp), spm_cons (num_free (.inl rfl) (.inl rfl) gc)]
    rfl
  unfold readFill
  rw [e]
  show (match readShape (fmtShape s) with
    | none => none
    | some s' => match readNums 46 (fmtNums 46 c) with
      | none => none
      | some c' => match readNums 47 (fmtNums 47 o) with
        | none => none
        | some o' => some (PyData.tuple [.str "fill", s', c', o'])) = _
  rw [shape_read gs, nums_read n46 gc, nums_read n47 go]
theorem rub_read {s o : PyData} (gs : goodShape s) (go : goodNums o) : readRub (joinL [32] [fmtShape s, fmtNums 47 o]) = some (.tuple [.str "rub", s, o]) := by
  have e : spm [32] 1 (joinL [32] [fmtShape s, fmtNums 47 o]) = [fmtShape s, fmtNums 47 o] := by
    rw [joinL_cons (by simp), spm_cons (sh_free (.inl rfl) gs)]
    rfl
  unfold readRub
  rw [e]
  show (match readShape (fmtShape s) with
    | none => none
    | some s' => match readNums 47 (fmtNums 47 o) with
      | none => none
      | some o' => some (PyData.tuple [.str "rub", s', o'])) = _
  rw [shape_read gs, nums_read n47 go]
theorem group_read {f : L → Option (List PyData)} {g : List PyData → L} {ls : List PyData} {o c m : PyData} (hf : f (g ls) = some ls) (go : goodNums o) (gc : goodClip c) (gm : goodNums m) :
    readGroup f (joinL [32] [fmtNums 46 m, fmtNums 47 o, clipT c, [91] ++ (g ls ++ [93])]) = some (.tuple [.str "group", .tuple ls, o, c, m]) := by
  have e : spm [32] 3 (joinL [32] [fmtNums 46 m, fmtNums 47 o, clipT c, [91] ++ (g ls ++ [93])]) = [fmtNums 46 m, fmtNums 47 o, clipT c, [91] ++ (g ls ++ [93])] := by
    rw [joinL_cons (by simp), spm_cons (num_free (.inl rfl) (.inl rfl) gm), joinL_cons (by simp), spm_cons (num_free (.inl rfl) (.inr rfl) go), joinL_cons (by simp), spm_cons (clip_free (.inl rfl) gc)]
    rfl
  unfold readGroup
  rw [e]
  have e1 : ([91] ++ (g ls ++ [93])).head? = some 91 := rfl
  have e2 : ([91] ++ (g ls ++ [93])).getLast? = some 93 := by
    rw [← List.append_assoc, List.getLast?_append]; rfl
  have e3 : (([91] ++ (g ls ++ [93])).drop 1).dropLast = g ls := by
    show (g ls ++ [93]).dropLast = _
    rw [List.dropLast_concat]
  show (if ([91] ++ (g ls ++ [93])).head? = some 91 ∧ ([91] ++ (g ls ++ [93])).getLast? = some 93 then (match f (([91] ++ (g ls ++ [93])).drop 1).dropLast with
    | none => none
    | some ls => match readClip (clipT c) with
      | none => none
      | some c' => match readNums 47 (fmtNums 47 o) with
        | none => none
        | some o' => match readNums 46 (fmtNums 46 m) with
          | none => none
          | some m' => some (PyData.tuple [.str "group", .tuple ls, o', c', m'])) else none) = _
  rw [if_pos ⟨e1, e2⟩, e3, hf, clip_read gc, nums_read n47 go, nums_read n46 gm]
theorem par_word {k : L} {ps : List L} (h : 32 ∉ k) (hp : ps ≠ []) : par [32] [] (joinL [32] (k :: ps)) = some (k, joinL [32] ps) := by
  rw [joinL_cons hp, par_part1 (s := 32) (S := []) h, List.nil_append]
theorem layer_read : ∀ (n : Nat) {d : PyData}, goodLayer n d → readLayer n (fmtLayer n d) = some d := by
  have plain : ∀ (n : Nat) {d : PyData}, goodPlain d → readLayer n (fmtLayer n d) = some d := fun n d g => by
    rcases g with ⟨s, c, o, rfl, gs, gc, go⟩ | ⟨s, o, rfl, gs, go⟩
    · unfold readLayer
      rw [fmt_fill, par_word (by decide) (by simp)]
      show (if wFill = wFill then readFill _ else _) = _
      rw [if_pos rfl, fill_read gs gc go]
    · unfold readLayer
      rw [fmt_rub, par_word (by decide) (by simp)]
      show (if wRub = wFill then _ else if wRub = wRub then readRub _ else _) = _
      rw [if_neg (by decide), if_pos rfl, rub_read gs go]
  intro n
  induction n with
  | zero => intro d g; exact plain 0 g
  | succ n ih =>
    intro d g
    rcases g with g | ⟨ls, o, c, m, rfl, hl, go, gc, gm⟩
    · exact plain _ g
    unfold readLayer
    rw [fmt_group, par_word (by decide) (by simp)]
    show (if wGroup = wFill then _ else if wGroup = wRub then _ else if wGroup = wGroup then readGroup (readLayersF (readLayer n)) _ else none) = _
    rw [if_neg (by decide), if_neg (by decide), if_pos rfl]
    exact group_read (g := fmtLayersF (fmtLayer n)) (layersF_read hl fun l h => ih (hl l h)) go gc gm
theorem layers_read {n : Nat} {ls : List PyData} (g : ∀ l, l ∈ ls → goodLayer n l) : readLayersF (readLayer n) (fmtLayersF (fmtLayer n) ls) = some ls := layersF_read g fun l h => layer_read n (g l h)
theorem layers_back {n : Nat} {t : L} {ls : List PyData} (h : readLayersF (readLayer n) t = some ls) : fmtLayersF (fmtLayer n) ls = t := layersF_back (fun t d => layer_back n) h
end TX

set_option Elab.async false
set_option linter.all false
set_option maxRecDepth 100000
namespace SX
variable [DL.Tbs]
open PySem PySem.Spec PyProof.Rows L2 HotX L2H LamX DL HX
section
variable {X : Cx} {K : PySem.W.Frag}
theorem kJoin (h : X.K = K := by rfl) : MtR X "str.join" (fun x xs H Q => ∃ a p, ∃ ys : List Str, x = .str a ∧ xs = [.ref p] ∧ (SqL K H p (ys.map V.str) ∨ SqT K H p (ys.map V.str)) ∧ (ys.map (·.length)).sum + ys.length * a.length ≤ 16777216 ∧ Q (.str (Txt.join a ys)) H) := h ▸ mt_join
def rSlU (K : PySem.W.Frag) : V → Option Int → Option Int → Hp → VK → Prop := fun x lo hi H Q => rSlA K x lo hi H Q ∨ rSlS x lo hi H Q
theorem kSlU (h : X.K = K := by rfl) : SlR X (rSlU K) := h ▸ sl_tupA.or sl_str
def rAddV (K : PySem.W.Frag) : R2 := fun x y H Q => rAddU K x y H Q ∨ ∃ i j, x = .str i ∧ y = .str j ∧ i.length + j.length ≤ sizeLine ∧ Q (.str (i ++ j)) H
theorem kAddV (h : X.K = K := by rfl) : OpR X (binaryOp .Add) (rAddV K) := h ▸ opOr op_addU op_add_str
def rMulS : R2 := fun x y H Q => ∃ (z : Str) (n : Int), x = .str z ∧ y = .int n ∧ MulOk z n ∧ Q (.str (Txt.mul z n)) H
theorem op_mulS : OpR X (binaryOp .Mult) rMulS := by
  intro pins s σ H x y v u Q I rx ry h
  obtain ⟨z, n, rfl, rfl, hok, q⟩ := h
  obtain ⟨t, rfl⟩ := rx
  obtain ⟨t', rfl⟩ := ry
  exact PySem.SB.mul hok fun t' k => ⟨.str (Txt.mul z n), H, I.tok _, ⟨t', rfl⟩, q⟩
def rMulV (K : PySem.W.Frag) : R2 := fun x y H Q => rMulU K x y H Q ∨ rMulS x y H Q
theorem kMulV (h : X.K = K := by rfl) : OpR X (binaryOp .Mult) (rMulV K) := h ▸ opOr op_mulU op_mulS
def rNotIn1 : R2 := fun x y H Q => ∃ (c : Nat) (z : Str), x = .str ⟨#[c]⟩ ∧ y = .str z ∧ Q (.bl (!decide (c ∈ z.cps.toList))) H
theorem op_notIn1 : OpR X (compareOp .NotIn) rNotIn1 := op_notIn_sign
theorem kLstG {es : List Expr} {k : Nat} {t : TGs} {n : Nat} {pos : Pos} (hc : X.calm = true) (h : PGs X es t)
    (hn : (assignEach es X.env).length = n := by rfl) (hst : (assignEach es X.env).findIdx? (·.1) = none := by rfl) (hK : X.K = K := by rfl) : PG X (.Tuple es k pos) (gLst K n t) := hK ▸ pg_lst hc h hn hst
end
section
variable {K : PySem.W.Frag} {te ta : TE} {tr : TA} {es : List Sl} {m m1 m2 : M}
theorem dp_strsL {H0 : Hp} : ∀ ys : List Str, DpAll K H0 (ys.map V.str) (ys.map .str)
  | [] => .nil
  | y :: ys => .cons (.str y) (dp_strsL ys)
theorem strs_v {H0 : Hp} : ∀ {vs : List V} {ys : List Str}, DpAll K H0 vs (ys.map .str) → vs = ys.map V.str
  | _, [], h => by cases h; rfl
  | _, y :: ys, h => by
    cases h with
    | cons a t =>
      cases a
      rw [strs_v t]
      rfl
/-- a method of a text -/
theorem ev_bmS {r : V → List V → Hp → VK → Prop} {a : Str} {rs : List Sl} {z : PyData} (h : EvE K te es m (.d (.str a)) m1) (ha : EvA K tr es m1 rs m2) (hr : OpC K (fun vs H Q => r (.str a) vs H Q) rs z) : EvE K (tBM K "str" r te tr) es m (.d z) m2 := by
  intro σ H H0 ρ w e Q q
  refine h σ H H0 ρ w e _ fun v H1 H01 s1 w1 k1 => ?_
  have k1 : Dp K H01 v (.str a) := k1
  cases k1
  refine ⟨rfl, ha σ H1 H01 ρ w1 (e.mono s1.ex) _ fun vs H2 H02 s2 w2 kv => hr H02 H2 ρ w2.ex vs kv _ fun u H' H0' e1 e2 e3 fr kz => ?_⟩
  obtain ⟨w3, s3⟩ := w2.grow (n := ρ.length) e1 e2 e3 fr
  exact q u H' H0' ((s1.trans w1.nd s2).trans w2.nd s3) w3 kz
theorem newStrs {H0 H : Hp} {ys : List Str} {Q : VK} (ex : Evl.Ex H0 H) (q : ∀ u H' H0', Evl.Ex H0 H0' → Evl.Ex H0' H' → Evl.Ex H H' → (∀ b o, H0' b = some o → H0 b = some o ∨ H b = none) → Dp K H0' u (.list (ys.map .str)) → Q u H') : rNewStrs ys H Q :=
  fun p hp => newL ex hp (dp_strsL ys) q
theorem one_str {H0 : Hp} {ρ : List Addr} {vs : List V} {b : Str} (k : SlAll K H0 ρ vs [.d (.str b)]) : vs = [.str b] := by
  cases k with
  | cons a t =>
    cases t
    have a : Dp K H0 _ (.str b) := a
    cases a
    rfl
theorem c_split {a b : Str} (hb : (b.length == 0) = false) (hl : a.length + 2 ≤ sizeLine) : OpC K (fun vs H Q => (fun x xs H Q => ∃ a b, x = V.str a ∧ xs = [V.str b] ∧ (b.length == 0) = false ∧ a.length + 2 ≤ sizeLine ∧ rNewStrs (Txt.split a b) H Q) (.str a) vs H Q) [.d (.str b)] (.list ((Txt.split a b).map .str)) := fun H0 H ρ ex vs k Q q => by
  rw [one_str k]
  exact ⟨a, b, rfl, rfl, hb, hl, newStrs ex q⟩
theorem c_splitMax {a b : Str} {k : Int} (hb : (b.length == 0) = false) (h1 : -(2 ^ 63) ≤ k) (h2 : k < 2 ^ 63) (hl : a.length + 2 ≤ sizeLine) : OpC K (fun vs H Q => (fun x xs H Q => ∃ (a b : Str) (k : Int), x = V.str a ∧ xs = [V.str b, V.int k] ∧ (b.length == 0) = false ∧ -(2 ^ 63) ≤ k ∧ k < 2 ^ 63 ∧ a.length + 2 ≤ sizeLine ∧ rNewStrs (Txt.splitMax a b k) H Q) (.str a) vs H Q) [.d (.str b), .d (.int k)] (.list ((Txt.splitMax a b k).map .str)) := fun H0 H ρ ex vs kv Q q => by
  cases kv with
  | cons x t =>
    cases t with
    | cons y t =>
      cases t
      have x : Dp K H0 _ (.str b) := x
      have y : Dp K H0 _ (.int k) := y
      cases x
      cases y
      exact ⟨a, b, k, rfl, rfl, hb, h1, h2, hl, newStrs ex q⟩
theorem c_partition {a b : Str} (hb : (b.length == 0) = false) (hl : a.length ≤ sizeLine) : OpC K (fun vs H Q => (fun x xs H Q => ∃ a b, x = V.str a ∧ xs = [V.str b] ∧ (b.length == 0) = false ∧ a.length ≤ sizeLine ∧ ∀ p, H p = none → Q (.ref p) (upd H p (.tup [.str (Txt.partition a b).1, .str (Txt.partition a b).2.1, .str (Txt.partition a b).2.2]))) (.str a) vs H Q) [.d (.str b)]
    (.tuple [.str (Txt.partition a b).1, .str (Txt.partition a b).2.1, .str (Txt.partition a b).2.2]) := fun H0 H ρ ex vs k Q q => by
  rw [one_str k]
  exact ⟨a, b, rfl, rfl, hb, hl, fun p hp => newT ex hp (.cons (.str _) (.cons (.str _) (.cons (.str _) .nil))) q⟩
theorem c_join {a : Str} {ys : List Str} (hl : (ys.map (·.length)).sum + ys.length * a.length ≤ 16777216) : OpC K (fun vs H Q => (fun x xs H Q => ∃ a p, ∃ ys : List Str, x = V.str a ∧ xs = [V.ref p] ∧ (SqL K H p (ys.map V.str) ∨ SqT K H p (ys.map V.str)) ∧ (ys.map (·.length)).sum + ys.length * a.length ≤ 16777216 ∧ Q (.str (Txt.join a ys)) H) (.str a) vs H Q) [.d (.list (ys.map .str))] (.str (Txt.join a ys)) := fun H0 H ρ ex vs k Q q => by
  cases k with
  | cons x t =>
    cases t
    have x : Dp K H0 _ (.list (ys.map .str)) := x
    cases x with
    | lst hs ha =>
      rw [strs_v ha] at hs
      exact ⟨a, _, ys, rfl, rfl, .inl (Evl.ex_l ex hs), hl, here ex (.str _) q⟩
theorem c_ends {a b : Str} : OpC K (fun vs H Q => (fun x xs H Q => ∃ a b, x = V.str a ∧ xs = [V.str b] ∧ Q (.bl (Txt.endswith a b)) H) (.str a) vs H Q) [.d (.str b)] (.bool (Txt.endswith a b)) := fun H0 H ρ ex vs k Q q => by
  rw [one_str k]
  exact ⟨a, b, rfl, rfl, here ex (.bl _) q⟩
theorem c_starts {a b : Str} : OpC K (fun vs H Q => (fun x xs H Q => ∃ a b, x = V.str a ∧ xs = [V.str b] ∧ Q (.bl (Txt.startswith a b)) H) (.str a) vs H Q) [.d (.str b)] (.bool (Txt.startswith a b)) := fun H0 H ρ ex vs k Q q => by
  rw [one_str k]
  exact ⟨a, b, rfl, rfl, here ex (.bl _) q⟩
theorem c_count {a b : Str} : OpC K (fun vs H Q => (fun x xs H Q => ∃ a b, x = V.str a ∧ xs = [V.str b] ∧ Q (.int (Txt.count a b)) H) (.str a) vs H Q) [.d (.str b)] (.int (Txt.count a b)) := fun H0 H ρ ex vs k Q q => by
  rw [one_str k]
  exact ⟨a, b, rfl, rfl, here ex (.int _) q⟩
theorem c_prefix {a b : Str} (hl : a.length ≤ sizeLine) : OpC K (fun vs H Q => (fun x xs H Q => ∃ a b, x = V.str a ∧ xs = [V.str b] ∧ a.length ≤ sizeLine ∧ Q (.str (Txt.removeprefix a b)) H) (.str a) vs H Q) [.d (.str b)] (.str (Txt.removeprefix a b)) := fun H0 H ρ ex vs k Q q => by
  rw [one_str k]
  exact ⟨a, b, rfl, rfl, hl, here ex (.str _) q⟩
theorem c_strI {i : Int} (h : i.natAbs.log2 < 1920) : OpC K (fun xs H Q => ∃ i, xs = [V.int i] ∧ i.natAbs.log2 < 1920 ∧ Q (.str (toString i)) H) [.d (.int i)] (.str (toString i)) := fun H0 H ρ ex vs k Q q => by
  cases k with
  | cons x t =>
    cases t
    have x : Dp K H0 _ (.int i) := x
    cases x
    exact ⟨i, rfl, h, here ex (.str _) q⟩
theorem c_intS {a : Str} {n : Int} (h : PySem.intText? a = some n) (hl : a.length ≤ 640) : OpC K (fun xs H Q => ∃ a n, xs = [V.str a] ∧ PySem.intText? a = some n ∧ a.length ≤ 640 ∧ Q (.int n) H) [.d (.str a)] (.int n) := fun H0 H ρ ex vs k Q q => by
  rw [one_str k]
  exact ⟨a, n, rfl, h, hl, here ex (.int n) q⟩
theorem o_addS {x y : Str} (h : x.length + y.length ≤ sizeLine) : Op2 K (rAddV K) (.str x) (.str y) (.str (x ++ y)) := o_orR fun H0 H ex v w kv kw Q q => by
  cases kv
  cases kw
  exact ⟨x, y, rfl, rfl, h, here ex (.str _) q⟩
theorem o_addVI {i j : Int} : Op2 K (rAddV K) (.int i) (.int j) (.int (i + j)) := o_orL o_addI
theorem o_addVT {xs ys : List PyData} (hl : xs.length + ys.length ≤ 1000) : Op2 K (rAddV K) (.tuple xs) (.tuple ys) (.tuple (xs ++ ys)) := o_orL (o_addT hl)
theorem o_mulS {x : Str} {n : Int} (h : MulOk x n) : Op2 K (rMulV K) (.str x) (.int n) (.str (Txt.mul x n)) := o_orR fun H0 H ex v w kv kw Q q => by
  cases kv
  cases kw
  exact ⟨x, n, rfl, rfl, h, here ex (.str _) q⟩
theorem o_notIn1 {c : Nat} {z : Str} : Op2 K rNotIn1 (.str ⟨#[c]⟩) (.str z) (.bool (!decide (c ∈ z.cps.toList))) := fun H0 H ex v w kv kw Q q => by
  cases kv
  cases kw
  exact ⟨c, z, rfl, rfl, here ex (.bl _) q⟩
theorem o_ixS {z : Str} {i : Int} {c : Nat} (hl : z.length ≤ sizeLine) (h : atI z.cps.toList i = some c) : Op2 K (rIx K) (.str z) (.int i) (.str ⟨#[c]⟩) := fun H0 H ex v w kv kw Q q => by
  cases kv
  cases kw
  exact .inr (.inr ⟨z, i, c, rfl, rfl, hl, h, here ex (.str _) q⟩)
theorem ev_slS {z : Str} {lo hi : Option Int} {tl th : TO} (h : EvE K te es m (.d (.str z)) m1) (hl : EvO K tl es m1 lo m2) {m3 : M} (hh : EvO K th es m2 hi m3) (hz : z.length ≤ sizeLine) : EvE K (tSl (rSlU K) te tl th) es m (.d (.str (cutS z lo hi))) m3 := fun σ H H0 ρ w e Q q =>
  h σ H H0 ρ w e _ fun v H1 H01 s1 w1 k1 => hl σ H1 H01 ρ w1 (e.mono s1.ex) _ fun H2 H02 s2 w2 => hh σ H2 H02 ρ w2 (e.mono (s1.ex.trans s2.ex)) _ fun H3 H03 s3 w3 => by
    have k1 : Dp K H01 v (.str z) := k1
    cases k1
    exact .inr ⟨z, rfl, hz, q _ H3 H03 ((s1.trans w1.nd s2).trans w2.nd s3) w3 (.str _)⟩
theorem ev_slT {xs : List PyData} {lo hi : Option Int} {tl th : TO} (h : EvE K te es m (.d (.tuple xs)) m1) (hl : EvO K tl es m1 lo m2) {m3 : M} (hh : EvO K th es m2 hi m3) : EvE K (tSl (rSlU K) te tl th) es m (.d (.tuple (DL.cutD xs lo hi))) m3 := fun σ H H0 ρ w e Q q =>
  h σ H H0 ρ w e _ fun v H1 H01 s1 w1 k1 => hl σ H1 H01 ρ w1 (e.mono s1.ex) _ fun H2 H02 s2 w2 => hh σ H2 H02 ρ w2 (e.mono (s1.ex.trans s2.ex)) _ fun H3 H03 s3 w3 => by
    have s4 := (s1.trans w1.nd s2).trans w2.nd s3
    have k1 : Dp K H01 v (.tuple xs) := k1
    cases dp_mono (s2.ex.trans s3.ex) k1 with
    | @tup _ vs _ hs hd =>
      have hl := dpAll_len hd
      refine .inl ⟨_, _, rfl, Evl.ex_t w3.ex hs, fun hw => ?_, fun hw p hp => ?_⟩
      · have e : DL.cutD xs lo hi = xs := by
          unfold DL.cutD
          rw [← hl, hw.1, hw.2, Nat.sub_zero, List.drop_zero, hl, List.take_length]
        rw [e] at q
        exact q _ H3 H03 s4 w3 (.tup hs hd)
      · have hc : DpAll K H03 (cutV vs lo hi) (DL.cutD xs lo hi) := by
          unfold cutV DL.cutD
          rw [hl]
          exact dpAll_take _ (dpAll_drop _ hd)
        obtain ⟨w5, s5⟩ := w3.new (n := ρ.length) (o := .tup (cutV vs lo hi)) hp
        exact q _ _ _ (s4.trans w3.nd s5) w5 (.tup (.inl (.inl upd_same)) (dpAll_mono s5.ex hc))
theorem ev_fmt {y : Str} (h : EvE K te es m (.d (.str y)) m1) (hl : y.length ≤ sizeLine) : EvE K (tFmt te) es m (.d (.str y)) m1 := fun σ H H0 ρ w e Q q =>
  h σ H H0 ρ w e _ fun v H1 H01 s1 w1 k1 => by
    have k1 : Dp K H01 v (.str y) := k1
    cases k1
    exact .inl ⟨y, rfl, hl, q _ H1 H01 s1 w1 (.str y)⟩
/-- the parts of an f-string -/
inductive EvJ (K : PySem.W.Frag) (es : List Sl) (m : M) : List TE → List Str → Prop
  | nil : EvJ K es m [] []
  | cons {t : TE} {ts : List TE} {y : Str} {ys : List Str} : EvE K t es m (.d (.str y)) m → EvJ K es m ts ys → EvJ K es m (t :: ts) (y :: ys)
theorem ev_fs {ts : List TE} {ys : List Str} (h : EvJ K es m ts ys) : ∀ (acc : Str), acc.length + (ys.map (·.length)).sum ≤ sizeLine → EvE K (fun σ H Q => tJs ts acc σ H fun out H1 => Q (.str out) H1) es m (.d (.str (ys.foldl (· ++ ·) acc))) m := by
  induction h with
  | nil => intro acc hl σ H H0 ρ w e Q q; exact q _ H H0 .refl w (.str _)
  | @cons t ts y ys h1 _ ih =>
    intro acc hl σ H H0 ρ w e Q q
    have hl' : acc.length + (y.length + (ys.map (·.length)).sum) ≤ sizeLine := by simpa using hl
    have hay : (acc ++ y).length = acc.length + y.length := by
      rw [TL.len_tl, TL.tl_append, List.length_append, ← TL.len_tl, ← TL.len_tl]
    refine h1 σ H H0 ρ w e _ fun v H1 H01 s1 w1 k1 => ?_
    have k1 : Dp K H01 v (.str y) := k1
    cases k1
    exact ⟨y, rfl, by rw [hay]; omega, ih (acc ++ y) (by rw [hay]; omega) σ H1 H01 ρ w1 (e.mono s1.ex) Q fun v H2 H02 s2 w2 k2 => q v H2 H02 (s1.trans w1.nd s2) w2 k2⟩
theorem gv_lst {n : Nat} {gs : TGs} {is : List Nat} {ds : List PyData} {es1 : List Sl} (h : Gvs K gs is ds es es1) (hn : ds.length = n) : Gv K (gLst K n gs) is (.d (.list ds)) es es1 := fun σ H H0 ρ v ex e k Q q => by
  cases k with
  | lst hs hd => exact ⟨_, _, rfl, Evl.ex_l ex hs, by rw [dpAll_len hd]; exact hn, h σ H H0 ρ _ ex e hd Q q⟩
end
end SX

set_option Elab.async false
set_option linter.all false
set_option maxRecDepth 100000
namespace SX
variable [DL.Tbs]
open PySem PySem.Spec PyProof.Rows L2 HotX L2H LamX DL HX TX
/-! ### one class of errors; values by data -/
def resO (D : Addr) : Option PyData → Res
  | some y => .ok (.d y)
  | none => .exc D
def ExF (K : PySem.W.Frag) (t : VK → XK → L2.St → Hp → Prop) (es : List Sl) (m : M) (D : Addr) : Prop := True
section
variable {K : PySem.W.Frag} {es : List Sl} {m : M} {D : Addr}
theorem x_ok {t : XK → TE} {y : PyData} (h : ∀ E, EvE K (t E) es m (.d y) m) : EvX K t es m (resO D (some y)) m := h
theorem ev_castX {t : XK → TE} {o o2 : Option PyData} (h : EvX K t es m (resO D o) m) (e : o = o2) : EvX K t es m (resO D o2) m := e ▸ h
/-- items of a display, or an error -/
def EaX (K : PySem.W.Frag) (D : Addr) (t : XK → TA) (es : List Sl) (m : M) : Option (List PyData) → Prop
  | some ds => ∀ E, EvA K (t E) es m (ds.map .d) m
  | none => ∀ σ H H0 ρ, Wd K H0 H ρ m → EnvS K H0 ρ σ es → ∀ (Q : List V → Hp → Prop) (E : XK), (∀ H' H0', Stp ρ.length ρ H0 H ρ H0' H' → Wd K H0' H' ρ m → E (.ref D) none H') → t E σ H Q
theorem eax_nil : EaX K D (fun _ => tNil) es m (some []) := fun _ => ea_nil
def consO : Option PyData → Option (List PyData) → Option (List PyData)
  | some y, some ys => some (y :: ys)
  | _, _ => none
theorem eax_cons {a : XK → TE} {t : XK → TA} {o1 : Option PyData} {o2 : Option (List PyData)} (h1 : EvX K a es m (resO D o1) m) (h2 : EaX K D t es m o2) : EaX K D (fun E => tCons (a E) (t E)) es m (consO o1 o2) := by
  cases o1 with
  | none => exact fun σ H H0 ρ w e Q E q => h1 σ H H0 ρ w e _ E q
  | some y =>
    cases o2 with
    | none => exact fun σ H H0 ρ w e Q E q => h1 E σ H H0 ρ w e _ fun v H1 H01 s1 w1 k1 => h2 σ H1 H01 ρ w1 (e.mono s1.ex) _ E fun H' H0' s' w' => q H' H0' (s1.trans w1.nd s') w'
    | some ys => exact fun E => ea_cons (h1 E) (h2 E)
theorem x_tup {t : XK → TA} {o : Option (List PyData)} (h : EaX K D t es m o) (hl : ∀ ds, o = some ds → ds.length ≤ 1000) : EvX K (fun E => tTup (t E)) es m (resO D (o.map .tuple)) m := by
  cases o with
  | none => exact fun σ H H0 ρ w e Q E q => h σ H H0 ρ w e _ E q
  | some ds => exact fun E => ev_tup (h E) rfl (hl ds rfl)
theorem x_ifT {tt : TT} {a b : XK → TE} {r : Res} (h : EvB K tt es m true m) (h1 : EvX K a es m r m) : EvX K (fun E => tIf tt (a E) (b E)) es m r m := by
  cases r with
  | ok r => exact fun E => ev_ifT h (h1 E)
  | exc D => exact fun σ H H0 ρ w e Q E q => h σ H H0 ρ w e _ fun H1 H01 s1 w1 => iteT (h1 σ H1 H01 ρ w1 (e.mono s1.ex) Q E fun H' H0' s' w' => q H' H0' (s1.trans w1.nd s') w')
theorem x_ifF {tt : TT} {a b : XK → TE} {r : Res} (h : EvB K tt es m false m) (h1 : EvX K b es m r m) : EvX K (fun E => tIf tt (a E) (b E)) es m r m := by
  cases r with
  | ok r => exact fun E => ev_ifF h (h1 E)
  | exc D => exact fun σ H H0 ρ w e Q E q => h σ H H0 ρ w e _ fun H1 H01 s1 w1 => iteF (h1 σ H1 H01 ρ w1 (e.mono s1.ex) Q E fun H' H0' s' w' => q H' H0' (s1.trans w1.nd s') w')
theorem sx_asg {n : Nat} {t : XK → TE} {g : XK → TG} (h : EvX K t es m (.exc D) m) : SvX K n (fun E => tAsg (t E) (g E)) es m D m := by
  intro σ H H0 ρ hn w e Dn E q
  exact h σ H H0 ρ w e _ E fun H1 H01 s1 w1 => q ρ H1 H01 [] s1.low (by rw [List.append_nil]; exact w1)
/-! ### pure defs that may raise D -/
def xG (D : Addr) (R : List PyData → Option PyData → Prop) : List Sl → M → Res → M → Prop := fun rs m res m' => m' = m ∧ ∃ ds o, rs = ds.map .d ∧ R ds o ∧ res = resO D o
def BodyO (K : PySem.W.Frag) (D : Addr) (n : Nat) (t : XK → TS) (es : List Sl) (m : M) : Option PyData → Prop
  | some y => ∀ E, Sv K n (t E) es m (.ret (.d y) m)
  | none => SvX K n t es m D m
theorem x_call {R : List PyData → Option PyData → Prop} {n : Nat} {ta : TA} {rs : List Sl} {ds : List PyData} {o : Option PyData} (h : EvA K ta es m rs m) (e : rs = ds.map .d) (hR : R ds o) (hn : ds.length = n) : EvX K (fun E => tCall (spX K n (xG D R)) [] E ta) es m (resO D o) m := by
  subst e
  have hn' : (ds.map Sl.d).length = n := by rw [List.length_map]; exact hn
  cases o with
  | none => exact ex_call h ⟨rfl, ds, none, rfl, hR, rfl⟩ hn'
  | some y => exact fun E => ok_call h ⟨rfl, ds, some y, rfl, hR, rfl⟩ hn'
end
abbrev PureX (P : Program) (w : World) (K : PySem.W.Frag) (mg : Str → Option Value) (base : Heap) (D : Addr) (k : Nat) (x : Str) (ps : List Str) (R : List PyData → Option PyData → Prop) : Prop := DefX P w K mg base k x ps (xG D R)
theorem mkPureX {P : Program} {w : World} {K : PySem.W.Frag} {mg : Str → Option Value} {base : Heap} {D : Addr} {x : Str} {st : Stmt} {N ps : List Str} {k : Nat} {R : List PyData → Option PyData → Prop} (T : DefT K mg x st ps) (S : FnScope N ps (defScope st))
    (hb : ∀ (f : Addr) (cdv : Value) (A : Around) (outer : List Env) (s : Shared) (H : Hp), Room k (A.deeper (envOfC x (defScope st) s.heap.objs.size f cdv)) →
      ∃ t : XK → TS, (∀ E, PSs (cxOf (L2N.CX P w) P w K mg base N x (defScope st) f cdv A outer s H E) (defBody st) (t E)) ∧ ∀ ds m o, ds.length = ps.length → R ds o → BodyO K D m.length t (ds.map .d ++ List.replicate (N.length - ds.length) .no) m o) : PureX P w K mg base D (k + 1) x ps R := by
  refine mkDefX T S (fun rs m r m' h => ?_) fun f cdv A outer s H hr => ?_
  · obtain ⟨rfl, ds, o, rfl, _, rfl⟩ := h
    refine ⟨rfl, ?_⟩
    cases o <;> rfl
  · obtain ⟨t, h1, h2⟩ := hb f cdv A outer s H hr
    refine ⟨t, h1, ?_⟩
    rintro rs m r m' hl ⟨rfl, ds, o, rfl, hR, rfl⟩
    rw [List.length_map] at hl ⊢
    have q := h2 ds m' o hl hR
    cases o with
    | none => exact q
    | some y => exact .inl q
/-- such a def that is not called -/
theorem neverX {P : Program} {w : World} {K : PySem.W.Frag} {mg : Str → Option Value} {base : Heap} {D : Addr} {x : Str} {st : Stmt} {ps : List Str} (T : DefT K mg x st ps) : PureX P w K mg base D 0 x ps (fun _ _ => False) := by
  obtain ⟨f, fd, F, hm, hB⟩ := T.ex
  refine ⟨f, fd, ⟨fun vs H Q E h => h.1, fun A outer s H args us vs Q E hr he hb hv h => ?_⟩, hm, F.kp, hB⟩
  obtain ⟨_, _, _, _, _, _, _, _, _, ⟨_, _, _, _, h, _⟩, _⟩ := h
  exact h.elim
section
variable {K : PySem.W.Frag} {es : List Sl} {m m1 m2 : M} {D : Addr} {te : TE} {tt : TT}
/-- el_lc for long lists -/
theorem el_lcB {wi : TI} {g : TG} {vs : List Nat} {ds rs : List PyData} (hi : EvI K wi es m ds m1) (h : LcR K g tt te (wipeS es vs) vs ds m1 rs m2) (hl : ds.length < sizeLine) : EvL K (tLc wi g tt te vs) es m rs m2 := fun σ H H0 ρ w e Q q =>
  hi σ H H0 ρ w e _ fun J H1 H01 s1 w1 it => fun D hD => by
    have hD0 : H D = none := s1.dom D hD
    have hDρ : D ∉ ρ := w1.notin hD
    refine ⟨fun i k H2 => k = ds.length - i ∧ i ≤ ds.length ∧ ∃ acc va rs1 m3 H02, rs = acc ++ rs1 ∧ acc.length ≤ i ∧ LcR K g tt te (wipeS es vs) vs (ds.drop i) m3 rs1 m2 ∧ Stp ρ.length ρ H0 H ρ H02 H2 ∧ Wd K H02 H2 ρ m3 ∧ EnvS K H02 ρ σ es ∧ ItOk K J H02 ds ∧ H02 D = none ∧ H2 D = some (.lst va) ∧ DpAll K H02 va acc,
      ⟨ds.length, by omega, Nat.zero_le _, [], [], rs, m1, H01, rfl, Nat.le_refl _, h, s1.off hD0, w1.off (Evl.fresh_back w1.ex hD) hDρ (.inl hD), e.mono s1.ex, it, Evl.fresh_back w1.ex hD, upd_same, .nil⟩, fun i k H2 hW => ?_⟩
    obtain ⟨rfl, hle, acc, va, rs1, m3, H02, er, hacc, fr, s2, w2, e2, it2, d0, d2, da⟩ := hW
    obtain ⟨g1, g2, g3⟩ := it2 i H2 w2.ex
    by_cases hlt : i < ds.length
    · refine .inr ⟨g1 hlt, ?_⟩
      have hd : ds[i]? = some ds[i] := List.getElem?_eq_getElem hlt
      rw [drop_cons hd] at fr
      have fin : ∀ {x H'}, J.yld i H2 x H' → H' = H2 ∧ Dp K H02 x ds[i] := fun {x H'} y => by
        obtain ⟨e1, d, q1, q2⟩ := g3 x H' hlt y
        rw [hd] at q1
        cases q1
        exact ⟨e1, q2⟩
      have hvl := dpAll_len da
      cases fr with
      | @yes _ _ es3 _ m4 m5 _ r rs2 is hg hiv hb he hr =>
        refine ⟨fun H' => ∃ va' H04, Stp ρ.length ρ H0 H ρ H04 H' ∧ Wd K H04 H' ρ m5 ∧ EnvS K H04 ρ σ es ∧ ItOk K J H04 ds ∧ H04 D = none ∧ H' D = some (.lst va') ∧ DpAll K H04 va' (acc ++ [r]),
          fun H' ⟨va', H04, s4, w4, e4, it4, z0, z1, z2⟩ => ⟨ds.length - (i + 1), by omega, rfl, hlt, acc ++ [r], va', rs2, m5, H04, by rw [er, List.append_assoc]; rfl, by rw [List.length_append, List.length_singleton]; omega, hr, s4, w4, e4, it4, z0, z1, z2⟩, fun x H' y => ?_⟩
        obtain ⟨rfl, kx⟩ := fin y
        refine hg _ _ H02 ρ x w2.ex (e2.wipe vs) kx _ fun σ3 e3 hw => ⟨by rw [hw vs hiv, wipe_wipe], ?_⟩
        refine hb σ3 _ H02 ρ w2 e3 _ fun H3 H03 s3 w3 => ?_
        refine iteT (he σ3 H3 H03 ρ w3 (e3.mono s3.ex) _ fun y H4 H04 s4 w4 ky => ?_)
        have s5 := s3.trans w3.nd s4
        obtain ⟨k1, k2⟩ := keepD hDρ d0 d2 s5
        refine ⟨va, k2, by omega, va ++ [y], H04, (s2.trans w2.nd s5).off hD0, w4.off k1 hDρ (.inr ⟨_, k2⟩), e2.mono s5.ex, it2.mono s5.ex, k1, upd_same, dpAll_app (dpAll_mono s5.ex da) (.cons ky .nil)⟩
      | @not _ _ es3 _ m4 _ _ is hg hiv hb hr =>
        refine ⟨fun H' => ∃ H04, Stp ρ.length ρ H0 H ρ H04 H' ∧ Wd K H04 H' ρ m4 ∧ EnvS K H04 ρ σ es ∧ ItOk K J H04 ds ∧ H04 D = none ∧ H' D = some (.lst va) ∧ DpAll K H04 va acc,
          fun H' ⟨H04, s4, w4, e4, it4, z0, z1, z2⟩ => ⟨ds.length - (i + 1), by omega, rfl, hlt, acc, va, rs1, m4, H04, er, by omega, hr, s4, w4, e4, it4, z0, z1, z2⟩, fun x H' y => ?_⟩
        obtain ⟨rfl, kx⟩ := fin y
        refine hg _ _ H02 ρ x w2.ex (e2.wipe vs) kx _ fun σ3 e3 hw => ⟨by rw [hw vs hiv, wipe_wipe], ?_⟩
        refine hb σ3 _ H02 ρ w2 e3 _ fun H3 H03 s3 w3 => ?_
        obtain ⟨k1, k2⟩ := keepD hDρ d0 d2 s3
        exact iteF ⟨H03, s2.trans w2.nd s3, w3, e2.mono s3.ex, it2.mono s3.ex, k1, k2, dpAll_mono s3.ex da⟩
    · have ei : i = ds.length := by omega
      subst ei
      rw [List.drop_length] at fr
      cases fr with
      | nil =>
        refine .inl ⟨g2 (Nat.le_refl _), ?_⟩
        rw [List.append_nil] at er
        subst er
        exact q D va H2 H02 s2 w2 hD0 d0 hDρ d2 da
/-- an item of the comprehension raises D -/
theorem x_lcExc {wi : XK → TI} {t : XK → TE} {i : Nat} {f : PyData → Option PyData} {ds : List PyData} (hi : ∀ E, EvI K (wi E) es m ds m) (hl : ds.length < sizeLine) (h : ∀ d, d ∈ ds → EvX K t ((wipeS es [i]).set i (.d d)) m (resO D (f d)) m) (hn : mapO f ds = none) :
    EvX K (fun E => tLc (wi E) (gName i) tYes (t E) [i]) es m (.exc D) m := fun σ H H0 ρ w e Q E qE =>
  hi E σ H H0 ρ w e _ fun J H1 H01 s1 w1 it => fun C hD => by
    have hD0 : H C = none := s1.dom C hD
    have hDρ : C ∉ ρ := w1.notin hD
    refine ⟨fun j k H2 => k = ds.length - j ∧ j ≤ ds.length ∧ mapO f (ds.drop j) = none ∧ ∃ acc va H02, acc.length ≤ j ∧ Stp ρ.length ρ H0 H ρ H02 H2 ∧ Wd K H02 H2 ρ m ∧ EnvS K H02 ρ σ es ∧ ItOk K J H02 ds ∧ H02 C = none ∧ H2 C = some (.lst va) ∧ DpAll K H02 va acc,
      ⟨ds.length, by omega, Nat.zero_le _, hn, [], [], H01, Nat.le_refl _, s1.off hD0, w1.off (Evl.fresh_back w1.ex hD) hDρ (.inl hD), e.mono s1.ex, it, Evl.fresh_back w1.ex hD, upd_same, .nil⟩, fun j k H2 hW => ?_⟩
    obtain ⟨rfl, hle, hm, acc, va, H02, hacc, s2, w2, e2, it2, d0, d2, da⟩ := hW
    obtain ⟨g1, g2, g3⟩ := it2 j H2 w2.ex
    by_cases hlt : j < ds.length
    · refine .inr ⟨g1 hlt, ?_⟩
      have hd : ds[j]? = some ds[j] := List.getElem?_eq_getElem hlt
      rw [drop_cons hd] at hm
      have fin : ∀ {x H'}, J.yld j H2 x H' → H' = H2 ∧ Dp K H02 x ds[j] := fun {x H'} y => by
        obtain ⟨e1, d, q1, q2⟩ := g3 x H' hlt y
        rw [hd] at q1
        cases q1
        exact ⟨e1, q2⟩
      have hvl := dpAll_len da
      have hx := h ds[j] (List.getElem_mem hlt)
      cases hf : f ds[j] with
      | none =>
        rw [hf] at hx
        refine ⟨fun _ => False, fun _ z => z.elim, fun x H' y => ?_⟩
        obtain ⟨rfl, kx⟩ := fin y
        refine gv_name (r := .d ds[j]) _ _ H02 ρ x w2.ex (e2.wipe [i]) kx _ fun σ3 e3 hw => ⟨by rw [hw [i] (fun _ h => h), wipe_wipe], ?_⟩
        refine eb_yes σ3 _ H02 ρ w2 e3 _ fun H3 H03 s3 w3 => ?_
        exact iteT (hx σ3 H3 H03 ρ w3 (e3.mono s3.ex) _ E fun H4 H04 s4 w4 => qE H4 H04 ((s2.trans w2.nd s3).trans w3.nd s4) w4)
      | some r =>
        rw [hf] at hx
        have hm2 : mapO f (ds.drop (j + 1)) = none := by
          unfold mapO at hm
          rw [hf] at hm
          cases hz : mapO f (ds.drop (j + 1)) with
          | none => rfl
          | some _ => rw [hz] at hm; cases hm
        refine ⟨fun H' => ∃ va' H04, Stp ρ.length ρ H0 H ρ H04 H' ∧ Wd K H04 H' ρ m ∧ EnvS K H04 ρ σ es ∧ ItOk K J H04 ds ∧ H04 C = none ∧ H' C = some (.lst va') ∧ DpAll K H04 va' (acc ++ [r]),
          fun H' ⟨va', H04, s4, w4, e4, it4, z0, z1, z2⟩ => ⟨ds.length - (j + 1), by omega, rfl, hlt, hm2, acc ++ [r], va', H04, by rw [List.length_append, List.length_singleton]; omega, s4, w4, e4, it4, z0, z1, z2⟩, fun x H' y => ?_⟩
        obtain ⟨rfl, kx⟩ := fin y
        refine gv_name (r := .d ds[j]) _ _ H02 ρ x w2.ex (e2.wipe [i]) kx _ fun σ3 e3 hw => ⟨by rw [hw [i] (fun _ h => h), wipe_wipe], ?_⟩
        refine eb_yes σ3 _ H02 ρ w2 e3 _ fun H3 H03 s3 w3 => ?_
        refine iteT (hx E σ3 H3 H03 ρ w3 (e3.mono s3.ex) _ fun y H4 H04 s4 w4 ky => ?_)
        have s5 := s3.trans w3.nd s4
        obtain ⟨k1, k2⟩ := keepD hDρ d0 d2 s5
        exact ⟨va, k2, by omega, va ++ [y], H04, (s2.trans w2.nd s5).off hD0, w4.off k1 hDρ (.inr ⟨_, k2⟩), e2.mono s5.ex, it2.mono s5.ex, k1, upd_same, dpAll_app (dpAll_mono s5.ex da) (.cons ky .nil)⟩
    · have ei : j = ds.length := by omega
      subst ei
      rw [List.drop_length] at hm
      cases hm
theorem lcMapO {i : Nat} {esw : List Sl} {f : PyData → Option PyData} : ∀ {ds rs : List PyData}, (∀ d, d ∈ ds → ∀ y, f d = some y → EvE K te (esw.set i (.d d)) m (.d y) m) → mapO f ds = some rs → LcR K (gName i) tYes te esw [i] ds m rs m
  | [], rs, _, h => by cases h; exact .nil
  | d :: ds, rs, hf, h => by
    obtain ⟨b, r', e1, e2, rfl⟩ := mapO_cons h
    exact .yes gv_name (fun j hj => hj) eb_yes (hf d List.mem_cons_self b e1) (lcMapO (fun d hd => hf d (List.mem_cons_of_mem _ hd)) e2)
abbrev rTupC (K : PySem.W.Frag) : List V → Hp → VK → Prop := fun xs H Q => ∃ p ys, xs = [.ref p] ∧ ((SqL K H p ys ∧ ∀ l, H l = none → Q (.ref l) (upd H l (.tup ys))) ∨ (SqT K H p ys ∧ Q (.ref p) H))
/-- tuple([.. for x in ..]), an item of which may raise D -/
theorem x_tupMap {wi : XK → TI} {t : XK → TE} {i : Nat} {f : PyData → Option PyData} {ds : List PyData} (hi : ∀ E, EvI K (wi E) es m ds m) (hl : ds.length < sizeLine) (h : ∀ d, d ∈ ds → EvX K t ((wipeS es [i]).set i (.d d)) m (resO D (f d)) m) :
    EvX K (fun E => tCB (rTupC K) (tCons (tLc (wi E) (gName i) tYes (t E) [i]) tNil)) es m (resO D ((mapO f ds).map .tuple)) m := by
  cases hm : mapO f ds with
  | none =>
    have z := x_lcExc hi hl h hm
    exact fun σ H H0 ρ w e Q E q => z σ H H0 ρ w e (fun x H1 => tNil σ H1 fun xs H2 => rTupC K (x :: xs) H2 Q) E q
  | some rs =>
    refine fun E => ev_cb (arg1 (el_d (el_lcB (hi E) (lcMapO (fun d hd y hy => ?_) hm) hl))) c_tupL
    have z := h d hd
    rw [hy] at z
    exact z E
/-- what is walked raises D -/
theorem x_tupMapI {ti t : XK → TE} {g : TG} {vs : List Nat} (h : EvX K ti es m (.exc D) m) : EvX K (fun E => tCB (rTupC K) (tCons (tLc (iSeq K (ti E)) g tYes (t E) vs) tNil)) es m (.exc D) m :=
  fun σ H H0 ρ w e Q E q => .inr (h σ H H0 ρ w e _ E q)
end
end SX

set_option Elab.async false
set_option linter.all false
set_option maxRecDepth 100000
namespace SX
variable [DL.Tbs]
open PySem PySem.Spec PyProof.Rows L2 HotX L2H LamX DL HX TX
theorem mk_len (l : L) : (mk l).length = l.length := by rw [TL.len_tl]; rfl
theorem join_mk (a : Str) (ys : List Str) : Txt.join a ys = mk (TL.joinL (TL.tl a) (ys.map TL.tl)) := by
  rw [TL.join_eq, ← TL.tl_join, mk_of_tl]
theorem mk_app (a b : L) : mk a ++ mk b = mk (a ++ b) := by
  refine TL.ext_tl ?_
  rw [TL.tl_append]
  rfl
theorem str_mk (s : Str) : s = mk (TL.tl s) := (mk_of_tl s).symm
section
variable {K : PySem.W.Frag} {te ts : TE} {es : List Sl} {m : M}
abbrev rJoin (K : PySem.W.Frag) : V → List V → Hp → VK → Prop := fun x xs H Q => ∃ a p, ∃ ys : List Str, x = V.str a ∧ xs = [V.ref p] ∧ (SqL K H p (ys.map V.str) ∨ SqT K H p (ys.map V.str)) ∧ (ys.map (·.length)).sum + ys.length * a.length ≤ 16777216 ∧ Q (.str (Txt.join a ys)) H
theorem sum_le {α : Type} {f : α → Nat} {B : Nat} : ∀ {xs : List α}, (∀ x, x ∈ xs → f x ≤ B) → (xs.map f).sum ≤ xs.length * B
  | [], _ => by simp
  | x :: xs, h => by
    rw [List.map_cons, List.sum_cons, List.length_cons, Nat.succ_mul]
    have := h x List.mem_cons_self
    have := sum_le fun y hy => h y (List.mem_cons_of_mem _ hy)
    omega
theorem joinL_len {S : L} {B : Nat} : ∀ {ps : List L}, (∀ p, p ∈ ps → p.length ≤ B) → (TL.joinL S ps).length ≤ ps.length * (B + S.length)
  | [], _ => by simp [TL.joinL]
  | [p], h => by
    have := h p List.mem_cons_self
    show p.length ≤ 1 * (B + S.length)
    omega
  | p :: q :: r, h => by
    rw [joinL_cons (by simp), List.length_append, List.length_append, List.length_cons, Nat.succ_mul]
    have := h p List.mem_cons_self
    have := joinL_len (S := S) (ps := q :: r) fun y hy => h y (List.mem_cons_of_mem _ hy)
    omega
/-- sep.join(a list of texts) -/
theorem ev_join {a : Str} {gs : List L} {B : Nat} (hs : EvE K ts es m (.d (.str a)) m) (h : EvE K te es m (.d (.list (gs.map fun g => .str (mk g)))) m) (hB : ∀ g, g ∈ gs → g.length ≤ B) (hl : gs.length * (B + a.length) ≤ 16777216) :
    EvE K (tBM K "str" (rJoin K) ts (tCons te tNil)) es m (.d (.str (mk (TL.joinL (TL.tl a) gs)))) m := by
  have e : (gs.map fun g => PyData.str (mk g)) = (gs.map mk).map PyData.str := by rw [List.map_map]; rfl
  rw [e] at h
  have q := ev_bmS (K := K) (r := rJoin K) hs (arg1 h) (c_join (a := a) (ys := gs.map mk) ?_)
  · have e2 : (gs.map mk).map TL.tl = gs := by rw [List.map_map]; exact (List.map_congr_left fun g _ => tl_of_mk g).trans (List.map_id gs)
    rw [join_mk, e2] at q
    exact q
  · have h1 : ((gs.map mk).map (·.length)).sum ≤ gs.length * B := by
      have e3 : ((gs.map mk).map (·.length)) = gs.map (·.length) := by rw [List.map_map]; exact List.map_congr_left fun g _ => mk_len g
      rw [e3]
      exact sum_le hB
    rw [List.length_map]
    rw [Nat.mul_add] at hl
    omega
/-- sep.join([.. for x in ..]) -/
theorem ev_joinMap {wi : TI} {i : Nat} {ds : List PyData} {g : PyData → L} {a : Str} {B : Nat} (hs : EvE K ts es m (.d (.str a)) m) (hi : EvI K wi es m ds m) (h1 : ds.length ≤ 1000) (h : ∀ d, d ∈ ds → EvE K te ((wipeS es [i]).set i (.d d)) m (.d (.str (mk (g d)))) m)
    (hB : ∀ d, d ∈ ds → (g d).length ≤ B) (hl : ds.length * (B + a.length) ≤ 16777216) : EvE K (tBM K "str" (rJoin K) ts (tCons (tLc wi (gName i) tYes te [i]) tNil)) es m (.d (.str (mk (TL.joinL (TL.tl a) (ds.map g))))) m := by
  have h2 : LcR K (gName i) tYes te (wipeS es [i]) [i] ds m (ds.map fun d => .str (mk (g d))) m := lcMap (by simp) h
  refine ev_join (B := B) hs ?_ (fun p hp => ?_) (by rw [List.length_map]; exact hl)
  · rw [List.map_map]
    exact el_d (el_lc hi h2 h1)
  · obtain ⟨d, hd, rfl⟩ := List.mem_map.mp hp
    exact hB d hd
/-- sep.join(x), x a cell -/
theorem ev_joinC {a : Str} {gs : List L} {B i j : Nat} (hs : EvE K ts es m (.d (.str a)) m) (hi : es[i]? = some (.c j)) (hm : m[j]? = some (gs.map fun g => .str (mk g))) (hB : ∀ g, g ∈ gs → g.length ≤ B) (hl : gs.length * (B + a.length) ≤ 16777216) :
    EvE K (tBM K "str" (rJoin K) ts (tCons (tVar i) tNil)) es m (.d (.str (mk (TL.joinL (TL.tl a) gs)))) m := by
  intro σ H H0 ρ w e Q q
  refine hs σ H H0 ρ w e _ fun v H1 H01 s1 w1 k1 => ?_
  have k1 : Dp K H01 v (.str a) := k1
  cases k1
  rcases (e.mono s1.ex).2 i _ hi with z | ⟨v, h1, p, rfl, h2⟩
  · cases z
  obtain ⟨vs, g1, g2⟩ := cell_get w1 h2 hm
  have e1 : (gs.map fun g => PyData.str (mk g)) = (gs.map mk).map PyData.str := by rw [List.map_map]; rfl
  rw [e1] at g2
  rw [strs_v g2] at g1
  have hlen : ((gs.map mk).map (·.length)).sum + (gs.map mk).length * a.length ≤ 16777216 := by
    have h1 : ((gs.map mk).map (·.length)).sum ≤ gs.length * B := by
      have e3 : ((gs.map mk).map (·.length)) = gs.map (·.length) := by rw [List.map_map]; exact List.map_congr_left fun g _ => mk_len g
      rw [e3]
      exact sum_le hB
    rw [List.length_map]
    rw [Nat.mul_add] at hl
    omega
  have e2 : (gs.map mk).map TL.tl = gs := by rw [List.map_map]; exact (List.map_congr_left fun g _ => tl_of_mk g).trans (List.map_id gs)
  refine ⟨rfl, _, h1, a, p, gs.map mk, rfl, rfl, .inl (.inl (.inl g1)), hlen, ?_⟩
  rw [join_mk, e2]
  exact q _ H1 H01 s1 w1 (.str _)
/-- the last item -/
theorem atI_last {α : Type} {xs : List α} {x : α} (h : xs.getLast? = some x) : atI xs (-1) = some x := by
  cases xs with
  | nil => cases h
  | cons a r =>
    have hl : (a :: r).length = r.length + 1 := rfl
    unfold atI ixN
    rw [if_neg (by decide)]
    have h2 : -((a :: r).length : Int) ≤ -1 := by rw [hl]; omega
    rw [List.getLast?_eq_getElem?] at h
    have e : (-1 + ((a :: r).length : Int)).toNat = (a :: r).length - 1 := by rw [hl]; omega
    rw [if_pos h2, e]
    exact h
theorem dpAll_last {H0 : Hp} : ∀ {vs : List V} {ds : List PyData} {d : PyData}, DpAll K H0 vs ds → ds.getLast? = some d → ∃ v, vs.getLast? = some v ∧ Dp K H0 v d := by
  intro vs ds d h hd
  have hl := dpAll_len h
  rw [List.getLast?_eq_getElem?] at hd
  obtain ⟨v, h1, h2⟩ := dpAll_get' h hd
  exact ⟨v, by rw [List.getLast?_eq_getElem?, hl]; exact h1, h2⟩
theorem o_ixLast {ds : List PyData} {d : PyData} (h : ds.getLast? = some d) : Op2 K (rIx K) (.tuple ds) (.int (-1)) d := fun H0 H ex v w kv kw Q q => by
  cases kw
  cases kv with
  | tup hs hd =>
    obtain ⟨v, hv, k⟩ := dpAll_last hd h
    exact .inr (.inl ⟨_, _, _, v, rfl, rfl, Evl.ex_t ex hs, atI_last hv, here ex k q⟩)
end
end SX

set_option Elab.async false
set_option linter.all false
set_option maxRecDepth 100000
set_option maxHeartbeats 4000000
set_option exponentiation.threshold 2000
namespace K01
variable [DL.Tbs]
open PySem PySem.Spec PyProof.Rows L2 DL HX GX RT SX
theorem eqv_pr (p q : Pr) : PyData.eqv (prD p) (prD q) = decide (p = q) := by
  obtain ⟨a, b⟩ := p
  obtain ⟨c, d⟩ := q
  show (PyData.eqvAll [.int a, .int b] [.int c, .int d]) = _
  simp only [PyData.eqvAll, eqvI, Bool.and_true]
  rw [Bool.eq_iff_iff]
  simp [Prod.ext_iff]
theorem pr_shaped (p : Pr) : SeqAt.shaped (prD p) = true := by
  unfold SeqAt.shaped prD
  simp [PyData.canLay0, PyData.canLayAll0, PyData.depth, PyData.depthAll]
section
variable {P : Program} {w : World} {K : PySem.W.Frag} {mg : Str → Option Value} {base : Heap}
abbrev R_edges : List PyData → PyData → Prop := fun ds y => ∃ l : List Pr, ds = [loD l] ∧ l.length ≤ 100 ∧ y = .list ((edgesP l).map edD)
theorem lc_edges {x0 x1 x2 : Sl} {m : M} : ∀ l : List (Pr × Pr), LcR K (gTup K 2 (gCons (gName 3) (gCons (gName 4) gNil))) (tTest (tOp (rNeU K) (tVar 3) (tVar 4))) (tTup (tCons (tVar 3) (tCons (tVar 4) tNil))) [x0, x1, x2, .no, .no] [3, 4] (l.map edD) m ((l.filter fun x => decide (x.1 ≠ x.2)).map edD) m
  | [] => .nil
  | (s, e) :: r => by
    have ht : EvB K (tTest (tOp (rNeU K) (tVar 3) (tVar 4))) [x0, x1, x2, .d (prD s), .d (prD e)] m (!decide (s = e)) m := by
      have q := eb_test (ev_op (K := K) (es := [x0, x1, x2, .d (prD s), .d (prD e)]) (m := m) (ta := tVar 3) (tb := tVar 4) (ev_var rfl nofun) (ev_var rfl nofun) (o_neD (pr_shaped s) (pr_shaped e)))
      rw [eqv_pr] at q
      exact q
    have g : Gv K (gTup K 2 (gCons (gName 3) (gCons (gName 4) gNil))) ([3] ++ ([4] ++ [])) (.d (edD (s, e))) [x0, x1, x2, .no, .no] [x0, x1, x2, .d (prD s), .d (prD e)] := gv_tup (gvs_cons gv_name (gvs_cons gv_name gvs_nil)) rfl
    by_cases h : s = e
    · rw [List.filter_cons_of_neg (by simpa using h)]
      exact .not (m1 := m) g (by simp) (eb_cast ht (by rw [decide_eq_true h]; rfl)) (lc_edges r)
    · rw [List.filter_cons_of_pos (by simpa using h)]
      exact .yes (m1 := m) (m2 := m) g (by simp) (eb_cast ht (by rw [decide_eq_false h]; rfl)) (ev_tup (ds := [prD s, prD e]) (arg2 (ev_var rfl nofun) (ev_var rfl nofun)) rfl (by simp)) (lc_edges r)
theorem c_edges (b_range : mg "range" = none) (b_len : mg "len" = none) (TD : DefT K mg "edges_of" st_edges_of ["loop"]) : PureC P w K mg base 1 "edges_of" ["loop"] R_edges := by
  refine mkPure TD S_edges_of fun f cdv A outer s H E hr => ?_
  have hu := hr.units
  refine ⟨_, (pss_cons (ps_setLc (i := 1) (by rfl) S_edges_of.nd rfl rfl (sw_true rfl rfl rfl (by decide +kernel)) (own := [("k", 2)]) (pi_range1 (by rfl) b_range (pa_cons (pe_callB (kLen (K := K)) (by rfl) b_len (by decide +kernel) (pa_cons (pv 0) pa_nil)) pa_nil)) (blkOk_by (N := N_edges_of) (sc := defScope st_edges_of) (by decide +kernel)) (fun _ _ _ _ _ => pg_name (i := 2) S_edges_of.nd rfl (by first | exact Or.inl rfl | exact Or.inr rfl)) (fun _ _ _ _ _ => pts_nil) (fun _ _ _ _ _ => (pe_tup (pa_cons (pe_ix (kIx (K := K)) (pv 0) (pe_op op_sub (pv 2) pe_int) (fun _ _ => rfl)) (pa_cons (pe_ix (kIx (K := K)) (pv 0) (pv 2) (fun _ _ => rfl)) pa_nil)))))
      (pss_one (ps_ret (pe_lc (own := [("start", 3), ("end", 4)]) (by rfl) S_edges_of.nd (kSeq (K := K) (pv 1)) (blkOk_by (N := N_edges_of) (sc := defScope st_edges_of) (by decide +kernel)) (fun _ _ _ _ _ => kTupG (K := K) (n := 2) rfl (pgs_cons (pg_name (i := 3) S_edges_of.nd rfl (by first | exact Or.inl rfl | exact Or.inr rfl)) (pgs_cons (pg_name (i := 4) S_edges_of.nd rfl (by first | exact Or.inl rfl | exact Or.inr rfl)) pgs_nil))) (fun _ _ _ _ _ => (pts_one (pt_cmpR (kNe (K := K) hu) (pv 3) (pv 4) (nomark _)))) (fun _ _ _ _ _ => (pe_tup (pa_cons (pv 3) (pa_cons (pv 4) pa_nil)))))))), ?_⟩
  rintro ds m y hl ⟨l, rfl, hn, rfl⟩
  have hlen : EvE K (tCB (fun xs H Q => ∃ x n, xs = [x] ∧ LenV K x H n ∧ Q (.int n) H) (tCons (tVar 0) tNil)) [.d (loD l), .no, .no, .no, .no] m (.d (.int (l.length : Int))) m := ev_cb (arg1 (ev_var rfl nofun)) (c_len (by show some (l.map prD).length = some l.length; rw [List.length_map]))
  have e0 : rangeD 0 ((l.length : Nat) : Int).toNat = (List.range l.length).map fun (k : Nat) => PyData.int (0 + (k : Int)) := by
    unfold rangeD
    rw [Int.toNat_natCast]
  refine sv_seq (es1 := [.d (loD l), .d (.list ((pairsP l).map edD)), .no, .no, .no]) (m1 := m) (sv_set (el_d ?a)) (sv_ret0 (el_d (el_lc (ei_seqL (ev_var rfl nofun)) (lc_edges (pairsP l)) (by rw [List.length_map, pairsP_len]; omega))))
  case a =>
    have q := el_lc (K := K) (vs := [2]) (es := [.d (loD l), .no, .no, .no, .no]) (ei_rng1 (arg1 hlen) (by omega) (by omega)) (lcMap (i := 2) (m := m) (ds := rangeD 0 ((l.length : Nat) : Int).toNat) (te := tTup (tCons (tOp (rIx K) (tVar 0) (tOp (rI0 fun i j => .int (i - j)) (tVar 2) (tC (.int 1)))) (tCons (tOp (rIx K) (tVar 0) (tVar 2)) tNil)))
      (f := fun d => match d with | .int k => ((pairsP l)[k.toNat]?).elim .none edD | _ => .none) (by simp) fun d hd => ?b) (by rw [e0, List.length_map, List.length_range]; omega)
    · have e1 : (rangeD 0 ((l.length : Nat) : Int).toNat).map (fun d => match d with | .int k => ((pairsP l)[k.toNat]?).elim .none edD | _ => .none) = (pairsP l).map edD := by
        rw [e0, List.map_map]
        refine List.ext_getElem? fun k => ?_
        rw [List.getElem?_map, List.getElem?_map]
        by_cases hk : k < l.length
        · have hk2 : k < (pairsP l).length := by rw [pairsP_len]; exact hk
          rw [List.getElem?_range hk, List.getElem?_eq_getElem hk2]
          show some (((pairsP l)[(0 + (k : Int)).toNat]?).elim .none edD) = some (edD ((pairsP l)[k]'hk2))
          rw [show (0 + (k : Int)).toNat = k by omega, List.getElem?_eq_getElem hk2]
          rfl
        · rw [List.getElem?_eq_none (by simpa using hk), List.getElem?_eq_none (by rw [pairsP_len]; omega)]
          rfl
      rw [e1] at q
      exact q
    case b =>
      rw [e0] at hd
      obtain ⟨k, hk, rfl⟩ := List.mem_map.mp hd
      have hk := List.mem_range.mp hk
      have g1 : (l.map prD)[k]? = some (prD l[k]) := by rw [List.getElem?_map, List.getElem?_eq_getElem hk]; rfl
      have t1 : EvE K (tOp (rIx K) (tVar 0) (tVar 2)) [.d (loD l), .no, .d (.int (0 + (k : Int))), .no, .no] m (.d (prD l[k])) m := ev_op (ev_var rfl nofun) (ev_var rfl nofun) (o_ixT (j := k) (by omega) g1)
      show EvE K _ [.d (loD l), .no, .d (.int (0 + (k : Int))), .no, .no] m (.d (((pairsP l)[(0 + (k : Int)).toNat]?).elim .none edD)) m
      rw [show (0 + (k : Int)).toNat = k by omega]
      cases k with
      | zero =>
        obtain ⟨x, hx⟩ : ∃ x, l.getLast? = some x := by
          cases l with
          | nil => simp at hk
          | cons a r => exact ⟨_, List.getLast?_eq_some_getLast (List.cons_ne_nil a r)⟩
        have g0 : (l.map prD).getLast? = some (prD x) := by rw [List.getLast?_map, hx]; rfl
        rw [pairsP_zero hx (List.getElem?_eq_getElem hk)]
        exact ev_tup (ds := [prD x, prD l[0]]) (arg2 (ev_op (ev_var rfl nofun) (ev_cast (ev_sub (ev_var (r := .d (.int (0 + ((0 : Nat) : Int)))) rfl nofun) ev_int) rfl) (o_ixLast g0)) t1) rfl (by simp)
      | succ k =>
        have hk' : k < l.length := by omega
        have g0 : (l.map prD)[k]? = some (prD l[k]) := by rw [List.getElem?_map, List.getElem?_eq_getElem hk']; rfl
        rw [pairsP_succ (List.getElem?_eq_getElem hk') (List.getElem?_eq_getElem hk)]
        exact ev_tup (ds := [prD l[k], prD l[k + 1]]) (arg2 (ev_op (ev_var rfl nofun) (ev_sub (ev_var rfl nofun) ev_int) (o_ixT (j := k) (by omega) g0)) t1) rfl (by simp)
end
end K01

set_option Elab.async false
set_option linter.all false
set_option maxRecDepth 100000
set_option maxHeartbeats 4000000
set_option exponentiation.threshold 2000
namespace K01
variable [DL.Tbs]
open PySem PySem.Spec PyProof.Rows L2 DL HX GX RT SX
def rulT (odd : Bool) : Str := if odd = true then "odd" else "turns"
def shD (s : Sh) : PyData := .tuple [.str (rulT s.odd), .tuple (s.loops.map loD)]
def loB (k : Nat) (l : List Pr) : Prop := l.length ≤ 8 ∧ ∀ p, p ∈ l → prB k p
def shB (k : Nat) (s : Sh) : Prop := s.loops.length ≤ 3 ∧ ∀ l, l ∈ s.loops → loB k l
section
variable {P : Program} {w : World} {K : PySem.W.Frag} {mg : Str → Option Value} {base : Heap}
abbrev R_onSh : List PyData → PyData → Prop := fun ds y => ∃ (s : Sh) (t : Spot), ds = [shD s, spD' t] ∧ shB 60 s ∧ spB 90 t ∧ y = .bool (onShP t s)
theorem ev_edges {E : XK} {es : List Sl} {m : M} {ta : TA} {l : List Pr} (h : EvA K ta es m [.d (loD l)] m) (hl : l.length ≤ 8) : EvE K (tCall (spD K 1 (pureG R_edges)) [] E ta) es m (.d (.list ((edgesP l).map edD))) m := ev_pure h (ds := [loD l]) rfl ⟨l, rfl, by omega, rfl⟩ rfl
theorem edges_len (l : List Pr) : (edgesP l).length ≤ l.length := by
  unfold edgesP
  exact Nat.le_trans (List.length_filter_le _ _) (Nat.le_of_eq (pairsP_len l))
theorem lc_onShape {x0 x2 x3 : Sl} {m : M} {t : Spot} (ht : spB 90 t) : ∀ ls : List (List Pr), (∀ l, l ∈ ls → loB 60 l) →
    Lc2R K (gName 4) tYes (iSeq K (tCall (spD K 1 (pureG R_edges)) [] E0 (tCons (tVar 4) tNil))) (gName 5) tYes (tCall (spD K 2 (pureG R_onEdge)) [] E0 (tCons (tVar 5) (tCons (tVar 1) tNil))) [x0, .d (spD' t), x2, x3, .no, .no] [4, 5] [5] (ls.map loD) m ((ls.flatMap fun l => (edgesP l).map fun e => onP t e.1 e.2).map .bool) m
  | [], _ => .nil
  | l :: ls, h => by
    have hl := h l (by simp)
    rw [List.flatMap_cons, List.map_append]
    refine .yes (es2 := [x0, .d (spD' t), x2, x3, .d (loD l), .no]) (ds1 := (edgesP l).map edD) (m1 := m) (m2 := m) (m3 := m) gv_name (by simp) eb_yes (ei_seqL (ev_edges (arg1 (ev_var rfl nofun)) hl.1)) ?_ (lc_onShape ht ls fun s hs => h s (by simp [hs]))
    have q := lcMap (K := K) (i := 5) (vs := [5]) (m := m) (esw := wipeS [x0, .d (spD' t), x2, x3, .d (loD l), .no] [5]) (te := tCall (spD K 2 (pureG R_onEdge)) [] E0 (tCons (tVar 5) (tCons (tVar 1) tNil))) (ds := (edgesP l).map edD) (f := fun d => match d with | .tuple [.tuple [.int a, .int b], .tuple [.int c, .int d]] => .bool (onP t (a, b) (c, d)) | _ => .none) (by simp) fun d hd => by
      obtain ⟨e, he, rfl⟩ := List.mem_map.mp hd
      obtain ⟨e1, e2⟩ := edges_mem he
      exact ev_pure (arg2 (ev_var rfl nofun) (ev_var rfl nofun)) (ds := [edD e, spD' t]) rfl ⟨e, t, rfl, hl.2 _ e1, hl.2 _ e2, ht, rfl⟩ rfl
    rw [List.map_map] at q
    rw [List.map_map]
    exact q
theorem flat_len {f : List Pr → List Bool} {n : Nat} : ∀ ls : List (List Pr), (∀ l, l ∈ ls → (f l).length ≤ n) → (ls.flatMap f).length ≤ ls.length * n
  | [], _ => by simp
  | l :: ls, h => by
    have := h l (by simp)
    have := flat_len ls fun x hx => h x (List.mem_cons_of_mem _ hx)
    rw [List.flatMap_cons, List.length_append, List.length_cons, Nat.succ_mul]
    omega
theorem any_flat {t : Spot} : ∀ ls : List (List Pr), (ls.flatMap fun l => (edgesP l).map fun e => onP t e.1 e.2).any id = ls.any (onLoopP t)
  | [] => rfl
  | l :: ls => by
    rw [List.flatMap_cons, List.any_append, any_flat ls, List.any_cons, List.any_map]
    rfl
theorem c_onShape (b_any : mg "any" = none) (TD : DefT K mg "is_on_shape" st_is_on_shape ["shape", "spot"]) (D_edges_of : PureC P w K mg base 1 "edges_of" ["loop"] R_edges) (D_is_on_edge : PureC P w K mg base 2 "is_on_edge" ["edge", "spot"] R_onEdge) : PureC P w K mg base 3 "is_on_shape" ["shape", "spot"] R_onSh := by
  refine mkPure TD S_is_on_shape fun f cdv A outer s H E hr => ?_
  refine ⟨_, (pss_cons (ps_asg (pv 0) (kTupG (K := K) rfl (pgs_cons (pg_name (i := 2) S_is_on_shape.nd rfl (Or.inl rfl)) (pgs_cons (pg_name (i := 3) S_is_on_shape.nd rfl (Or.inl rfl)) pgs_nil))))
      (pss_one (ps_ret (pe_callB (kAny (K := K) rfl) (by rfl) b_any (by decide +kernel) (pa_cons (pe_lc2 (own := [("loop", 4), ("edge", 5)]) (vs1 := [5]) (by rfl) S_is_on_shape.nd (kSeq (K := K) (pv 3)) (blkOk_by (N := N_is_on_shape) (sc := defScope st_is_on_shape) (by decide +kernel)) (by simp) (fun _ _ _ _ _ => pg_name (i := 4) S_is_on_shape.nd rfl (by first | exact Or.inl rfl | exact Or.inr rfl)) (fun _ _ _ _ _ => pts_nil) (fun _ _ _ _ _ => (kSeq (K := K) (pe_def D_edges_of (hr.mono (by omega)) (by rfl) pass0 (pa_cons (pv 4) pa_nil)))) (fun _ _ _ _ _ => pg_name (i := 5) S_is_on_shape.nd rfl (by first | exact Or.inl rfl | exact Or.inr rfl)) (fun _ _ _ _ _ => pts_nil) (fun _ _ _ _ _ => (pe_def D_is_on_edge (hr.mono (by omega)) (by rfl) pass0 (pa_cons (pv 5) (pa_cons (pv 1) pa_nil))))) pa_nil))))), ?_⟩
  rintro ds m y hl ⟨sh, t, rfl, ⟨h3, hsh⟩, ht, rfl⟩
  refine sv_seq (es1 := [.d (shD sh), .d (spD' t), .d (.str (rulT sh.odd)), .d (.tuple (sh.loops.map loD)), .no, .no]) (m1 := m) (sv_asg (ev_var rfl nofun) (gv_tup (gvs_cons gv_name (gvs_cons gv_name gvs_nil)) rfl)) ?_
  have hn : (sh.loops.flatMap fun l => (edgesP l).map fun e => onP t e.1 e.2).length ≤ 1000 := by
    have := flat_len (f := fun l => (edgesP l).map fun e => onP t e.1 e.2) (n := 8) sh.loops fun l hl => by
      rw [List.length_map]
      exact Nat.le_trans (edges_len l) (hsh l hl).1
    omega
  have q := el_d (el_lc2 (K := K) (vs := [4, 5]) (vs1 := [5]) (es := [.d (shD sh), .d (spD' t), .d (.str (rulT sh.odd)), .d (.tuple (sh.loops.map loD)), .no, .no]) (ei_seqT (m := m) (ev_var (i := 3) rfl nofun)) (lc_onShape ht sh.loops hsh) (by rw [List.length_map]; exact hn))
  refine sv_ret0 (ev_cast (ev_cb (arg1 q) c_any) ?_)
  rw [any_flat]
  rfl
end
end K01

set_option Elab.async false
set_option linter.all false
set_option maxRecDepth 100000
set_option maxHeartbeats 4000000
set_option exponentiation.threshold 2000
namespace K01
variable [DL.Tbs]
open PySem PySem.Spec PyProof.Rows L2 DL HX GX RT SX
section
variable {P : Program} {w : World} {K : PySem.W.Frag} {mg : Str → Option Value} {base : Heap}
theorem sv_aug {n i : Nat} {f : Int → Int → Int} {te : TE} {es : List Sl} {m m1 : M} {a b : Int} (h : es[i]? = some (.d (.int a))) (h2 : EvE K te es m (.d (.int b)) m1) : Sv K n (tAug i te (ipI f)) es m (.nx (es.set i (.d (.int (f a b)))) m1) := fun σ H H0 ρ hn w e D q => by
  rcases e.2 i _ h with z | ⟨v, h1, k⟩
  · cases z
  have k : Dp K H0 v (.int a) := k
  cases k
  exact ⟨_, h1, h2 σ H H0 ρ w e _ fun v H' H0' s' w' k => by
    have k : Dp K H0' v (.int b) := k
    cases k
    exact ⟨_, _, rfl, rfl, q _ ρ H' H0' s'.low w' ((e.mono s'.ex).set (show SlOk K H0' ρ _ (.d (.int (f a b))) from .int _))⟩⟩
theorem forG {n : Nat} {g : TG} {tb : TS} (J : Nat → List Sl → M → Prop) : ∀ (ds : List PyData) (k : Nat) (es : List Sl) (m : M), J k es m →
    (∀ (l : Nat) (d : PyData) (es : List Sl) (m : M), ds[l]? = some d → J (k + l) es m → ∃ is es1, Gv K g is (.d d) es es1 ∧ ∃ es2 m2, Sv K n tb es1 m (.nx es2 m2) ∧ J (k + l + 1) es2 m2) →
    ∃ es' m', ForR K n g tb ds es m (.nx es' m') ∧ J (k + ds.length) es' m'
  | [], k, es, m, h, _ => ⟨es, m, .nil, h⟩
  | d :: ds, k, es, m, h, st => by
    obtain ⟨is, es1, hg, es2, m2, hb, h2⟩ := st 0 d es m rfl h
    obtain ⟨es', m', f, h3⟩ := forG (tb := tb) J ds (k + 1) es2 m2 h2 fun l d' es m hd hj => by
      have q := st (l + 1) d' es m hd (by rw [show k + (l + 1) = k + 1 + l by omega]; exact hj)
      rw [show k + (l + 1) + 1 = k + 1 + l + 1 by omega] at q
      exact q
    refine ⟨es', m', .nx hg hb f, ?_⟩
    rw [List.length_cons, show k + (ds.length + 1) = k + 1 + ds.length by omega]
    exact h3
theorem sv_forG {es : List Sl} {m m1 : M} {n : Nat} {wi : TI} {g : TG} {tb rest : TS} {ds : List PyData} {o : Out} (J : Nat → List Sl → M → Prop) (hi : EvI K wi es m ds m1) (h0 : J 0 es m1)
    (st : ∀ (l : Nat) (d : PyData) (es : List Sl) (m : M), ds[l]? = some d → J l es m → ∃ is es1, Gv K g is (.d d) es es1 ∧ ∃ es2 m2, Sv K n tb es1 m (.nx es2 m2) ∧ J (l + 1) es2 m2)
    (hd : ∀ es m, J ds.length es m → Sv K n rest es m o) : Sv K n (tSeq (tFor wi g tb) rest) es m o := by
  obtain ⟨es', m', f, h⟩ := forG (K := K) (n := n) (g := g) (tb := tb) J ds 0 es m1 h0 (by simpa using st)
  rw [Nat.zero_add] at h
  exact sv_seq (sv_for hi f) (hd es' m' h)
abbrev R_turns : List PyData → PyData → Prop := fun ds y => ∃ (l : List Pr) (t : Spot), ds = [loD l, spD' t] ∧ loB 60 l ∧ spB 90 t ∧ y = .int (countP t l)
theorem eb_chain2 {es : List Sl} {m : M} {ta tb tc : TE} {a b c : Int} {f g : Int → Int → Bool} (h1 : EvE K ta es m (.d (.int a)) m) (h2 : EvE K tb es m (.d (.int b)) m) (h3 : EvE K tc es m (.d (.int c)) m) : EvB K (tTest (tChain (rI0 fun i j => .bl (f i j)) (rI0 fun i j => .bl (g i j)) ta tb tc)) es m (f a b && g b c) m :=
  eb_test (ev_chain h1 h2 o_i0b (fun _ => h3) (fun _ => o_i0b))
theorem turn_and {a b : Bool} {es : List Sl} {m : M} {ta tb : TT} (h1 : EvB K ta es m a m) (h2 : EvB K tb es m b m) : EvB K (tAnd ta tb) es m (a && b) m := eb_and h1 fun _ => h2
theorem c_turns (TD : DefT K mg "count_turns" st_count_turns ["loop", "spot"]) (D_edges_of : PureC P w K mg base 1 "edges_of" ["loop"] R_edges) (D_side_of : PureC P w K mg base 1 "side_of" ["edge", "spot"] R_side) : PureC P w K mg base 2 "count_turns" ["loop", "spot"] R_turns := by
  refine mkPure TD S_count_turns fun f cdv A outer s H E hr => ?_
  refine ⟨_, (pss_cons (ps_asg (pv 1) (kTupG (K := K) rfl (pgs_cons (pg_name (i := 2) S_count_turns.nd rfl (Or.inl rfl)) (pgs_cons (pg_name (i := 3) S_count_turns.nd rfl (Or.inl rfl)) (pgs_cons (pg_name (i := 4) S_count_turns.nd rfl (Or.inl rfl)) pgs_nil)))))
      (pss_cons (ps_set (i := 5) S_count_turns.nd rfl (Or.inl rfl) pe_int)
      (pss_cons (ps_for PassesOwn.never rfl (kSeq (K := K) (pe_def D_edges_of (hr.mono (by omega)) (by rfl) pass0 (pa_cons (pv 0) pa_nil))) (kTupG (K := K) rfl (pgs_cons (pg_name (i := 6) S_count_turns.nd rfl (Or.inl rfl)) (pgs_cons (pg_name (i := 7) S_count_turns.nd rfl (Or.inl rfl)) pgs_nil))) (pss_cons (ps_set (i := 8) S_count_turns.nd rfl (Or.inl rfl) (pe_def D_side_of (hr.mono (by omega)) (by rfl) pass0 (pa_cons (pe_tup (pa_cons (pv 6) (pa_cons (pv 7) pa_nil))) (pa_cons (pv 1) pa_nil))))
      (pss_one (ps_if (PW.pt (pw_and (pt_chain op_le op_lt (pe_op (kMul (K := K)) (pe_ix (kIx (K := K)) (pv 6) pe_int (fun _ _ => rfl)) (pv 4)) (pv 3) (pe_op (kMul (K := K)) (pe_ix (kIx (K := K)) (pv 7) pe_int (fun _ _ => rfl)) (pv 4))) (pw_and1 (pt_cmpR op_gt (pv 8) pe_int (nomark _))))) (pss_one (ps_aug (i := 5) S_count_turns.nd rfl (Or.inl rfl) pe_int ip_add)) (pss_one (ps_if (PW.pt (pw_and (pt_chain op_le op_lt (pe_op (kMul (K := K)) (pe_ix (kIx (K := K)) (pv 7) pe_int (fun _ _ => rfl)) (pv 4)) (pv 3) (pe_op (kMul (K := K)) (pe_ix (kIx (K := K)) (pv 6) pe_int (fun _ _ => rfl)) (pv 4))) (pw_and1 (pt_cmpR op_lt (pv 8) pe_int (nomark _))))) (pss_one (ps_aug (i := 5) S_count_turns.nd rfl (Or.inl rfl) pe_int ip_sub)) pss_nil))))))
      (pss_one (ps_ret (pv 5)))))), ?_⟩
  rintro ds m y hl ⟨l, t, rfl, hlb, ht, rfl⟩
  refine sv_seq (es1 := [.d (loD l), .d (spD' t), .d (.int t.x), .d (.int t.y), .d (.int t.c), .no, .no, .no, .no]) (m1 := m) (sv_asg (ev_var (r := .d (spD' t)) rfl nofun) gv_spot) ?_
  refine sv_seq (es1 := [.d (loD l), .d (spD' t), .d (.int t.x), .d (.int t.y), .d (.int t.c), .d (.int 0), .no, .no, .no]) (m1 := m) (sv_set ev_int) ?_
  refine sv_forG (m1 := m) (ds := (edgesP l).map edD) (fun k es mm => mm = m ∧ ∃ x6 x7 x8, es = [.d (loD l), .d (spD' t), .d (.int t.x), .d (.int t.y), .d (.int t.c), .d (.int (((edgesP l).take k).map fun x => turnP t x.1 x.2).sum), x6, x7, x8]) (ei_seqL (ev_edges (arg1 (ev_var rfl nofun)) hlb.1)) ⟨rfl, _, _, _, rfl⟩ ?st ?fin
  case fin =>
    rintro es mm ⟨rfl, x6, x7, x8, rfl⟩
    rw [List.length_map, List.take_length]
    exact sv_ret0 (ev_var rfl nofun)
  case st =>
    rintro k d es mm hd ⟨rfl, x6, x7, x8, rfl⟩
    rw [List.getElem?_map] at hd
    obtain ⟨⟨sa, ea⟩, he, rfl⟩ := Option.map_eq_some_iff.mp hd
    obtain ⟨m1, m2⟩ := edges_mem (List.mem_of_getElem? he)
    have b1 := hlb.2 _ m1
    have b2 := hlb.2 _ m2
    have hsum : (((edgesP l).take (k + 1)).map fun x => turnP t x.1 x.2).sum = (((edgesP l).take k).map fun x => turnP t x.1 x.2).sum + turnP t sa ea := by
      rw [List.take_add_one, he, List.map_append, List.sum_append]
      simp
    rw [hsum]
    generalize (((edgesP l).take k).map fun x => turnP t x.1 x.2).sum = c
    refine ⟨_, [.d (loD l), .d (spD' t), .d (.int t.x), .d (.int t.y), .d (.int t.c), .d (.int c), .d (prD sa), .d (prD ea), x8], gv_tup (gvs_cons gv_name (gvs_cons gv_name gvs_nil)) rfl, ?_⟩
    refine ex_then (es1 := [.d (loD l), .d (spD' t), .d (.int t.x), .d (.int t.y), .d (.int t.c), .d (.int c), .d (prD sa), .d (prD ea), .d (.int (sideP t sa ea))]) (m1 := mm) (sv_set (ev_pure (arg2 (ev_tup (ds := [prD sa, prD ea]) (arg2 (ev_var rfl nofun) (ev_var rfl nofun)) rfl (by simp)) (ev_var rfl nofun)) (ds := [edD (sa, ea), spD' t]) rfl ⟨(sa, ea), t, rfl, b1, b2, ht, rfl⟩ rfl)) ?_
    have ys : ∀ {i : Nat} {p : Pr}, prB 60 p → ([.d (loD l), .d (spD' t), .d (.int t.x), .d (.int t.y), .d (.int t.c), .d (.int c), .d (prD sa), .d (prD ea), .d (.int (sideP t sa ea))] : List Sl)[i]? = some (.d (prD p)) → EvE K (tOp (rMulU K) (tOp (rIx K) (tVar i) (tC (.int 1))) (tVar 4)) [.d (loD l), .d (spD' t), .d (.int t.x), .d (.int t.y), .d (.int t.c), .d (.int c), .d (prD sa), .d (prD ea), .d (.int (sideP t sa ea))] mm (.d (.int (p.2 * t.c))) mm := fun hb h => ev_mulN (ev_op (ev_var h nofun) ev_int (o_ixT (j := 1) rfl rfl)) (ev_var rfl nofun) hb.2 ht.2.2
    have up := turn_and (eb_chain2 (ys (i := 6) b1 rfl) (ev_var (i := 3) rfl nofun) (ys (i := 7) b2 rfl) (f := fun i j => decide (i ≤ j)) (g := fun i j => decide (i < j))) (eb_test (ev_op (ev_var (i := 8) rfl nofun) (ev_int (i := 0)) (o_i0b (f := fun i j => decide (i > j)))))
    have dn := turn_and (eb_chain2 (ys (i := 7) b2 rfl) (ev_var (i := 3) rfl nofun) (ys (i := 6) b1 rfl) (f := fun i j => decide (i ≤ j)) (g := fun i j => decide (i < j))) (eb_test (ev_op (ev_var (i := 8) rfl nofun) (ev_int (i := 0)) (o_i0b (f := fun i j => decide (i < j)))))
    by_cases h1 : (sa.2 * t.c ≤ t.y ∧ t.y < ea.2 * t.c) ∧ 0 < sideP t sa ea
    · have e : turnP t sa ea = 1 := by unfold turnP; rw [if_pos h1]
      rw [e]
      exact ⟨_, _, sv_ifT (eb_cast up (by simp [h1.1.1, h1.1.2, h1.2])) (sv_aug rfl ev_int), rfl, _, _, _, rfl⟩
    · have hu : EvB K _ _ mm false mm := eb_cast up (by
        rw [Bool.eq_false_iff]
        intro q
        simp only [Bool.and_eq_true, decide_eq_true_eq] at q
        exact h1 ⟨⟨q.1.1, q.1.2⟩, q.2⟩)
      by_cases h2 : (ea.2 * t.c ≤ t.y ∧ t.y < sa.2 * t.c) ∧ sideP t sa ea < 0
      · have e : turnP t sa ea = -1 := by unfold turnP; rw [if_neg h1, if_pos h2]
        rw [e]
        exact ⟨_, _, sv_ifF hu (sv_ifT (eb_cast dn (by simp [h2.1.1, h2.1.2, h2.2])) (sv_aug rfl ev_int)), rfl, _, _, _, rfl⟩
      · have e : turnP t sa ea = 0 := by unfold turnP; rw [if_neg h1, if_neg h2]
        rw [e, Int.add_zero]
        exact ⟨_, _, sv_ifF hu (sv_ifF (eb_cast dn (by
          rw [Bool.eq_false_iff]
          intro q
          simp only [Bool.and_eq_true, decide_eq_true_eq] at q
          exact h2 ⟨⟨q.1.1, q.1.2⟩, q.2⟩)) sv_next), rfl, _, _, _, rfl⟩
end
end K01

set_option Elab.async false
set_option linter.all false
set_option maxRecDepth 100000
set_option maxHeartbeats 4000000
set_option exponentiation.threshold 2000
namespace K01
variable [DL.Tbs]
open PySem PySem.Spec PyProof.Rows L2 DL HX GX RT SX
theorem blkOk_any {N : List Str} {sc scope : Scope} {own : List (Str × Nat)} (h : blkC N { scope with names := [] } scope own = true) : BlkOk N sc scope own := by
  obtain ⟨h1, h2, h3, h4, h5⟩ := blkOk_by h
  exact ⟨h1, h2, h3, fun y hy e => (by rcases h4 y hy e with z | z <;> cases z), h5⟩
theorem lead_nb {m : Mat} {p : Pr} {j k : Nat} (h : matB j m) (hp : prB k p) : prB (j + k + 2) (led m p) := by
  obtain ⟨ha, hb, hc, hd, he, hf⟩ := h
  constructor
  · exact nb_add (nb_add (nb_mul ha hp.1) (nb_mul hc hp.2)) (nb_up he (by omega))
  · exact nb_add (nb_add (nb_mul hb hp.1) (nb_mul hd hp.2)) (nb_up hf (by omega))
theorem place_shB {m : Mat} {s : Sh} {j k : Nat} (h : matB j m) (hs : shB k s) : shB (j + k + 2) (placeSh m s) := by
  obtain ⟨h3, hl⟩ := hs
  refine ⟨by show (s.loops.map _).length ≤ 3; rw [List.length_map]; exact h3, fun l hl' => ?_⟩
  obtain ⟨l0, h0, rfl⟩ := List.mem_map.mp hl'
  refine ⟨by rw [List.length_map]; exact (hl l0 h0).1, fun p hp => ?_⟩
  obtain ⟨q, hq, rfl⟩ := List.mem_map.mp hp
  exact lead_nb h ((hl l0 h0).2 q hq)
section
variable {P : Program} {w : World} {K : PySem.W.Frag} {mg : Str → Option Value} {base : Heap}
abbrev R_inside : List PyData → PyData → Prop := fun ds y => ∃ (s : Sh) (t : Spot), ds = [shD s, spD' t] ∧ shB 60 s ∧ spB 90 t ∧ y = .bool (insideP t s)
theorem c_inside (b_sum : mg "sum" = none) (TD : DefT K mg "is_inside" st_is_inside ["shape", "spot"]) (D_count_turns : PureC P w K mg base 2 "count_turns" ["loop", "spot"] R_turns) : PureC P w K mg base 3 "is_inside" ["shape", "spot"] R_inside := by
  refine mkPure TD S_is_inside fun f cdv A outer s H E hr => ?_
  have hu := hr.units
  refine ⟨_, (pss_cons (ps_asg (pv 0) (kTupG (K := K) rfl (pgs_cons (pg_name (i := 2) S_is_inside.nd rfl (Or.inl rfl)) (pgs_cons (pg_name (i := 3) S_is_inside.nd rfl (Or.inl rfl)) pgs_nil))))
      (pss_cons (ps_set (i := 4) S_is_inside.nd rfl (Or.inl rfl) (pe_callB (kSum (K := K) rfl) (by rfl) b_sum (by decide +kernel) (pa_cons (pe_lc (own := [("loop", 5)]) (by rfl) S_is_inside.nd (kSeq (K := K) (pv 3)) (blkOk_by (N := N_is_inside) (sc := defScope st_is_inside) (by decide +kernel)) (fun _ _ _ _ _ => pg_name (i := 5) S_is_inside.nd rfl (by first | exact Or.inl rfl | exact Or.inr rfl)) (fun _ _ _ _ _ => pts_nil) (fun _ _ _ _ _ => (pe_def D_count_turns (hr.mono (by omega)) (by rfl) pass0 (pa_cons (pv 5) (pa_cons (pv 1) pa_nil))))) pa_nil)))
      (pss_cons (ps_if (pt_cmpR (kEq (K := K) hu) (pv 2) pe_str (nomark _)) (pss_one (ps_ret (pe_cmpR (kEq (K := K) hu) (pe_op op_mod (pv 4) pe_int) pe_int (nomark _)))) pss_nil)
      (pss_one (ps_ret (pe_cmpR (kNe (K := K) hu) (pv 4) pe_int (nomark _))))))), ?_⟩
  rintro ds m y hl ⟨sh, t, rfl, ⟨h3, hsh⟩, ht, rfl⟩
  refine sv_seq (es1 := [.d (shD sh), .d (spD' t), .d (.str (rulT sh.odd)), .d (.tuple (sh.loops.map loD)), .no, .no]) (m1 := m) (sv_asg (ev_var rfl nofun) (gv_tup (gvs_cons gv_name (gvs_cons gv_name gvs_nil)) rfl)) ?_
  have q := lcMap (K := K) (i := 5) (vs := [5]) (m := m) (esw := wipeS [.d (shD sh), .d (spD' t), .d (.str (rulT sh.odd)), .d (.tuple (sh.loops.map loD)), .no, .no] [5]) (te := tCall (spD K 2 (pureG R_turns)) [] E0 (tCons (tVar 5) (tCons (tVar 1) tNil))) (ds := sh.loops.map loD)
    (f := fun d => .int (countP t (match d with | .tuple ps => ps.map (fun p => match p with | .tuple [.int a, .int b] => (a, b) | _ => (0, 0)) | _ => []))) (by simp) fun d hd => by
      obtain ⟨l, hl, rfl⟩ := List.mem_map.mp hd
      have e : (l.map prD).map (fun p => match p with | .tuple [.int a, .int b] => (a, b) | _ => ((0, 0) : Pr)) = l := by
        rw [List.map_map]
        exact (List.map_congr_left fun p _ => rfl).trans (List.map_id l)
      show EvE K _ _ m (.d (.int (countP t ((l.map prD).map (fun p => match p with | .tuple [.int a, .int b] => (a, b) | _ => ((0, 0) : Pr)))))) m
      rw [e]
      exact ev_pure (arg2 (ev_var rfl nofun) (ev_var rfl nofun)) (ds := [loD l, spD' t]) rfl ⟨l, t, rfl, hsh l hl, ht, rfl⟩ rfl
  have e2 : ((sh.loops.map loD).map fun d => PyData.int (countP t (match d with | .tuple ps => ps.map (fun p => match p with | .tuple [.int a, .int b] => (a, b) | _ => ((0, 0) : Pr)) | _ => []))) = (sh.loops.map (countP t)).map .int := by
    rw [List.map_map, List.map_map]
    refine List.map_congr_left fun l _ => ?_
    show PyData.int (countP t ((l.map prD).map _)) = .int (countP t l)
    rw [List.map_map]
    congr 2
    exact (List.map_congr_left fun p _ => rfl).trans (List.map_id l)
  rw [e2] at q
  refine sv_seq (es1 := [.d (shD sh), .d (spD' t), .d (.str (rulT sh.odd)), .d (.tuple (sh.loops.map loD)), .d (.int (sh.loops.map (countP t)).sum), .no]) (m1 := m) (sv_set (ev_cb (arg1 (el_d (el_lc (ei_seqT (ev_var rfl nofun)) q (by rw [List.length_map]; omega)))) c_sum)) ?_
  unfold insideP
  generalize (sh.loops.map (countP t)).sum = c
  have tE := eb_test (ev_op (K := K) (es := [.d (shD sh), .d (spD' t), .d (.str (rulT sh.odd)), .d (.tuple (sh.loops.map loD)), .d (.int c), .no]) (m := m) (ta := tVar 2) (tb := tC (.str "odd")) (ev_var rfl nofun) ev_str o_eqS)
  cases hodd : sh.odd with
  | true =>
    rw [hodd] at tE
    refine sv_ifsT (m1 := m) (eb_cast tE (decide_eq_true rfl)) rfl (sv_ret0 (ev_cast (ev_op (ev_op (ev_var rfl nofun) ev_int (o_mod (by decide))) ev_int o_eqI) (congrArg (fun b => Sl.d (.bool b)) (Bool.beq_eq_decide_eq _ _))))
  | false =>
    rw [hodd] at tE
    refine sv_ifsF (m1 := m) (eb_cast tE (decide_eq_false (by decide +kernel))) (sv_ret0 (ev_cast (ev_op (ev_var rfl nofun) ev_int o_neI) (congrArg (fun b => Sl.d (.bool b)) ?_)))
    show (!(c == 0)) = decide (c ≠ 0)
    rw [Bool.eq_iff_iff]
    simp
abbrev R_place : List PyData → PyData → Prop := fun ds y => ∃ (s : Sh) (m : Mat), ds = [shD s, matD m] ∧ shB 50 s ∧ matB 50 m ∧ y = shD (placeSh m s)
theorem ev_tupMap {wi : TI} {te : TE} {i : Nat} {es : List Sl} {m : M} {ds rs : List PyData} (hi : EvI K wi es m ds m) (h : LcR K (gName i) tYes te (wipeS es [i]) [i] ds m rs m) (hl : ds.length ≤ 1000) : EvE K (tCB (rTupC K) (tCons (tLc wi (gName i) tYes te [i]) tNil)) es m (.d (.tuple rs)) m := ev_cb (arg1 (el_d (el_lc hi h hl))) c_tupL
theorem lcMapF {α : Type} {te : TE} {i : Nat} {vs : List Nat} {esw : List Sl} {m : M} (a : α → PyData) (b : α → PyData) (hi : i ∈ vs) : ∀ {xs : List α}, (∀ x, x ∈ xs → EvE K te (esw.set i (.d (a x))) m (.d (b x)) m) → LcR K (gName i) tYes te esw vs (xs.map a) m (xs.map b) m
  | [], _ => .nil
  | x :: xs, h => .yes gv_name (fun j hj => by rcases List.mem_singleton.mp hj with rfl; exact hi) eb_yes (h x (by simp)) (lcMapF a b hi fun y hy => h y (List.mem_cons_of_mem _ hy))
theorem c_placeShape (b_tuple : mg "tuple" = none) (TD : DefT K mg "place_shape" st_place_shape ["shape", "matrix"]) (D_lead : PureC P w K mg base 1 "lead" ["matrix", "pair"] R_lead) : PureC P w K mg base 2 "place_shape" ["shape", "matrix"] R_place := by
  refine mkPure TD S_place_shape fun f cdv A outer s H E hr => ?_
  refine ⟨_, (pss_cons (ps_asg (pv 0) (kTupG (K := K) rfl (pgs_cons (pg_name (i := 2) S_place_shape.nd rfl (Or.inl rfl)) (pgs_cons (pg_name (i := 3) S_place_shape.nd rfl (Or.inl rfl)) pgs_nil))))
      (pss_one (ps_ret (pe_tup (pa_cons (pv 2) (pa_cons (pe_callTy (kTup (K := K)) (by rfl) b_tuple (by decide +kernel) (pa_cons (pe_lc (own := [("loop", 4)]) (by rfl) S_place_shape.nd (kSeq (K := K) (pv 3)) (blkOk_by (N := N_place_shape) (sc := defScope st_place_shape) (by decide +kernel)) (fun _ _ _ _ _ => pg_name (i := 4) S_place_shape.nd rfl (by first | exact Or.inl rfl | exact Or.inr rfl)) (fun _ _ _ _ _ => pts_nil) (fun _ _ _ _ _ => (pe_callTy (kTup (K := K)) (by rfl) b_tuple (by decide +kernel) (pa_cons (pe_lc (own := [("pair", 5)]) (by rfl) S_place_shape.nd (kSeq (K := K) (pv 4)) (blkOk_by (N := N_place_shape) (sc := relS _ (defScope st_place_shape)) (by decide +kernel)) (fun _ _ _ _ _ => pg_name (i := 5) S_place_shape.nd rfl (by first | exact Or.inl rfl | exact Or.inr rfl)) (fun _ _ _ _ _ => pts_nil) (fun _ _ _ _ _ => (pe_def D_lead (hr.mono (by omega)) (by rfl) pass0 (pa_cons (pv 1) (pa_cons (pv 5) pa_nil))))) pa_nil)))) pa_nil)) pa_nil)))))), ?_⟩
  rintro ds m y hl ⟨sh, mt, rfl, ⟨h3, hsh⟩, hm, rfl⟩
  have hm' : matB 100 mt := ⟨nb_up hm.1 (by decide), nb_up hm.2.1 (by decide), nb_up hm.2.2.1 (by decide), nb_up hm.2.2.2.1 (by decide), nb_up hm.2.2.2.2.1 (by decide), nb_up hm.2.2.2.2.2 (by decide)⟩
  refine sv_seq (es1 := [.d (shD sh), .d (matD mt), .d (.str (rulT sh.odd)), .d (.tuple (sh.loops.map loD)), .no, .no]) (m1 := m) (sv_asg (ev_var rfl nofun) (gv_tup (gvs_cons gv_name (gvs_cons gv_name gvs_nil)) rfl)) ?_
  refine sv_ret0 (ev_cast (ev_tup (ds := [.str (rulT sh.odd), .tuple (sh.loops.map fun l => loD (l.map (led mt)))]) (arg2 (ev_var rfl nofun) (ev_tupMap (ei_seqT (ev_var rfl nofun)) (lcMapF loD (fun l => loD (l.map (led mt))) (by simp) fun l hl => ?_) (by rw [List.length_map]; omega))) rfl (by simp)) ?_)
  · have e : loD (l.map (led mt)) = .tuple (l.map fun p => prD (led mt p)) := by unfold loD; rw [List.map_map]; rfl
    rw [e]
    exact ev_tupMap (ei_seqT (ev_var (r := .d (loD l)) rfl nofun)) (lcMapF prD (fun p => prD (led mt p)) (by simp) fun p hp => ev_pure (arg2 (ev_var rfl nofun) (ev_var rfl nofun)) (ds := [matD mt, prD p]) rfl ⟨mt, p, rfl, hm', ⟨nb_up ((hsh l hl).2 p hp).1 (by decide), nb_up ((hsh l hl).2 p hp).2 (by decide)⟩, rfl⟩ rfl) (by rw [List.length_map]; have := (hsh l hl).1; omega)
  · unfold shD placeSh
    simp only [List.map_map]
    rfl
end
end K01

set_option Elab.async false
set_option linter.all false
set_option maxRecDepth 100000
namespace GX
variable [DL.Tbs]
open PySem PySem.Spec PyProof.Rows L2 DL StX
section
variable {X : Cx} {K : PySem.W.Frag}
theorem kStar {e : Expr} {p : Pos} {es : List Expr} {te : TE} {t : TA} (he : PE X e te) (hr : PA X es t) (hs : starEach (.Starred e p :: es) X.env = (true, eval e X.env) :: starEach es X.env := by rfl) (hK : X.K = K := by rfl) : PA X (.Starred e p :: es) (tStar K te t) := hK ▸ pa_star he hr hs
theorem kStarG {es : List Expr} {k : Nat} {t : TGs} {i : Nat} {pos : Pos} (hc : X.calm = true) (h : PGs X es t)
    (hn : (assignEach es X.env).length = i + 1 := by rfl) (hst : (assignEach es X.env).findIdx? (·.1) = some i := by rfl) (hK : X.K = K := by rfl) : PG X (.Tuple es k pos) (gStar K i t) := hK ▸ pg_star hc h hn hst
end
section
variable {K : PySem.W.Frag} {es : List Sl} {m m1 m2 : M} {te : TE} {ta : TA}
theorem slAll_app {H0 : Hp} {ρ : List Addr} {vs : List V} {ds : List PyData} {us : List V} {rs : List Sl} (h : DpAll K H0 vs ds) (h2 : SlAll K H0 ρ us rs) : SlAll K H0 ρ (vs ++ us) (ds.map .d ++ rs) := by
  induction vs generalizing ds with
  | nil =>
    cases h
    exact h2
  | cons v vs ih =>
    cases h with
    | cons a b => exact .cons a (ih b)
/-- (.., *e, ..): e a tuple or a list -/
theorem ea_starT {ds : List PyData} {rs : List Sl} (h : EvE K te es m (.d (.tuple ds)) m1) (h2 : EvA K ta es m1 rs m2) : EvA K (tStar K te ta) es m (ds.map .d ++ rs) m2 := fun σ H H0 ρ w e Q q =>
  h σ H H0 ρ w e _ fun v H1 H01 s1 w1 k1 => by
    have k1 : Dp K H01 v (.tuple ds) := k1
    cases k1 with
    | tup hs hd => exact ⟨_, _, rfl, .inl (Evl.ex_t w1.ex hs), h2 σ H1 H01 ρ w1 (e.mono s1.ex) _ fun vs H2 H02 s2 w2 k2 => q _ H2 H02 (s1.trans w1.nd s2) w2 (slAll_app (dpAll_mono s2.ex hd) k2)⟩
theorem ea_starL {ds : List PyData} {rs : List Sl} (h : EvE K te es m (.d (.list ds)) m1) (h2 : EvA K ta es m1 rs m2) : EvA K (tStar K te ta) es m (ds.map .d ++ rs) m2 := fun σ H H0 ρ w e Q q =>
  h σ H H0 ρ w e _ fun v H1 H01 s1 w1 k1 => by
    have k1 : Dp K H01 v (.list ds) := k1
    cases k1 with
    | lst hs hd => exact ⟨_, _, rfl, .inr (Evl.ex_l w1.ex hs), h2 σ H1 H01 ρ w1 (e.mono s1.ex) _ fun vs H2 H02 s2 w2 k2 => q _ H2 H02 (s1.trans w1.nd s2) w2 (slAll_app (dpAll_mono s2.ex hd) k2)⟩
/-- a, b, *c = a tuple -/
theorem sv_star {n i j k : Nat} {x y : PyData} {ds : List PyData} (h : EvE K te es m (.d (.tuple (x :: y :: ds))) m1) (hl : ds.length ≤ 100) : Sv K n (tAsg te (gStar K 2 (gCons (gName i) (gCons (gName j) (gCons (gName k) gNil))))) es m (.nx (((es.set i (.d x)).set j (.d y)).set k (.d (.list ds))) m1) := fun σ H H0 ρ hn w e D q =>
  h σ H H0 ρ w e _ fun v H1 H01 s1 w1 k1 => by
    have k1 : Dp K H01 v (.tuple (x :: y :: ds)) := k1
    cases k1 with
    | tup hs ha =>
      cases ha with
      | cons a t =>
        cases t with
        | cons b u =>
          have hu := dpAll_len u
          refine ⟨_, _, rfl, Evl.ex_t w1.ex hs, by simp, by simp; omega, fun D' hD => ?_⟩
          obtain ⟨w5, s5⟩ := w1.new (n := n) (o := .lst _) hD
          refine ⟨_, _, rfl, _, _, rfl, _, _, rfl, rfl, q _ ρ _ _ (s1.low.trans w1.nd s5) w5 ?_⟩
          have e5 := (e.mono s1.ex).mono s5.ex
          exact ((e5.set (show SlOk K _ ρ _ (.d x) from dp_mono s5.ex a)).set (show SlOk K _ ρ _ (.d y) from dp_mono s5.ex b)).set (show SlOk K _ ρ _ (.d (.list ds)) from .lst (.inl (.inl upd_same)) (dpAll_mono s5.ex u))
end
end GX

set_option Elab.async false
set_option linter.all false
set_option maxRecDepth 100000
set_option maxHeartbeats 4000000
set_option exponentiation.threshold 2000
namespace K01
variable [DL.Tbs]
open PySem PySem.Spec PyProof.Rows L2 DL HX GX RT SX
def clipD : Option Sh → PyData
  | none => .none
  | some s => shD s
def plD : Pl → PyData
  | .fill s c o => .tuple [.str "fill", shD s, .tuple (c.map .int), prD o]
  | .rub s o => .tuple [.str "rub", shD s, prD o]
def l1D : L1 → PyData
  | .plain l => plD l
  | .grp ls o c m => .tuple [.str "group", .tuple (ls.map plD), prD o, clipD c, matD m]
def plB (k : Nat) (l : Pl) : Prop := shB k l.sh
def clipB (k : Nat) (c : Option Sh) : Prop := ∀ s, c = some s → shB k s
theorem matB_up {j k : Nat} {m : Mat} (h : matB j m) (e : j ≤ k) : matB k m := ⟨nb_up h.1 e, nb_up h.2.1 e, nb_up h.2.2.1 e, nb_up h.2.2.2.1 e, nb_up h.2.2.2.2.1 e, nb_up h.2.2.2.2.2 e⟩
theorem both_nb {o i : Mat} {j k : Nat} (h : matB j o) (h2 : matB k i) : matB (j + k + 2) (both o i) := by
  obtain ⟨ha, hb, hc, hd, he, hf⟩ := h
  obtain ⟨ia, ib, ic, id, ie, if'⟩ := h2
  have hl := lead_nb (m := o) (p := (i.e, i.f)) ⟨ha, hb, hc, hd, he, hf⟩ ⟨ie, if'⟩
  exact ⟨nb_up (nb_add (nb_mul ha ia) (nb_mul hc ib)) (by omega), nb_up (nb_add (nb_mul hb ia) (nb_mul hd ib)) (by omega), nb_up (nb_add (nb_mul ha ic) (nb_mul hc id)) (by omega), nb_up (nb_add (nb_mul hb ic) (nb_mul hd id)) (by omega), hl.1, hl.2⟩
section
variable {P : Program} {w : World} {K : PySem.W.Frag} {mg : Str → Option Value} {base : Heap}
abbrev R_follow : List PyData → PyData → Prop := fun ds y => ∃ o i : Mat, ds = [matD o, matD i] ∧ matB 20 o ∧ matB 20 i ∧ y = matD (both o i)
theorem gv_six {a b c d e f : Nat} {es : List Sl} {m : Mat} : Gv K (gTup K 6 (gCons (gName a) (gCons (gName b) (gCons (gName c) (gCons (gName d) (gCons (gName e) (gCons (gName f) gNil))))))) ([a] ++ ([b] ++ ([c] ++ ([d] ++ ([e] ++ ([f] ++ [])))))) (.d (matD m)) es ((((((es.set a (.d (.int m.a))).set b (.d (.int m.b))).set c (.d (.int m.c))).set d (.d (.int m.d))).set e (.d (.int m.e))).set f (.d (.int m.f))) :=
  gv_tup (gvs_cons gv_name (gvs_cons gv_name (gvs_cons gv_name (gvs_cons gv_name (gvs_cons gv_name (gvs_cons gv_name gvs_nil)))))) rfl
theorem c_follow (TD : DefT K mg "follow" st_follow ["outer", "inner"]) (D_lead : PureC P w K mg base 1 "lead" ["matrix", "pair"] R_lead) : PureC P w K mg base 2 "follow" ["outer", "inner"] R_follow := by
  refine mkPure TD S_follow fun f cdv A outer s H E hr => ?_
  refine ⟨_, (pss_cons (ps_asg (pv 0) (kTupG (K := K) rfl (pgs_cons (pg_name (i := 2) S_follow.nd rfl (Or.inl rfl)) (pgs_cons (pg_name (i := 3) S_follow.nd rfl (Or.inl rfl)) (pgs_cons (pg_name (i := 4) S_follow.nd rfl (Or.inl rfl)) (pgs_cons (pg_name (i := 5) S_follow.nd rfl (Or.inl rfl)) (pgs_cons (pg_name (i := 6) S_follow.nd rfl (Or.inl rfl)) (pgs_cons (pg_name (i := 6) S_follow.nd rfl (Or.inl rfl)) pgs_nil))))))))
      (pss_cons (ps_asg (pv 1) (kTupG (K := K) rfl (pgs_cons (pg_name (i := 7) S_follow.nd rfl (Or.inl rfl)) (pgs_cons (pg_name (i := 8) S_follow.nd rfl (Or.inl rfl)) (pgs_cons (pg_name (i := 9) S_follow.nd rfl (Or.inl rfl)) (pgs_cons (pg_name (i := 10) S_follow.nd rfl (Or.inl rfl)) (pgs_cons (pg_name (i := 11) S_follow.nd rfl (Or.inl rfl)) (pgs_cons (pg_name (i := 12) S_follow.nd rfl (Or.inl rfl)) pgs_nil))))))))
      (pss_cons (ps_set (i := 13) S_follow.nd rfl (Or.inl rfl) (pe_def D_lead (hr.mono (by omega)) (by rfl) pass0 (pa_cons (pv 0) (pa_cons (pe_tup (pa_cons (pv 11) (pa_cons (pv 12) pa_nil))) pa_nil))))
      (pss_one (ps_ret (pe_tup (pa_cons (pe_op (kAdd (K := K)) (pe_op (kMul (K := K)) (pv 2) (pv 7)) (pe_op (kMul (K := K)) (pv 4) (pv 8))) (pa_cons (pe_op (kAdd (K := K)) (pe_op (kMul (K := K)) (pv 3) (pv 7)) (pe_op (kMul (K := K)) (pv 5) (pv 8))) (pa_cons (pe_op (kAdd (K := K)) (pe_op (kMul (K := K)) (pv 2) (pv 9)) (pe_op (kMul (K := K)) (pv 4) (pv 10))) (pa_cons (pe_op (kAdd (K := K)) (pe_op (kMul (K := K)) (pv 3) (pv 9)) (pe_op (kMul (K := K)) (pv 5) (pv 10))) (GX.kStar (K := K) (pv 13) pa_nil))))))))))), ?_⟩
  rintro ds m y hl ⟨⟨a, b, c, d, e, f⟩, ⟨ia, ib, ic, id, ie, if'⟩, rfl, h, h2, rfl⟩
  have hb := matB_up h (k := 100) (by decide)
  have hb2 := matB_up h2 (k := 100) (by decide)
  obtain ⟨ha, hb', hc, hd, he, hf⟩ := h
  obtain ⟨ja, jb, jc, jd, je, jf⟩ := h2
  refine sv_seq (es1 := [.d (matD ⟨a, b, c, d, e, f⟩), .d (matD ⟨ia, ib, ic, id, ie, if'⟩), .d (.int a), .d (.int b), .d (.int c), .d (.int d), .d (.int f), .no, .no, .no, .no, .no, .no, .no]) (m1 := m) (sv_asg (ev_var (r := .d (matD ⟨a, b, c, d, e, f⟩)) rfl nofun) gv_six) ?_
  refine sv_seq (es1 := [.d (matD ⟨a, b, c, d, e, f⟩), .d (matD ⟨ia, ib, ic, id, ie, if'⟩), .d (.int a), .d (.int b), .d (.int c), .d (.int d), .d (.int f), .d (.int ia), .d (.int ib), .d (.int ic), .d (.int id), .d (.int ie), .d (.int if'), .no]) (m1 := m) (sv_asg (ev_var (r := .d (matD ⟨ia, ib, ic, id, ie, if'⟩)) rfl nofun) gv_six) ?_
  refine sv_seq (es1 := [.d (matD ⟨a, b, c, d, e, f⟩), .d (matD ⟨ia, ib, ic, id, ie, if'⟩), .d (.int a), .d (.int b), .d (.int c), .d (.int d), .d (.int f), .d (.int ia), .d (.int ib), .d (.int ic), .d (.int id), .d (.int ie), .d (.int if'), .d (prD (led ⟨a, b, c, d, e, f⟩ (ie, if')))]) (m1 := m) (sv_set (r := .d (prD (led ⟨a, b, c, d, e, f⟩ (ie, if')))) (ev_pure (arg2 (ev_var rfl nofun) (ev_tup (ds := [.int ie, .int if']) (arg2 (ev_var rfl nofun) (ev_var rfl nofun)) rfl (by simp))) (ds := [matD ⟨a, b, c, d, e, f⟩, prD (ie, if')]) rfl ⟨_, _, rfl, hb, ⟨hb2.2.2.2.2.1, hb2.2.2.2.2.2⟩, rfl⟩ rfl)) ?_
  exact sv_ret0 (ev_tup (ds := [.int (a * ia + c * ib), .int (b * ia + d * ib), .int (a * ic + c * id), .int (b * ic + d * id), .int (led ⟨a, b, c, d, e, f⟩ (ie, if')).1, .int (led ⟨a, b, c, d, e, f⟩ (ie, if')).2])
    (ea_cons (ev_addN (ev_mulN (ev_var rfl nofun) (ev_var rfl nofun) ha ja) (ev_mulN (ev_var rfl nofun) (ev_var rfl nofun) hc jb)) (ea_cons (ev_addN (ev_mulN (ev_var rfl nofun) (ev_var rfl nofun) hb' ja) (ev_mulN (ev_var rfl nofun) (ev_var rfl nofun) hd jb)) (ea_cons (ev_addN (ev_mulN (ev_var rfl nofun) (ev_var rfl nofun) ha jc) (ev_mulN (ev_var rfl nofun) (ev_var rfl nofun) hc jd))
      (ea_cons (ev_addN (ev_mulN (ev_var rfl nofun) (ev_var rfl nofun) hb' jc) (ev_mulN (ev_var rfl nofun) (ev_var rfl nofun) hd jd)) (ea_starT (ds := [.int (led ⟨a, b, c, d, e, f⟩ (ie, if')).1, .int (led ⟨a, b, c, d, e, f⟩ (ie, if')).2]) (ev_var rfl nofun) ea_nil))))) rfl (by simp))
end
end K01

set_option Elab.async false
set_option linter.all false
set_option maxRecDepth 100000
set_option maxHeartbeats 4000000
set_option exponentiation.threshold 2000
namespace K01
variable [DL.Tbs]
open PySem PySem.Spec PyProof.Rows L2 DL HX GX RT SX
theorem shB_up {j k : Nat} {s : Sh} (h : shB j s) (e : j ≤ k) : shB k s := ⟨h.1, fun l hl => ⟨(h.2 l hl).1, fun p hp => ⟨nb_up ((h.2 l hl).2 p hp).1 e, nb_up ((h.2 l hl).2 p hp).2 e⟩⟩⟩
theorem Pl.len3 {l : Pl} (h : l.ok) : True := trivial
section
variable {P : Program} {w : World} {K : PySem.W.Frag} {mg : Str → Option Value} {base : Heap}
abbrev R_pl0 : List PyData → PyData → Prop := fun ds y => ∃ (l : Pl) (m : Mat), ds = [plD l, matD m] ∧ plB 20 l ∧ l.ok ∧ matB 50 m ∧ y = plD (placePl m l)
theorem ev_place {E : XK} {es : List Sl} {m : M} {ta : TA} {s : Sh} {mt : Mat} (h : EvA K ta es m [.d (shD s), .d (matD mt)] m) (hs : shB 20 s) (hm : matB 50 mt) : EvE K (tCall (spD K 2 (pureG R_place)) [] E ta) es m (.d (shD (placeSh mt s))) m := ev_pure h (ds := [shD s, matD mt]) rfl ⟨s, mt, rfl, shB_up hs (by decide), hm, rfl⟩ rfl
theorem c_place0 {R : List PyData → PyData → Prop} {k : Nat} (hk : 2 ≤ k) (TD : DefT K mg "place_layer" st_place_layer ["layer", "matrix"]) (D_place_shape : PureC P w K mg base 2 "place_shape" ["shape", "matrix"] R_place) (D_place_group : PureC P w K mg base k "place_group" ["group", "matrix"] R) : PureC P w K mg base (k + 1) "place_layer" ["layer", "matrix"] R_pl0 := by
  refine mkPure TD S_place_layer fun f cdv A outer s H E hr => ?_
  have hu := hr.units
  refine ⟨_, (pss_cons (ps_if (pt_cmpR (kEq (K := K) hu) (pe_ix (kIx (K := K)) (pv 0) pe_int (fun _ _ => rfl)) pe_str (nomark _)) (pss_one (ps_ret (pe_def D_place_group (hr.mono (by omega)) (by rfl) pass0 (pa_cons (pv 0) (pa_cons (pv 1) pa_nil))))) pss_nil)
      (pss_cons (ps_asg (pv 0) (GX.kStarG (K := K) (i := 2) rfl (pgs_cons (pg_name (i := 2) S_place_layer.nd rfl (Or.inl rfl)) (pgs_cons (pg_name (i := 3) S_place_layer.nd rfl (Or.inl rfl)) (GX.pgs_consS (pg_name (i := 4) S_place_layer.nd rfl (Or.inl rfl)) pgs_nil)))))
      (pss_one (ps_ret (pe_tup (pa_cons (pv 2) (pa_cons (pe_def D_place_shape (hr.mono (by omega)) (by rfl) pass0 (pa_cons (pv 3) (pa_cons (pv 1) pa_nil))) (GX.kStar (K := K) (pv 4) pa_nil)))))))), ?_⟩
  rintro ds m y hl ⟨l, mt, rfl, hb, ho, hm, rfl⟩
  cases l with
  | fill sh c o =>
    have hb : shB 20 sh := hb
    have ho : c.length = 3 := ho
    refine sv_ifsF (m1 := m) (eb_cast (eb_test (ev_op (ev_op (ev_var rfl nofun) ev_int (o_ixT (j := 0) rfl rfl)) ev_str o_eqS)) (decide_eq_false (by decide))) ?_
    refine sv_seq (es1 := [.d (plD (.fill sh c o)), .d (matD mt), .d (.str "fill"), .d (shD sh), .d (.list [.tuple (c.map .int), prD o])]) (m1 := m) (sv_star (ev_var rfl nofun) (by simp)) ?_
    exact sv_ret0 (ev_tup (ds := [.str "fill", shD (placeSh mt sh), .tuple (c.map .int), prD o]) (ea_cons (ev_var rfl nofun) (ea_cons (ev_place (arg2 (ev_var rfl nofun) (ev_var rfl nofun)) hb hm) (ea_starL (ds := [.tuple (c.map .int), prD o]) (ev_var rfl nofun) ea_nil))) rfl (by simp))
  | rub sh o =>
    have hb : shB 20 sh := hb
    refine sv_ifsF (m1 := m) (eb_cast (eb_test (ev_op (ev_op (ev_var rfl nofun) ev_int (o_ixT (j := 0) rfl rfl)) ev_str o_eqS)) (decide_eq_false (by decide))) ?_
    refine sv_seq (es1 := [.d (plD (.rub sh o)), .d (matD mt), .d (.str "rub"), .d (shD sh), .d (.list [prD o])]) (m1 := m) (sv_star (ev_var rfl nofun) (by simp)) ?_
    exact sv_ret0 (ev_tup (ds := [.str "rub", shD (placeSh mt sh), prD o]) (ea_cons (ev_var rfl nofun) (ea_cons (ev_place (arg2 (ev_var rfl nofun) (ev_var rfl nofun)) hb hm) (ea_starL (ds := [prD o]) (ev_var rfl nofun) ea_nil))) rfl (by simp))
abbrev R_pls (α : Type) (toD : α → PyData) (place : Mat → α → α) (ok : α → Prop) (B : Nat) : List PyData → PyData → Prop := fun ds y => ∃ (ls : List α) (m : Mat), ds = [.tuple (ls.map toD), matD m] ∧ ls.length ≤ 4 ∧ (∀ l, l ∈ ls → ok l) ∧ matB B m ∧ y = .tuple (ls.map fun l => toD (place m l))
abbrev R_pls0 : List PyData → PyData → Prop := R_pls Pl plD placePl (fun l => plB 20 l ∧ l.ok) 50
theorem c_places {α : Type} {toD : α → PyData} {place : Mat → α → α} {ok : α → Prop} {B : Nat} {R : List PyData → PyData → Prop} {k : Nat} (b_tuple : mg "tuple" = none) (hR : ∀ l m, ok l → matB B m → R [toD l, matD m] (toD (place m l))) (TD : DefT K mg "place_layers" st_place_layers ["layers", "matrix"]) (D_place_layer : PureC P w K mg base k "place_layer" ["layer", "matrix"] R) :
    PureC P w K mg base (k + 1) "place_layers" ["layers", "matrix"] (R_pls α toD place ok B) := by
  refine mkPure TD S_place_layers fun f cdv A outer s H E hr => ?_
  refine ⟨_, (pss_one (ps_ret (pe_callTy (kTup (K := K)) (by rfl) b_tuple (by decide +kernel) (pa_cons (pe_lc (own := [("layer", 2)]) (by rfl) S_place_layers.nd (kSeq (K := K) (pv 0)) (blkOk_by (N := N_place_layers) (sc := defScope st_place_layers) (by decide +kernel)) (fun _ _ _ _ _ => pg_name (i := 2) S_place_layers.nd rfl (by first | exact Or.inl rfl | exact Or.inr rfl)) (fun _ _ _ _ _ => pts_nil) (fun _ _ _ _ _ => (pe_def D_place_layer (hr.mono (by omega)) (by rfl) pass0 (pa_cons (pv 2) (pa_cons (pv 1) pa_nil))))) pa_nil)))), ?_⟩
  rintro ds m y hl ⟨ls, mt, rfl, h4, hok, hm, rfl⟩
  exact sv_ret0 (ev_tupMap (ei_seqT (ev_var rfl nofun)) (lcMapF toD (fun l => toD (place mt l)) (by simp) fun l hl => ev_pure (arg2 (ev_var rfl nofun) (ev_var rfl nofun)) (ds := [toD l, matD mt]) rfl (hR l mt (hok l hl) hm) rfl) (by rw [List.length_map]; omega))
theorem ev_glob {a : Addr} {d : PyData} {es : List Sl} {m : M} (h : ∀ H, Dp K H (.ref a) d) : EvE K (tC (.ref a)) es m (.d d) m := fun σ H H0 ρ w e Q q => q _ H H0 (Stp.refl) w (h H0)
def g1B (l : L1) : Prop := match l with
  | .plain l => plB 20 l ∧ l.ok
  | .grp ls _ c m => ls.length ≤ 4 ∧ (∀ l, l ∈ ls → plB 20 l ∧ l.ok) ∧ clipB 20 c ∧ matB 10 m
abbrev R_pgroup : List PyData → PyData → Prop := fun ds y => ∃ (ls : List Pl) (o : Pr) (c : Option Sh) (mt m : Mat), ds = [l1D (.grp ls o c mt), matD m] ∧ g1B (.grp ls o c mt) ∧ matB 20 m ∧ y = l1D (place1 m (.grp ls o c mt))
theorem c_pgroup {k : Nat} (hk : 2 ≤ k) (h_SAME_PLACE : ∃ a, mg "SAME_PLACE" = some (.ref a) ∧ ∀ H, Dp K H (.ref a) (matD still)) (TD : DefT K mg "place_group" st_place_group ["group", "matrix"]) (D_follow : PureC P w K mg base 2 "follow" ["outer", "inner"] R_follow) (D_place_shape : PureC P w K mg base 2 "place_shape" ["shape", "matrix"] R_place)
    (D_place_layers : PureC P w K mg base k "place_layers" ["layers", "matrix"] R_pls0) : PureC P w K mg base (k + 1) "place_group" ["group", "matrix"] R_pgroup := by
  refine mkPure TD S_place_group fun f cdv A outer s H E hr => ?_
  have hu := hr.units
  refine ⟨_, (pss_cons (ps_asg (pv 0) (kTupG (K := K) rfl (pgs_cons (pg_name (i := 2) S_place_group.nd rfl (Or.inl rfl)) (pgs_cons (pg_name (i := 3) S_place_group.nd rfl (Or.inl rfl)) (pgs_cons (pg_name (i := 4) S_place_group.nd rfl (Or.inl rfl)) (pgs_cons (pg_name (i := 5) S_place_group.nd rfl (Or.inl rfl)) (pgs_cons (pg_name (i := 6) S_place_group.nd rfl (Or.inl rfl)) pgs_nil)))))))
      (pss_cons (ps_set (i := 7) S_place_group.nd rfl (Or.inl rfl) (pe_def D_follow (hr.mono (by omega)) (by rfl) pass0 (pa_cons (pv 1) (pa_cons (pv 6) pa_nil))))
      (pss_cons (ps_set (i := 8) S_place_group.nd rfl (Or.inl rfl) (pe_ifExp (pt_cmpR op_isN (pv 5) pe_non (nomark _)) pe_non (pe_def D_place_shape (hr.mono (by omega)) (by rfl) pass0 (pa_cons (pv 5) (pa_cons (pv 7) pa_nil)))))
      (pss_one (ps_ret (pe_tup (pa_cons pe_str (pa_cons (pe_def D_place_layers (hr.mono (by omega)) (by rfl) pass0 (pa_cons (pv 3) (pa_cons (pv 7) pa_nil))) (pa_cons (pv 4) (pa_cons (pv 8) (pa_cons (pe_glob (v := .ref h_SAME_PLACE.choose) (by rfl) h_SAME_PLACE.choose_spec.1 rfl) pa_nil))))))))))), ?_⟩
  rintro ds m y hl ⟨ls, o, c, mt, om, rfl, ⟨h4, hls, hc, hmt⟩, hm, rfl⟩
  have hw := both_nb hm hmt
  refine sv_seq (es1 := [.d (l1D (.grp ls o c mt)), .d (matD om), .d (.str "group"), .d (.tuple (ls.map plD)), .d (prD o), .d (clipD c), .d (matD mt), .no, .no]) (m1 := m) (sv_asg (ev_var rfl nofun) (gv_tup (gvs_cons gv_name (gvs_cons gv_name (gvs_cons gv_name (gvs_cons gv_name (gvs_cons gv_name gvs_nil))))) rfl)) ?_
  refine sv_seq (es1 := [.d (l1D (.grp ls o c mt)), .d (matD om), .d (.str "group"), .d (.tuple (ls.map plD)), .d (prD o), .d (clipD c), .d (matD mt), .d (matD (both om mt)), .no]) (m1 := m) (sv_set (ev_pure (arg2 (ev_var rfl nofun) (ev_var rfl nofun)) (ds := [matD om, matD mt]) rfl ⟨om, mt, rfl, hm, matB_up hmt (by decide), rfl⟩ rfl)) ?_
  refine sv_seq (es1 := [.d (l1D (.grp ls o c mt)), .d (matD om), .d (.str "group"), .d (.tuple (ls.map plD)), .d (prD o), .d (clipD c), .d (matD mt), .d (matD (both om mt)), .d (clipD (c.map (placeSh (both om mt))))]) (m1 := m) (sv_set ?clip) ?_
  case clip =>
    cases c with
    | none => exact ev_ifT (eb_cast (eb_test (ev_op (ev_var (r := .d .none) rfl nofun) ev_non o_isN)) rfl) ev_non
    | some sh => exact ev_ifF (eb_cast (eb_test (ev_op (ev_var (r := .d (shD sh)) rfl nofun) ev_non o_isN)) rfl) (ev_place (arg2 (ev_var rfl nofun) (ev_var rfl nofun)) (hc sh rfl) (matB_up hw (by decide)))
  refine sv_ret0 (ev_cast (ev_tup (ds := [.str "group", .tuple (ls.map fun l => plD (placePl (both om mt) l)), prD o, clipD (c.map (placeSh (both om mt))), matD still]) (ea_cons ev_str (ea_cons (ev_pure (arg2 (ev_var rfl nofun) (ev_var rfl nofun)) (ds := [.tuple (ls.map plD), matD (both om mt)]) rfl ⟨ls, both om mt, rfl, h4, hls, matB_up hw (by decide), rfl⟩ rfl) (ea_cons (ev_var rfl nofun) (ea_cons (ev_var rfl nofun) (ea_cons (ev_glob h_SAME_PLACE.choose_spec.2) ea_nil))))) rfl (by simp)) ?_)
  have e : (ls.map (placePl (both om mt))).map plD = ls.map fun l => plD (placePl (both om mt) l) := by rw [List.map_map]; rfl
  show _ = Sl.d (.tuple [.str "group", .tuple ((ls.map (placePl (both om mt))).map plD), prD o, clipD (c.map (placeSh (both om mt))), matD still])
  rw [e]
abbrev R_pls1 : List PyData → PyData → Prop := R_pls L1 l1D place1 g1B 20
abbrev R_pl1 : List PyData → PyData → Prop := fun ds y => ∃ (l : L1) (m : Mat), ds = [l1D l, matD m] ∧ g1B l ∧ matB 20 m ∧ y = l1D (place1 m l)
theorem c_place1 {k : Nat} (hk : 2 ≤ k) (TD : DefT K mg "place_layer" st_place_layer ["layer", "matrix"]) (D_place_shape : PureC P w K mg base 2 "place_shape" ["shape", "matrix"] R_place) (D_place_group : PureC P w K mg base k "place_group" ["group", "matrix"] R_pgroup) : PureC P w K mg base (k + 1) "place_layer" ["layer", "matrix"] R_pl1 := by
  refine mkPure TD S_place_layer fun f cdv A outer s H E hr => ?_
  have hu := hr.units
  refine ⟨_, (pss_cons (ps_if (pt_cmpR (kEq (K := K) hu) (pe_ix (kIx (K := K)) (pv 0) pe_int (fun _ _ => rfl)) pe_str (nomark _)) (pss_one (ps_ret (pe_def D_place_group (hr.mono (by omega)) (by rfl) pass0 (pa_cons (pv 0) (pa_cons (pv 1) pa_nil))))) pss_nil)
      (pss_cons (ps_asg (pv 0) (GX.kStarG (K := K) (i := 2) rfl (pgs_cons (pg_name (i := 2) S_place_layer.nd rfl (Or.inl rfl)) (pgs_cons (pg_name (i := 3) S_place_layer.nd rfl (Or.inl rfl)) (GX.pgs_consS (pg_name (i := 4) S_place_layer.nd rfl (Or.inl rfl)) pgs_nil)))))
      (pss_one (ps_ret (pe_tup (pa_cons (pv 2) (pa_cons (pe_def D_place_shape (hr.mono (by omega)) (by rfl) pass0 (pa_cons (pv 3) (pa_cons (pv 1) pa_nil))) (GX.kStar (K := K) (pv 4) pa_nil)))))))), ?_⟩
  rintro ds m y hl ⟨l, mt, rfl, hb, hm, rfl⟩
  cases l with
  | plain l =>
    obtain ⟨hb, ho⟩ : plB 20 l ∧ l.ok := hb
    cases l with
    | fill sh c o =>
      have hb : shB 20 sh := hb
      refine sv_ifsF (m1 := m) (eb_cast (eb_test (ev_op (ev_op (ev_var (r := .d (plD (.fill sh c o))) rfl nofun) ev_int (o_ixT (j := 0) rfl rfl)) ev_str o_eqS)) (decide_eq_false (by decide))) ?_
      refine sv_seq (es1 := [.d (plD (.fill sh c o)), .d (matD mt), .d (.str "fill"), .d (shD sh), .d (.list [.tuple (c.map .int), prD o])]) (m1 := m) (sv_star (ev_var rfl nofun) (by simp)) ?_
      exact sv_ret0 (ev_tup (ds := [.str "fill", shD (placeSh mt sh), .tuple (c.map .int), prD o]) (ea_cons (ev_var rfl nofun) (ea_cons (ev_place (arg2 (ev_var rfl nofun) (ev_var rfl nofun)) hb (matB_up hm (by decide))) (ea_starL (ds := [.tuple (c.map .int), prD o]) (ev_var rfl nofun) ea_nil))) rfl (by simp))
    | rub sh o =>
      have hb : shB 20 sh := hb
      refine sv_ifsF (m1 := m) (eb_cast (eb_test (ev_op (ev_op (ev_var (r := .d (plD (.rub sh o))) rfl nofun) ev_int (o_ixT (j := 0) rfl rfl)) ev_str o_eqS)) (decide_eq_false (by decide))) ?_
      refine sv_seq (es1 := [.d (plD (.rub sh o)), .d (matD mt), .d (.str "rub"), .d (shD sh), .d (.list [prD o])]) (m1 := m) (sv_star (ev_var rfl nofun) (by simp)) ?_
      exact sv_ret0 (ev_tup (ds := [.str "rub", shD (placeSh mt sh), prD o]) (ea_cons (ev_var rfl nofun) (ea_cons (ev_place (arg2 (ev_var rfl nofun) (ev_var rfl nofun)) hb (matB_up hm (by decide))) (ea_starL (ds := [prD o]) (ev_var rfl nofun) ea_nil))) rfl (by simp))
  | grp ls o c own =>
    exact sv_ifsT (m1 := m) (eb_cast (eb_test (ev_op (ev_op (ev_var (r := .d (l1D (.grp ls o c own))) rfl nofun) ev_int (o_ixT (j := 0) rfl rfl)) ev_str o_eqS)) (decide_eq_true rfl)) rfl (sv_ret0 (ev_pure (arg2 (ev_var rfl nofun) (ev_var rfl nofun)) (ds := [l1D (.grp ls o c own), matD mt]) rfl ⟨ls, o, c, own, mt, rfl, hb, hm, rfl⟩ rfl))
end
end K01

set_option Elab.async false
set_option linter.all false
set_option maxRecDepth 100000
set_option maxHeartbeats 4000000
set_option exponentiation.threshold 2000
namespace K01
variable [DL.Tbs]
open PySem PySem.Spec PyProof.Rows L2 DL HX GX RT SX
def g3 (x y s : Int) : Int := (((x.natAbs.gcd y.natAbs).gcd s.natAbs : Nat) : Int)
def spotM (p : Pt) : Spot := ⟨p.x0 * p.y1 / g3 (p.x0 * p.y1) (p.y0 * p.x1) (p.x1 * p.y1), p.y0 * p.x1 / g3 (p.x0 * p.y1) (p.y0 * p.x1) (p.x1 * p.y1), p.x1 * p.y1 / g3 (p.x0 * p.y1) (p.y0 * p.x1) (p.x1 * p.y1)⟩
theorem g3_pos {x y s : Int} (h : 0 < s) : 0 < g3 x y s := by
  have : 0 < (x.natAbs.gcd y.natAbs).gcd s.natAbs := Nat.gcd_pos_of_pos_right _ (by omega)
  unfold g3
  omega
theorem g3_dvd (x y s : Int) : g3 x y s ∣ x ∧ g3 x y s ∣ y ∧ g3 x y s ∣ s := by
  unfold g3
  refine ⟨?_, ?_, ?_⟩
  · exact Int.ofNat_dvd_left.mpr (Nat.dvd_trans (Nat.gcd_dvd_left _ _) (Nat.gcd_dvd_left _ _))
  · exact Int.ofNat_dvd_left.mpr (Nat.dvd_trans (Nat.gcd_dvd_left _ _) (Nat.gcd_dvd_right _ _))
  · exact Int.ofNat_dvd_left.mpr (Nat.gcd_dvd_right _ _)
theorem g3_le {x y s : Int} (h : 0 < s) : (g3 x y s).natAbs ≤ s.natAbs := by
  unfold g3
  rw [Int.natAbs_natCast]
  exact Nat.le_of_dvd (by omega) (Nat.gcd_dvd_right _ _)
theorem nb_div {k : Nat} {x g : Int} (h : nb k x) : nb k (x / g) := Nat.le_trans (Int.natAbs_ediv_le_natAbs _ _) h
theorem isSpot {p : Pt} (h1 : 0 < p.x1) (h2 : 0 < p.y1) : IsSpot p (spotM p) (g3 (p.x0 * p.y1) (p.y0 * p.x1) (p.x1 * p.y1)) := by
  obtain ⟨d1, d2, d3⟩ := g3_dvd (p.x0 * p.y1) (p.y0 * p.x1) (p.x1 * p.y1)
  exact ⟨g3_pos (Int.mul_pos h1 h2), h1, h2, (Int.mul_ediv_cancel' d1).symm, (Int.mul_ediv_cancel' d2).symm, (Int.mul_ediv_cancel' d3).symm⟩
def ptD (p : Pt) : PyData := .tuple [.tuple [.int p.x0, .int p.x1], .tuple [.int p.y0, .int p.y1]]
def ptB (k : Nat) (p : Pt) : Prop := nb k p.x0 ∧ nb k p.x1 ∧ nb k p.y0 ∧ nb k p.y1
theorem spot_nb {p : Pt} (h : ptB 40 p) : spB 90 (spotM p) := by
  obtain ⟨a, b, c, d⟩ := h
  exact ⟨nb_div (nb_up (nb_mul a d) (by decide)), nb_div (nb_up (nb_mul c b) (by decide)), nb_div (nb_up (nb_mul b d) (by decide))⟩
section
variable {P : Program} {w : World} {K : PySem.W.Frag} {mg : Str → Option Value} {base : Heap}
abbrev R_mkspot : List PyData → PyData → Prop := fun ds y => ∃ a b s : Int, ds = [.int a, .int b, .int s] ∧ 0 < s ∧ nb 100 s ∧ y = spD' ⟨a / g3 a b s, b / g3 a b s, s / g3 a b s⟩
theorem c_mkspot (m_gcd : mg "gcd" = some (.builtin "math.gcd")) (TD : DefT K mg "make_spot" st_make_spot ["x", "y", "scale"]) : PureC P w K mg base 1 "make_spot" ["x", "y", "scale"] R_mkspot := by
  refine mkPure TD S_make_spot fun f cdv A outer s H E hr => ?_
  refine ⟨_, (pss_cons (ps_set (i := 3) S_make_spot.nd rfl (Or.inl rfl) (pe_callBfun GX.cr_gcdN (by rfl) m_gcd (pa_cons (pv 0) (pa_cons (pv 1) (pa_cons (pv 2) pa_nil)))))
      (pss_cons (ps_if (pt_cmpR op_lt (pv 2) pe_int (nomark _)) (pss_one (ps_set (i := 3) S_make_spot.nd rfl (Or.inl rfl) (pe_un un_neg (pv 3)))) pss_nil)
      (pss_one (ps_ret (pe_tup (pa_cons (pe_op op_fdivW (pv 0) (pv 3)) (pa_cons (pe_op op_fdivW (pv 1) (pv 3)) (pa_cons (pe_op op_fdivW (pv 2) (pv 3)) pa_nil)))))))), ?_⟩
  rintro ds m y hl ⟨a, b, sc, rfl, h0, hs, rfl⟩
  have hg := g3_pos (x := a) (y := b) h0
  have hok : ∀ t : Int, CDivW t (g3 a b sc) := fun t => divOk hg (Nat.le_trans (g3_le h0) hs) (by decide)
  refine sv_seq (es1 := [.d (.int a), .d (.int b), .d (.int sc), .d (.int (g3 a b sc))]) (m1 := m) (sv_set (ev_cb (ea_cons (ev_var rfl nofun) (arg2 (ev_var rfl nofun) (ev_var rfl nofun))) c_gcd3)) ?_
  refine sv_ifsF (m1 := m) (eb_cast (eb_test (ev_op (ev_var rfl nofun) ev_int o_i0b)) (decide_eq_false (by omega))) ?_
  exact sv_ret0 (ev_tup (ds := [.int (a / g3 a b sc), .int (b / g3 a b sc), .int (sc / g3 a b sc)]) (ea_cons (ev_op (ev_var rfl nofun) (ev_var rfl nofun) (o_div (hok _))) (arg2 (ev_op (ev_var rfl nofun) (ev_var rfl nofun) (o_div (hok _))) (ev_op (ev_var rfl nofun) (ev_var rfl nofun) (o_div (hok _))))) rfl (by simp))
abbrev R_spotof : List PyData → PyData → Prop := fun ds y => ∃ p : Pt, ds = [ptD p] ∧ 0 < p.x1 ∧ 0 < p.y1 ∧ ptB 40 p ∧ y = spD' (spotM p)
theorem c_spotof (TD : DefT K mg "spot_of" st_spot_of ["point"]) (D_make_spot : PureC P w K mg base 1 "make_spot" ["x", "y", "scale"] R_mkspot) : PureC P w K mg base 2 "spot_of" ["point"] R_spotof := by
  refine mkPure TD S_spot_of fun f cdv A outer s H E hr => ?_
  refine ⟨_, (pss_cons (ps_asg (pv 0) (kTupG (K := K) rfl (pgs_cons (kTupG (K := K) rfl (pgs_cons (pg_name (i := 1) S_spot_of.nd rfl (Or.inl rfl)) (pgs_cons (pg_name (i := 2) S_spot_of.nd rfl (Or.inl rfl)) pgs_nil))) (pgs_cons (kTupG (K := K) rfl (pgs_cons (pg_name (i := 3) S_spot_of.nd rfl (Or.inl rfl)) (pgs_cons (pg_name (i := 4) S_spot_of.nd rfl (Or.inl rfl)) pgs_nil))) pgs_nil))))
      (pss_one (ps_ret (pe_def D_make_spot (hr.mono (by omega)) (by rfl) pass0 (pa_cons (pe_op (kMul (K := K)) (pv 1) (pv 4)) (pa_cons (pe_op (kMul (K := K)) (pv 3) (pv 2)) (pa_cons (pe_op (kMul (K := K)) (pv 2) (pv 4)) pa_nil))))))), ?_⟩
  rintro ds m y hl ⟨⟨x0, x1, y0, y1⟩, rfl, h1, h2, ⟨a, b, c, d⟩, rfl⟩
  refine sv_seq (es1 := [.d (ptD ⟨x0, x1, y0, y1⟩), .d (.int x0), .d (.int x1), .d (.int y0), .d (.int y1)]) (m1 := m) (sv_asg (ev_var (r := .d (edD ((x0, x1), (y0, y1)))) rfl nofun) gv_edge) ?_
  exact sv_ret0 (ev_pure (ea_cons (ev_mulN (ev_var rfl nofun) (ev_var rfl nofun) a d) (arg2 (ev_mulN (ev_var rfl nofun) (ev_var rfl nofun) c b) (ev_mulN (ev_var rfl nofun) (ev_var rfl nofun) b d))) (ds := [.int (x0 * y1), .int (y0 * x1), .int (x1 * y1)]) rfl ⟨x0 * y1, y0 * x1, x1 * y1, rfl, Int.mul_pos h1 h2, nb_up (nb_mul b d) (by decide), rfl⟩ rfl)
end
end K01

set_option Elab.async false
set_option linter.all false
set_option maxRecDepth 100000
set_option maxHeartbeats 4000000
set_option exponentiation.threshold 2000
namespace K01
variable [DL.Tbs]
open PySem PySem.Spec PyProof.Rows L2 DL HX GX RT SX
def vD (v : Vl) : PyData := .tuple (v.map fr)
theorem opq_div {o : Pr} : opq o = Rat.divInt o.1 o.2 := (Rat.divInt_eq_div _ _).symm
theorem fill_div {o : Pr} (h : 0 < o.2) (k : Int) : (k : Rat) * opq o = Rat.divInt (k * o.1) o.2 := by
  rw [Rat.divInt_eq_div, Rat.intCast_mul]
  unfold opq
  rw [Rat.div_def, Rat.div_def, Rat.mul_assoc]
section
variable {P : Program} {w : World} {K : PySem.W.Frag} {mg : Str → Option Value} {base : Heap}
abbrev R_weak : List PyData → PyData → Prop := fun ds y => ∃ (v : Vl) (q : Rat), ds = [vD v, fr q] ∧ v.length ≤ 10 ∧ szV 400 v ∧ sz 400 q ∧ y = vD (mulV v q)
theorem c_weak {k : Nat} (b_tuple : mg "tuple" = none) (TD : DefT K mg "weakened" st_weakened ["value", "fraction"]) (D_times : PureC P w K mg base k "times" ["one", "other"] (R_two (· * ·))) : PureC P w K mg base (k + 1) "weakened" ["value", "fraction"] R_weak := by
  refine mkPure TD S_weakened fun f cdv A outer s H E hr => ?_
  refine ⟨_, (pss_one (ps_ret (pe_callTy (kTup (K := K)) (by rfl) b_tuple (by decide +kernel) (pa_cons (pe_lc (own := [("part", 2)]) (by rfl) S_weakened.nd (kSeq (K := K) (pv 0)) (blkOk_by (N := N_weakened) (sc := defScope st_weakened) (by decide +kernel)) (fun _ _ _ _ _ => pg_name (i := 2) S_weakened.nd rfl (by first | exact Or.inl rfl | exact Or.inr rfl)) (fun _ _ _ _ _ => pts_nil) (fun _ _ _ _ _ => (pe_def D_times (hr.mono (by omega)) (by rfl) pass0 (pa_cons (pv 2) (pa_cons (pv 1) pa_nil))))) pa_nil)))), ?_⟩
  rintro ds m y hl ⟨v, q, rfl, h10, hv, hq, rfl⟩
  refine sv_ret0 (ev_cast (ev_tupMap (ei_seqT (ds := v.map fr) (ev_var rfl nofun)) (lcMapF fr (fun x => fr (x * q)) (by simp) fun x hx => ev_pure (arg2 (ev_var rfl nofun) (ev_var rfl nofun)) (ds := [fr x, fr q]) rfl ⟨x, q, rfl, hv x hx, hq, rfl⟩ rfl) (by rw [List.length_map]; omega)) ?_)
  unfold vD mulV
  rw [List.map_map]
  rfl
abbrev R_laying : List PyData → PyData → Prop := fun ds y => ∃ v : Vl, ds = [vD v] ∧ v.length = 4 ∧ szV 400 v ∧ y = .tuple [vD v, fr (1 - headV v)]
theorem c_laying {k : Nat} (TD : DefT K mg "laying" st_laying ["value"]) (D_rest_of : PureC P w K mg base k "rest_of" ["fraction"] R_rest) : PureC P w K mg base (k + 1) "laying" ["value"] R_laying := by
  refine mkPure TD S_laying fun f cdv A outer s H E hr => ?_
  refine ⟨_, (pss_one (ps_ret (pe_tup (pa_cons (pv 0) (pa_cons (pe_def D_rest_of (hr.mono (by omega)) (by rfl) pass0 (pa_cons (pe_ix (kIx (K := K)) (pv 0) pe_int (fun _ _ => rfl)) pa_nil)) pa_nil))))), ?_⟩
  rintro ds m y hl ⟨v, rfl, h4, hv, rfl⟩
  match v, h4 with
  | a :: r, h4 =>
    exact sv_ret0 (ev_tup (ds := [vD (a :: r), fr (1 - headV (a :: r))]) (arg2 (ev_var rfl nofun) (ev_pure (arg1 (ev_op (ev_var (r := .d (vD (a :: r))) rfl nofun) ev_int (o_ixT (j := 0) rfl rfl))) (ds := [fr a]) rfl (rest_of_fr (hv a (by simp))) rfl)) rfl (by simp))
abbrev R_filled : List PyData → PyData → Prop := fun ds y => ∃ (c : List Int) (o : Pr), ds = [.tuple (c.map .int), prD o] ∧ c.length = 3 ∧ (∀ k, k ∈ c → nb 50 k) ∧ prB 50 o ∧ 0 < o.2 ∧ y = vD (fillV c o)
theorem c_filled {k : Nat} (TD : DefT K mg "filled" st_filled ["colour", "opacity"]) (D_lowest : PureC P w K mg base k "lowest" ["top", "bottom"] R_low) : PureC P w K mg base (k + 1) "filled" ["colour", "opacity"] R_filled := by
  refine mkPure TD S_filled fun f cdv A outer s H E hr => ?_
  refine ⟨_, (pss_cons (ps_asg (pv 1) (kTupG (K := K) rfl (pgs_cons (pg_name (i := 2) S_filled.nd rfl (Or.inr rfl)) (pgs_cons (pg_name (i := 3) S_filled.nd rfl (Or.inr rfl)) pgs_nil))))
      (pss_cons (ps_setLc (i := 4) (by rfl) S_filled.nd rfl rfl (sw_true rfl rfl rfl (by decide +kernel)) (own := [("number", 5)]) (kSeq (K := K) (pv 0)) (blkOk_by (N := N_filled) (sc := defScope st_filled) (by decide +kernel)) (fun _ _ _ _ _ => pg_name (i := 5) S_filled.nd rfl (by first | exact Or.inl rfl | exact Or.inr rfl)) (fun _ _ _ _ _ => pts_nil) (fun _ _ _ _ _ => (pe_def D_lowest (hr.mono (by omega)) (by rfl) pass0 (pa_cons (pe_op (kMul (K := K)) (pv 5) (pv 2)) (pa_cons (pv 3) pa_nil)))))
      (pss_one (ps_ret (pe_tup (pa_cons (pe_def D_lowest (hr.mono (by omega)) (by rfl) pass0 (pa_cons (pv 2) (pa_cons (pv 3) pa_nil))) (GX.kStar (K := K) (pv 4) pa_nil))))))), ?_⟩
  rintro ds m y hl ⟨c, ⟨t, b⟩, rfl, h3, hc, ⟨ht, hb⟩, h0, rfl⟩
  have h0 : 0 < b := h0
  refine sv_seq (es1 := [.d (.tuple (c.map .int)), .d (prD (t, b)), .d (.int t), .d (.int b), .no, .no]) (m1 := m) (sv_asg (ev_var (r := .d (prD (t, b))) rfl nofun) (gv_tup (gvs_cons gv_name (gvs_cons gv_name gvs_nil)) rfl)) ?_
  refine sv_seq (es1 := [.d (.tuple (c.map .int)), .d (prD (t, b)), .d (.int t), .d (.int b), .d (.list (c.map fun (k : Int) => fr ((k : Rat) * opq (t, b)))), .no]) (m1 := m) (sv_set (el_d (el_lc (ei_seqT (ds := c.map .int) (ev_var rfl nofun)) (lcMapF .int (fun (k : Int) => fr ((k : Rat) * opq (t, b))) (by simp) fun k hk => ?_) (by rw [List.length_map]; omega)))) ?_
  · refine ev_pure (arg2 (ev_mulN (ev_var rfl nofun) (ev_var rfl nofun) (hc k hk) ht) (ev_var rfl nofun)) (ds := [.int (k * t), .int b]) rfl ?_ rfl
    show R_low _ (fr ((k : Rat) * opq (t, b)))
    rw [fill_div h0]
    exact low_of (k := 100) h0 (nb_mul (hc k hk) ht) (nb_up hb (by decide)) (by decide)
  · refine sv_ret0 (ev_cast (ev_tup (ds := fr (opq (t, b)) :: c.map fun (k : Int) => fr ((k : Rat) * opq (t, b))) (ea_cons (ev_pure (arg2 (ev_var rfl nofun) (ev_var rfl nofun)) (ds := [.int t, .int b]) rfl (show R_low _ (fr (opq (t, b))) from by rw [opq_div]; exact low_of (k := 50) h0 ht hb (by decide)) rfl) (ea_starL (ds := c.map fun (k : Int) => fr ((k : Rat) * opq (t, b))) (ev_var rfl nofun) ea_nil)) (by simp) (by simp; omega)) ?_)
    unfold vD fillV
    rw [List.map_cons, List.map_map]
    rfl
end
end K01

set_option Elab.async false
set_option linter.all false
set_option maxRecDepth 100000
set_option maxHeartbeats 4000000
set_option exponentiation.threshold 2000
namespace K01
variable [DL.Tbs]
open PySem PySem.Spec PyProof.Rows L2 DL HX GX RT SX
def LIM : Int := 1000000000000000000000000000000
def lowM (v : PyData) : Bool := match v with
  | .tuple [.int t, .int b] => decide (0 < b) && decide (Int.gcd t b = 1)
  | _ => false
def fracM (v : PyData) : Bool := areM v 2 (-LIM) LIM && lowM v
def pointM (v : PyData) : Bool := match v with
  | .tuple [x, y] => fracM x && fracM y
  | _ => false
theorem are_pair {v : PyData} {lo hi : Int} (h : areM v 2 lo hi = true) : ∃ t b, v = .tuple [.int t, .int b] ∧ (lo ≤ t ∧ t ≤ hi) ∧ lo ≤ b ∧ b ≤ hi := by
  cases v with
  | tuple ys =>
    have z : (decide ((ys.length : Int) = 2) && ys.all (inR lo hi)) = true := h
    rw [Bool.and_eq_true, decide_eq_true_eq, List.all_eq_true] at z
    match ys, z with
    | [a, b], z =>
      have za := z.2 a (by simp)
      have zb := z.2 b (by simp)
      cases a <;> first | (cases za; done) | skip
      cases b <;> first | (cases zb; done) | skip
      simp only [inR, Bool.and_eq_true, decide_eq_true_eq] at za zb
      exact ⟨_, _, rfl, ⟨za.1, za.2⟩, zb.1, zb.2⟩
    | [], z => exact absurd z.1 (by simp)
    | [_], z => exact absurd z.1 (by simp)
    | _ :: _ :: _ :: _, z => exact absurd z.1 (by simp; omega)
  | _ => cases h
section
variable {P : Program} {w : World} {K : PySem.W.Frag} {mg : Str → Option Value} {base : Heap}
abbrev R_frac : List PyData → PyData → Prop := fun ds y => ∃ v, ds = [v] ∧ y = .bool (fracM v)
theorem c_frac {k : Nat} (m_gcd : mg "gcd" = some (.builtin "math.gcd")) (h_LIMIT : ∃ t, mg "LIMIT" = some (.int 1000000000000000000000000000000 t)) (TD : DefT K mg "is_fraction" st_is_fraction ["value"]) (D_are_whole : PureC P w K mg base k "are_whole" ["value", "many", "low", "high"] R_are_whole) : PureC P w K mg base (k + 1) "is_fraction" ["value"] R_frac := by
  refine mkPure TD S_is_fraction fun f cdv A outer s H E hr => ?_
  have hu := hr.units
  refine ⟨_, (pss_one (ps_ret (pe_and (pe_def D_are_whole (hr.mono (by omega)) (by rfl) pass0 (pa_cons (pv 0) (pa_cons pe_int (pa_cons (pe_un un_neg (pe_glob (v := .int 1000000000000000000000000000000) (by rfl) h_LIMIT.choose_spec ⟨_, rfl⟩)) (pa_cons (pe_glob (v := .int 1000000000000000000000000000000) (by rfl) h_LIMIT.choose_spec ⟨_, rfl⟩) pa_nil))))) (pe_and (pe_cmpR op_gt (pe_ix (kIx (K := K)) (pv 0) pe_int (fun _ _ => rfl)) pe_int (nomark _)) (pe_one (pe_cmpR (kEq (K := K) hu) (pe_callBfun GX.cr_gcdN (by rfl) m_gcd (pa_cons (pe_ix (kIx (K := K)) (pv 0) pe_int (fun _ _ => rfl)) (pa_cons (pe_ix (kIx (K := K)) (pv 0) pe_int (fun _ _ => rfl)) pa_nil))) pe_int (nomark _))))))), ?_⟩
  rintro ds m y hl ⟨v, rfl, rfl⟩
  refine sv_ret0 (ev_cast (ev_and (a := areM v 2 (-LIM) LIM) (b := lowM v) (ev_pure (ea_cons (ev_var rfl nofun) (ea_cons ev_int (arg2 (ev_un ev_int o_neg) ev_int))) (ds := [v, .int 2, .int (-LIM), .int LIM]) rfl ?a rfl) fun hv => ?b) rfl)
  case a => exact ⟨v, 2, -LIM, LIM, rfl, by decide, rfl⟩
  case b =>
    obtain ⟨t, b, rfl, _, _⟩ := are_pair hv
    have e0 : EvE K (tOp (rIx K) (tVar 0) (tC (.int 0))) [.d (.tuple [.int t, .int b])] m (.d (.int t)) m := ev_op (ev_var rfl nofun) ev_int (o_ixT (j := 0) rfl rfl)
    have e1 : EvE K (tOp (rIx K) (tVar 0) (tC (.int 1))) [.d (.tuple [.int t, .int b])] m (.d (.int b)) m := ev_op (ev_var rfl nofun) ev_int (o_ixT (j := 1) rfl rfl)
    refine ev_and (a := decide (0 < b)) (ev_op e1 ev_int (o_i0b (f := fun i j => decide (i > j)))) fun _ => ?_
    refine ev_cast (ev_op (ev_cb (arg2 e0 e1) c_gcd2) ev_int o_eqI) (congrArg (fun b => Sl.d (.bool b)) ?_)
    rw [Bool.beq_eq_decide_eq]
    exact decide_eq_decide.mpr (by omega)
abbrev R_fracs : List PyData → PyData → Prop := fun ds y => ∃ v, ds = [v, .int 2] ∧ y = .bool (pointM v)
theorem c_fracs {k : Nat} (b_isinstance : mg "isinstance" = none) (b_tuple : mg "tuple" = none) (b_len : mg "len" = none) (b_all : mg "all" = none) (TD : DefT K mg "are_fractions" st_are_fractions ["value", "many"]) (D_is_fraction : PureC P w K mg base k "is_fraction" ["value"] R_frac) : PureC P w K mg base (k + 1) "are_fractions" ["value", "many"] R_fracs := by
  refine mkPure TD S_are_fractions fun f cdv A outer s H E hr => ?_
  have hu := hr.units
  refine ⟨_, (pss_one (ps_ret (pe_and (pe_callB (kIsi (K := K)) (by rfl) b_isinstance (by decide +kernel) (pa_cons (pv 0) (pa_cons (pe_bltn (v := .ty "tuple") (u := .type "tuple") (by rfl) b_tuple (by decide +kernel) rfl) pa_nil))) (pe_and (pe_cmpR (kEq (K := K) hu) (pe_callB (kLen (K := K)) (by rfl) b_len (by decide +kernel) (pa_cons (pv 0) pa_nil)) (pv 1) (nomark _)) (pe_one (pe_callB (kAll (K := K) rfl) (by rfl) b_all (by decide +kernel) (pa_cons (pe_lc (own := [("number", 2)]) (by rfl) S_are_fractions.nd (kSeq (K := K) (pv 0)) (blkOk_by (N := N_are_fractions) (sc := defScope st_are_fractions) (by decide +kernel)) (fun _ _ _ _ _ => pg_name (i := 2) S_are_fractions.nd rfl (by first | exact Or.inl rfl | exact Or.inr rfl)) (fun _ _ _ _ _ => pts_nil) (fun _ _ _ _ _ => (pe_def D_is_fraction (hr.mono (by omega)) (by rfl) pass0 (pa_cons (pv 2) pa_nil)))) pa_nil))))))), ?_⟩
  rintro ds m y hl ⟨v, rfl, rfl⟩
  have ht : EvE K (tCB (rIsi K) (tCons (tVar 0) (tCons (tC (.ty "tuple")) tNil))) [.d v, .d (.int 2), .no] m (.d (.bool (isTup v))) m := ev_cb (arg2 (ev_var rfl nofun) ev_ty) c_tup
  cases v with
  | tuple xs =>
    refine sv_ret0 (ev_cast (ev_and (a := true) (b := decide ((xs.length : Int) = 2) && (decide (xs.length ≤ 1000) && xs.all fracM)) ht fun _ => ev_and (a := decide ((xs.length : Int) = 2)) (ev_cast (ev_op (ev_cb (arg1 (ev_var rfl nofun)) (c_len rfl)) (ev_var rfl nofun) o_eqI) (congrArg (fun b => Sl.d (.bool b)) (Bool.beq_eq_decide_eq _ _))) fun h2 => ?_) ?_)
    · have h2 : (xs.length : Int) = 2 := of_decide_eq_true h2
      refine ev_cast (ev_all (ds := xs) (p := fracM) (ei_seqT (ev_var rfl nofun)) (by omega) fun d hd => ev_pure (arg1 (ev_var rfl nofun)) (ds := [d]) rfl ⟨d, rfl, rfl⟩ rfl) ?_
      rw [decide_eq_true (show xs.length ≤ 1000 by omega), Bool.true_and]
    · refine congrArg (fun b => Sl.d (.bool b)) ?_
      match xs with
      | [a, b] => simp [pointM]
      | [] => simp [pointM]
      | [_] => simp [pointM]
      | _ :: _ :: _ :: r => simp [pointM]; omega
  | _ => exact sv_ret0 (ev_andF ht)
abbrev R_point : List PyData → PyData → Prop := fun ds y => ∃ v, ds = [v] ∧ y = .bool (pointM v)
theorem c_point {k : Nat} (TD : DefT K mg "is_point" st_is_point ["value"]) (D_are_fractions : PureC P w K mg base k "are_fractions" ["value", "many"] R_fracs) : PureC P w K mg base (k + 1) "is_point" ["value"] R_point := by
  refine mkPure TD S_is_point fun f cdv A outer s H E hr => ?_
  refine ⟨_, (pss_one (ps_ret (pe_def D_are_fractions (hr.mono (by omega)) (by rfl) pass0 (pa_cons (pv 0) (pa_cons pe_int pa_nil))))), ?_⟩
  rintro ds m y hl ⟨v, rfl, rfl⟩
  exact sv_ret0 (ev_pure (arg2 (ev_var rfl nofun) ev_int) (ds := [v, .int 2]) rfl ⟨v, rfl, rfl⟩ rfl)
end
end K01

set_option Elab.async false
set_option linter.all false
set_option maxRecDepth 100000
namespace GX
variable [DL.Tbs]
open PySem PySem.Spec PyProof.Rows L2 DL
/-! ### a dict of nested tuples beside the cells -/
abbrev kv (e : Ent) : NestedKey × Int := (e.1, e.2.2)
def DAt (P : Program) (w : World) (K : PySem.W.Frag) (d : Addr) (ks : List (NestedKey × Int)) (H H0 : Hp) (ρ : List Addr) : Prop :=
  d ∉ ρ ∧ H0 d = none ∧ ∃ xs : List Ent, H d = some (NDk P w d xs) ∧ KeysOk K H0 xs ∧ xs.map kv = ks
def lookK (ks : List (NestedKey × Int)) (k : NestedKey) : Option Int := (ks.find? fun x => decide (x.1 = k)).map (·.2)
theorem look_find (k : NestedKey) : ∀ xs : List Ent, findK xs k = lookK (xs.map kv) k
  | [] => rfl
  | x :: xs => by
    by_cases e : x.1 = k
    · unfold findK lookK
      rw [List.map_cons, List.find?_cons_of_pos (by simpa using e), List.find?_cons_of_pos (by simpa using e)]
      rfl
    · have e1 : findK (x :: xs) k = findK xs k := by unfold findK; rw [List.find?_cons_of_neg (by simpa using e)]
      have e2 : lookK ((x :: xs).map kv) k = lookK (xs.map kv) k := by unfold lookK; rw [List.map_cons, List.find?_cons_of_neg (by simpa using e)]
      rw [e1, e2, look_find k xs]
section
variable {P : Program} {w : World} {K : PySem.W.Frag} {es : List Sl} {m m1 m2 m3 : M} {te : TE} {d : Addr} {ks ks1 ks2 : List (NestedKey × Int)} {r : Sl}
variable (P w K) in
def EvD (te : TE) (es : List Sl) (m : M) (d : Addr) (ks : List (NestedKey × Int)) (r : Sl) (m1 : M) (ks1 : List (NestedKey × Int)) : Prop :=
  ∀ σ H H0 ρ, Wd K H0 H ρ m → EnvS K H0 ρ σ es → DAt P w K d ks H H0 ρ → ∀ Q : VK,
    (∀ v H' H0', Stp ρ.length (ρ ++ [d]) H0 H (ρ ++ [d]) H0' H' → Wd K H0' H' ρ m1 → DAt P w K d ks1 H' H0' ρ → SlOk K H0' ρ v r → Q v H') → te σ H Q
theorem keys_mono {H H' : Hp} {xs : List Ent} (h : KeysOk K H xs) (e : Evl.Ex H H') : KeysOk K H' xs := fun x hx => by
  obtain ⟨dd, a, b, c⟩ := h x hx
  exact ⟨dd, dp_mono e a, b, c⟩
theorem dAt_keep {H H0 H' H0' : Hp} {ρ : List Addr} (h : DAt P w K d ks H H0 ρ) (s : Stp ρ.length ρ H0 H ρ H0' H') : DAt P w K d ks H' H0' ρ := by
  obtain ⟨a, b, xs, c, e, f⟩ := h
  refine ⟨a, ?_, xs, s.keep d _ c a (fun ps z => nomatch z), keys_mono e s.ex, f⟩
  cases hq : H0' d with
  | none => rfl
  | some o =>
    rcases s.fresh d o hq with z | z | z
    · rw [b] at z; cases z
    · rw [c] at z; cases z
    · rw [List.drop_length] at z; cases z
theorem stp_more {H H0 H' H0' : Hp} {ρ : List Addr} (s : Stp ρ.length ρ H0 H ρ H0' H') : Stp ρ.length (ρ ++ [d]) H0 H (ρ ++ [d]) H0' H' where
  ex := s.ex
  keep := fun b o h hb ht => s.keep b o h (fun z => hb (List.mem_append_left _ z)) ht
  dom := s.dom
  fresh := fun b o h => by
    rcases s.fresh b o h with z | z | z
    · exact .inl z
    · exact .inr (.inl z)
    · rw [List.drop_length] at z; cases z
  pre := rfl
  cel := fun b h => .inl h
/-- what does not touch the dict -/
theorem ed_lift (h : EvE K te es m r m1) : EvD P w K te es m d ks r m1 ks := fun σ H H0 ρ wd e da Q q =>
  h σ H H0 ρ wd e _ fun v H' H0' s w' k => q v H' H0' (stp_more s) w' (dAt_keep da s) k
theorem cell_ne {H H0 : Hp} {ρ : List Addr} (wd : Wd K H0 H ρ m) (da : DAt P w K d ks H H0 ρ) : (ρ ++ [d]).Nodup := List.nodup_append.mpr ⟨wd.nd, by simp, fun a ha b hb => by
  rcases List.mem_singleton.mp hb with rfl
  rintro rfl
  exact da.1 ha⟩
theorem nd_code {d : Addr} {xs : List Ent} {q : Str} : NDk P w d xs ≠ LamX.CodeO d q := by
  intro e
  unfold NDk LamX.CodeO at e
  injection e with e
  have hq : ∃ h : Heap, h.get? d = some { cls := .none, data := .fields #[.none, .str q 0] } := by
    refine ⟨{ objs := Array.replicate (d + 1) { cls := .none, data := .fields #[.none, .str q 0] } }, ?_⟩
    unfold Heap.get?
    rw [Array.getElem?_replicate]
    rw [if_pos (by omega)]
  obtain ⟨h, hh⟩ := hq
  have z := (congrFun e h).mpr ⟨_, #[.none, .str q 0], 0, hh, rfl, rfl⟩
  obtain ⟨_, ys, o, es, ep, _, f1, _, f3, _⟩ := z
  rw [hh] at f1
  cases f1
  cases f3
theorem tabs_nd {T : List (Addr × Str)} {H : Hp} {p : Addr} {o : HO} {xs : List Ent} (t : LamX.Tabs T H) (hp : H p = some (NDk P w p xs)) : LamX.Tabs T (upd H p o) := fun q hq => by
  obtain ⟨ps, h1, h2, h3⟩ := t q hq
  have n1 : q.1 ≠ p := by
    rintro e
    rw [e, hp] at h1
    cases h1
  refine ⟨ps, by rw [upd_ne n1]; exact h1, h2, fun pos cv hc => ?_⟩
  obtain ⟨c, e1, e2⟩ := h3 pos cv hc
  have n2 : c ≠ p := by
    rintro rfl
    rw [hp] at e2
    exact nd_code (Option.some.inj e2)
  exact ⟨c, e1, by rw [upd_ne n2]; exact e2⟩
/-- d.setdefault(key, number), the key and the number evaluated without the dict's change -/
theorem ed_setd {td ty tx : TE} {dk : PyData} {k : NestedKey} {n : Int} (hd : ∀ σ H H0 ρ, EnvS K H0 ρ σ es → ∀ Q : VK, Q (.ref d) H → td σ H Q) (h1 : EvE K ty es m (.d dk) m1) (h2 : ∀ σ H H0 ρ, Wd K H0 H ρ m1 → EnvS K H0 ρ σ es → DAt P w K d ks H H0 ρ → ∀ Q : VK, Q (.int n) H → tx σ H Q)
    (hk : keyOf dk = some k) (h8 : k.depth ≤ 8) (hr : ∃ xs, dk = .tuple xs) (hl : ks.length < sizeLine) :
    EvD P w K (tNSetd P w K td ty tx) es m d ks (.d (.int ((lookK ks k).getD n))) m1 (match lookK ks k with | some _ => ks | none => ks ++ [(k, n)]) := fun σ H H0 ρ wd e da Q q => by
  refine hd σ H H0 ρ e _ ⟨d, rfl, ⟨_, da.2.2.choose_spec.1⟩, h1 σ H H0 ρ wd e _ fun v H1 H01 s1 w1 k1 => ?_⟩
  have da1 := dAt_keep da s1
  refine h2 σ H1 H01 ρ w1 (e.mono s1.ex) da1 _ ?_
  obtain ⟨xs0, rfl⟩ := hr
  have k1 : Dp K H01 v (.tuple xs0) := k1
  obtain ⟨b, rfl⟩ : ∃ b, v = .ref b := by cases k1; exact ⟨_, rfl⟩
  obtain ⟨a1, b1, xs, c1, e1, f1⟩ := id da1
  have hlen : xs.length < sizeLine := by rw [← f1, List.length_map] at hl; exact hl
  refine ⟨xs, b, _, k, n, c1, keys_mono e1 w1.ex, rfl, dp_mono w1.ex k1, hk, h8, rfl, hlen, fun i hi => ?_, fun hn => ?_⟩
  · rw [look_find, f1] at hi
    refine q _ H1 H01 (stp_more s1) w1 ?_ ?_
    · rw [hi]; exact da1
    · rw [hi]; exact .int i
  · rw [look_find, f1] at hn
    have hg : H1 d = some (NDk P w d xs) := c1
    have st : Stp ρ.length (ρ ++ [d]) H0 H (ρ ++ [d]) H01 (upd H1 d (NDk P w d (xs ++ [(k, b, n)]))) := by
      have s := stp_more (d := d) s1
      refine ⟨s.ex, fun b' o h hb ht => ?_, fun b' hb => ?_, s.fresh, s.pre, s.cel⟩
      · rw [upd_ne (fun z => hb (by rw [z]; simp))]
        exact s.keep b' o h hb ht
      · by_cases z : b' = d
        · rw [z, upd_same] at hb; cases hb
        · rw [upd_ne z] at hb
          exact s.dom b' hb
    have w2 : Wd K H01 (upd H1 d (NDk P w d (xs ++ [(k, b, n)]))) ρ m1 := by
      refine ⟨Evl.Ex.mut w1.ex b1, w1.len, w1.nd, fun i p ds hp hm => ?_, tabs_nd w1.tab hg, w1.nT⟩
      obtain ⟨y1, ws, y2, y3⟩ := w1.cel i p ds hp hm
      refine ⟨y1, ws, ?_, y3⟩
      rw [upd_ne (fun z => a1 (by rw [← z]; exact List.mem_of_getElem? hp))]
      exact y2
    refine q _ _ H01 st w2 ?_ ?_
    · rw [hn]
      refine ⟨a1, b1, xs ++ [(k, b, n)], upd_same, fun x hx => ?_, ?_⟩
      · rcases List.mem_append.mp hx with hx | hx
        · exact e1 x hx
        · rcases List.mem_singleton.mp hx with rfl
          exact ⟨_, k1, hk, h8⟩
      · show (xs ++ [(k, b, n)]).map kv = ks ++ [(k, n)]
        rw [List.map_append, f1]
        rfl
    · rw [hn]; exact .int n
end
end GX

set_option Elab.async false
set_option linter.all false
set_option maxRecDepth 100000
namespace PySem
open Sem (wp)
/-! enumerate(v) with one argument, v told by what its iterator is -/
set_option maxHeartbeats 1000000 in
theorem gx_enum1 {v : Value} {o : Obj} {H : Heap → Prop} (B : Begins v o H) :
    Meets (Builtin.«enumerate.__new__» ⟨[.type "enumerate", v], []⟩) (fun _ R s => H s.heap ∧
      R (.ok (.ret (.ref (s.heap.push o).objs.size))) { s with heap := (s.heap.push o).push { cls := .type "enumerate", data := .fields #[.none, .bool false, .ref s.heap.objs.size, rawInt 0, .none, .none] } }) :=
  .of_wp fun prog w A R s h => by
    obtain ⟨hp, g, d, tk, os⟩ := s; obtain ⟨h1, h⟩ := h
    have hsub := sub_enumerate
    have q1 : ∀ {A' : Around} {E : Value → Shared → Prop} {Q : Value → Shared → Prop}, Q (.ref hp.objs.size) ⟨hp.push o, g, d, tk, os⟩ → wpAny (model prog w) A' (pyIter v) Q E ⟨hp, g, d, tk, os⟩ :=
      fun q => B.iter prog w _ _ ⟨hp, g, d, tk, os⟩ _ h1 q
    wp_walk using q1
    refine wpAny_stack_any fun st => wpAny_pure ?_
    split
    · rename_i c _ _ _ _ _
      cases (c == Value.type "enumerate")
      · wp_walk using q1
        exact ⟨_, rfl, h⟩
      · wp_walk using q1
        exact ⟨_, rfl, h⟩
    · wp_walk using q1
      exact ⟨_, rfl, h⟩
section
variable {prog : Program} {w : World} {A : Around} {E : Value → Shared → Prop} {s : Shared}
theorem gx_enumBegins {v : Value} {o : Obj} {H : Heap → Prop} {Q : Value → Shared → Prop} (B : Begins v o H) (h1 : H s.heap)
    (h : ∀ h', IsEnum h' (s.heap.objs.size + 1) s.heap.objs.size 0 .none → h'.get? s.heap.objs.size = some o → h'.objs.size = s.heap.objs.size + 2 →
      (∀ b o, s.heap.get? b = some o → h'.get? b = some o) → Q (.ref (s.heap.objs.size + 1)) { s with heap := h' }) :
    wpAny (model prog w) A (call (.type "enumerate") [v]) Q E s := by
  refine callType_new F.called_enumerate (by decide) (F.typeCall_enumerate_1 _) (F.newCall_enumerate_1 _) (fun obj => F.args_object_init_2 obj _) F.entry_enumerate_new
    (gx_enum1 B) ⟨h1, ?_⟩
  have hz : (s.heap.push o).objs.size = s.heap.objs.size + 1 := Heap.size_push ..
  show _ ∧ _
  rw [hz]
  have he : IsEnum ((s.heap.push o).push { cls := .type "enumerate", data := .fields #[.none, .bool false, .ref s.heap.objs.size, rawInt 0, .none, .none] }) (s.heap.objs.size + 1) s.heap.objs.size 0 .none := by
    have := Heap.get?_push_size (s.heap.push o) (o := { cls := .type "enumerate", data := .fields #[.none, .bool false, .ref s.heap.objs.size, rawInt 0, .none, .none] }) rfl
    rw [hz] at this; exact this
  refine ⟨⟨_, he, rfl⟩, h _ he (Heap.get?_push_of_some _ (Heap.get?_push_size _ B.free)) (by rw [Heap.size_push, hz]) fun b o x => Heap.get?_push_of_some _ (Heap.get?_push_of_some _ x)⟩
theorem gx_enumEndT {e it l : Addr} {i : Nat} {items : Array Value} {old : Value} {Q : Option Value → Shared → Prop} (hh : A.handled = none)
    (he : IsEnum s.heap e it i old) (hit : s.heap.IsTupleIter it l i) (hl : s.heap.IsTuple l items) (hx : items[i]? = none)
    (hQ : ∀ h', Heap.ExtBut it s.heap h' → Q none { s with heap := h' }) : wpAny (model prog w) A (pyNext (.ref e)) Q E s := by
  have hT : s.TypeIs (.ref e) "enumerate" := ⟨_, he, rfl⟩
  unfold pyNext
  refine wpAny_bind (wpAny_attempt (wpAny_callSpecial?_slot (name := Str.ofString "__next__") hT F.slot_enumerate_next
    (wpAny_call_entry F.slot_enumerate_next hT F.entry_enumerate_next ?_ (F.args_enumerate_next_1 _))))
  show wpAny _ _ (field (.ref e) 2 >>= _) _ _ _
  refine wpAny_bind (wpAny_field he rfl (x := .ref it) rfl ?_)
  refine wpAny_bind (wpAny_nextOf_tuple_end hh hit hl hx fun h' x he' hx' => ?_)
  obtain ⟨o, ho, hc⟩ := hx'
  refine wpAny_bind (wpAny_isInstance (T := "StopIteration") (b := true) ⟨o, ho, hc⟩ isSubtype_stop ?_)
  exact wpAny_pure (hQ _ he')
end
end PySem
namespace GX
open PySem PySem.Spec PyProof.Rows L2
/-- the tuple at a, each item in a new pair -/
def IteT (K : PySem.W.Frag) (a : Addr) : It :=
  ⟨fun i H => ∃ (xs : List V) (x : V), SqT K H a xs ∧ xs[i]? = some x, fun i H v H' => ∃ T x, v = .ref T ∧ H T = none ∧ H' = upd H T (.tup [.int (i : Nat), x]) ∧ ∀ xs, SqT K H a xs → xs[i]? = some x, fun i H => ∃ xs : List V, SqT K H a xs ∧ xs.length ≤ i⟩
theorem turn_enumT {P : Program} {w : World} {K : PySem.W.Frag} {elts : List Expr} {kk : Nat} {tpos : Pos} (a e it : Addr) :
    Turn P w K (.Tuple elts kk tpos) (IteT K a) [e, it] e (fun i h => (∃ old, IsEnum h e it ((i : Nat) : Int) old) ∧ h.IsTupleIter it a i ∧ e ≠ it ∧ a ≠ it ∧ a ≠ e) where
  mem := by simp
  obj := fun i h st b hb => by
    obtain ⟨⟨old, he⟩, ⟨o, ho, hc, hd⟩, _⟩ := st
    have e' : b = e ∨ b = it := by simpa using hb
    rcases e' with z | z
    · rw [z]; exact ⟨_, he, fun v q => nomatch q⟩
    · rw [z]; exact ⟨o, ho, fun v q => by rw [hd] at q; cases q⟩
  keep := fun i h h' st k => let ⟨⟨old, he⟩, hi, hne⟩ := st; ⟨⟨old, k e (by simp) _ he⟩, hi.at fun o q => k it (by simp) o q, hne⟩
  item := by
    intro X hP hw hK hc i pins s σ H E I hf st hg
    subst hP hw hK
    obtain ⟨⟨old, he⟩, hit, hne, hai, hae⟩ := st
    obtain ⟨xs, x, hq, hx⟩ := hg
    obtain ⟨its, rv, p, hz⟩ := I.tuple hq
    obtain ⟨u, hu, ru⟩ := rv.get hx
    have hel : e < s.heap.objs.size := Heap.lt_size he
    have hil : it < s.heap.objs.size := by obtain ⟨_, q, _⟩ := hit; exact Heap.lt_size q
    have hilt : i < its.toArray.size := by simpa using (List.getElem?_eq_some_iff.mp hu).1
    refine wpAny_pyNext_enum_itemD (Draws.tuple (A := X.A.in1) (I.ok.hd hc) it a hai its.toArray) he ⟨hit, p⟩ hilt hne (by simp [hne, Ne.symm hae]) fun y h' tk hy ho hst' hT hsz hk => ?_
    obtain ⟨hit', _⟩ := hst'
    have ey : y = u := by
      have hy' : its[i]? = some y := by simpa using hy
      rw [hu] at hy'
      exact (Option.some.inj hy').symm
    subst ey
    refine ⟨_, rfl, wpAny_letOwnedTupleGo_enum (s := { s with heap := h', toks := tk + 1 }) ho fun h'' he' sb => ?_⟩
    have hT2 : h''.get? s.heap.objs.size = some { cls := .type "tuple", data := .seq #[.int i tk, y] } := (sb.2 _ (Nat.ne_of_gt hel)).trans hT
    have new : ObjOk X.prog X.w (upd H s.heap.objs.size (.tup [.int (i : Nat), x])) h'' s.heap.objs.size (.tup [.int (i : Nat), x]) :=
      ⟨by show 2 ≤ sizeLine; decide, [.int i tk, y], .cons ⟨_, rfl⟩ (.cons ru .nil), ⟨_, hT2, rfl, _, rfl⟩⟩
    have I1 : Inv X pins σ (upd H s.heap.objs.size (.tup [.int (i : Nat), x])) { s with heap := h'', toks := tk + 1 } :=
      I.turnedNew (ch := [e, it]) (fun b ob hb q => (sb.2 b (fun z => hb (by simp [z]))).trans (hk b ob (fun z => hb (by simp [z])) (fun z => hb (by simp [z])) q)) hf (Nat.le_refl _) new
    refine ⟨.ref s.heap.objs.size, _, I1, rfl, ⟨_, x, rfl, I.hok.fresh (Nat.le_refl _), rfl, fun ys hy => by rw [I.tuple_inj hy hq]; exact hx⟩, ⟨⟨y, ?_⟩, hit'.at fun o q => (sb.2 it (Ne.symm hne)).trans q, hne, hai, hae⟩, fun b hb => ?_⟩
    · have e1 : ((i + 1 : Nat) : Int) = (i : Int) + 1 := by omega
      rw [e1]; exact he'
    · have hb' : b < s.heap.objs.size := by
        have e' : b = e ∨ b = it := by simpa using hb
        rcases e' with z | z
        · rw [z]; exact hel
        · rw [z]; exact hil
      rw [upd_ne (Nat.ne_of_lt hb')]
      exact (hf b hb).1
  done := by
    intro X hP hw hK hc i pins s σ H E I hf st hg
    subst hP hw hK
    obtain ⟨⟨old, he⟩, hit, hne, hai, hae⟩ := st
    obtain ⟨xs, hq, hx⟩ := hg
    obtain ⟨its, rv, p, hz⟩ := I.tuple hq
    obtain ⟨f0, f1, f2, f3, f4, f5⟩ := hf it (by simp)
    have hl := rv.length
    exact gx_enumEndT (I.ok.hd hc) he hit p (by simp; omega) fun h' eb => ⟨rfl, I.turned (t' := s.toks) (fun b o hb q => eb b o hb q) f0 f1 f3 f4 f5⟩
  self := fun A i s Q E st h => let ⟨⟨_, he⟩, _⟩ := st; wpAny_pyIter_enum he h
/-- enumerate of a list or a tuple -/
def iEnumA (K : PySem.W.Frag) (ta : TA) : TI := fun σ H R => ta σ H fun vs H1 => ∃ a xs, vs = [.ref a] ∧ ((SqL K H1 a xs ∧ R (Ite K a) H1) ∨ (SqT K H1 a xs ∧ R (IteT K a) H1))
theorem pi_enumA {X : Cx} {e : Expr} {ta : TA} {p pos tpos : Pos} {elts : List Expr} {kk : Nat} (hg : Gl X "enumerate") (hm : X.mg "enumerate" = none) (ha : PA X [e] ta) (hs : starEach [e] X.env = [(false, eval e X.env)] := by rfl) :
    PI X (.Tuple elts kk tpos) (.Call (.Name "enumerate" p) [e] [] pos) (iEnumA X.K ta) := by
  refine ⟨fun pins s σ H R I h => ?_⟩
  refine Call_ (ld_blt I hg hm boot_enumerate (PyProof.Rows.callWith_type1 (thn (ha.run pos pins s σ H _ I h) fun us s1 ⟨vs, H1, I1, r1, q1⟩ => ?_) hs rfl))
  obtain ⟨a, xs, ex, q⟩ := q1
  subst ex
  cases r1 with
  | cons r rr =>
    cases rr
    cases r
    have fr : ∀ b ∈ [s1.heap.objs.size + 1, s1.heap.objs.size], FpOk X pins H1 b := fun b hb => by
      have e' : b = s1.heap.objs.size + 1 ∨ b = s1.heap.objs.size := by simpa using hb
      have hle : s1.heap.objs.size ≤ b := by
        rcases e' with z | z
        · rw [z]; exact Nat.le_add_right _ _
        · rw [z]; exact Nat.le_refl _
      exact I1.fpOk hle (I1.hok.fresh hle)
    rcases q with ⟨hq, q⟩ | ⟨hq, q⟩
    · obtain ⟨its, rv, p', hz⟩ := I1.list hq
      refine call_enumerate_list p'.isList fun h' he hit hsz hk => wpAny_pyIter_enum he ?_
      have I2 : Inv X pins σ H1 { s1 with heap := h' } := I1.kept (t' := s1.toks) hk
      exact ⟨s1.heap.objs.size + 1, [s1.heap.objs.size + 1, s1.heap.objs.size], _, _, H1, rfl, I2, turn_enum a (s1.heap.objs.size + 1) s1.heap.objs.size, ⟨⟨.none, he⟩, hit, Nat.succ_ne_self _⟩, fr, q⟩
    · obtain ⟨its, rv, p', hz⟩ := I1.tuple hq
      have hal : a < s1.heap.objs.size := by obtain ⟨o, ho, _⟩ := id p'; exact Heap.lt_size ho
      refine gx_enumBegins (begins_tuple a its.toArray) p' fun h' he hit hsz hk => wpAny_pyIter_enum he ?_
      have I2 : Inv X pins σ H1 { s1 with heap := h' } := I1.kept (t' := s1.toks) hk
      exact ⟨s1.heap.objs.size + 1, [s1.heap.objs.size + 1, s1.heap.objs.size], _, _, H1, rfl, I2, turn_enumT a (s1.heap.objs.size + 1) s1.heap.objs.size, ⟨⟨.none, he⟩, ⟨_, hit, rfl, rfl⟩, Nat.succ_ne_self _, Nat.ne_of_lt hal, Nat.ne_of_lt (Nat.lt_succ_of_lt hal)⟩, fr, q⟩
theorem kEnum {X : Cx} {K : PySem.W.Frag} {e : Expr} {ta : TA} {p pos tpos : Pos} {elts : List Expr} {kk : Nat} (hg : Gl X "enumerate") (hm : X.mg "enumerate" = none) (ha : PA X [e] ta) (hs : starEach [e] X.env = [(false, eval e X.env)] := by rfl) (hK : X.K = K := by rfl) :
    PI X (.Tuple elts kk tpos) (.Call (.Name "enumerate" p) [e] [] pos) (iEnumA K ta) := hK ▸ pi_enumA hg hm ha hs
theorem kZip {X : Cx} {K : PySem.W.Frag} {e e2 : Expr} {ta : TA} {p pos tpos : Pos} {elts : List Expr} {kk : Nat} (hg : Gl X "zip") (hm : X.mg "zip" = none) (ha : PA X [e, e2] ta)
    (hs : starEach [e, e2] X.env = (false, eval e X.env) :: starEach [e2] X.env := by rfl) (hpl : (backTo pos (starEach [e2] X.env)).any (·.1) = false := by rfl) (hK : X.K = K := by rfl) :
    PI X (.Tuple elts kk tpos) (.Call (.Name "zip" p) [e, e2] [] pos) (RZ.iZipA K ta) := hK ▸ RZ.pi_zipA hg hm ha hs hpl
end GX

set_option Elab.async false
set_option linter.all false
set_option maxRecDepth 100000
namespace GX
variable [DL.Tbs]
open PySem PySem.Spec PyProof.Rows L2 DL
/-! ### walks that make a new object at each turn -/
section
variable (K : PySem.W.Frag)
def ItOkG (J : It) (H0 : Hp) (ds : List PyData) : Prop := ∀ H1, Evl.Ex H0 H1 → ∀ (i : Nat) (H : Hp), Evl.Ex H1 H → (i < ds.length → J.go i H) ∧ (ds.length ≤ i → J.stop i H) ∧ ∀ x H', i < ds.length → J.yld i H x H' →
  ∃ d H1', ds[i]? = some d ∧ Evl.Ex H1 H1' ∧ Evl.Ex H1' H' ∧ Evl.Ex H H' ∧ (∀ b o, H1' b = some o → H1 b = some o ∨ H b = none) ∧ Dp K H1' x d
def EvIG (wi : TI) (es : List Sl) (m : M) (ds : List PyData) (m' : M) : Prop := ∀ σ H H0 ρ, Wd K H0 H ρ m → EnvS K H0 ρ σ es → ∀ R : It → Hp → Prop,
  (∀ J H' H0', Stp ρ.length ρ H0 H ρ H0' H' → Wd K H0' H' ρ m' → ItOkG K J H0' ds → R J H') → wi σ H R
end
section
variable {K : PySem.W.Frag} {te ta tb tc : TE} {tt tu : TT} {es : List Sl} {m m1 m2 m3 : M} {r : Sl}
theorem ItOkG.mono {J : It} {H0 H0' : Hp} {ds : List PyData} (e : Evl.Ex H0 H0') (h : ItOkG K J H0 ds) : ItOkG K J H0' ds := fun H1 ex => h H1 (e.trans ex)
theorem itOkG_of {J : It} {H0 : Hp} {ds : List PyData} (h : ItOk K J H0 ds) : ItOkG K J H0 ds := fun H1 ex i H ex2 => by
  obtain ⟨h1, h2, h3⟩ := h i H (ex.trans ex2)
  refine ⟨h1, h2, fun x H' hi y => ?_⟩
  obtain ⟨rfl, d, e1, e2⟩ := h3 x H' hi y
  exact ⟨d, H1, e1, Evl.Ex.refl _, ex2, Evl.Ex.refl _, fun b o z => .inl z, dp_mono ex e2⟩
theorem eig_of {wi : TI} {ds : List PyData} (h : EvI K wi es m ds m1) : EvIG K wi es m ds m1 := fun σ H H0 ρ w e R q =>
  h σ H H0 ρ w e _ fun J H' H0' s w' it => q J H' H0' s w' (itOkG_of it)
/-- a new tuple at each turn -/
theorem okG_new {J : It} {H0 : Hp} {ds : List PyData} {f : Nat → List PyData} (hf : ∀ i, i < ds.length → ds[i]? = some (.tuple (f i)))
    (h : ∀ (i : Nat) (H : Hp), Evl.Ex H0 H → (i < ds.length → J.go i H) ∧ (ds.length ≤ i → J.stop i H) ∧ ∀ x H', i < ds.length → J.yld i H x H' → ∃ T xs, x = .ref T ∧ H T = none ∧ H' = upd H T (.tup xs) ∧ DpAll K H0 xs (f i)) : ItOkG K J H0 ds := fun H1 ex i H ex2 => by
  obtain ⟨h1, h2, h3⟩ := h i H (ex.trans ex2)
  refine ⟨h1, h2, fun x H' hi y => ?_⟩
  obtain ⟨T, xs, rfl, hT, rfl, k⟩ := h3 x H' hi y
  have h0 : H1 T = none := Evl.fresh_back ex2 hT
  refine ⟨_, upd H1 T (.tup xs), hf i hi, Evl.Ex.new h0, fun b u z => ?_, Evl.Ex.new hT, fun b u z => ?_, .tup (.inl (.inl upd_same)) (dpAll_mono (ex.trans (Evl.Ex.new h0)) k)⟩
  · by_cases e : b = T
    · subst e
      rw [upd_same] at z ⊢
      exact z
    · rw [upd_ne e] at z ⊢
      exact ex2 _ _ z
  · by_cases e : b = T
    · subst e
      exact .inr hT
    · rw [upd_ne e] at z
      exact .inl z
def zipD (xs ys : List PyData) : List PyData := List.zipWith (fun x y => .tuple [x, y]) xs ys
def enD : Nat → List PyData → List PyData
  | _, [] => []
  | k, x :: xs => .tuple [.int (k : Nat), x] :: enD (k + 1) xs
theorem en_len : ∀ (k : Nat) (xs : List PyData), (enD k xs).length = xs.length
  | _, [] => rfl
  | k, x :: xs => by unfold enD; rw [List.length_cons, List.length_cons, en_len]
theorem en_get : ∀ (xs : List PyData) (k i : Nat) (x : PyData), xs[i]? = some x → (enD k xs)[i]? = some (.tuple [.int ((k + i : Nat) : Int), x])
  | y :: xs, k, 0, x, h => by cases h; rfl
  | y :: xs, k, i + 1, x, h => by
    have z := en_get xs (k + 1) i x h
    rw [show k + 1 + i = k + (i + 1) by omega] at z
    exact z
theorem eig_zip {ta : TA} {xs ys : List PyData} (h : EvA K ta es m [.d (.tuple xs), .d (.tuple ys)] m1) (hl : xs.length = ys.length) : EvIG K (RZ.iZipA K ta) es m (zipD xs ys) m1 := fun σ H H0 ρ w e R q =>
  h σ H H0 ρ w e _ fun vs H' H0' s' w' kv => by
    cases kv with
    | cons k1 kv =>
      cases kv with
      | cons k2 kv =>
        cases kv
        have k1 : Dp K H0' _ (.tuple xs) := k1
        have k2 : Dp K H0' _ (.tuple ys) := k2
        cases k1 with
        | @tup a us _ hs ha =>
          cases k2 with
          | @tup b us' _ hs' ha' =>
            have l1 := dpAll_len ha
            have l2 := dpAll_len ha'
            refine ⟨_, _, us, us', rfl, .inr ⟨Evl.ex_t w'.ex hs, Evl.ex_t w'.ex hs', q _ H' H0' s' w' ?_⟩⟩
            have zl : (zipD xs ys).length = xs.length := by unfold zipD; rw [List.length_zipWith, hl, Nat.min_self]
            refine okG_new (f := fun i => [xs.getD i .none, ys.getD i .none]) (fun i hi => ?_) fun i H2 ex => ⟨fun hi => ?_, fun hi => ?_, fun x H3 hi y => ?_⟩
            · rw [zl] at hi
              unfold zipD
              rw [List.getElem?_zipWith, List.getElem?_eq_getElem hi, List.getElem?_eq_getElem (by omega : i < ys.length)]
              simp [List.getD_eq_getElem?_getD, List.getElem?_eq_getElem hi, List.getElem?_eq_getElem (by omega : i < ys.length)]
            · rw [zl] at hi
              exact ⟨us, us', us[i], us'[i], Evl.ex_t ex hs, Evl.ex_t ex hs', List.getElem?_eq_getElem (by omega), List.getElem?_eq_getElem (by omega)⟩
            · rw [zl] at hi
              exact ⟨us, us', Evl.ex_t ex hs, Evl.ex_t ex hs', .inl (by omega)⟩
            · rw [zl] at hi
              obtain ⟨T, x', y', rfl, hT, rfl, f1, f2⟩ := y
              obtain ⟨d1, e1, g1⟩ := dpAll_get ha (f1 _ (Evl.ex_t ex hs))
              obtain ⟨d2, e2, g2⟩ := dpAll_get ha' (f2 _ (Evl.ex_t ex hs'))
              refine ⟨T, _, rfl, hT, rfl, ?_⟩
              show DpAll K H0' [x', y'] [xs.getD i .none, ys.getD i .none]
              rw [List.getD_eq_getElem?_getD, List.getD_eq_getElem?_getD, e1, e2]
              exact .cons g1 (.cons g2 .nil)
theorem eig_enT {ta : TA} {xs : List PyData} (h : EvA K ta es m [.d (.tuple xs)] m1) : EvIG K (iEnumA K ta) es m (enD 0 xs) m1 := fun σ H H0 ρ w e R q =>
  h σ H H0 ρ w e _ fun vs H' H0' s' w' kv => by
    cases kv with
    | cons k1 kv =>
      cases kv
      have k1 : Dp K H0' _ (.tuple xs) := k1
      cases k1 with
      | @tup a us _ hs ha =>
        have l1 := dpAll_len ha
        refine ⟨_, us, rfl, .inr ⟨Evl.ex_t w'.ex hs, q _ H' H0' s' w' ?_⟩⟩
        refine okG_new (f := fun i => [.int (i : Nat), xs.getD i .none]) (fun i hi => ?_) fun i H2 ex => ⟨fun hi => ?_, fun hi => ?_, fun x H3 hi y => ?_⟩
        · rw [en_len] at hi
          rw [en_get xs 0 i xs[i] (List.getElem?_eq_getElem hi)]
          simp [List.getD_eq_getElem?_getD, List.getElem?_eq_getElem hi]
        · rw [en_len] at hi
          exact ⟨us, us[i], Evl.ex_t ex hs, List.getElem?_eq_getElem (by omega)⟩
        · rw [en_len] at hi
          exact ⟨us, Evl.ex_t ex hs, by omega⟩
        · rw [en_len] at hi
          obtain ⟨T, x', rfl, hT, rfl, f1⟩ := y
          obtain ⟨d1, e1, g1⟩ := dpAll_get ha (f1 _ (Evl.ex_t ex hs))
          refine ⟨T, _, rfl, hT, rfl, ?_⟩
          show DpAll K H0' [.int (i : Nat), x'] [.int (i : Nat), xs.getD i .none]
          rw [List.getD_eq_getElem?_getD, e1]
          exact .cons (.int _) (.cons g1 .nil)
theorem eig_enL {ta : TA} {xs : List PyData} (h : EvA K ta es m [.d (.list xs)] m1) : EvIG K (iEnumA K ta) es m (enD 0 xs) m1 := fun σ H H0 ρ w e R q =>
  h σ H H0 ρ w e _ fun vs H' H0' s' w' kv => by
    cases kv with
    | cons k1 kv =>
      cases kv
      have k1 : Dp K H0' _ (.list xs) := k1
      cases k1 with
      | @lst a us _ hs ha =>
        have l1 := dpAll_len ha
        refine ⟨_, us, rfl, .inl ⟨Evl.ex_l w'.ex hs, q _ H' H0' s' w' ?_⟩⟩
        refine okG_new (f := fun i => [.int (i : Nat), xs.getD i .none]) (fun i hi => ?_) fun i H2 ex => ⟨fun hi => ?_, fun hi => ?_, fun x H3 hi y => ?_⟩
        · rw [en_len] at hi
          rw [en_get xs 0 i xs[i] (List.getElem?_eq_getElem hi)]
          simp [List.getD_eq_getElem?_getD, List.getElem?_eq_getElem hi]
        · rw [en_len] at hi
          exact ⟨us, us[i], Evl.ex_l ex hs, List.getElem?_eq_getElem (by omega)⟩
        · rw [en_len] at hi
          exact ⟨us, Evl.ex_l ex hs, by omega⟩
        · rw [en_len] at hi
          obtain ⟨T, x', rfl, hT, rfl, f1⟩ := y
          obtain ⟨d1, e1, g1⟩ := dpAll_get ha (f1 _ (Evl.ex_l ex hs))
          refine ⟨T, _, rfl, hT, rfl, ?_⟩
          show DpAll K H0' [.int (i : Nat), x'] [.int (i : Nat), xs.getD i .none]
          rw [List.getD_eq_getElem?_getD, e1]
          exact .cons (.int _) (.cons g1 .nil)
/-! ### loops and lists over such walks -/
theorem sv_forG {n : Nat} {wi : TI} {g : TG} {tb : TS} {ds : List PyData} {o : Out} (hi : EvIG K wi es m ds m1) (h : ForR K n g tb ds es m1 o) : Sv K n (tFor wi g tb) es m o := fun σ H H0 ρ hn w e D q =>
  hi σ H H0 ρ w e _ fun J H1 H01 s1 w1 it => by
    refine ⟨fun i k σ2 H2 => k = ds.length - i ∧ i ≤ ds.length ∧ ∃ es2 m2 ρ2 H02, ForR K n g tb (ds.drop i) es2 m2 o ∧ Stp n ρ H0 H ρ2 H02 H2 ∧ Wd K H02 H2 ρ2 m2 ∧ EnvS K H02 ρ2 σ2 es2 ∧ ItOkG K J H02 ds,
      ⟨ds.length, by omega, Nat.zero_le _, es, m1, ρ, H01, h, s1.low, w1, e.mono s1.ex, it⟩, fun i k σ2 H2 hW => ?_⟩
    obtain ⟨rfl, hle, es2, m2, ρ2, H02, fr, s2, w2, e2, it2⟩ := hW
    have hn2 := pre_len hn s2
    obtain ⟨g1, g2, g3⟩ := it2 H02 (Evl.Ex.refl _) i H2 w2.ex
    by_cases hlt : i < ds.length
    · refine .inr ⟨g1 hlt, ?_⟩
      have hd : ds[i]? = some ds[i] := List.getElem?_eq_getElem hlt
      rw [drop_cons hd] at fr
      have fin : ∀ {x H'}, J.yld i H2 x H' → ∃ H03, Dp K H03 x ds[i] ∧ Wd K H03 H' ρ2 m2 ∧ Stp n ρ2 H02 H2 ρ2 H03 H' := fun {x H'} y => by
        obtain ⟨d, H03, q1, x1, x2, x3, x4, q2⟩ := g3 x H' hlt y
        rw [hd] at q1
        cases q1
        obtain ⟨w3, s3⟩ := w2.grow (n := n) x1 x2 x3 x4
        exact ⟨H03, q2, w3, s3⟩
      cases fr with
      | @nx _ _ is _ es3 es4 _ m4 _ hg hb hr =>
        refine ⟨fun σ' H' => ∃ ρ4 H04, Stp n ρ H0 H ρ4 H04 H' ∧ Wd K H04 H' ρ4 m4 ∧ EnvS K H04 ρ4 σ' es4 ∧ ItOkG K J H04 ds, fun σ' H' ⟨ρ4, H04, s4, w4, e4, it4⟩ => ⟨ds.length - (i + 1), by omega, rfl, hlt, es4, m4, ρ4, H04, hr, s4, w4, e4, it4⟩, fun x H' y => ?_⟩
        obtain ⟨H03, kx, w3, s3⟩ := fin y
        exact hg σ2 _ H03 ρ2 x w3.ex (e2.mono s3.ex) kx _ fun σ3 e3 _ => hb σ3 _ H03 ρ2 hn2 w3 e3 _ fun σ4 ρ4 H4 H04 s4 w4 e4 => ⟨ρ4, H04, (s2.trans w2.nd s3).trans w3.nd s4, w4, e4, it2.mono (s3.ex.trans s4.ex)⟩
      | @cnt _ _ is _ es3 es4 _ m4 _ hg hb hr =>
        refine ⟨fun σ' H' => ∃ ρ4 H04, Stp n ρ H0 H ρ4 H04 H' ∧ Wd K H04 H' ρ4 m4 ∧ EnvS K H04 ρ4 σ' es4 ∧ ItOkG K J H04 ds, fun σ' H' ⟨ρ4, H04, s4, w4, e4, it4⟩ => ⟨ds.length - (i + 1), by omega, rfl, hlt, es4, m4, ρ4, H04, hr, s4, w4, e4, it4⟩, fun x H' y => ?_⟩
        obtain ⟨H03, kx, w3, s3⟩ := fin y
        exact hg σ2 _ H03 ρ2 x w3.ex (e2.mono s3.ex) kx _ fun σ3 e3 _ => hb σ3 _ H03 ρ2 hn2 w3 e3 _ fun σ4 ρ4 H4 H04 s4 w4 e4 => ⟨ρ4, H04, (s2.trans w2.nd s3).trans w3.nd s4, w4, e4, it2.mono (s3.ex.trans s4.ex)⟩
      | @brk _ _ is _ es3 es4 _ m4 hg hb =>
        refine ⟨fun _ _ => False, fun _ _ z => z.elim, fun x H' y => ?_⟩
        obtain ⟨H03, kx, w3, s3⟩ := fin y
        exact hg σ2 _ H03 ρ2 x w3.ex (e2.mono s3.ex) kx _ fun σ3 e3 _ => hb σ3 _ H03 ρ2 hn2 w3 e3 _ fun σ4 ρ4 H4 H04 s4 w4 e4 => q σ4 ρ4 H4 H04 ((s2.trans w2.nd s3).trans w3.nd s4) w4 e4
      | @ret _ _ is _ es3 r _ m4 hg hb =>
        refine ⟨fun _ _ => False, fun _ _ z => z.elim, fun x H' y => ?_⟩
        obtain ⟨H03, kx, w3, s3⟩ := fin y
        exact hg σ2 _ H03 ρ2 x w3.ex (e2.mono s3.ex) kx _ fun σ3 e3 _ => hb σ3 _ H03 ρ2 hn2 w3 e3 _ fun v ρ4 H4 H04 ml s4 w4 k4 => q v ρ4 H4 H04 ml ((s2.trans w2.nd s3).trans w3.nd s4) w4 k4
    · have ei : i = ds.length := by omega
      subst ei
      rw [List.drop_length] at fr
      cases fr with
      | nil => exact .inl ⟨g2 (Nat.le_refl _), q σ2 ρ2 H2 H02 s2 w2 e2⟩
theorem el_lcG {wi : TI} {g : TG} {vs : List Nat} {ds rs : List PyData} (hi : EvIG K wi es m ds m1) (h : LcR K g tt te (wipeS es vs) vs ds m1 rs m2) (hl : ds.length ≤ 1000) : EvL K (tLc wi g tt te vs) es m rs m2 := fun σ H H0 ρ w e Q q =>
  hi σ H H0 ρ w e _ fun J H1 H01 s1 w1 it => fun D hD => by
    have hD0 : H D = none := s1.dom D hD
    have hDρ : D ∉ ρ := w1.notin hD
    refine ⟨fun i k H2 => k = ds.length - i ∧ i ≤ ds.length ∧ ∃ acc va rs1 m3 H02, rs = acc ++ rs1 ∧ acc.length ≤ i ∧ LcR K g tt te (wipeS es vs) vs (ds.drop i) m3 rs1 m2 ∧ Stp ρ.length ρ H0 H ρ H02 H2 ∧ Wd K H02 H2 ρ m3 ∧ EnvS K H02 ρ σ es ∧ ItOkG K J H02 ds ∧ H02 D = none ∧ H2 D = some (.lst va) ∧ DpAll K H02 va acc,
      ⟨ds.length, by omega, Nat.zero_le _, [], [], rs, m1, H01, rfl, Nat.le_refl _, h, s1.off hD0, w1.off (Evl.fresh_back w1.ex hD) hDρ (.inl hD), e.mono s1.ex, it, Evl.fresh_back w1.ex hD, upd_same, .nil⟩, fun i k H2 hW => ?_⟩
    obtain ⟨rfl, hle, acc, va, rs1, m3, H02, er, hacc, fr, s2, w2, e2, it2, d0, d2, da⟩ := hW
    obtain ⟨g1, g2, g3⟩ := it2 H02 (Evl.Ex.refl _) i H2 w2.ex
    by_cases hlt : i < ds.length
    · refine .inr ⟨g1 hlt, ?_⟩
      have hd : ds[i]? = some ds[i] := List.getElem?_eq_getElem hlt
      rw [drop_cons hd] at fr
      have fin : ∀ {x H'}, J.yld i H2 x H' → ∃ H03, Dp K H03 x ds[i] ∧ Wd K H03 H' ρ m3 ∧ Stp ρ.length ρ H02 H2 ρ H03 H' := fun {x H'} y => by
        obtain ⟨d, H03, q1, x1, x2, x3, x4, q2⟩ := g3 x H' hlt y
        rw [hd] at q1
        cases q1
        obtain ⟨w3, s3⟩ := w2.grow (n := ρ.length) x1 x2 x3 x4
        exact ⟨H03, q2, w3, s3⟩
      have hvl := dpAll_len da
      cases fr with
      | @yes _ _ es3 _ m4 m5 _ r rs2 is hg hiv hb he hr =>
        refine ⟨fun H' => ∃ va' H04, Stp ρ.length ρ H0 H ρ H04 H' ∧ Wd K H04 H' ρ m5 ∧ EnvS K H04 ρ σ es ∧ ItOkG K J H04 ds ∧ H04 D = none ∧ H' D = some (.lst va') ∧ DpAll K H04 va' (acc ++ [r]),
          fun H' ⟨va', H04, s4, w4, e4, it4, z0, z1, z2⟩ => ⟨ds.length - (i + 1), by omega, rfl, hlt, acc ++ [r], va', rs2, m5, H04, by rw [er, List.append_assoc]; rfl, by rw [List.length_append, List.length_singleton]; omega, hr, s4, w4, e4, it4, z0, z1, z2⟩, fun x H' y => ?_⟩
        obtain ⟨H03, kx, w3, s3⟩ := fin y
        refine hg _ _ H03 ρ x w3.ex ((e2.mono s3.ex).wipe vs) kx _ fun σ3 e3 hw => ⟨by rw [hw vs hiv, wipe_wipe], ?_⟩
        refine hb σ3 _ H03 ρ w3 e3 _ fun H4 H04 s4 w4 => ?_
        refine iteT (he σ3 H4 H04 ρ w4 (e3.mono s4.ex) _ fun y H5 H05 s5 w5 ky => ?_)
        have s6 := (s3.trans w3.nd s4).trans w4.nd s5
        obtain ⟨k1, k2⟩ := keepD hDρ d0 d2 s6
        refine ⟨va, k2, small1000 (by omega), va ++ [y], H05, (s2.trans w2.nd s6).off hD0, w5.off k1 hDρ (.inr ⟨_, k2⟩), e2.mono s6.ex, it2.mono s6.ex, k1, upd_same, dpAll_app (dpAll_mono s6.ex da) (.cons ky .nil)⟩
      | @not _ _ es3 _ m4 _ _ is hg hiv hb hr =>
        refine ⟨fun H' => ∃ H04, Stp ρ.length ρ H0 H ρ H04 H' ∧ Wd K H04 H' ρ m4 ∧ EnvS K H04 ρ σ es ∧ ItOkG K J H04 ds ∧ H04 D = none ∧ H' D = some (.lst va) ∧ DpAll K H04 va acc,
          fun H' ⟨H04, s4, w4, e4, it4, z0, z1, z2⟩ => ⟨ds.length - (i + 1), by omega, rfl, hlt, acc, va, rs1, m4, H04, er, by omega, hr, s4, w4, e4, it4, z0, z1, z2⟩, fun x H' y => ?_⟩
        obtain ⟨H03, kx, w3, s3⟩ := fin y
        refine hg _ _ H03 ρ x w3.ex ((e2.mono s3.ex).wipe vs) kx _ fun σ3 e3 hw => ⟨by rw [hw vs hiv, wipe_wipe], ?_⟩
        refine hb σ3 _ H03 ρ w3 e3 _ fun H4 H04 s4 w4 => ?_
        have s6 := s3.trans w3.nd s4
        obtain ⟨k1, k2⟩ := keepD hDρ d0 d2 s6
        exact iteF ⟨H04, s2.trans w2.nd s6, w4, e2.mono s6.ex, it2.mono s6.ex, k1, k2, dpAll_mono s6.ex da⟩
    · have ei : i = ds.length := by omega
      subst ei
      rw [List.drop_length] at fr
      cases fr with
      | nil =>
        refine .inl ⟨g2 (Nat.le_refl _), ?_⟩
        rw [List.append_nil] at er
        subst er
        exact q D va H2 H02 s2 w2 hD0 d0 hDρ d2 da
end
end GX

set_option Elab.async false
set_option linter.all false
set_option maxRecDepth 100000
set_option maxHeartbeats 4000000
set_option exponentiation.threshold 2000
namespace K01
variable [DL.Tbs]
open PySem PySem.Spec PyProof.Rows L2 DL HX GX RT SX
def efD (e : Ef) : PyData := .tuple [vD e.1, fr e.2]
def efB (a b : Nat) (e : Ef) : Prop := e.1.length = 4 ∧ szV a e.1 ∧ sz b e.2
theorem laid_take (es : List Ef) (k : Nat) (e : Ef) (h : es[k]? = some e) : RT.laid (es.take (k + 1)) = laidF (RT.laid (es.take k)) e := by
  unfold RT.laid
  rw [List.take_add_one, h, List.foldl_append]
  rfl
theorem laid_sz {a b : Nat} : ∀ {es : List Ef}, (∀ e, e ∈ es → efB a b e) → (RT.laid es).length = 4 ∧ szV (es.length * (a + b + 1)) (RT.laid es) := by
  intro es h
  have key : ∀ (l : List Ef) (v : Vl) (n : Nat), (∀ e, e ∈ l → efB a b e) → v.length = 4 → szV n v → (l.foldl laidF v).length = 4 ∧ szV (n + l.length * (a + b + 1)) (l.foldl laidF v) := by
    intro l
    induction l with
    | nil => intro v n _ h4 hz; exact ⟨h4, by simpa using hz⟩
    | cons e l ih =>
      intro v n hh h4 hz
      obtain ⟨e4, ea, eb⟩ := hh e (by simp)
      have h1 : (laidF v e).length = 4 := by
        unfold laidF
        rw [add_len (by rw [mul_len, e4, h4]), e4]
      have h2 : szV (a + (n + b) + 1) (laidF v e) := szV_add ea (szV_mul hz eb)
      obtain ⟨r1, r2⟩ := ih (laidF v e) _ (fun x hx => hh x (List.mem_cons_of_mem _ hx)) h1 h2
      refine ⟨r1, szV_up r2 ?_⟩
      rw [List.length_cons, Nat.succ_mul]
      omega
  have := key es zero4 0 h rfl (by intro q hq; simp [zero4] at hq; rw [hq]; exact sz_zero)
  rw [Nat.zero_add] at this
  exact this
section
variable {P : Program} {w : World} {K : PySem.W.Frag} {mg : Str → Option Value} {base : Heap}
/-- a list of pairs, item by item -/
theorem lcPair {α : Type} {i j : Nat} {vs : List Nat} {esw : List Sl} {te : TE} {m : M} (a b : α → PyData) (f : α → PyData) (hi : i ∈ vs) (hj : j ∈ vs) : ∀ {ls : List α}, (∀ x, x ∈ ls → EvE K te ((esw.set i (.d (a x))).set j (.d (b x))) m (.d (f x)) m) →
    LcR K (gTup K 2 (gCons (gName i) (gCons (gName j) gNil))) tYes te esw vs (ls.map fun x => .tuple [a x, b x]) m (ls.map f) m
  | [], _ => .nil
  | x :: ls, h => .yes (gv_tup (gvs_cons gv_name (gvs_cons gv_name gvs_nil)) rfl) (fun k hk => by
      rcases List.mem_append.mp hk with hk | hk
      · rw [List.mem_singleton.mp hk]; exact hi
      · rcases List.mem_append.mp hk with hk | hk
        · rw [List.mem_singleton.mp hk]; exact hj
        · cases hk) eb_yes (h x List.mem_cons_self) (lcPair a b f hi hj fun y hy => h y (List.mem_cons_of_mem _ hy))
theorem zip_fr (v w : Vl) : zipD (v.map fr) (w.map fr) = (v.zip w).map fun x => .tuple [fr x.1, fr x.2] := by
  unfold zipD
  rw [List.zipWith_map]
  rw [List.zip, List.map_zipWith]
theorem eig_zipV {ta : TA} {es : List Sl} {m m1 : M} {v w : Vl} (h : EvA K ta es m [.d (vD v), .d (vD w)] m1) (hl : v.length = w.length) : EvIG K (RZ.iZipA K ta) es m ((v.zip w).map fun x => .tuple [fr x.1, fr x.2]) m1 := by
  rw [← zip_fr]
  exact eig_zip h (by rw [List.length_map, List.length_map, hl])
theorem add_fr (v w : Vl) : ((v.zip w).map fun x => fr (x.1 + x.2)) = (addV v w).map fr := by
  unfold addV
  rw [List.zip, List.map_zipWith, List.map_zipWith]
theorem sv_forGG {es : List Sl} {m m1 : M} {n : Nat} {wi : TI} {g : TG} {tb rest : TS} {ds : List PyData} {o : Out} (J : Nat → List Sl → M → Prop) (hi : EvIG K wi es m ds m1) (h0 : J 0 es m1)
    (st : ∀ (l : Nat) (d : PyData) (es : List Sl) (m : M), ds[l]? = some d → J l es m → ∃ is es1, Gv K g is (.d d) es es1 ∧ ∃ es2 m2, Sv K n tb es1 m (.nx es2 m2) ∧ J (l + 1) es2 m2)
    (hd : ∀ es m, J ds.length es m → Sv K n rest es m o) : Sv K n (tSeq (tFor wi g tb) rest) es m o := by
  obtain ⟨es', m', f, h⟩ := forG (K := K) (n := n) (g := g) (tb := tb) J ds 0 es m1 h0 (by simpa using st)
  rw [Nat.zero_add] at h
  exact sv_seq (GX.sv_forG hi f) (hd es' m' h)
abbrev R_laid : List PyData → PyData → Prop := fun ds y => ∃ (es : List Ef) (a b : Nat), ds = [.list (es.map efD)] ∧ es.length ≤ 4 ∧ (∀ e, e ∈ es → efB a b e) ∧ 4 * (a + b + 1) ≤ 400 ∧ y = vD (RT.laid es)
theorem c_laid {k : Nat} (b_tuple : mg "tuple" = none) (b_zip : mg "zip" = none) (h_NOTHING : ∃ a, mg "NOTHING" = some (.ref a) ∧ ∀ H, Dp K H (.ref a) (vD zero4)) (TD : DefT K mg "laid" st_laid ["effects"]) (D_plus : PureC P w K mg base k "plus" ["one", "other"] (R_two (· + ·))) (D_weakened : PureC P w K mg base k "weakened" ["value", "fraction"] R_weak) :
    PureC P w K mg base (k + 1) "laid" ["effects"] R_laid := by
  refine mkPure TD S_laid fun f cdv A outer s H E hr => ?_
  refine ⟨_, (pss_cons (ps_set (i := 1) S_laid.nd rfl (Or.inl rfl) (pe_glob (v := .ref h_NOTHING.choose) (by rfl) h_NOTHING.choose_spec.1 rfl))
      (pss_cons (ps_for PassesOwn.never rfl (kSeq (K := K) (pv 0)) (kTupG (K := K) rfl (pgs_cons (pg_name (i := 2) S_laid.nd rfl (Or.inl rfl)) (pgs_cons (pg_name (i := 3) S_laid.nd rfl (Or.inl rfl)) pgs_nil))) (pss_one (ps_set (i := 1) S_laid.nd rfl (Or.inl rfl) (pe_callTy (kTup (K := K)) (by rfl) b_tuple (by decide +kernel) (pa_cons (pe_lc (own := [("one", 4), ("other", 5)]) (by rfl) S_laid.nd (GX.kZip (K := K) (by rfl) b_zip (pa_cons (pv 2) (pa_cons (pe_def D_weakened (hr.mono (by omega)) (by rfl) pass0 (pa_cons (pv 1) (pa_cons (pv 3) pa_nil))) pa_nil))) (blkOk_by (N := N_laid) (sc := defScope st_laid) (by decide +kernel)) (fun _ _ _ _ _ => kTupG (K := K) (n := 2) rfl (pgs_cons (pg_name (i := 4) S_laid.nd rfl (by first | exact Or.inl rfl | exact Or.inr rfl)) (pgs_cons (pg_name (i := 5) S_laid.nd rfl (by first | exact Or.inl rfl | exact Or.inr rfl)) pgs_nil))) (fun _ _ _ _ _ => pts_nil) (fun _ _ _ _ _ => (pe_def D_plus (hr.mono (by omega)) (by rfl) pass0 (pa_cons (pv 4) (pa_cons (pv 5) pa_nil))))) pa_nil)))))
      (pss_one (ps_ret (pv 1))))), ?_⟩
  rintro ds m y hl ⟨es, a, b, rfl, h4, hb, hab, rfl⟩
  refine sv_seq (es1 := [.d (.list (es.map efD)), .d (vD zero4), .no, .no, .no, .no]) (m1 := m) (sv_set (ev_glob h_NOTHING.choose_spec.2)) ?_
  refine K01.sv_forG (m1 := m) (ds := es.map efD) (fun k e2 mm => mm = m ∧ k ≤ es.length ∧ ∃ x2 x3, e2 = [.d (.list (es.map efD)), .d (vD (RT.laid (es.take k))), x2, x3, .no, .no]) (ei_seqL (ev_var rfl nofun)) ⟨rfl, Nat.zero_le _, _, _, rfl⟩ ?st ?fin
  case fin =>
    rintro e2 mm ⟨rfl, _, x2, x3, rfl⟩
    rw [List.length_map, List.take_length]
    exact sv_ret0 (ev_var rfl nofun)
  case st =>
    rintro k d e2 mm hd ⟨rfl, hk, x2, x3, rfl⟩
    rw [List.getElem?_map] at hd
    obtain ⟨⟨v, q⟩, he, rfl⟩ := Option.map_eq_some_iff.mp hd
    have hlt := (List.getElem?_eq_some_iff.mp he).1
    obtain ⟨v4, va, qb⟩ := hb (v, q) (List.mem_of_getElem? he)
    obtain ⟨s4, ss⟩ := laid_sz (es := es.take k) (a := a) (b := b) fun e h => hb e (List.mem_of_mem_take h)
    rw [laid_take es k _ he]
    rw [List.length_take, Nat.min_eq_left hk] at ss
    have hk3 : k * (a + b + 1) + (a + b + 1) ≤ 4 * (a + b + 1) := by
      rw [← Nat.succ_mul]
      exact Nat.mul_le_mul_right _ (by omega)
    generalize RT.laid (es.take k) = seen at s4 ss
    refine ⟨_, [.d (.list (es.map efD)), .d (vD seen), .d (vD v), .d (fr q), .no, .no], gv_tup (gvs_cons gv_name (gvs_cons gv_name gvs_nil)) rfl, ?_⟩
    refine ⟨_, _, sv_set (r := .d (vD (laidF seen (v, q)))) ?_, rfl, hlt, _, _, rfl⟩
    refine ev_cast (ev_cb (arg1 (el_d (el_lcG (vs := [4, 5]) (eig_zipV (v := v) (w := mulV seen q) (arg2 (ev_var (i := 2) rfl nofun) (ev_pure (arg2 (ev_var (i := 1) rfl nofun) (ev_var (i := 3) rfl nofun)) (ds := [vD seen, fr q]) rfl ⟨seen, q, rfl, by omega, szV_up ss (by omega), sz_up qb (by omega), rfl⟩ rfl)) (by rw [mul_len, v4, s4])) (lcPair (α := Rat × Rat) (i := 4) (j := 5) (vs := [4, 5]) (fun x => fr x.1) (fun x => fr x.2) (fun x => fr (x.1 + x.2)) (by simp) (by simp) fun x hx => ?_) (by rw [List.length_map, List.length_zip, v4]; omega)))) c_tupL) ?_
    · have hx' := List.of_mem_zip hx
      exact ev_pure (arg2 (ev_var rfl nofun) (ev_var rfl nofun)) (ds := [fr x.1, fr x.2]) rfl ⟨x.1, x.2, rfl, sz_up (va _ hx'.1) (by omega), sz_up (szV_mul ss qb _ hx'.2) (by omega), rfl⟩ rfl
    · rw [add_fr]
      rfl
end
end K01

set_option Elab.async false
set_option linter.all false
set_option maxRecDepth 100000
namespace GX
variable [DL.Tbs]
open PySem PySem.Spec PyProof.Rows L2 DL StX
/-! ### a dict beside the cells: displays, calls, statements, lists -/
theorem kNew {X : Cx} {P : Program} {w : World} {pos : Pos} (hP : X.prog = P := by rfl) (hw : X.w = w := by rfl) : PE X (.Dict [] [] pos) (tNew P w) := hP ▸ hw ▸ pe_nnew
theorem kSetd {X : Cx} {P : Program} {w : World} {K : PySem.W.Frag} {o e f : Expr} {td ty tx : TE} {apos cpos : Pos} (hu : X.A.units + 64 < cLine) (ho : PE X o td) (he : PE X e ty) (hf : PE X f tx)
    (m1 : attributeBase o "setdefault" X.env (eval o X.env) = eval o X.env := by rfl) (m2 : ((backTo cpos (starEach [e, f] X.env)).all (fun x => !x.1) && (backToKw cpos (keywordEach [] X.env)).all (fun x => x.1.isSome)
    && decide (([e, f] : List Expr).length + ([] : List Keyword).length + (if ([] : List Keyword).isEmpty then 0 else 1) < 30)) = true := by rfl) (m3 : (apos.endLine == cpos.line) = true := by rfl) (m4 : backTo cpos (starEach [e, f] X.env) = [(false, eval e X.env), (false, eval f X.env)] := by rfl)
    (hP : X.prog = P := by rfl) (hw : X.w = w := by rfl) (hK : X.K = K := by rfl) : PE X (.Call (.Attribute o "setdefault" apos) [e, f] [] cpos) (tNSetd P w K td ty tx) := hP ▸ hw ▸ hK ▸ pe_nsetd hu ho he hf ⟨m1, m2, m3, m4⟩
theorem kNLen {X : Cx} {P : Program} {w : World} (hP : X.prog = P := by rfl) (hw : X.w = w := by rfl) : CallR X (.builtin "len") (rNLen P w) := hP ▸ hw ▸ cr_nlen
theorem kNKeys {X : Cx} {P : Program} {w : World} {tg e : Expr} {td : TE} (he : PE X e td) (hP : X.prog = P := by rfl) (hw : X.w = w := by rfl) : PI X tg e (iNKeys P w td) := hP ▸ hw ▸ pi_nkeys he
abbrev Kvs : Type := List (NestedKey × Int)
section
variable (P : Program) (w : World) (K : PySem.W.Frag)
def EdA (ta : TA) (es : List Sl) (m : M) (d : Addr) (ks : Kvs) (rs : List Sl) (m1 : M) (ks1 : Kvs) : Prop :=
  ∀ σ H H0 ρ, Wd K H0 H ρ m → EnvS K H0 ρ σ es → DAt P w K d ks H H0 ρ → ∀ Q : List V → Hp → Prop,
    (∀ vs H' H0', Stp ρ.length (ρ ++ [d]) H0 H (ρ ++ [d]) H0' H' → Wd K H0' H' ρ m1 → DAt P w K d ks1 H' H0' ρ → SlAll K H0' ρ vs rs → Q vs H') → ta σ H Q
def SdN (t : TS) (es : List Sl) (m : M) (d : Addr) (ks : Kvs) (es1 : List Sl) (ks1 : Kvs) : Prop :=
  ∀ σ H H0 ρ, Wd K H0 H ρ m → EnvS K H0 ρ σ es → DAt P w K d ks H H0 ρ → ∀ D : Ends,
    (∀ σ' H' H0', Stp ρ.length (ρ ++ [d]) H0 H (ρ ++ [d]) H0' H' → Wd K H0' H' ρ m → DAt P w K d ks1 H' H0' ρ → EnvS K H0' ρ σ' es1 → D.nx σ' H') → t D σ H
def SdR (t : TS) (es : List Sl) (m : M) (d : Addr) (ks : Kvs) (y : PyData) (ks1 : Kvs) : Prop :=
  ∀ σ H H0 ρ, Wd K H0 H ρ m → EnvS K H0 ρ σ es → DAt P w K d ks H H0 ρ → ∀ D : Ends,
    (∀ v H' H0', Stp ρ.length (ρ ++ [d]) H0 H (ρ ++ [d]) H0' H' → Wd K H0' H' ρ m → DAt P w K d ks1 H' H0' ρ → Dp K H0' v y → D.rt v H') → t D σ H
end
section
variable {P : Program} {w : World} {K : PySem.W.Frag} {es es1 : List Sl} {m m1 m2 m3 : M} {te ta tb : TE} {tt : TT} {d : Addr} {ks ks1 ks2 : Kvs} {r : Sl} {y : PyData}
theorem eda_lift {t : TA} {rs : List Sl} (h : EvA K t es m rs m1) : EdA P w K t es m d ks rs m1 ks := fun σ H H0 ρ wd e da Q q =>
  h σ H H0 ρ wd e _ fun vs H' H0' s w' k => q vs H' H0' (stp_more s) w' (dAt_keep da s) k
theorem eda_nil : EdA P w K tNil es m d ks [] m ks := eda_lift ea_nil
theorem eda_cons {t : TA} {rs : List Sl} (h1 : EvD P w K te es m d ks r m1 ks1) (h2 : EdA P w K t es m1 d ks1 rs m2 ks2) : EdA P w K (tCons te t) es m d ks (r :: rs) m2 ks2 := fun σ H H0 ρ wd e da Q q =>
  h1 σ H H0 ρ wd e da _ fun u H' H0' s' w' da' ku => h2 σ H' H0' ρ w' (e.mono s'.ex) da' _ fun vs H2 H02 s2 w2 da2 kv => q (u :: vs) H2 H02 (s'.trans (cell_ne w' da') s2) w2 da2 (.cons (ku.mono s2.ex) kv)
theorem eda_starL {t : TA} {ds : List PyData} {rs : List Sl} (h : EvD P w K te es m d ks (.d (.list ds)) m1 ks1) (h2 : EdA P w K t es m1 d ks1 rs m2 ks2) : EdA P w K (tStar K te t) es m d ks (ds.map .d ++ rs) m2 ks2 := fun σ H H0 ρ wd e da Q q =>
  h σ H H0 ρ wd e da _ fun v H1 H01 s1 w1 da1 k1 => by
    have k1 : Dp K H01 v (.list ds) := k1
    cases k1 with
    | lst hs hd => exact ⟨_, _, rfl, .inr (Evl.ex_l w1.ex hs), h2 σ H1 H01 ρ w1 (e.mono s1.ex) da1 _ fun vs H2 H02 s2 w2 da2 k2 => q _ H2 H02 (s1.trans (cell_ne w1 da1) s2) w2 da2 (slAll_app (dpAll_mono s2.ex hd) k2)⟩
theorem ed_tup {t : TA} {rs : List Sl} {ds : List PyData} (h : EdA P w K t es m d ks rs m1 ks1) (e : rs = ds.map .d) (hl : ds.length ≤ 1000) : EvD P w K (tTup t) es m d ks (.d (.tuple ds)) m1 ks1 := fun σ H H0 ρ wd ee da Q q => by
  subst e
  refine h σ H H0 ρ wd ee da _ fun vs H' H0' s' w' da' kv => ?_
  have hd := slAll_d kv
  refine ⟨Nat.le_of_lt (small1000 (by rw [dpAll_len hd]; exact hl)), fun p hp => ?_⟩
  obtain ⟨w2, s2⟩ := w'.new (n := ρ.length) (o := .tup vs) hp
  exact q _ _ _ (s'.trans (cell_ne w' da') (stp_more s2)) w2 (dAt_keep da' s2) (Dp.tup (.inl (.inl upd_same)) (dpAll_mono s2.ex hd))
theorem ed_ifT (h : EvB K tt es m true m1) (h1 : EvD P w K ta es m1 d ks r m2 ks1) : EvD P w K (tIf tt ta tb) es m d ks r m2 ks1 := fun σ H H0 ρ wd e da Q q =>
  h σ H H0 ρ wd e _ fun H1 H01 s1 w1 => iteT (h1 σ H1 H01 ρ w1 (e.mono s1.ex) (dAt_keep da s1) Q fun v H2 H02 s2 w2 da2 k2 => q v H2 H02 ((stp_more s1).trans (cell_ne w1 (dAt_keep da s1)) s2) w2 da2 k2)
theorem ed_ifF (h : EvB K tt es m false m1) (h1 : EvD P w K tb es m1 d ks r m2 ks1) : EvD P w K (tIf tt ta tb) es m d ks r m2 ks1 := fun σ H H0 ρ wd e da Q q =>
  h σ H H0 ρ wd e _ fun H1 H01 s1 w1 => iteF (h1 σ H1 H01 ρ w1 (e.mono s1.ex) (dAt_keep da s1) Q fun v H2 H02 s2 w2 da2 k2 => q v H2 H02 ((stp_more s1).trans (cell_ne w1 (dAt_keep da s1)) s2) w2 da2 k2)
theorem ed_cast {r' : Sl} (h : EvD P w K te es m d ks r m1 ks1) (e : r = r') : EvD P w K te es m d ks r' m1 ks1 := e ▸ h
/-- len(d) -/
theorem ed_len {i : Nat} (hi : es[i]? = some (.v (.ref d))) (hl : ks.length ≤ 4000) : ∀ σ H H0 ρ, Wd K H0 H ρ m → EnvS K H0 ρ σ es → DAt P w K d ks H H0 ρ → ∀ Q : VK, Q (.int (ks.length : Nat)) H → tCB (rNLen P w) (tCons (tVar i) tNil) σ H Q := fun σ H H0 ρ wd e da Q q => by
  rcases e.2 i _ hi with z | ⟨v, h1, h2⟩
  · cases z
  have h2 : v = .ref d := h2
  subst h2
  obtain ⟨_, _, xs, c, _, f⟩ := da
  have hx : xs.length = ks.length := by rw [← f, List.length_map]
  exact ⟨_, h1, d, xs, rfl, c, by omega, by rw [hx]; exact q⟩
theorem ed_var {i : Nat} (hi : es[i]? = some (.v (.ref d))) : ∀ σ H H0 ρ, EnvS K H0 ρ σ es → ∀ Q : VK, Q (.ref d) H → tVar i σ H Q := fun σ H H0 ρ e Q q => by
  rcases e.2 i _ hi with z | ⟨v, h1, h2⟩
  · cases z
  have h2 : v = .ref d := h2
  subst h2
  exact ⟨_, h1, q⟩
/-! ### statements -/
theorem sd_lift {t : TS} (h : Sv K m.length t es m (.nx es1 m)) : SdN P w K t es m d ks es1 ks := fun σ H H0 ρ wd e da D q =>
  h σ H H0 ρ (by rw [wd.len]; exact Nat.le_refl _) wd e D fun σ' ρ' H' H0' s' w' e' => by
    have hl : ρ'.length = ρ.length := by rw [w'.len, wd.len]
    have er : ρ' = ρ := by
      have p := s'.pre
      rw [← wd.len, ← hl, List.take_length, hl, List.take_length] at p
      exact p
    subst er
    rw [← wd.len] at s'
    exact q σ' H' H0' (stp_more s') w' (dAt_keep da s') e'
theorem sd_seq {t u : TS} (h1 : SdN P w K t es m d ks es1 ks1) (h2 : SdR P w K u es1 m d ks1 y ks2) : SdR P w K (tSeq t u) es m d ks y ks2 := fun σ H H0 ρ wd e da D q =>
  h1 σ H H0 ρ wd e da _ fun σ1 H1 H01 s1 w1 da1 e1 => h2 σ1 H1 H01 ρ w1 e1 da1 D fun v H2 H02 s2 w2 da2 k2 => q v H2 H02 (s1.trans (cell_ne w1 da1) s2) w2 da2 k2
theorem sd_ret (h : EvD P w K te es m d ks (.d y) m ks1) : SdR P w K (tRet te) es m d ks y ks1 := fun σ H H0 ρ wd e da D q => h σ H H0 ρ wd e da _ fun v H' H0' s' w' da' k' => q v H' H0' s' w' da' k'
theorem sd_set {i : Nat} (h : EvD P w K te es m d ks r m ks1) : SdN P w K (tAsg te (gName i)) es m d ks (es.set i r) ks1 := fun σ H H0 ρ wd e da D q =>
  h σ H H0 ρ wd e da _ fun v H' H0' s' w' da' k' => q _ H' H0' s' w' da' ((e.mono s'.ex).set k')
theorem sd_ifsT {t u v : TS} (h : EvB K tt es m true m) (h1 : SdR P w K (tSeq t v) es m d ks y ks1) : SdR P w K (tSeq (tIfS tt t u) v) es m d ks y ks1 := fun σ H H0 ρ wd e da D q =>
  h σ H H0 ρ wd e _ fun H1 H01 s1 w1 => iteT (h1 σ H1 H01 ρ w1 (e.mono s1.ex) (dAt_keep da s1) D fun v H2 H02 s2 w2 da2 k2 => q v H2 H02 ((stp_more s1).trans (cell_ne w1 (dAt_keep da s1)) s2) w2 da2 k2)
theorem sd_ifsF {t v : TS} (h : EvB K tt es m false m) (h1 : SdR P w K v es m d ks y ks1) : SdR P w K (tSeq (tIfS tt t tNext) v) es m d ks y ks1 := fun σ H H0 ρ wd e da D q =>
  h σ H H0 ρ wd e _ fun H1 H01 s1 w1 => iteF (h1 σ H1 H01 ρ w1 (e.mono s1.ex) (dAt_keep da s1) D fun v H2 H02 s2 w2 da2 k2 => q v H2 H02 ((stp_more s1).trans (cell_ne w1 (dAt_keep da s1)) s2) w2 da2 k2)
theorem sd_out {t v : TS} (h : SdR P w K t es m d ks y ks1) : SdR P w K (tSeq t v) es m d ks y ks1 := fun σ H H0 ρ wd e da D q => h σ H H0 ρ wd e da _ q
/-! ### defs -/
variable (P w K) in
def spK (g : PyData → Kvs → PyData → Kvs → Prop) : Sp := fun vs H Q _ => ∃ v d H0 ρ m x y ks ks', vs = [v, .ref d] ∧ Wd K H0 H ρ m ∧ DAt P w K d ks H H0 ρ ∧ Dp K H0 v x ∧ g x ks y ks' ∧
  ∀ u H' H0', Stp ρ.length (ρ ++ [d]) H0 H (ρ ++ [d]) H0' H' → Wd K H0' H' ρ m → DAt P w K d ks' H' H0' ρ → Dp K H0' u y → Q u H'
theorem ed_call {g : PyData → Kvs → PyData → Kvs → Prop} {E : XK} {i : Nat} {x : PyData} (h : EvE K ta es m (.d x) m) (hi : es[i]? = some (.v (.ref d))) (hg : g x ks y ks1) : EvD P w K (tCall (spK P w K g) [] E (tCons ta (tCons (tVar i) tNil))) es m d ks (.d y) m ks1 := fun σ H H0 ρ wd e da Q q =>
  h σ H H0 ρ wd e _ fun v H1 H01 s1 w1 k1 => ed_var hi σ H1 H01 ρ (e.mono s1.ex) _ (by
    show spK P w K g ([v, .ref d] ++ []) H1 Q E
    rw [List.append_nil]
    exact ⟨v, d, H01, ρ, m, x, y, ks, ks1, rfl, w1, dAt_keep da s1, k1, hg, fun u H2 H02 s2 w2 da2 k2 => q u H2 H02 ((stp_more s1).trans (cell_ne w1 (dAt_keep da s1)) s2) w2 da2 k2⟩)
theorem mkDefK {mg : Str → Option Value} {base : Heap} {x : Str} {st : Stmt} {N : List Str} {p1 p2 : Str} {k : Nat} {g : PyData → Kvs → PyData → Kvs → Prop} (T : DefT K mg x st [p1, p2]) (S : FnScope N [p1, p2] (defScope st))
    (hb : ∀ (f : Addr) (cdv : Value) (A : Around) (outer : List Env) (s : Shared) (H : Hp) (E : XK), Room k (A.deeper (envOfC x (defScope st) s.heap.objs.size f cdv)) →
      ∃ t, PSs (cxOf CX0 P w K mg base N x (defScope st) f cdv A outer s H E).nox (defBody st) t ∧ ∀ d m v y ks ks', g v ks y ks' → SdR P w K t ([.d v, .v (.ref d)] ++ List.replicate (N.length - 2) .no) m d ks y ks') :
    DefC P w K mg base CX0 (k + 1) x [p1, p2] (spK P w K g) := by
  obtain ⟨f, fd, F, hm, hB⟩ := T.ex
  refine ⟨f, fd, F.ok S (fun vs H Q E h => ?_) (fun cdv A outer s H vs Q E hr h => ?_), hm, F.kp, hB⟩
  · obtain ⟨v, d, H0, ρ, m, x, y, ks, ks', rfl, _⟩ := h
    rfl
  obtain ⟨t, ht, q⟩ := hb f cdv A outer s H E hr
  refine ⟨t, ht, ?_⟩
  obtain ⟨v, d, H0, ρ, m, x, y, ks, ks', rfl, wd, da, kv, hg, hq⟩ := h
  exact q d m x y ks ks' hg (L2.start N [v, .ref d]) H H0 ρ wd (start_env (rs := [.d x, .v (.ref d)]) (.cons kv (.cons rfl .nil))) da _ hq
/-! ### lists -/
inductive DlR (P : Program) (w : World) (K : PySem.W.Frag) (i : Nat) (te : TE) (esw : List Sl) (m : M) (d : Addr) : List PyData → Kvs → List PyData → Kvs → Prop
  | nil {ks : Kvs} : DlR P w K i te esw m d [] ks [] ks
  | cons {x y : PyData} {xs ys : List PyData} {ks ks1 ks2 : Kvs} : EvD P w K te (esw.set i (.d x)) m d ks (.d y) m ks1 → DlR P w K i te esw m d xs ks1 ys ks2 → DlR P w K i te esw m d (x :: xs) ks (y :: ys) ks2
theorem dAt_off {H H0 : Hp} {ρ : List Addr} {p : Addr} {o : HO} (da : DAt P w K d ks H H0 ρ) (hp : p ≠ d) : DAt P w K d ks (upd H p o) H0 ρ := by
  obtain ⟨a, b, xs, c, e⟩ := da
  exact ⟨a, b, xs, by rw [upd_ne (Ne.symm hp)]; exact c, e⟩
theorem keepK {ρ : List Addr} {H02 H2 H03 H3 : Hp} {D : Addr} {va : List V} (hDρ : D ∉ ρ ++ [d]) (d0 : H02 D = none) (d2 : H2 D = some (.lst va)) (s3 : Stp ρ.length (ρ ++ [d]) H02 H2 (ρ ++ [d]) H03 H3) : H03 D = none ∧ H3 D = some (.lst va) := by
  refine ⟨?_, s3.keep D _ d2 hDρ fun ps z => nomatch z⟩
  cases z : H03 D with
  | none => rfl
  | some u =>
    rcases s3.fresh D u z with y | y | y
    · rw [d0] at y; cases y
    · rw [d2] at y; cases y
    · exact (hDρ (List.mem_of_mem_drop y)).elim
theorem ed_lcTup {wi : TI} {i : Nat} {xs ys : List PyData} (hi : EvI K wi es m xs m) (h : DlR P w K i te (wipeS es [i]) m d xs ks ys ks1) (hl : xs.length ≤ 1000) :
    EvD P w K (tCB (fun xs H Q => ∃ p ys, xs = [V.ref p] ∧ ((SqL K H p ys ∧ ∀ l, H l = none → Q (.ref l) (upd H l (.tup ys))) ∨ (SqT K H p ys ∧ Q (.ref p) H))) (tCons (tLc wi (gName i) tYes te [i]) tNil)) es m d ks (.d (.tuple ys)) m ks1 := fun σ H H0 ρ wd e da Q q =>
  hi σ H H0 ρ wd e _ fun J H1 H01 s1 w1 it => fun D hD => by
    have da1 := dAt_keep da s1
    have hD0 : H D = none := s1.dom D hD
    have hDd : D ≠ d := fun z => by
      obtain ⟨_, _, xs', c, _⟩ := da1
      rw [z, c] at hD; cases hD
    have hDρ0 : D ∉ ρ := w1.notin hD
    have hDρ : D ∉ ρ ++ [d] := fun z => by
      rcases List.mem_append.mp z with z | z
      · exact hDρ0 z
      · exact hDd (List.mem_singleton.mp z)
    refine ⟨fun j k H2 => k = xs.length - j ∧ j ≤ xs.length ∧ ∃ acc va rs1 H02 ks3, ys = acc ++ rs1 ∧ acc.length ≤ j ∧ DlR P w K i te (wipeS es [i]) m d (xs.drop j) ks3 rs1 ks1 ∧ Stp ρ.length (ρ ++ [d]) H0 H (ρ ++ [d]) H02 H2 ∧ Wd K H02 H2 ρ m ∧ EnvS K H02 ρ σ es ∧ DAt P w K d ks3 H2 H02 ρ ∧ ItOk K J H02 xs ∧ H02 D = none ∧ H2 D = some (.lst va) ∧ DpAll K H02 va acc,
      ⟨xs.length, by omega, Nat.zero_le _, [], [], ys, H01, ks, rfl, Nat.le_refl _, h, (stp_more s1).off hD0, w1.off (Evl.fresh_back w1.ex hD) hDρ0 (.inl hD), e.mono s1.ex, dAt_off da1 hDd, it, Evl.fresh_back w1.ex hD, upd_same, .nil⟩, fun j k H2 hW => ?_⟩
    obtain ⟨rfl, hle, acc, va, rs1, H02, ks3, er, hacc, fr, s2, w2, e2, da2, it2, d0, d2, dd⟩ := hW
    obtain ⟨g1, g2, g3⟩ := it2 j H2 w2.ex
    by_cases hlt : j < xs.length
    · refine .inr ⟨g1 hlt, ?_⟩
      have hd : xs[j]? = some xs[j] := List.getElem?_eq_getElem hlt
      rw [drop_cons hd] at fr
      have hvl := dpAll_len dd
      cases fr with
      | @cons _ y1 _ ys1 _ ks4 _ he hr =>
        refine ⟨fun H' => ∃ va' H04, Stp ρ.length (ρ ++ [d]) H0 H (ρ ++ [d]) H04 H' ∧ Wd K H04 H' ρ m ∧ EnvS K H04 ρ σ es ∧ DAt P w K d ks4 H' H04 ρ ∧ ItOk K J H04 xs ∧ H04 D = none ∧ H' D = some (.lst va') ∧ DpAll K H04 va' (acc ++ [y1]),
          fun H' ⟨va', H04, s4, w4, e4, da4, it4, z0, z1, z2⟩ => ⟨xs.length - (j + 1), by omega, rfl, hlt, acc ++ [y1], va', ys1, H04, ks4, by rw [er, List.append_assoc]; rfl, by rw [List.length_append, List.length_singleton]; omega, hr, s4, w4, e4, da4, it4, z0, z1, z2⟩, fun x H' yl => ?_⟩
        obtain ⟨rfl, d', q1, q2⟩ := g3 x H' hlt yl
        rw [hd] at q1
        cases q1
        have e3 : EnvS K H02 ρ ((wipe σ [i]).set i (some x)) ((wipeS es [i]).set i (.d xs[j])) := (e2.wipe [i]).set q2
        refine ⟨by rw [wipe_set (by simp), wipe_wipe], ?_⟩
        refine eb_yes (K := K) (m := m) _ H' H02 ρ w2 e3 _ fun H5 H05 s5 w5 => ?_
        have da5 := dAt_keep da2 s5
        refine iteT (he _ H5 H05 ρ w5 (e3.mono s5.ex) da5 _ fun v H4 H04 s4' w4 da4 k4 => ?_)
        have s4 := (stp_more (d := d) s5).trans (cell_ne w5 da5) s4'
        obtain ⟨k1, k2⟩ := keepK hDρ d0 d2 s4
        refine ⟨va, k2, small1000 (by omega), va ++ [v], H04, (s2.trans (cell_ne w2 da2) s4).off hD0, w4.off k1 hDρ0 (.inr ⟨_, k2⟩), e2.mono s4.ex, dAt_off da4 hDd, it2.mono s4.ex, k1, upd_same, dpAll_app (dpAll_mono s4.ex dd) (.cons k4 .nil)⟩
    · have ei : j = xs.length := by omega
      subst ei
      rw [List.drop_length] at fr
      cases fr with
      | nil =>
        refine .inl ⟨g2 (Nat.le_refl _), ?_⟩
        rw [List.append_nil] at er
        subst er
        refine ⟨D, va, rfl, .inl ⟨.inl (.inl d2), fun l hl2 => ?_⟩⟩
        obtain ⟨w5, s5⟩ := w2.new (n := ρ.length) (o := .tup va) hl2
        exact q _ _ _ (s2.trans (cell_ne w2 da2) (stp_more s5)) w5 (dAt_keep da2 s5) (Dp.tup (.inl (.inl upd_same)) (dpAll_mono s5.ex dd))
end
end GX

set_option Elab.async false
set_option linter.all false
set_option maxRecDepth 100000
set_option maxHeartbeats 4000000
set_option exponentiation.threshold 2000
namespace K01
variable [DL.Tbs]
open PySem PySem.Spec PyProof.Rows L2 DL HX GX RT SX StX
/-! ### shapes as keys -/
def keyP (p : Pr) : NestedKey := .tup [.num p.1, .num p.2]
def keyL (l : List Pr) : NestedKey := .tup (l.map keyP)
def keyS (s : Sh) : NestedKey := .tup [.text (rulT s.odd), .tup (s.loops.map keyL)]
theorem key_pr (p : Pr) : GX.keyOf (prD p) = some (keyP p) := by
  unfold prD keyP
  simp [GX.keyOf, keysOf]
theorem keys_map {α : Type} {f : α → PyData} {g : α → NestedKey} (h : ∀ x, GX.keyOf (f x) = some (g x)) : ∀ l : List α, keysOf (l.map f) = some (l.map g)
  | [] => by rw [List.map_nil, List.map_nil, keysOf]
  | x :: l => by rw [List.map_cons, List.map_cons, keysOf, h x, keys_map h l]
theorem key_lo (l : List Pr) : GX.keyOf (loD l) = some (keyL l) := by
  unfold loD keyL
  rw [GX.keyOf, keys_map key_pr]
  rfl
theorem key_sh (s : Sh) : GX.keyOf (shD s) = some (keyS s) := by
  unfold shD keyS
  rw [GX.keyOf, keysOf, keysOf, keysOf, GX.keyOf, GX.keyOf, keys_map key_lo]
  rfl
theorem map_inj' {α β : Type} {f : α → β} (h : ∀ a b, f a = f b → a = b) : ∀ {l r : List α}, l.map f = r.map f → l = r
  | [], [], _ => rfl
  | [], _ :: _, e => by cases e
  | _ :: _, [], e => by cases e
  | a :: l, b :: r, e => by
    rw [List.map_cons, List.map_cons] at e
    injection e with e1 e2
    rw [h _ _ e1, map_inj' h e2]
theorem keyP_inj (a b : Pr) (e : keyP a = keyP b) : a = b := by
  unfold keyP at e
  injection e with e
  injection e with e1 e2
  injection e2 with e2
  injection e1 with e1
  injection e2 with e2
  exact Prod.ext e1 e2
theorem keyL_inj (a b : List Pr) (e : keyL a = keyL b) : a = b := by
  unfold keyL at e
  injection e with e
  exact map_inj' keyP_inj e
theorem keyS_inj (a b : Sh) (e : keyS a = keyS b) : a = b := by
  unfold keyS at e
  injection e with e
  injection e with e1 e2
  injection e2 with e2
  injection e1 with e1
  injection e2 with e2
  have e3 := map_inj' keyL_inj e2
  obtain ⟨o1, l1⟩ := a
  obtain ⟨o2, l2⟩ := b
  have : o1 = o2 := by
    cases o1 <;> cases o2 <;> first | rfl | (exact absurd (show rulT true = rulT false from e1) (by decide)) | (exact absurd (show rulT false = rulT true from e1) (by decide))
  rw [this]
  congr 1
theorem depthL_le {f : Pr → NestedKey} {k : Nat} : True := trivial
theorem depth_all {α : Type} {g : α → NestedKey} {n : Nat} (h : ∀ x, (g x).depth ≤ n) : ∀ l : List α, NestedKey.depthAll (l.map g) ≤ n
  | [] => by simp [NestedKey.depthAll]
  | x :: l => by
    have := depth_all h l
    have := h x
    simp only [List.map_cons, NestedKey.depthAll]
    omega
theorem depth_p (p : Pr) : (keyP p).depth ≤ 2 := by simp [keyP, NestedKey.depth, NestedKey.depthAll]
theorem depth_l (l : List Pr) : (keyL l).depth ≤ 3 := by
  have := depth_all depth_p l
  simp only [keyL, NestedKey.depth]
  omega
theorem depth_s (s : Sh) : (keyS s).depth ≤ 8 := by
  have := depth_all depth_l s.loops
  simp only [keyS, NestedKey.depth, NestedKey.depthAll]
  omega
def kvI : Nat → List Sh → Kvs
  | _, [] => []
  | k, s :: fs => (keyS s, (k : Int)) :: kvI (k + 1) fs
theorem kvI_len : ∀ (k : Nat) (fs : List Sh), (kvI k fs).length = fs.length
  | _, [] => rfl
  | k, s :: fs => by unfold kvI; rw [List.length_cons, List.length_cons, kvI_len]
theorem kvI_app : ∀ (k : Nat) (fs : List Sh) (s : Sh), kvI k (fs ++ [s]) = kvI k fs ++ [(keyS s, ((k + fs.length : Nat) : Int))]
  | k, [], s => rfl
  | k, x :: fs, s => by
    rw [List.cons_append]
    unfold kvI
    rw [kvI_app (k + 1) fs s, List.cons_append, List.length_cons, show k + 1 + fs.length = k + (fs.length + 1) by omega]
theorem look_kv : ∀ (k : Nat) (fs : List Sh) (s : Sh), lookK (kvI k fs) (keyS s) = if s ∈ fs then some ((k + fs.idxOf s : Nat) : Int) else none
  | k, [], s => by simp [kvI, lookK]
  | k, x :: fs, s => by
    unfold kvI lookK
    by_cases e : x = s
    · subst e
      rw [List.find?_cons_of_pos (by simp), if_pos (by simp), List.idxOf_cons_self]
      rfl
    · have ne : keyS x ≠ keyS s := fun z => e (keyS_inj _ _ z)
      rw [List.find?_cons_of_neg (by simpa using ne)]
      have ih := look_kv (k + 1) fs s
      unfold lookK at ih
      rw [ih]
      by_cases hm : s ∈ fs
      · rw [if_pos hm, if_pos (List.mem_cons_of_mem _ hm), List.idxOf_cons, show (x == s) = false from beq_eq_false_iff_ne.mpr e, show k + 1 + fs.idxOf s = k + (fs.idxOf s + 1) by omega]; rfl
      · rw [if_neg hm, if_neg (fun z => by
          rcases List.mem_cons.mp z with z | z
          · exact e z.symm
          · exact hm z)]
def spD0 : SP → PyData
  | .fill n c o => .tuple [.str "fill", .int (n : Nat), .tuple (c.map .int), prD o]
  | .rub n o => .tuple [.str "rub", .int (n : Nat), prD o]
def numD : Option Nat → PyData
  | none => .none
  | some n => .int (n : Nat)
def s1D : S1 → PyData
  | .plain l => spD0 l
  | .grp ls o c => .tuple [.str "group", .tuple (ls.map spD0), prD o, numD c, matD still]
theorem num_len (fs : List Sh) (s : Sh) : (num fs s).2.length ≤ fs.length + 1 := by
  unfold num
  split
  · exact Nat.le_succ _
  · simp
theorem stackPl_len (fs : List Sh) (l : Pl) : (stackPl fs l).2.length ≤ fs.length + 1 := by cases l <;> exact num_len _ _
theorem stackPs_len : ∀ (ls : List Pl) (fs : List Sh), (stackPs fs ls).2.length ≤ fs.length + ls.length
  | [], fs => Nat.le_refl _
  | l :: r, fs => by
    have h1 := stackPl_len fs l
    have h2 := stackPs_len r (stackPl fs l).2
    show (stackPs (stackPl fs l).2 r).2.length ≤ _
    rw [List.length_cons]
    omega
theorem numC_len (fs : List Sh) (c : Option Sh) : (numC fs c).2.length ≤ fs.length + 1 := by
  cases c with
  | none => exact Nat.le_succ _
  | some s => exact num_len _ _
def plc : L1 → Prop
  | .plain _ => True
  | .grp ls _ _ m => ls.length ≤ 4 ∧ m = still
theorem stack1_len {fs : List Sh} {l : L1} (h : plc l) : (stack1 fs l).2.length ≤ fs.length + 5 := by
  cases l with
  | plain l =>
    have := stackPl_len fs l
    show (stackPl fs l).2.length ≤ _
    omega
  | grp ls o c m =>
    have h1 := stackPs_len ls (numC fs c).2
    have h2 := numC_len fs c
    have h3 : ls.length ≤ 4 := h.1
    show (stackPs (numC fs c).2 ls).2.length ≤ _
    omega
section
variable {P : Program} {w : World} {K : PySem.W.Frag} {mg : Str → Option Value} {base : Heap}
theorem ed_num {es : List Sl} {m : M} {d : Addr} {fs : List Sh} {s : Sh} {i j : Nat} (hi : es[i]? = some (.v (.ref d))) (hj : es[j]? = some (.d (shD s))) (hl : fs.length ≤ 900) :
    EvD P w K (tNSetd P w K (tVar i) (tVar j) (tCB (rNLen P w) (tCons (tVar i) tNil))) es m d (kvI 0 fs) (.d (.int ((num fs s).1 : Nat))) m (kvI 0 (num fs s).2) := by
  have q := ed_setd (P := P) (w := w) (K := K) (m := m) (ks := kvI 0 fs) (n := ((kvI 0 fs).length : Nat)) (ed_var hi) (ev_var (K := K) hj nofun) (ed_len (K := K) hi (by rw [kvI_len]; omega)) (key_sh s) (depth_s s) ⟨_, rfl⟩ (by rw [kvI_len, show sizeLine = sizeLine from rfl]; exact Nat.lt_of_le_of_lt hl (by decide))
  rw [look_kv, kvI_len] at q
  unfold num
  by_cases h : s ∈ fs
  · rw [if_pos h] at q ⊢
    rw [Nat.zero_add] at q
    exact q
  · rw [if_neg h] at q ⊢
    have e := kvI_app 0 fs s
    rw [Nat.zero_add] at e
    show EvD P w K _ es m d (kvI 0 fs) (.d (.int (fs.length : Nat))) m (kvI 0 (fs ++ [s]))
    rw [e]
    exact q
def gSt0 : PyData → Kvs → PyData → Kvs → Prop := fun x ks y ks' => ∃ (l : Pl) (fs : List Sh), x = plD l ∧ ks = kvI 0 fs ∧ l.ok ∧ fs.length ≤ 900 ∧ y = spD0 (stackPl fs l).1 ∧ ks' = kvI 0 (stackPl fs l).2
theorem sd_plain {n : TS} {m : M} {d : Addr} {fs : List Sh} {l : Pl} (ho : l.ok) (hl : fs.length ≤ 900) :
    SdR P w K (tSeq (tAsg (tVar 0) (gStar K 2 (gCons (gName 2) (gCons (gName 3) (gCons (gName 4) gNil))))) (tRet (tTup (tCons (tVar 2) (tCons (tNSetd P w K (tVar 1) (tVar 3) (tCB (rNLen P w) (tCons (tVar 1) tNil))) (tStar K (tVar 4) tNil))))))
      [.d (plD l), .v (.ref d), .no, .no, .no, .no, .no, .no, .no, .no] m d (kvI 0 fs) (spD0 (stackPl fs l).1) (kvI 0 (stackPl fs l).2) := by
  cases l with
  | fill s c o =>
    have ho : c.length = 3 := ho
    refine sd_seq (es1 := [.d (plD (.fill s c o)), .v (.ref d), .d (.str "fill"), .d (shD s), .d (.list [.tuple (c.map .int), prD o]), .no, .no, .no, .no, .no]) (sd_lift (sv_star (ev_var rfl nofun) (by simp))) ?_
    exact sd_ret (ed_tup (ds := [.str "fill", .int ((num fs s).1 : Nat), .tuple (c.map .int), prD o]) (eda_cons (ed_lift (ev_var rfl nofun)) (eda_cons (ed_num rfl rfl hl) (eda_starL (ds := [.tuple (c.map .int), prD o]) (ed_lift (ev_var rfl nofun)) eda_nil))) rfl (by simp))
  | rub s o =>
    refine sd_seq (es1 := [.d (plD (.rub s o)), .v (.ref d), .d (.str "rub"), .d (shD s), .d (.list [prD o]), .no, .no, .no, .no, .no]) (sd_lift (sv_star (ev_var rfl nofun) (by simp))) ?_
    exact sd_ret (ed_tup (ds := [.str "rub", .int ((num fs s).1 : Nat), prD o]) (eda_cons (ed_lift (ev_var rfl nofun)) (eda_cons (ed_num rfl rfl hl) (eda_starL (ds := [prD o]) (ed_lift (ev_var rfl nofun)) eda_nil))) rfl (by simp))
theorem eb_kind {es : List Sl} {m : M} {k : Str} {xs : List PyData} (h : es[0]? = some (.d (.tuple (.str k :: xs)))) : EvB K (tTest (tOp (rNeU K) (tOp (rIx K) (tVar 0) (tC (.int 0))) (tC (.str "group")))) es m (!decide (k = "group")) m :=
  eb_test (ev_op (ev_op (ev_var h nofun) ev_int (o_ixT (j := 0) rfl rfl)) ev_str o_neS)
theorem pl_kind (l : Pl) : ∃ k xs, plD l = .tuple (.str k :: xs) ∧ (!decide (k = ("group" : Str))) = true := by
  cases l with
  | fill s c o => exact ⟨_, _, rfl, by decide⟩
  | rub s o => exact ⟨_, _, rfl, by decide⟩
theorem c_stack0 {k : Nat} {sp : Sp} (b_len : mg "len" = none) (TD : DefT K mg "stack_layer" st_stack_layer ["layer", "numbers"]) (D_stack_up : DefC P w K mg base CX0 k "stack_up" ["layers", "numbers"] sp) : DefC P w K mg base CX0 (k + 1) "stack_layer" ["layer", "numbers"] (spK P w K gSt0) := by
  refine mkDefK TD S_stack_layer fun f cdv A outer s H E hr => ?_
  have hu := hr.units
  have hu64 : (cxOf CX0 P w K mg base N_stack_layer "stack_layer" (defScope st_stack_layer) f cdv A outer s H E).nox.A.units + 64 < cLine := by have := hu5_of hr; exact Nat.lt_of_succ_lt this
  refine ⟨_, (pss_cons (ps_if (pt_cmpR (kNe (K := K) hu) (pe_ix (kIx (K := K)) (pv 0) pe_int (fun _ _ => rfl)) pe_str (nomark _)) (pss_cons (ps_asg (pv 0) (GX.kStarG (K := K) (i := 2) rfl (pgs_cons (pg_name (i := 2) S_stack_layer.nd rfl (Or.inl rfl)) (pgs_cons (pg_name (i := 3) S_stack_layer.nd rfl (Or.inl rfl)) (GX.pgs_consS (pg_name (i := 4) S_stack_layer.nd rfl (Or.inl rfl)) pgs_nil)))))
      (pss_one (ps_ret (pe_tup (pa_cons (pv 2) (pa_cons (GX.kSetd (P := P) (w := w) (K := K) hu64 (pv 1) (pv 3) (pe_callB (GX.kNLen (P := P) (w := w)) (by rfl) b_len (by decide +kernel) (pa_cons (pv 1) pa_nil))) (GX.kStar (K := K) (pv 4) pa_nil))))))) pss_nil)
      (pss_cons (ps_asg (pv 0) (kTupG (K := K) rfl (pgs_cons (pg_name (i := 2) S_stack_layer.nd rfl (Or.inl rfl)) (pgs_cons (pg_name (i := 5) S_stack_layer.nd rfl (Or.inl rfl)) (pgs_cons (pg_name (i := 6) S_stack_layer.nd rfl (Or.inl rfl)) (pgs_cons (pg_name (i := 7) S_stack_layer.nd rfl (Or.inl rfl)) (pgs_cons (pg_name (i := 8) S_stack_layer.nd rfl (Or.inl rfl)) pgs_nil)))))))
      (pss_cons (ps_set (i := 9) S_stack_layer.nd rfl (Or.inl rfl) (pe_ifExp (pt_cmpR op_isN (pv 7) pe_non (nomark _)) pe_non (GX.kSetd (P := P) (w := w) (K := K) hu64 (pv 1) (pv 7) (pe_callB (GX.kNLen (P := P) (w := w)) (by rfl) b_len (by decide +kernel) (pa_cons (pv 1) pa_nil)))))
      (pss_one (ps_ret (pe_tup (pa_cons (pv 2) (pa_cons (pe_def D_stack_up (hr.mono (by omega)) (by rfl) pass0 (pa_cons (pv 5) (pa_cons (pv 1) pa_nil))) (pa_cons (pv 6) (pa_cons (pv 9) (pa_cons (pv 8) pa_nil))))))))))), ?_⟩
  rintro d m v y ks ks' ⟨l, fs, rfl, rfl, ho, hl, rfl, rfl⟩
  obtain ⟨kd, xs, ek, hk⟩ := pl_kind l
  refine sd_ifsT (eb_cast (eb_kind (k := kd) (xs := xs) (by show some (Sl.d (plD l)) = _; rw [ek])) hk) (sd_out (sd_plain (n := tNext) ho hl))
def gSu (α : Type) (toD : α → PyData) (ok : α → Prop) (grow : Nat) (st : List Sh → List α → List PyData × List Sh) : PyData → Kvs → PyData → Kvs → Prop := fun x ks y ks' => ∃ (ls : List α) (fs : List Sh), x = .tuple (ls.map toD) ∧ ks = kvI 0 fs ∧ ls.length ≤ 4 ∧ (∀ l, l ∈ ls → ok l) ∧ fs.length + ls.length * grow ≤ 900 ∧ y = .tuple (st fs ls).1 ∧ ks' = kvI 0 (st fs ls).2
theorem c_stackUp {α : Type} {toD : α → PyData} {ok : α → Prop} {grow : Nat} {st1 : List Sh → α → PyData × List Sh} {st : List Sh → List α → List PyData × List Sh} {g : PyData → Kvs → PyData → Kvs → Prop} {k : Nat} (b_tuple : mg "tuple" = none)
    (h0 : ∀ fs, st fs [] = ([], fs)) (h1 : ∀ fs l r, st fs (l :: r) = ((st1 fs l).1 :: (st (st1 fs l).2 r).1, (st (st1 fs l).2 r).2)) (hg : ∀ fs l, ok l → fs.length + grow ≤ 900 → g (toD l) (kvI 0 fs) (st1 fs l).1 (kvI 0 (st1 fs l).2)) (hlen : ∀ fs l, ok l → (st1 fs l).2.length ≤ fs.length + grow)
    (TD : DefT K mg "stack_up" st_stack_up ["layers", "numbers"]) (D_stack_layer : DefC P w K mg base CX0 k "stack_layer" ["layer", "numbers"] (spK P w K g)) : DefC P w K mg base CX0 (k + 1) "stack_up" ["layers", "numbers"] (spK P w K (gSu α toD ok grow st)) := by
  refine mkDefK TD S_stack_up fun f cdv A outer s H E hr => ?_
  refine ⟨_, (pss_one (ps_ret (pe_callTy (kTup (K := K)) (by rfl) b_tuple (by decide +kernel) (pa_cons (pe_lc (own := [("layer", 2)]) (by rfl) S_stack_up.nd (kSeq (K := K) (pv 0)) (blkOk_by (N := N_stack_up) (sc := defScope st_stack_up) (by decide +kernel)) (fun _ _ _ _ _ => pg_name (i := 2) S_stack_up.nd rfl (by first | exact Or.inl rfl | exact Or.inr rfl)) (fun _ _ _ _ _ => pts_nil) (fun _ _ _ _ _ => (pe_def D_stack_layer (hr.mono (by omega)) (by rfl) pass0 (pa_cons (pv 2) (pa_cons (pv 1) pa_nil))))) pa_nil)))), ?_⟩
  rintro d m v y ks ks' ⟨ls, fs, rfl, rfl, h4, hok, hfs, rfl, rfl⟩
  refine sd_ret (ed_lcTup (xs := ls.map toD) (ei_seqT (ev_var rfl nofun)) ?_ (by rw [List.length_map]; omega))
  have key : ∀ (ls : List α) (fs : List Sh) (esw : List Sl), esw[1]? = some (.v (.ref d)) → esw.length = 3 → (∀ l, l ∈ ls → ok l) → fs.length + ls.length * grow ≤ 900 → DlR P w K 2 (tCall (spK P w K g) [] E0 (tCons (tVar 2) (tCons (tVar 1) tNil))) esw m d (ls.map toD) (kvI 0 fs) (st fs ls).1 (kvI 0 (st fs ls).2) := by
    intro ls
    induction ls with
    | nil => intro fs esw _ _ _ _; rw [h0]; exact .nil
    | cons l r ih =>
      intro fs esw he hel hk hf
      rw [List.length_cons, Nat.succ_mul] at hf
      have hl := hk l (by simp)
      rw [h1]
      have l1 := hlen fs l hl
      refine .cons (ed_call (x := toD l) (ev_var (by rw [List.getElem?_set_self (by omega)]) nofun) (by rw [List.getElem?_set_ne (by decide)]; exact he) (hg fs l hl (by omega))) (ih _ esw he hel (fun x hx => hk x (List.mem_cons_of_mem _ hx)) (by omega))
  exact key ls fs _ rfl rfl hok hfs
def stPs (fs : List Sh) (ls : List Pl) : List PyData × List Sh := ((stackPs fs ls).1.map spD0, (stackPs fs ls).2)
def st1s (fs : List Sh) (ls : List L1) : List PyData × List Sh := ((stack1s fs ls).1.map s1D, (stack1s fs ls).2)
abbrev gSu0 := gSu Pl plD Pl.ok 1 stPs
def ok1 (l : L1) : Prop := l.ok ∧ plc l
abbrev gSu1 := gSu L1 l1D ok1 5 st1s
theorem c_stackUp0 {k : Nat} (b_tuple : mg "tuple" = none) (TD : DefT K mg "stack_up" st_stack_up ["layers", "numbers"]) (D_stack_layer : DefC P w K mg base CX0 k "stack_layer" ["layer", "numbers"] (spK P w K gSt0)) : DefC P w K mg base CX0 (k + 1) "stack_up" ["layers", "numbers"] (spK P w K gSu0) :=
  c_stackUp (st1 := fun fs l => (spD0 (stackPl fs l).1, (stackPl fs l).2)) b_tuple (fun _ => rfl) (fun _ _ _ => rfl) (fun fs l ho hf => ⟨l, fs, rfl, rfl, ho, by omega, rfl, rfl⟩) (fun fs l _ => stackPl_len fs l) TD D_stack_layer
def gSt1 : PyData → Kvs → PyData → Kvs → Prop := fun x ks y ks' => ∃ (l : L1) (fs : List Sh), x = l1D l ∧ ks = kvI 0 fs ∧ ok1 l ∧ fs.length + 5 ≤ 900 ∧ y = s1D (stack1 fs l).1 ∧ ks' = kvI 0 (stack1 fs l).2
theorem c_stack1 {k : Nat} (b_len : mg "len" = none) (TD : DefT K mg "stack_layer" st_stack_layer ["layer", "numbers"]) (D_stack_up : DefC P w K mg base CX0 k "stack_up" ["layers", "numbers"] (spK P w K gSu0)) : DefC P w K mg base CX0 (k + 1) "stack_layer" ["layer", "numbers"] (spK P w K gSt1) := by
  refine mkDefK TD S_stack_layer fun f cdv A outer s H E hr => ?_
  have hu := hr.units
  have hu64 : (cxOf CX0 P w K mg base N_stack_layer "stack_layer" (defScope st_stack_layer) f cdv A outer s H E).nox.A.units + 64 < cLine := by have := hu5_of hr; exact Nat.lt_of_succ_lt this
  refine ⟨_, (pss_cons (ps_if (pt_cmpR (kNe (K := K) hu) (pe_ix (kIx (K := K)) (pv 0) pe_int (fun _ _ => rfl)) pe_str (nomark _)) (pss_cons (ps_asg (pv 0) (GX.kStarG (K := K) (i := 2) rfl (pgs_cons (pg_name (i := 2) S_stack_layer.nd rfl (Or.inl rfl)) (pgs_cons (pg_name (i := 3) S_stack_layer.nd rfl (Or.inl rfl)) (GX.pgs_consS (pg_name (i := 4) S_stack_layer.nd rfl (Or.inl rfl)) pgs_nil)))))
      (pss_one (ps_ret (pe_tup (pa_cons (pv 2) (pa_cons (GX.kSetd (P := P) (w := w) (K := K) hu64 (pv 1) (pv 3) (pe_callB (GX.kNLen (P := P) (w := w)) (by rfl) b_len (by decide +kernel) (pa_cons (pv 1) pa_nil))) (GX.kStar (K := K) (pv 4) pa_nil))))))) pss_nil)
      (pss_cons (ps_asg (pv 0) (kTupG (K := K) rfl (pgs_cons (pg_name (i := 2) S_stack_layer.nd rfl (Or.inl rfl)) (pgs_cons (pg_name (i := 5) S_stack_layer.nd rfl (Or.inl rfl)) (pgs_cons (pg_name (i := 6) S_stack_layer.nd rfl (Or.inl rfl)) (pgs_cons (pg_name (i := 7) S_stack_layer.nd rfl (Or.inl rfl)) (pgs_cons (pg_name (i := 8) S_stack_layer.nd rfl (Or.inl rfl)) pgs_nil)))))))
      (pss_cons (ps_set (i := 9) S_stack_layer.nd rfl (Or.inl rfl) (pe_ifExp (pt_cmpR op_isN (pv 7) pe_non (nomark _)) pe_non (GX.kSetd (P := P) (w := w) (K := K) hu64 (pv 1) (pv 7) (pe_callB (GX.kNLen (P := P) (w := w)) (by rfl) b_len (by decide +kernel) (pa_cons (pv 1) pa_nil)))))
      (pss_one (ps_ret (pe_tup (pa_cons (pv 2) (pa_cons (pe_def D_stack_up (hr.mono (by omega)) (by rfl) pass0 (pa_cons (pv 5) (pa_cons (pv 1) pa_nil))) (pa_cons (pv 6) (pa_cons (pv 9) (pa_cons (pv 8) pa_nil))))))))))), ?_⟩
  rintro d m v y ks ks' ⟨l, fs, rfl, rfl, ⟨ho, hp⟩, hl, rfl, rfl⟩
  cases l with
  | plain l =>
    obtain ⟨kd, xs, ek, hk⟩ := pl_kind l
    exact sd_ifsT (eb_cast (eb_kind (k := kd) (xs := xs) (by show some (Sl.d (plD l)) = _; rw [ek])) hk) (sd_out (sd_plain (n := tNext) ho (by omega)))
  | grp ls o c mt =>
    obtain ⟨h4, rfl⟩ : ls.length ≤ 4 ∧ mt = still := hp
    have ho : ∀ l, l ∈ ls → l.ok := ho
    have hcl := numC_len fs c
    refine sd_ifsF (eb_cast (eb_kind (k := "group") (xs := [.tuple (ls.map plD), prD o, clipD c, matD still]) rfl) (by decide)) ?_
    refine sd_seq (es1 := [.d (l1D (.grp ls o c still)), .v (.ref d), .d (.str "group"), .no, .no, .d (.tuple (ls.map plD)), .d (prD o), .d (clipD c), .d (matD still), .no]) (sd_lift (sv_asg (ev_var rfl nofun) (gv_tup (gvs_cons gv_name (gvs_cons gv_name (gvs_cons gv_name (gvs_cons gv_name (gvs_cons gv_name gvs_nil))))) rfl))) ?_
    refine sd_seq (es1 := [.d (l1D (.grp ls o c still)), .v (.ref d), .d (.str "group"), .no, .no, .d (.tuple (ls.map plD)), .d (prD o), .d (clipD c), .d (matD still), .d (numD (numC fs c).1)]) (ks1 := kvI 0 (numC fs c).2) (sd_set (r := .d (numD (numC fs c).1)) ?clip) ?_
    case clip =>
      cases c with
      | none => exact ed_ifT (eb_cast (eb_test (ev_op (ev_var (r := .d .none) rfl nofun) ev_non o_isN)) rfl) (ed_lift ev_non)
      | some sh => exact ed_ifF (eb_cast (eb_test (ev_op (ev_var (r := .d (shD sh)) rfl nofun) ev_non o_isN)) rfl) (ed_num (fs := fs) (s := sh) rfl rfl (by omega))
    refine sd_ret (ed_tup (ds := [.str "group", .tuple ((stackPs (numC fs c).2 ls).1.map spD0), prD o, numD (numC fs c).1, matD still]) (eda_cons (ed_lift (ev_var rfl nofun)) (eda_cons (ed_call (ev_var rfl nofun) rfl ⟨ls, (numC fs c).2, rfl, rfl, h4, ho, by omega, rfl, rfl⟩) (eda_cons (ed_lift (ev_var rfl nofun)) (eda_cons (ed_lift (ev_var rfl nofun)) (eda_cons (ed_lift (ev_var rfl nofun)) eda_nil))))) rfl (by simp))
theorem c_stackUp1 {k : Nat} (b_tuple : mg "tuple" = none) (TD : DefT K mg "stack_up" st_stack_up ["layers", "numbers"]) (D_stack_layer : DefC P w K mg base CX0 k "stack_layer" ["layer", "numbers"] (spK P w K gSt1)) : DefC P w K mg base CX0 (k + 1) "stack_up" ["layers", "numbers"] (spK P w K gSu1) :=
  c_stackUp (st1 := fun fs l => (s1D (stack1 fs l).1, (stack1 fs l).2)) b_tuple (fun _ => rfl) (fun _ _ _ => rfl) (fun fs l ho hf => ⟨l, fs, rfl, rfl, ho, hf, rfl, rfl⟩) (fun fs l ho => stack1_len ho.2) TD D_stack_layer
end
end K01

set_option Elab.async false
set_option linter.all false
set_option maxRecDepth 100000
set_option maxHeartbeats 4000000
set_option exponentiation.threshold 2000
namespace K01
variable [DL.Tbs]
open PySem PySem.Spec PyProof.Rows L2 DL HX GX RT SX StX
def opB (o : Pr) : Prop := 1 ≤ o.1 ∧ o.1 ≤ o.2 ∧ o.2 ≤ 6
def colB (c : List Int) : Prop := c.length = 3 ∧ ∀ k, k ∈ c → 0 ≤ k ∧ k ≤ 9
def spOk (n : Nat) : SP → Prop
  | .fill i c o => i < n ∧ colB c ∧ opB o
  | .rub i o => i < n ∧ opB o
def s1Ok (n : Nat) : S1 → Prop
  | .plain l => spOk n l
  | .grp ls o c => ls.length ≤ 4 ∧ (∀ l, l ∈ ls → spOk n l) ∧ opB o ∧ ∀ i, c = some i → i < n
def insB (bs : List Bool) (n : Nat) : Bool := bs.getD n false
theorem op_sz {o : Pr} (h : opB o) : sz 3 (opq o) := by
  rw [opq_div]
  obtain ⟨h1, h2, h3⟩ := h
  exact low_sz (by omega) (by omega) (by omega)
theorem op_pr {o : Pr} (h : opB o) : prB 50 o ∧ 0 < o.2 := by
  obtain ⟨h1, h2, h3⟩ := h
  exact ⟨⟨Nat.le_trans (show o.1.natAbs ≤ 6 by omega) (by decide), Nat.le_trans (show o.2.natAbs ≤ 6 by omega) (by decide)⟩, by omega⟩
theorem fill_sz {c : List Int} {o : Pr} (hc : colB c) (ho : opB o) : (fillV c o).length = 4 ∧ szV 6 (fillV c o) := by
  refine ⟨fill_len hc.1, fun q hq => ?_⟩
  rcases List.mem_cons.mp hq with rfl | hq
  · exact sz_up (op_sz ho) (by decide)
  · obtain ⟨k, hk, rfl⟩ := List.mem_map.mp hq
    obtain ⟨k0, k9⟩ := hc.2 k hk
    obtain ⟨h1, h2, h3⟩ := ho
    rw [fill_div (by omega)]
    have e1 : (k * o.1).natAbs ≤ 9 * 6 := by
      rw [Int.natAbs_mul]
      exact Nat.mul_le_mul (by omega) (by omega)
    exact low_sz (by omega) (by omega) (by omega)
theorem rest_sz {o : Pr} (h : opB o) : sz 4 (1 - opq o) := sz_rest (op_sz h)
theorem head_sz {k : Nat} {v : Vl} (h : szV k v) : sz k (headV v) := by
  unfold headV
  cases v with
  | nil => exact sz_zero
  | cons a r => exact h a (by simp)
theorem zero_sz {k : Nat} : szV k zero4 := fun q hq => by
  have : q = 0 := by simp [zero4] at hq; exact hq
  rw [this]; exact sz_zero
theorem eff_ok {n : Nat} {ins : Nat → Bool} {l : SP} (h : spOk n l) : efB 6 4 (effPl ins l) := by
  cases l with
  | fill i c o =>
    obtain ⟨_, hc, ho⟩ := h
    obtain ⟨f1, f2⟩ := fill_sz hc ho
    show efB 6 4 (if ins i = true then layE (fillV c o) else (zero4, 1))
    split
    · exact ⟨f1, f2, rest_sz ho⟩
    · exact ⟨rfl, zero_sz, sz_one⟩
  | rub i o =>
    obtain ⟨_, ho⟩ := h
    show efB 6 4 (if ins i = true then (zero4, 1 - opq o) else (zero4, 1))
    split
    · exact ⟨rfl, zero_sz, rest_sz ho⟩
    · exact ⟨rfl, zero_sz, sz_one⟩
theorem shownPs_ok {n : Nat} {ins : Nat → Bool} {ls : List SP} (h : ∀ l, l ∈ ls → spOk n l) (h4 : ls.length ≤ 4) : (shownPs ins ls).length = 4 ∧ szV 44 (shownPs ins ls) := by
  obtain ⟨a, b⟩ := laid_sz (es := ls.map (effPl ins)) (a := 6) (b := 4) fun e he => by
    obtain ⟨l, hl, rfl⟩ := List.mem_map.mp he
    exact eff_ok (h l hl)
  rw [List.length_map] at b
  exact ⟨a, szV_up b (by omega)⟩
section
variable {P : Program} {w : World} {K : PySem.W.Frag} {mg : Str → Option Value} {base : Heap}
def blD (bs : List Bool) : PyData := .list (bs.map .bool)
theorem ev_ins {es : List Sl} {m : M} {te : TE} {bs : List Bool} {i n : Nat} (hi : es[i]? = some (.d (blD bs))) (h : EvE K te es m (.d (.int (n : Nat))) m) (hn : n < bs.length) : EvE K (tOp (rIx K) (tVar i) te) es m (.d (.bool (insB bs n))) m :=
  ev_op (ev_var hi nofun) h (o_ixL (j := n) rfl (by
    rw [List.getElem?_map, List.getElem?_eq_getElem hn]
    unfold insB
    rw [List.getD_eq_getElem?_getD, List.getElem?_eq_getElem hn]
    rfl))
abbrev R_eff0 : List PyData → PyData → Prop := fun ds y => ∃ (l : SP) (bs : List Bool), ds = [spD0 l, blD bs] ∧ spOk bs.length l ∧ y = efD (effPl (insB bs) l)
theorem pr_ev0 : True := trivial
theorem c_eff0 {k : Nat} {R : List PyData → PyData → Prop} (h_NOTHING : ∃ a, mg "NOTHING" = some (.ref a) ∧ ∀ H, Dp K H (.ref a) (vD zero4)) (h_ALL : ∃ a, mg "ALL" = some (.ref a) ∧ ∀ H, Dp K H (.ref a) (fr 1)) (TD : DefT K mg "effect_of" st_effect_of ["layer", "inside"])
    (D_shown_by_group : PureC P w K mg base k "shown_by_group" ["group", "inside"] R) (D_laying : PureC P w K mg base k "laying" ["value"] R_laying) (D_filled : PureC P w K mg base k "filled" ["colour", "opacity"] R_filled) (D_rest_of : PureC P w K mg base k "rest_of" ["fraction"] R_rest) : PureC P w K mg base (k + 1) "effect_of" ["layer", "inside"] R_eff0 := by
  refine mkPure TD S_effect_of fun f cdv A outer s H E hr => ?_
  have hu := hr.units
  refine ⟨_, (pss_cons (ps_if (pt_cmpR (kEq (K := K) hu) (pe_ix (kIx (K := K)) (pv 0) pe_int (fun _ _ => rfl)) pe_str (nomark _)) (pss_one (ps_ret (pe_def D_laying (hr.mono (by omega)) (by rfl) pass0 (pa_cons (pe_def D_shown_by_group (hr.mono (by omega)) (by rfl) pass0 (pa_cons (pv 0) (pa_cons (pv 1) pa_nil))) pa_nil)))) pss_nil)
      (pss_cons (ps_if (pt_not (pt_val (pe_ix (kIx (K := K)) (pv 1) (pe_ix (kIx (K := K)) (pv 0) pe_int (fun _ _ => rfl)) (fun _ _ => rfl)))) (pss_one (ps_ret (pe_tup (pa_cons (pe_glob (v := .ref h_NOTHING.choose) (by rfl) h_NOTHING.choose_spec.1 rfl) (pa_cons (pe_glob (v := .ref h_ALL.choose) (by rfl) h_ALL.choose_spec.1 rfl) pa_nil))))) pss_nil)
      (pss_cons (ps_if (pt_cmpR (kEq (K := K) hu) (pe_ix (kIx (K := K)) (pv 0) pe_int (fun _ _ => rfl)) pe_str (nomark _)) (pss_one (ps_ret (pe_def D_laying (hr.mono (by omega)) (by rfl) pass0 (pa_cons (pe_def D_filled (hr.mono (by omega)) (by rfl) pass0 (pa_cons (pe_ix (kIx (K := K)) (pv 0) pe_int (fun _ _ => rfl)) (pa_cons (pe_ix (kIx (K := K)) (pv 0) pe_int (fun _ _ => rfl)) pa_nil))) pa_nil)))) pss_nil)
      (pss_one (ps_ret (pe_tup (pa_cons (pe_glob (v := .ref h_NOTHING.choose) (by rfl) h_NOTHING.choose_spec.1 rfl) (pa_cons (pe_def D_rest_of (hr.mono (by omega)) (by rfl) pass0 (pa_cons (pe_ix (kIx (K := K)) (pv 0) pe_int (fun _ _ => rfl)) pa_nil)) pa_nil)))))))), ?_⟩
  rintro ds m y hl ⟨l, bs, rfl, hok, rfl⟩
  cases l with
  | fill i c o =>
    obtain ⟨hi, hc, ho⟩ := hok
    refine sv_ifsF (m1 := m) (eb_cast (eb_test (ev_op (ev_op (ev_var (r := .d (spD0 (.fill i c o))) rfl nofun) ev_int (o_ixT (j := 0) rfl rfl)) ev_str o_eqS)) (decide_eq_false (by decide))) ?_
    have hb : EvE K (tOp (rIx K) (tVar 1) (tOp (rIx K) (tVar 0) (tC (.int 1)))) [.d (spD0 (.fill i c o)), .d (blD bs)] m (.d (.bool (insB bs i))) m := ev_ins rfl (ev_op (ev_var (r := .d (spD0 (.fill i c o))) rfl nofun) ev_int (o_ixT (j := 1) rfl rfl)) hi
    show Sv K _ _ _ m (.ret (.d (efD (if insB bs i = true then layE (fillV c o) else (zero4, 1)))) m)
    cases hq : insB bs i with
    | false => exact sv_ifsT (m1 := m) (eb_not (eb_cast (eb_val hb) hq)) rfl (sv_ret0 (ev_tup (ds := [vD zero4, fr 1]) (arg2 (ev_glob h_NOTHING.choose_spec.2) (ev_glob h_ALL.choose_spec.2)) rfl (by simp)))
    | true =>
      refine sv_ifsF (m1 := m) (eb_not (eb_cast (eb_val hb) hq)) ?_
      refine sv_ifsT (m1 := m) (eb_cast (eb_test (ev_op (ev_op (ev_var (r := .d (spD0 (.fill i c o))) rfl nofun) ev_int (o_ixT (j := 0) rfl rfl)) ev_str o_eqS)) (decide_eq_true rfl)) rfl ?_
      obtain ⟨f1, f2⟩ := fill_sz hc ho
      obtain ⟨p1, p2⟩ := op_pr ho
      exact sv_ret0 (ev_pure (arg1 (ev_pure (arg2 (ev_op (ev_var (r := .d (spD0 (.fill i c o))) rfl nofun) ev_int (o_ixT (j := 2) rfl rfl)) (ev_op (ev_var (r := .d (spD0 (.fill i c o))) rfl nofun) ev_int (o_ixT (j := 3) rfl rfl))) (ds := [.tuple (c.map .int), prD o]) rfl ⟨c, o, rfl, hc.1, fun k hk => Nat.le_trans (show k.natAbs ≤ 9 by have := hc.2 k hk; omega) (by decide), p1, p2, rfl⟩ rfl)) (ds := [vD (fillV c o)]) rfl ⟨fillV c o, rfl, f1, szV_up f2 (by decide), rfl⟩ rfl)
  | rub i o =>
    obtain ⟨hi, ho⟩ := hok
    refine sv_ifsF (m1 := m) (eb_cast (eb_test (ev_op (ev_op (ev_var (r := .d (spD0 (.rub i o))) rfl nofun) ev_int (o_ixT (j := 0) rfl rfl)) ev_str o_eqS)) (decide_eq_false (by decide))) ?_
    have hb : EvE K (tOp (rIx K) (tVar 1) (tOp (rIx K) (tVar 0) (tC (.int 1)))) [.d (spD0 (.rub i o)), .d (blD bs)] m (.d (.bool (insB bs i))) m := ev_ins rfl (ev_op (ev_var (r := .d (spD0 (.rub i o))) rfl nofun) ev_int (o_ixT (j := 1) rfl rfl)) hi
    show Sv K _ _ _ m (.ret (.d (efD (if insB bs i = true then (zero4, 1 - opq o) else (zero4, 1)))) m)
    cases hq : insB bs i with
    | false => exact sv_ifsT (m1 := m) (eb_not (eb_cast (eb_val hb) hq)) rfl (sv_ret0 (ev_tup (ds := [vD zero4, fr 1]) (arg2 (ev_glob h_NOTHING.choose_spec.2) (ev_glob h_ALL.choose_spec.2)) rfl (by simp)))
    | true =>
      refine sv_ifsF (m1 := m) (eb_not (eb_cast (eb_val hb) hq)) ?_
      refine sv_ifsF (m1 := m) (eb_cast (eb_test (ev_op (ev_op (ev_var (r := .d (spD0 (.rub i o))) rfl nofun) ev_int (o_ixT (j := 0) rfl rfl)) ev_str o_eqS)) (decide_eq_false (by decide))) ?_
      have hx : EvE K (tOp (rIx K) (tVar 0) (tC (.int 2))) [.d (spD0 (.rub i o)), .d (blD bs)] m (.d (prD o)) m := ev_op (ev_var (r := .d (spD0 (.rub i o))) rfl nofun) ev_int (o_ixT (j := 2) rfl rfl)
      obtain ⟨p1, p2⟩ := op_pr ho
      exact sv_ret0 (ev_tup (ds := [vD zero4, fr (1 - opq o)]) (arg2 (ev_glob h_NOTHING.choose_spec.2) (ev_pure (arg1 hx) (ds := [prD o]) rfl (rest_of_op p2 (nb_up p1.1 (by decide)) (nb_up p1.2 (by decide))) rfl)) rfl (by simp))
/-! ### stacks: what they show -/
theorem lcMapL {te : TE} {i : Nat} {es : List Sl} {m : M} {wi : TI} {α : Type} (a b : α → PyData) {xs : List α} (hi : EvI K wi es m (xs.map a) m) (h : ∀ x, x ∈ xs → EvE K te ((wipeS es [i]).set i (.d (a x))) m (.d (b x)) m) (hl : xs.length ≤ 1000) : EvE K (tLc wi (gName i) tYes te [i]) es m (.d (.list (xs.map b))) m :=
  el_d (el_lc hi (lcMapF a b (by simp) h) (by rw [List.length_map]; exact hl))
abbrev R_sh0 : List PyData → PyData → Prop := fun ds y => ∃ (ls : List SP) (bs : List Bool), ds = [.tuple (ls.map spD0), blD bs] ∧ ls.length ≤ 4 ∧ (∀ l, l ∈ ls → spOk bs.length l) ∧ y = vD (shownPs (insB bs) ls)
theorem c_shown0 {k : Nat} (TD : DefT K mg "shown" st_shown ["stack", "inside"]) (D_effect_of : PureC P w K mg base k "effect_of" ["layer", "inside"] R_eff0) (D_laid : PureC P w K mg base k "laid" ["effects"] R_laid) : PureC P w K mg base (k + 1) "shown" ["stack", "inside"] R_sh0 := by
  refine mkPure TD S_shown fun f cdv A outer s H E hr => ?_
  refine ⟨_, (pss_one (ps_ret (pe_def D_laid (hr.mono (by omega)) (by rfl) pass0 (pa_cons (pe_lc (own := [("layer", 2)]) (by rfl) S_shown.nd (kSeq (K := K) (pv 0)) (blkOk_by (N := N_shown) (sc := defScope st_shown) (by decide +kernel)) (fun _ _ _ _ _ => pg_name (i := 2) S_shown.nd rfl (by first | exact Or.inl rfl | exact Or.inr rfl)) (fun _ _ _ _ _ => pts_nil) (fun _ _ _ _ _ => (pe_def D_effect_of (hr.mono (by omega)) (by rfl) pass0 (pa_cons (pv 2) (pa_cons (pv 1) pa_nil))))) pa_nil)))), ?_⟩
  rintro ds m y hl ⟨ls, bs, rfl, h4, hok, rfl⟩
  refine sv_ret0 (ev_pure (arg1 (lcMapL spD0 (fun l => efD (effPl (insB bs) l)) (ei_seqT (ev_var rfl nofun)) (fun l hl => ev_pure (arg2 (ev_var rfl nofun) (ev_var rfl nofun)) (ds := [spD0 l, blD bs]) rfl ⟨l, bs, rfl, hok l hl, rfl⟩ rfl) (by omega))) (ds := [.list (ls.map fun l => efD (effPl (insB bs) l))]) rfl ⟨ls.map (effPl (insB bs)), 6, 4, by rw [List.map_map]; rfl, by rw [List.length_map]; exact h4, fun e he => ?_, by decide, rfl⟩ rfl)
  obtain ⟨l, hl, rfl⟩ := List.mem_map.mp he
  exact eff_ok (hok l hl)
abbrev R_grp : List PyData → PyData → Prop := fun ds y => ∃ (ls : List SP) (o : Pr) (c : Option Nat) (bs : List Bool), ds = [s1D (.grp ls o c), blD bs] ∧ s1Ok bs.length (.grp ls o c) ∧ y = vD (grpV (insB bs) ls o c)
theorem c_grp {k : Nat} (h_NOTHING : ∃ a, mg "NOTHING" = some (.ref a) ∧ ∀ H, Dp K H (.ref a) (vD zero4)) (TD : DefT K mg "shown_by_group" st_shown_by_group ["group", "inside"]) (D_weakened : PureC P w K mg base k "weakened" ["value", "fraction"] R_weak) (D_shown : PureC P w K mg base k "shown" ["stack", "inside"] R_sh0) (D_lowest : PureC P w K mg base k "lowest" ["top", "bottom"] R_low) :
    PureC P w K mg base (k + 1) "shown_by_group" ["group", "inside"] R_grp := by
  refine mkPure TD S_shown_by_group fun f cdv A outer s H E hr => ?_
  have hu := hr.units
  refine ⟨_, (pss_cons (ps_asg (pv 0) (kTupG (K := K) rfl (pgs_cons (pg_name (i := 2) S_shown_by_group.nd rfl (Or.inl rfl)) (pgs_cons (pg_name (i := 3) S_shown_by_group.nd rfl (Or.inl rfl)) (pgs_cons (kTupG (K := K) rfl (pgs_cons (pg_name (i := 4) S_shown_by_group.nd rfl (Or.inl rfl)) (pgs_cons (pg_name (i := 5) S_shown_by_group.nd rfl (Or.inl rfl)) pgs_nil))) (pgs_cons (pg_name (i := 6) S_shown_by_group.nd rfl (Or.inl rfl)) (pgs_cons (pg_name (i := 2) S_shown_by_group.nd rfl (Or.inl rfl)) pgs_nil)))))))
      (pss_cons (ps_if (PW.pt (pw_and (pt_cmpR op_notN (pv 6) pe_non (nomark _)) (pw_and1 (pt_not (pt_val (pe_ix (kIx (K := K)) (pv 1) (pv 6) (fun _ _ => rfl))))))) (pss_one (ps_ret (pe_glob (v := .ref h_NOTHING.choose) (by rfl) h_NOTHING.choose_spec.1 rfl))) pss_nil)
      (pss_one (ps_ret (pe_def D_weakened (hr.mono (by omega)) (by rfl) pass0 (pa_cons (pe_def D_shown (hr.mono (by omega)) (by rfl) pass0 (pa_cons (pv 3) (pa_cons (pv 1) pa_nil))) (pa_cons (pe_def D_lowest (hr.mono (by omega)) (by rfl) pass0 (pa_cons (pv 4) (pa_cons (pv 5) pa_nil))) pa_nil))))))), ?_⟩
  rintro ds m y hl ⟨ls, ⟨t, b⟩, c, bs, rfl, ⟨h4, hls, ho, hc⟩, rfl⟩
  obtain ⟨p1, p2⟩ := op_pr ho
  obtain ⟨s4, ss⟩ := shownPs_ok (ins := insB bs) hls h4
  refine sv_seq (es1 := [.d (s1D (.grp ls (t, b) c)), .d (blD bs), .d (matD still), .d (.tuple (ls.map spD0)), .d (.int t), .d (.int b), .d (numD c)]) (m1 := m) (sv_asg (ev_var rfl nofun) (gv_tup (gvs_cons gv_name (gvs_cons gv_name (gvs_cons (gv_tup (gvs_cons gv_name (gvs_cons gv_name gvs_nil)) rfl) (gvs_cons gv_name (gvs_cons gv_name gvs_nil))))) rfl)) ?_
  have rest : Sv K m.length (tRet (tCall (spD K 2 (pureG R_weak)) [] E0 (tCons (tCall (spD K 2 (pureG R_sh0)) [] E0 (tCons (tVar 3) (tCons (tVar 1) tNil))) (tCons (tCall (spD K 2 (pureG R_low)) [] E0 (tCons (tVar 4) (tCons (tVar 5) tNil))) tNil)))) [.d (s1D (.grp ls (t, b) c)), .d (blD bs), .d (matD still), .d (.tuple (ls.map spD0)), .d (.int t), .d (.int b), .d (numD c)] m (.ret (.d (vD (mulV (shownPs (insB bs) ls) (opq (t, b))))) m) :=
    sv_ret0 (ev_pure (arg2 (ev_pure (arg2 (ev_var rfl nofun) (ev_var rfl nofun)) (ds := [.tuple (ls.map spD0), blD bs]) rfl ⟨ls, bs, rfl, h4, hls, rfl⟩ rfl) (ev_pure (arg2 (ev_var rfl nofun) (ev_var rfl nofun)) (ds := [.int t, .int b]) rfl (show R_low _ (fr (opq (t, b))) from by rw [opq_div]; exact low_of (k := 50) p2 p1.1 p1.2 (by decide)) rfl)) (ds := [vD (shownPs (insB bs) ls), fr (opq (t, b))]) rfl ⟨shownPs (insB bs) ls, opq (t, b), rfl, by omega, szV_up ss (by decide), sz_up (op_sz ho) (by decide), rfl⟩ rfl)
  cases c with
  | none =>
    refine sv_ifsF (m1 := m) (eb_and (a := false) (b := false) (eb_cast (eb_test (ev_op (ev_var (r := .d .none) rfl nofun) ev_non o_notN)) rfl) (fun z => nomatch z)) rest
  | some n =>
    have hn := hc n rfl
    have hb : EvB K (tAnd (tTest (tOp (fun x y H Q => y = .non ∧ Q (.bl (!decide (x = .non))) H) (tVar 6) (tC .non))) (tNot (tB (tOp (rIx K) (tVar 1) (tVar 6))))) [.d (s1D (.grp ls (t, b) (some n))), .d (blD bs), .d (matD still), .d (.tuple (ls.map spD0)), .d (.int t), .d (.int b), .d (numD (some n))] m (!insB bs n) m :=
      eb_cast (eb_and (a := true) (b := !insB bs n) (eb_cast (eb_test (ev_op (ev_var (r := .d (numD (some n))) rfl nofun) ev_non o_notN)) rfl) fun _ => eb_not (eb_val (ev_ins rfl (ev_var rfl nofun) hn))) (Bool.true_and _)
    show Sv K _ _ _ m (.ret (.d (vD (if (!insB bs n) = true then zero4 else mulV (shownPs (insB bs) ls) (opq (t, b))))) m)
    cases hq : insB bs n with
    | false => exact sv_ifsT (m1 := m) (eb_cast hb (by rw [hq]; rfl)) rfl (sv_ret0 (ev_glob h_NOTHING.choose_spec.2))
    | true => exact sv_ifsF (m1 := m) (eb_cast hb (by rw [hq]; rfl)) rest
abbrev R_eff1 : List PyData → PyData → Prop := fun ds y => ∃ (l : S1) (bs : List Bool), ds = [s1D l, blD bs] ∧ s1Ok bs.length l ∧ y = efD (eff1 (insB bs) l)
theorem grpV_ok {n : Nat} {ins : Nat → Bool} {ls : List SP} {o : Pr} {c : Option Nat} (h : s1Ok n (.grp ls o c)) : (grpV ins ls o c).length = 4 ∧ szV 47 (grpV ins ls o c) := by
  obtain ⟨h4, hls, ho, hc⟩ := h
  obtain ⟨s4, ss⟩ := shownPs_ok (ins := ins) hls h4
  have key : ∀ q : Bool, ((if q = true then zero4 else mulV (shownPs ins ls) (opq o)) : Vl).length = 4 ∧ szV 47 (if q = true then zero4 else mulV (shownPs ins ls) (opq o)) := by
    intro q
    cases q with
    | true => exact ⟨rfl, zero_sz⟩
    | false => exact ⟨by show (mulV (shownPs ins ls) (opq o)).length = 4; rw [mul_len]; exact s4, szV_up (szV_mul ss (op_sz ho)) (by decide)⟩
  exact key _
theorem eff1_ok {n : Nat} {ins : Nat → Bool} {l : S1} (h : s1Ok n l) : efB 47 48 (eff1 ins l) := by
  cases l with
  | plain l =>
    obtain ⟨a, b, c⟩ := eff_ok (ins := ins) (show spOk n l from h)
    exact ⟨a, szV_up b (by decide), sz_up c (by decide)⟩
  | grp ls o c =>
    obtain ⟨g1, g2⟩ := grpV_ok (ins := ins) h
    exact ⟨g1, g2, sz_rest (head_sz g2)⟩
theorem c_eff1 {k : Nat} (h_NOTHING : ∃ a, mg "NOTHING" = some (.ref a) ∧ ∀ H, Dp K H (.ref a) (vD zero4)) (h_ALL : ∃ a, mg "ALL" = some (.ref a) ∧ ∀ H, Dp K H (.ref a) (fr 1)) (TD : DefT K mg "effect_of" st_effect_of ["layer", "inside"])
    (D_shown_by_group : PureC P w K mg base k "shown_by_group" ["group", "inside"] R_grp) (D_laying : PureC P w K mg base k "laying" ["value"] R_laying) (D_filled : PureC P w K mg base k "filled" ["colour", "opacity"] R_filled) (D_rest_of : PureC P w K mg base k "rest_of" ["fraction"] R_rest) : PureC P w K mg base (k + 1) "effect_of" ["layer", "inside"] R_eff1 := by
  refine mkPure TD S_effect_of fun f cdv A outer s H E hr => ?_
  have hu := hr.units
  refine ⟨_, (pss_cons (ps_if (pt_cmpR (kEq (K := K) hu) (pe_ix (kIx (K := K)) (pv 0) pe_int (fun _ _ => rfl)) pe_str (nomark _)) (pss_one (ps_ret (pe_def D_laying (hr.mono (by omega)) (by rfl) pass0 (pa_cons (pe_def D_shown_by_group (hr.mono (by omega)) (by rfl) pass0 (pa_cons (pv 0) (pa_cons (pv 1) pa_nil))) pa_nil)))) pss_nil)
      (pss_cons (ps_if (pt_not (pt_val (pe_ix (kIx (K := K)) (pv 1) (pe_ix (kIx (K := K)) (pv 0) pe_int (fun _ _ => rfl)) (fun _ _ => rfl)))) (pss_one (ps_ret (pe_tup (pa_cons (pe_glob (v := .ref h_NOTHING.choose) (by rfl) h_NOTHING.choose_spec.1 rfl) (pa_cons (pe_glob (v := .ref h_ALL.choose) (by rfl) h_ALL.choose_spec.1 rfl) pa_nil))))) pss_nil)
      (pss_cons (ps_if (pt_cmpR (kEq (K := K) hu) (pe_ix (kIx (K := K)) (pv 0) pe_int (fun _ _ => rfl)) pe_str (nomark _)) (pss_one (ps_ret (pe_def D_laying (hr.mono (by omega)) (by rfl) pass0 (pa_cons (pe_def D_filled (hr.mono (by omega)) (by rfl) pass0 (pa_cons (pe_ix (kIx (K := K)) (pv 0) pe_int (fun _ _ => rfl)) (pa_cons (pe_ix (kIx (K := K)) (pv 0) pe_int (fun _ _ => rfl)) pa_nil))) pa_nil)))) pss_nil)
      (pss_one (ps_ret (pe_tup (pa_cons (pe_glob (v := .ref h_NOTHING.choose) (by rfl) h_NOTHING.choose_spec.1 rfl) (pa_cons (pe_def D_rest_of (hr.mono (by omega)) (by rfl) pass0 (pa_cons (pe_ix (kIx (K := K)) (pv 0) pe_int (fun _ _ => rfl)) pa_nil)) pa_nil)))))))), ?_⟩
  rintro ds m y hl ⟨l, bs, rfl, hok, rfl⟩
  cases l with
  | grp ls o c =>
    obtain ⟨g1, g2⟩ := grpV_ok (ins := insB bs) hok
    exact sv_ifsT (m1 := m) (eb_cast (eb_test (ev_op (ev_op (ev_var (r := .d (s1D (.grp ls o c))) rfl nofun) ev_int (o_ixT (j := 0) rfl rfl)) ev_str o_eqS)) (decide_eq_true rfl)) rfl (sv_ret0 (ev_pure (arg1 (ev_pure (arg2 (ev_var rfl nofun) (ev_var rfl nofun)) (ds := [s1D (.grp ls o c), blD bs]) rfl ⟨ls, o, c, bs, rfl, hok, rfl⟩ rfl)) (ds := [vD (grpV (insB bs) ls o c)]) rfl ⟨_, rfl, g1, szV_up g2 (by decide), rfl⟩ rfl))
  | plain l =>
    show Sv K _ _ [.d (spD0 l), .d (blD bs)] m (.ret (.d (efD (effPl (insB bs) l))) m)
    have hok : spOk bs.length l := hok
    cases l with
    | fill i c o =>
      obtain ⟨hi, hc, ho⟩ := hok
      refine sv_ifsF (m1 := m) (eb_cast (eb_test (ev_op (ev_op (ev_var (r := .d (spD0 (.fill i c o))) rfl nofun) ev_int (o_ixT (j := 0) rfl rfl)) ev_str o_eqS)) (decide_eq_false (by decide))) ?_
      have hb : EvE K (tOp (rIx K) (tVar 1) (tOp (rIx K) (tVar 0) (tC (.int 1)))) [.d (spD0 (.fill i c o)), .d (blD bs)] m (.d (.bool (insB bs i))) m := ev_ins rfl (ev_op (ev_var (r := .d (spD0 (.fill i c o))) rfl nofun) ev_int (o_ixT (j := 1) rfl rfl)) hi
      show Sv K _ _ _ m (.ret (.d (efD (if insB bs i = true then layE (fillV c o) else (zero4, 1)))) m)
      cases hq : insB bs i with
      | false => exact sv_ifsT (m1 := m) (eb_not (eb_cast (eb_val hb) hq)) rfl (sv_ret0 (ev_tup (ds := [vD zero4, fr 1]) (arg2 (ev_glob h_NOTHING.choose_spec.2) (ev_glob h_ALL.choose_spec.2)) rfl (by simp)))
      | true =>
        refine sv_ifsF (m1 := m) (eb_not (eb_cast (eb_val hb) hq)) ?_
        refine sv_ifsT (m1 := m) (eb_cast (eb_test (ev_op (ev_op (ev_var (r := .d (spD0 (.fill i c o))) rfl nofun) ev_int (o_ixT (j := 0) rfl rfl)) ev_str o_eqS)) (decide_eq_true rfl)) rfl ?_
        obtain ⟨f1, f2⟩ := fill_sz hc ho
        obtain ⟨p1, p2⟩ := op_pr ho
        exact sv_ret0 (ev_pure (arg1 (ev_pure (arg2 (ev_op (ev_var (r := .d (spD0 (.fill i c o))) rfl nofun) ev_int (o_ixT (j := 2) rfl rfl)) (ev_op (ev_var (r := .d (spD0 (.fill i c o))) rfl nofun) ev_int (o_ixT (j := 3) rfl rfl))) (ds := [.tuple (c.map .int), prD o]) rfl ⟨c, o, rfl, hc.1, fun k hk => Nat.le_trans (show k.natAbs ≤ 9 by have := hc.2 k hk; omega) (by decide), p1, p2, rfl⟩ rfl)) (ds := [vD (fillV c o)]) rfl ⟨fillV c o, rfl, f1, szV_up f2 (by decide), rfl⟩ rfl)
    | rub i o =>
      obtain ⟨hi, ho⟩ := hok
      refine sv_ifsF (m1 := m) (eb_cast (eb_test (ev_op (ev_op (ev_var (r := .d (spD0 (.rub i o))) rfl nofun) ev_int (o_ixT (j := 0) rfl rfl)) ev_str o_eqS)) (decide_eq_false (by decide))) ?_
      have hb : EvE K (tOp (rIx K) (tVar 1) (tOp (rIx K) (tVar 0) (tC (.int 1)))) [.d (spD0 (.rub i o)), .d (blD bs)] m (.d (.bool (insB bs i))) m := ev_ins rfl (ev_op (ev_var (r := .d (spD0 (.rub i o))) rfl nofun) ev_int (o_ixT (j := 1) rfl rfl)) hi
      show Sv K _ _ _ m (.ret (.d (efD (if insB bs i = true then (zero4, 1 - opq o) else (zero4, 1)))) m)
      cases hq : insB bs i with
      | false => exact sv_ifsT (m1 := m) (eb_not (eb_cast (eb_val hb) hq)) rfl (sv_ret0 (ev_tup (ds := [vD zero4, fr 1]) (arg2 (ev_glob h_NOTHING.choose_spec.2) (ev_glob h_ALL.choose_spec.2)) rfl (by simp)))
      | true =>
        refine sv_ifsF (m1 := m) (eb_not (eb_cast (eb_val hb) hq)) ?_
        refine sv_ifsF (m1 := m) (eb_cast (eb_test (ev_op (ev_op (ev_var (r := .d (spD0 (.rub i o))) rfl nofun) ev_int (o_ixT (j := 0) rfl rfl)) ev_str o_eqS)) (decide_eq_false (by decide))) ?_
        have hx : EvE K (tOp (rIx K) (tVar 0) (tC (.int 2))) [.d (spD0 (.rub i o)), .d (blD bs)] m (.d (prD o)) m := ev_op (ev_var (r := .d (spD0 (.rub i o))) rfl nofun) ev_int (o_ixT (j := 2) rfl rfl)
        obtain ⟨p1, p2⟩ := op_pr ho
        exact sv_ret0 (ev_tup (ds := [vD zero4, fr (1 - opq o)]) (arg2 (ev_glob h_NOTHING.choose_spec.2) (ev_pure (arg1 hx) (ds := [prD o]) rfl (rest_of_op p2 (nb_up p1.1 (by decide)) (nb_up p1.2 (by decide))) rfl)) rfl (by simp))
abbrev R_sh1 : List PyData → PyData → Prop := fun ds y => ∃ (ls : List S1) (bs : List Bool), ds = [.tuple (ls.map s1D), blD bs] ∧ ls.length ≤ 4 ∧ (∀ l, l ∈ ls → s1Ok bs.length l) ∧ y = vD (shown1s (insB bs) ls)
theorem c_shown1 {k : Nat} (TD : DefT K mg "shown" st_shown ["stack", "inside"]) (D_effect_of : PureC P w K mg base k "effect_of" ["layer", "inside"] R_eff1) (D_laid : PureC P w K mg base k "laid" ["effects"] R_laid) : PureC P w K mg base (k + 1) "shown" ["stack", "inside"] R_sh1 := by
  refine mkPure TD S_shown fun f cdv A outer s H E hr => ?_
  refine ⟨_, (pss_one (ps_ret (pe_def D_laid (hr.mono (by omega)) (by rfl) pass0 (pa_cons (pe_lc (own := [("layer", 2)]) (by rfl) S_shown.nd (kSeq (K := K) (pv 0)) (blkOk_by (N := N_shown) (sc := defScope st_shown) (by decide +kernel)) (fun _ _ _ _ _ => pg_name (i := 2) S_shown.nd rfl (by first | exact Or.inl rfl | exact Or.inr rfl)) (fun _ _ _ _ _ => pts_nil) (fun _ _ _ _ _ => (pe_def D_effect_of (hr.mono (by omega)) (by rfl) pass0 (pa_cons (pv 2) (pa_cons (pv 1) pa_nil))))) pa_nil)))), ?_⟩
  rintro ds m y hl ⟨ls, bs, rfl, h4, hok, rfl⟩
  refine sv_ret0 (ev_pure (arg1 (lcMapL s1D (fun l => efD (eff1 (insB bs) l)) (ei_seqT (ev_var rfl nofun)) (fun l hl => ev_pure (arg2 (ev_var rfl nofun) (ev_var rfl nofun)) (ds := [s1D l, blD bs]) rfl ⟨l, bs, rfl, hok l hl, rfl⟩ rfl) (by omega))) (ds := [.list (ls.map fun l => efD (eff1 (insB bs) l))]) rfl ⟨ls.map (eff1 (insB bs)), 47, 48, by rw [List.map_map]; rfl, by rw [List.length_map]; exact h4, fun e he => ?_, by decide, rfl⟩ rfl)
  obtain ⟨l, hl, rfl⟩ := List.mem_map.mp he
  exact eff1_ok (hok l hl)
end
end K01

set_option Elab.async false
set_option linter.all false
set_option maxRecDepth 100000
set_option maxHeartbeats 4000000
set_option exponentiation.threshold 2000
namespace K01
variable [DL.Tbs]
open PySem PySem.Spec PyProof.Rows L2 DL HX GX RT SX
section
variable {P : Program} {w : World} {K : PySem.W.Frag} {mg : Str → Option Value} {base : Heap}
structure RaiseD (K : PySem.W.Frag) (D : Addr) : Prop where
  own : PySem.W.excIn K D [.type "ValueError", .type "Exception", .type "BaseException", .type "object"] "ValueError.__new__" = true
  kp : PySem.W.keepIn K (.ref D) = true
  bF : PySem.W.subIn K (.ref D) (.type "BaseException") = some true
  tF : PySem.W.typeIn K (.ref D) = some (.type "type")
def g_check (D : Addr) : List Sl → M → Res → M → Prop := fun rs m res m' => m' = m ∧ ∃ v, rs = [.d v] ∧ okLs 2 v = true ∧ res = if drawM v then .ok (.d .none) else .exc D
theorem c_checkX {k : Nat} (T : Blt mg) (TD : DefT K mg "check_drawing" st_check_drawing ["value"]) (D_is_drawing : PureC P w K mg base k "is_drawing" ["value"] R_is_drawing) {D : Addr} (gD : mg "InvalidDrawing" = some (.ref D)) (rD : RaiseD K D) :
    DefX P w K mg base (k + 1) "check_drawing" ["value"] (g_check D) := by
  refine mkDefX TD S_check_drawing ?_ fun f cdv A outer s H hr => ⟨fun E => _, fun E => (pss_one (ps_if (pt_not (pt_val (pe_def D_is_drawing (hr.mono (by omega)) (by rfl) pass0 (pa_cons (pv 0) pa_nil)))) (pss_one (L2N.ps_raise rfl takesN (L2N.pmk_own PySem.F.excBase_ValueError rD.own gD rD.kp (raises_own rD.bF rD.tF) (by rfl)))) pss_nil)), ?_⟩
  · rintro rs m r m' ⟨rfl, v, _, _, rfl⟩
    refine ⟨rfl, ?_⟩
    split <;> rfl
  rintro rs m r m' hl ⟨rfl, v, rfl, hk, rfl⟩
  cases hv : drawM v with
  | true => exact .inr ⟨rfl, _, fun E => sv_ifF (m1 := m') (eb_notT (eb_cast (eb_val (ev_pure (arg1 (ev_var rfl nofun)) (ds := [v]) rfl ⟨v, rfl, hk, rfl⟩ rfl)) hv)) sv_next⟩
  | false => exact sx_ifT (m1 := m') (eb_notF (eb_cast (eb_val (ev_pure (arg1 (ev_var rfl nofun)) (ds := [v]) rfl ⟨v, rfl, hk, rfl⟩ rfl)) hv)) (sx_raise rfl)
def g_point (D : Addr) : List Sl → M → Res → M → Prop := fun rs m res m' => m' = m ∧ ∃ v, rs = [.d v] ∧ res = if pointM v then .ok (.d .none) else .exc D
theorem c_checkP {k : Nat} (TD : DefT K mg "check_point" st_check_point ["value"]) (D_is_point : PureC P w K mg base k "is_point" ["value"] R_point) {D : Addr} (gD : mg "InvalidPoint" = some (.ref D)) (rD : RaiseD K D) :
    DefX P w K mg base (k + 1) "check_point" ["value"] (g_point D) := by
  refine mkDefX TD S_check_point ?_ fun f cdv A outer s H hr => ⟨fun E => _, fun E => (pss_one (ps_if (pt_not (pt_val (pe_def D_is_point (hr.mono (by omega)) (by rfl) pass0 (pa_cons (pv 0) pa_nil)))) (pss_one (L2N.ps_raise rfl takesN (L2N.pmk_own PySem.F.excBase_ValueError rD.own gD rD.kp (raises_own rD.bF rD.tF) (by rfl)))) pss_nil)), ?_⟩
  · rintro rs m r m' ⟨rfl, v, _, rfl⟩
    refine ⟨rfl, ?_⟩
    split <;> rfl
  rintro rs m r m' hl ⟨rfl, v, rfl, rfl⟩
  cases hv : pointM v with
  | true => exact .inr ⟨rfl, _, fun E => sv_ifF (m1 := m') (eb_notT (eb_cast (eb_val (ev_pure (arg1 (ev_var rfl nofun)) (ds := [v]) rfl ⟨v, rfl, rfl⟩ rfl)) hv)) sv_next⟩
  | false => exact sx_ifT (m1 := m') (eb_notF (eb_cast (eb_val (ev_pure (arg1 (ev_var rfl nofun)) (ds := [v]) rfl ⟨v, rfl, rfl⟩ rfl)) hv)) (sx_raise rfl)
end
end K01

set_option Elab.async false
set_option linter.all false
set_option maxRecDepth 100000
namespace GX
variable [DL.Tbs]
open PySem PySem.Spec PyProof.Rows L2 DL StX
/-! ### the dict made, locked, walked -/
def dataOf : NestedKey → PyData
  | .none => .none
  | .num i => .int i
  | .text x => .str x
  | .tup ks => .tuple (ks.map dataOf)
mutual
theorem data_key : ∀ (d : PyData) (k : NestedKey), GX.keyOf d = some k → d = dataOf k
  | .none, k, e => by rw [GX.keyOf] at e; cases e; rw [dataOf]
  | .int i, k, e => by rw [GX.keyOf] at e; cases e; rw [dataOf]
  | .str x, k, e => by rw [GX.keyOf] at e; cases e; rw [dataOf]
  | .tuple xs, k, e => by
    rw [GX.keyOf] at e
    obtain ⟨ks, e1, rfl⟩ := Option.map_eq_some_iff.mp e
    rw [dataOf, data_keys xs ks e1]
  | .bool _, k, e => by rw [GX.keyOf] at e; cases e; all_goals (intros; simp_all)
  | .list _, k, e => by rw [GX.keyOf] at e; cases e; all_goals (intros; simp_all)
  | .dict _, k, e => by rw [GX.keyOf] at e; cases e; all_goals (intros; simp_all)
theorem data_keys : ∀ (ds : List PyData) (ks : List NestedKey), keysOf ds = some ks → ds = ks.map dataOf
  | [], ks, e => by rw [keysOf] at e; cases e; rfl
  | d :: ds, ks, e => by
    rw [keysOf] at e
    split at e
    · rename_i k ks' e1 e2
      cases e
      rw [List.map_cons, ← data_key d k e1, ← data_keys ds ks' e2]
    · cases e
end
/-- a list over a walk that begins at a state -/
theorem lcAt {K : PySem.W.Frag} {te : TE} {tt : TT} {es : List Sl} {m1 m2 : M} {Φ : Hp → Prop} (hΦ : ∀ a b, Evl.Ex a b → Φ a → Φ b) {wi : TI} {g : TG} {vs : List Nat} {ds rs : List PyData} {σ : L2.St} {H S S0 : Hp} {ρ : List Addr}
    (hi : ∀ R : It → Hp → Prop, (∀ J H' H0', Stp ρ.length ρ S0 S ρ H0' H' → Wd K H0' H' ρ m1 → EnvS K H0' ρ σ es → Φ H0' → ItOk K J H0' ds → R J H') → wi σ H R) (h : LcR K g tt te (wipeS es vs) vs ds m1 rs m2) (hl : ds.length ≤ 1000) (Q : VK)
    (q : ∀ p xs H' H0', Stp ρ.length ρ S0 S ρ H0' H' → Wd K H0' H' ρ m2 → EnvS K H0' ρ σ es → Φ H0' → S p = none → H0' p = none → p ∉ ρ → H' p = some (.lst xs) → DpAll K H0' xs rs → Q (.ref p) H') : tLc wi g tt te vs σ H Q :=
  hi _ fun J H1 H01 s1 w1 e1 f1 it => fun D hD => by
    have hD0 : S D = none := s1.dom D hD
    have hDρ : D ∉ ρ := w1.notin hD
    refine ⟨fun i k H2 => k = ds.length - i ∧ i ≤ ds.length ∧ ∃ acc va rs1 m3 H02, rs = acc ++ rs1 ∧ acc.length ≤ i ∧ LcR K g tt te (wipeS es vs) vs (ds.drop i) m3 rs1 m2 ∧ Stp ρ.length ρ S0 S ρ H02 H2 ∧ Wd K H02 H2 ρ m3 ∧ EnvS K H02 ρ σ es ∧ Φ H02 ∧ ItOk K J H02 ds ∧ H02 D = none ∧ H2 D = some (.lst va) ∧ DpAll K H02 va acc,
      ⟨ds.length, by omega, Nat.zero_le _, [], [], rs, m1, H01, rfl, Nat.le_refl _, h, s1.off hD0, w1.off (Evl.fresh_back w1.ex hD) hDρ (.inl hD), e1, f1, it, Evl.fresh_back w1.ex hD, upd_same, .nil⟩, fun i k H2 hW => ?_⟩
    obtain ⟨rfl, hle, acc, va, rs1, m3, H02, er, hacc, fr, s2, w2, e2, f2, it2, d0, d2, da⟩ := hW
    obtain ⟨g1, g2, g3⟩ := it2 i H2 w2.ex
    by_cases hlt : i < ds.length
    · refine .inr ⟨g1 hlt, ?_⟩
      have hd : ds[i]? = some ds[i] := List.getElem?_eq_getElem hlt
      rw [drop_cons hd] at fr
      have fin : ∀ {x H'}, J.yld i H2 x H' → H' = H2 ∧ Dp K H02 x ds[i] := fun {x H'} y => by
        obtain ⟨e1, d, q1, q2⟩ := g3 x H' hlt y
        rw [hd] at q1
        cases q1
        exact ⟨e1, q2⟩
      have hvl := dpAll_len da
      cases fr with
      | @yes _ _ es3 _ m4 m5 _ r rs2 is hg hiv hb he hr =>
        refine ⟨fun H' => ∃ va' H04, Stp ρ.length ρ S0 S ρ H04 H' ∧ Wd K H04 H' ρ m5 ∧ EnvS K H04 ρ σ es ∧ Φ H04 ∧ ItOk K J H04 ds ∧ H04 D = none ∧ H' D = some (.lst va') ∧ DpAll K H04 va' (acc ++ [r]),
          fun H' ⟨va', H04, s4, w4, e4, f4, it4, z0, z1, z2⟩ => ⟨ds.length - (i + 1), by omega, rfl, hlt, acc ++ [r], va', rs2, m5, H04, by rw [er, List.append_assoc]; rfl, by rw [List.length_append, List.length_singleton]; omega, hr, s4, w4, e4, f4, it4, z0, z1, z2⟩, fun x H' y => ?_⟩
        obtain ⟨rfl, kx⟩ := fin y
        refine hg _ _ H02 ρ x w2.ex (e2.wipe vs) kx _ fun σ3 e3 hw => ⟨by rw [hw vs hiv, wipe_wipe], ?_⟩
        refine hb σ3 _ H02 ρ w2 e3 _ fun H3 H03 s3 w3 => ?_
        refine iteT (he σ3 H3 H03 ρ w3 (e3.mono s3.ex) _ fun y H4 H04 s4 w4 ky => ?_)
        have s5 := s3.trans w3.nd s4
        obtain ⟨k1, k2⟩ := keepD hDρ d0 d2 s5
        refine ⟨va, k2, small1000 (by omega), va ++ [y], H04, (s2.trans w2.nd s5).off hD0, w4.off k1 hDρ (.inr ⟨_, k2⟩), e2.mono s5.ex, hΦ _ _ s5.ex f2, it2.mono s5.ex, k1, upd_same, dpAll_app (dpAll_mono s5.ex da) (.cons ky .nil)⟩
      | @not _ _ es3 _ m4 _ _ is hg hiv hb hr =>
        refine ⟨fun H' => ∃ H04, Stp ρ.length ρ S0 S ρ H04 H' ∧ Wd K H04 H' ρ m4 ∧ EnvS K H04 ρ σ es ∧ Φ H04 ∧ ItOk K J H04 ds ∧ H04 D = none ∧ H' D = some (.lst va) ∧ DpAll K H04 va acc,
          fun H' ⟨H04, s4, w4, e4, f4, it4, z0, z1, z2⟩ => ⟨ds.length - (i + 1), by omega, rfl, hlt, acc, va, rs1, m4, H04, er, by omega, hr, s4, w4, e4, f4, it4, z0, z1, z2⟩, fun x H' y => ?_⟩
        obtain ⟨rfl, kx⟩ := fin y
        refine hg _ _ H02 ρ x w2.ex (e2.wipe vs) kx _ fun σ3 e3 hw => ⟨by rw [hw vs hiv, wipe_wipe], ?_⟩
        refine hb σ3 _ H02 ρ w2 e3 _ fun H3 H03 s3 w3 => ?_
        obtain ⟨k1, k2⟩ := keepD hDρ d0 d2 s3
        exact iteF ⟨H03, s2.trans w2.nd s3, w3, e2.mono s3.ex, hΦ _ _ s3.ex f2, it2.mono s3.ex, k1, k2, dpAll_mono s3.ex da⟩
    · have ei : i = ds.length := by omega
      subst ei
      rw [List.drop_length] at fr
      cases fr with
      | nil =>
        refine .inl ⟨g2 (Nat.le_refl _), ?_⟩
        rw [List.append_nil] at er
        subst er
        exact q D va H2 H02 s2 w2 e2 f2 hD0 d0 hDρ d2 da
/-- the new list becomes data -/
theorem freezeL {K : PySem.W.Frag} {m : M} {S S0 H' H0' : Hp} {ρ : List Addr} {p : Addr} {xs : List V} {rs : List PyData} (s1 : Stp ρ.length ρ S0 S ρ H0' H') (w1 : Wd K H0' H' ρ m) (hp : S p = none) (hp0 : H0' p = none) (hpρ : p ∉ ρ) (e1 : H' p = some (.lst xs)) (ha : DpAll K H0' xs rs) :
    ∃ H02, Evl.Ex H0' H02 ∧ Stp ρ.length ρ S0 S ρ H02 H' ∧ Wd K H02 H' ρ m ∧ Dp K H02 (.ref p) (.list rs) := by
  have hx : Evl.Ex H0' (upd H0' p (.lst xs)) := Evl.Ex.new hp0
  refine ⟨upd H0' p (.lst xs), hx, ⟨s1.ex.trans hx, s1.keep, s1.dom, fun b o z => ?_, rfl, fun b z => .inl z⟩, ⟨fun b o z => ?_, w1.len, w1.nd, fun j a ds' z1 z2 => ?_, w1.tab, fun q hq => by
      rw [upd_ne]
      · exact w1.nT q hq
      · obtain ⟨_, z, _⟩ := w1.tab q hq
        exact ne_of z e1 (fun z => nomatch z)⟩, .lst (.inl (.inl upd_same)) (dpAll_mono hx ha)⟩
  · by_cases e : b = p
    · rw [e]; exact .inr (.inl hp)
    · rw [upd_ne e] at z
      exact s1.fresh b o z
  · by_cases e : b = p
    · subst e
      rw [upd_same] at z
      rw [e1]
      exact z
    · rw [upd_ne e] at z
      exact w1.ex b o z
  · obtain ⟨y1, ws, y2, y3⟩ := w1.cel j a ds' z1 z2
    refine ⟨?_, ws, y2, dpAll_mono hx y3⟩
    rw [upd_ne]
    · exact y1
    · rintro rfl
      exact hpρ (List.mem_of_getElem? z1)
section
variable {P : Program} {w : World} {K : PySem.W.Frag} {es : List Sl} {m : M} {d : Addr} {ks : Kvs}
variable (P w K) in
def FzAt (d : Addr) (ks : Kvs) (H0 : Hp) : Prop := ∃ o xs, H0 d = some (.frz o (NDk P w d xs)) ∧ KeysOk K H0 xs ∧ xs.map kv = ks
theorem fz_mono (a b : Hp) (e : Evl.Ex a b) (h : FzAt P w K d ks a) : FzAt P w K d ks b := by
  obtain ⟨o, xs, h1, h2, h3⟩ := h
  exact ⟨o, xs, e _ _ h1, keys_mono h2 e, h3⟩
theorem itOk_keys {o : Obj} {xs : List Ent} {H0 : Hp} (h1 : H0 d = some (.frz o (NDk P w d xs))) (h2 : KeysOk K H0 xs) : ItOk K (Itn P w d o xs) H0 ((xs.map kv).map fun x => dataOf x.1) := fun i H ex => by
  have hd := ex _ _ h1
  rw [List.length_map, List.length_map]
  refine ⟨fun hi => ⟨hd, hi⟩, fun hi => ⟨hd, hi⟩, fun x H' hi y => ?_⟩
  obtain ⟨rfl, e, he, rfl⟩ := y
  refine ⟨rfl, dataOf e.1, by rw [List.getElem?_map, List.getElem?_map, he]; rfl, ?_⟩
  obtain ⟨dd, k1, k2, _⟩ := h2 e (List.mem_of_getElem? he)
  rw [← data_key dd e.1 k2]
  exact k1
/-- the first walk locks it -/
theorem keys1 {σ : L2.St} {H H0 S S0 : Hp} {ρ : List Addr} {i : Nat} (s : Stp ρ.length ρ S0 S ρ H0 H) (w1 : Wd K H0 H ρ m) (e : EnvS K H0 ρ σ es) (da : DAt P w K d ks H H0 ρ) (hS : S d = none) (hi : es[i]? = some (.v (.ref d))) (R : It → Hp → Prop)
    (q : ∀ J H' H0', Stp ρ.length ρ S0 S ρ H0' H' → Wd K H0' H' ρ m → EnvS K H0' ρ σ es → FzAt P w K d ks H0' → ItOk K J H0' (ks.map fun x => dataOf x.1) → R J H') : iNKeys P w (tVar i) σ H R := by
  obtain ⟨a1, b1, xs, c1, e1, f1⟩ := id da
  refine ed_var (K := K) hi σ H H0 ρ e _ ?_
  refine ⟨d, xs, rfl, .inl ⟨c1, fun o => ?_⟩⟩
  have hx : Evl.Ex H0 (upd H0 d (.frz o (NDk P w d xs))) := Evl.Ex.new b1
  have fz : FzAt P w K d ks (upd H0 d (.frz o (NDk P w d xs))) := ⟨o, xs, upd_same, keys_mono e1 hx, f1⟩
  have it := itOk_keys (P := P) (w := w) (K := K) (d := d) (o := o) (xs := xs) (H0 := upd H0 d (.frz o (NDk P w d xs))) upd_same (keys_mono e1 hx)
  rw [f1] at it
  refine q _ _ (upd H0 d (.frz o (NDk P w d xs))) ⟨s.ex.trans hx, fun b u hb hn nt => ?_, fun b hb => ?_, fun b u hb => ?_, rfl, fun b hb => .inl hb⟩ ⟨fun b u hb => ?_, w1.len, w1.nd, fun j p ds h1 h2 => ?_, tabs_nd w1.tab c1, fun t ht => ?_⟩ (e.mono hx) fz it
  · have nb : b ≠ d := fun z => by rw [z, hS] at hb; cases hb
    rw [upd_ne nb]
    exact s.keep b u hb hn nt
  · by_cases z : b = d
    · rw [z]; exact hS
    · rw [upd_ne z] at hb
      exact s.dom b hb
  · by_cases z : b = d
    · rw [z]; exact .inr (.inl hS)
    · rw [upd_ne z] at hb
      exact s.fresh b u hb
  · by_cases z : b = d
    · subst z
      rw [upd_same] at hb ⊢
      exact hb
    · rw [upd_ne z] at hb ⊢
      exact w1.ex b u hb
  · obtain ⟨y1, ws, y2, y3⟩ := w1.cel j p ds h1 h2
    have np : p ≠ d := fun z => a1 (by rw [← z]; exact List.mem_of_getElem? h1)
    exact ⟨by rw [upd_ne np]; exact y1, ws, by rw [upd_ne np]; exact y2, dpAll_mono hx y3⟩
  · obtain ⟨ps, z1, _⟩ := w1.tab t ht
    have nt : t.1 ≠ d := fun z => by rw [z, c1] at z1; cases z1
    rw [upd_ne nt]
    exact w1.nT t ht
theorem keys2 {σ : L2.St} {H H0 S S0 : Hp} {ρ : List Addr} {i : Nat} (s : Stp ρ.length ρ S0 S ρ H0 H) (w1 : Wd K H0 H ρ m) (e : EnvS K H0 ρ σ es) (fz : FzAt P w K d ks H0) (hi : es[i]? = some (.v (.ref d))) (R : It → Hp → Prop)
    (q : ∀ J H' H0', Stp ρ.length ρ S0 S ρ H0' H' → Wd K H0' H' ρ m → EnvS K H0' ρ σ es → FzAt P w K d ks H0' → ItOk K J H0' (ks.map fun x => dataOf x.1) → R J H') : iNKeys P w (tVar i) σ H R := by
  obtain ⟨o, xs, c1, e1, f1⟩ := id fz
  refine ed_var (K := K) hi σ H H0 ρ e _ ?_
  refine ⟨d, xs, rfl, .inr ⟨o, w1.ex _ _ c1, ?_⟩⟩
  have it := itOk_keys (P := P) (w := w) (K := K) (d := d) c1 e1
  rw [f1] at it
  exact q _ H H0 s w1 e fz it
/-- what happens beside a dict that is new -/
theorem stp_less {S S0 H H0 : Hp} {ρ : List Addr} {o : HO} (hS : S d = none) (s : Stp ρ.length (ρ ++ [d]) S0 (upd S d o) (ρ ++ [d]) H0 H) : Stp ρ.length ρ S0 S ρ H0 H where
  ex := s.ex
  keep := fun b u hb hn nt => by
    have nb : b ≠ d := fun z => by rw [z, hS] at hb; cases hb
    refine s.keep b u (by rw [upd_ne nb]; exact hb) (fun z => ?_) nt
    rcases List.mem_append.mp z with z | z
    · exact hn z
    · exact nb (List.mem_singleton.mp z)
  dom := fun b hb => by
    have z := s.dom b hb
    by_cases e : b = d
    · rw [e, upd_same] at z; cases z
    · rw [upd_ne e] at z; exact z
  fresh := fun b u hb => by
    by_cases e : b = d
    · rw [e]; exact .inr (.inl hS)
    rcases s.fresh b u hb with z | z | z
    · exact .inl z
    · rw [upd_ne e] at z; exact .inr (.inl z)
    · have : b ∈ [d] := by
        rw [List.drop_left] at z
        exact z
      exact (e (List.mem_singleton.mp this)).elim
  pre := rfl
  cel := fun b hb => .inl hb
/-- {} given to a name -/
theorem new_dict {σ : L2.St} {S S0 : Hp} {ρ : List Addr} {i : Nat} {D : Ends} (w1 : Wd K S0 S ρ m) (e : EnvS K S0 ρ σ es)
    (q : ∀ d σ', S d = none → Wd K S0 (upd S d (NDk P w d [])) ρ m → EnvS K S0 ρ σ' (es.set i (.v (.ref d))) → DAt P w K d [] (upd S d (NDk P w d [])) S0 ρ → D.nx σ' (upd S d (NDk P w d []))) : tAsg (tNew P w) (gName i) D σ S := fun d hd => by
  have h0 := Evl.fresh_back w1.ex hd
  exact q d _ hd (w1.off h0 (w1.notin hd) (.inl hd)) (e.set rfl) ⟨w1.notin hd, h0, [], upd_same, fun x hx => by simp at hx, rfl⟩
end
end GX

set_option Elab.async false
set_option linter.all false
set_option maxRecDepth 100000
set_option maxHeartbeats 4000000
set_option exponentiation.threshold 2000
namespace K01
variable [DL.Tbs]
open PySem PySem.Spec PyProof.Rows L2 DL HX GX RT SX StX
/-! ### what holds of layers, of their stacks -/
def plOk : Pl → Prop
  | .fill _ c o => colB c ∧ opB o
  | .rub _ o => opB o
def l1Ok : L1 → Prop
  | .plain l => plOk l
  | .grp ls o _ _ => (∀ l, l ∈ ls → plOk l) ∧ opB o
theorem num_lt (fs : List Sh) (s : Sh) : (num fs s).1 < (num fs s).2.length := (List.getElem?_eq_some_iff.mp (num_get fs s)).1
theorem pre_le {α : Type} {a b : List α} (h : a <+: b) : a.length ≤ b.length := h.length_le
theorem stPl_ok {n : Nat} {fs : List Sh} {l : Pl} (h : plOk l) (hn : (stackPl fs l).2.length ≤ n) : spOk n (stackPl fs l).1 := by
  cases l with
  | fill s c o => exact ⟨Nat.lt_of_lt_of_le (num_lt fs s) hn, h⟩
  | rub s o => exact ⟨Nat.lt_of_lt_of_le (num_lt fs s) hn, h⟩
theorem stPs_ok {n : Nat} : ∀ {ls : List Pl} {fs : List Sh}, (∀ l, l ∈ ls → plOk l) → (stackPs fs ls).2.length ≤ n → ∀ x, x ∈ (stackPs fs ls).1 → spOk n x
  | [], fs, _, _, x, hx => by cases hx
  | l :: r, fs, h, hn, x, hx => by
    have hn' : (stackPs (stackPl fs l).2 r).2.length ≤ n := hn
    rcases List.mem_cons.mp (show x ∈ (stackPl fs l).1 :: (stackPs (stackPl fs l).2 r).1 from hx) with rfl | hx
    · exact stPl_ok (h l (by simp)) (Nat.le_trans (pre_le (stackPs_pre r _)) hn')
    · exact stPs_ok (fun y hy => h y (List.mem_cons_of_mem _ hy)) hn' x hx
theorem stPs_len : ∀ (ls : List Pl) (fs : List Sh), (stackPs fs ls).1.length = ls.length
  | [], fs => rfl
  | l :: r, fs => by
    show ((stackPl fs l).1 :: (stackPs (stackPl fs l).2 r).1).length = _
    rw [List.length_cons, List.length_cons, stPs_len r]
theorem st1_ok {n : Nat} {fs : List Sh} {l : L1} (h : l1Ok l) (hp : plc l) (hn : (stack1 fs l).2.length ≤ n) : s1Ok n (stack1 fs l).1 := by
  cases l with
  | plain l => exact stPl_ok (show plOk l from h) hn
  | grp ls o c m =>
    obtain ⟨h1, h2⟩ : (∀ l, l ∈ ls → plOk l) ∧ opB o := h
    have hn' : (stackPs (numC fs c).2 ls).2.length ≤ n := hn
    refine ⟨by rw [stPs_len]; exact hp.1, stPs_ok h1 hn', h2, fun i hi => ?_⟩
    cases c with
    | none => cases hi
    | some s =>
      have hi : some (num fs s).1 = some i := hi
      cases hi
      exact Nat.lt_of_lt_of_le (num_lt fs s) (Nat.le_trans (pre_le (stackPs_pre ls _)) hn')
theorem st1s_ok {n : Nat} : ∀ {ls : List L1} {fs : List Sh}, (∀ l, l ∈ ls → l1Ok l ∧ plc l) → (stack1s fs ls).2.length ≤ n → ∀ x, x ∈ (stack1s fs ls).1 → s1Ok n x
  | [], fs, _, _, x, hx => by cases hx
  | l :: r, fs, h, hn, x, hx => by
    have hn' : (stack1s (stack1 fs l).2 r).2.length ≤ n := hn
    rcases List.mem_cons.mp (show x ∈ (stack1 fs l).1 :: (stack1s (stack1 fs l).2 r).1 from hx) with rfl | hx
    · exact st1_ok (h l (by simp)).1 (h l (by simp)).2 (Nat.le_trans (pre_le (stack1s_pre r _)) hn')
    · exact st1s_ok (fun y hy => h y (List.mem_cons_of_mem _ hy)) hn' x hx
theorem st1s_len : ∀ (ls : List L1) (fs : List Sh), (stack1s fs ls).1.length = ls.length
  | [], fs => rfl
  | l :: r, fs => by
    show ((stack1 fs l).1 :: (stack1s (stack1 fs l).2 r).1).length = _
    rw [List.length_cons, List.length_cons, st1s_len r]
theorem fs_len : ∀ {ls : List L1} {fs : List Sh}, (∀ l, l ∈ ls → plc l) → (stack1s fs ls).2.length ≤ fs.length + ls.length * 5
  | [], fs, _ => Nat.le_add_right _ _
  | l :: r, fs, h => by
    have h1 := stack1_len (fs := fs) (h l (by simp))
    have h2 := fs_len (ls := r) (fs := (stack1 fs l).2) fun x hx => h x (List.mem_cons_of_mem _ hx)
    show (stack1s (stack1 fs l).2 r).2.length ≤ _
    rw [List.length_cons, Nat.succ_mul]
    omega
theorem place_plOk {m : Mat} {l : Pl} (h : plOk l) : plOk (placePl m l) := by cases l <;> exact h
theorem place_l1Ok {m : Mat} {l : L1} (h : l1Ok l) : l1Ok (place1 m l) := by
  cases l with
  | plain l => exact place_plOk (show plOk l from h)
  | grp ls o c mt =>
    refine ⟨fun x hx => ?_, h.2⟩
    obtain ⟨y, hy, rfl⟩ := List.mem_map.mp hx
    exact place_plOk (h.1 y hy)
theorem plOk_ok {l : Pl} (h : plOk l) : l.ok := by cases l with
  | fill s c o => exact h.1.1
  | rub s o => exact trivial
theorem l1Ok_ok {l : L1} (h : l1Ok l) : l.ok := by cases l with
  | plain l => exact plOk_ok (show plOk l from h)
  | grp ls o c m => exact fun x hx => plOk_ok (h.1 x hx)
theorem place_plc {m : Mat} {l : L1} (h : g1B l) : plc (place1 m l) := by
  cases l with
  | plain l => trivial
  | grp ls o c mt => exact ⟨by rw [List.length_map]; exact h.1, rfl⟩
theorem still_B {k : Nat} : matB k still := ⟨Nat.one_le_two_pow, Nat.zero_le _, Nat.zero_le _, Nat.one_le_two_pow, Nat.zero_le _, Nat.zero_le _⟩
theorem shs_B {l : L1} (h : g1B l) : ∀ x, x ∈ shs1 (place1 still l) → shB 60 x := by
  cases l with
  | plain l =>
    intro x hx
    have hx : x ∈ [(placePl still l).sh] := hx
    rw [List.mem_singleton.mp hx, place_sh]
    exact shB_up (place_shB (still_B (k := 0)) h.1) (by decide)
  | grp ls o c mt =>
    obtain ⟨_, hls, hc, hm⟩ := h
    have hb := both_nb (still_B (k := 0)) hm
    intro x hx
    rcases List.mem_append.mp (show x ∈ (match c.map (placeSh (both still mt)) with | some s => [s] | none => []) ++ (ls.map (placePl (both still mt))).map Pl.sh from hx) with hx | hx
    · cases c with
      | none => cases hx
      | some s =>
        have hx : x ∈ [placeSh (both still mt) s] := hx
        rw [List.mem_singleton.mp hx]
        exact shB_up (place_shB hb (hc s rfl)) (by decide)
    · rw [List.map_map] at hx
      obtain ⟨l, hl, rfl⟩ := List.mem_map.mp hx
      show shB 60 (placePl (both still mt) l).sh
      rw [place_sh]
      exact shB_up (place_shB hb (hls l hl).1) (by decide)
theorem kvI_data : ∀ (k : Nat) (fs : List Sh), ((kvI k fs).map fun x => GX.dataOf x.1) = fs.map shD
  | _, [] => rfl
  | k, s :: fs => by
    unfold kvI
    rw [List.map_cons, List.map_cons, kvI_data (k + 1) fs, ← data_key (shD s) (keyS s) (key_sh s)]
/-- a drawing of these layers -/
structure DrOk (ls : List L1) : Prop where
  len : ls.length ≤ 4
  g1 : ∀ l, l ∈ ls → g1B l
  ok : ∀ l, l ∈ ls → l1Ok l
section
variable {P : Program} {w : World} {K : PySem.W.Frag} {mg : Str → Option Value} {base : Heap}
abbrev fsM (ls : List L1) : List Sh := (stack1s [] (ls.map (place1 still))).2
theorem fsM_B {ls : List L1} (h : DrOk ls) : ∀ s, s ∈ fsM ls → shB 60 s := fun s hs => by
  rcases (stack1s_mem (ls.map (place1 still)) [] s).mp hs with z | z
  · cases z
  · obtain ⟨l, hl, hx⟩ := List.mem_flatMap.mp z
    obtain ⟨l0, h0, rfl⟩ := List.mem_map.mp hl
    exact shs_B (h.g1 l0 h0) s hx
theorem fsM_len {ls : List L1} (h : DrOk ls) : (fsM ls).length ≤ 20 := by
  show (stack1s [] (ls.map (place1 still))).2.length ≤ 20
  have := fs_len (ls := ls.map (place1 still)) (fs := []) fun l hl => by
    obtain ⟨l0, h0, rfl⟩ := List.mem_map.mp hl
    exact place_plc (h.g1 l0 h0)
  rw [List.length_map] at this
  have := h.len
  simp only [List.length_nil] at *
  omega
theorem getB_map {α : Type} (f : α → Bool) (fs : List α) : (fun n => (fs.map f).getD n false) = insB (fs.map f) := rfl
def g_painted (D1 D2 D3 : Addr) : List Sl → M → Res → M → Prop := fun rs m res m' => m' = m ∧ ∃ x p, rs = [.d x, .d p] ∧ okLs 2 x = true ∧
  ((drawM x = false ∧ res = .exc D1) ∨ (drawM x = true ∧ pointM p = false ∧ res = .exc D2) ∨
    (drawM x = true ∧ pointM p = true ∧ ∃ (ls : List L1) (pt : Pt), x = .tuple (ls.map l1D) ∧ DrOk ls ∧ p = ptD pt ∧ 0 < pt.x1 ∧ 0 < pt.y1 ∧ ptB 40 pt ∧ res = match paintedM (spotM pt) ls with
      | some v => .ok (.d (vD v))
      | none => .exc D3))
abbrev tShN (P : Program) (w : World) (te : TE) : TE := tLc (iNKeys P w (tVar 2)) (gName 5) tYes te [5]
abbrev teOn (K : PySem.W.Frag) : TE := tCall (spD K 2 (pureG R_onSh)) [] E0 (tCons (tVar 5) (tCons (tVar 4) tNil))
abbrev teIn (K : PySem.W.Frag) : TE := tCall (spD K 2 (pureG R_inside)) [] E0 (tCons (tVar 5) (tCons (tVar 4) tNil))
theorem tail2 {m : M} {ls : List L1} {pt : Pt} {D3 d : Addr} (hd : DrOk ls) (hp : ptB 40 pt) {σ3 : L2.St} {S S0 H3 H03 : Hp} {ρ : List Addr} (hS : S d = none) (s4 : Stp ρ.length ρ S0 S ρ H03 H3) (w3 : Wd K H03 H3 ρ m) (da3 : DAt P w K d (kvI 0 (fsM ls)) H3 H03 ρ)
    (e3 : EnvS K H03 ρ σ3 [.d (.tuple (ls.map l1D)), .d (ptD pt), .v (.ref d), .d (.tuple ((stack1s [] (ls.map (place1 still))).1.map s1D)), .d (spD' (spotM pt)), .no]) (D : Ends) (E : XK)
    (qOk : ∀ v, paintedM (spotM pt) ls = some v → ∀ v' H' H0', Stp ρ.length ρ S0 S ρ H0' H' → Wd K H0' H' ρ m → Dp K H0' v' (vD v) → D.rt v' H')
    (qEx : paintedM (spotM pt) ls = none → ∀ H' H0', Stp ρ.length ρ S0 S ρ H0' H' → Wd K H0' H' ρ m → E (.ref D3) none H') :
    tSeq (tIfS (tB (tCB (rAny K) (tCons (tShN P w (teOn K)) tNil))) (fun _ σ H => (fun (_ : L2.St) (H : Hp) (Q : XK) => Q (.ref D3) none H) σ H fun cls d H' => E cls d H') tNext)
        (tRet (tCall (spD K 2 (pureG R_sh1)) [] E0 (tCons (tVar 3) (tCons (tShN P w (teIn K)) tNil)))) D σ3 H3 := by
  have hf := fsM_len hd
  have hB := fsM_B hd
  -- the first walk
  have hsp := spot_nb hp
  have lc1 : LcR K (gName 5) tYes (teOn K) (wipeS [.d (.tuple (ls.map l1D)), .d (ptD pt), .v (.ref d), .d (.tuple ((stack1s [] (ls.map (place1 still))).1.map s1D)), .d (spD' (spotM pt)), .no] [5]) [5] ((kvI 0 (fsM ls)).map fun x => GX.dataOf x.1) m ((fsM ls).map fun s => .bool (onShP (spotM pt) s)) m := by
    rw [kvI_data]
    exact lcMapF shD (fun s => .bool (onShP (spotM pt) s)) (by simp) fun s hs => ev_pure (arg2 (ev_var rfl nofun) (ev_var rfl nofun)) (ds := [shD s, spD' (spotM pt)]) rfl ⟨s, spotM pt, rfl, hB s hs, hsp, rfl⟩ rfl
  show tB (tCB (rAny K) (tCons (tShN P w (teOn K)) tNil)) σ3 H3 _
  show tCB (rAny K) (tCons (tShN P w (teOn K)) tNil) σ3 H3 _
  unfold tCB tCons tNil
  refine lcAt (K := K) (Φ := FzAt P w K d (kvI 0 (fsM ls))) (fz_mono) (fun R q => keys1 (i := 2) s4 w3 e3 da3 hS rfl R q) lc1 (by rw [List.length_map, kvI_len]; omega) _ fun p xs H4 H04 s5 w5 e5 f5 p1 p2 p3 p4 p5 => ?_
  obtain ⟨H05, x5, s6, w6, k6⟩ := freezeL s5 w5 p1 p2 p3 p4 p5
  have e6 := e5.mono x5
  have f6 := fz_mono _ _ x5 f5
  have hany : ((fsM ls).map fun s => PyData.bool (onShP (spotM pt) s)) = ((fsM ls).map (onShP (spotM pt))).map .bool := by rw [List.map_map]; rfl
  rw [hany] at k6
  show rAny K [.ref p] H4 _
  refine c_any (K := K) (bs := (fsM ls).map (onShP (spotM pt))) H05 H4 ρ w6.ex [.ref p] (.cons k6 .nil) _ fun u H7 H07 y1 y2 y3 y4 y5 => ?_
  obtain ⟨w7, s7⟩ := w6.grow (n := ρ.length) y1 y2 y3 y4
  have s8 := s6.trans w6.nd s7
  have eany : ((fsM ls).map (onShP (spotM pt))).any id = (fsM ls).any (onShP (spotM pt)) := by rw [List.any_map]; rfl
  rw [eany] at y5
  cases y5
  refine ⟨_, rfl, ?_⟩
  cases hq : (fsM ls).any (onShP (spotM pt)) with
  | true => exact iteT (qEx (by unfold paintedM; rw [if_pos hq]) H7 H07 s8 w7)
  | false =>
    refine iteF ?_
    have e7 := e6.mono s7.ex
    have f7 := fz_mono _ _ s7.ex f6
    -- the second walk
    have lc2 : LcR K (gName 5) tYes (teIn K) (wipeS [.d (.tuple (ls.map l1D)), .d (ptD pt), .v (.ref d), .d (.tuple ((stack1s [] (ls.map (place1 still))).1.map s1D)), .d (spD' (spotM pt)), .no] [5]) [5] ((kvI 0 (fsM ls)).map fun x => GX.dataOf x.1) m ((fsM ls).map fun s => .bool (insideP (spotM pt) s)) m := by
      rw [kvI_data]
      exact lcMapF shD (fun s => .bool (insideP (spotM pt) s)) (by simp) fun s hs => ev_pure (arg2 (ev_var rfl nofun) (ev_var rfl nofun)) (ds := [shD s, spD' (spotM pt)]) rfl ⟨s, spotM pt, rfl, hB s hs, hsp, rfl⟩ rfl
    rcases e7.2 3 _ rfl with z | ⟨v3, g1, g2⟩
    · cases z
    refine ⟨v3, g1, ?_⟩
    refine lcAt (K := K) (Φ := fun H0 => FzAt P w K d (kvI 0 (fsM ls)) H0 ∧ Dp K H0 v3 (.tuple ((stack1s [] (ls.map (place1 still))).1.map s1D))) (fun a b e h => ⟨fz_mono a b e h.1, dp_mono e h.2⟩) (fun R q => keys2 (i := 2) s8 w7 e7 f7 rfl R fun J H' H0' a1 a2 a3 a4 a5 => q J H' H0' a1 a2 a3 ⟨a4, by
      rcases a3.2 3 _ rfl with z | ⟨v4, z1, z2⟩
      · cases z
      · rw [g1] at z1
        cases z1
        exact z2⟩ a5) lc2 (by rw [List.length_map, kvI_len]; omega) _ fun p' xs' H8 H08 s9 w9 e9 f9 o1 o2 o3 o4 o5 => ?_
    obtain ⟨H09, x9, s10, w10, k10⟩ := freezeL s9 w9 o1 o2 o3 o4 o5
    have k11 : Dp K H09 v3 (.tuple ((stack1s [] (ls.map (place1 still))).1.map s1D)) := dp_mono x9 f9.2
    have hb2 : ((fsM ls).map fun s => PyData.bool (insideP (spotM pt) s)) = ((fsM ls).map (insideP (spotM pt))).map .bool := by rw [List.map_map]; rfl
    rw [hb2] at k10
    show spD K 2 (pureG R_sh1) ([v3, .ref p'] ++ []) H8 _ _
    rw [List.append_nil]
    refine ⟨rfl, H09, ρ, m, [.d (.tuple ((stack1s [] (ls.map (place1 still))).1.map s1D)), .d (blD ((fsM ls).map (insideP (spotM pt))))], .d (vD (shown1s (insB ((fsM ls).map (insideP (spotM pt)))) (stack1s [] (ls.map (place1 still))).1)), m, w10, .cons k11 (.cons k10 .nil), ⟨_, _, rfl, ⟨(stack1s [] (ls.map (place1 still))).1, (fsM ls).map (insideP (spotM pt)), rfl, by rw [st1s_len, List.length_map]; exact hd.len, fun l hl => ?_, rfl⟩, rfl, rfl⟩, fun v' H' H0' s11 w11 k' => qOk _ ?_ v' H' H0' (s10.trans w10.nd s11) w11 k'⟩
    · rw [List.length_map]
      exact st1s_ok (fun l hl => by
        obtain ⟨l0, h0, rfl⟩ := List.mem_map.mp hl
        exact ⟨place_l1Ok (hd.ok l0 h0), place_plc (hd.g1 l0 h0)⟩) (Nat.le_refl _) l hl
    · unfold paintedM
      rw [if_neg (by rw [hq]; exact Bool.false_ne_true)]
      rfl
theorem tailP {m : M} {ls : List L1} {pt : Pt} {D3 : Addr} (hd : DrOk ls) (h1 : 0 < pt.x1) (h2 : 0 < pt.y1) (hp : ptB 40 pt) (h_SAME : ∃ a, mg "SAME_PLACE" = some (.ref a) ∧ ∀ H, Dp K H (.ref a) (matD still)) {σ : L2.St} {S S0 : Hp} {ρ : List Addr} (w1 : Wd K S0 S ρ m)
    (e1 : EnvS K S0 ρ σ [.d (.tuple (ls.map l1D)), .d (ptD pt), .no, .no, .no, .no]) (D : Ends) (E : XK)
    (qOk : ∀ v, paintedM (spotM pt) ls = some v → ∀ v' H' H0', Stp ρ.length ρ S0 S ρ H0' H' → Wd K H0' H' ρ m → Dp K H0' v' (vD v) → D.rt v' H')
    (qEx : paintedM (spotM pt) ls = none → ∀ H' H0', Stp ρ.length ρ S0 S ρ H0' H' → Wd K H0' H' ρ m → E (.ref D3) none H') :
    tSeq (tAsg (tNew P w) (gName 2)) (tSeq (tAsg (tCall (spK P w K gSu1) [] E0 (tCons (tCall (spD K 2 (pureG R_pls1)) [] E0 (tCons (tVar 0) (tCons (tC (.ref h_SAME.choose)) tNil))) (tCons (tVar 2) tNil))) (gName 3))
      (tSeq (tAsg (tCall (spD K 1 (pureG R_spotof)) [] E0 (tCons (tVar 1) tNil)) (gName 4)) (tSeq (tIfS (tB (tCB (rAny K) (tCons (tShN P w (teOn K)) tNil))) (fun _ σ H => (fun (_ : L2.St) (H : Hp) (Q : XK) => Q (.ref D3) none H) σ H fun cls d H' => E cls d H') tNext)
        (tRet (tCall (spD K 2 (pureG R_sh1)) [] E0 (tCons (tVar 3) (tCons (tShN P w (teIn K)) tNil))))))) D σ S := by
  have hf := fsM_len hd
  have hB := fsM_B hd
  refine new_dict (P := P) (w := w) w1 e1 fun d σ1 hS wA eA dA => ?_
  have hok1 : ∀ l, l ∈ ls.map (place1 still) → ok1 l := fun l hl => by
    obtain ⟨l0, h0, rfl⟩ := List.mem_map.mp hl
    exact ⟨l1Ok_ok (place_l1Ok (hd.ok l0 h0)), place_plc (hd.g1 l0 h0)⟩
  have st := sd_set (i := 3) (ed_call (P := P) (w := w) (K := K) (d := d) (ks := kvI 0 []) (E := E0) (i := 2) (es := [.d (.tuple (ls.map l1D)), .d (ptD pt), .v (.ref d), .no, .no, .no]) (m := m) (g := gSu1)
    (ev_pure (E := E0) (P := R_pls1) (n := 2) (arg2 (ev_var (i := 0) rfl nofun) (ev_glob h_SAME.choose_spec.2)) (ds := [.tuple (ls.map l1D), matD still]) rfl ⟨ls, still, rfl, hd.len, hd.g1, still_B, rfl⟩ rfl) rfl
    (y := .tuple ((stack1s [] (ls.map (place1 still))).1.map s1D)) (ks1 := kvI 0 (fsM ls)) ⟨ls.map (place1 still), [], by rw [List.map_map]; rfl, rfl, by rw [List.length_map]; exact hd.len, hok1, by rw [List.length_map, List.length_nil]; have := hd.len; omega, rfl, rfl⟩)
  refine st σ1 _ S0 ρ wA eA dA _ fun σ2 H2 H02 s2 w2 da2 e2 => ?_
  have sp := sd_lift (P := P) (w := w) (d := d) (ks := kvI 0 (fsM ls)) (sv_set (n := m.length) (K := K) (i := 4) (ev_pure (E := E0) (P := R_spotof) (n := 1) (m1 := m) (arg1 (ev_var (i := 1) (es := [.d (.tuple (ls.map l1D)), .d (ptD pt), .v (.ref d), .d (.tuple ((stack1s [] (ls.map (place1 still))).1.map s1D)), .no, .no]) rfl nofun)) (ds := [ptD pt]) rfl ⟨pt, rfl, h1, h2, hp, rfl⟩ rfl))
  refine sp σ2 H2 H02 ρ w2 e2 da2 _ fun σ3 H3 H03 s3 w3 da3 e3 => ?_
  have s4 := stp_less hS (s2.trans (cell_ne w2 da2) s3)
  exact tail2 hd hp hS s4 w3 da3 e3 D E qOk qEx
theorem c_painted {k : Nat} (b_any : mg "any" = none) (h_SAME_PLACE : ∃ a, mg "SAME_PLACE" = some (.ref a) ∧ ∀ H, Dp K H (.ref a) (matD still)) (TD : DefT K mg "painted" st_painted ["drawing", "point"]) {D1 D2 D3 : Addr} (gD : mg "OnEdge" = some (.ref D3)) (rD : RaiseD K D3)
    (D_check_drawing : DefX P w K mg base k "check_drawing" ["value"] (g_check D1)) (D_check_point : DefX P w K mg base k "check_point" ["value"] (g_point D2)) (D_stack_up : DefC P w K mg base CX0 k "stack_up" ["layers", "numbers"] (spK P w K gSu1)) (D_place_layers : PureC P w K mg base k "place_layers" ["layers", "matrix"] R_pls1)
    (D_spot_of : PureC P w K mg base k "spot_of" ["point"] R_spotof) (D_is_on_shape : PureC P w K mg base k "is_on_shape" ["shape", "spot"] R_onSh) (D_is_inside : PureC P w K mg base k "is_inside" ["shape", "spot"] R_inside) (D_shown : PureC P w K mg base k "shown" ["stack", "inside"] R_sh1) :
    DefX P w K mg base (k + 1) "painted" ["drawing", "point"] (g_painted D1 D2 D3) := by
  refine mkDefX TD S_painted ?_ fun f cdv A outer s H hr => ⟨fun E => _, fun E => (pss_cons (ps_expr (pe_def D_check_drawing (hr.mono (by omega)) (by rfl) passN (pa_cons (pv 0) pa_nil)))
      (pss_cons (ps_expr (pe_def D_check_point (hr.mono (by omega)) (by rfl) passN (pa_cons (pv 1) pa_nil)))
      (pss_cons (ps_set (i := 2) S_painted.nd rfl (Or.inl rfl) (GX.kNew (P := P) (w := w)))
      (pss_cons (ps_set (i := 3) S_painted.nd rfl (Or.inl rfl) (pe_def D_stack_up (hr.mono (by omega)) (by rfl) pass0 (pa_cons (pe_def D_place_layers (hr.mono (by omega)) (by rfl) pass0 (pa_cons (pv 0) (pa_cons (pe_glob (v := .ref h_SAME_PLACE.choose) (by rfl) h_SAME_PLACE.choose_spec.1 rfl) pa_nil))) (pa_cons (pv 2) pa_nil))))
      (pss_cons (ps_set (i := 4) S_painted.nd rfl (Or.inr rfl) (pe_def D_spot_of (hr.mono (by omega)) (by rfl) pass0 (pa_cons (pv 1) pa_nil)))
      (pss_cons (ps_if (pt_val (pe_callB (kAny (K := K) rfl) (by rfl) b_any (by decide +kernel) (pa_cons (pe_lc (own := [("shape", 5)]) (by rfl) S_painted.nd (GX.kNKeys (P := P) (w := w) (pv 2)) (blkOk_by (N := N_painted) (sc := defScope st_painted) (by decide +kernel)) (fun _ _ _ _ _ => pg_name (i := 5) S_painted.nd rfl (by first | exact Or.inl rfl | exact Or.inr rfl)) (fun _ _ _ _ _ => pts_nil) (fun _ _ _ _ _ => (pe_def D_is_on_shape (hr.mono (by omega)) (by rfl) pass0 (pa_cons (pv 5) (pa_cons (pv 4) pa_nil))))) pa_nil))) (pss_one (L2N.ps_raise rfl takesN (L2N.pmk_own PySem.F.excBase_ValueError rD.own gD rD.kp (raises_own rD.bF rD.tF) (by rfl)))) pss_nil)
      (pss_one (ps_ret (pe_def D_shown (hr.mono (by omega)) (by rfl) pass0 (pa_cons (pv 3) (pa_cons (pe_lc (own := [("shape", 5)]) (by rfl) S_painted.nd (GX.kNKeys (P := P) (w := w) (pv 2)) (blkOk_by (N := N_painted) (sc := defScope st_painted) (by decide +kernel)) (fun _ _ _ _ _ => pg_name (i := 5) S_painted.nd rfl (by first | exact Or.inl rfl | exact Or.inr rfl)) (fun _ _ _ _ _ => pts_nil) (fun _ _ _ _ _ => (pe_def D_is_inside (hr.mono (by omega)) (by rfl) pass0 (pa_cons (pv 5) (pa_cons (pv 4) pa_nil))))) pa_nil))))))))))), ?_⟩
  · rintro rs m r m' ⟨rfl, x, p, _, _, h⟩
    refine ⟨rfl, ?_⟩
    rcases h with ⟨_, rfl⟩ | ⟨_, _, rfl⟩ | ⟨_, _, ls, pt, _, _, _, _, _, _, rfl⟩
    · rfl
    · rfl
    · split <;> rfl
  rintro rs m r m' hl ⟨rfl, x, p, rfl, hk, h⟩
  rcases h with ⟨hx, rfl⟩ | ⟨hx, hp, rfl⟩ | ⟨hx, hp, ls, pt, rfl, hd, rfl, h1, h2, hb, rfl⟩
  · exact sx_fst (sx_drop (ex_call (arg1 (ev_var rfl nofun)) ⟨rfl, x, rfl, hk, by rw [hx]; rfl⟩ rfl))
  · exact sx_snd (fun E => sv_drop (ok_call (r := .d .none) (arg1 (ev_var rfl nofun)) ⟨rfl, x, rfl, hk, by rw [hx]; rfl⟩ rfl)) (sx_fst (sx_drop (ex_call (arg1 (ev_var rfl nofun)) ⟨rfl, p, rfl, by rw [hp]; rfl⟩ rfl)))
  · cases hq : paintedM (spotM pt) ls with
    | none =>
      refine sx_snd (es1 := [.d (.tuple (ls.map l1D)), .d (ptD pt), .no, .no, .no, .no]) (m1 := m') (fun E => sv_drop (ok_call (r := .d .none) (arg1 (ev_var rfl nofun)) ⟨rfl, _, rfl, hk, by rw [hx]; rfl⟩ rfl)) (sx_snd (es1 := [.d (.tuple (ls.map l1D)), .d (ptD pt), .no, .no, .no, .no]) (m1 := m') (fun E => sv_drop (ok_call (r := .d .none) (arg1 (ev_var rfl nofun)) ⟨rfl, _, rfl, by rw [hp]; rfl⟩ rfl)) ?_)
      exact fun σ H H0 ρ hn w1 e1 Dn E q => tailP (D3 := D3) hd h1 h2 hb h_SAME_PLACE w1 e1 Dn E (fun v hv => by rw [hq] at hv; cases hv) fun _ H' H0' s' w' => q ρ H' H0' [] s'.low (by rw [List.append_nil]; exact w')
    | some v =>
      refine .inl fun E => sv_seq (es1 := [.d (.tuple (ls.map l1D)), .d (ptD pt), .no, .no, .no, .no]) (m1 := m') (sv_drop (ok_call (r := .d .none) (arg1 (ev_var rfl nofun)) ⟨rfl, _, rfl, hk, by rw [hx]; rfl⟩ rfl)) (sv_seq (es1 := [.d (.tuple (ls.map l1D)), .d (ptD pt), .no, .no, .no, .no]) (m1 := m') (sv_drop (ok_call (r := .d .none) (arg1 (ev_var rfl nofun)) ⟨rfl, _, rfl, by rw [hp]; rfl⟩ rfl)) ?_)
      exact fun σ H H0 ρ hn w1 e1 Dn q => tailP (D3 := D3) hd h1 h2 hb h_SAME_PLACE w1 e1 Dn E (fun v' hv v2 H' H0' s' w' k' => by
        rw [hq] at hv
        cases hv
        exact q v2 ρ H' H0' [] s'.low (by rw [List.append_nil]; exact w') k') fun hv => by rw [hq] at hv; cases hv
end
end K01

set_option Elab.async false
set_option linter.all false
set_option maxRecDepth 100000
set_option maxHeartbeats 4000000
set_option exponentiation.threshold 2000
namespace K01
variable [DL.Tbs]
open PySem PySem.Spec PyProof.Rows L2 DL HX GX RT SX StX
section
variable {P : Program} {w : World} {K : PySem.W.Frag} {mg : Str → Option Value} {base : Heap}
theorem sv_par {n i j : Nat} {es : List Sl} {m m1 : M} {ta : TA} {r1 r2 : Sl} (h : EvA K ta es m [r1, r2] m1) : Sv K n (tPar i j ta) es m (.nx ((es.set i r1).set j r2) m1) := fun σ H H0 ρ hn w e D q =>
  h σ H H0 ρ w e _ fun vs H1 H01 s1 w1 k => by
    cases k with
    | cons a t =>
      cases t with
      | cons b u =>
        cases u
        exact ⟨_, _, rfl, q _ ρ H1 H01 s1.low w1 (((e.mono s1.ex).set a).set b)⟩
theorem c_abs {i : Int} : OpC K (fun xs H Q => ∃ i, xs = [V.int i] ∧ Q (.int (if i < 0 then -i else i)) H) [.d (.int i)] (.int (i.natAbs : Int)) := fun H0 H ρ ex vs k Q q => by
  cases k with
  | cons a t =>
    cases t
    have a : Dp K H0 _ (.int i) := a
    cases a
    refine ⟨i, rfl, ?_⟩
    have e : (if i < 0 then -i else i) = (i.natAbs : Int) := by split <;> omega
    rw [e]
    exact here ex (.int _) q
/-- Euclid's loop -/
theorem wh_euc {n : Nat} {s0 s1 : Sl} {m : M} : ∀ (k a b : Nat), b < k → ∃ i, WhR K n (tTest (tOp (rNeU K) (tVar 3) (tC (.int 0)))) (tPar 2 3 (tCons (tVar 3) (tCons (tOp (rI (fun _ j => 0 < j) fun i j => .int (i % j)) (tVar 2) (tVar 3)) tNil))) i [s0, s1, .d (.int (a : Int)), .d (.int (b : Int))] m [s0, s1, .d (.int (Nat.gcd a b : Int)), .d (.int 0)] m
  | k + 1, a, b, h => by
    by_cases hb : b = 0
    · subst hb
      rw [Nat.gcd_zero_right]
      exact ⟨0, .stop (eb_cast (eb_test (ev_op (ev_var rfl nofun) ev_int o_neI)) rfl)⟩
    · have hlt : a % b < b := Nat.mod_lt _ (by omega)
      obtain ⟨i, w1⟩ := wh_euc (n := n) (s0 := s0) (s1 := s1) (m := m) k b (a % b) (by omega)
      have e : Nat.gcd b (a % b) = Nat.gcd a b := by rw [Nat.gcd_comm a b, Nat.gcd_rec b a, Nat.gcd_comm]
      rw [e] at w1
      refine ⟨i + 1, .go (m1 := m) (m2 := m) (eb_cast (eb_test (ev_op (ev_var rfl nofun) ev_int o_neI)) (by simp [hb])) (sv_par (r1 := .d (.int (b : Int))) (r2 := .d (.int ((a % b : Nat) : Int))) (arg2 (ev_var rfl nofun) (ev_cast (ev_op (ev_var rfl nofun) (ev_var rfl nofun) (o_mod (by omega))) (by rw [Int.natCast_emod])))) w1⟩
abbrev R_llow : List PyData → PyData → Prop := R_low
theorem c_llow {k : Nat} (b_abs : mg "abs" = none) (TD : DefT K mg "_law_low" st__law_low ["_law_top", "_law_bottom"]) : PureC P w K mg base (k + 1) "_law_low" ["_law_top", "_law_bottom"] R_low := by
  refine mkPure TD S__law_low fun f cdv A outer s H E hr => ?_
  have hu := hr.units
  refine ⟨_, (pss_cons (ps_par (i := 2) (j := 3) rfl S__law_low.nd rfl rfl (by decide) rfl rfl (pa_cons (pe_callB call_abs (by rfl) b_abs (by decide +kernel) (pa_cons (pv 0) pa_nil)) (pa_cons (pe_callB call_abs (by rfl) b_abs (by decide +kernel) (pa_cons (pv 1) pa_nil)) pa_nil)) (by rfl))
      (pss_cons (ps_while PassesOwn.never (pt_cmpR (kNe (K := K) hu) (pv 3) pe_int (nomark _)) (pss_one (ps_par (i := 2) (j := 3) rfl S__law_low.nd rfl rfl (by decide) rfl rfl (pa_cons (pv 3) (pa_cons (pe_op op_mod (pv 2) (pv 3)) pa_nil)) (by rfl))))
      (pss_cons (ps_set (i := 2) S__law_low.nd rfl (Or.inl rfl) (pe_ifExp (pt_cmpR op_gt (pv 1) pe_int (nomark _)) (pv 2) (pe_un un_neg (pv 2))))
      (pss_one (ps_ret (pe_tup (pa_cons (pe_op op_fdivW (pv 0) (pv 2)) (pa_cons (pe_op op_fdivW (pv 1) (pv 2)) pa_nil)))))))), ?_⟩
  rintro ds m y hl ⟨t, b, rfl, hb, h1, h2, rfl⟩
  have hg := gcd_pos (t := t) hb
  have hle := Nat.le_trans (gcd_le (t := t) hb) h2
  obtain ⟨i, wh⟩ := wh_euc (K := K) (n := m.length) (s0 := .d (.int t)) (s1 := .d (.int b)) (m := m) (b.natAbs + 1) t.natAbs b.natAbs (Nat.lt_succ_self _)
  refine sv_seq (es1 := [.d (.int t), .d (.int b), .d (.int (t.natAbs : Int)), .d (.int (b.natAbs : Int))]) (m1 := m) (sv_par (arg2 (ev_cb (arg1 (ev_var rfl nofun)) c_abs) (ev_cb (arg1 (ev_var rfl nofun)) c_abs))) ?_
  refine sv_seq (sv_while wh) ?_
  refine sv_seq (es1 := [.d (.int t), .d (.int b), .d (.int (Int.gcd t b : Int)), .d (.int 0)]) (m1 := m) (sv_set (ev_ifT (eb_cast (eb_test (ev_op (ev_var rfl nofun) ev_int o_i0b)) (decide_eq_true hb)) (ev_var rfl nofun))) ?_
  refine sv_ret0 (ev_cast (ev_tup (ds := [.int (t / (Int.gcd t b : Int)), .int (b / (Int.gcd t b : Int))]) (arg2 (ev_op (ev_var rfl nofun) (ev_var rfl nofun) (o_div (divOk hg hle (by decide)))) (ev_op (ev_var rfl nofun) (ev_var rfl nofun) (o_div (divOk hg hle (by decide))))) rfl (by simp)) ?_)
  unfold lowI lowT
  rw [Int.gcd_comm b t]
/-! ### fractions by the law: pairs, in lowest terms or not -/
abbrev R_lop (f : Rat → Rat → Rat) : List PyData → PyData → Prop := fun ds y => ∃ p q : Pr, ds = [prD p, prD q] ∧ 0 < p.2 ∧ 0 < q.2 ∧ prB 400 p ∧ prB 400 q ∧ y = fr (f (opq p) (opq q))
theorem fr_pr (x : Rat) : fr x = prD (x.num, (x.den : Int)) := rfl
theorem opq_fr (x : Rat) : opq (x.num, (x.den : Int)) = x := by rw [opq_div, Rat.num_divInt_den]
theorem fr_B {x : Rat} {k : Nat} (h : sz k x) : prB k (x.num, (x.den : Int)) := ⟨h.1, den_nat h⟩
theorem ne_pos {i : Int} (h : 0 < i) : i ≠ 0 := by omega
theorem lop_add {p q : Pr} (hp : 0 < p.2) (hq : 0 < q.2) : opq p + opq q = Rat.divInt (p.1 * q.2 + q.1 * p.2) (p.2 * q.2) := by rw [opq_div, opq_div, Rat.divInt_add_divInt _ _ (ne_pos hp) (ne_pos hq)]
theorem lop_sub {p q : Pr} (hp : 0 < p.2) (hq : 0 < q.2) : opq p - opq q = Rat.divInt (p.1 * q.2 - q.1 * p.2) (p.2 * q.2) := by rw [opq_div, opq_div, Rat.divInt_sub_divInt _ _ (ne_pos hp) (ne_pos hq)]
theorem lop_mul {p q : Pr} : opq p * opq q = Rat.divInt (p.1 * q.1) (p.2 * q.2) := by rw [opq_div, opq_div, Rat.divInt_mul_divInt]
theorem ix0 {es : List Sl} {m : M} {i : Nat} {q : Pr} (h : es[i]? = some (.d (prD q))) : EvE K (tOp (rIx K) (tVar i) (tC (.int 0))) es m (.d (.int q.1)) m := ev_op (ev_var h nofun) ev_int (o_ixT (j := 0) rfl rfl)
theorem ix1 {es : List Sl} {m : M} {i : Nat} {q : Pr} (h : es[i]? = some (.d (prD q))) : EvE K (tOp (rIx K) (tVar i) (tC (.int 1))) es m (.d (.int q.2)) m := ev_op (ev_var h nofun) ev_int (o_ixT (j := 1) rfl rfl)
theorem c_lplus {k : Nat} (TD : DefT K mg "_law_plus" st__law_plus ["_law_one", "_law_other"]) (D__law_low : PureC P w K mg base k "_law_low" ["_law_top", "_law_bottom"] R_low) : PureC P w K mg base (k + 1) "_law_plus" ["_law_one", "_law_other"] (R_lop (· + ·)) := by
  refine mkPure TD S__law_plus fun f cdv A outer s H E hr => ?_
  refine ⟨_, (pss_one (ps_ret (pe_def D__law_low (hr.mono (by omega)) (by rfl) pass0 (pa_cons (pe_op (kAdd (K := K)) (pe_op (kMul (K := K)) (pe_ix (kIx (K := K)) (pv 0) pe_int (fun _ _ => rfl)) (pe_ix (kIx (K := K)) (pv 1) pe_int (fun _ _ => rfl))) (pe_op (kMul (K := K)) (pe_ix (kIx (K := K)) (pv 1) pe_int (fun _ _ => rfl)) (pe_ix (kIx (K := K)) (pv 0) pe_int (fun _ _ => rfl)))) (pa_cons (pe_op (kMul (K := K)) (pe_ix (kIx (K := K)) (pv 0) pe_int (fun _ _ => rfl)) (pe_ix (kIx (K := K)) (pv 1) pe_int (fun _ _ => rfl))) pa_nil))))), ?_⟩
  rintro ds m y hl ⟨p, q, rfl, hp, hq, bp, bq, rfl⟩
  refine sv_ret0 (ev_pure (arg2 (ev_addN (ev_mulN (ix0 rfl) (ix1 rfl) bp.1 bq.2) (ev_mulN (ix0 rfl) (ix1 rfl) bq.1 bp.2)) (ev_mulN (ix1 rfl) (ix1 rfl) bp.2 bq.2)) (ds := [.int (p.1 * q.2 + q.1 * p.2), .int (p.2 * q.2)]) rfl ?_ rfl)
  show R_low _ (fr (opq p + opq q))
  rw [lop_add hp hq]
  exact low_of (k := 801) (Int.mul_pos hp hq) (nb_add (nb_mul bp.1 bq.2) (nb_mul bq.1 bp.2)) (nb_up (nb_mul bp.2 bq.2) (by decide)) (by decide)
theorem c_lminus {k : Nat} (TD : DefT K mg "_law_minus" st__law_minus ["_law_one", "_law_other"]) (D__law_low : PureC P w K mg base k "_law_low" ["_law_top", "_law_bottom"] R_low) : PureC P w K mg base (k + 1) "_law_minus" ["_law_one", "_law_other"] (R_lop (· - ·)) := by
  refine mkPure TD S__law_minus fun f cdv A outer s H E hr => ?_
  refine ⟨_, (pss_one (ps_ret (pe_def D__law_low (hr.mono (by omega)) (by rfl) pass0 (pa_cons (pe_op op_sub (pe_op (kMul (K := K)) (pe_ix (kIx (K := K)) (pv 0) pe_int (fun _ _ => rfl)) (pe_ix (kIx (K := K)) (pv 1) pe_int (fun _ _ => rfl))) (pe_op (kMul (K := K)) (pe_ix (kIx (K := K)) (pv 1) pe_int (fun _ _ => rfl)) (pe_ix (kIx (K := K)) (pv 0) pe_int (fun _ _ => rfl)))) (pa_cons (pe_op (kMul (K := K)) (pe_ix (kIx (K := K)) (pv 0) pe_int (fun _ _ => rfl)) (pe_ix (kIx (K := K)) (pv 1) pe_int (fun _ _ => rfl))) pa_nil))))), ?_⟩
  rintro ds m y hl ⟨p, q, rfl, hp, hq, bp, bq, rfl⟩
  refine sv_ret0 (ev_pure (arg2 (ev_sub (ev_mulN (ix0 rfl) (ix1 rfl) bp.1 bq.2) (ev_mulN (ix0 rfl) (ix1 rfl) bq.1 bp.2)) (ev_mulN (ix1 rfl) (ix1 rfl) bp.2 bq.2)) (ds := [.int (p.1 * q.2 - q.1 * p.2), .int (p.2 * q.2)]) rfl ?_ rfl)
  show R_low _ (fr (opq p - opq q))
  rw [lop_sub hp hq]
  exact low_of (k := 801) (Int.mul_pos hp hq) (nb_sub (nb_mul bp.1 bq.2) (nb_mul bq.1 bp.2)) (nb_up (nb_mul bp.2 bq.2) (by decide)) (by decide)
theorem c_ltimes {k : Nat} (TD : DefT K mg "_law_times" st__law_times ["_law_one", "_law_other"]) (D__law_low : PureC P w K mg base k "_law_low" ["_law_top", "_law_bottom"] R_low) : PureC P w K mg base (k + 1) "_law_times" ["_law_one", "_law_other"] (R_lop (· * ·)) := by
  refine mkPure TD S__law_times fun f cdv A outer s H E hr => ?_
  refine ⟨_, (pss_one (ps_ret (pe_def D__law_low (hr.mono (by omega)) (by rfl) pass0 (pa_cons (pe_op (kMul (K := K)) (pe_ix (kIx (K := K)) (pv 0) pe_int (fun _ _ => rfl)) (pe_ix (kIx (K := K)) (pv 1) pe_int (fun _ _ => rfl))) (pa_cons (pe_op (kMul (K := K)) (pe_ix (kIx (K := K)) (pv 0) pe_int (fun _ _ => rfl)) (pe_ix (kIx (K := K)) (pv 1) pe_int (fun _ _ => rfl))) pa_nil))))), ?_⟩
  rintro ds m y hl ⟨p, q, rfl, hp, hq, bp, bq, rfl⟩
  refine sv_ret0 (ev_pure (arg2 (ev_mulN (ix0 rfl) (ix0 rfl) bp.1 bq.1) (ev_mulN (ix1 rfl) (ix1 rfl) bp.2 bq.2)) (ds := [.int (p.1 * q.1), .int (p.2 * q.2)]) rfl ?_ rfl)
  show R_low _ (fr (opq p * opq q))
  rw [lop_mul]
  exact low_of (k := 800) (Int.mul_pos hp hq) (nb_mul bp.1 bq.1) (nb_mul bp.2 bq.2) (by decide)
/-! ### matrices by the law -/
abbrev R_lled : List PyData → PyData → Prop := fun ds y => ∃ (p : Pr) (m : Mat), ds = [prD p, matD m] ∧ matB 100 m ∧ prB 100 p ∧ y = prD (led m p)
theorem c_lled {k : Nat} (TD : DefT K mg "_law_led" st__law_led ["_law_point_here", "_law_matrix_here"]) : PureC P w K mg base (k + 1) "_law_led" ["_law_point_here", "_law_matrix_here"] R_lled := by
  refine mkPure TD S__law_led fun f cdv A outer s H E hr => ?_
  refine ⟨_, (pss_cons (ps_asg (pv 1) (kTupG (K := K) rfl (pgs_cons (pg_name (i := 2) S__law_led.nd rfl (Or.inl rfl)) (pgs_cons (pg_name (i := 3) S__law_led.nd rfl (Or.inl rfl)) (pgs_cons (pg_name (i := 4) S__law_led.nd rfl (Or.inl rfl)) (pgs_cons (pg_name (i := 5) S__law_led.nd rfl (Or.inl rfl)) (pgs_cons (pg_name (i := 6) S__law_led.nd rfl (Or.inl rfl)) (pgs_cons (pg_name (i := 7) S__law_led.nd rfl (Or.inl rfl)) pgs_nil))))))))
      (pss_one (ps_ret (pe_tup (pa_cons (pe_op (kAdd (K := K)) (pe_op (kAdd (K := K)) (pe_op (kMul (K := K)) (pv 2) (pe_ix (kIx (K := K)) (pv 0) pe_int (fun _ _ => rfl))) (pe_op (kMul (K := K)) (pv 4) (pe_ix (kIx (K := K)) (pv 0) pe_int (fun _ _ => rfl)))) (pv 6)) (pa_cons (pe_op (kAdd (K := K)) (pe_op (kAdd (K := K)) (pe_op (kMul (K := K)) (pv 3) (pe_ix (kIx (K := K)) (pv 0) pe_int (fun _ _ => rfl))) (pe_op (kMul (K := K)) (pv 5) (pe_ix (kIx (K := K)) (pv 0) pe_int (fun _ _ => rfl)))) (pv 7)) pa_nil)))))), ?_⟩
  rintro ds m y hl ⟨⟨x, y0⟩, ⟨a, b, c, d, e, f'⟩, rfl, ⟨ha, hb, hc, hd, he, hf⟩, ⟨hx, hy⟩, rfl⟩
  refine sv_seq (es1 := [.d (prD (x, y0)), .d (matD ⟨a, b, c, d, e, f'⟩), .d (.int a), .d (.int b), .d (.int c), .d (.int d), .d (.int e), .d (.int f')]) (m1 := m) (sv_asg (ev_var (r := .d (matD ⟨a, b, c, d, e, f'⟩)) rfl nofun) gv_six) ?_
  exact sv_ret0 (ev_tup (ds := [.int (a * x + c * y0 + e), .int (b * x + d * y0 + f')]) (arg2 (ev_addN (ev_addN (ev_mulN (ev_var rfl nofun) (ix0 (q := (x, y0)) rfl) ha hx) (ev_mulN (ev_var rfl nofun) (ix1 (q := (x, y0)) rfl) hc hy)) (ev_var rfl nofun)) (ev_addN (ev_addN (ev_mulN (ev_var rfl nofun) (ix0 (q := (x, y0)) rfl) hb hx) (ev_mulN (ev_var rfl nofun) (ix1 (q := (x, y0)) rfl) hd hy)) (ev_var rfl nofun))) rfl (by simp))
abbrev R_lboth : List PyData → PyData → Prop := fun ds y => ∃ o i : Mat, ds = [matD o, matD i] ∧ matB 20 o ∧ matB 20 i ∧ y = matD (both o i)
theorem ixM {es : List Sl} {m : M} {i : Nat} {q : Mat} {k : Int} {j : Nat} {v : Int} (h : es[i]? = some (.d (matD q))) (hk : k = (j : Int)) (hv : ([.int q.a, .int q.b, .int q.c, .int q.d, .int q.e, .int q.f] : List PyData)[j]? = some (.int v)) : EvE K (tOp (rIx K) (tVar i) (tC (.int k))) es m (.d (.int v)) m := ev_op (ev_var h nofun) ev_int (o_ixT (j := j) hk hv)
theorem c_lboth {k : Nat} (TD : DefT K mg "_law_both" st__law_both ["_law_outer_one", "_law_inner"]) (D__law_led : PureC P w K mg base k "_law_led" ["_law_point_here", "_law_matrix_here"] R_lled) : PureC P w K mg base (k + 1) "_law_both" ["_law_outer_one", "_law_inner"] R_lboth := by
  refine mkPure TD S__law_both fun f cdv A outer s H E hr => ?_
  refine ⟨_, (pss_cons (ps_set (i := 2) S__law_both.nd rfl (Or.inl rfl) (pe_def D__law_led (hr.mono (by omega)) (by rfl) pass0 (pa_cons (pe_tup (pa_cons (pe_ix (kIx (K := K)) (pv 1) pe_int (fun _ _ => rfl)) (pa_cons (pe_ix (kIx (K := K)) (pv 1) pe_int (fun _ _ => rfl)) pa_nil))) (pa_cons (pv 0) pa_nil))))
      (pss_cons (ps_set (i := 3) S__law_both.nd rfl (Or.inl rfl) (pe_def D__law_led (hr.mono (by omega)) (by rfl) pass0 (pa_cons (pe_tup (pa_cons (pe_op (kAdd (K := K)) (pe_ix (kIx (K := K)) (pv 1) pe_int (fun _ _ => rfl)) (pe_ix (kIx (K := K)) (pv 1) pe_int (fun _ _ => rfl))) (pa_cons (pe_op (kAdd (K := K)) (pe_ix (kIx (K := K)) (pv 1) pe_int (fun _ _ => rfl)) (pe_ix (kIx (K := K)) (pv 1) pe_int (fun _ _ => rfl))) pa_nil))) (pa_cons (pv 0) pa_nil))))
      (pss_cons (ps_set (i := 4) S__law_both.nd rfl (Or.inl rfl) (pe_def D__law_led (hr.mono (by omega)) (by rfl) pass0 (pa_cons (pe_tup (pa_cons (pe_op (kAdd (K := K)) (pe_ix (kIx (K := K)) (pv 1) pe_int (fun _ _ => rfl)) (pe_ix (kIx (K := K)) (pv 1) pe_int (fun _ _ => rfl))) (pa_cons (pe_op (kAdd (K := K)) (pe_ix (kIx (K := K)) (pv 1) pe_int (fun _ _ => rfl)) (pe_ix (kIx (K := K)) (pv 1) pe_int (fun _ _ => rfl))) pa_nil))) (pa_cons (pv 0) pa_nil))))
      (pss_one (ps_ret (pe_op (kAdd (K := K)) (pe_tup (pa_cons (pe_op op_sub (pe_ix (kIx (K := K)) (pv 3) pe_int (fun _ _ => rfl)) (pe_ix (kIx (K := K)) (pv 2) pe_int (fun _ _ => rfl))) (pa_cons (pe_op op_sub (pe_ix (kIx (K := K)) (pv 3) pe_int (fun _ _ => rfl)) (pe_ix (kIx (K := K)) (pv 2) pe_int (fun _ _ => rfl))) (pa_cons (pe_op op_sub (pe_ix (kIx (K := K)) (pv 4) pe_int (fun _ _ => rfl)) (pe_ix (kIx (K := K)) (pv 2) pe_int (fun _ _ => rfl))) (pa_cons (pe_op op_sub (pe_ix (kIx (K := K)) (pv 4) pe_int (fun _ _ => rfl)) (pe_ix (kIx (K := K)) (pv 2) pe_int (fun _ _ => rfl))) pa_nil))))) (pv 2))))))), ?_⟩
  rintro ds m y hl ⟨o, i, rfl, h, h2, rfl⟩
  have hb := matB_up h (k := 100) (by decide)
  obtain ⟨ja, jb, jc, jd, je, jf⟩ := h2
  have q1 : prB 100 (i.e, i.f) := ⟨nb_up je (by decide), nb_up jf (by decide)⟩
  have q2 : prB 100 (i.a + i.e, i.b + i.f) := ⟨nb_up (nb_add ja je) (by decide), nb_up (nb_add jb jf) (by decide)⟩
  have q3 : prB 100 (i.c + i.e, i.d + i.f) := ⟨nb_up (nb_add jc je) (by decide), nb_up (nb_add jd jf) (by decide)⟩
  refine sv_seq (es1 := [.d (matD o), .d (matD i), .d (prD (led o (i.e, i.f))), .no, .no]) (m1 := m) (sv_set (r := .d (prD (led o (i.e, i.f)))) (ev_pure (arg2 (ev_tup (ds := [.int i.e, .int i.f]) (arg2 (ixM (j := 4) rfl rfl rfl) (ixM (j := 5) rfl rfl rfl)) rfl (by simp)) (ev_var rfl nofun)) (ds := [prD (i.e, i.f), matD o]) rfl ⟨_, o, rfl, hb, q1, rfl⟩ rfl)) ?_
  refine sv_seq (es1 := [.d (matD o), .d (matD i), .d (prD (led o (i.e, i.f))), .d (prD (led o (i.a + i.e, i.b + i.f))), .no]) (m1 := m) (sv_set (r := .d (prD (led o (i.a + i.e, i.b + i.f)))) (ev_pure (arg2 (ev_tup (ds := [.int (i.a + i.e), .int (i.b + i.f)]) (arg2 (ev_addN (ixM (j := 0) rfl rfl rfl) (ixM (j := 4) rfl rfl rfl)) (ev_addN (ixM (j := 1) rfl rfl rfl) (ixM (j := 5) rfl rfl rfl))) rfl (by simp)) (ev_var rfl nofun)) (ds := [prD (i.a + i.e, i.b + i.f), matD o]) rfl ⟨_, o, rfl, hb, q2, rfl⟩ rfl)) ?_
  refine sv_seq (es1 := [.d (matD o), .d (matD i), .d (prD (led o (i.e, i.f))), .d (prD (led o (i.a + i.e, i.b + i.f))), .d (prD (led o (i.c + i.e, i.d + i.f)))]) (m1 := m) (sv_set (r := .d (prD (led o (i.c + i.e, i.d + i.f)))) (ev_pure (arg2 (ev_tup (ds := [.int (i.c + i.e), .int (i.d + i.f)]) (arg2 (ev_addN (ixM (j := 2) rfl rfl rfl) (ixM (j := 4) rfl rfl rfl)) (ev_addN (ixM (j := 3) rfl rfl rfl) (ixM (j := 5) rfl rfl rfl))) rfl (by simp)) (ev_var rfl nofun)) (ds := [prD (i.c + i.e, i.d + i.f), matD o]) rfl ⟨_, o, rfl, hb, q3, rfl⟩ rfl)) ?_
  refine sv_ret0 (ev_cast (ev_op (ev_tup (ds := [.int ((led o (i.a + i.e, i.b + i.f)).1 - (led o (i.e, i.f)).1), .int ((led o (i.a + i.e, i.b + i.f)).2 - (led o (i.e, i.f)).2), .int ((led o (i.c + i.e, i.d + i.f)).1 - (led o (i.e, i.f)).1), .int ((led o (i.c + i.e, i.d + i.f)).2 - (led o (i.e, i.f)).2)]) (ea_cons (ev_sub (ix0 rfl) (ix0 rfl)) (ea_cons (ev_sub (ix1 rfl) (ix1 rfl)) (arg2 (ev_sub (ix0 rfl) (ix0 rfl)) (ev_sub (ix1 rfl) (ix1 rfl))))) rfl (by simp)) (ev_var (r := .d (prD (led o (i.e, i.f)))) rfl nofun) (o_addT (xs := [_, _, _, _]) (ys := [_, _]) (by simp))) ?_)
  have e1 : (led o (i.a + i.e, i.b + i.f)).1 - (led o (i.e, i.f)).1 = o.a * i.a + o.c * i.b := by unfold led; grind
  have e2 : (led o (i.a + i.e, i.b + i.f)).2 - (led o (i.e, i.f)).2 = o.b * i.a + o.d * i.b := by unfold led; grind
  have e3 : (led o (i.c + i.e, i.d + i.f)).1 - (led o (i.e, i.f)).1 = o.a * i.c + o.c * i.d := by unfold led; grind
  have e4 : (led o (i.c + i.e, i.d + i.f)).2 - (led o (i.e, i.f)).2 = o.b * i.c + o.d * i.d := by unfold led; grind
  rw [e1, e2, e3, e4]
  rfl
end
end K01

set_option Elab.async false
set_option linter.all false
set_option maxRecDepth 100000
namespace GX
variable [DL.Tbs]
open PySem PySem.Spec PyProof.Rows L2 DL StX
/-! ### loops that may hand back -/
def itS {S α : Type} (step : S → α → Option S) : List α → S → Option S
  | [], s => some s
  | x :: xs, s => match step s x with
    | none => none
    | some s' => itS step xs s'
inductive Walks {α : Type} (toD : Nat → α → PyData) : Nat → List α → List PyData → Prop
  | nil {k : Nat} : Walks toD k [] []
  | cons {k : Nat} {x : α} {xs : List α} {ds : List PyData} : Walks toD (k + 1) xs ds → Walks toD k (x :: xs) (toD k x :: ds)
theorem walks_map {α : Type} (f : α → PyData) : ∀ (k : Nat) (xs : List α), Walks (fun _ x => f x) k xs (xs.map f)
  | _, [] => .nil
  | k, x :: xs => .cons (walks_map f (k + 1) xs)
theorem walks_en {α : Type} (f : α → PyData) : ∀ (k : Nat) (xs : List α), Walks (fun k x => .tuple [.int (k : Nat), f x]) k xs (enD k (xs.map f))
  | _, [] => .nil
  | k, x :: xs => .cons (walks_en f (k + 1) xs)
theorem forR_S {K : PySem.W.Frag} {S α : Type} {n : Nat} {g : TG} {tb : TS} {r0 : Sl} {mm : M} {toD : Nat → α → PyData} {step : S → α → Option S} {J : Nat → S → List Sl → M → Prop} {all : List α}
    (st : ∀ (k : Nat) (x : α) (s : S) (es : List Sl) (m : M), all[k]? = some x → J k s es m → ∃ is es1, Gv K g is (.d (toD k x)) es es1 ∧ ((step s x = none ∧ Sv K n tb es1 m (.ret r0 mm)) ∨ ∃ s' es2 m2, step s x = some s' ∧ Sv K n tb es1 m (.nx es2 m2) ∧ J (k + 1) s' es2 m2)) :
    ∀ (xs : List α) (ds : List PyData) (k : Nat) (s : S) (es : List Sl) (m : M), all.drop k = xs → k ≤ all.length → Walks toD k xs ds → J k s es m →
      (itS step xs s = none ∧ ForR K n g tb ds es m (.ret r0 mm)) ∨ ∃ s' es' m', itS step xs s = some s' ∧ ForR K n g tb ds es m (.nx es' m') ∧ J all.length s' es' m'
  | [], ds, k, s, es, m, hd, hk, w, j => by
    cases w
    have h1 : all.length ≤ k := by
      have := congrArg List.length hd
      rw [List.length_drop, List.length_nil] at this
      omega
    have e : k = all.length := Nat.le_antisymm hk h1
    subst e
    exact .inr ⟨s, es, m, rfl, .nil, j⟩
  | x :: xs, ds, k, s, es, m, hd, hk, w, j => by
    cases w with
    | @cons _ _ _ ds' w =>
      have hx : all[k]? = some x := by
        have := congrArg (fun l => l[0]?) hd
        rw [List.getElem?_drop, Nat.add_zero] at this
        exact this
      have hd2 : all.drop (k + 1) = xs := by
        have := congrArg (List.drop 1) hd
        rw [List.drop_drop] at this
        simpa [Nat.add_comm] using this
      obtain ⟨is, es1, hg, h⟩ := st k x s es m hx j
      rcases h with ⟨e, hb⟩ | ⟨s', es2, m2, e, hb, j2⟩
      · refine .inl ⟨?_, .ret hg hb⟩
        unfold itS
        rw [e]
      · have ih := forR_S st xs ds' (k + 1) s' es2 m2 hd2 (List.getElem?_eq_some_iff.mp hx).1 w j2
        have eq : itS step (x :: xs) s = itS step xs s' := by
          show (match step s x with | none => none | some s' => itS step xs s') = _
          rw [e]
        rw [eq]
        rcases ih with ⟨e1, f⟩ | ⟨s2, es', m', e1, f, j'⟩
        · exact .inl ⟨e1, .nx hg hb f⟩
        · exact .inr ⟨s2, es', m', e1, .nx hg hb f, j'⟩
/-- the rule -/
theorem sv_forS {K : PySem.W.Frag} {S α : Type} {n : Nat} {wi : TI} {g : TG} {tb rest : TS} {es : List Sl} {m m1 : M} {r0 : Sl} {mm : M} {toD : Nat → α → PyData} {ds : List PyData} {o : Out} (step : S → α → Option S) (J : Nat → S → List Sl → M → Prop) (all : List α) (s0 : S) (hi : EvIG K wi es m ds m1) (w : Walks toD 0 all ds) (h0 : J 0 s0 es m1)
    (st : ∀ (k : Nat) (x : α) (s : S) (es : List Sl) (m : M), all[k]? = some x → J k s es m → ∃ is es1, Gv K g is (.d (toD k x)) es es1 ∧ ((step s x = none ∧ Sv K n tb es1 m (.ret r0 mm)) ∨ ∃ s' es2 m2, step s x = some s' ∧ Sv K n tb es1 m (.nx es2 m2) ∧ J (k + 1) s' es2 m2))
    (hn : itS step all s0 = none → o = .ret r0 mm) (hs : ∀ s' es' m', itS step all s0 = some s' → J all.length s' es' m' → Sv K n rest es' m' o) : Sv K n (tSeq (tFor wi g tb) rest) es m o := by
  rcases forR_S (n := n) (tb := tb) st all ds 0 s0 es m1 rfl (Nat.zero_le _) w h0 with ⟨e, f⟩ | ⟨s', es', m', e, f, j⟩
  · rw [hn e]
    exact sv_out rfl (GX.sv_forG hi f)
  · exact sv_seq (GX.sv_forG hi f) (hs s' es' m' e j)
/-- a call without arguments -/
theorem pe_def0 {X : Cx} {CX : CXT} {k : Nat} {x : Str} {ps : List Str} {sp : Sp} {E : XK} {p pos : Pos} (D : DefC X.prog X.w X.K X.mg X.base CX k x ps sp) (hr : Room k X.A) (hg : Gl X x) (hx : Passes CX X E) (hdb : (x == ("__debug__" : Str)) = false := by decide) :
    PE X (.Call (.Name x p) [] [] pos) (tCall sp [] E tNil) := by
  obtain ⟨f, fd, F, hm, hk, hb⟩ := D.ex
  exact pe_call0 F hr hg hm hk hb .nil hx hdb
end GX

set_option Elab.async false
set_option linter.all false
set_option maxRecDepth 100000
set_option maxHeartbeats 4000000
set_option exponentiation.threshold 2000
namespace K01
variable [DL.Tbs]
open PySem PySem.Spec PyProof.Rows L2 DL HX GX RT SX StX
theorem pairsL_len (l : List Pr) : (pairsL l).length = l.length := by
  cases l with
  | nil => rfl
  | cons a r =>
    unfold pairsL
    rw [List.length_append, adj_len]
    simp
theorem pairsL_get {l : List Pr} {k : Nat} {x y : Pr} (h : l[k]? = some x) (h2 : l[(k + 1) % l.length]? = some y) : (pairsL l)[k]? = some (x, y) := by
  have hk := (List.getElem?_eq_some_iff.mp h).1
  cases l with
  | nil => simp at hk
  | cons a r =>
    unfold pairsL
    by_cases e : k + 1 < (a :: r).length
    · rw [Nat.mod_eq_of_lt e] at h2
      rw [List.getElem?_append_left (by rw [adj_len]; omega)]
      exact adj_get h h2
    · have ek : k + 1 = (a :: r).length := by omega
      rw [ek, Nat.mod_self] at h2
      have ey : a = y := by simpa using h2
      subst ey
      rw [List.getElem?_append_right (by rw [adj_len]; omega), adj_len, show k - ((a :: r).length - 1) = 0 by omega]
      have hl : (a :: r).getLast? = some x := by
        rw [List.getLast?_eq_getElem?, ← ek]
        exact h
      rw [List.getLast?_eq_some_getLast (List.cons_ne_nil a r)] at hl
      unfold lastD
      cases hl
      rfl
/-- the law's way round: none as soon as an edge is met -/
def goL (p : Pt) : List (Pr × Pr) → Int → Option Int
  | [], c => some c
  | x :: r, c => if onL p x.1 x.2 = true then none else goL p r (c + turnL p x.1 x.2)
theorem goL_eq (p : Pt) : ∀ (l : List (Pr × Pr)) (c : Int), goL p l c = if (l.any fun x => onL p x.1 x.2) = true then none else some (c + (l.map fun x => turnL p x.1 x.2).sum)
  | [], c => by simp [goL]
  | x :: r, c => by
    unfold goL
    by_cases h : onL p x.1 x.2 = true
    · rw [if_pos h, if_pos (by rw [List.any_cons, h]; rfl)]
    · rw [if_neg h, goL_eq p r, List.any_cons, Bool.eq_false_iff.mpr h, Bool.false_or, List.map_cons, List.sum_cons, Int.add_assoc]
theorem roundL_go (p : Pt) (l : List Pr) : roundL p l = goL p (pairsL l) 0 := by
  rw [goL_eq, Int.zero_add]
  rfl
theorem pairsL_fst (l : List Pr) : (pairsL l).map Prod.fst = l := by
  have key : ∀ (a : Pr) (r : List Pr), (adj (a :: r)).map Prod.fst = (a :: r).dropLast := by
    intro a r
    induction r generalizing a with
    | nil => rfl
    | cons b r ih =>
      show a :: (adj (b :: r)).map Prod.fst = _
      rw [ih b]
      rfl
  cases l with
  | nil => rfl
  | cons a r =>
    unfold pairsL lastD
    rw [List.map_append, key]
    exact List.dropLast_concat_getLast (List.cons_ne_nil a r)
theorem pairsL_at {l : List Pr} {k : Nat} {x : Pr × Pr} (h : (pairsL l)[k]? = some x) : l[k]? = some x.1 ∧ l[(k + 1) % l.length]? = some x.2 ∧ x.1 ∈ l ∧ x.2 ∈ l := by
  have hk : k < l.length := by rw [← pairsL_len]; exact (List.getElem?_eq_some_iff.mp h).1
  have hk2 : (k + 1) % l.length < l.length := Nat.mod_lt _ (by omega)
  have z := pairsL_get (List.getElem?_eq_getElem hk) (List.getElem?_eq_getElem hk2)
  rw [h] at z
  cases z
  exact ⟨List.getElem?_eq_getElem hk, List.getElem?_eq_getElem hk2, List.getElem_mem hk, List.getElem_mem hk2⟩
def stepL (p : Pt) (c : Int) (x : Pr × Pr) : Option Int := if onL p x.1 x.2 = true then none else some (c + turnL p x.1 x.2)
theorem goL_it (p : Pt) : ∀ (l : List (Pr × Pr)) (c : Int), goL p l c = itS (stepL p) l c
  | [], c => rfl
  | x :: r, c => by
    unfold goL itS stepL
    by_cases h : onL p x.1 x.2 = true
    · rw [if_pos h, if_pos h]
    · rw [if_neg h, if_neg h]
      exact goL_it p r _
def optD : Option Int → PyData
  | none => .none
  | some k => .int k
section
variable {P : Program} {w : World} {K : PySem.W.Frag} {mg : Str → Option Value} {base : Heap}
abbrev R_lround : List PyData → PyData → Prop := fun ds y => ∃ (l : List Pr) (p : Pt), ds = [.list (l.map prD), ptD p] ∧ l.length ≤ 100 ∧ (∀ x, x ∈ l → prB 60 x) ∧ ptB 40 p ∧ y = optD (roundL p l)
theorem c_lround {k : Nat} (b_enumerate : mg "enumerate" = none) (b_len : mg "len" = none) (b_min : mg "min" = none) (b_max : mg "max" = none) (TD : DefT K mg "_law_round" st__law_round ["_law_loop_here", "_law_point_here"]) : PureC P w K mg base (k + 1) "_law_round" ["_law_loop_here", "_law_point_here"] R_lround := by
  refine mkPure TD S__law_round fun f cdv A outer s H E hr => ?_
  have hu := hr.units
  refine ⟨_, (pss_cons (ps_asg (pe_tup (pa_cons pe_int (pa_cons (pv 1) pa_nil))) (kTupG (K := K) rfl (pgs_cons (pg_name (i := 2) S__law_round.nd rfl (Or.inl rfl)) (pgs_cons (kTupG (K := K) rfl (pgs_cons (pg_name (i := 3) S__law_round.nd rfl (Or.inl rfl)) (pgs_cons (pg_name (i := 4) S__law_round.nd rfl (Or.inl rfl)) pgs_nil))) pgs_nil))))
      (pss_cons (ps_for PassesOwn.never rfl (GX.kEnum (K := K) (by rfl) b_enumerate (pa_cons (pv 0) pa_nil)) (kTupG (K := K) rfl (pgs_cons (pg_name (i := 5) S__law_round.nd rfl (Or.inl rfl)) (pgs_cons (pg_name (i := 6) S__law_round.nd rfl (Or.inl rfl)) pgs_nil))) (pss_cons (ps_set (i := 7) S__law_round.nd rfl (Or.inl rfl) (pe_ix (kIx (K := K)) (pv 0) (pe_op op_mod (pe_op (kAdd (K := K)) (pv 5) pe_int) (pe_callB (kLen (K := K)) (by rfl) b_len (by decide +kernel) (pa_cons (pv 0) pa_nil))) (fun _ _ => rfl)))
      (pss_cons (ps_par (i := 8) (j := 9) rfl S__law_round.nd rfl rfl (by decide) rfl rfl (pa_cons (pe_op op_sub (pe_op (kMul (K := K)) (pe_ix (kIx (K := K)) (pv 6) pe_int (fun _ _ => rfl)) (pe_ix (kIx (K := K)) (pv 3) pe_int (fun _ _ => rfl))) (pe_ix (kIx (K := K)) (pv 3) pe_int (fun _ _ => rfl))) (pa_cons (pe_op op_sub (pe_op (kMul (K := K)) (pe_ix (kIx (K := K)) (pv 6) pe_int (fun _ _ => rfl)) (pe_ix (kIx (K := K)) (pv 4) pe_int (fun _ _ => rfl))) (pe_ix (kIx (K := K)) (pv 4) pe_int (fun _ _ => rfl))) pa_nil)) (by rfl))
      (pss_cons (ps_par (i := 10) (j := 11) rfl S__law_round.nd rfl rfl (by decide) rfl rfl (pa_cons (pe_op op_sub (pe_op (kMul (K := K)) (pe_ix (kIx (K := K)) (pv 7) pe_int (fun _ _ => rfl)) (pe_ix (kIx (K := K)) (pv 3) pe_int (fun _ _ => rfl))) (pe_ix (kIx (K := K)) (pv 3) pe_int (fun _ _ => rfl))) (pa_cons (pe_op op_sub (pe_op (kMul (K := K)) (pe_ix (kIx (K := K)) (pv 7) pe_int (fun _ _ => rfl)) (pe_ix (kIx (K := K)) (pv 4) pe_int (fun _ _ => rfl))) (pe_ix (kIx (K := K)) (pv 4) pe_int (fun _ _ => rfl))) pa_nil)) (by rfl))
      (pss_cons (ps_set (i := 12) S__law_round.nd rfl (Or.inl rfl) (pe_op op_sub (pe_op (kMul (K := K)) (pv 8) (pv 11)) (pe_op (kMul (K := K)) (pv 10) (pv 9))))
      (pss_cons (ps_if (PW.pt (pw_and (pt_cmpR (kNe (K := K) hu) (pv 6) (pv 7) (nomark _)) (pw_and (pt_cmpR (kEq (K := K) hu) (pv 12) pe_int (nomark _)) (pw_and (pt_chain op_le op_le (pe_callB (call_min2 rfl) (by rfl) b_min (by decide +kernel) (pa_cons (pv 8) (pa_cons (pv 10) pa_nil))) pe_int (pe_callB (call_max2 rfl) (by rfl) b_max (by decide +kernel) (pa_cons (pv 8) (pa_cons (pv 10) pa_nil)))) (pw_and1 (pt_chain op_le op_le (pe_callB (call_min2 rfl) (by rfl) b_min (by decide +kernel) (pa_cons (pv 9) (pa_cons (pv 11) pa_nil))) pe_int (pe_callB (call_max2 rfl) (by rfl) b_max (by decide +kernel) (pa_cons (pv 9) (pa_cons (pv 11) pa_nil))))))))) (pss_one (ps_ret pe_non)) pss_nil)
      (pss_cons (ps_if (PW.pt (pw_and (pt_chain op_le op_lt (pv 9) pe_int (pv 11)) (pw_and1 (pt_cmpR op_gt (pv 12) pe_int (nomark _))))) (pss_one (ps_set (i := 2) S__law_round.nd rfl (Or.inl rfl) (pe_op (kAdd (K := K)) (pv 2) pe_int))) pss_nil)
      (pss_one (ps_if (PW.pt (pw_and (pt_chain op_le op_lt (pv 11) pe_int (pv 9)) (pw_and1 (pt_cmpR op_lt (pv 12) pe_int (nomark _))))) (pss_one (ps_set (i := 2) S__law_round.nd rfl (Or.inl rfl) (pe_op op_sub (pv 2) pe_int))) pss_nil)))))))))
      (pss_one (ps_ret (pv 2))))), ?_⟩
  rintro ds m y hl ⟨l, ⟨px0, px1, py0, py1⟩, rfl, hn, hb, ⟨b1, b2, b3, b4⟩, rfl⟩
  let p : Pt := ⟨px0, px1, py0, py1⟩
  refine sv_seq (es1 := [.d (.list (l.map prD)), .d (ptD p), .d (.int 0), .d (prD (px0, px1)), .d (prD (py0, py1)), .no, .no, .no, .no, .no, .no, .no, .no]) (m1 := m) (sv_asg (ev_tup (ds := [.int 0, ptD p]) (arg2 ev_int (ev_var rfl nofun)) rfl (by simp)) (gv_tup (gvs_cons gv_name (gvs_cons (gv_tup (gvs_cons gv_name (gvs_cons gv_name gvs_nil)) rfl) gvs_nil)) rfl)) ?_
  rw [roundL_go, goL_it]
  have hw : Walks (fun (k : Nat) (x : Pr × Pr) => PyData.tuple [.int (k : Nat), prD x.1]) 0 (pairsL l) (enD 0 (l.map prD)) := by
    have z := walks_en (fun x : Pr × Pr => prD x.1) 0 (pairsL l)
    have e : (pairsL l).map (fun x : Pr × Pr => prD x.1) = l.map prD := by
      rw [← pairsL_fst l, List.map_map, pairsL_fst l]
      rfl
    rw [e] at z
    exact z
  refine sv_forS (S := Int) (α := Pr × Pr) (r0 := .d .none) (mm := m) (m1 := m) (stepL p) (fun _ c es mm => mm = m ∧ ∃ x5 x6 x7 x8 x9 x10 x11 x12, es = [.d (.list (l.map prD)), .d (ptD p), .d (.int c), .d (prD (px0, px1)), .d (prD (py0, py1)), x5, x6, x7, x8, x9, x10, x11, x12]) (pairsL l) 0 (eig_enL (arg1 (ev_var rfl nofun))) hw ⟨rfl, _, _, _, _, _, _, _, _, rfl⟩ ?st (fun e => by rw [e]; rfl) (fun c es' m' e j => ?hs)
  case hs =>
    obtain ⟨rfl, x5, x6, x7, x8, x9, x10, x11, x12, rfl⟩ := j
    rw [e]
    exact sv_ret0 (ev_var rfl nofun)
  case st =>
    rintro k ⟨a, b⟩ c es mm hk ⟨rfl, x5, x6, x7, x8, x9, x10, x11, x12, rfl⟩
    obtain ⟨la, lb, ma, mb⟩ := pairsL_at hk
    have ba := hb a ma
    have bb := hb b mb
    have hkl : k < l.length := (List.getElem?_eq_some_iff.mp la).1
    refine ⟨_, [.d (.list (l.map prD)), .d (ptD p), .d (.int c), .d (prD (px0, px1)), .d (prD (py0, py1)), .d (.int (k : Nat)), .d (prD a), x7, x8, x9, x10, x11, x12], gv_tup (gvs_cons gv_name (gvs_cons gv_name gvs_nil)) rfl, ?_⟩
    have lenE : ∀ {es : List Sl} {m : M}, es[0]? = some (.d (.list (l.map prD))) → EvE K (tCB (fun xs H Q => ∃ x n, xs = [x] ∧ LenV K x H n ∧ Q (.int n) H) (tCons (tVar 0) tNil)) es m (.d (.int (l.length : Int))) m := fun h => ev_cb (arg1 (ev_var h nofun)) (c_len (by show some (l.map prD).length = some l.length; rw [List.length_map]))
    have gb : (l.map prD)[(k + 1) % l.length]? = some (prD b) := by rw [List.getElem?_map, lb]; rfl
    have f1 : ∀ {te : TE}, EvE K te [.d (.list (l.map prD)), .d (ptD p), .d (.int c), .d (prD (px0, px1)), .d (prD (py0, py1)), .d (.int (k : Nat)), .d (prD a), x7, x8, x9, x10, x11, x12] mm (.d (prD b)) mm → Sv K mm.length (tAsg te (gName 7)) [.d (.list (l.map prD)), .d (ptD p), .d (.int c), .d (prD (px0, px1)), .d (prD (py0, py1)), .d (.int (k : Nat)), .d (prD a), x7, x8, x9, x10, x11, x12] mm (.nx [.d (.list (l.map prD)), .d (ptD p), .d (.int c), .d (prD (px0, px1)), .d (prD (py0, py1)), .d (.int (k : Nat)), .d (prD a), .d (prD b), x8, x9, x10, x11, x12] mm) := fun h => sv_set h
    have hx1 : nb 40 px1 := b2
    have hy1 : nb 40 py1 := b4
    have nx : ∀ {q : Pr}, prB 60 q → nb 101 (offX p q) := fun h => nb_sub (nb_mul h.1 b2) (nb_up b1 (by decide))
    have ny : ∀ {q : Pr}, prB 60 q → nb 101 (offY p q) := fun h => nb_sub (nb_mul h.2 b4) (nb_up b3 (by decide))
    have offs : ∀ {es : List Sl} {m : M} {i : Nat} {q : Pr}, prB 60 q → es[i]? = some (.d (prD q)) → es[3]? = some (.d (prD (px0, px1))) → es[4]? = some (.d (prD (py0, py1))) →
        EvA K (tCons (tOp (rI0 fun i j => .int (i - j)) (tOp (rMulU K) (tOp (rIx K) (tVar i) (tC (.int 0))) (tOp (rIx K) (tVar 3) (tC (.int 1)))) (tOp (rIx K) (tVar 3) (tC (.int 0)))) (tCons (tOp (rI0 fun i j => .int (i - j)) (tOp (rMulU K) (tOp (rIx K) (tVar i) (tC (.int 1))) (tOp (rIx K) (tVar 4) (tC (.int 1)))) (tOp (rIx K) (tVar 4) (tC (.int 0)))) tNil)) es m [.d (.int (offX p q)), .d (.int (offY p q))] m :=
      fun hq h h3 h4 => arg2 (ev_sub (ev_mulN (ix0 h) (ix1 (q := (px0, px1)) h3) hq.1 b2) (ix0 (q := (px0, px1)) h3)) (ev_sub (ev_mulN (ix1 h) (ix1 (q := (py0, py1)) h4) hq.2 b4) (ix0 (q := (py0, py1)) h4))
    have minE : ∀ {es : List Sl} {m : M} {i j : Nat} {u v : Int}, es[i]? = some (.d (.int u)) → es[j]? = some (.d (.int v)) → EvE K (tCB (fun xs H Q => ∃ i j, xs = [.int i, .int j] ∧ Q (.int (if j < i then j else i)) H) (tCons (tVar i) (tCons (tVar j) tNil))) es m (.d (.int (min u v))) m := fun {es m i j u v} h h2 => by
      have e1 : (if v < u then v else u) = min u v := by split <;> omega
      rw [← e1]
      exact ev_cb (arg2 (ev_var h nofun) (ev_var h2 nofun)) c_min2
    have maxE : ∀ {es : List Sl} {m : M} {i j : Nat} {u v : Int}, es[i]? = some (.d (.int u)) → es[j]? = some (.d (.int v)) → EvE K (tCB (fun xs H Q => ∃ i j, xs = [.int i, .int j] ∧ Q (.int (if j > i then j else i)) H) (tCons (tVar i) (tCons (tVar j) tNil))) es m (.d (.int (max u v))) m := fun {es m i j u v} h h2 => by
      have e1 : (if v > u then v else u) = max u v := by split <;> omega
      rw [← e1]
      exact ev_cb (arg2 (ev_var h nofun) (ev_var h2 nofun)) c_max2
    have pre : ∀ {t : TS} {o : Out}, Sv K mm.length t [.d (.list (l.map prD)), .d (ptD p), .d (.int c), .d (prD (px0, px1)), .d (prD (py0, py1)), .d (.int (k : Nat)), .d (prD a), .d (prD b), .d (.int (offX p a)), .d (.int (offY p a)), .d (.int (offX p b)), .d (.int (offY p b)), .d (.int (crossL p a b))] mm o → Sv K mm.length (tSeq (tAsg (tOp (rIx K) (tVar 0) (tOp (rI (fun _ j => 0 < j) fun i j => .int (i % j)) (tOp (rAddU K) (tVar 5) (tC (.int 1))) (tCB (fun xs H Q => ∃ x n, xs = [x] ∧ LenV K x H n ∧ Q (.int n) H) (tCons (tVar 0) tNil)))) (gName 7)) (tSeq (tPar 8 9 (tCons (tOp (rI0 fun i j => .int (i - j)) (tOp (rMulU K) (tOp (rIx K) (tVar 6) (tC (.int 0))) (tOp (rIx K) (tVar 3) (tC (.int 1)))) (tOp (rIx K) (tVar 3) (tC (.int 0)))) (tCons (tOp (rI0 fun i j => .int (i - j)) (tOp (rMulU K) (tOp (rIx K) (tVar 6) (tC (.int 1))) (tOp (rIx K) (tVar 4) (tC (.int 1)))) (tOp (rIx K) (tVar 4) (tC (.int 0)))) tNil))) (tSeq (tPar 10 11 (tCons (tOp (rI0 fun i j => .int (i - j)) (tOp (rMulU K) (tOp (rIx K) (tVar 7) (tC (.int 0))) (tOp (rIx K) (tVar 3) (tC (.int 1)))) (tOp (rIx K) (tVar 3) (tC (.int 0)))) (tCons (tOp (rI0 fun i j => .int (i - j)) (tOp (rMulU K) (tOp (rIx K) (tVar 7) (tC (.int 1))) (tOp (rIx K) (tVar 4) (tC (.int 1)))) (tOp (rIx K) (tVar 4) (tC (.int 0)))) tNil))) (tSeq (tAsg (tOp (rI0 fun i j => .int (i - j)) (tOp (rMulU K) (tVar 8) (tVar 11)) (tOp (rMulU K) (tVar 10) (tVar 9))) (gName 12)) t)))) [.d (.list (l.map prD)), .d (ptD p), .d (.int c), .d (prD (px0, px1)), .d (prD (py0, py1)), .d (.int (k : Nat)), .d (prD a), x7, x8, x9, x10, x11, x12] mm o := by
      intro t o ht
      refine sv_seq (f1 (ev_op (ev_var rfl nofun) (ev_op (ev_addN (ev_var rfl nofun) ev_int) (lenE rfl) (o_mod (by omega))) (o_ixL (j := (k + 1) % l.length) (by rw [Int.natCast_emod, Int.natCast_add]; rfl) gb))) ?_
      refine sv_seq (sv_par (offs ba rfl rfl rfl)) ?_
      refine sv_seq (sv_par (offs bb rfl rfl rfl)) ?_
      exact sv_seq (sv_set (ev_sub (ev_mulN (ev_var rfl nofun) (ev_var rfl nofun) (nx ba) (ny bb)) (ev_mulN (ev_var rfl nofun) (ev_var rfl nofun) (nx bb) (ny ba)))) ht
    have ton := turn_and (K := K) (es := [.d (.list (l.map prD)), .d (ptD p), .d (.int c), .d (prD (px0, px1)), .d (prD (py0, py1)), .d (.int (k : Nat)), .d (prD a), .d (prD b), .d (.int (offX p a)), .d (.int (offY p a)), .d (.int (offX p b)), .d (.int (offY p b)), .d (.int (crossL p a b))]) (m := mm) (eb_cast (b' := decide (a ≠ b)) (eb_test (ev_op (ev_var (i := 6) rfl nofun) (ev_var (i := 7) rfl nofun) (o_neD (pr_shaped a) (pr_shaped b)))) (by rw [eqv_pr, decide_not]))
      (turn_and (eb_cast (b' := decide (crossL p a b = 0)) (eb_test (ev_op (ev_var (i := 12) rfl nofun) (ev_int (i := 0)) o_eqI)) (Bool.beq_eq_decide_eq _ _))
        (turn_and (eb_test (ev_chain (minE (i := 8) (j := 10) rfl rfl) (ev_int (i := 0)) (o_i0b (f := fun i j => decide (i ≤ j))) (fun _ => maxE (i := 8) (j := 10) rfl rfl) (fun _ => o_i0b (f := fun i j => decide (i ≤ j)))))
          (eb_test (ev_chain (minE (i := 9) (j := 11) rfl rfl) (ev_int (i := 0)) (o_i0b (f := fun i j => decide (i ≤ j))) (fun _ => maxE (i := 9) (j := 11) rfl rfl) (fun _ => o_i0b (f := fun i j => decide (i ≤ j)))))))
    have tAB : ∀ {es : List Sl} {m : M} {i j : Nat} {u v q : Int} {g : Int → Int → Bool}, es[i]? = some (.d (.int u)) → es[j]? = some (.d (.int v)) → es[12]? = some (.d (.int q)) → EvB K (tAnd (tTest (tChain (rI0 fun i j => .bl (decide (i ≤ j))) (rI0 fun i j => .bl (decide (i < j))) (tVar i) (tC (.int 0)) (tVar j))) (tTest (tOp (rI0 fun i j => .bl (g i j)) (tVar 12) (tC (.int 0))))) es m ((decide (u ≤ 0) && decide (0 < v)) && g q 0) m :=
      fun h h2 h3 => turn_and (eb_chain2 (ev_var h nofun) ev_int (ev_var h2 nofun) (f := fun i j => decide (i ≤ j)) (g := fun i j => decide (i < j))) (eb_test (ev_op (ev_var h3 nofun) (ev_int (i := 0)) o_i0b))
    by_cases hon : onL p a b = true
    · exact .inl ⟨by show stepL p c (a, b) = none; unfold stepL; rw [if_pos hon], pre (sv_ifsT (m1 := mm) (eb_cast ton hon) rfl (sv_ret0 ev_non))⟩
    · refine .inr ⟨c + turnL p a b, ?_⟩
      have hstep : stepL p c (a, b) = some (c + turnL p a b) := by unfold stepL; rw [if_neg hon]
      have hoff : EvB K _ _ mm false mm := eb_cast ton (Bool.eq_false_iff.mpr hon)
      by_cases hA : offY p a ≤ 0 ∧ 0 < offY p b ∧ 0 < crossL p a b
      · have hB : ¬ (offY p b ≤ 0 ∧ 0 < offY p a ∧ crossL p a b < 0) := by omega
        have e : turnL p a b = 1 := by unfold turnL; rw [if_pos hA, if_neg hB]; rfl
        rw [e] at hstep ⊢
        refine ⟨_, mm, hstep, pre (sv_ifsF (m1 := mm) hoff (sv_seq (sv_ifT (m1 := mm) (eb_cast (tAB (i := 9) (j := 11) (g := fun i j => decide (i > j)) rfl rfl rfl) (by simp [hA.1, hA.2.1, hA.2.2])) (sv_set (ev_addN (ev_var rfl nofun) ev_int))) (sv_ifF (m1 := mm) (eb_cast (tAB (i := 11) (j := 9) (g := fun i j => decide (i < j)) rfl rfl rfl) ?_) sv_next))), rfl, _, _, _, _, _, _, _, _, rfl⟩
        rw [Bool.eq_false_iff]
        intro q
        simp only [Bool.and_eq_true, decide_eq_true_eq] at q
        exact hB ⟨q.1.1, q.1.2, q.2⟩
      · have nA : ((decide (offY p a ≤ 0) && decide (0 < offY p b)) && decide (crossL p a b > 0)) = false := by
          rw [Bool.eq_false_iff]
          intro q
          simp only [Bool.and_eq_true, decide_eq_true_eq] at q
          exact hA ⟨q.1.1, q.1.2, q.2⟩
        by_cases hB : offY p b ≤ 0 ∧ 0 < offY p a ∧ crossL p a b < 0
        · have e : turnL p a b = -1 := by unfold turnL; rw [if_neg hA, if_pos hB]; rfl
          rw [e] at hstep ⊢
          exact ⟨_, mm, hstep, pre (sv_ifsF (m1 := mm) hoff (sv_seq (sv_ifF (m1 := mm) (eb_cast (tAB (i := 9) (j := 11) (g := fun i j => decide (i > j)) rfl rfl rfl) nA) sv_next) (sv_ifT (m1 := mm) (eb_cast (tAB (i := 11) (j := 9) (g := fun i j => decide (i < j)) rfl rfl rfl) (by simp [hB.1, hB.2.1, hB.2.2])) (sv_set (ev_sub (ev_var rfl nofun) ev_int))))), rfl, _, _, _, _, _, _, _, _, rfl⟩
        · have e : turnL p a b = 0 := by unfold turnL; rw [if_neg hA, if_neg hB]; rfl
          rw [e, Int.add_zero] at hstep ⊢
          refine ⟨_, mm, hstep, pre (sv_ifsF (m1 := mm) hoff (sv_seq (sv_ifF (m1 := mm) (eb_cast (tAB (i := 9) (j := 11) (g := fun i j => decide (i > j)) rfl rfl rfl) nA) sv_next) (sv_ifF (m1 := mm) (eb_cast (tAB (i := 11) (j := 9) (g := fun i j => decide (i < j)) rfl rfl rfl) ?_) sv_next))), rfl, _, _, _, _, _, _, _, _, rfl⟩
          rw [Bool.eq_false_iff]
          intro q
          simp only [Bool.and_eq_true, decide_eq_true_eq] at q
          exact hB ⟨q.1.1, q.1.2, q.2⟩
/-! ### inside a shape, by the law -/
def boolD : Option Bool → PyData
  | none => .none
  | some b => .bool b
def stepR (p : Pt) (c : Int) (l : List Pr) : Option Int := (roundL p l).map (c + ·)
theorem rounds_it (p : Pt) : ∀ (ls : List (List Pr)) (c : Int), itS (stepR p) ls c = (roundsL p ls).map (c + ·)
  | [], c => by simp [itS, roundsL]
  | l :: r, c => by
    unfold itS stepR roundsL
    cases roundL p l with
    | none => rfl
    | some k =>
      show itS (stepR p) r (c + k) = _
      rw [rounds_it p r]
      cases roundsL p r with
      | none => rfl
      | some q => simp [Int.add_assoc]
abbrev R_linside : List PyData → PyData → Prop := fun ds y => ∃ (s : Sh) (mt : Mat) (p : Pt), ds = [shD s, matD mt, ptD p] ∧ shB 20 s ∧ matB 30 mt ∧ ptB 40 p ∧ y = boolD (insideL p (placeSh mt s))
theorem c_linside {k : Nat} (TD : DefT K mg "_law_inside" st__law_inside ["_law_shape_here", "_law_matrix_here", "_law_point_here"]) (D__law_round : PureC P w K mg base k "_law_round" ["_law_loop_here", "_law_point_here"] R_lround) (D__law_led : PureC P w K mg base k "_law_led" ["_law_point_here", "_law_matrix_here"] R_lled) :
    PureC P w K mg base (k + 1) "_law_inside" ["_law_shape_here", "_law_matrix_here", "_law_point_here"] R_linside := by
  refine mkPure TD S__law_inside fun f cdv A outer s H E hr => ?_
  have hu := hr.units
  refine ⟨_, (pss_cons (ps_set (i := 3) S__law_inside.nd rfl (Or.inl rfl) pe_int)
      (pss_cons (ps_for PassesOwn.never rfl (kSeq (K := K) (pe_ix (kIx (K := K)) (pv 0) pe_int (fun _ _ => rfl))) (pg_name (i := 4) S__law_inside.nd rfl (Or.inl rfl)) (pss_cons (ps_set (i := 5) S__law_inside.nd rfl (Or.inl rfl) (pe_def D__law_round (hr.mono (by omega)) (by rfl) pass0 (pa_cons (pe_lc (own := [("_law_one", 6)]) (by rfl) S__law_inside.nd (kSeq (K := K) (pv 4)) (blkOk_by (N := N__law_inside) (sc := defScope st__law_inside) (by decide +kernel)) (fun _ _ _ _ _ => pg_name (i := 6) S__law_inside.nd rfl (by first | exact Or.inl rfl | exact Or.inr rfl)) (fun _ _ _ _ _ => pts_nil) (fun _ _ _ _ _ => (pe_def D__law_led (hr.mono (by omega)) (by rfl) pass0 (pa_cons (pv 6) (pa_cons (pv 1) pa_nil))))) (pa_cons (pv 2) pa_nil))))
      (pss_cons (ps_if (pt_cmpR op_isN (pv 5) pe_non (nomark _)) (pss_one (ps_ret pe_non)) pss_nil)
      (pss_one (ps_set (i := 3) S__law_inside.nd rfl (Or.inl rfl) (pe_op (kAdd (K := K)) (pv 3) (pv 5)))))))
      (pss_one (ps_ret (pe_ifExp (pt_cmpR (kEq (K := K) hu) (pe_ix (kIx (K := K)) (pv 0) pe_int (fun _ _ => rfl)) pe_str (nomark _)) (pe_cmpR (kEq (K := K) hu) (pe_op op_mod (pv 3) pe_int) pe_int (nomark _)) (pe_cmpR (kNe (K := K) hu) (pv 3) pe_int (nomark _))))))), ?_⟩
  rintro ds m y hl ⟨sh, mt, p, rfl, ⟨h3, hsh⟩, hm, hp, rfl⟩
  have hit : insideL p (placeSh mt sh) = (itS (stepR p) (sh.loops.map fun l => l.map (led mt)) 0).map (ruled sh.odd) := by
    rw [rounds_it]
    unfold insideL
    show (roundsL p (sh.loops.map fun l => l.map (led mt))).map (ruled sh.odd) = _
    cases roundsL p (sh.loops.map fun l => l.map (led mt)) with
    | none => rfl
    | some c => simp
  rw [hit]
  have itm : ∀ (ls : List (List Pr)) (c : Int), itS (stepR p) (ls.map fun (l : List Pr) => l.map (led mt)) c = itS (fun (c : Int) (l : List Pr) => stepR p c (l.map (led mt))) ls c := by
    intro ls
    induction ls with
    | nil => intro c; rfl
    | cons l r ih =>
      intro c
      rw [List.map_cons]
      unfold itS
      cases stepR p c (l.map (led mt)) with
      | none => rfl
      | some s' => exact ih s'
  rw [itm]
  refine sv_seq (es1 := [.d (shD sh), .d (matD mt), .d (ptD p), .d (.int 0), .no, .no, .no]) (m1 := m) (sv_set ev_int) ?_
  refine sv_forS (S := Int) (α := List Pr) (r0 := .d .none) (mm := m) (m1 := m) (ds := sh.loops.map loD) (toD := fun _ l => loD l) (fun (c : Int) (l : List Pr) => stepR p c (l.map (led mt))) (fun _ c es mm => mm = m ∧ ∃ x4 x5, es = [.d (shD sh), .d (matD mt), .d (ptD p), .d (.int c), x4, x5, .no]) sh.loops 0
    (eig_of (ei_seqT (ev_op (ev_var (r := .d (shD sh)) rfl nofun) ev_int (o_ixT (j := 1) rfl rfl)))) (walks_map loD 0 sh.loops) ⟨rfl, _, _, rfl⟩ ?st (fun e => by rw [e]; rfl) (fun c es' m' e j => ?hs)
  case hs =>
    obtain ⟨rfl, x4, x5, rfl⟩ := j
    rw [e]
    refine sv_ret0 ?_
    have tE := eb_test (ev_op (K := K) (es := [.d (shD sh), .d (matD mt), .d (ptD p), .d (.int c), x4, x5, .no]) (m := m') (ta := tOp (rIx K) (tVar 0) (tC (.int 0))) (tb := tC (.str "odd")) (ev_op (ev_var (r := .d (shD sh)) rfl nofun) ev_int (o_ixT (j := 0) rfl rfl)) ev_str o_eqS)
    show EvE K _ _ m' (.d (.bool (ruled sh.odd c))) m'
    unfold ruled
    cases hodd : sh.odd with
    | true =>
      rw [hodd] at tE
      exact ev_ifT (eb_cast tE (decide_eq_true rfl)) (ev_cast (ev_op (ev_op (ev_var rfl nofun) ev_int (o_mod (by decide))) ev_int o_eqI) (congrArg (fun b => Sl.d (.bool b)) (Bool.beq_eq_decide_eq _ _)))
    | false =>
      rw [hodd] at tE
      refine ev_ifF (eb_cast tE (decide_eq_false (by decide +kernel))) (ev_cast (ev_op (ev_var rfl nofun) ev_int o_neI) (congrArg (fun b => Sl.d (.bool b)) ?_))
      show (!(c == 0)) = (if false = true then decide (c % 2 = 1) else decide (c ≠ 0))
      rw [if_neg Bool.false_ne_true, Bool.beq_eq_decide_eq, decide_not]
  case st =>
    rintro k l c es mm hk ⟨rfl, x4, x5, rfl⟩
    have hll := hsh l (List.mem_of_getElem? hk)
    refine ⟨_, [.d (shD sh), .d (matD mt), .d (ptD p), .d (.int c), .d (loD l), x5, .no], gv_name, ?_⟩
    have hr : EvE K _ [.d (shD sh), .d (matD mt), .d (ptD p), .d (.int c), .d (loD l), x5, .no] mm (.d (optD (roundL p (l.map (led mt))))) mm := ev_pure (P := R_lround) (E := E0) (n := 2) (arg2 (el_d (el_lc (ei_seqT (ds := l.map prD) (ev_var (i := 4) (es := [.d (shD sh), .d (matD mt), .d (ptD p), .d (.int c), .d (loD l), x5, .no]) rfl nofun)) (lcMapF (i := 6) (vs := [6]) (te := tCall (spD K 2 (pureG R_lled)) [] E0 (tCons (tVar 6) (tCons (tVar 1) tNil))) prD (fun q => prD (led mt q)) (by simp) fun q hq => ev_pure (arg2 (ev_var rfl nofun) (ev_var rfl nofun)) (ds := [prD q, matD mt]) rfl ⟨q, mt, rfl, matB_up hm (by decide), ⟨nb_up (hll.2 q hq).1 (by decide), nb_up (hll.2 q hq).2 (by decide)⟩, rfl⟩ rfl) (by rw [List.length_map]; have := hll.1; omega))) (ev_var (i := 2) rfl nofun)) (ds := [.list (l.map fun q => prD (led mt q)), ptD p]) rfl ⟨l.map (led mt), p, by rw [List.map_map]; rfl, by rw [List.length_map]; have := hll.1; omega, fun x hx => by
        obtain ⟨q, hq, rfl⟩ := List.mem_map.mp hx
        have z := lead_nb hm (hll.2 q hq)
        exact ⟨nb_up z.1 (by decide), nb_up z.2 (by decide)⟩, hp, rfl⟩ rfl
    cases hq : roundL p (l.map (led mt)) with
    | none =>
      rw [hq] at hr
      exact .inl ⟨by unfold stepR; rw [hq]; rfl, sv_seq (sv_set hr) (sv_ifsT (m1 := mm) (eb_cast (eb_test (ev_op (ev_var (r := .d .none) rfl nofun) ev_non o_isN)) rfl) rfl (sv_ret0 ev_non))⟩
    | some q =>
      rw [hq] at hr
      exact .inr ⟨c + q, _, mm, by unfold stepR; rw [hq]; rfl, sv_seq (sv_set hr) (sv_ifsF (m1 := mm) (eb_cast (eb_test (ev_op (ev_var (r := .d (.int q)) rfl nofun) ev_non o_isN)) rfl) (sv_set (ev_addN (ev_var rfl nofun) (ev_var rfl nofun)))), rfl, _, _, rfl⟩
end
end K01

set_option Elab.async false
set_option linter.all false
set_option maxRecDepth 100000
set_option maxHeartbeats 4000000
set_option exponentiation.threshold 2000
namespace K01
variable [DL.Tbs]
open PySem PySem.Spec PyProof.Rows L2 DL HX GX RT SX StX
theorem en_zip {α : Type} (f : α → PyData) : ∀ (k : Nat) (xs : List α), enD k (xs.map f) = (xs.zipIdx k).map fun x => .tuple [.int (x.2 : Nat), f x.1]
  | _, [] => rfl
  | k, x :: xs => by
    rw [List.map_cons, List.zipIdx_cons, List.map_cons]
    unfold enD
    rw [en_zip f (k + 1) xs]
theorem over_zip {b v : Vl} (hb : b.length = v.length) (q : Rat) : ((v.zipIdx 0).map fun x => fr (x.1 + q * b.getD x.2 0)) = (addV v (mulV b q)).map fr := by
  refine List.ext_getElem? fun i => ?_
  unfold addV mulV
  rw [List.getElem?_map, List.getElem?_map, List.getElem?_zipIdx, List.getElem?_zipWith, List.getElem?_map]
  by_cases hi : i < v.length
  · rw [List.getElem?_eq_getElem hi, List.getElem?_eq_getElem (by omega : i < b.length)]
    simp only [Option.map_some, Nat.zero_add, List.getD_eq_getElem?_getD, List.getElem?_eq_getElem (by omega : i < b.length), Option.getD_some]
    rw [Rat.mul_comm q]
  · rw [List.getElem?_eq_none (by omega : v.length ≤ i)]
    rfl
section
variable {P : Program} {w : World} {K : PySem.W.Frag} {mg : Str → Option Value} {base : Heap}
theorem ev_lop {g : Rat → Rat → Rat} {E : XK} {ta : TA} {es : List Sl} {m : M} {x y : Rat} (h : EvA K ta es m [.d (fr x), .d (fr y)] m) (hx : sz 400 x) (hy : sz 400 y) : EvE K (tCall (spD K 2 (pureG (R_lop g))) [] E ta) es m (.d (fr (g x y))) m :=
  ev_pure h (ds := [fr x, fr y]) rfl ⟨(x.num, (x.den : Int)), (y.num, (y.den : Int)), rfl, den_pos x, den_pos y, fr_B hx, fr_B hy, by rw [opq_fr, opq_fr]⟩ rfl
theorem ev_lopP {g : Rat → Rat → Rat} {E : XK} {ta : TA} {es : List Sl} {m : M} {x : Rat} {o : Pr} (h : EvA K ta es m [.d (fr x), .d (prD o)] m) (hx : sz 400 x) (ho : opB o) : EvE K (tCall (spD K 2 (pureG (R_lop g))) [] E ta) es m (.d (fr (g x (opq o)))) m :=
  ev_pure h (ds := [fr x, prD o]) rfl ⟨(x.num, (x.den : Int)), o, rfl, den_pos x, (op_pr ho).2, fr_B hx, ⟨nb_up (op_pr ho).1.1 (by decide), nb_up (op_pr ho).1.2 (by decide)⟩, by rw [opq_fr]⟩ rfl
theorem ev_one {es : List Sl} {m : M} : EvE K (tTup (tCons (tC (.int 1)) (tCons (tC (.int 1)) tNil))) es m (.d (fr 1)) m := ev_tup (ds := [.int 1, .int 1]) (arg2 ev_int ev_int) rfl (by simp)
abbrev R_lover : List PyData → PyData → Prop := fun ds y => ∃ (b v : Vl) (j k : Nat), ds = [vD b, vD v] ∧ b.length = 4 ∧ v.length = 4 ∧ szV j b ∧ szV k v ∧ k + j + 1 ≤ 400 ∧ y = vD (overV b v)
theorem c_lover {k : Nat} (b_enumerate : mg "enumerate" = none) (b_tuple : mg "tuple" = none) (TD : DefT K mg "_law_over" st__law_over ["_law_below", "_law_above"]) (D__law_minus : PureC P w K mg base k "_law_minus" ["_law_one", "_law_other"] (R_lop (· - ·))) (D__law_plus : PureC P w K mg base k "_law_plus" ["_law_one", "_law_other"] (R_lop (· + ·)))
    (D__law_times : PureC P w K mg base k "_law_times" ["_law_one", "_law_other"] (R_lop (· * ·))) : PureC P w K mg base (k + 1) "_law_over" ["_law_below", "_law_above"] R_lover := by
  refine mkPure TD S__law_over fun f cdv A outer s H E hr => ?_
  refine ⟨_, (pss_cons (ps_set (i := 2) S__law_over.nd rfl (Or.inr rfl) (pe_def D__law_minus (hr.mono (by omega)) (by rfl) pass0 (pa_cons (pe_tup (pa_cons pe_int (pa_cons pe_int pa_nil))) (pa_cons (pe_ix (kIx (K := K)) (pv 1) pe_int (fun _ _ => rfl)) pa_nil))))
      (pss_one (ps_ret (pe_callTy (kTup (K := K)) (by rfl) b_tuple (by decide +kernel) (pa_cons (pe_lc (own := [("_law_at", 3), ("_law_one", 4)]) (by rfl) S__law_over.nd (GX.kEnum (K := K) (by rfl) b_enumerate (pa_cons (pv 1) pa_nil)) (blkOk_by (N := N__law_over) (sc := defScope st__law_over) (by decide +kernel)) (fun _ _ _ _ _ => kTupG (K := K) (n := 2) rfl (pgs_cons (pg_name (i := 3) S__law_over.nd rfl (by first | exact Or.inl rfl | exact Or.inr rfl)) (pgs_cons (pg_name (i := 4) S__law_over.nd rfl (by first | exact Or.inl rfl | exact Or.inr rfl)) pgs_nil))) (fun _ _ _ _ _ => pts_nil) (fun _ _ _ _ _ => (pe_def D__law_plus (hr.mono (by omega)) (by rfl) pass0 (pa_cons (pv 4) (pa_cons (pe_def D__law_times (hr.mono (by omega)) (by rfl) pass0 (pa_cons (pv 2) (pa_cons (pe_ix (kIx (K := K)) (pv 0) (pv 3) (fun _ _ => rfl)) pa_nil))) pa_nil))))) pa_nil))))), ?_⟩
  rintro ds m y hl ⟨b, v, j, kk, rfl, b4, v4, hb, hv, hjk, rfl⟩
  have hh := head_sz hv
  have hq := sz_rest hh
  have h0 : ∀ {es : List Sl}, es[1]? = some (.d (vD v)) → EvE K (tOp (rIx K) (tVar 1) (tC (.int 0))) es m (.d (fr (headV v))) m := fun h => by
    cases v with
    | nil => cases v4
    | cons a r => exact ev_op (ev_var h nofun) ev_int (o_ixT (j := 0) rfl rfl)
  refine sv_seq (es1 := [.d (vD b), .d (vD v), .d (fr (1 - headV v)), .no, .no]) (m1 := m) (sv_set (r := .d (fr (1 - headV v))) (ev_lop (g := (· - ·)) (arg2 ev_one (h0 rfl)) sz_one (sz_up hh (by omega)))) ?_
  have hi := eig_enT (K := K) (es := [.d (vD b), .d (vD v), .d (fr (1 - headV v)), .no, .no]) (m := m) (xs := v.map fr) (arg1 (ev_var (i := 1) rfl nofun))
  rw [en_zip] at hi
  refine sv_ret0 (ev_cast (ev_cb (arg1 (el_d (el_lcG (vs := [3, 4]) hi (lcPair (α := Rat × Nat) (i := 3) (j := 4) (vs := [3, 4]) (fun x => .int (x.2 : Nat)) (fun x => fr x.1) (fun x => fr (x.1 + (1 - headV v) * b.getD x.2 0)) (by simp) (by simp) fun x hx => ?_) (by rw [List.length_map, List.length_zipIdx]; omega)))) c_tupL) ?_)
  · have hx2 : x.2 < v.length ∧ x.1 ∈ v := by
      have z := List.mem_zipIdx hx
      exact ⟨by have := z.2.1; omega, by rw [z.2.2]; exact List.getElem_mem _⟩
    have hb2 : x.2 < b.length := by omega
    have gb : b.getD x.2 0 = b[x.2] := by rw [List.getD_eq_getElem?_getD, List.getElem?_eq_getElem hb2]; rfl
    have sb : sz j (b.getD x.2 0) := by rw [gb]; exact hb _ (List.getElem_mem _)
    refine ev_lop (g := (· + ·)) (arg2 (ev_var rfl nofun) (ev_lop (g := (· * ·)) (arg2 (ev_var rfl nofun) (ev_op (ev_var rfl nofun) (ev_var rfl nofun) (o_ixT (j := x.2) rfl ?_))) (sz_up hq (by omega)) (sz_up sb (by omega)))) (sz_up (hv _ hx2.2) (by omega)) (sz_up (sz_mul hq sb) (by omega))
    rw [List.getElem?_map, List.getElem?_eq_getElem hb2, gb]
    rfl
  · rw [over_zip (by rw [b4, v4])]
    rfl
abbrev R_lnone : List PyData → PyData → Prop := fun ds y => ds = [] ∧ y = vD zero4
theorem c_lnone {k : Nat} (TD : DefT K mg "_law_nothing" st__law_nothing []) : PureC P w K mg base (k + 1) "_law_nothing" [] R_lnone := by
  refine mkPure TD S__law_nothing fun f cdv A outer s H E hr => ?_
  refine ⟨_, (pss_one (ps_ret (pe_tup (pa_cons (pe_tup (pa_cons pe_int (pa_cons pe_int pa_nil))) (pa_cons (pe_tup (pa_cons pe_int (pa_cons pe_int pa_nil))) (pa_cons (pe_tup (pa_cons pe_int (pa_cons pe_int pa_nil))) (pa_cons (pe_tup (pa_cons pe_int (pa_cons pe_int pa_nil))) pa_nil))))))), ?_⟩
  rintro ds m y hl ⟨rfl, rfl⟩
  have z : ∀ {es : List Sl}, EvE K (tTup (tCons (tC (.int 0)) (tCons (tC (.int 1)) tNil))) es m (.d (fr 0)) m := ev_tup (ds := [.int 0, .int 1]) (arg2 ev_int ev_int) rfl (by simp)
  exact sv_ret0 (ev_tup (ds := [fr 0, fr 0, fr 0, fr 0]) (ea_cons z (ea_cons z (arg2 z z))) rfl (by simp))
def valD : Option Vl → PyData
  | none => .none
  | some v => vD v
end
end K01

set_option Elab.async false
set_option linter.all false
set_option maxRecDepth 100000
set_option maxHeartbeats 4000000
set_option exponentiation.threshold 2000
namespace K01
variable [DL.Tbs]
open PySem PySem.Spec PyProof.Rows L2 DL HX GX RT SX StX
def okp (g : Bool) : L1 → Prop
  | .plain l => plB 20 l ∧ plOk l
  | .grp ls o c m => g = true ∧ ls.length ≤ 2 ∧ (∀ x, x ∈ ls → plB 20 x ∧ plOk x) ∧ opB o ∧ clipB 20 c ∧ matB 10 m
def mBnd (g : Bool) : Nat := if g = true then 1 else 15
abbrev R_lp (g : Bool) : List PyData → PyData → Prop := fun ds y => ∃ (ls : List L1) (mt : Mat) (p : Pt), ds = [.tuple (ls.map l1D), matD mt, ptD p] ∧ ls.length ≤ 3 ∧ (∀ l, l ∈ ls → okp g l) ∧ matB (mBnd g) mt ∧ ptB 40 p ∧ y = valD (paint1s p mt ls zero4)
theorem paint1s_it (p : Pt) (mt : Mat) : ∀ (ls : List L1) (v : Vl), paint1s p mt ls v = itS (paint1 p mt) ls v
  | [], v => rfl
  | l :: r, v => by
    unfold paint1s itS
    cases paint1 p mt v l with
    | none => rfl
    | some v' => exact paint1s_it p mt r v'
theorem paint_plain (p : Pt) (mt : Mat) : ∀ (ls : List Pl) (v : Vl), paint1s p mt (ls.map .plain) v = paintPs p mt ls v
  | [], v => rfl
  | l :: r, v => by
    rw [List.map_cons]
    unfold paint1s paintPs
    show (match paintPl p mt v l with
      | none => none
      | some v => paint1s p mt (r.map .plain) v) = _
    cases paintPl p mt v l with
    | none => rfl
    | some v' => exact paint_plain p mt r v'
theorem step_sz {b : Bool} {v : Vl} {l : Pl} {j : Nat} (h4 : v.length = 4) (hv : szV j v) (hl : plOk l) : (stepIn b v l).length = 4 ∧ szV (j + 14) (stepIn b v l) := by
  refine ⟨step_len h4 (plOk_ok hl), ?_⟩
  cases l with
  | fill s c o =>
    show szV (j + 14) (if b = true then overV v (fillV c o) else v)
    split
    · exact szV_up (szV_over hv (fill_sz hl.1 hl.2).2) (by omega)
    · exact szV_up hv (by omega)
  | rub s o =>
    show szV (j + 14) (if b = true then mulV v (1 - opq o) else v)
    split
    · exact szV_up (szV_mul hv (rest_sz hl)) (by omega)
    · exact szV_up hv (by omega)
theorem paintPs_sz (p : Pt) (mt : Mat) : ∀ (ls : List Pl) (v r : Vl) (j : Nat), (∀ l, l ∈ ls → plOk l) → v.length = 4 → szV j v → paintPs p mt ls v = some r → r.length = 4 ∧ szV (j + 14 * ls.length) r
  | [], v, r, j, _, h4, hv, e => by
    cases e
    exact ⟨h4, szV_up hv (by omega)⟩
  | l :: ls, v, r, j, hl, h4, hv, e => by
    unfold paintPs paintPl at e
    cases hi : insideL p (placeSh mt l.sh) with
    | none => rw [hi] at e; cases e
    | some b =>
      rw [hi] at e
      have e : paintPs p mt ls (stepIn b v l) = some r := e
      obtain ⟨s4, ss⟩ := step_sz (b := b) h4 hv (hl l (by simp))
      obtain ⟨r4, rs⟩ := paintPs_sz p mt ls _ r _ (fun x hx => hl x (List.mem_cons_of_mem _ hx)) s4 ss e
      exact ⟨r4, szV_up rs (by rw [List.length_cons]; omega)⟩
theorem opq_int (k : Int) : opq (k, 1) = (k : Rat) := by
  unfold opq
  show (k : Rat) / 1 = k
  grind
section
variable {P : Program} {w : World} {K : PySem.W.Frag} {mg : Str → Option Value} {base : Heap}
theorem ixD {es : List Sl} {m : M} {i j : Nat} {k : Int} {xs : List PyData} {v : PyData} (h : es[i]? = some (.d (.tuple xs))) (hk : k = (j : Int)) (hv : xs[j]? = some v) : EvE K (tOp (rIx K) (tVar i) (tC (.int k))) es m (.d v) m := ev_op (ev_var h nofun) ev_int (o_ixT (j := j) hk hv)
theorem keq {es : List Sl} {m : M} {kd q : Str} {xs : List PyData} (h : es[4]? = some (.d (.tuple (.str kd :: xs)))) : EvB K (tTest (tOp (rEqU K) (tOp (rIx K) (tVar 4) (tC (.int 0))) (tC (.str q)))) es m (decide (kd = q)) m := eb_test (ev_op (ixD (j := 0) h rfl rfl) ev_str o_eqS)
theorem kne {es : List Sl} {m : M} {kd q : Str} {xs : List PyData} (h : es[4]? = some (.d (.tuple (.str kd :: xs)))) : EvB K (tTest (tOp (rNeU K) (tOp (rIx K) (tVar 4) (tC (.int 0))) (tC (.str q)))) es m (!decide (kd = q)) m := eb_test (ev_op (ixD (j := 0) h rfl rfl) ev_str o_neS)
theorem isN {es : List Sl} {m : M} {i : Nat} {d : PyData} (h : es[i]? = some (.d d)) : EvB K (tTest (tOp (fun x y H Q => y = .non ∧ Q (.bl (decide (x = .non))) H) (tVar i) (tC .non))) es m (DL.isNone d) m := eb_test (ev_op (ev_var h nofun) ev_non o_isN)
theorem ev_lin {E : XK} {ta : TA} {es : List Sl} {m : M} {s : Sh} {mt : Mat} {p : Pt} (h : EvA K ta es m [.d (shD s), .d (matD mt), .d (ptD p)] m) (hs : shB 20 s) (hm : matB 30 mt) (hp : ptB 40 p) : EvE K (tCall (spD K 3 (pureG R_linside)) [] E ta) es m (.d (boolD (insideL p (placeSh mt s)))) m :=
  ev_pure h (ds := [shD s, matD mt, ptD p]) rfl ⟨s, mt, p, rfl, hs, hm, hp, rfl⟩ rfl
theorem arg3 {es : List Sl} {m m1 m2 m3 : M} {te tf tg : TE} {r q u : Sl} (h : EvE K te es m r m1) (h2 : EvE K tf es m1 q m2) (h3 : EvE K tg es m2 u m3) : EvA K (tCons te (tCons tf (tCons tg tNil))) es m [r, q, u] m3 := ea_cons h (arg2 h2 h3)
theorem c_lpaint {g : Bool} {R : List PyData → PyData → Prop} {k : Nat} (hR : g = true → R = R_lp false) (b_tuple : mg "tuple" = none) (TD : DefT K mg "_law_paint" st__law_paint ["_law_layers", "_law_matrix_here", "_law_point_here"]) (D__law_paint : PureC P w K mg base k "_law_paint" ["_law_layers", "_law_matrix_here", "_law_point_here"] R)
    (D__law_nothing : PureC P w K mg base k "_law_nothing" [] R_lnone) (D__law_both : PureC P w K mg base k "_law_both" ["_law_outer_one", "_law_inner"] R_lboth) (D__law_inside : PureC P w K mg base k "_law_inside" ["_law_shape_here", "_law_matrix_here", "_law_point_here"] R_linside)
    (D__law_times : PureC P w K mg base k "_law_times" ["_law_one", "_law_other"] (R_lop (· * ·))) (D__law_minus : PureC P w K mg base k "_law_minus" ["_law_one", "_law_other"] (R_lop (· - ·))) (D__law_over : PureC P w K mg base k "_law_over" ["_law_below", "_law_above"] R_lover) :
    PureC P w K mg base (k + 1) "_law_paint" ["_law_layers", "_law_matrix_here", "_law_point_here"] (R_lp g) := by
  refine mkPure TD S__law_paint fun f cdv A outer s H E hr => ?_
  have hu := hr.units
  refine ⟨_, (pss_cons (ps_set (i := 3) S__law_paint.nd rfl (Or.inl rfl) (GX.pe_def0 D__law_nothing (hr.mono (by omega)) (by rfl) pass0))
      (pss_cons (ps_for PassesOwn.never rfl (kSeq (K := K) (pv 0)) (pg_name (i := 4) S__law_paint.nd rfl (Or.inl rfl)) (pss_cons (ps_set (i := 5) S__law_paint.nd rfl (Or.inl rfl) (pe_ifExp (pt_cmpR (kEq (K := K) hu) (pe_ix (kIx (K := K)) (pv 4) pe_int (fun _ _ => rfl)) pe_str (nomark _)) (pe_ix (kIx (K := K)) (pv 4) pe_int (fun _ _ => rfl)) (pe_ix (kIx (K := K)) (pv 4) pe_int (fun _ _ => rfl))))
      (pss_cons (ps_set (i := 6) S__law_paint.nd rfl (Or.inl rfl) (pe_ifExp (pt_cmpR (kEq (K := K) hu) (pe_ix (kIx (K := K)) (pv 4) pe_int (fun _ _ => rfl)) pe_str (nomark _)) (pe_def D__law_both (hr.mono (by omega)) (by rfl) pass0 (pa_cons (pv 1) (pa_cons (pe_ix (kIx (K := K)) (pv 4) pe_int (fun _ _ => rfl)) pa_nil))) (pv 1)))
      (pss_cons (ps_set (i := 7) S__law_paint.nd rfl (Or.inl rfl) (pe_ifExp (pt_cmpR op_isN (pv 5) pe_non (nomark _)) pe_bl (pe_def D__law_inside (hr.mono (by omega)) (by rfl) pass0 (pa_cons (pv 5) (pa_cons (pv 6) (pa_cons (pv 2) pa_nil))))))
      (pss_cons (ps_set (i := 8) S__law_paint.nd rfl (Or.inl rfl) (pe_ifExp (pt_cmpR (kEq (K := K) hu) (pe_ix (kIx (K := K)) (pv 4) pe_int (fun _ _ => rfl)) pe_str (nomark _)) (pe_def D__law_paint (hr.mono (by omega)) (by rfl) pass0 (pa_cons (pe_ix (kIx (K := K)) (pv 4) pe_int (fun _ _ => rfl)) (pa_cons (pv 6) (pa_cons (pv 2) pa_nil)))) (pv 3)))
      (pss_cons (ps_if (PW.pt (pw_or (pt_cmpR op_isN (pv 7) pe_non (nomark _)) (pw_or1 (pt_cmpR op_isN (pv 8) pe_non (nomark _))))) (pss_one (ps_ret pe_non)) pss_nil)
      (pss_cons (ps_set (i := 9) S__law_paint.nd rfl (Or.inr rfl) (pe_ifExp (pt_cmpR (kNe (K := K) hu) (pe_ix (kIx (K := K)) (pv 4) pe_int (fun _ _ => rfl)) pe_str (nomark _)) (pe_ix (kIx (K := K)) (pv 4) pe_int (fun _ _ => rfl)) (pe_ix (kIx (K := K)) (pv 4) pe_int (fun _ _ => rfl))))
      (pss_one (ps_if (PW.pt (pw_and (pt_val (pv 7)) (pw_and1 (pt_cmpR (kEq (K := K) hu) (pe_ix (kIx (K := K)) (pv 4) pe_int (fun _ _ => rfl)) pe_str (nomark _))))) (pss_cons (ps_set (i := 10) S__law_paint.nd rfl (Or.inl rfl) (pe_callTy (kTup (K := K)) (by rfl) b_tuple (by decide +kernel) (pa_cons (pe_lc (own := [("_law_one", 11)]) (by rfl) S__law_paint.nd (kSeq (K := K) (pe_op (kAdd (K := K)) (pe_tup (pa_cons pe_int pa_nil)) (pe_ix (kIx (K := K)) (pv 4) pe_int (fun _ _ => rfl)))) (blkOk_by (N := N__law_paint) (sc := defScope st__law_paint) (by decide +kernel)) (fun _ _ _ _ _ => pg_name (i := 11) S__law_paint.nd rfl (by first | exact Or.inl rfl | exact Or.inr rfl)) (fun _ _ _ _ _ => pts_nil) (fun _ _ _ _ _ => (pe_def D__law_times (hr.mono (by omega)) (by rfl) pass0 (pa_cons (pe_tup (pa_cons (pv 11) (pa_cons pe_int pa_nil))) (pa_cons (pv 9) pa_nil))))) pa_nil)))
      (pss_one (ps_set (i := 3) S__law_paint.nd rfl (Or.inl rfl) (pe_def D__law_over (hr.mono (by omega)) (by rfl) pass0 (pa_cons (pv 3) (pa_cons (pv 10) pa_nil)))))) (pss_one (ps_if (PW.pt (pw_and (pt_val (pv 7)) (pw_and1 (pt_cmpR (kEq (K := K) hu) (pe_ix (kIx (K := K)) (pv 4) pe_int (fun _ _ => rfl)) pe_str (nomark _))))) (pss_one (ps_set (i := 3) S__law_paint.nd rfl (Or.inl rfl) (pe_callTy (kTup (K := K)) (by rfl) b_tuple (by decide +kernel) (pa_cons (pe_lc (own := [("_law_one", 11)]) (by rfl) S__law_paint.nd (kSeq (K := K) (pv 3)) (blkOk_by (N := N__law_paint) (sc := defScope st__law_paint) (by decide +kernel)) (fun _ _ _ _ _ => pg_name (i := 11) S__law_paint.nd rfl (by first | exact Or.inl rfl | exact Or.inr rfl)) (fun _ _ _ _ _ => pts_nil) (fun _ _ _ _ _ => (pe_def D__law_times (hr.mono (by omega)) (by rfl) pass0 (pa_cons (pv 11) (pa_cons (pe_def D__law_minus (hr.mono (by omega)) (by rfl) pass0 (pa_cons (pe_tup (pa_cons pe_int (pa_cons pe_int pa_nil))) (pa_cons (pv 9) pa_nil))) pa_nil))))) pa_nil)))) (pss_one (ps_if (pt_val (pv 7)) (pss_one (ps_set (i := 3) S__law_paint.nd rfl (Or.inl rfl) (pe_def D__law_over (hr.mono (by omega)) (by rfl) pass0 (pa_cons (pv 3) (pa_cons (pe_callTy (kTup (K := K)) (by rfl) b_tuple (by decide +kernel) (pa_cons (pe_lc (own := [("_law_one", 11)]) (by rfl) S__law_paint.nd (kSeq (K := K) (pv 8)) (blkOk_by (N := N__law_paint) (sc := defScope st__law_paint) (by decide +kernel)) (fun _ _ _ _ _ => pg_name (i := 11) S__law_paint.nd rfl (by first | exact Or.inl rfl | exact Or.inr rfl)) (fun _ _ _ _ _ => pts_nil) (fun _ _ _ _ _ => (pe_def D__law_times (hr.mono (by omega)) (by rfl) pass0 (pa_cons (pv 11) (pa_cons (pv 9) pa_nil))))) pa_nil)) pa_nil))))) pss_nil)))))))))))))
      (pss_one (ps_ret (pv 3))))), ?_⟩
  rintro ds m y hl ⟨ls, mt, p, rfl, h3, hok, hm, hp, rfl⟩
  have hm30 : matB 30 mt := matB_up hm (by unfold mBnd; split <;> decide)
  have hm20 : matB 20 mt := matB_up hm (by unfold mBnd; split <;> decide)
  refine sv_seq (es1 := [.d (.tuple (ls.map l1D)), .d (matD mt), .d (ptD p), .d (vD zero4), .no, .no, .no, .no, .no, .no, .no, .no]) (m1 := m) (sv_set (r := .d (vD zero4)) (ev_pure ea_nil (ds := []) rfl ⟨rfl, rfl⟩ rfl)) ?_
  rw [paint1s_it]
  refine sv_forS (S := Vl) (α := L1) (r0 := .d .none) (mm := m) (m1 := m) (ds := ls.map l1D) (toD := fun _ l => l1D l) (paint1 p mt) (fun k v es mm => mm = m ∧ v.length = 4 ∧ szV (64 * k) v ∧ ∃ x4 x5 x6 x7 x8 x9 x10, es = [.d (.tuple (ls.map l1D)), .d (matD mt), .d (ptD p), .d (vD v), x4, x5, x6, x7, x8, x9, x10, .no]) ls zero4
    (eig_of (ei_seqT (ev_var rfl nofun))) (walks_map l1D 0 ls) ⟨rfl, rfl, zero_sz, _, _, _, _, _, _, _, rfl⟩ ?st (fun e => by rw [e]; rfl) (fun v es' m' e j => ?hs)
  case hs =>
    obtain ⟨rfl, v4, vs, x4, x5, x6, x7, x8, x9, x10, rfl⟩ := j
    rw [e]
    exact sv_ret0 (ev_var rfl nofun)
  case st =>
    rintro k l v es mm hk ⟨rfl, v4, vs, x4, x5, x6, x7, x8, x9, x10, rfl⟩
    have hkl : k < ls.length := (List.getElem?_eq_some_iff.mp hk).1
    have hl := hok l (List.mem_of_getElem? hk)
    have vs' : szV 128 v := szV_up vs (by omega)
    refine ⟨_, [.d (.tuple (ls.map l1D)), .d (matD mt), .d (ptD p), .d (vD v), .d (l1D l), x5, x6, x7, x8, x9, x10, .no], gv_name, ?_⟩
    -- the two writes of a found value
    have fin : ∀ {v' : Vl} {es2 : List Sl}, paint1 p mt v l = some v' → v'.length = 4 → szV (64 * (k + 1)) v' → (∃ x4 x5 x6 x7 x8 x9 x10, es2 = [.d (.tuple (ls.map l1D)), .d (matD mt), .d (ptD p), .d (vD v'), x4, x5, x6, x7, x8, x9, x10, .no]) →
        ∀ {tb : TS}, Sv K mm.length tb [.d (.tuple (ls.map l1D)), .d (matD mt), .d (ptD p), .d (vD v), .d (l1D l), x5, x6, x7, x8, x9, x10, .no] mm (.nx es2 mm) → (paint1 p mt v l = none ∧ Sv K mm.length tb [.d (.tuple (ls.map l1D)), .d (matD mt), .d (ptD p), .d (vD v), .d (l1D l), x5, x6, x7, x8, x9, x10, .no] mm (.ret (.d .none) mm)) ∨ ∃ s' es2 m2, paint1 p mt v l = some s' ∧ Sv K mm.length tb [.d (.tuple (ls.map l1D)), .d (matD mt), .d (ptD p), .d (vD v), .d (l1D l), x5, x6, x7, x8, x9, x10, .no] mm (.nx es2 m2) ∧ m2 = mm ∧ s'.length = 4 ∧ szV (64 * (k + 1)) s' ∧ ∃ x4 x5 x6 x7 x8 x9 x10, es2 = [.d (.tuple (ls.map l1D)), .d (matD mt), .d (ptD p), .d (vD s'), x4, x5, x6, x7, x8, x9, x10, .no] :=
      fun {v' es2} e a b c {tb} h => .inr ⟨v', es2, mm, e, h, rfl, a, b, c⟩
    cases l with
    | plain l =>
      obtain ⟨hb, ho⟩ : plB 20 l ∧ plOk l := hl
      have done : ∀ (b : Bool), (stepIn b v l).length = 4 ∧ szV (64 * (k + 1)) (stepIn b v l) := fun b => by
        obtain ⟨a1, a2⟩ := step_sz (b := b) v4 vs ho
        exact ⟨a1, szV_up a2 (by omega)⟩
      have stp : paint1 p mt v (.plain l) = (insideL p (placeSh mt l.sh)).map fun b => stepIn b v l := rfl
      cases l with
      | fill s c o =>
        obtain ⟨hc, hopB⟩ : colB c ∧ opB o := ho
        have hin := ev_lin (K := K) (E := E0) (es := [.d (.tuple (ls.map l1D)), .d (matD mt), .d (ptD p), .d (vD v), .d (plD (.fill s c o)), .d (shD s), .d (matD mt), x7, x8, x9, x10, .no]) (m := mm) (ta := tCons (tVar 5) (tCons (tVar 6) (tCons (tVar 2) tNil))) (arg3 (ev_var rfl nofun) (ev_var rfl nofun) (ev_var rfl nofun)) hb hm30 hp
        have f5 : EvE K (tIf (tTest (tOp (rEqU K) (tOp (rIx K) (tVar 4) (tC (.int 0))) (tC (.str "group")))) (tOp (rIx K) (tVar 4) (tC (.int 3))) (tOp (rIx K) (tVar 4) (tC (.int 1)))) [.d (.tuple (ls.map l1D)), .d (matD mt), .d (ptD p), .d (vD v), .d (plD (.fill s c o)), x5, x6, x7, x8, x9, x10, .no] mm (.d (shD s)) mm := ev_ifF (eb_cast (keq (kd := "fill") rfl) (decide_eq_false (by decide))) (ixD (j := 1) (v := shD s) rfl rfl rfl)
        have ng : ∀ {es : List Sl} {m : M}, es[4]? = some (.d (plD (.fill s c o))) → EvB K (tTest (tOp (rEqU K) (tOp (rIx K) (tVar 4) (tC (.int 0))) (tC (.str "group")))) es m false m := fun h => eb_cast (keq (kd := "fill") h) (decide_eq_false (by decide))
        cases hi : insideL p (placeSh mt s) with
        | none =>
          rw [hi] at hin
          refine .inl ⟨by rw [stp]; show (insideL p (placeSh mt s)).map _ = none; rw [hi]; rfl, ?_⟩
          refine sv_seq (sv_set f5) (sv_seq (sv_set (ev_ifF (ng rfl) (ev_var (r := .d (matD mt)) rfl nofun))) (sv_seq (sv_set (ev_ifF (eb_cast (isN (d := shD s) rfl) rfl) hin)) (sv_seq (sv_set (ev_ifF (ng rfl) (ev_var (r := .d (vD v)) rfl nofun))) ?_)))
          exact sv_ifsT (m1 := mm) (eb_orT (eb_cast (isN (d := .none) rfl) rfl)) rfl (sv_ret0 ev_non)
        | some b =>
          rw [hi] at hin
          obtain ⟨d1, d2⟩ := done b
          refine fin (v' := stepIn b v (.fill s c o)) (by rw [stp]; show (insideL p (placeSh mt s)).map _ = _; rw [hi]; rfl) d1 d2 ⟨_, _, _, _, _, _, _, rfl⟩ (sv_seq (sv_set f5) (sv_seq (sv_set (ev_ifF (ng rfl) (ev_var (r := .d (matD mt)) rfl nofun))) (sv_seq (sv_set (ev_ifF (eb_cast (isN (d := shD s) rfl) rfl) hin)) (sv_seq (sv_set (ev_ifF (ng rfl) (ev_var (r := .d (vD v)) rfl nofun))) (sv_ifsF (m1 := mm) (eb_orF (eb_cast (isN (d := .bool b) rfl) rfl) (eb_cast (isN (d := vD v) rfl) rfl)) (sv_seq (sv_set (ev_ifF (eb_cast (kne (kd := "fill") (q := "fill") rfl) rfl) (ixD (j := 3) (v := prD o) rfl rfl rfl))) (?_ : Sv K mm.length _ [.d (.tuple (ls.map l1D)), .d (matD mt), .d (ptD p), .d (vD v), .d (plD (.fill s c o)), .d (shD s), .d (matD mt), .d (.bool b), .d (vD v), .d (prD o), x10, .no] mm (.nx [.d (.tuple (ls.map l1D)), .d (matD mt), .d (ptD p), .d (vD (stepIn b v (.fill s c o))), .d (plD (.fill s c o)), .d (shD s), .d (matD mt), .d (.bool b), .d (vD v), .d (prD o), if b = true then .d (vD (fillV c o)) else x10, .no] mm))))))))
          cases b with
          | false => exact sv_ifF (m1 := mm) (eb_andF (eb_val (ev_var rfl nofun))) (sv_ifF (m1 := mm) (eb_andF (eb_val (ev_var rfl nofun))) (sv_ifF (m1 := mm) (eb_val (ev_var rfl nofun)) sv_next))
          | true =>
            obtain ⟨f1, f2⟩ := fill_sz hc hopB
            refine sv_ifT (m1 := mm) (eb_cast (eb_and (a := true) (b := true) (eb_val (ev_var rfl nofun)) fun _ => eb_cast (keq (kd := "fill") rfl) (decide_eq_true rfl)) rfl) ?_
            refine sv_seq (es1 := [.d (.tuple (ls.map l1D)), .d (matD mt), .d (ptD p), .d (vD v), .d (plD (.fill s c o)), .d (shD s), .d (matD mt), .d (.bool true), .d (vD v), .d (prD o), .d (vD (fillV c o)), .no]) (m1 := mm) (sv_set (r := .d (vD (fillV c o))) ?val) (sv_set (ev_pure (arg2 (ev_var rfl nofun) (ev_var rfl nofun)) (ds := [vD v, vD (fillV c o)]) rfl ⟨v, fillV c o, 128, 6, rfl, v4, f1, vs', f2, by decide, rfl⟩ rfl))
            case val =>
              have it : EvI K (iSeq K (tOp (rAddU K) (tTup (tCons (tC (.int 1)) tNil)) (tOp (rIx K) (tVar 4) (tC (.int 2))))) [.d (.tuple (ls.map l1D)), .d (matD mt), .d (ptD p), .d (vD v), .d (plD (.fill s c o)), .d (shD s), .d (matD mt), .d (.bool true), .d (vD v), .d (prD o), x10, .no] mm (((1 : Int) :: c).map .int) mm :=
                ei_seqT (ev_op (ev_tup (ds := [.int 1]) (arg1 ev_int) rfl (by simp)) (ixD (j := 2) (v := .tuple (c.map .int)) rfl rfl rfl) (o_addT (xs := [.int 1]) (ys := c.map .int) (by rw [List.length_map]; have := hc.1; simp; omega)))
              refine ev_cast (ev_tupMap it (lcMapF .int (fun k : Int => fr ((k : Rat) * opq o)) (by simp) fun k hk => ?_) (by rw [List.length_map, List.length_cons]; have := hc.1; omega)) ?_
              · have hk9 : 0 ≤ k ∧ k ≤ 9 := by
                  rcases List.mem_cons.mp hk with rfl | hk
                  · omega
                  · exact hc.2 k hk
                exact ev_pure (arg2 (ev_tup (ds := [.int k, .int 1]) (arg2 (ev_var rfl nofun) ev_int) rfl (by simp)) (ev_var rfl nofun)) (ds := [prD (k, 1), prD o]) rfl ⟨(k, 1), o, rfl, Int.one_pos, (op_pr hopB).2, ⟨Nat.le_trans (show k.natAbs ≤ 9 by omega) (by decide), Nat.one_le_two_pow⟩, ⟨nb_up (op_pr hopB).1.1 (by decide), nb_up (op_pr hopB).1.2 (by decide)⟩, by rw [opq_int]⟩ rfl
              · unfold vD fillV
                rw [List.map_cons, List.map_cons, List.map_map]
                have e1 : ((1 : Int) : Rat) * opq o = opq o := by
                  have : ((1 : Int) : Rat) = 1 := rfl
                  rw [this, Rat.one_mul]
                rw [e1]
                rfl
      | rub s o =>
        have hopB : opB o := ho
        have hin := ev_lin (K := K) (E := E0) (es := [.d (.tuple (ls.map l1D)), .d (matD mt), .d (ptD p), .d (vD v), .d (plD (.rub s o)), .d (shD s), .d (matD mt), x7, x8, x9, x10, .no]) (m := mm) (ta := tCons (tVar 5) (tCons (tVar 6) (tCons (tVar 2) tNil))) (arg3 (ev_var rfl nofun) (ev_var rfl nofun) (ev_var rfl nofun)) hb hm30 hp
        have f5 : EvE K (tIf (tTest (tOp (rEqU K) (tOp (rIx K) (tVar 4) (tC (.int 0))) (tC (.str "group")))) (tOp (rIx K) (tVar 4) (tC (.int 3))) (tOp (rIx K) (tVar 4) (tC (.int 1)))) [.d (.tuple (ls.map l1D)), .d (matD mt), .d (ptD p), .d (vD v), .d (plD (.rub s o)), x5, x6, x7, x8, x9, x10, .no] mm (.d (shD s)) mm := ev_ifF (eb_cast (keq (kd := "rub") rfl) (decide_eq_false (by decide))) (ixD (j := 1) (v := shD s) rfl rfl rfl)
        have ng : ∀ {es : List Sl} {m : M}, es[4]? = some (.d (plD (.rub s o))) → EvB K (tTest (tOp (rEqU K) (tOp (rIx K) (tVar 4) (tC (.int 0))) (tC (.str "group")))) es m false m := fun h => eb_cast (keq (kd := "rub") h) (decide_eq_false (by decide))
        cases hi : insideL p (placeSh mt s) with
        | none =>
          rw [hi] at hin
          refine .inl ⟨by rw [stp]; show (insideL p (placeSh mt s)).map _ = none; rw [hi]; rfl, ?_⟩
          refine sv_seq (sv_set f5) (sv_seq (sv_set (ev_ifF (ng rfl) (ev_var (r := .d (matD mt)) rfl nofun))) (sv_seq (sv_set (ev_ifF (eb_cast (isN (d := shD s) rfl) rfl) hin)) (sv_seq (sv_set (ev_ifF (ng rfl) (ev_var (r := .d (vD v)) rfl nofun))) ?_)))
          exact sv_ifsT (m1 := mm) (eb_orT (eb_cast (isN (d := .none) rfl) rfl)) rfl (sv_ret0 ev_non)
        | some b =>
          rw [hi] at hin
          obtain ⟨d1, d2⟩ := done b
          refine fin (v' := stepIn b v (.rub s o)) (by rw [stp]; show (insideL p (placeSh mt s)).map _ = _; rw [hi]; rfl) d1 d2 ⟨_, _, _, _, _, _, _, rfl⟩ (sv_seq (sv_set f5) (sv_seq (sv_set (ev_ifF (ng rfl) (ev_var (r := .d (matD mt)) rfl nofun))) (sv_seq (sv_set (ev_ifF (eb_cast (isN (d := shD s) rfl) rfl) hin)) (sv_seq (sv_set (ev_ifF (ng rfl) (ev_var (r := .d (vD v)) rfl nofun))) (sv_ifsF (m1 := mm) (eb_orF (eb_cast (isN (d := .bool b) rfl) rfl) (eb_cast (isN (d := vD v) rfl) rfl)) (sv_seq (sv_set (ev_ifT (eb_cast (kne (kd := "rub") (q := "fill") rfl) (by decide)) (ixD (j := 2) (v := prD o) rfl rfl rfl))) (?_ : Sv K mm.length _ [.d (.tuple (ls.map l1D)), .d (matD mt), .d (ptD p), .d (vD v), .d (plD (.rub s o)), .d (shD s), .d (matD mt), .d (.bool b), .d (vD v), .d (prD o), x10, .no] mm (.nx [.d (.tuple (ls.map l1D)), .d (matD mt), .d (ptD p), .d (vD (stepIn b v (.rub s o))), .d (plD (.rub s o)), .d (shD s), .d (matD mt), .d (.bool b), .d (vD v), .d (prD o), x10, .no] mm))))))))
          cases b with
          | false => exact sv_ifF (m1 := mm) (eb_andF (eb_val (ev_var rfl nofun))) (sv_ifF (m1 := mm) (eb_andF (eb_val (ev_var rfl nofun))) (sv_ifF (m1 := mm) (eb_val (ev_var rfl nofun)) sv_next))
          | true =>
            refine sv_ifF (m1 := mm) (eb_cast (eb_and (a := true) (b := false) (eb_val (ev_var rfl nofun)) fun _ => eb_cast (keq (kd := "rub") rfl) (decide_eq_false (by decide))) rfl) (sv_ifT (m1 := mm) (eb_cast (eb_and (a := true) (b := true) (eb_val (ev_var rfl nofun)) fun _ => eb_cast (keq (kd := "rub") rfl) (decide_eq_true rfl)) rfl) (sv_set (r := .d (vD (mulV v (1 - opq o)))) ?_))
            refine ev_cast (ev_tupMap (ei_seqT (ds := v.map fr) (ev_var rfl nofun)) (lcMapF fr (fun x => fr (x * (1 - opq o))) (by simp) fun x hx => ev_lop (g := (· * ·)) (arg2 (ev_var rfl nofun) (ev_lopP (g := (· - ·)) (arg2 ev_one (ev_var rfl nofun)) sz_one hopB)) (sz_up (vs' x hx) (by decide)) (sz_up (rest_sz hopB) (by decide))) (by rw [List.length_map]; omega)) ?_
            unfold vD mulV
            rw [List.map_map]
            rfl
    | grp gs o c gm =>
      obtain ⟨hg, h2, hgs, hopB, hcl, hgm⟩ : g = true ∧ gs.length ≤ 2 ∧ (∀ x, x ∈ gs → plB 20 x ∧ plOk x) ∧ opB o ∧ clipB 20 c ∧ matB 10 gm := hl
      obtain rfl := hR hg
      subst hg
      have hbm : matB 13 (both mt gm) := both_nb (j := 1) (k := 10) hm hgm
      have yg : ∀ {es : List Sl} {m : M}, es[4]? = some (.d (l1D (.grp gs o c gm))) → EvB K (tTest (tOp (rEqU K) (tOp (rIx K) (tVar 4) (tC (.int 0))) (tC (.str "group")))) es m true m := fun h => eb_cast (keq (kd := "group") h) (decide_eq_true rfl)
      have f5 : EvE K (tIf (tTest (tOp (rEqU K) (tOp (rIx K) (tVar 4) (tC (.int 0))) (tC (.str "group")))) (tOp (rIx K) (tVar 4) (tC (.int 3))) (tOp (rIx K) (tVar 4) (tC (.int 1)))) [.d (.tuple (ls.map l1D)), .d (matD mt), .d (ptD p), .d (vD v), .d (l1D (.grp gs o c gm)), x5, x6, x7, x8, x9, x10, .no] mm (.d (clipD c)) mm := ev_ifT (yg rfl) (ixD (j := 3) (v := clipD c) rfl rfl rfl)
      have f6 : EvE K (tIf (tTest (tOp (rEqU K) (tOp (rIx K) (tVar 4) (tC (.int 0))) (tC (.str "group")))) (tCall (spD K 2 (pureG R_lboth)) [] E0 (tCons (tVar 1) (tCons (tOp (rIx K) (tVar 4) (tC (.int 4))) tNil))) (tVar 1)) [.d (.tuple (ls.map l1D)), .d (matD mt), .d (ptD p), .d (vD v), .d (l1D (.grp gs o c gm)), .d (clipD c), x6, x7, x8, x9, x10, .no] mm (.d (matD (both mt gm))) mm :=
        ev_ifT (yg rfl) (ev_pure (arg2 (ev_var rfl nofun) (ixD (j := 4) (v := matD gm) rfl rfl rfl)) (ds := [matD mt, matD gm]) rfl ⟨mt, gm, rfl, hm20, matB_up hgm (by decide), rfl⟩ rfl)
      have f7 : EvE K (tIf (tTest (tOp (fun x y H Q => y = .non ∧ Q (.bl (decide (x = .non))) H) (tVar 5) (tC .non))) (tC (.bl true)) (tCall (spD K 3 (pureG R_linside)) [] E0 (tCons (tVar 5) (tCons (tVar 6) (tCons (tVar 2) tNil))))) [.d (.tuple (ls.map l1D)), .d (matD mt), .d (ptD p), .d (vD v), .d (l1D (.grp gs o c gm)), .d (clipD c), .d (matD (both mt gm)), x7, x8, x9, x10, .no] mm (.d (boolD (flagL p (both mt gm) c))) mm := by
        cases c with
        | none => exact ev_ifT (eb_cast (isN (d := .none) rfl) rfl) ev_bl
        | some s => exact ev_ifF (eb_cast (isN (d := shD s) rfl) rfl) (ev_lin (arg3 (ev_var rfl nofun) (ev_var rfl nofun) (ev_var rfl nofun)) (hcl s rfl) (matB_up hbm (by decide)) hp)
      have f8 : EvE K (tIf (tTest (tOp (rEqU K) (tOp (rIx K) (tVar 4) (tC (.int 0))) (tC (.str "group")))) (tCall (spD K 3 (pureG (R_lp false))) [] E0 (tCons (tOp (rIx K) (tVar 4) (tC (.int 1))) (tCons (tVar 6) (tCons (tVar 2) tNil)))) (tVar 3)) [.d (.tuple (ls.map l1D)), .d (matD mt), .d (ptD p), .d (vD v), .d (l1D (.grp gs o c gm)), .d (clipD c), .d (matD (both mt gm)), .d (boolD (flagL p (both mt gm) c)), x8, x9, x10, .no] mm (.d (valD (paintPs p (both mt gm) gs zero4))) mm := by
        refine ev_ifT (yg rfl) (ev_pure (arg3 (ixD (j := 1) (v := .tuple (gs.map plD)) rfl rfl rfl) (ev_var rfl nofun) (ev_var rfl nofun)) (ds := [.tuple (gs.map plD), matD (both mt gm), ptD p]) rfl ⟨gs.map .plain, both mt gm, p, by rw [List.map_map]; rfl, by rw [List.length_map]; omega, fun l hl => ?_, matB_up hbm (by decide), hp, by rw [paint_plain]⟩ rfl)
        obtain ⟨x, hx, rfl⟩ := List.mem_map.mp hl
        exact hgs x hx
      have p1 : paint1 p mt v (.grp gs o c gm) = match flagL p (both mt gm) c, paintPs p (both mt gm) gs zero4 with
        | some b, some v2 => some (if b = true then overV v (mulV v2 (opq o)) else v)
        | _, _ => none := rfl
      cases hi : flagL p (both mt gm) c with
      | none =>
        rw [hi] at f7 f8
        refine .inl ⟨by rw [p1, hi], ?_⟩
        exact sv_seq (sv_set f5) (sv_seq (sv_set f6) (sv_seq (sv_set f7) (sv_seq (sv_set f8) (sv_ifsT (m1 := mm) (eb_orT (eb_cast (isN (d := .none) rfl) rfl)) rfl (sv_ret0 ev_non)))))
      | some b =>
        rw [hi] at f7 f8
        cases hv : paintPs p (both mt gm) gs zero4 with
        | none =>
          rw [hv] at f8
          refine .inl ⟨by rw [p1, hi, hv], ?_⟩
          exact sv_seq (sv_set f5) (sv_seq (sv_set f6) (sv_seq (sv_set f7) (sv_seq (sv_set f8) (sv_ifsT (m1 := mm) (eb_orF (eb_cast (isN (d := .bool b) rfl) rfl) (eb_cast (isN (d := .none) rfl) rfl)) rfl (sv_ret0 ev_non)))))
        | some v2 =>
          rw [hv] at f8
          obtain ⟨q4, qs⟩ := paintPs_sz p (both mt gm) gs zero4 v2 0 (fun x hx => (hgs x hx).2) rfl zero_sz hv
          have qs : szV 28 v2 := szV_up qs (by omega)
          have ws : szV 31 (mulV v2 (opq o)) := szV_up (szV_mul qs (op_sz hopB)) (by decide)
          have w4 : (mulV v2 (opq o)).length = 4 := by rw [mul_len]; exact q4
          have dn : (if b = true then overV v (mulV v2 (opq o)) else v).length = 4 ∧ szV (64 * (k + 1)) (if b = true then overV v (mulV v2 (opq o)) else v) := by
            split
            · exact ⟨over_len v4 w4, szV_up (szV_over vs ws) (by omega)⟩
            · exact ⟨v4, szV_up vs (by omega)⟩
          refine fin (v' := if b = true then overV v (mulV v2 (opq o)) else v) (by rw [p1, hi, hv]) dn.1 dn.2 ⟨_, _, _, _, _, _, _, rfl⟩ (sv_seq (sv_set f5) (sv_seq (sv_set f6) (sv_seq (sv_set f7) (sv_seq (sv_set f8) (sv_ifsF (m1 := mm) (eb_orF (eb_cast (isN (d := .bool b) rfl) rfl) (eb_cast (isN (d := vD v2) rfl) rfl)) (sv_seq (sv_set (ev_ifT (eb_cast (kne (kd := "group") (q := "fill") rfl) (by decide)) (ixD (j := 2) (v := prD o) rfl rfl rfl))) (?_ : Sv K mm.length _ [.d (.tuple (ls.map l1D)), .d (matD mt), .d (ptD p), .d (vD v), .d (l1D (.grp gs o c gm)), .d (clipD c), .d (matD (both mt gm)), .d (.bool b), .d (vD v2), .d (prD o), x10, .no] mm (.nx [.d (.tuple (ls.map l1D)), .d (matD mt), .d (ptD p), .d (vD (if b = true then overV v (mulV v2 (opq o)) else v)), .d (l1D (.grp gs o c gm)), .d (clipD c), .d (matD (both mt gm)), .d (.bool b), .d (vD v2), .d (prD o), x10, .no] mm))))))))
          cases b with
          | false => exact sv_ifF (m1 := mm) (eb_andF (eb_val (ev_var rfl nofun))) (sv_ifF (m1 := mm) (eb_andF (eb_val (ev_var rfl nofun))) (sv_ifF (m1 := mm) (eb_val (ev_var rfl nofun)) sv_next))
          | true =>
            refine sv_ifF (m1 := mm) (eb_cast (eb_and (a := true) (b := false) (eb_val (ev_var rfl nofun)) fun _ => eb_cast (keq (kd := "group") rfl) (decide_eq_false (by decide))) rfl) (sv_ifF (m1 := mm) (eb_cast (eb_and (a := true) (b := false) (eb_val (ev_var rfl nofun)) fun _ => eb_cast (keq (kd := "group") rfl) (decide_eq_false (by decide))) rfl) (sv_ifT (m1 := mm) (eb_val (ev_var rfl nofun)) (sv_set (r := .d (vD (overV v (mulV v2 (opq o))))) ?_)))
            refine ev_pure (arg2 (ev_var rfl nofun) (ev_cast (r' := .d (vD (mulV v2 (opq o)))) (ev_tupMap (ei_seqT (ds := v2.map fr) (ev_var rfl nofun)) (lcMapF fr (fun x => fr (x * opq o)) (by simp) fun x hx => ev_lopP (g := (· * ·)) (arg2 (ev_var rfl nofun) (ev_var rfl nofun)) (sz_up (qs x hx) (by decide)) hopB) (by rw [List.length_map]; omega)) ?_)) (ds := [vD v, vD (mulV v2 (opq o))]) rfl ⟨v, mulV v2 (opq o), 128, 31, rfl, v4, w4, vs', ws, by decide, rfl⟩ rfl
            unfold vD mulV
            rw [List.map_map]
            rfl
end
end K01

set_option Elab.async false
set_option linter.all false
set_option maxRecDepth 100000
set_option maxHeartbeats 4000000
namespace K01
variable [DL.Tbs]
open PySem PySem.Spec PyProof.Rows L2 DL
section
variable {P : Program} {w : World} {K : PySem.W.Frag} {mg : Str → Option Value} {base : Heap}
structure BltD (mg : Str → Option Value) : Prop where
  b_len : mg "len" = none
  b_max : mg "max" = none
  b_min : mg "min" = none
  b_range : mg "range" = none
abbrev R_cell : List PyData → PyData → Prop := fun ds y => ∃ (ns : List Int) (k : Int), ds = [.list (ns.map .int), .int k] ∧ ns.length ≤ 1000 ∧ 0 ≤ k ∧ y = .int (cellM ns k)
theorem c_cell (T : BltD mg) (TD : DefT K mg "_law_cell" st__law_cell ["_law_script", "_law_k"]) : PureC P w K mg base 1 "_law_cell" ["_law_script", "_law_k"] R_cell := by
  refine mkPure TD S__law_cell fun f cdv A outer s H E hr => ?_
  have hu := hr.units
  refine ⟨_, (pss_cons (ps_if (pt_cmpR (kEq (K := K) hu) (pv 0) (pe_lst pa_nil) (nomark _)) (pss_one (ps_ret (pe_op (kMul (K := K)) (pv 1) pe_int))) pss_nil)
      (pss_one (ps_ret (pe_op (kAdd (K := K)) (pe_ix (kIx (K := K)) (pv 0) (pe_op op_mod (pv 1) (pe_callB (kLen (K := K)) (by rfl) T.b_len (by decide +kernel) (pa_cons (pv 0) pa_nil))) (fun _ _ => rfl)) (pe_op (kMul (K := K)) (pe_op op_fdivW (pv 1) (pe_callB (kLen (K := K)) (by rfl) T.b_len (by decide +kernel) (pa_cons (pv 0) pa_nil))) pe_int))))), ?_⟩
  rintro ds m y hl ⟨ns, k, rfl, hn, hk, rfl⟩
  have big : ∀ j : Int, IntMulOk j 104729 ∧ IntMulOk j 7919 := fun j => ⟨.of_right (intBits_le_64 (by decide) (by decide)), .of_right (intBits_le_64 (by decide) (by decide))⟩
  cases ns with
  | nil =>
    refine sv_ifsT (m1 := m) (eb_cast (eb_test (ev_op (ev_var rfl nofun) (ev_lst ea_nil (ds := []) rfl (by decide)) (o_eqD (shaped_ints []) (shaped_ints [])))) (by simp [PyData.eqv, PyData.eqvAll])) rfl (sv_ret0 ?_)
    exact ev_op (ev_var rfl nofun) ev_int (o_mulII (big k).2)
  | cons n ns =>
    have hpos : (0 : Int) < ((n :: ns).length : Int) := by rw [List.length_cons]; omega
    have hlen : EvE K _ _ m (.d (.int (((n :: ns).length : Nat) : Int))) m := ev_cast (ev_cb (K := K) (es := [.d (.list ((n :: ns).map .int)), .d (.int k)]) (arg1 (ev_var (i := 0) rfl nofun)) (c_len rfl)) (by rw [List.length_map])
    refine sv_ifsF (m1 := m) (eb_cast (eb_test (ev_op (ev_var rfl nofun) (ev_lst ea_nil (ds := []) rfl (by decide)) (o_eqD (shaped_ints (n :: ns)) (shaped_ints [])))) (by simp [PyData.eqv, PyData.eqvAll])) (sv_ret0 ?_)
    have h1 := Int.emod_nonneg k (b := ((n :: ns).length : Int)) (by omega)
    have h2 := Int.emod_lt_of_pos k hpos
    have hix : ((n :: ns).map PyData.int)[(k % ((n :: ns).length : Int)).toNat]? = some (.int ((n :: ns).getD (k % ((n :: ns).length : Int)).toNat 0)) := by
      rw [List.getElem?_map, List.getD_eq_getElem?_getD, List.getElem?_eq_getElem (by omega)]
      rfl
    exact ev_cast (ev_op (ev_op (ev_var rfl nofun) (ev_op (ev_var rfl nofun) hlen (o_mod hpos)) (o_ixL (by omega) hix)) (ev_op (ev_op (ev_var rfl nofun) hlen (o_div (wide_div hpos (b := 10) (by omega) (by decide) (by decide)))) ev_int (o_mulII (big _).1)) o_addI) (by unfold cellM; rw [if_neg (by simp)])
abbrev R_drawn : List PyData → PyData → Prop := fun ds y => ∃ c k : Int, ds = [.int c, .int k] ∧ y = .int (drawnM c k)
theorem c_drawn (T : BltD mg) (TD : DefT K mg "_law_drawn" st__law_drawn ["_law_cell_here", "_law_k"]) : PureC P w K mg base 1 "_law_drawn" ["_law_cell_here", "_law_k"] R_drawn := by
  refine mkPure TD S__law_drawn fun f cdv A outer s H E hr => ?_
  refine ⟨_, (pss_cons (ps_set (i := 2) S__law_drawn.nd rfl (Or.inl rfl) (pe_op op_mod (pe_op (kAdd (K := K)) (pe_op (kMul (K := K)) (pv 0) pe_int) (pe_op (kMul (K := K)) (pe_op (kAdd (K := K)) (pv 1) pe_int) pe_int)) pe_int))
      (pss_cons (ps_set (i := 2) S__law_drawn.nd rfl (Or.inl rfl) (pe_op op_mod (pe_op (kMul (K := K)) (pv 2) (pv 2)) pe_int))
      (pss_cons (ps_set (i := 2) S__law_drawn.nd rfl (Or.inl rfl) (pe_op (kMul (K := K)) (pe_op (kMul (K := K)) (pe_op (kAdd (K := K)) (pe_op op_mod (pv 2) pe_int) pe_int) (pe_op (kAdd (K := K)) (pe_op op_fdivW (pv 2) pe_int) pe_int)) (pv 2)))
      (pss_one (ps_ret (pe_op op_mod (pv 2) pe_int)))))), ?_⟩
  rintro ds m y hl ⟨c, k, rfl, rfl⟩
  have right : ∀ i j : Int, -(2 ^ 64) < j → j < 2 ^ 64 → IntMulOk i j := fun i j h1 h2 => .of_right (intBits_le_64 h1 h2)
  have nat : ∀ {z : Int} {b : Nat}, 0 ≤ z → z < ((2 ^ b : Nat) : Int) → z.natAbs < 2 ^ b := fun h1 h2 => by omega
  refine sv_seq (es1 := [.d (.int c), .d (.int k), .d (.int (mix0M c k))]) (m1 := m) (sv_set (ev_op (ev_op (ev_op (ev_var rfl nofun) ev_int (o_mulII (right _ _ (by decide) (by decide)))) (ev_op (ev_op (ev_var rfl nofun) ev_int o_addI) ev_int (o_mulII (right _ _ (by decide) (by decide)))) o_addI) ev_int (o_mod (by decide)))) ?_
  have a := mix0_lt c k
  unfold drawnM
  generalize mix0M c k = x at a ⊢
  have ha : x.natAbs < 2 ^ 129 := nat a.1 (by have := a.2; omega)
  refine sv_seq (es1 := [.d (.int c), .d (.int k), .d (.int (mix1M x))]) (m1 := m) (sv_set (ev_op (ev_op (ev_var rfl nofun) (ev_var rfl nofun) (o_mulII (CMulW.ok (wide_mul ha ha (by decide) (by decide) (by decide))))) ev_int (o_mod (by decide)))) ?_
  have b := mix1_lt x
  generalize mix1M x = y at b ⊢
  have hy : y.natAbs < 2 ^ 128 := nat b.1 (by have := b.2; omega)
  have h1 := Int.emod_nonneg y (b := 18446744073709551557) (by decide)
  have h2 := Int.emod_lt_of_pos y (b := 18446744073709551557) (by decide)
  have h3 : (y % 18446744073709551557 + 1).natAbs < 2 ^ 65 := nat (by omega) (by omega)
  have h4 : (y / 18446744073709551557 + 1).natAbs < 2 ^ 129 := by
    have q1 : 0 ≤ y / 18446744073709551557 := Int.ediv_nonneg b.1 (by decide)
    have q2 : y / 18446744073709551557 ≤ y := Int.ediv_le_self _ b.1
    have b2 := b.2
    exact nat (by omega) (by omega)
  refine sv_seq (m1 := m) (sv_set (ev_op (ev_op (ev_op (ev_op (ev_var rfl nofun) ev_int (o_mod (j := 18446744073709551557) (by decide))) ev_int o_addI) (ev_op (ev_op (ev_var rfl nofun) ev_int (o_div (wide_div (j := 18446744073709551557) (by decide) (b := 65) (by decide) (by decide) (by decide)))) ev_int o_addI)
    (o_mulII (CMulW.ok (wide_mul h3 h4 (by decide) (by decide) (by decide))))) (ev_var rfl nofun) (o_mulII (CMulW.ok (wide_mul (wide_lt h3 h4) hy (by decide) (by decide) (by decide)))))) ?_
  exact sv_ret0 (ev_op (ev_var rfl nofun) ev_int (o_mod (j := 340282366920938463463374607431768211507) (by decide)))
theorem c_roll (T : BltD mg) (TD : DefT K mg "_law_roll" st__law_roll ["_law_dice", "_law_many"]) (D__law_drawn : PureC P w K mg base 1 "_law_drawn" ["_law_cell_here", "_law_k"] R_drawn) : DefC P w K mg base CX0 2 "_law_roll" ["_law_dice", "_law_many"] (spD K 2 rollG) := by
  refine mkDef TD S__law_roll rfl (by rintro rs m r m' ⟨j, x, c, n, _, _, _, _, rfl, rfl⟩; exact ⟨List.length_set, rfl⟩) fun f cdv A outer s H E hr => ?_
  refine ⟨_, (pss_cons (ps_if (pt_cmpR op_ge (pe_ix (kIx (K := K)) (pv 0) pe_int (fun _ _ => rfl)) (pe_op op_pow pe_int pe_int) (nomark _)) (pss_cons (ps_set (i := 2) S__law_roll.nd rfl (Or.inl rfl) (pe_op op_mod (pe_ix (kIx (K := K)) (pv 0) pe_int (fun _ _ => rfl)) (pv 1)))
      (pss_cons (ps_asg (pe_op op_fdivW (pe_ix (kIx (K := K)) (pv 0) pe_int (fun _ _ => rfl)) (pv 1)) (pg_sub (pv 0) pe_int set_list))
      (pss_one (ps_ret (pv 2))))) pss_nil)
      (pss_cons (ps_asg (pe_op (kAdd (K := K)) (pe_ix (kIx (K := K)) (pv 0) pe_int (fun _ _ => rfl)) pe_int) (pg_sub (pv 0) pe_int set_list))
      (pss_one (ps_ret (pe_op op_mod (pe_op op_fdivW (pe_def D__law_drawn (hr.mono (by omega)) (by rfl) pass0 (pa_cons (pe_ix (kIx (K := K)) (pv 0) pe_int (fun _ _ => rfl)) (pa_cons (pe_ix (kIx (K := K)) (pv 0) pe_int (fun _ _ => rfl)) pa_nil))) pe_int) (pv 1)))))), ?_⟩
  rintro rs m r m' hl ⟨j, x, c, n, rfl, hm, hn, hn2, rfl, rfl⟩
  have hj := (List.getElem?_eq_some_iff.mp hm).1
  have g1 : ∀ ds : List PyData, (m.set j ds)[j]? = some ds := fun ds => List.getElem?_set_self hj
  have div : CDivW x n := wide_div hn (b := 62) (by omega) (by decide) (by decide)
  have test : ∀ es : List Sl, es[0]? = some (.c j) → EvB K (tTest (tOp (rI0 fun i j => .bl (decide (j ≤ i))) (tOp (rIx K) (tVar 0) (tC (.int 0))) (tOp (rI CPow fun i j => .int (i ^ j.toNat)) (tC (.int 10)) (tC (.int 18))))) es m (decide ((10 : Int) ^ 18 ≤ x)) m := fun es he =>
    eb_test (ev_op (ev_cix (l := 0) he hm rfl rfl) (ev_op ev_int ev_int (o_pow ⟨by decide, by decide, by decide⟩)) o_i0b)
  by_cases hx : x ≥ 10 ^ 18
  · have e1 : rollM x c n = x % n := if_pos hx
    have e2 : diceM x c n = [.int (x / n), .int c] := if_pos hx
    rw [e1, e2]
    refine sv_ifsT (m1 := m) (eb_cast (test _ rfl) (decide_eq_true hx)) rfl ?_
    refine sv_seq (es1 := [.c j, .d (.int n), .d (.int (x % n))]) (m1 := m) (sv_set (ev_op (ev_cix (l := 0) rfl hm rfl rfl) (ev_var rfl nofun) (o_mod hn))) ?_
    refine sv_seq (es1 := [.c j, .d (.int n), .d (.int (x % n))]) (m1 := m.set j [.int (x / n), .int c]) ?_ (sv_ret0 (ev_var rfl nofun))
    exact sv_store (l := 0) (ds := [.int x, .int c]) rfl (ev_op (ev_cix (l := 0) rfl hm rfl rfl) (ev_var rfl nofun) (o_div div)) hm rfl (by simp)
  · have e1 : rollM x c n = drawnM x (c + 1) / 8 % n := if_neg hx
    have e2 : diceM x c n = [.int x, .int (c + 1)] := if_neg hx
    rw [e1, e2]
    refine sv_ifsF (m1 := m) (eb_cast (test _ rfl) (decide_eq_false hx)) ?_
    refine sv_seq (es1 := [.c j, .d (.int n), .no]) (m1 := m.set j [.int x, .int (c + 1)]) (sv_store (l := 1) (ds := [.int x, .int c]) rfl (ev_op (ev_cix (l := 1) rfl hm rfl rfl) ev_int o_addI) hm rfl (by simp)) ?_
    exact sv_ret0 (ev_op (ev_op (ev_pure (arg2 (ev_cix (l := 0) rfl (g1 _) rfl rfl) (ev_cix (l := 1) rfl (g1 _) rfl rfl)) (ds := [.int x, .int (c + 1)]) rfl ⟨x, c + 1, rfl, rfl⟩ rfl) ev_int (o_div (wide_div (j := 8) (by decide) (b := 4) (by decide) (by decide) (by decide)))) (ev_var rfl nofun) (o_mod hn))
theorem c_rounds (T : BltD mg) (TD : DefT K mg "_law_rounds" st__law_rounds ["_law_script", "_law_most"]) (D__law_cell : PureC P w K mg base 1 "_law_cell" ["_law_script", "_law_k"] R_cell) : DefC P w K mg base CX0 2 "_law_rounds" ["_law_script", "_law_most"] (spRounds K) := by
  obtain ⟨f, fd, F, hm, hB⟩ := TD.ex
  refine ⟨f, fd, F.ok S__law_rounds (fun vs H Q E h => by obtain ⟨_, a, ns, k, rfl, _⟩ := h; rfl) (fun cdv A outer s H vs Q E hr h => ?_), hm, F.kp, hB⟩
  obtain ⟨tb, a, ns, k, rfl, hS, hn, hk, q⟩ := h
  refine ⟨_, (pss_one (ps_ret (pe_lc (own := [("_law_k", 2)]) (by rfl) S__law_rounds.nd (pi_range1 (by rfl) T.b_range (pa_cons (pe_callB (call_max2 rfl) (by rfl) T.b_max (by decide +kernel) (pa_cons pe_int (pa_cons (pe_callB (call_min2 rfl) (by rfl) T.b_min (by decide +kernel) (pa_cons (pv 1) (pa_cons (pe_callB (kLen (K := K)) (by rfl) T.b_len (by decide +kernel) (pa_cons (pv 0) pa_nil)) pa_nil))) pa_nil))) pa_nil)) (blkOk_by (N := N__law_rounds) (sc := defScope st__law_rounds) (by decide +kernel)) (fun _ _ _ _ _ => pg_name (i := 2) S__law_rounds.nd rfl (by first | exact Or.inl rfl | exact Or.inr rfl)) (fun _ _ _ _ _ => pts_nil) (fun _ _ _ _ _ => (pe_lst (pa_cons (pe_def D__law_cell (hr.mono (by omega)) (by rfl) pass0 (pa_cons (pv 0) (pa_cons (pv 2) pa_nil))) (pa_cons pe_int pa_nil))))))), ?_⟩
  have hD : Dp K (nt H) (.ref a) (.list (ns.map .int)) := .lst (nt_l hS) (dp_ints ns)
  have e0 : EnvS K (nt H) [] (L2.start N__law_rounds [.ref a, .int k]) [.d (.list (ns.map .int)), .d (.int k), .no] := start_env (rs := [.d (.list (ns.map .int)), .d (.int k)]) (.cons hD (.cons (.int _) .nil))
  unfold tRet tLc iRng1
  refine runA (K := K) (es := [.d (.list (ns.map .int)), .d (.int k), .no]) (rs := [.d (.int (if (if ((ns.length : Nat) : Int) < (k : Int) then ((ns.length : Nat) : Int) else (k : Int)) > 1 then (if ((ns.length : Nat) : Int) < (k : Int) then ((ns.length : Nat) : Int) else (k : Int)) else 1))]) ?ev1 (nt_ex H) tb (nt_T tb) e0 fun vs H1 H01 s1 w1 kv => ?_
  case ev1 =>
    have hlen : EvE K _ [.d (.list (ns.map .int)), .d (.int k), .no] [] (.d (.int ((ns.length : Nat) : Int))) [] := ev_cast (ev_cb (arg1 (ev_var (i := 0) rfl nofun)) (c_len rfl)) (by rw [List.length_map])
    exact arg1 (ev_cb (arg2 ev_int (ev_cb (arg2 (ev_var rfl nofun) hlen) c_min2)) c_max2)
  generalize hj : (if (if ((ns.length : Nat) : Int) < (k : Int) then ((ns.length : Nat) : Int) else (k : Int)) > 1 then (if ((ns.length : Nat) : Int) < (k : Int) then ((ns.length : Nat) : Int) else (k : Int)) else 1) = j at kv
  have j1 : 1 ≤ j ∧ j ≤ 1000 := by
    rw [← hj]
    split <;> split <;> omega
  cases kv with
  | cons kx kt =>
    cases kt
    cases kx
    refine ⟨j, rfl, by omega, by omega, fun D hD1 => ?_⟩
    have eH : Evl.Ex (nt H) H1 := fun b o z => s1.keep b o (nt_some z).1 (by simp) (nt_some z).2
    have hD0 : H D = none := s1.dom D hD1
    refine lc_range (lo := 0) (n := j.toNat) (fun i H2 => ∃ (rs : List Addr) (xs : List Int), rs.length = i ∧ xs.length = i ∧ rs.Nodup ∧ D ∉ rs ∧ (∀ r, r ∈ rs → H r = none) ∧ (Evl.Ex (nt H) H2 ∧ LamX.Tabs Tbs.T H2 ∧ ∀ b, H2 b = none → H b = none) ∧ H2 D = some (.lst (rs.map V.ref)) ∧ ∀ (l : Nat) (r : Addr) (x : Int), rs[l]? = some r → xs[l]? = some x → H2 r = some (.lst [.int x, .int 0]))
      ⟨[], [], rfl, rfl, .nil, by simp, fun r h => absurd h (by simp), ⟨Evl.Ex.mut eH (nt_none hD0), tabs_mut w1.tab (.inl hD1), fun b z => s1.dom b (by
        by_cases hb : b = D
        · rw [hb]; exact hD1
        · rw [upd_ne hb] at z; exact z)⟩, upd_same, fun l r x z => by simp at z⟩ (fun i H2 hi hP => ?_) fun H2 hP => ?_
    · obtain ⟨rs, xs, l1, l2, nd, hDr, hfr, ⟨e2, t2, n2⟩, d2, x2⟩ := hP
      refine ⟨by rfl, ?_⟩
      unfold tYes
      dsimp only
      rw [if_pos rfl]
      have e3 : EnvS K (nt H) [] ((wipe (L2.start N__law_rounds [.ref a, .int k]) [2]).set 2 (some (.int (0 + (i : Int))))) [.d (.list (ns.map .int)), .d (.int k), .d (.int (0 + (i : Int)))] := (e0.wipe [2]).set (i := 2) (r := .d (.int (0 + (i : Int)))) (.int _)
      unfold tLst
      refine runA (K := K) (es := [.d (.list (ns.map .int)), .d (.int k), .d (.int (0 + (i : Int)))]) (rs := [.d (.int (cellM ns (0 + (i : Int)))), .d (.int 0)]) ?ev2 e2 t2 (nt_T tb) e3 fun vs H3 H03 s3 w3 kv => ?_
      case ev2 => exact arg2 (ev_pure (arg2 (ev_var rfl nofun) (ev_var rfl nofun)) (ds := [.list (ns.map .int), .int (0 + (i : Int))]) rfl ⟨ns, _, rfl, hn, by omega, rfl⟩ rfl) ev_int
      cases kv with
      | cons k1 kt =>
        cases kt with
        | cons k2 kt =>
          cases kt
          cases k1
          cases k2
          have e23 : ∀ b o, H2 b = some o → (∀ ps, o ≠ .tbl ps) → H3 b = some o := fun b o z nt => s3.keep b o z (by simp) nt
          refine ⟨by show 2 ≤ sizeLine; decide, fun p hp => ?_⟩
          have hp2 : H2 p = none := s3.dom p hp
          have hpD : p ≠ D := fun z => by rw [z, d2] at hp2; cases hp2
          have hpr : p ∉ rs := fun z => by
            obtain ⟨l, hl, el⟩ := List.getElem_of_mem z
            have := x2 l p (xs[l]'(by omega)) (by rw [List.getElem?_eq_getElem hl, el]) (List.getElem?_eq_getElem (by omega))
            rw [hp2] at this
            cases this
          have hpH : H p = none := n2 p hp2
          refine ⟨rs.map V.ref, by rw [upd_ne (Ne.symm hpD)]; exact e23 _ _ d2 (fun ps z => nomatch z), small1000 (by rw [List.length_map]; omega), rs ++ [p], xs ++ [cellM ns (0 + (i : Int))], by rw [List.length_append, l1]; rfl, by rw [List.length_append, l2]; rfl, ?_, ?_, ?_, ?_, ?_, ?_⟩
          · exact List.nodup_append.mpr ⟨nd, by simp, fun a ha b hb => by
              rcases List.mem_singleton.mp hb with rfl
              rintro rfl
              exact hpr ha⟩
          · intro z
            rcases List.mem_append.mp z with z | z
            · exact hDr z
            · exact hpD (List.mem_singleton.mp z).symm
          · intro r z
            rcases List.mem_append.mp z with z | z
            · exact hfr r z
            · rw [List.mem_singleton.mp z]; exact hpH
          · exact ⟨Evl.Ex.mut (Evl.Ex.mut (fun b o z => e23 b o (e2 b o z) (nt_some z).2) (nt_none hpH)) (nt_none hD0), tabs_mut (tabs_mut w3.tab (.inl hp)) (.inr ⟨_, by rw [upd_ne (Ne.symm hpD)]; exact e23 _ _ d2 (fun ps z => nomatch z)⟩), fun b z => by
              by_cases hb : b = D
              · rw [hb]; exact hD0
              by_cases hc : b = p
              · rw [hc]; exact hpH
              rw [upd_ne hb, upd_ne hc] at z
              exact n2 b (s3.dom b z)⟩
          · rw [upd_same, List.map_append]
            rfl
          · intro l r x z1 z2
            by_cases hl : l < rs.length
            · rw [List.getElem?_append_left hl] at z1
              rw [List.getElem?_append_left (by omega)] at z2
              have hr := List.mem_of_getElem? z1
              rw [upd_ne (fun e : r = D => hDr (e ▸ hr)), upd_ne (fun e : r = p => hpr (e ▸ hr))]
              exact e23 _ _ (x2 l r x z1 z2) (fun ps z => nomatch z)
            · rw [List.getElem?_append_right (by omega)] at z1 z2
              have e0 : l - rs.length = 0 := by
                cases hk : l - rs.length with
                | zero => rfl
                | succ k => rw [hk] at z1; simp at z1
              have e1 : l - xs.length = 0 := by omega
              rw [e0] at z1
              rw [e1] at z2
              cases z1
              cases z2
              rw [upd_ne hpD, upd_same]
    · obtain ⟨rs, xs, l1, l2, nd, hDr, hfr, ⟨e2, t2, n2⟩, d2, x2⟩ := hP
      exact q D rs xs H2 e2 t2 hD0 d2 (by omega) nd hDr hfr x2
end
end K01

set_option Elab.async false
set_option linter.all false
set_option maxRecDepth 100000
set_option maxHeartbeats 4000000
namespace K01
variable [DL.Tbs]
open PySem PySem.Spec PyProof.Rows L2 DL HX L2H
section
variable {P : Program} {w : World} {K : PySem.W.Frag} {mg : Str → Option Value} {base : Heap}
def R_term (K : PySem.W.Frag) (c : Cs) (D : Addr) (y : PyData) : Prop := ∃ k, k < 15 ∧ ErrD K c k D ∧ y = .tuple [.str "error", .str (kinds.getD k "")]
/-- the flags of the class at place k -/
abbrev fl (k i : Nat) : PyData := .bool (i == k)
theorem flags_cat (k : Nat) : ((([fl k 0, fl k 1, fl k 2] ++ [fl k 3, fl k 4, fl k 5]) ++ [fl k 6, fl k 7, fl k 8]) ++ [fl k 9, fl k 10, fl k 11]) ++ [fl k 12, fl k 13, fl k 14] = ((List.range 15).map fun i => (i == k)).map PyData.bool := rfl
theorem flags_sum : ∀ k, k < 15 → preSum (fun i => HX.b2i (((List.range 15).map fun i => (i == k)).getD i false)) ((List.range 15).map fun i => (i == k)).length = 1 := by decide
theorem flags_at : ∀ k, k < 15 → ((List.range 15).map fun i => (i == k))[k]? = some true := by decide
theorem flags_ahead : ∀ k, k < 15 → ∀ l, l < k → ((List.range 15).map fun i => (i == k))[l]? = some false := by decide
theorem kinds_at (k : Nat) (h : k < 15) : (kinds.map PyData.str)[k]? = some (.str (kinds.getD k "")) := by
  rw [List.getElem?_map, List.getD_eq_getElem?_getD, List.getElem?_eq_getElem (show k < kinds.length from h)]
  rfl
theorem c_term (bI : mg "isinstance" = none) (bS : mg "sum" = none) (bN : mg "int" = none) (TD : DefT K mg "_law_term" st__law_term ["_law_e"]) (bV : mg "ValueError" = none) {c : Cs} (hC : CsOk mg c) :
    ∃ f fd, mg "_law_term" = some (.ref f) ∧ PySem.W.keepIn K (.ref f) = true ∧ L2.Binds K fd ["_law_e"] [] ∧ FnP P w K mg base C8.CX0 1 f fd ["_law_e"] (spTerm K (R_term K c)) := by
  obtain ⟨f, fd, F, hm, hB⟩ := TD.ex
  refine ⟨f, fd, hm, F.kp, hB, ?_⟩
  obtain ⟨oc, od, kV, doc, pm, an, cdv, ct, osl, rfl, lk, hcd⟩ := F.ex
  refine fnP lk hcd S__law_term (fun p vs H Q E h => by rw [h.1]; rfl) ?_
  rintro A outer s H vs Q E p hot hp hr ⟨rfl, D, y, H0, ρ, m, ⟨k, hk, eD, rfl⟩, hz, hf, w0, q⟩
  have hc : HotC (cxH C8.CX0 P w K mg base N__law_term "_law_term" (defScope st__law_term) f cdv A outer s H E p) := ⟨p, hot, List.mem_singleton_self _⟩
  have hu : (cxH C8.CX0 P w K mg base N__law_term "_law_term" (defScope st__law_term) f cdv A outer s H E p).A.units + 64 < cLine := by
    have := hr.un
    show (A.deeper _).units + 64 < cLine
    omega
  have isK : CallR (cxH C8.CX0 P w K mg base N__law_term "_law_term" (defScope st__law_term) f cdv A outer s H E p) (.builtin "isinstance") (rIsE K D p.1) := isX (X := cxH C8.CX0 P w K mg base N__law_term "_law_term" (defScope st__law_term) f cdv A outer s H E p) (oe := p.2) eD.exc (List.mem_singleton_self _) hz.zc hf
  refine ⟨_, (pss_cons (ps_set (i := 1) S__law_term.nd rfl (Or.inl rfl) (pe_lst (pa_cons (pe_callB isK (by rfl) bI (by decide +kernel) (pa_cons (pv 0) (pa_cons (pe_glob (v := .ref c.InvalidNumber) (by rfl) hC.InvalidNumber rfl) pa_nil))) (pa_cons (pe_callB isK (by rfl) bI (by decide +kernel) (pa_cons (pv 0) (pa_cons (pe_glob (v := .ref c.InvalidPoint) (by rfl) hC.InvalidPoint rfl) pa_nil))) (pa_cons (pe_callB isK (by rfl) bI (by decide +kernel) (pa_cons (pv 0) (pa_cons (pe_glob (v := .ref c.InvalidShape) (by rfl) hC.InvalidShape rfl) pa_nil))) pa_nil)))))
      (pss_cons (ps_set (i := 1) S__law_term.nd rfl (Or.inl rfl) (pe_op (kAdd (K := K)) (pv 1) (pe_lst (pa_cons (pe_callB isK (by rfl) bI (by decide +kernel) (pa_cons (pv 0) (pa_cons (pe_glob (v := .ref c.InvalidLayer) (by rfl) hC.InvalidLayer rfl) pa_nil))) (pa_cons (pe_callB isK (by rfl) bI (by decide +kernel) (pa_cons (pv 0) (pa_cons (pe_glob (v := .ref c.InvalidDrawing) (by rfl) hC.InvalidDrawing rfl) pa_nil))) (pa_cons (pe_callB isK (by rfl) bI (by decide +kernel) (pa_cons (pv 0) (pa_cons (pe_glob (v := .ref c.InvalidRegion) (by rfl) hC.InvalidRegion rfl) pa_nil))) pa_nil))))))
      (pss_cons (ps_set (i := 1) S__law_term.nd rfl (Or.inl rfl) (pe_op (kAdd (K := K)) (pv 1) (pe_lst (pa_cons (pe_callB isK (by rfl) bI (by decide +kernel) (pa_cons (pv 0) (pa_cons (pe_glob (v := .ref c.InvalidPlan) (by rfl) hC.InvalidPlan rfl) pa_nil))) (pa_cons (pe_callB isK (by rfl) bI (by decide +kernel) (pa_cons (pv 0) (pa_cons (pe_glob (v := .ref c.InvalidIndex) (by rfl) hC.InvalidIndex rfl) pa_nil))) (pa_cons (pe_callB isK (by rfl) bI (by decide +kernel) (pa_cons (pv 0) (pa_cons (pe_glob (v := .ref c.InvalidBox) (by rfl) hC.InvalidBox rfl) pa_nil))) pa_nil))))))
      (pss_cons (ps_set (i := 1) S__law_term.nd rfl (Or.inl rfl) (pe_op (kAdd (K := K)) (pv 1) (pe_lst (pa_cons (pe_callB isK (by rfl) bI (by decide +kernel) (pa_cons (pv 0) (pa_cons (pe_glob (v := .ref c.InvalidMove) (by rfl) hC.InvalidMove rfl) pa_nil))) (pa_cons (pe_callB isK (by rfl) bI (by decide +kernel) (pa_cons (pv 0) (pa_cons (pe_glob (v := .ref c.InvalidText) (by rfl) hC.InvalidText rfl) pa_nil))) (pa_cons (pe_callB isK (by rfl) bI (by decide +kernel) (pa_cons (pv 0) (pa_cons (pe_glob (v := .ref c.OnEdge) (by rfl) hC.OnEdge rfl) pa_nil))) pa_nil))))))
      (pss_cons (ps_set (i := 1) S__law_term.nd rfl (Or.inl rfl) (pe_op (kAdd (K := K)) (pv 1) (pe_lst (pa_cons (pe_callB isK (by rfl) bI (by decide +kernel) (pa_cons (pv 0) (pa_cons (pe_glob (v := .ref c.Blank) (by rfl) hC.Blank rfl) pa_nil))) (pa_cons (pe_callB isK (by rfl) bI (by decide +kernel) (pa_cons (pv 0) (pa_cons (pe_glob (v := .ref c.TooMany) (by rfl) hC.TooMany rfl) pa_nil))) (pa_cons (pe_callB isK (by rfl) bI (by decide +kernel) (pa_cons (pv 0) (pa_cons (pe_glob (v := .ref c.NothingToUndo) (by rfl) hC.NothingToUndo rfl) pa_nil))) pa_nil))))))
      (pss_cons (ps_set (i := 2) S__law_term.nd rfl (Or.inl rfl) (pe_lst (pa_cons pe_str (pa_cons pe_str (pa_cons pe_str (pa_cons pe_str (pa_cons pe_str (pa_cons pe_str pa_nil))))))))
      (pss_cons (ps_set (i := 2) S__law_term.nd rfl (Or.inl rfl) (pe_op (kAdd (K := K)) (pv 2) (pe_lst (pa_cons pe_str (pa_cons pe_str (pa_cons pe_str (pa_cons pe_str (pa_cons pe_str (pa_cons pe_str pa_nil)))))))))
      (pss_cons (ps_set (i := 2) S__law_term.nd rfl (Or.inl rfl) (pe_op (kAdd (K := K)) (pv 2) (pe_lst (pa_cons pe_str (pa_cons pe_str (pa_cons pe_str pa_nil))))))
      (pss_cons (ps_if (PW.pt (pw_or (pt_cmpR (kNe (K := K) hu) (pe_sumints (i := 1) hc (by rfl) (by rfl) (by decide +kernel) (by rfl) bS bN) pe_int (nomark _)) (pw_or1 (pt_not (pt_val (pe_callB isK (by rfl) bI (by decide +kernel) (pa_cons (pv 0) (pa_cons (pe_bltn (v := .ty "ValueError") (u := .type "ValueError") (by rfl) bV (by decide +kernel) rfl) pa_nil)))))))) (pss_one (ps_ret (pe_tup (pa_cons pe_str (pa_cons pe_str pa_nil))))) pss_nil)
      (pss_one (ps_ret (pe_tup (pa_cons pe_str (pa_cons (pe_ix (kIx (K := K)) (pv 2) (kBm (K := K) PySem.F.plainAttrs_list PySem.F.slot_list_index PySem.F.type_list_index mt_index (pv 1) (pa_cons pe_bl pa_nil)) (fun _ _ => rfl)) pa_nil)))))))))))))), ?_⟩
  have isE : ∀ (i : Nat) {C : Addr} (es : List Sl) (m : M), c.all[i]? = some C → es[0]? = some (.v (.ref p.1)) → EvE K (tCB (rIsE K D p.1) (tCons (tVar 0) (tCons (tC (.ref C)) tNil))) es m (.d (fl k i)) m := fun i C es m h h0 =>
    ev_isE (arg2 (ev_var h0 nofun) ev_cls) (fun u h => h) (eD.test i h)
  refine (?_ : Sv K ρ.length _ [.v (.ref p.1), .no, .no, .no] m (.ret (.d (.tuple [.str "error", .str (kinds.getD k "")])) m)) (L2.start N__law_term [.ref p.1]) H H0 ρ (Nat.le_refl _) w0 (start_env (rs := [.v (.ref p.1)]) (.cons rfl .nil)) _ fun v ρ' H' H0' ml s' w2 k2 => ?_
  · refine sv_seq (sv_cell (el_lst (ds := [fl k 0, fl k 1, fl k 2]) (ea_cons (isE 0 _ _ rfl rfl) (ea_cons (isE 1 _ _ rfl rfl) (ea_cons (isE 2 _ _ rfl rfl) ea_nil))) rfl (by simp))) ?_
    refine sv_seq (sv_cell (el_cat rfl (el_lst (ds := [fl k 3, fl k 4, fl k 5]) (ea_cons (isE 3 _ _ rfl rfl) (ea_cons (isE 4 _ _ rfl rfl) (ea_cons (isE 5 _ _ rfl rfl) ea_nil))) rfl (by simp)) last_get (by simp))) ?_
    refine sv_seq (sv_cell (el_cat rfl (el_lst (ds := [fl k 6, fl k 7, fl k 8]) (ea_cons (isE 6 _ _ rfl rfl) (ea_cons (isE 7 _ _ rfl rfl) (ea_cons (isE 8 _ _ rfl rfl) ea_nil))) rfl (by simp)) last_get (by simp))) ?_
    refine sv_seq (sv_cell (el_cat rfl (el_lst (ds := [fl k 9, fl k 10, fl k 11]) (ea_cons (isE 9 _ _ rfl rfl) (ea_cons (isE 10 _ _ rfl rfl) (ea_cons (isE 11 _ _ rfl rfl) ea_nil))) rfl (by simp)) last_get (by simp))) ?_
    refine sv_seq (sv_cell (el_cat rfl (el_lst (ds := [fl k 12, fl k 13, fl k 14]) (ea_cons (isE 12 _ _ rfl rfl) (ea_cons (isE 13 _ _ rfl rfl) (ea_cons (isE 14 _ _ rfl rfl) ea_nil))) rfl (by simp)) last_get (by simp))) ?_
    refine sv_seq (sv_cell (el_lst (ds := [.str "InvalidNumber", .str "InvalidPoint", .str "InvalidShape", .str "InvalidLayer", .str "InvalidDrawing", .str "InvalidRegion"]) (ea_cons ev_str (ea_cons ev_str (ea_cons ev_str (ea_cons ev_str (ea_cons ev_str (ea_cons ev_str (ea_nil))))))) rfl (by simp))) ?_
    refine sv_seq (sv_cell (el_cat rfl (el_lst (ds := [.str "InvalidPlan", .str "InvalidIndex", .str "InvalidBox", .str "InvalidMove", .str "InvalidText", .str "OnEdge"]) (ea_cons ev_str (ea_cons ev_str (ea_cons ev_str (ea_cons ev_str (ea_cons ev_str (ea_cons ev_str (ea_nil))))))) rfl (by simp)) last_get (by simp))) ?_
    refine sv_seq (sv_cell (el_cat rfl (el_lst (ds := [.str "Blank", .str "TooMany", .str "NothingToUndo"]) (ea_cons ev_str (ea_cons ev_str (ea_cons ev_str (ea_nil)))) rfl (by simp)) last_get (by simp))) ?_
    refine sv_ifsF (m1 := _) (eb_orF (eb_cast (eb_test (ev_op (ev_sumC (bs := (List.range 15).map fun i => (i == k)) rfl (up_get (up_get (up_get last_get))) (flags_sum k hk)) ev_int o_neI)) rfl) (eb_notT (eb_val (ev_isE (arg2 (ev_var rfl nofun) ev_ty) (fun u h => h) eD.value)))) ?_
    refine sv_retA (ev_tup (ds := [.str "error", .str (kinds.getD k "")]) (ea_cons ev_str (ea_cons (ev_cixE rfl (ev_indexC (bs := (List.range 15).map fun i => (i == k)) rfl (up_get (up_get (up_get last_get))) (flags_at k hk) (flags_ahead k hk)) (ds := kinds.map PyData.str) last_get rfl (kinds_at k hk)) ea_nil)) rfl (by simp)) ?_
    repeat first | exact List.prefix_rfl | refine List.IsPrefix.trans ?_ (List.prefix_append _ _)
  · obtain ⟨s3, w3⟩ := retBack w0 s' w2
    exact q v H' H0' s3 w3 k2
end
end K01

set_option Elab.async false
set_option linter.all false
set_option maxRecDepth 100000
set_option maxHeartbeats 4000000
namespace K01
variable [DL.Tbs]
open PySem PySem.Spec PyProof.Rows L2 DL HX
section
variable {P : Program} {w : World} {K : PySem.W.Frag} {mg : Str → Option Value} {base : Heap}
/-! ### what is drawn -/
def pairD (far : Int) (d : PyData) : Prop := ∃ a b, d = .tuple [.int a, .int b] ∧ -far ≤ a ∧ a ≤ far ∧ -far ≤ b ∧ b ≤ far
def loopD (far : Int) (v : PyData) : Prop := ∃ ps, v = .tuple ps ∧ 3 ≤ ps.length ∧ ps.length ≤ 5 ∧ ∀ p, p ∈ ps → pairD far p
def PreDF : List Sl → M → Prop := fun rs m => ∃ j far, rs = [.c j, .d (.int far)] ∧ DieAt m j ∧ 0 ≤ far ∧ far ≤ 1000
def PostDF (G : Int → PyData → Prop) : List Sl → M → Sl → M → Prop := fun rs m r m' => ∀ j far, rs = [.c j, .d (.int far)] → ∃ v, r = .d v ∧ G far v ∧ Rolled m j m'
theorem c_loop {k : Nat} (b_range : mg "range" = none) (b_tuple : mg "tuple" = none) (TD : DefT K mg "_law_loop" st__law_loop ["_law_dice", "_law_far"]) (D__law_roll : DefC P w K mg base CX0 k "_law_roll" ["_law_dice", "_law_many"] (spD K 2 rollG)) :
    DefE P w K mg base (k + 1) "_law_loop" ["_law_dice", "_law_far"] PreDF (PostDF loopD) := by
  refine mkDefE TD S__law_loop ⟨_, fun f cdv A outer s H E hr => (pss_cons (ps_set (i := 2) S__law_loop.nd rfl (Or.inl rfl) (pe_lst pa_nil))
      (pss_cons (ps_for PassesOwn.never rfl (pi_range1 (by rfl) b_range (pa_cons (pe_op (kAdd (K := K)) pe_int (pe_def D__law_roll (hr.mono (by omega)) (by rfl) pass0 (pa_cons (pv 0) (pa_cons pe_int pa_nil)))) pa_nil)) (pg_name (i := 3) S__law_loop.nd rfl (Or.inl rfl)) (pss_one (ps_expr (kBm (K := K) PySem.F.plainAttrs_list PySem.F.slot_list_append PySem.F.type_list_append mt_append (pv 2) (pa_cons (pe_tup (pa_cons (pe_op op_sub (pe_def D__law_roll (hr.mono (by omega)) (by rfl) pass0 (pa_cons (pv 0) (pa_cons (pe_op (kAdd (K := K)) (pe_op (kMul (K := K)) pe_int (pv 1)) pe_int) pa_nil))) (pv 1)) (pa_cons (pe_op op_sub (pe_def D__law_roll (hr.mono (by omega)) (by rfl) pass0 (pa_cons (pv 0) (pa_cons (pe_op (kAdd (K := K)) (pe_op (kMul (K := K)) pe_int (pv 1)) pe_int) pa_nil))) (pv 1)) pa_nil))) pa_nil)))))
      (pss_one (ps_ret (pe_callTy (kTup (K := K)) (by rfl) b_tuple (by decide +kernel) (pa_cons (pv 2) pa_nil)))))), ?_⟩
  rintro rs m ⟨j, far, rfl, hd, f0, f1⟩
  have hj := hd.lt
  have hd0 : DieAt (m ++ [[]]) j := by
    obtain ⟨x, c, e⟩ := hd
    exact ⟨x, c, up_get e⟩
  obtain ⟨v, m1, ev1, v0, v1, r1⟩ := ex_roll (K := K) (E := E0) (es := [.c j, .d (.int far), .c m.length, .no]) (i := 0) (te := tC (.int 3)) rfl ev_int hd0 (by omega) (by omega)
  have hi := ei_rng1 (K := K) (arg1 (ev_op (ev_int (i := 3)) ev1 o_addI)) (by omega) (by omega)
  have hm1 : ∃ m0, Rolled m j m0 ∧ m1 = m0 ++ [[]] := by
    obtain ⟨x, c, rfl⟩ := r1
    exact ⟨_, ⟨x, c, rfl⟩, by rw [List.set_append_left _ _ hj]⟩
  obtain ⟨m0, rm0, rfl⟩ := hm1
  refine exR_seq (sv_cell el_new) (exR_for (i := 3) (fun l es mm => ∃ s3 m0 ps, es = [.c j, .d (.int far), .c m.length, s3] ∧ Rolled m j m0 ∧ mm = m0 ++ [ps] ∧ ps.length = l ∧ ∀ p, p ∈ ps → pairD far p) hi ⟨_, m0, [], rfl, rm0, rfl, rfl, by simp⟩ ?_ ?_)
  · rintro l d es mm hd2 ⟨s3, m2, ps, rfl, rm, rfl, hl, hp⟩
    have hl5 : ps.length < 1000 := by
      have := (List.getElem?_eq_some_iff.mp hd2).1
      rw [rangeD_len] at this
      omega
    have dieA : ∀ {m2 : M} {ps : List PyData}, Rolled m j m2 → DieAt (m2 ++ [ps]) j := fun {m2 ps} rm => by
      obtain ⟨x, c, e⟩ := rm.die hj
      exact ⟨x, c, up_get e⟩
    have two : ∀ mm, EvE K (tOp (rAddU K) (tOp (rMulU K) (tC (.int 2)) (tVar 1)) (tC (.int 1))) [.c j, .d (.int far), .c m.length, .d d] mm (.d (.int (2 * far + 1))) mm := fun mm => ev_op (ev_op ev_int (ev_var rfl nofun) (o_mulII (mul_ok (by omega) (by omega)))) ev_int o_addI
    have split : ∀ {m2 m3 : M} {ps : List PyData}, Rolled m j m2 → Rolled (m2 ++ [ps]) j m3 → ∃ m4, Rolled m j m4 ∧ m3 = m4 ++ [ps] := fun {m2 m3 ps} a b => by
      obtain ⟨x, c, rfl⟩ := b
      exact ⟨m2.set j [.int x, .int c], a.trans ⟨x, c, rfl⟩, by rw [List.set_append_left _ _ (by rw [a.len]; exact hj)]⟩
    obtain ⟨a, ma, eva, a0, a1, ra⟩ := ex_roll (K := K) (E := E0) (i := 0) rfl (two _) (dieA rm) (by omega) (by omega)
    obtain ⟨m3, r3, rfl⟩ := split rm ra
    obtain ⟨b, mb, evb, b0, b1, rb⟩ := ex_roll (K := K) (E := E0) (i := 0) rfl (two _) (dieA r3) (by omega) (by omega)
    obtain ⟨m4, r4, rfl⟩ := split r3 rb
    have l4 : m4.length = m.length := r4.len
    have l2 : m2.length = m.length := rm.len
    refine ⟨_, _, .inl (sv_append (j := m.length) (ds := ps) rfl (ev_tup (ea_cons (ev_op eva (ev_var rfl nofun) o_i0) (ea_cons (ev_op evb (ev_var rfl nofun) o_i0) ea_nil)) (ds := [.int (a - far), .int (b - far)]) rfl (by simp)) (by rw [← l4]; exact last_get) ⟨ps, by rw [← l2]; exact last_get⟩ hl5), .d d, m4, ps ++ [.tuple [.int (a - far), .int (b - far)]], rfl, r4, by rw [← l4]; exact last_set, by rw [List.length_append, hl]; rfl, fun p h => ?_⟩
    rcases List.mem_append.mp h with h | h
    · exact hp p h
    · rw [List.mem_singleton.mp h]
      exact ⟨_, _, rfl, by omega, by omega, by omega, by omega⟩
  · rintro es mm ⟨s3, m2, ps, rfl, rm, rfl, hl, hp⟩
    rw [rangeD_len] at hl
    refine ⟨.d (.tuple ps), m2, sv_ret (ml := [ps]) (ev_tupC (j := m.length) rfl (by rw [← rm.len]; exact last_get)), rm.len, rfl, fun j' far' e => ?_⟩
    cases e
    exact ⟨_, rfl, ⟨ps, rfl, by omega, by omega, hp⟩, rm⟩
/-- a call of such a def -/
theorem ex_callE {Pre : List Sl → M → Prop} {Post : List Sl → M → Sl → M → Prop} {g : List Sl → M → Sl → M → Prop} {n : Nat} {ta : TA} {es rs : List Sl} {m m1 : M} {E : XK} (hg : ∀ rs m, Pre rs m → ∃ r m', g rs m r m' ∧ Post rs m r m') (h : EvA K ta es m rs m1) (hp : Pre rs m1) (hn : rs.length = n) :
    ∃ r m', EvE K (tCall (spD K n g) [] E ta) es m r m' ∧ Post rs m1 r m' := by
  obtain ⟨r, m', h1, h2⟩ := hg rs m1 hp
  exact ⟨r, m', ev_call h h1 hn, h2⟩
def ruleD (v : PyData) : Prop := v = .str "odd" ∨ v = .str "turns"
def shapeD (far : Int) (v : PyData) : Prop := ∃ r ls, v = .tuple [r, .tuple ls] ∧ ruleD r ∧ 1 ≤ ls.length ∧ ls.length ≤ 2 ∧ ∀ l, l ∈ ls → loopD far l
theorem c_shape {k : Nat} (b_range : mg "range" = none) (b_tuple : mg "tuple" = none) (TD : DefT K mg "_law_shape" st__law_shape ["_law_dice", "_law_far"]) (D__law_roll : DefC P w K mg base CX0 k "_law_roll" ["_law_dice", "_law_many"] (spD K 2 rollG))
    (DE : DefE P w K mg base k "_law_loop" ["_law_dice", "_law_far"] PreDF (PostDF loopD)) : DefE P w K mg base (k + 1) "_law_shape" ["_law_dice", "_law_far"] PreDF (PostDF shapeD) := by
  obtain ⟨gl, hgl, D__law_loop⟩ := DE
  refine mkDefE TD S__law_shape ⟨_, fun f cdv A outer s H E hr => (pss_cons (ps_set (i := 2) S__law_shape.nd rfl (Or.inl rfl) (pe_callTy (kTup (K := K)) (by rfl) b_tuple (by decide +kernel) (pa_cons (pe_lc (own := [("_law_turn", 3)]) (by rfl) S__law_shape.nd (pi_range1 (by rfl) b_range (pa_cons (pe_op (kAdd (K := K)) pe_int (pe_op op_fdivW (pe_def D__law_roll (hr.mono (by omega)) (by rfl) pass0 (pa_cons (pv 0) (pa_cons pe_int pa_nil))) pe_int)) pa_nil)) (blkOk_by (N := N__law_shape) (sc := defScope st__law_shape) (by decide +kernel)) (fun _ _ _ _ _ => pg_name (i := 3) S__law_shape.nd rfl (by first | exact Or.inl rfl | exact Or.inr rfl)) (fun _ _ _ _ _ => pts_nil) (fun _ _ _ _ _ => (pe_def D__law_loop (hr.mono (by omega)) (by rfl) pass0 (pa_cons (pv 0) (pa_cons (pv 1) pa_nil))))) pa_nil)))
      (pss_one (ps_ret (pe_tup (pa_cons (pe_ix (kIx (K := K)) (pe_lst (pa_cons pe_str (pa_cons pe_str pa_nil))) (pe_def D__law_roll (hr.mono (by omega)) (by rfl) pass0 (pa_cons (pv 0) (pa_cons pe_int pa_nil))) (fun _ _ => rfl)) (pa_cons (pv 2) pa_nil)))))), ?_⟩
  rintro rs m ⟨j, far, rfl, hd, f0, f1⟩
  have hj := hd.lt
  obtain ⟨v, m1, ev1, v0, v1, r1⟩ := ex_roll (K := K) (E := E0) (es := [.c j, .d (.int far), .no, .no]) (i := 0) (te := tC (.int 4)) rfl ev_int hd (by omega) (by omega)
  have hi := ei_rng1 (K := K) (arg1 (ev_op (ev_int (i := 1)) (ev_op ev1 (ev_int (i := 3)) (o_div (wide_div (j := 3) (by decide) (b := 3) (by omega) (by decide) (by decide)))) o_addI)) (by omega) (by omega)
  obtain ⟨ls, m2, hL, nL, gL, jL⟩ := exLc (K := K) (i := 3) (vs := [3]) (esw := wipeS [.c j, .d (.int far), .no, .no] [3]) (te := tCall (spD K 2 gl) [] E0 (tCons (tVar 0) (tCons (tVar 1) tNil))) (J := Rolled m j) (G := loopD far) (by simp) (rangeD 0 (1 + v / 3).toNat) m1 r1 (by
    intro d mm hd2 rm
    obtain ⟨r, m', e1, hp⟩ := ex_callE (K := K) (E := E0) (n := 2) hgl (ta := tCons (tVar 0) (tCons (tVar 1) tNil)) (es := [.c j, .d (.int far), .no, .d d]) (m := mm) (arg2 (ev_var rfl nofun) (ev_var rfl nofun)) ⟨j, far, rfl, rm.die hj, f0, f1⟩ rfl
    obtain ⟨x, rfl, gx, rx⟩ := hp j far rfl
    exact ⟨x, m', e1, gx, rm.trans rx⟩)
  rw [rangeD_len] at nL
  obtain ⟨u, m3, ev3, u0, u1, r3⟩ := ex_roll (K := K) (E := E0) (es := [.c j, .d (.int far), .d (.tuple ls), .no]) (i := 0) (te := tC (.int 2)) rfl ev_int (jL.die hj) (by omega) (by omega)
  refine exR_seq (sv_set (ev_cb (arg1 (el_d (el_lc hi hL (by rw [rangeD_len]; omega)))) c_tupL)) ?_
  have hr : ∃ r, [PyData.str "odd", .str "turns"][u.toNat]? = some r ∧ ruleD r := by
    have : u = 0 ∨ u = 1 := by omega
    rcases this with rfl | rfl
    · exact ⟨_, rfl, .inl rfl⟩
    · exact ⟨_, rfl, .inr rfl⟩
  obtain ⟨r, hr1, hr2⟩ := hr
  refine ⟨.d (.tuple [r, .tuple ls]), m3, sv_ret0 (ev_tup (ea_cons (ev_op (ev_lst (ea_cons ev_str (ea_cons ev_str ea_nil)) (ds := [.str "odd", .str "turns"]) rfl (by decide)) ev3 (o_ixL (by omega) hr1)) (ea_cons (ev_var rfl nofun) ea_nil)) rfl (by simp)), (jL.trans r3).len, rfl, fun j' far' e => ?_⟩
  cases e
  exact ⟨_, rfl, ⟨r, ls, rfl, hr2, by omega, by omega, gL⟩, jL.trans r3⟩
def PreD : List Sl → M → Prop := fun rs m => ∃ j, rs = [.c j] ∧ DieAt m j
def PostD (G : PyData → Prop) : List Sl → M → Sl → M → Prop := fun rs m r m' => ∀ j, rs = [.c j] → ∃ v, r = .d v ∧ G v ∧ Rolled m j m'
def opacityD (v : PyData) : Prop := ∃ a b, v = .tuple [.int a, .int b] ∧ 1 ≤ a ∧ a ≤ b ∧ b ≤ 4
theorem c_opacity {k : Nat} (TD : DefT K mg "_law_opacity" st__law_opacity ["_law_dice"]) (D__law_roll : DefC P w K mg base CX0 k "_law_roll" ["_law_dice", "_law_many"] (spD K 2 rollG)) :
    DefE P w K mg base (k + 1) "_law_opacity" ["_law_dice"] PreD (PostD opacityD) := by
  refine mkDefE TD S__law_opacity ⟨_, fun f cdv A outer s H E hr => have hu := hr.units; (pss_cons (ps_set (i := 1) S__law_opacity.nd rfl (Or.inl rfl) (pe_op (kAdd (K := K)) pe_int (pe_def D__law_roll (hr.mono (by omega)) (by rfl) pass0 (pa_cons (pv 0) (pa_cons pe_int pa_nil)))))
      (pss_one (ps_ret (pe_ifExp (pt_cmpR (kEq (K := K) hu) (pe_def D__law_roll (hr.mono (by omega)) (by rfl) pass0 (pa_cons (pv 0) (pa_cons pe_int pa_nil))) pe_int (nomark _)) (pe_tup (pa_cons pe_int (pa_cons pe_int pa_nil))) (pe_tup (pa_cons (pe_op (kAdd (K := K)) pe_int (pe_def D__law_roll (hr.mono (by omega)) (by rfl) pass0 (pa_cons (pv 0) (pa_cons (pv 1) pa_nil)))) (pa_cons (pv 1) pa_nil))))))), ?_⟩
  rintro rs m ⟨j, rfl, hd⟩
  have hj := hd.lt
  obtain ⟨v, m1, ev1, v0, v1, r1⟩ := ex_roll (K := K) (E := E0) (es := [.c j, .no]) (i := 0) (te := tC (.int 4)) rfl ev_int hd (by omega) (by omega)
  obtain ⟨u, m2, ev2, u0, u1, r2⟩ := ex_roll (K := K) (E := E0) (es := [.c j, .d (.int (1 + v))]) (i := 0) (te := tC (.int 2)) rfl ev_int (r1.die hj) (by omega) (by omega)
  refine exR_seq (sv_set (ev_op ev_int ev1 o_addI)) ?_
  by_cases h : u = 0
  · refine ⟨.d (.tuple [.int 1, .int 1]), m2, sv_ret0 (ev_ifT (eb_cast (eb_test (ev_op ev2 ev_int o_eqI)) (by simp [h])) (ev_tup (ea_cons ev_int (ea_cons ev_int ea_nil)) rfl (by simp))), (r1.trans r2).len, rfl, fun j' e => ?_⟩
    cases e
    exact ⟨_, rfl, ⟨1, 1, rfl, by omega, by omega, by omega⟩, r1.trans r2⟩
  · obtain ⟨t, m3, ev3, t0, t1, r3⟩ := ex_roll (K := K) (E := E0) (es := [.c j, .d (.int (1 + v))]) (i := 0) (te := tVar 1) rfl (ev_var rfl nofun) ((r1.trans r2).die hj) (by omega) (by omega)
    refine ⟨.d (.tuple [.int (1 + t), .int (1 + v)]), m3, sv_ret0 (ev_ifF (eb_cast (eb_test (ev_op ev2 ev_int o_eqI)) (by simp [h])) (ev_tup (ea_cons (ev_op ev_int ev3 o_addI) (ea_cons (ev_var rfl nofun) ea_nil)) rfl (by simp))), ((r1.trans r2).trans r3).len, rfl, fun j' e => ?_⟩
    cases e
    exact ⟨_, rfl, ⟨1 + t, 1 + v, rfl, by omega, by omega, by omega⟩, (r1.trans r2).trans r3⟩
def turnsL : List (List PyData) := [[.int 1, .int 0, .int 0, .int 1], [.int 0, .int 1, .int (-1), .int 0], [.int (-1), .int 0, .int 0, .int 1], [.int 1, .int 1, .int 0, .int 1], [.int 2, .int 0, .int 0, .int 1], [.int 1, .int 0, .int 1, .int (-1)], [.int 1, .int (-1), .int 1, .int 1]]
def matrixD (v : PyData) : Prop := ∃ t a b, v = .tuple (t ++ [.int a, .int b]) ∧ t ∈ turnsL ∧ -3 ≤ a ∧ a ≤ 3 ∧ -3 ≤ b ∧ b ≤ 3
theorem turns_len : ∀ t, t ∈ turnsL → t.length = 4 := by
  intro t h
  simp only [turnsL, List.mem_cons, List.not_mem_nil, or_false] at h
  rcases h with h | h | h | h | h | h | h <;> rw [h] <;> rfl
theorem c_matrix {k : Nat} (TD : DefT K mg "_law_matrix" st__law_matrix ["_law_dice"]) (D__law_roll : DefC P w K mg base CX0 k "_law_roll" ["_law_dice", "_law_many"] (spD K 2 rollG)) :
    DefE P w K mg base (k + 1) "_law_matrix" ["_law_dice"] PreD (PostD matrixD) := by
  refine mkDefE TD S__law_matrix ⟨_, fun f cdv A outer s H E hr => have hu := hr.units; (pss_cons (ps_set (i := 1) S__law_matrix.nd rfl (Or.inl rfl) (pe_lst (pa_cons (pe_tup (pa_cons pe_int (pa_cons pe_int (pa_cons pe_int (pa_cons pe_int pa_nil))))) (pa_cons (pe_tup (pa_cons pe_int (pa_cons pe_int (pa_cons (pe_un un_neg pe_int) (pa_cons pe_int pa_nil))))) (pa_cons (pe_tup (pa_cons (pe_un un_neg pe_int) (pa_cons pe_int (pa_cons pe_int (pa_cons pe_int pa_nil))))) (pa_cons (pe_tup (pa_cons pe_int (pa_cons pe_int (pa_cons pe_int (pa_cons pe_int pa_nil))))) (pa_cons (pe_tup (pa_cons pe_int (pa_cons pe_int (pa_cons pe_int (pa_cons pe_int pa_nil))))) (pa_cons (pe_tup (pa_cons pe_int (pa_cons pe_int (pa_cons pe_int (pa_cons (pe_un un_neg pe_int) pa_nil))))) (pa_cons (pe_tup (pa_cons pe_int (pa_cons (pe_un un_neg pe_int) (pa_cons pe_int (pa_cons pe_int pa_nil))))) pa_nil)))))))))
      (pss_one (ps_ret (pe_op (kAdd (K := K)) (pe_ix (kIx (K := K)) (pv 1) (pe_def D__law_roll (hr.mono (by omega)) (by rfl) pass0 (pa_cons (pv 0) (pa_cons pe_int pa_nil))) (fun _ _ => rfl)) (pe_tup (pa_cons (pe_op op_sub (pe_def D__law_roll (hr.mono (by omega)) (by rfl) pass0 (pa_cons (pv 0) (pa_cons pe_int pa_nil))) pe_int) (pa_cons (pe_op op_sub (pe_def D__law_roll (hr.mono (by omega)) (by rfl) pass0 (pa_cons (pv 0) (pa_cons pe_int pa_nil))) pe_int) pa_nil))))))), ?_⟩
  rintro rs m ⟨j, rfl, hd⟩
  have hj := hd.lt
  obtain ⟨v, m1, ev1, v0, v1, r1⟩ := ex_roll (K := K) (E := E0) (es := [.c j, .d (.list (turnsL.map .tuple))]) (i := 0) (te := tC (.int 7)) rfl ev_int hd (by omega) (by omega)
  obtain ⟨a, m2, ev2, a0, a1, r2⟩ := ex_roll (K := K) (E := E0) (es := [.c j, .d (.list (turnsL.map .tuple))]) (i := 0) (te := tC (.int 7)) rfl ev_int (r1.die hj) (by omega) (by omega)
  obtain ⟨b, m3, ev3, b0, b1, r3⟩ := ex_roll (K := K) (E := E0) (es := [.c j, .d (.list (turnsL.map .tuple))]) (i := 0) (te := tC (.int 7)) rfl ev_int ((r1.trans r2).die hj) (by omega) (by omega)
  have neg : ∀ (x : Int) (es : List Sl) (m : M), EvE K (tUn (rU fun i => .int (-i)) (tC (.int x))) es m (.d (.int (-x))) m := fun x es m => ev_un ev_int o_neg
  refine exR_seq (sv_set (r := .d (.list (turnsL.map .tuple))) (m1 := m) (ev_lst (ds := turnsL.map .tuple)
    (ea_cons (ev_tup (ea_cons ev_int (ea_cons ev_int (ea_cons ev_int (ea_cons ev_int ea_nil)))) rfl (by simp))
    (ea_cons (ev_tup (ea_cons ev_int (ea_cons ev_int (ea_cons (neg 1 _ _) (ea_cons ev_int ea_nil)))) rfl (by simp))
    (ea_cons (ev_tup (ea_cons (neg 1 _ _) (ea_cons ev_int (ea_cons ev_int (ea_cons ev_int ea_nil)))) rfl (by simp))
    (ea_cons (ev_tup (ea_cons ev_int (ea_cons ev_int (ea_cons ev_int (ea_cons ev_int ea_nil)))) rfl (by simp))
    (ea_cons (ev_tup (ea_cons ev_int (ea_cons ev_int (ea_cons ev_int (ea_cons ev_int ea_nil)))) rfl (by simp))
    (ea_cons (ev_tup (ea_cons ev_int (ea_cons ev_int (ea_cons ev_int (ea_cons (neg 1 _ _) ea_nil)))) rfl (by simp))
    (ea_cons (ev_tup (ea_cons ev_int (ea_cons (neg 1 _ _) (ea_cons ev_int (ea_cons ev_int ea_nil)))) rfl (by simp)) ea_nil))))))) rfl (by decide))) ?_
  have hv : v.toNat < turnsL.length := by
    show v.toNat < 7
    omega
  have ht : turnsL[v.toNat] ∈ turnsL := List.getElem_mem hv
  have hg : (turnsL.map PyData.tuple)[v.toNat]? = some (.tuple turnsL[v.toNat]) := by rw [List.getElem?_map, List.getElem?_eq_getElem hv]; rfl
  refine ⟨.d (.tuple (turnsL[v.toNat] ++ [.int (a - 3), .int (b - 3)])), m3, sv_ret0 (ev_op (ev_op (ev_var rfl nofun) ev1 (o_ixL (by omega) hg)) (ev_tup (ea_cons (ev_op ev2 ev_int o_i0) (ea_cons (ev_op ev3 ev_int o_i0) ea_nil)) rfl (by simp)) (o_addT (by rw [turns_len _ ht]; simp))), ((r1.trans r2).trans r3).len, rfl, fun j' e => ?_⟩
  cases e
  exact ⟨_, rfl, ⟨_, _, _, rfl, ht, by omega, by omega, by omega, by omega⟩, (r1.trans r2).trans r3⟩

/-! ### layers -/
def colourD (v : PyData) : Prop := ∃ a b c, v = .tuple [.int a, .int b, .int c] ∧ 0 ≤ a ∧ a ≤ 2 ∧ 0 ≤ b ∧ b ≤ 1 ∧ 0 ≤ c ∧ c ≤ 9
def plainD (far : Int) (v : PyData) : Prop := (∃ s o, v = .tuple [.str "rub", s, o] ∧ shapeD far s ∧ opacityD o) ∨ ∃ s c o, v = .tuple [.str "fill", s, c, o] ∧ shapeD far s ∧ colourD c ∧ opacityD o
def layerD (far : Int) : Nat → PyData → Prop
  | 0, v => plainD far v
  | n + 1, v => plainD far v ∨ ∃ ls o c mt, v = .tuple [.str "group", .tuple ls, o, c, mt] ∧ ls.length ≤ 2 ∧ (∀ l, l ∈ ls → layerD far n l) ∧ opacityD o ∧ (c = .none ∨ shapeD far c) ∧ matrixD mt
theorem layerD_plain {far : Int} {n : Nat} {v : PyData} (h : plainD far v) : layerD far n v := by
  cases n with
  | zero => exact h
  | succ n => exact .inl h
def PreL (n : Nat) : List Sl → M → Prop := fun rs m => ∃ j far, rs = [.c j, .d (.int far), .d (.int (n : Nat))] ∧ DieAt m j ∧ 0 ≤ far ∧ far ≤ 1000
def PostL (n : Nat) : List Sl → M → Sl → M → Prop := fun rs m r m' => ∀ j far, rs = [.c j, .d (.int far), .d (.int (n : Nat))] → ∃ v, r = .d v ∧ layerD far n v ∧ Rolled m j m'
end
end K01

set_option Elab.async false
set_option linter.all false
set_option maxRecDepth 100000
set_option maxHeartbeats 4000000
namespace K01
variable [DL.Tbs]
open PySem PySem.Spec PyProof.Rows L2 DL HX
section
variable {P : Program} {w : World} {K : PySem.W.Frag} {mg : Str → Option Value} {base : Heap}
theorem c_layer {k n : Nat} (hn : n ≤ 10) (b_range : mg "range" = none) (b_tuple : mg "tuple" = none) (TD : DefT K mg "_law_layer" st__law_layer ["_law_dice", "_law_far", "_law_deep"]) (D__law_roll : DefC P w K mg base CX0 k "_law_roll" ["_law_dice", "_law_many"] (spD K 2 rollG))
    (DS : DefE P w K mg base k "_law_shape" ["_law_dice", "_law_far"] PreDF (PostDF shapeD)) (DO : DefE P w K mg base k "_law_opacity" ["_law_dice"] PreD (PostD opacityD)) (DM : DefE P w K mg base k "_law_matrix" ["_law_dice"] PreD (PostD matrixD))
    {gL : List Sl → M → Sl → M → Prop} (hgL : ∀ i, n = i + 1 → ∀ rs m, PreL i rs m → ∃ r m', gL rs m r m' ∧ PostL i rs m r m') (D__law_layer : DefC P w K mg base CX0 k "_law_layer" ["_law_dice", "_law_far", "_law_deep"] (spD K 3 gL)) :
    DefE P w K mg base (k + 1) "_law_layer" ["_law_dice", "_law_far", "_law_deep"] (PreL n) (PostL n) := by
  obtain ⟨gs, hgs, D__law_shape⟩ := DS
  obtain ⟨go, hgo, D__law_opacity⟩ := DO
  obtain ⟨gm, hgm, D__law_matrix⟩ := DM
  refine mkDefE TD S__law_layer ⟨_, fun f cdv A outer s H E hr => have hu := hr.units; (pss_cons (ps_set (i := 3) S__law_layer.nd rfl (Or.inl rfl) (pe_def D__law_roll (hr.mono (by omega)) (by rfl) pass0 (pa_cons (pv 0) (pa_cons pe_int pa_nil))))
      (pss_cons (ps_if (pt_cmpR (kEq (K := K) hu) (pv 3) pe_int (nomark _)) (pss_one (ps_ret (pe_tup (pa_cons pe_str (pa_cons (pe_def D__law_shape (hr.mono (by omega)) (by rfl) pass0 (pa_cons (pv 0) (pa_cons (pv 1) pa_nil))) (pa_cons (pe_def D__law_opacity (hr.mono (by omega)) (by rfl) pass0 (pa_cons (pv 0) pa_nil)) pa_nil)))))) pss_nil)
      (pss_cons (ps_if (PW.pt (pw_and (pt_cmpR (kEq (K := K) hu) (pv 3) pe_int (nomark _)) (pw_and1 (pt_cmpR op_gt (pv 2) pe_int (nomark _))))) (pss_cons (ps_set (i := 4) S__law_layer.nd rfl (Or.inl rfl) (pe_callTy (kTup (K := K)) (by rfl) b_tuple (by decide +kernel) (pa_cons (pe_lc (own := [("_law_turn", 7)]) (by rfl) S__law_layer.nd (pi_range1 (by rfl) b_range (pa_cons (pe_def D__law_roll (hr.mono (by omega)) (by rfl) pass0 (pa_cons (pv 0) (pa_cons pe_int pa_nil))) pa_nil)) (blkOk_by (N := N__law_layer) (sc := defScope st__law_layer) (by decide +kernel)) (fun _ _ _ _ _ => pg_name (i := 7) S__law_layer.nd rfl (by first | exact Or.inl rfl | exact Or.inr rfl)) (fun _ _ _ _ _ => pts_nil) (fun _ _ _ _ _ => (pe_def D__law_layer (hr.mono (by omega)) (by rfl) pass0 (pa_cons (pv 0) (pa_cons (pv 1) (pa_cons (pe_op op_sub (pv 2) pe_int) pa_nil)))))) pa_nil)))
      (pss_cons (ps_set (i := 5) S__law_layer.nd rfl (Or.inl rfl) (pe_ifExp (pt_cmpR (kEq (K := K) hu) (pe_def D__law_roll (hr.mono (by omega)) (by rfl) pass0 (pa_cons (pv 0) (pa_cons pe_int pa_nil))) pe_int (nomark _)) (pe_def D__law_shape (hr.mono (by omega)) (by rfl) pass0 (pa_cons (pv 0) (pa_cons (pv 1) pa_nil))) pe_non))
      (pss_one (ps_ret (pe_tup (pa_cons pe_str (pa_cons (pv 4) (pa_cons (pe_def D__law_opacity (hr.mono (by omega)) (by rfl) pass0 (pa_cons (pv 0) pa_nil)) (pa_cons (pv 5) (pa_cons (pe_def D__law_matrix (hr.mono (by omega)) (by rfl) pass0 (pa_cons (pv 0) pa_nil)) pa_nil)))))))))) pss_nil)
      (pss_cons (ps_set (i := 6) S__law_layer.nd rfl (Or.inl rfl) (pe_tup (pa_cons (pe_def D__law_roll (hr.mono (by omega)) (by rfl) pass0 (pa_cons (pv 0) (pa_cons pe_int pa_nil))) (pa_cons (pe_def D__law_roll (hr.mono (by omega)) (by rfl) pass0 (pa_cons (pv 0) (pa_cons pe_int pa_nil))) (pa_cons (pe_op (kMul (K := K)) (pe_def D__law_roll (hr.mono (by omega)) (by rfl) pass0 (pa_cons (pv 0) (pa_cons pe_int pa_nil))) pe_int) pa_nil)))))
      (pss_one (ps_ret (pe_tup (pa_cons pe_str (pa_cons (pe_def D__law_shape (hr.mono (by omega)) (by rfl) pass0 (pa_cons (pv 0) (pa_cons (pv 1) pa_nil))) (pa_cons (pv 6) (pa_cons (pe_def D__law_opacity (hr.mono (by omega)) (by rfl) pass0 (pa_cons (pv 0) pa_nil)) pa_nil))))))))))), ?_⟩
  rintro rs m ⟨j, far, rfl, hd, f0, f1⟩
  have hj := hd.lt
  have shape : ∀ (es : List Sl) (mm : M), es[0]? = some (.c j) → es[1]? = some (.d (.int far)) → Rolled m j mm → ∃ v m', EvE K (tCall (spD K 2 gs) [] E0 (tCons (tVar 0) (tCons (tVar 1) tNil))) es mm (.d v) m' ∧ shapeD far v ∧ Rolled m j m' := fun es mm h0 h1 rm => by
    obtain ⟨r, m', e1, hp⟩ := ex_callE (K := K) (E := E0) (n := 2) hgs (ta := tCons (tVar 0) (tCons (tVar 1) tNil)) (es := es) (m := mm) (arg2 (ev_var h0 nofun) (ev_var h1 nofun)) ⟨j, far, rfl, rm.die hj, f0, f1⟩ rfl
    obtain ⟨x, rfl, gx, rx⟩ := hp j far rfl
    exact ⟨x, m', e1, gx, rm.trans rx⟩
  have opac : ∀ (es : List Sl) (mm : M), es[0]? = some (.c j) → Rolled m j mm → ∃ v m', EvE K (tCall (spD K 1 go) [] E0 (tCons (tVar 0) tNil)) es mm (.d v) m' ∧ opacityD v ∧ Rolled m j m' := fun es mm h0 rm => by
    obtain ⟨r, m', e1, hp⟩ := ex_callE (K := K) (E := E0) (n := 1) hgo (ta := tCons (tVar 0) tNil) (es := es) (m := mm) (arg1 (ev_var h0 nofun)) ⟨j, rfl, rm.die hj⟩ rfl
    obtain ⟨x, rfl, gx, rx⟩ := hp j rfl
    exact ⟨x, m', e1, gx, rm.trans rx⟩
  have matr : ∀ (es : List Sl) (mm : M), es[0]? = some (.c j) → Rolled m j mm → ∃ v m', EvE K (tCall (spD K 1 gm) [] E0 (tCons (tVar 0) tNil)) es mm (.d v) m' ∧ matrixD v ∧ Rolled m j m' := fun es mm h0 rm => by
    obtain ⟨r, m', e1, hp⟩ := ex_callE (K := K) (E := E0) (n := 1) hgm (ta := tCons (tVar 0) tNil) (es := es) (m := mm) (arg1 (ev_var h0 nofun)) ⟨j, rfl, rm.die hj⟩ rfl
    obtain ⟨x, rfl, gx, rx⟩ := hp j rfl
    exact ⟨x, m', e1, gx, rm.trans rx⟩
  have roll : ∀ (es : List Sl) (mm : M) (q : Int), es[0]? = some (.c j) → 0 < q → q < 1000 → Rolled m j mm → ∃ v m', EvE K (tCall (spD K 2 rollG) [] E0 (tCons (tVar 0) (tCons (tC (.int q)) tNil))) es mm (.d (.int v)) m' ∧ 0 ≤ v ∧ v < q ∧ Rolled m j m' := fun es mm q h0 q0 q1 rm => by
    obtain ⟨v, m', e1, a, b, r⟩ := ex_roll (K := K) (E := E0) (te := tC (.int q)) h0 ev_int (rm.die hj) q0 (by omega)
    exact ⟨v, m', e1, a, b, rm.trans r⟩
  have fin : ∀ {m' : M} {v : PyData}, Rolled m j m' → layerD far n v → m'.length = m.length ∧ (Sl.d v).plain = true ∧ PostL n [.c j, .d (.int far), .d (.int (n : Nat))] m (.d v) m' := fun {m' v} r h => ⟨r.len, rfl, fun j' far' e => by
    cases e
    exact ⟨v, rfl, h, r⟩⟩
  obtain ⟨pick, m1, ev1, p0, p1, r1⟩ := roll [.c j, .d (.int far), .d (.int (n : Nat)), .no, .no, .no, .no, .no] m 6 rfl (by omega) (by omega) (Rolled.refl hd)
  refine exR_seq (sv_set ev1) ?_
  by_cases hp0 : pick = 0
  · obtain ⟨s, m2, e2, g2, r2⟩ := shape [.c j, .d (.int far), .d (.int (n : Nat)), .d (.int pick), .no, .no, .no, .no] m1 rfl rfl r1
    obtain ⟨o, m3, e3, g3, r3⟩ := opac [.c j, .d (.int far), .d (.int (n : Nat)), .d (.int pick), .no, .no, .no, .no] m2 rfl r2
    refine ⟨.d (.tuple [.str "rub", s, o]), m3, sv_ifsT (m1 := m1) (eb_cast (eb_test (ev_op (ev_var rfl nofun) ev_int o_eqI)) (by simp [hp0])) rfl (sv_ret0 (ev_tup (ea_cons ev_str (ea_cons e2 (ea_cons e3 ea_nil))) rfl (by simp))), fin r3 (layerD_plain (.inl ⟨s, o, rfl, g2, g3⟩))⟩
  refine exR_ifF (m1 := m1) (eb_cast (eb_test (ev_op (ev_var rfl nofun) ev_int o_eqI)) (by simp [hp0])) (exR_seq sv_next ?_)
  by_cases hg : pick = 1 ∧ 0 < n
  · obtain ⟨rfl, hn0⟩ := hg
    obtain ⟨i, rfl⟩ : ∃ i, n = i + 1 := ⟨n - 1, by omega⟩
    refine exR_ifT (m1 := m1) (eb_cast (eb_and (a := true) (b := true) (eb_cast (eb_test (ev_op (ev_var rfl nofun) ev_int o_eqI)) rfl) (fun _ => eb_cast (eb_test (ev_op (ev_var rfl nofun) ev_int o_i0b)) (by simp))) rfl) ?_
    obtain ⟨v, m2, e2, v0, v1, r2⟩ := roll [.c j, .d (.int far), .d (.int ((i + 1 : Nat) : Int)), .d (.int 1), .no, .no, .no, .no] m1 3 rfl (by omega) (by omega) r1
    have hi := ei_rng1 (K := K) (arg1 e2) (by omega) (by omega)
    obtain ⟨ls, m3, hL, nL, gLs, r3⟩ := exLc (K := K) (i := 7) (vs := [7]) (esw := wipeS [.c j, .d (.int far), .d (.int ((i + 1 : Nat) : Int)), .d (.int 1), .no, .no, .no, .no] [7])
      (te := tCall (spD K 3 gL) [] E0 (tCons (tVar 0) (tCons (tVar 1) (tCons (tOp (rI0 fun i j => .int (i - j)) (tVar 2) (tC (.int 1))) tNil)))) (J := Rolled m j) (G := layerD far i) (by simp) (rangeD 0 v.toNat) m2 r2 (by
      intro d mm hd2 rm
      obtain ⟨r, m', e1, hp⟩ := ex_callE (K := K) (E := E0) (n := 3) (hgL i rfl) (ta := tCons (tVar 0) (tCons (tVar 1) (tCons (tOp (rI0 fun i j => .int (i - j)) (tVar 2) (tC (.int 1))) tNil))) (es := [.c j, .d (.int far), .d (.int ((i + 1 : Nat) : Int)), .d (.int 1), .no, .no, .no, .d d]) (m := mm)
        (rs := [.c j, .d (.int far), .d (.int (i : Nat))]) (ea_cons (ev_var rfl nofun) (arg2 (ev_var rfl nofun) (ev_cast (ev_op (ev_var rfl nofun) ev_int o_i0) (by congr 2; omega)))) ⟨j, far, rfl, rm.die hj, f0, f1⟩ rfl
      obtain ⟨x, rfl, gx, rx⟩ := hp j far rfl
      exact ⟨x, m', e1, gx, rm.trans rx⟩)
    rw [rangeD_len] at nL
    obtain ⟨u, m4, e4, u0, u1, r4⟩ := roll [.c j, .d (.int far), .d (.int ((i + 1 : Nat) : Int)), .d (.int 1), .d (.tuple ls), .no, .no, .no] m3 2 rfl (by omega) (by omega) r3
    have rest : ∀ (c : PyData) (m5 : M), Rolled m j m5 → (c = .none ∨ shapeD far c) → ∃ o mt m7, EvE K (tTup (tCons (tC (.str "group")) (tCons (tVar 4) (tCons (tCall (spD K 1 go) [] E0 (tCons (tVar 0) tNil)) (tCons (tVar 5) (tCons (tCall (spD K 1 gm) [] E0 (tCons (tVar 0) tNil)) tNil))))))
        [.c j, .d (.int far), .d (.int ((i + 1 : Nat) : Int)), .d (.int 1), .d (.tuple ls), .d c, .no, .no] m5 (.d (.tuple [.str "group", .tuple ls, o, c, mt])) m7 ∧ opacityD o ∧ matrixD mt ∧ Rolled m j m7 := fun c m5 r5 hc => by
      obtain ⟨o, m6, e6, g6, r6⟩ := opac [.c j, .d (.int far), .d (.int ((i + 1 : Nat) : Int)), .d (.int 1), .d (.tuple ls), .d c, .no, .no] m5 rfl r5
      obtain ⟨mt, m7, e7, g7, r7⟩ := matr [.c j, .d (.int far), .d (.int ((i + 1 : Nat) : Int)), .d (.int 1), .d (.tuple ls), .d c, .no, .no] m6 rfl r6
      exact ⟨o, mt, m7, ev_tup (ea_cons ev_str (ea_cons (ev_var rfl nofun) (ea_cons e6 (ea_cons (ev_var rfl nofun) (ea_cons e7 ea_nil))))) rfl (by simp), g6, g7, r7⟩
    by_cases hu0 : u = 0
    · obtain ⟨c, m5, e5, g5, r5⟩ := shape [.c j, .d (.int far), .d (.int ((i + 1 : Nat) : Int)), .d (.int 1), .d (.tuple ls), .no, .no, .no] m4 rfl rfl r4
      obtain ⟨o, mt, m7, e7, go7, gm7, r7⟩ := rest c m5 r5 (.inr g5)
      obtain ⟨l1, l2, l3⟩ := fin r7 (.inr ⟨ls, o, c, mt, rfl, by omega, gLs, go7, .inr g5, gm7⟩)
      exact ⟨.d (.tuple [.str "group", .tuple ls, o, c, mt]), m7, sv_out rfl (sv_seq (sv_set (ev_cb (arg1 (el_d (el_lc hi hL (by rw [rangeD_len]; omega)))) c_tupL)) (sv_seq (sv_set (ev_ifT (eb_cast (eb_test (ev_op e4 ev_int o_eqI)) (by simp [hu0])) e5)) (sv_ret0 e7))), l1, l2, l3⟩
    · obtain ⟨o, mt, m7, e7, go7, gm7, r7⟩ := rest .none m4 r4 (.inl rfl)
      obtain ⟨l1, l2, l3⟩ := fin r7 (.inr ⟨ls, o, .none, mt, rfl, by omega, gLs, go7, .inl rfl, gm7⟩)
      exact ⟨.d (.tuple [.str "group", .tuple ls, o, .none, mt]), m7, sv_out rfl (sv_seq (sv_set (ev_cb (arg1 (el_d (el_lc hi hL (by rw [rangeD_len]; omega)))) c_tupL)) (sv_seq (sv_set (ev_ifF (eb_cast (eb_test (ev_op e4 ev_int o_eqI)) (by simp [hu0])) ev_non)) (sv_ret0 e7))), l1, l2, l3⟩
  · refine exR_ifF (m1 := m1) ?_ (exR_seq sv_next ?_)
    · by_cases h1 : pick = 1
      · have hn0 : n = 0 := by omega
        subst hn0
        exact eb_andT (eb_cast (eb_test (ev_op (ev_var rfl nofun) ev_int o_eqI)) (by simp [h1])) (eb_cast (eb_test (ev_op (ev_var rfl nofun) ev_int o_i0b)) (by simp))
      · exact eb_andF (eb_cast (eb_test (ev_op (ev_var rfl nofun) ev_int o_eqI)) (by simp [h1]))
    obtain ⟨a, m2, ea, a0, a1, r2⟩ := roll [.c j, .d (.int far), .d (.int (n : Nat)), .d (.int pick), .no, .no, .no, .no] m1 3 rfl (by omega) (by omega) r1
    obtain ⟨b, m3, eb, b0, b1, r3⟩ := roll [.c j, .d (.int far), .d (.int (n : Nat)), .d (.int pick), .no, .no, .no, .no] m2 2 rfl (by omega) (by omega) r2
    obtain ⟨c, m4, ec, c0, c1, r4⟩ := roll [.c j, .d (.int far), .d (.int (n : Nat)), .d (.int pick), .no, .no, .no, .no] m3 2 rfl (by omega) (by omega) r3
    refine exR_seq (sv_set (r := .d (.tuple [.int a, .int b, .int (c * 9)])) (m1 := m4) (ev_tup (ea_cons ea (ea_cons eb (ea_cons (ev_op ec ev_int (o_mulII (mul_ok (by omega) (by omega)))) ea_nil))) rfl (by simp))) ?_
    obtain ⟨s, m5, e5, g5, r5⟩ := shape [.c j, .d (.int far), .d (.int (n : Nat)), .d (.int pick), .no, .no, .d (.tuple [.int a, .int b, .int (c * 9)]), .no] m4 rfl rfl r4
    obtain ⟨o, m6, e6, g6, r6⟩ := opac [.c j, .d (.int far), .d (.int (n : Nat)), .d (.int pick), .no, .no, .d (.tuple [.int a, .int b, .int (c * 9)]), .no] m5 rfl r5
    exact ⟨.d (.tuple [.str "fill", s, .tuple [.int a, .int b, .int (c * 9)], o]), m6, sv_ret0 (ev_tup (ea_cons ev_str (ea_cons e5 (ea_cons (ev_var rfl nofun) (ea_cons e6 ea_nil)))) rfl (by simp)), fin r6 (layerD_plain (.inr ⟨s, _, o, rfl, g5, ⟨a, b, c * 9, rfl, by omega, by omega, by omega, by omega, by omega, by omega⟩, g6⟩))⟩
end
end K01

set_option Elab.async false
set_option linter.all false
set_option maxRecDepth 100000
set_option maxHeartbeats 4000000
namespace K01
variable [DL.Tbs]
open PySem PySem.Spec PyProof.Rows L2 DL HX
theorem sum_app : ∀ a b : List Int, (a ++ b).sum = a.sum + b.sum
  | [], b => by simp
  | x :: a, b => by rw [List.cons_append, List.sum_cons, List.sum_cons, sum_app a b]; omega
theorem pts_app (a b : List PyData) : ptsM (a ++ b) = ptsM a + ptsM b := by
  unfold ptsM
  rw [List.flatMap_append, sum_app]
theorem pts_one (s : PyData) : ptsM [s] = ((loopsOf s).map lenI).sum := by
  unfold ptsM
  simp
section
variable {P : Program} {w : World} {K : PySem.W.Frag} {mg : Str → Option Value} {base : Heap}
abbrev R_size (n : Nat) : List PyData → PyData → Prop := fun ds y => ∃ ls, ds = [.tuple ls] ∧ ls.length ≤ 4 ∧ ls.all (nestedM n) = true ∧ y = .int (ptsM (shapesM n ls))
theorem c_size {k n : Nat} (b_len : mg "len" = none) (b_sum : mg "sum" = none) (TD : DefT K mg "_law_size" st__law_size ["_law_layers"]) {R : List PyData → PyData → Prop} (D__law_size : PureC P w K mg base k "_law_size" ["_law_layers"] R) (hR : ∀ i, n = i + 1 → R = R_size i) :
    PureC P w K mg base (k + 1) "_law_size" ["_law_layers"] (R_size n) := by
  refine mkPure TD S__law_size fun f cdv A outer s H E hr => ?_
  have hu := hr.units
  refine ⟨_, (pss_cons (ps_set (i := 1) S__law_size.nd rfl (Or.inl rfl) pe_int)
      (pss_cons (ps_for PassesOwn.never rfl (kSeq (K := K) (pv 0)) (pg_name (i := 2) S__law_size.nd rfl (Or.inl rfl)) (pss_cons (ps_set (i := 3) S__law_size.nd rfl (Or.inl rfl) (pe_ifExp (pt_cmpR (kEq (K := K) hu) (pe_ix (kIx (K := K)) (pv 2) pe_int (fun _ _ => rfl)) pe_str (nomark _)) (pe_ix (kIx (K := K)) (pv 2) pe_int (fun _ _ => rfl)) (pe_ix (kIx (K := K)) (pv 2) pe_int (fun _ _ => rfl))))
      (pss_cons (ps_if (pt_cmpR (kEq (K := K) hu) (pe_ix (kIx (K := K)) (pv 2) pe_int (fun _ _ => rfl)) pe_str (nomark _)) (pss_one (ps_set (i := 1) S__law_size.nd rfl (Or.inl rfl) (pe_op (kAdd (K := K)) (pv 1) (pe_def D__law_size (hr.mono (by omega)) (by rfl) pass0 (pa_cons (pe_ix (kIx (K := K)) (pv 2) pe_int (fun _ _ => rfl)) pa_nil))))) pss_nil)
      (pss_one (ps_if (pt_cmpR op_notN (pv 3) pe_non (nomark _)) (pss_one (ps_set (i := 1) S__law_size.nd rfl (Or.inl rfl) (pe_op (kAdd (K := K)) (pv 1) (pe_callB (kSum (K := K) rfl) (by rfl) b_sum (by decide +kernel) (pa_cons (pe_lc (own := [("_law_loop_here", 4)]) (by rfl) S__law_size.nd (kSeq (K := K) (pe_ix (kIx (K := K)) (pv 3) pe_int (fun _ _ => rfl))) (blkOk_by (N := N__law_size) (sc := defScope st__law_size) (by decide +kernel)) (fun _ _ _ _ _ => pg_name (i := 4) S__law_size.nd rfl (by first | exact Or.inl rfl | exact Or.inr rfl)) (fun _ _ _ _ _ => pts_nil) (fun _ _ _ _ _ => (pe_callB (kLen (K := K)) (by rfl) b_len (by decide +kernel) (pa_cons (pv 4) pa_nil)))) pa_nil))))) pss_nil)))))
      (pss_one (ps_ret (pv 1))))), ?_⟩
  rintro ds m y hl ⟨ls, rfl, h4, ha, rfl⟩
  have sumS : ∀ (s a0 a1 a2 : PyData), shapeM s = true → EvE K (tCB (rSum K) (tCons (tLc (iSeq K (tOp (rIx K) (tVar 3) (tC (.int 1)))) (gName 4) tYes (tCB (fun xs H Q => ∃ x n, xs = [x] ∧ LenV K x H n ∧ Q (.int n) H) (tCons (tVar 4) tNil)) [4]) tNil)) [.d a0, .d a1, .d a2, .d s, .no] m (.d (.int (ptsM [s]))) m := fun s a0 a1 a2 hs => by
    obtain ⟨r, lo, rfl, hl3, hp⟩ := shape_get hs
    have q := lcMap (K := K) (te := tCB (fun xs H Q => ∃ x n, xs = [x] ∧ LenV K x H n ∧ Q (.int n) H) (tCons (tVar 4) tNil)) (i := 4) (vs := [4]) (esw := wipeS [.d a0, .d a1, .d a2, .d (.tuple [r, .tuple lo]), .no] [4]) (m := m) (ds := lo) (f := fun l => .int (lenI l)) (by simp) fun d hd => by
      obtain ⟨ps, rfl, _⟩ := hp d hd
      exact ev_cb (arg1 (ev_var rfl nofun)) (c_len rfl)
    have q2 := el_d (el_lc (K := K) (es := [.d a0, .d a1, .d a2, .d (.tuple [r, .tuple lo]), .no]) (ei_seqT (ev_at (i := 3) (j := 1) (k := 1) (m := m) rfl rfl rfl)) q (by omega))
    have e : (lo.map fun l => PyData.int (lenI l)) = (lo.map lenI).map .int := by rw [List.map_map]; rfl
    rw [e] at q2
    have q3 := ev_cb (arg1 q2) (c_sum (K := K))
    rw [pts_one]
    exact q3
  have notN : ∀ s, shapeM s = true → isNone s = false := fun s hs => by
    obtain ⟨r, lo, rfl, _⟩ := shape_get hs
    rfl
  refine sv_seq (sv_set (r := .d (.int 0)) (m1 := m) ev_int) ?_
  refine sv_forI (m1 := m) (i := 2) (fun l es mm => ∃ a b, es = [.d (.tuple ls), .d (.int (ptsM (shapesM n (ls.take l)))), a, b, .no] ∧ mm = m) (ei_seqT (ev_var (r := .d (.tuple ls)) rfl nofun)) ⟨.no, .no, by rw [shapesM_eq]; rfl, rfl⟩ ?stp ?fin
  case fin =>
    rintro es mm ⟨a, b, rfl, rfl⟩
    rw [List.take_length]
    exact sv_ret0 (ev_var rfl nofun)
  case stp =>
    rintro l v es mm hv ⟨a, b, rfl, rfl⟩
    have hv1 : nestedM n v = true := List.all_eq_true.mp ha v (List.mem_of_getElem? hv)
    have el : shapesM n (ls.take (l + 1)) = shapesM n (ls.take l) ++ shapesOf (shapesJ n) v := by
      rw [shapesM_eq, shapesM_eq, List.take_add_one, hv, List.flatMap_append]
      simp
    rw [el, pts_app]
    generalize ptsM (shapesM n (ls.take l)) = acc
    rcases nested_get hv1 with ⟨k, s, r, rfl, hk, h1⟩ | ⟨i, l3, o, c, mt, rfl, rfl, h4, ha3, hc⟩
    · have es : shapesOf (shapesJ n) (.tuple (.str k :: s :: r)) = [s] := if_neg hk
      rw [es]
      refine ⟨_, mm, .inl ?_, .d (.tuple (.str k :: s :: r)), .d s, rfl, rfl⟩
      refine sv_seq (sv_set (ev_ifF (eb_cast (eb_test (ev_op (ev_at (i := 2) (j := 0) rfl rfl rfl) ev_str o_eqS)) (decide_eq_false hk)) (ev_at (i := 2) (j := 1) rfl rfl rfl))) ?_
      refine sv_seq (sv_ifF (eb_cast (eb_test (ev_op (ev_at (i := 2) (j := 0) rfl rfl rfl) ev_str o_eqS)) (decide_eq_false hk)) sv_next) ?_
      exact sv_ifT (eb_cast (eb_test (ev_op (ev_var rfl nofun) ev_non o_notN)) (by rw [notN s h1]; rfl)) (sv_set (ev_op (ev_var rfl nofun) (sumS s _ _ _ h1) o_addI))
    · have es : shapesOf (shapesJ (i + 1)) (.tuple [.str "group", .tuple l3, o, c, mt]) = shapesM i l3 ++ clipOf c := by
        simp only [shapesOf, shapesJ, if_true]
      rw [es, pts_app]
      refine ⟨_, mm, .inl ?_, .d (.tuple [.str "group", .tuple l3, o, c, mt]), .d c, rfl, rfl⟩
      have e := hR i rfl
      subst e
      refine sv_seq (sv_set (ev_ifT (eb_cast (eb_test (ev_op (ev_at (i := 2) (j := 0) rfl rfl rfl) ev_str o_eqS)) rfl) (ev_at (i := 2) (j := 3) rfl rfl rfl))) ?_
      refine sv_seq (sv_ifT (eb_cast (eb_test (ev_op (ev_at (i := 2) (j := 0) rfl rfl rfl) ev_str o_eqS)) rfl) (sv_set (ev_op (ev_var rfl nofun) (ev_pure (arg1 (ev_at (i := 2) (j := 1) rfl rfl rfl)) (ds := [.tuple l3]) rfl ⟨l3, rfl, h4, ha3, rfl⟩ rfl) o_addI))) ?_
      cases hn : isNone c with
      | true =>
        have e0 : clipOf c = [] := if_pos hn
        have e1 : acc + (ptsM (shapesM i l3) + ptsM (clipOf c)) = acc + ptsM (shapesM i l3) := by
          rw [e0, show ptsM [] = 0 from rfl, Int.add_zero]
        rw [e1]
        exact sv_ifF (eb_cast (eb_test (ev_op (ev_var rfl nofun) ev_non o_notN)) (by rw [hn]; rfl)) sv_next
      | false =>
        have e0 : clipOf c = [c] := if_neg (by rw [hn]; exact Bool.false_ne_true)
        rw [e0, ← Int.add_assoc]
        have hs : shapeM c = true := hc.resolve_left (by rw [hn]; exact Bool.false_ne_true)
        exact sv_ifT (eb_cast (eb_test (ev_op (ev_var rfl nofun) ev_non o_notN)) (by rw [hn]; rfl)) (sv_set (ev_op (ev_var rfl nofun) (sumS c _ _ _ hs) o_addI))
end
end K01

set_option Elab.async false
set_option linter.all false
set_option maxRecDepth 100000
set_option maxHeartbeats 4000000
namespace K01
variable [DL.Tbs]
open PySem PySem.Spec PyProof.Rows L2 DL HX
/-! ### what is drawn is valid -/
theorem loop_ok {far : Int} (hf : far ≤ 9) {v : PyData} (h : loopD far v) : loopM v = true := by
  obtain ⟨ps, rfl, h3, h5, hp⟩ := h
  show ((decide ((3 : Int) ≤ (ps.length : Int)) && decide ((ps.length : Int) ≤ 8)) && ps.all fun p => areM p 2 (-9) 9) = true
  simp only [Bool.and_eq_true, decide_eq_true_eq, List.all_eq_true]
  refine ⟨⟨by omega, by omega⟩, fun p h => ?_⟩
  obtain ⟨a, b, rfl, h1, h2, h3, h4⟩ := hp p h
  simp [areM, inR]
  omega
theorem shape_ok {far : Int} (hf : far ≤ 9) {v : PyData} (h : shapeD far v) : shapeM v = true ∧ okS v = true := by
  obtain ⟨r, ls, rfl, hr, h1, h2, hl⟩ := h
  have hls : loopsM (.tuple ls) = true := by
    show ((decide ((1 : Int) ≤ (ls.length : Int)) && decide ((ls.length : Int) ≤ 3)) && ls.all loopM) = true
    simp only [Bool.and_eq_true, decide_eq_true_eq, List.all_eq_true]
    exact ⟨⟨by omega, by omega⟩, fun l h => loop_ok hf (hl l h)⟩
  have hrm : ruleM r = true ∧ flatD r = true := by
    rcases hr with rfl | rfl
    · exact ⟨by decide, by decide⟩
    · exact ⟨by decide, by decide⟩
  refine ⟨?_, hrm.2⟩
  show (ruleM r && loopsM (.tuple ls)) = true
  rw [hrm.1, hls]; rfl
theorem opacity_ok {v : PyData} (h : opacityD v) : opacityM v = true := by
  obtain ⟨a, b, rfl, h1, h2, h3⟩ := h
  simp [opacityM, areM, inR, topLe]
  omega
theorem colour_ok {v : PyData} (h : colourD v) : colourM v = true := by
  obtain ⟨a, b, c, rfl, h1, h2, h3, h4, h5, h6⟩ := h
  simp [colourM, areM, inR]
  omega
theorem matrix_ok {v : PyData} (h : matrixD v) : matrixM v = true := by
  obtain ⟨t, a, b, rfl, ht, a0, a1, b0, b1⟩ := h
  have tl : ∀ xs : List PyData, xs = [.int a, .int b] → areM (.tuple xs) 2 (-9) 9 = true := fun xs e => by
    subst e
    simp [areM, inR]
    omega
  simp only [turnsL, List.mem_cons, List.not_mem_nil, or_false] at ht
  rcases ht with rfl | rfl | rfl | rfl | rfl | rfl | rfl <;>
  · unfold matrixM
    rw [Bool.and_eq_true, Bool.and_eq_true]
    exact ⟨rfl, rfl, tl _ rfl⟩
theorem plain_ok {far : Int} (hf : far ≤ 9) {v : PyData} (h : plainD far v) (n : Nat) : nestedM n v = true ∧ okL n v = true := by
  rcases h with ⟨s, o, rfl, hs, ho⟩ | ⟨s, c, o, rfl, hs, hc, ho⟩
  · obtain ⟨s1, s2⟩ := shape_ok hf hs
    have o1 := opacity_ok ho
    refine ⟨?_, ?_⟩
    · unfold nestedM
      rw [if_neg (by decide), if_pos rfl]
      show (shapeM s && opacityM o) = true
      rw [s1, o1]; rfl
    · unfold okL
      show ((decide (("rub" : Str) = "group") || okS s) && true && _) = true
      rw [s2, Bool.or_true]
      cases n with
      | zero => rfl
      | succ n =>
        show (true && true && (if ("rub" : Str) = "group" then _ else true)) = true
        rw [if_neg (by decide)]; rfl
  · obtain ⟨s1, s2⟩ := shape_ok hf hs
    have o1 := opacity_ok ho
    have c1 := colour_ok hc
    have okO : okS o = true := by
      obtain ⟨a, b, rfl, _⟩ := ho
      rfl
    refine ⟨?_, ?_⟩
    · unfold nestedM
      rw [if_pos rfl]
      show (shapeM s && (colourM c && opacityM o)) = true
      rw [s1, c1, o1]; rfl
    · unfold okL
      show ((decide (("fill" : Str) = "group") || okS s) && okS o && _) = true
      rw [s2, okO, Bool.or_true]
      cases n with
      | zero => rfl
      | succ n =>
        show (true && true && (if ("fill" : Str) = "group" then _ else true)) = true
        rw [if_neg (by decide)]; rfl
theorem layer_ok {far : Int} (hf : far ≤ 9) : ∀ (n : Nat) {v : PyData}, layerD far n v → nestedM (n + 1) v = true ∧ okL (n + 1) v = true
  | 0, v, h => plain_ok hf h 1
  | n + 1, v, h => by
    rcases h with h | ⟨ls, o, c, mt, rfl, hl, ha, ho, hc, hm⟩
    · exact plain_ok hf h _
    have o1 := opacity_ok ho
    have m1 := matrix_ok hm
    have c1 : (isNone c || shapeM c) = true ∧ okS c = true := by
      rcases hc with rfl | hc
      · exact ⟨rfl, rfl⟩
      · obtain ⟨s1, s2⟩ := shape_ok hf hc
        exact ⟨by rw [s1, Bool.or_true], s2⟩
    have i1 : ls.all (nestedM (n + 1)) = true := List.all_eq_true.mpr fun l h => (layer_ok hf n (ha l h)).1
    have i2 : ls.all (okL (n + 1)) = true := List.all_eq_true.mpr fun l h => (layer_ok hf n (ha l h)).2
    refine ⟨?_, ?_⟩
    · unfold nestedM
      rw [if_neg (by decide), if_neg (by decide)]
      show (true && ((decide ((ls.length : Int) ≤ 4) && ls.all (nestedM (n + 1))) && (opacityM o && ((isNone c || shapeM c) && matrixM mt)))) = true
      rw [i1, o1, c1.1, m1, decide_eq_true (by omega)]; rfl
    · unfold okL
      show (true && okS c && (if ("group" : Str) = "group" then ls.all (okL (n + 1)) else true)) = true
      rw [if_pos rfl, c1.2, i2]; rfl
end K01

set_option Elab.async false
set_option linter.all false
set_option maxRecDepth 100000
set_option maxHeartbeats 4000000
namespace K01
variable [DL.Tbs]
open PySem PySem.Spec PyProof.Rows L2 DL HX
section
variable {P : Program} {w : World} {K : PySem.W.Frag} {mg : Str → Option Value} {base : Heap}
theorem cut_m1 (xs : List PyData) : DL.cutD xs none (some (-1)) = xs.take (xs.length - 1) := by
  unfold DL.cutD
  rw [HT.sIx_none, List.drop_zero]
  congr 1
  have e : HT.sIx xs.length xs.length (some (-1)) = ((-1 : Int) + (xs.length : Int)).toNat := by
    unfold HT.sIx
    simp
  rw [e]
  omega
def goodD (far : Int) (ls : List PyData) : Prop := (∀ l, l ∈ ls → layerD far 1 l) ∧ ptsM (shapesM 2 ls) ≤ 45
def PreDr : List Sl → M → Prop := fun rs m => ∃ j many far, rs = [.c j, .d (.int many), .d (.int far)] ∧ DieAt m j ∧ 0 ≤ many ∧ many ≤ 4 ∧ 0 ≤ far ∧ far ≤ 9
def PostDr : List Sl → M → Sl → M → Prop := fun rs m r m' => ∀ j many far, rs = [.c j, .d (.int many), .d (.int far)] → ∃ ls, r = .d (.tuple ls) ∧ (ls.length : Int) ≤ many ∧ goodD far ls ∧ Rolled m j m'
theorem while_cut {k : Nat} {far : Int} (hf : far ≤ 9) (D__law_size : PureC P w K mg base k "_law_size" ["_law_layers"] (R_size 2)) {n : Nat} {s0 s1 s2 s4 : Sl} {m : M} :
    ∀ (q : Nat) (ls : List PyData), ls.length = q → q ≤ 4 → (∀ l, l ∈ ls → layerD far 1 l) → ∃ i ls', WhR K n (tTest (tOp (rI0 fun i j => .bl (decide (i > j))) (tCall (spD K 1 (pureG (R_size 2))) [] E0 (tCons (tVar 3) tNil)) (tC (.int 45))))
      (tAsg (tSl (rSlA K) (tVar 3) tNoPart (tPart (tUn (rU fun i => .int (-i)) (tC (.int 1))))) (gName 3)) i [s0, s1, s2, .d (.tuple ls), s4] m [s0, s1, s2, .d (.tuple ls'), s4] m ∧ ls'.length ≤ q ∧ goodD far ls' := by
  intro q
  induction q with
  | zero =>
    intro ls hl h4 ha
    obtain rfl := List.eq_nil_of_length_eq_zero hl
    refine ⟨0, [], .stop (eb_cast (eb_test (ev_op (ev_pure (arg1 (ev_var rfl nofun)) (ds := [.tuple []]) rfl ⟨[], rfl, by simp, rfl, rfl⟩ rfl) ev_int o_i0b)) (by decide)), Nat.le_refl _, ha, by decide⟩
  | succ q ih =>
    intro ls hl h4 ha
    have hn : ls.all (nestedM 2) = true := List.all_eq_true.mpr fun l h => (layer_ok hf 1 (ha l h)).1
    have size := ev_pure (K := K) (P := R_size 2) (n := 1) (E := E0) (es := [s0, s1, s2, .d (.tuple ls), s4]) (m := m) (arg1 (ev_var (i := 3) rfl nofun)) (ds := [.tuple ls]) rfl ⟨ls, rfl, by omega, hn, rfl⟩ rfl
    by_cases hs : ptsM (shapesM 2 ls) > 45
    · obtain ⟨i, ls', h1, h2, h3⟩ := ih (ls.take (ls.length - 1)) (by rw [List.length_take]; omega) (by omega) fun l h => ha l (List.mem_of_mem_take h)
      refine ⟨i + 1, ls', .go (eb_cast (eb_test (ev_op size ev_int o_i0b)) (decide_eq_true hs)) (sv_set (r := .d (.tuple (ls.take (ls.length - 1)))) (m1 := m) ?_) h1, Nat.le_succ_of_le h2, h3⟩
      rw [← cut_m1]
      exact ev_sl (ev_var rfl nofun) eo_none (eo_some (ev_un ev_int o_neg))
    · exact ⟨0, ls, .stop (eb_cast (eb_test (ev_op size ev_int o_i0b)) (decide_eq_false hs)), Nat.le_of_eq hl, ha, by omega⟩
theorem c_drawing {k : Nat} (b_range : mg "range" = none) (b_tuple : mg "tuple" = none) (TD : DefT K mg "_law_drawing" st__law_drawing ["_law_dice", "_law_many", "_law_far"]) (D__law_roll : DefC P w K mg base CX0 k "_law_roll" ["_law_dice", "_law_many"] (spD K 2 rollG))
    (DE : DefE P w K mg base k "_law_layer" ["_law_dice", "_law_far", "_law_deep"] (PreL 1) (PostL 1)) (D__law_size : PureC P w K mg base k "_law_size" ["_law_layers"] (R_size 2)) :
    DefE P w K mg base (k + 1) "_law_drawing" ["_law_dice", "_law_many", "_law_far"] PreDr PostDr := by
  obtain ⟨gl, hgl, D__law_layer⟩ := DE
  refine mkDefE TD S__law_drawing ⟨_, fun f cdv A outer s H E hr => (pss_cons (ps_set (i := 3) S__law_drawing.nd rfl (Or.inl rfl) (pe_callTy (kTup (K := K)) (by rfl) b_tuple (by decide +kernel) (pa_cons (pe_lc (own := [("_law_turn", 4)]) (by rfl) S__law_drawing.nd (pi_range1 (by rfl) b_range (pa_cons (pe_def D__law_roll (hr.mono (by omega)) (by rfl) pass0 (pa_cons (pv 0) (pa_cons (pe_op (kAdd (K := K)) (pv 1) pe_int) pa_nil))) pa_nil)) (blkOk_by (N := N__law_drawing) (sc := defScope st__law_drawing) (by decide +kernel)) (fun _ _ _ _ _ => pg_name (i := 4) S__law_drawing.nd rfl (by first | exact Or.inl rfl | exact Or.inr rfl)) (fun _ _ _ _ _ => pts_nil) (fun _ _ _ _ _ => (pe_def D__law_layer (hr.mono (by omega)) (by rfl) pass0 (pa_cons (pv 0) (pa_cons (pv 2) (pa_cons pe_int pa_nil)))))) pa_nil)))
      (pss_cons (ps_while PassesOwn.never (pt_cmpR op_gt (pe_def D__law_size (hr.mono (by omega)) (by rfl) pass0 (pa_cons (pv 3) pa_nil)) pe_int (nomark _)) (pss_one (ps_set (i := 3) S__law_drawing.nd rfl (Or.inl rfl) (pe_slice (kSl (K := K)) (pv 3) po_none (po_some (pe_un un_neg pe_int))))))
      (pss_one (ps_ret (pv 3))))), ?_⟩
  rintro rs m ⟨j, many, far, rfl, hd, y0, y1, f0, f1⟩
  have hj := hd.lt
  obtain ⟨v, m1, ev1, v0, v1, r1⟩ := ex_roll (K := K) (E := E0) (es := [.c j, .d (.int many), .d (.int far), .no, .no]) (i := 0) (te := tOp (rAddU K) (tVar 1) (tC (.int 1))) rfl (ev_op (ev_var rfl nofun) ev_int o_addI) hd (by omega) (by omega)
  have hi := ei_rng1 (K := K) (arg1 ev1) (by omega) (by omega)
  obtain ⟨ls, m2, hL, nL, gL, jL⟩ := exLc (K := K) (i := 4) (vs := [4]) (esw := wipeS [.c j, .d (.int many), .d (.int far), .no, .no] [4]) (te := tCall (spD K 3 gl) [] E0 (tCons (tVar 0) (tCons (tVar 2) (tCons (tC (.int 1)) tNil)))) (J := Rolled m j) (G := layerD far 1) (by simp) (rangeD 0 v.toNat) m1 r1 (by
    intro d mm hd2 rm
    obtain ⟨r, m', e1, hp⟩ := ex_callE (K := K) (E := E0) (n := 3) hgl (ta := tCons (tVar 0) (tCons (tVar 2) (tCons (tC (.int 1)) tNil))) (es := [.c j, .d (.int many), .d (.int far), .no, .d d]) (m := mm) (ea_cons (ev_var rfl nofun) (arg2 (ev_var rfl nofun) ev_int)) ⟨j, far, rfl, rm.die hj, f0, by omega⟩ rfl
    obtain ⟨x, rfl, gx, rx⟩ := hp j far rfl
    exact ⟨x, m', e1, gx, rm.trans rx⟩)
  rw [rangeD_len] at nL
  obtain ⟨i, ls', h1, h2, h3⟩ := while_cut (n := m.length) (s0 := .c j) (s1 := .d (.int many)) (s2 := .d (.int far)) (s4 := .no) (m := m2) f1 D__law_size v.toNat ls nL (by omega) gL
  refine exR_seq (sv_set (ev_cb (arg1 (el_d (el_lc hi hL (by rw [rangeD_len]; omega)))) c_tupL)) (exR_seq (sv_while h1) ⟨.d (.tuple ls'), m2, sv_ret0 (ev_var rfl nofun), jL.len, rfl, fun j' many' far' e => ?_⟩)
  cases e
  exact ⟨ls', rfl, by omega, h3, jL⟩
end
end K01

set_option Elab.async false
set_option linter.all false
set_option maxRecDepth 100000
set_option maxHeartbeats 4000000
set_option exponentiation.threshold 2000
namespace K01
variable [DL.Tbs]
open PySem PySem.Spec PyProof.Rows L2 DL HX GX RT SX StX
/-! ### what is drawn, typed -/
theorem typed {α : Type} {f : α → PyData} {Q : α → Prop} {G : PyData → Prop} (h : ∀ d, G d → ∃ x, d = f x ∧ Q x) : ∀ ds : List PyData, (∀ d, d ∈ ds → G d) → ∃ xs : List α, ds = xs.map f ∧ ∀ x, x ∈ xs → Q x
  | [], _ => ⟨[], rfl, by simp⟩
  | d :: ds, hd => by
    obtain ⟨x, rfl, hx⟩ := h d (hd d (by simp))
    obtain ⟨xs, rfl, hxs⟩ := typed h ds fun e he => hd e (List.mem_cons_of_mem _ he)
    exact ⟨x :: xs, rfl, fun y hy => by
      rcases List.mem_cons.mp hy with rfl | hy
      · exact hx
      · exact hxs y hy⟩
theorem nb_far {i : Int} (h : i.natAbs ≤ 9) (k : Nat) (hk : 4 ≤ k) : nb k i := Nat.le_trans h (Nat.le_trans (show 9 ≤ 2 ^ 4 by decide) (Nat.pow_le_pow_right (by decide) hk))
theorem pair_t (d : PyData) (h : pairD 4 d) : ∃ p : Pr, d = prD p ∧ prB 20 p := by
  obtain ⟨a, b, rfl, h1, h2, h3, h4⟩ := h
  exact ⟨(a, b), rfl, nb_far (by omega) _ (by decide), nb_far (by omega) _ (by decide)⟩
theorem loop_t (d : PyData) (h : loopD 4 d) : ∃ l : List Pr, d = loD l ∧ loB 20 l := by
  obtain ⟨ps, rfl, h3, h5, hp⟩ := h
  obtain ⟨l, rfl, hl⟩ := typed pair_t ps hp
  rw [List.length_map] at h5
  exact ⟨l, rfl, by omega, hl⟩
theorem shape_t (d : PyData) (h : shapeD 4 d) : ∃ s : Sh, d = shD s ∧ shB 20 s := by
  obtain ⟨r, ls, rfl, hr, h1, h2, hl⟩ := h
  obtain ⟨lps, rfl, hls⟩ := typed loop_t ls hl
  rw [List.length_map] at h2
  rcases hr with rfl | rfl
  · exact ⟨⟨true, lps⟩, rfl, by show lps.length ≤ 3; omega, hls⟩
  · exact ⟨⟨false, lps⟩, rfl, by show lps.length ≤ 3; omega, hls⟩
theorem op_t {d : PyData} (h : opacityD d) : ∃ o : Pr, d = prD o ∧ opB o := by
  obtain ⟨a, b, rfl, h1, h2, h3⟩ := h
  exact ⟨(a, b), rfl, h1, h2, by show b ≤ 6; omega⟩
theorem col_t {d : PyData} (h : colourD d) : ∃ c : List Int, d = .tuple (c.map .int) ∧ colB c := by
  obtain ⟨a, b, c, rfl, h1, h2, h3, h4, h5, h6⟩ := h
  exact ⟨[a, b, c], rfl, rfl, fun k hk => by
    simp only [List.mem_cons, List.not_mem_nil, or_false] at hk
    omega⟩
theorem mat_t {d : PyData} (h : matrixD d) : ∃ m : Mat, d = matD m ∧ matB 10 m := by
  obtain ⟨t, a, b, rfl, ht, h1, h2, h3, h4⟩ := h
  have ha : nb 10 a := nb_far (by omega) _ (by decide)
  have hb : nb 10 b := nb_far (by omega) _ (by decide)
  have one : ∀ i : Int, i.natAbs ≤ 9 → nb 10 i := fun i h => nb_far h _ (by decide)
  simp only [turnsL, List.mem_cons, List.not_mem_nil, or_false] at ht
  rcases ht with rfl | rfl | rfl | rfl | rfl | rfl | rfl
  · exact ⟨⟨1, 0, 0, 1, a, b⟩, rfl, one (1) (by decide), one (0) (by decide), one (0) (by decide), one (1) (by decide), ha, hb⟩
  · exact ⟨⟨0, 1, -1, 0, a, b⟩, rfl, one (0) (by decide), one (1) (by decide), one (-1) (by decide), one (0) (by decide), ha, hb⟩
  · exact ⟨⟨-1, 0, 0, 1, a, b⟩, rfl, one (-1) (by decide), one (0) (by decide), one (0) (by decide), one (1) (by decide), ha, hb⟩
  · exact ⟨⟨1, 1, 0, 1, a, b⟩, rfl, one (1) (by decide), one (1) (by decide), one (0) (by decide), one (1) (by decide), ha, hb⟩
  · exact ⟨⟨2, 0, 0, 1, a, b⟩, rfl, one (2) (by decide), one (0) (by decide), one (0) (by decide), one (1) (by decide), ha, hb⟩
  · exact ⟨⟨1, 0, 1, -1, a, b⟩, rfl, one (1) (by decide), one (0) (by decide), one (1) (by decide), one (-1) (by decide), ha, hb⟩
  · exact ⟨⟨1, -1, 1, 1, a, b⟩, rfl, one (1) (by decide), one (-1) (by decide), one (1) (by decide), one (1) (by decide), ha, hb⟩
theorem plain_t (d : PyData) (h : plainD 4 d) : ∃ l : Pl, d = plD l ∧ plB 20 l ∧ plOk l := by
  rcases h with ⟨s, o, rfl, hs, ho⟩ | ⟨s, c, o, rfl, hs, hc, ho⟩
  · obtain ⟨s', rfl, h1⟩ := shape_t s hs
    obtain ⟨o', rfl, h2⟩ := op_t ho
    exact ⟨.rub s' o', rfl, h1, h2⟩
  · obtain ⟨s', rfl, h1⟩ := shape_t s hs
    obtain ⟨o', rfl, h2⟩ := op_t ho
    obtain ⟨c', rfl, h3⟩ := col_t hc
    exact ⟨.fill s' c' o', rfl, h1, h3, h2⟩
theorem layer_t (d : PyData) (h : layerD 4 1 d) : ∃ l : L1, d = l1D l ∧ okp true l := by
  rcases h with h | ⟨ls, o, c, mt, rfl, h2, hls, ho, hc, hm⟩
  · obtain ⟨l, rfl, h1⟩ := plain_t d h
    exact ⟨.plain l, rfl, h1⟩
  · obtain ⟨ps, rfl, hps⟩ := typed plain_t ls hls
    obtain ⟨o', rfl, h3⟩ := op_t ho
    obtain ⟨m', rfl, h4⟩ := mat_t hm
    rw [List.length_map] at h2
    rcases hc with rfl | hc
    · exact ⟨.grp ps o' none m', rfl, rfl, h2, hps, h3, (fun s hs => nomatch hs), h4⟩
    · obtain ⟨s', rfl, h5⟩ := shape_t c hc
      exact ⟨.grp ps o' (some s') m', rfl, rfl, h2, hps, h3, (fun s hs => (by cases hs; exact h5)), h4⟩
theorem okp_g1 {l : L1} (h : okp true l) : g1B l := by
  cases l with
  | plain l => exact ⟨h.1, plOk_ok h.2⟩
  | grp ls o c m =>
    obtain ⟨_, h2, h3, h4, h5, h6⟩ := h
    exact ⟨by omega, fun x hx => ⟨(h3 x hx).1, plOk_ok (h3 x hx).2⟩, h5, h6⟩
theorem okp_l1 {l : L1} (h : okp true l) : l1Ok l := by
  cases l with
  | plain l => exact h.2
  | grp ls o c m =>
    obtain ⟨_, h2, h3, h4, h5, h6⟩ := h
    exact ⟨fun x hx => (h3 x hx).2, h4⟩
theorem okp_dr {ls : List L1} (h : ∀ l, l ∈ ls → okp true l) (h3 : ls.length ≤ 3) : DrOk ls := ⟨by omega, fun l hl => okp_g1 (h l hl), fun l hl => okp_l1 (h l hl)⟩
/-! ### the law's points -/
theorem small_div {n : Nat} (hn : 1 < n) (hs : n < 1002001) (hd : ∀ d, d < 1001 → d < 2 ∨ n % d ≠ 0) {d : Nat} (h : d ∣ n) : d = 1 ∨ d = n := by
  obtain ⟨e, he⟩ := h
  by_cases h1 : d = 1
  · exact .inl h1
  by_cases h2 : e = 1
  · exact .inr (by rw [he, h2, Nat.mul_one])
  exfalso
  have d0 : d ≠ 0 := by rintro rfl; omega
  have e0 : e ≠ 0 := by rintro rfl; omega
  have key : d < 1001 ∨ e < 1001 := by
    rcases Nat.lt_or_ge d 1001 with h | h
    · exact .inl h
    rcases Nat.lt_or_ge e 1001 with h' | h'
    · exact .inr h'
    have : 1001 * 1001 ≤ d * e := Nat.mul_le_mul h h'
    omega
  rcases key with h | h
  · rcases hd d h with z | z
    · omega
    · exact z (by rw [he]; exact Nat.mul_mod_right _ _)
  · rcases hd e h with z | z
    · omega
    · exact z (by rw [he]; exact Nat.mul_mod_left _ _)
theorem prime_a : ∀ d, d < 1001 → d < 2 ∨ 1000003 % d ≠ 0 := by decide +kernel
theorem prime_b : ∀ d, d < 1001 → d < 2 ∨ 999983 % d ≠ 0 := by decide +kernel
theorem gcd_prime {n : Nat} (hn : 1 < n) (hs : n < 1002001) (hd : ∀ d, d < 1001 → d < 2 ∨ n % d ≠ 0) {a : Int} (h : ¬ a % (n : Int) = 0) : Int.gcd a n = 1 := by
  have h1 : Int.gcd a n ∣ n := Nat.gcd_dvd_right _ _
  rcases small_div hn hs hd h1 with z | z
  · exact z
  · exfalso
    apply h
    have h2 : ((Int.gcd a n : Nat) : Int) ∣ a := Int.gcd_dvd_left a n
    rw [z] at h2
    exact Int.emod_eq_zero_of_dvd h2
def nudge (n a : Int) : Int := a + (if a % n = 0 then 1 else 0)
theorem nudge_ok {n : Int} (hn : 1 < n) (a : Int) : ¬ nudge n a % n = 0 := by
  unfold nudge
  split
  · rename_i h
    intro z
    have : (a + 1) % n = 1 := by
      rw [Int.add_emod, h, Int.zero_add, Int.emod_emod_of_dvd _ (Int.dvd_refl n)]
      exact Int.emod_eq_of_lt (by decide) hn
    omega
  · rename_i h
    rw [Int.add_zero]
    exact h
/-- a point that is one -/
structure PtOk (p : Pt) : Prop where
  x1 : 0 < p.x1
  y1 : 0 < p.y1
  B : ptB 40 p
  m : pointM (ptD p) = true
theorem ptOk_mk {p : Pt} (h1 : 0 < p.x1) (h2 : 0 < p.y1) (hx0 : p.x0.natAbs ≤ 2 ^ 40) (hx1 : p.x1.natAbs ≤ 2 ^ 40) (hy0 : p.y0.natAbs ≤ 2 ^ 40) (hy1 : p.y1.natAbs ≤ 2 ^ 40) (g1 : Int.gcd p.x0 p.x1 = 1) (g2 : Int.gcd p.y0 p.y1 = 1) : PtOk p := by
  refine ⟨h1, h2, ⟨hx0, hx1, hy0, hy1⟩, ?_⟩
  obtain ⟨x0, x1, y0, y1⟩ := p
  have L : LIM = 1000000000000000000000000000000 := rfl
  have key : ∀ {t b : Int}, 0 < b → t.natAbs ≤ 2 ^ 40 → b.natAbs ≤ 2 ^ 40 → Int.gcd t b = 1 → fracM (.tuple [.int t, .int b]) = true := fun {t b} hb ht hb' hg => by
    show (areM (.tuple [.int t, .int b]) 2 (-LIM) LIM && lowM (.tuple [.int t, .int b])) = true
    rw [Bool.and_eq_true]
    constructor
    · show (decide (((([.int t, .int b] : List PyData).length : Nat) : Int) = 2) && ([.int t, .int b] : List PyData).all (inR (-LIM) LIM)) = true
      rw [Bool.and_eq_true]
      refine ⟨rfl, ?_⟩
      rw [List.all_eq_true]
      intro x hx
      simp only [List.mem_cons, List.not_mem_nil, or_false] at hx
      have e40 : (2 : Nat) ^ 40 = 1099511627776 := by decide
      rcases hx with rfl | rfl
      · show (decide (-LIM ≤ t) && decide (t ≤ LIM)) = true
        rw [Bool.and_eq_true, decide_eq_true_eq, decide_eq_true_eq, L]
        omega
      · show (decide (-LIM ≤ b) && decide (b ≤ LIM)) = true
        rw [Bool.and_eq_true, decide_eq_true_eq, decide_eq_true_eq, L]
        omega
    · show (decide (0 < b) && decide (Int.gcd t b = 1)) = true
      rw [Bool.and_eq_true, decide_eq_true_eq, decide_eq_true_eq]
      exact ⟨hb, hg⟩
  show (fracM (.tuple [.int x0, .int x1]) && fracM (.tuple [.int y0, .int y1])) = true
  rw [Bool.and_eq_true]
  exact ⟨key h1 hx0 hx1 g1, key h2 hy0 hy1 g2⟩
section
variable {P : Program} {w : World} {K : PySem.W.Frag} {mg : Str → Option Value} {base : Heap}
abbrev R_lshown : List PyData → PyData → Prop := fun ds y => ∃ (ls : List L1) (p : Pt), ds = [.tuple (ls.map l1D), ptD p] ∧ ls.length ≤ 3 ∧ (∀ l, l ∈ ls → okp true l) ∧ ptB 40 p ∧ y = valD (paint1s p still ls zero4)
theorem c_lshown {k : Nat} (TD : DefT K mg "_law_shown" st__law_shown ["_law_drawing_here", "_law_point_here"]) (D__law_paint : PureC P w K mg base k "_law_paint" ["_law_layers", "_law_matrix_here", "_law_point_here"] (R_lp true)) : PureC P w K mg base (k + 1) "_law_shown" ["_law_drawing_here", "_law_point_here"] R_lshown := by
  refine mkPure TD S__law_shown fun f cdv A outer s H E hr => ?_
  refine ⟨_, (pss_one (ps_ret (pe_def D__law_paint (hr.mono (by omega)) (by rfl) pass0 (pa_cons (pv 0) (pa_cons (pe_tup (pa_cons pe_int (pa_cons pe_int (pa_cons pe_int (pa_cons pe_int (pa_cons pe_int (pa_cons pe_int pa_nil))))))) (pa_cons (pv 1) pa_nil)))))), ?_⟩
  rintro ds m y hl ⟨ls, p, rfl, h3, hok, hp, rfl⟩
  exact sv_ret0 (ev_pure (arg3 (ev_var rfl nofun) (ev_tup (ds := [.int 1, .int 0, .int 0, .int 1, .int 0, .int 0]) (ea_cons ev_int (ea_cons ev_int (ea_cons ev_int (ea_cons ev_int (arg2 ev_int ev_int))))) rfl (by simp)) (ev_var rfl nofun)) (ds := [.tuple (ls.map l1D), matD still, ptD p]) rfl ⟨ls, still, p, rfl, h3, hok, still_B, hp, rfl⟩ rfl)
theorem c_intB {b : Bool} : OpC K (fun xs H Q => (∃ i, xs = [V.int i] ∧ Q (.int i) H) ∨ ∃ k, xs = [V.bl k] ∧ Q (.int (if k then 1 else 0)) H) [.d (.bool b)] (.int (if b then 1 else 0)) := fun H0 H ρ ex vs k Q q => by
  cases k with
  | cons a t =>
    cases t
    have a : Dp K H0 _ (.bool b) := a
    cases a
    exact .inr ⟨b, rfl, here ex (.int _) q⟩
theorem ev_nudge {es : List Sl} {m : M} {i : Nat} {a n : Int} (h : es[i]? = some (.d (.int a))) (hn : 0 < n) : EvE K (tOp (rAddU K) (tVar i) (tCB (fun xs H Q => (∃ i, xs = [V.int i] ∧ Q (.int i) H) ∨ ∃ k, xs = [V.bl k] ∧ Q (.int (if k then 1 else 0)) H) (tCons (tOp (rEqU K) (tOp (rI (fun _ j => 0 < j) fun i j => .int (i % j)) (tVar i) (tC (.int n))) (tC (.int 0))) tNil))) es m (.d (.int (nudge n a))) m := by
  refine ev_cast (ev_addN (ev_var h nofun) (ev_cb (arg1 (ev_op (ev_op (ev_var h nofun) ev_int (o_mod hn)) ev_int o_eqI)) c_intB)) ?_
  unfold nudge
  by_cases hz : a % n = 0 <;> simp [hz]
def PrePt : List Sl → M → Prop := fun rs m => ∃ j, rs = [.c j, .d (.int 6)] ∧ DieAt m j
def PostPt : List Sl → M → Sl → M → Prop := fun rs m r m' => ∀ j, rs = [.c j, .d (.int 6)] → ∃ p : Pt, r = .d (ptD p) ∧ PtOk p ∧ Rolled m j m'
theorem nudge_le {n a : Int} : (nudge n a).natAbs ≤ a.natAbs + 1 := by
  unfold nudge
  split <;> omega
theorem c_lpoint {k : Nat} (b_int : mg "int" = none) (TD : DefT K mg "_law_point" st__law_point ["_law_dice", "_law_far"]) (D__law_roll : DefC P w K mg base CX0 k "_law_roll" ["_law_dice", "_law_many"] (spD K 2 rollG)) :
    DefE P w K mg base (k + 1) "_law_point" ["_law_dice", "_law_far"] PrePt PostPt := by
  refine mkDefE TD S__law_point ⟨_, fun f cdv A outer s H E hr => have hu := hr.units; (pss_cons (ps_set (i := 2) S__law_point.nd rfl (Or.inl rfl) (pe_op op_sub (pe_def D__law_roll (hr.mono (by omega)) (by rfl) pass0 (pa_cons (pv 0) (pa_cons (pe_op (kMul (K := K)) (pe_op (kMul (K := K)) pe_int (pv 1)) pe_int) pa_nil))) (pe_op (kMul (K := K)) (pv 1) pe_int)))
      (pss_cons (ps_set (i := 3) S__law_point.nd rfl (Or.inl rfl) (pe_op op_sub (pe_def D__law_roll (hr.mono (by omega)) (by rfl) pass0 (pa_cons (pv 0) (pa_cons (pe_op (kMul (K := K)) (pe_op (kMul (K := K)) pe_int (pv 1)) pe_int) pa_nil))) (pe_op (kMul (K := K)) (pv 1) pe_int)))
      (pss_cons (ps_set (i := 2) S__law_point.nd rfl (Or.inl rfl) (pe_op (kAdd (K := K)) (pv 2) (pe_callTy call_int1 (by rfl) b_int (by decide +kernel) (pa_cons (pe_cmpR (kEq (K := K) hu) (pe_op op_mod (pv 2) pe_int) pe_int (nomark _)) pa_nil))))
      (pss_one (ps_ret (pe_tup (pa_cons (pe_tup (pa_cons (pv 2) (pa_cons pe_int pa_nil))) (pa_cons (pe_tup (pa_cons (pe_op (kAdd (K := K)) (pv 3) (pe_callTy call_int1 (by rfl) b_int (by decide +kernel) (pa_cons (pe_cmpR (kEq (K := K) hu) (pe_op op_mod (pv 3) pe_int) pe_int (nomark _)) pa_nil))) (pa_cons pe_int pa_nil))) pa_nil)))))))), ?_⟩
  rintro rs m ⟨j, rfl, hd⟩
  have hj := hd.lt
  have e40 : (2 : Nat) ^ 40 = 1099511627776 := by decide
  have mul : ∀ {es : List Sl} {m : M} {c : Int}, c.natAbs ≤ 2000000 → es[1]? = some (.d (.int 6)) → EvE K (tOp (rMulU K) (tOp (rMulU K) (tC (.int 2)) (tVar 1)) (tC (.int c))) es m (.d (.int (12 * c))) m := fun {es m c} hc h => ev_cast (ev_op (ev_op ev_int (ev_var h nofun) (o_mulII (mul_ok (by omega) (by omega)))) ev_int (o_mulII (mul_ok (by omega) (by omega)))) rfl
  have mul1 : ∀ {es : List Sl} {m : M} {c : Int}, c.natAbs ≤ 2000000 → es[1]? = some (.d (.int 6)) → EvE K (tOp (rMulU K) (tVar 1) (tC (.int c))) es m (.d (.int (6 * c))) m := fun {es m c} hc h => ev_op (ev_var h nofun) ev_int (o_mulII (mul_ok (by omega) (by omega)))
  obtain ⟨v, m1, ev1, v0, v1, r1⟩ := ex_roll (K := K) (E := E0) (es := [.c j, .d (.int 6), .no, .no]) (i := 0) rfl (mul (c := 1000003) (by decide) rfl) hd (by decide) (by decide)
  refine exR_seq (sv_set (ev_sub ev1 (mul1 (c := 1000003) (by decide) rfl))) ?_
  obtain ⟨u, m2, ev2, u0, u1, r2⟩ := ex_roll (K := K) (E := E0) (es := [.c j, .d (.int 6), .d (.int (v - 6 * 1000003)), .no]) (m := m1) (i := 0) rfl (mul (c := 999983) (by decide) rfl) (r1.die hj) (by decide) (by decide)
  refine exR_seq (sv_set (ev_sub ev2 (mul1 (c := 999983) (by decide) rfl))) ?_
  refine exR_seq (es1 := [.c j, .d (.int 6), .d (.int (nudge 1000003 (v - 6 * 1000003))), .d (.int (u - 6 * 999983))]) (m1 := m2) (sv_set (ev_nudge rfl (by decide))) ?_
  have na := nudge_ok (n := 1000003) (by decide) (v - 6 * 1000003)
  have nb' := nudge_ok (n := 999983) (by decide) (u - 6 * 999983)
  have la := nudge_le (n := 1000003) (a := v - 6 * 1000003)
  have lb := nudge_le (n := 999983) (a := u - 6 * 999983)
  refine ⟨.d (ptD ⟨nudge 1000003 (v - 6 * 1000003), 1000003, nudge 999983 (u - 6 * 999983), 999983⟩), m2, sv_ret0 (ev_tup (ds := [.tuple [.int (nudge 1000003 (v - 6 * 1000003)), .int 1000003], .tuple [.int (nudge 999983 (u - 6 * 999983)), .int 999983]]) (arg2 (ev_tup (ds := [.int (nudge 1000003 (v - 6 * 1000003)), .int 1000003]) (arg2 (ev_var rfl nofun) ev_int) rfl (by simp)) (ev_tup (ds := [.int (nudge 999983 (u - 6 * 999983)), .int 999983]) (arg2 (ev_nudge rfl (by decide)) ev_int) rfl (by simp))) rfl (by simp)), (r1.trans r2).len, rfl, fun j' e => ?_⟩
  cases e
  refine ⟨_, rfl, ptOk_mk (show (0 : Int) < 1000003 by decide) (show (0 : Int) < 999983 by decide) ?_ (show (1000003 : Int).natAbs ≤ 2 ^ 40 by decide) ?_ (show (999983 : Int).natAbs ≤ 2 ^ 40 by decide) ?_ ?_, r1.trans r2⟩
  · show (nudge 1000003 (v - 6 * 1000003)).natAbs ≤ _
    omega
  · show (nudge 999983 (u - 6 * 999983)).natAbs ≤ _
    omega
  · exact gcd_prime (n := 1000003) (by decide) (by decide) prime_a na
  · exact gcd_prime (n := 999983) (by decide) (by decide) prime_b nb'
end
end K01

set_option Elab.async false
set_option linter.all false
set_option maxRecDepth 100000
set_option maxHeartbeats 4000000
namespace K01
variable [DL.Tbs]
open PySem PySem.Spec PyProof.Rows L2 DL HX LamX
/-- _law_told(lambda: ..) -/
theorem pe_toldL {X : Cx} {T : List (Addr × Str)} {CS c Pt fT g : Addr} {fd fdT : FuncData} {spT : SpP} {t : XK → TE} {k : Nat} {params : Arguments} {body : Expr} {scope : Scope} {p lpos pos : Pos} (hg : Gl X "_law_told") (F : Fun X.K "_law_told" "_law_told" st__law_told g fd) (hm : X.mg "_law_told" = some (.ref g)) (hB : L2.Binds X.K fd ["_law_deed"] [])
    (mx : X.mg "PictureError" = some (.ref CS)) (mt : X.mg "_law_term" = some (.ref fT)) (kt : PySem.W.keepIn X.K (.ref fT) = true) (hbT : L2.Binds X.K fdT ["_law_e"] []) (FT : FnP X.prog X.w X.K X.mg X.base C8.CX0 1 fT fdT ["_law_e"] spT)
    (TB : TabB X.base X.mg c Pt) (hcode : X.env.code = .ref c) (hmT : (Pt, X.env.qual ++ "<lambda>") ∈ T) (hu : ∀ p ∈ T, p.1 = Pt → p.2 = X.env.qual ++ "<lambda>") (hr : Room (k + 2) X.A) (L : LamS X.env.scope scope) (hdef : defaultsOf params X.env = ([], []))
    (hbind : ∀ (q : Str) (cl : List (Str × Addr)) (pm cv ctv : Value), bindArgs (PySem.W.kla_fn "<lambda>" q params body scope cl pm cv ctv) ⟨[], []⟩ = pure [])
    (hbody : ∀ (A : Around) (outer : List Env) (s : Shared) (H : Hp) (E : XK) (f c' : Addr), Room k (A.deeper (lamEnv X scope s.heap.objs.size f c')) → PE (lamN X A outer s H E scope f c') body (t E)) :
    PE X (.Call (.Name "_law_told" p) [.Lambda params body scope lpos] [] pos) (tTold X.K T Pt CS spT t) := by
  obtain ⟨oc, od, kV, doc, pm, an, cdv, ct, osl, rfl, lk, hcd⟩ := F.ex
  exact pe_told (en := "_law_e") (Ng := N__law_told) hg hm F.kp lk hcd hB S__law_told rfl rfl (.inl rfl) rfl rfl rfl mx mt kt hbT FT (by omega) TB hcode hmT hu hr L hdef hbind hbody (by decide) (by decide) (by decide) (by decide) (by decide) (by decide) (by decide)
theorem passL {X : Cx} {A : Around} {outer : List Env} {s : Shared} {H : Hp} {E : XK} {scope : Scope} {f c' : Addr} : Passes (L2N.CX X.prog X.w) (lamN X A outer s H E scope f c') E :=
  L2N.passes_call (X := lamN X A outer s H E scope f c') (L2N.takes_of rfl rfl rfl rfl) fun _ _ _ _ h => h
/-- the body count_points((_law_bad,)) -/
theorem pe_lamBody {X : Cx} {k i : Nat} {g : List Sl → M → Res → M → Prop} {scope : Scope} {p1 p2 p3 p4 : Pos} {j : Nat} (D : DefX X.prog X.w X.K X.mg X.base k "count_points" ["drawing"] g) (hs : scope.names.lookup ("count_points" : Str) = some .globalImplicit) (hf : scope.names.lookup ("_law_bad" : Str) = some .free)
    (hN : X.N[i]? = some "_law_bad") (A : Around) (outer : List Env) (s : Shared) (H : Hp) (E : XK) (f c' : Addr) (hr : Room k (A.deeper (lamEnv X scope s.heap.objs.size f c'))) :
    PE (lamN X A outer s H E scope f c') (.Call (.Name "count_points" p1) [.Tuple [.Name "_law_bad" p2] j p3] [] p4) (tCall (spX X.K 1 g) [] E (tCons (tTup (tCons (tVar i) tNil)) tNil)) :=
  pe_def (X := lamN X A outer s H E scope f c') D hr hs passL (pa_cons (pe_tup (pa_cons (pe_var hN (.inr (.inr hf))) pa_nil)) pa_nil)
end K01

set_option Elab.async false
set_option linter.all false
set_option maxRecDepth 100000
set_option maxHeartbeats 4000000
set_option exponentiation.threshold 2000
namespace K01
variable [DL.Tbs]
open PySem PySem.Spec PyProof.Rows L2 DL HX GX RT SX StX
theorem draw_yes {ls : List PyData} (hl : ls.length ≤ 4) (hn : ls.all (nestedM 2) = true) (hp : ptsM (shapesM 2 ls) ≤ 60) : drawM (.tuple ls) = true := by
  show (decide ((ls.length : Int) ≤ 4) && ls.all (nestedM 2) && decide (ptsM (shapesM 2 ls) ≤ 60)) = true
  rw [hn, Bool.and_true, Bool.and_eq_true]
  exact ⟨decide_eq_true (by omega), decide_eq_true hp⟩
theorem fr_lay (q : Rat) : PyData.canLay0 (fr q) = true := by unfold fr; simp [PyData.canLay0, PyData.canLayAll0]
theorem frs_lay : ∀ v : Vl, PyData.canLayAll0 (v.map fr) = true
  | [] => by simp [PyData.canLayAll0]
  | q :: v => by simp [PyData.canLayAll0, fr_lay q, frs_lay v]
theorem frs_depth : ∀ v : Vl, PyData.depthAll (v.map fr) ≤ 5
  | [] => by simp [PyData.depthAll]
  | q :: v => by
    have := frs_depth v
    have h : PyData.depth (fr q) ≤ 5 := by unfold fr; simp [PyData.depth, PyData.depthAll]
    simp only [List.map_cons, PyData.depthAll]
    omega
theorem v_shaped (v : Vl) : SeqAt.shaped (vD v) = true := by
  show (PyData.canLay0 (.tuple (v.map fr)) && decide (PyData.depth (.tuple (v.map fr)) ≤ 64)) = true
  rw [Bool.and_eq_true]
  refine ⟨by simp only [PyData.canLay0]; exact frs_lay v, decide_eq_true ?_⟩
  have := frs_depth v
  simp only [PyData.depth]
  omega
theorem v_eqv (v : Vl) : PyData.eqv (vD v) (vD v) = true := by
  have key : ∀ v : Vl, PyData.eqvAll (v.map fr) (v.map fr) = true := by
    intro v
    induction v with
    | nil => simp [PyData.eqvAll]
    | cons q v ih =>
      have h : PyData.eqv (fr q) (fr q) = true := by
        rw [fr_pr, eqv_pr]
        exact decide_eq_true rfl
      simp only [List.map_cons, PyData.eqvAll, h, ih, Bool.and_self]
  show PyData.eqv (.tuple (v.map fr)) (.tuple (v.map fr)) = true
  simp only [PyData.eqv]
  exact key v
def errD (k : Nat) : PyData := .tuple [.str "error", .str (kinds.getD k "")]
theorem err_shaped : SeqAt.shaped (errD 11) = true ∧ SeqAt.shaped (errD 1) = true ∧ SeqAt.shaped (errD 4) = true := by decide +kernel
theorem err_eqv : PyData.eqv (errD 11) (errD 11) = true ∧ PyData.eqv (errD 1) (errD 1) = true ∧ PyData.eqv (errD 4) (errD 4) = true := by decide +kernel
/-- what is told of a painted point -/
def tolD : Option Vl → PyData
  | none => errD 11
  | some v => vD v
theorem tol_shaped (o : Option Vl) : SeqAt.shaped (tolD o) = true ∧ PyData.eqv (tolD o) (tolD o) = true := by
  cases o with
  | none => exact ⟨err_shaped.1, err_eqv.1⟩
  | some v => exact ⟨v_shaped v, v_eqv v⟩
def cases6 : List PyData := [.none, .tuple [], .tuple [.tuple [.int 0, .int 1]], .list [.tuple [.int 0, .int 1], .tuple [.int 0, .int 1]], .tuple [.tuple [.int 0, .int 1], .tuple [.int 2, .int 4]], .tuple [.tuple [.int 0, .int 1], .tuple [.int 1, .int 0]]]
def cases2 : List PyData := [.tuple [.tuple [.int 0, .int 1], .int 3], .tuple [.tuple [.int 0, .int 1], .tuple [.int 1, .int (-1)]]]
theorem cases_no : ∀ d, d ∈ cases6 ++ cases2 → pointM d = false := by
  intro d h
  simp only [cases6, cases2, List.cons_append, List.nil_append, List.mem_cons, List.not_mem_nil, or_false] at h
  rcases h with rfl | rfl | rfl | rfl | rfl | rfl | rfl | rfl <;> decide +kernel
def halfL : L1 := .plain (.fill ⟨true, [[(0, 0), (2, 0), (0, 2)]]⟩ [1, 0, 0] (1, 2))
def halfP : Pt := ⟨1, 2, 1, 2⟩
def zeroP : Pt := ⟨0, 1, 0, 1⟩
def halfV : Vl := [1 / 2, 1 / 2, 0, 0]
theorem half_paint : paintedM (spotM halfP) [halfL] = some halfV := by decide +kernel
theorem zero_paint : paintedM (spotM zeroP) [] = some zero4 := by decide +kernel
theorem half_data : vD halfV = .tuple [.tuple [.int 1, .int 2], .tuple [.int 1, .int 2], .tuple [.int 0, .int 1], .tuple [.int 0, .int 1]] := by
  have h : (1 / 2 : Rat).num = 1 ∧ (1 / 2 : Rat).den = 2 := by decide +kernel
  unfold vD halfV fr
  simp only [List.map_cons, List.map_nil, h.1, h.2]
  rfl
theorem half_draw : drawM (.tuple [l1D halfL]) = true ∧ okLs 2 (.tuple [l1D halfL]) = true := by decide +kernel
theorem zero_draw : drawM (.tuple []) = true ∧ okLs 2 (.tuple []) = true := by decide +kernel
theorem none_draw : drawM .none = false ∧ okLs 2 .none = true := by decide +kernel
theorem half_ok : DrOk [halfL] := by
  have s : shB 20 ⟨true, [[(0, 0), (2, 0), (0, 2)]]⟩ := by
    refine ⟨by simp, fun l hl => ?_⟩
    rw [List.mem_singleton.mp hl]
    refine ⟨by simp, fun p hp => ?_⟩
    simp only [List.mem_cons, List.not_mem_nil, or_false] at hp
    rcases hp with rfl | rfl | rfl <;> exact ⟨nb_far (by decide) _ (by decide), nb_far (by decide) _ (by decide)⟩
  have c : colB [1, 0, 0] := ⟨rfl, fun k hk => by
    simp only [List.mem_cons, List.not_mem_nil, or_false] at hk
    omega⟩
  have o : opB (1, 2) := by unfold opB; decide
  refine ⟨by simp, fun l hl => ?_, fun l hl => ?_⟩
  · rw [List.mem_singleton.mp hl]
    exact ⟨s, rfl⟩
  · rw [List.mem_singleton.mp hl]
    exact ⟨c, o⟩
theorem half_pt : PtOk halfP := ptOk_mk (by decide) (by decide) (by decide) (by decide) (by decide) (by decide) (by decide) (by decide)
theorem zero_pt : PtOk zeroP := ptOk_mk (by decide) (by decide) (by decide) (by decide) (by decide) (by decide) (by decide) (by decide)
/-- a whole or half point -/
theorem grid_pt {v u : Int} (h1 : 0 ≤ v) (h2 : v < 11) (h3 : 0 ≤ u) (h4 : u < 21) : PtOk ⟨v - 5, 1, (Rat.divInt (u - 10) 2).num, ((Rat.divInt (u - 10) 2).den : Int)⟩ := by
  have z := low_sz (t := u - 10) (b := 2) (k := 5) (by decide) (by omega) (by decide)
  have e5 : (2 : Nat) ^ 5 = 32 := by decide
  have e40 : (2 : Nat) ^ 40 = 1099511627776 := by decide
  obtain ⟨z1, z2⟩ := z
  refine ptOk_mk (show (0 : Int) < 1 by decide) (den_pos _) ?_ (show (1 : Int).natAbs ≤ 2 ^ 40 by decide) ?_ ?_ ?_ ?_
  · show (v - 5).natAbs ≤ _
    omega
  · show (Rat.divInt (u - 10) 2).num.natAbs ≤ _
    omega
  · show ((Rat.divInt (u - 10) 2).den : Int).natAbs ≤ _
    omega
  · show Int.gcd (v - 5) 1 = 1
    exact Int.gcd_one_right _
  · show Int.gcd (Rat.divInt (u - 10) 2).num ((Rat.divInt (u - 10) 2).den : Int) = 1
    exact (Rat.divInt (u - 10) 2).reduced
section
variable {P : Program} {w : World} {K : PySem.W.Frag} {mg : Str → Option Value} {base : Heap}
theorem turn_of {tb : TS} {es : List Sl} {m : M} {a : Addr} {k : Nat} (h : ∃ es2 m2, Sv K 0 tb es m (.nx es2 m2) ∧ ∃ es', es2 = .v (.ref a) :: es' ∧ es'.length = k) : ∃ es' m', Sv K 0 tb es m (.nx (.v (.ref a) :: es') m') ∧ es'.length = k := by
  obtain ⟨es2, m2, h, es', rfl, hl⟩ := h
  exact ⟨es', m2, h, hl⟩
theorem exN_for {es : List Sl} {m m1 : M} {n i : Nat} {wi : TI} {tb rest : TS} {ds : List PyData} {Q : List Sl → M → Prop} (J : Nat → List Sl → M → Prop) (hi : EvI K wi es m ds m1) (h0 : J 0 es m1)
    (st : ∀ (l : Nat) (d : PyData) (es : List Sl) (m : M), ds[l]? = some d → J l es m → ∃ es2 m2, (Sv K n tb (es.set i (.d d)) m (.nx es2 m2) ∨ Sv K n tb (es.set i (.d d)) m (.cnt es2 m2)) ∧ J (l + 1) es2 m2)
    (hd : ∀ es m, J ds.length es m → ∃ es2 m2, Sv K n rest es m (.nx es2 m2) ∧ Q es2 m2) : ∃ es2 m2, Sv K n (tSeq (tFor wi (gName i) tb) rest) es m (.nx es2 m2) ∧ Q es2 m2 := by
  obtain ⟨es', m', h1, h2⟩ := sv_forIe (n := n) (i := i) (tb := tb) J hi h0 st
  exact ex_then h1 (hd es' m' h2)
theorem ex_bind {n : Nat} {a b : TS} {es : List Sl} {m : M} {Q1 Q2 : List Sl → M → Prop} (h : ∃ es1 m1, Sv K n a es m (.nx es1 m1) ∧ Q1 es1 m1) (h2 : ∀ es1 m1, Q1 es1 m1 → ∃ es2 m2, Sv K n b es1 m1 (.nx es2 m2) ∧ Q2 es2 m2) : ∃ es2 m2, Sv K n (tSeq a b) es m (.nx es2 m2) ∧ Q2 es2 m2 := by
  obtain ⟨es1, m1, h1, q1⟩ := h
  obtain ⟨es2, m2, h3, q2⟩ := h2 es1 m1 q1
  exact ⟨es2, m2, sv_seq h1 h3, q2⟩
theorem ex_ifT {n : Nat} {tt : TT} {a b : TS} {es : List Sl} {m m1 : M} {Q : List Sl → M → Prop} (h : EvB K tt es m true m1) (h2 : ∃ es2 m2, Sv K n a es m1 (.nx es2 m2) ∧ Q es2 m2) : ∃ es2 m2, Sv K n (tIfS tt a b) es m (.nx es2 m2) ∧ Q es2 m2 := by
  obtain ⟨es2, m2, h3, q⟩ := h2
  exact ⟨es2, m2, sv_ifT h h3, q⟩
theorem ex_ifF {n : Nat} {tt : TT} {a b : TS} {es : List Sl} {m m1 : M} {Q : List Sl → M → Prop} (h : EvB K tt es m false m1) (h2 : ∃ es2 m2, Sv K n b es m1 (.nx es2 m2) ∧ Q es2 m2) : ∃ es2 m2, Sv K n (tIfS tt a b) es m (.nx es2 m2) ∧ Q es2 m2 := by
  obtain ⟨es2, m2, h3, q⟩ := h2
  exact ⟨es2, m2, sv_ifF h h3, q⟩
theorem ev_tpX {Pt : Addr} {q : Str} {D D1 D2 D3 : Addr} {cs : Cs} {k : Nat} {x p : PyData} {es : List Sl} {m : M} {ta : TA} (hmT : (Pt, q) ∈ Tbs.T) (eD : ErrD K cs k D) (hk : k < 15) (h : EvA K ta es m [.d x, .d p] m) (hg : g_painted D1 D2 D3 [.d x, .d p] m (.exc D) m) :
    EvE K (tTold K Tbs.T Pt cs.PictureError (spTerm K (R_term K cs)) fun E => tCall (spX K 2 (g_painted D1 D2 D3)) [] E ta) es m (.d (errD k)) m :=
  ev_told (D := D) (y := errD k) hmT (ex_call h hg rfl) eD.caught ⟨k, hk, eD, rfl⟩
theorem ev_tpO {Pt : Addr} {q : Str} {D1 D2 D3 : Addr} {cs : Cs} {x p y : PyData} {es : List Sl} {m : M} {ta : TA} (hmT : (Pt, q) ∈ Tbs.T) (h : EvA K ta es m [.d x, .d p] m) (hg : g_painted D1 D2 D3 [.d x, .d p] m (.ok (.d y)) m) :
    EvE K (tTold K Tbs.T Pt cs.PictureError (spTerm K (R_term K cs)) fun E => tCall (spX K 2 (g_painted D1 D2 D3)) [] E ta) es m (.d y) m :=
  ev_told0 hmT fun E => ok_call h hg rfl
theorem ev_err {es : List Sl} {m : M} (k : Nat) {s : Str} (h : kinds.getD k "" = s) : EvE K (tTup (tCons (tC (.str "error")) (tCons (tC (.str s)) tNil))) es m (.d (errD k)) m := by
  subst h
  exact ev_tup (arg2 ev_str ev_str) (ds := [.str "error", .str (kinds.getD k "")]) rfl (by simp)
def spLaw (K : PySem.W.Frag) : Sp := fun vs H Q _ => LamX.Tabs Tbs.T H ∧ ∃ (a : Addr) (ns : List Int), vs = [.ref a] ∧ SqL K H a (ns.map V.int) ∧ ns.length ≤ 63 ∧ ∀ H', Q (.bl true) H'
theorem c_law {k0 : Nat} (hk0 : 4 ≤ k0) {f cc Pt CS fT gT : Addr} {fd fdT fdTold : FuncData} {D1 D2 D3 : Addr} {cs : Cs} (F : Fun K "law" "law" st_law f fd) (hcc : fd.code = .ref cc) (b_len : mg "len" = none) (b_range : mg "range" = none)
    (D__law_rounds : DefC P w K mg base CX0 k0 "_law_rounds" ["_law_script", "_law_most"] (spRounds K)) (DEdr : DefE P w K mg base k0 "_law_drawing" ["_law_dice", "_law_many", "_law_far"] PreDr PostDr) (DEpt : DefE P w K mg base k0 "_law_point" ["_law_dice", "_law_far"] PrePt PostPt)
    (D__law_roll : DefC P w K mg base CX0 k0 "_law_roll" ["_law_dice", "_law_many"] (spD K 2 rollG)) (D__law_low : PureC P w K mg base k0 "_law_low" ["_law_top", "_law_bottom"] R_low)
    (D__law_shown : PureC P w K mg base k0 "_law_shown" ["_law_drawing_here", "_law_point_here"] R_lshown) (D__law_nothing : PureC P w K mg base k0 "_law_nothing" [] R_lnone) (D_painted : DefX P w K mg base k0 "painted" ["drawing", "point"] (g_painted D1 D2 D3))
    (FTold : Fun K "_law_told" "_law_told" st__law_told gT fdTold) (mTold : mg "_law_told" = some (.ref gT)) (bTold : L2.Binds K fdTold ["_law_deed"] []) (mPE : mg "PictureError" = some (.ref CS)) (mTerm : mg "_law_term" = some (.ref fT)) (kTerm : PySem.W.keepIn K (.ref fT) = true) (bTerm : L2.Binds K fdT ["_law_e"] [])
    (FTerm : FnP P w K mg base C8.CX0 1 fT fdT ["_law_e"] (spTerm K (R_term K cs))) (TB : LamX.TabB base mg cc Pt) (hmT : (Pt, ("law.<locals>." : Str) ++ "<lambda>") ∈ Tbs.T) (huT : ∀ p ∈ Tbs.T, p.1 = Pt → p.2 = ("law.<locals>." : Str) ++ "<lambda>")
    (eD1 : ErrD K cs 4 D1) (eD2 : ErrD K cs 1 D2) (eD3 : ErrD K cs 11 D3) (hPE : cs.PictureError = CS) : FnOk P w K mg base CX0 (k0 + 3) f fd ["_law_script"] (spLaw K) := by
  obtain ⟨oc, od, kV, doc, pm, an, cdv, ct, osl, rfl, lk, hcd⟩ := F.ex
  obtain rfl : cdv = .ref cc := hcc
  subst hPE
  obtain ⟨gD, hgD, D__law_drawing⟩ := DEdr
  obtain ⟨gP, hgP, D__law_point⟩ := DEpt
  refine fn_of lk hcd S_law (fun vs H Q E h => by obtain ⟨_, a, ns, rfl, _⟩ := h; rfl) fun A outer s H vs Q E hr h => ?_
  obtain ⟨tb0, a, ns, rfl, hS, hn, q⟩ := h
  have hu := hr.units
  have hrT := hr
  have hcode : (cxOf CX0 P w K mg base N_law "law" (defScope st_law) f (.ref cc) A outer s H E).nox.env.code = .ref cc := rfl
  refine ⟨_, L2.PSs.nox (pss_cons (ps_for PassesOwn.never rfl (kSeq (K := K) (pe_def D__law_rounds (hr.mono (by omega)) (by rfl) pass0 (pa_cons (pv 0) (pa_cons pe_int pa_nil)))) (pg_name (i := 1) S_law.nd rfl (Or.inl rfl)) (pss_cons (ps_set (i := 2) S_law.nd rfl (Or.inr rfl) (pe_def D__law_drawing (hr.mono (by omega)) (by rfl) pass0 (pa_cons (pv 1) (pa_cons pe_int (pa_cons pe_int pa_nil)))))
      (pss_cons (ps_for PassesOwn.never rfl (pi_range1 (by rfl) b_range (pa_cons pe_int pa_nil)) (pg_name (i := 3) S_law.nd rfl (Or.inl rfl)) (pss_cons (ps_set (i := 4) S_law.nd rfl (Or.inr rfl) (pe_def D__law_point (hr.mono (by omega)) (by rfl) pass0 (pa_cons (pv 1) (pa_cons pe_int pa_nil))))
      (pss_cons (ps_if (pt_cmpR (kEq (K := K) hu) (pe_def D__law_roll (hr.mono (by omega)) (by rfl) pass0 (pa_cons (pv 1) (pa_cons pe_int pa_nil))) pe_int (nomark _)) (pss_one (ps_set (i := 4) S_law.nd rfl (Or.inr rfl) (pe_tup (pa_cons (pe_tup (pa_cons (pe_op op_sub (pe_def D__law_roll (hr.mono (by omega)) (by rfl) pass0 (pa_cons (pv 1) (pa_cons pe_int pa_nil))) pe_int) (pa_cons pe_int pa_nil))) (pa_cons (pe_def D__law_low (hr.mono (by omega)) (by rfl) pass0 (pa_cons (pe_op op_sub (pe_def D__law_roll (hr.mono (by omega)) (by rfl) pass0 (pa_cons (pv 1) (pa_cons pe_int pa_nil))) pe_int) (pa_cons pe_int pa_nil))) pa_nil))))) pss_nil)
      (pss_cons (ps_set (i := 5) S_law.nd rfl (Or.inl rfl) (pe_def D__law_shown (hr.mono (by omega)) (by rfl) pass0 (pa_cons (pv 2) (pa_cons (pv 4) pa_nil))))
      (pss_cons (ps_set (i := 6) S_law.nd rfl (Or.inl rfl) (pe_toldL (T := Tbs.T) (by rfl) FTold mTold bTold mPE mTerm kTerm bTerm FTerm TB hcode hmT huT hrT (LamX.lamS_by (sc := defScope st_law) (by decide +kernel)) rfl (fun _ _ _ _ _ => rfl) (fun A o s H E f c' r => pe_def D_painted r (by rfl) passL (pa_cons (pv 2) (pa_cons (pv 4) pa_nil)))))
      (pss_one (ps_if (pt_cmpR (kNe (K := K) hu) (pv 6) (pe_ifExp (pt_cmpR op_isN (pv 5) pe_non (nomark _)) (pe_tup (pa_cons pe_str (pa_cons pe_str pa_nil))) (pv 5)) (nomark _)) (pss_one (ps_ret pe_bl)) pss_nil)))))))
      (pss_cons (ps_set (i := 7) S_law.nd rfl (Or.inl rfl) (pe_lst (pa_cons pe_non (pa_cons (pe_tup pa_nil) (pa_cons (pe_tup (pa_cons (pe_tup (pa_cons pe_int (pa_cons pe_int pa_nil))) pa_nil)) (pa_cons (pe_lst (pa_cons (pe_tup (pa_cons pe_int (pa_cons pe_int pa_nil))) (pa_cons (pe_tup (pa_cons pe_int (pa_cons pe_int pa_nil))) pa_nil))) (pa_cons (pe_tup (pa_cons (pe_tup (pa_cons pe_int (pa_cons pe_int pa_nil))) (pa_cons (pe_tup (pa_cons pe_int (pa_cons pe_int pa_nil))) pa_nil))) (pa_cons (pe_tup (pa_cons (pe_tup (pa_cons pe_int (pa_cons pe_int pa_nil))) (pa_cons (pe_tup (pa_cons pe_int (pa_cons pe_int pa_nil))) pa_nil))) pa_nil))))))))
      (pss_cons (ps_set (i := 7) S_law.nd rfl (Or.inl rfl) (pe_op (kAdd (K := K)) (pv 7) (pe_lst (pa_cons (pe_tup (pa_cons (pe_tup (pa_cons pe_int (pa_cons pe_int pa_nil))) (pa_cons pe_int pa_nil))) (pa_cons (pe_tup (pa_cons (pe_tup (pa_cons pe_int (pa_cons pe_int pa_nil))) (pa_cons (pe_tup (pa_cons pe_int (pa_cons (pe_un un_neg pe_int) pa_nil))) pa_nil))) pa_nil)))))
      (pss_cons (ps_for PassesOwn.never rfl (kSeq (K := K) (pv 7)) (pg_name (i := 8) S_law.nd rfl (Or.inr rfl)) (pss_one (ps_if (pt_cmpR (kNe (K := K) hu) (pe_toldL (T := Tbs.T) (by rfl) FTold mTold bTold mPE mTerm kTerm bTerm FTerm TB hcode hmT huT hrT (LamX.lamS_by (sc := defScope st_law) (by decide +kernel)) rfl (fun _ _ _ _ _ => rfl) (fun A o s H E f c' r => pe_def D_painted r (by rfl) passL (pa_cons (pv 2) (pa_cons (pv 8) pa_nil)))) (pe_tup (pa_cons pe_str (pa_cons pe_str pa_nil))) (nomark _)) (pss_one (ps_ret pe_bl)) pss_nil)))
      (pss_cons (ps_set (i := 9) S_law.nd rfl (Or.inl rfl) (pe_tup (pa_cons (pe_tup (pa_cons pe_str (pa_cons (pe_tup (pa_cons pe_str (pa_cons (pe_tup (pa_cons (pe_tup (pa_cons (pe_tup (pa_cons pe_int (pa_cons pe_int pa_nil))) (pa_cons (pe_tup (pa_cons pe_int (pa_cons pe_int pa_nil))) (pa_cons (pe_tup (pa_cons pe_int (pa_cons pe_int pa_nil))) pa_nil)))) pa_nil)) pa_nil))) (pa_cons (pe_tup (pa_cons pe_int (pa_cons pe_int (pa_cons pe_int pa_nil)))) (pa_cons (pe_tup (pa_cons pe_int (pa_cons pe_int pa_nil))) pa_nil))))) pa_nil)))
      (pss_cons (ps_if (pt_cmpR (kNe (K := K) hu) (pe_def D_painted (hr.mono (by omega)) (by rfl) passN0 (pa_cons (pv 9) (pa_cons (pe_tup (pa_cons (pe_tup (pa_cons pe_int (pa_cons pe_int pa_nil))) (pa_cons (pe_tup (pa_cons pe_int (pa_cons pe_int pa_nil))) pa_nil))) pa_nil))) (pe_tup (pa_cons (pe_tup (pa_cons pe_int (pa_cons pe_int pa_nil))) (pa_cons (pe_tup (pa_cons pe_int (pa_cons pe_int pa_nil))) (pa_cons (pe_tup (pa_cons pe_int (pa_cons pe_int pa_nil))) (pa_cons (pe_tup (pa_cons pe_int (pa_cons pe_int pa_nil))) pa_nil))))) (nomark _)) (pss_one (ps_ret pe_bl)) pss_nil)
      (pss_cons (ps_if (pt_cmpR (kNe (K := K) hu) (pe_def D_painted (hr.mono (by omega)) (by rfl) passN0 (pa_cons (pe_tup pa_nil) (pa_cons (pe_tup (pa_cons (pe_tup (pa_cons pe_int (pa_cons pe_int pa_nil))) (pa_cons (pe_tup (pa_cons pe_int (pa_cons pe_int pa_nil))) pa_nil))) pa_nil))) (GX.pe_def0 D__law_nothing (hr.mono (by omega)) (by rfl) pass0) (nomark _)) (pss_one (ps_ret pe_bl)) pss_nil)
      (pss_one (ps_if (pt_cmpR (kNe (K := K) hu) (pe_toldL (T := Tbs.T) (by rfl) FTold mTold bTold mPE mTerm kTerm bTerm FTerm TB hcode hmT huT hrT (LamX.lamS_by (sc := defScope st_law) (by decide +kernel)) rfl (fun _ _ _ _ _ => rfl) (fun A o s H E f c' r => pe_def D_painted r (by rfl) passL (pa_cons pe_non (pa_cons pe_non pa_nil)))) (pe_tup (pa_cons pe_str (pa_cons pe_str pa_nil))) (nomark _)) (pss_one (ps_ret pe_bl)) pss_nil)))))))))))
      (pss_one (ps_ret pe_bl))), ?_⟩
  refine law_loop (K := K) (a := a) (L := 10) (es0 := [.no, .no, .no, .no, .no, .no, .no, .no]) rfl rfl (by simp) (fun R hR => ?_) (fun x => ?_) (fun σ' H' => q H') tb0
  · exact .inr ⟨_, rfl, ⟨tb0, a, ns, 5, rfl, hS, by omega, by decide, fun D rs xs H' e1 t1 e2 e3 e4 e5 e6 e7 e8 => ⟨D, rfl, ⟨_, .inl (.inl e3)⟩, hR D rs xs H' e1 t1 e2 e3 e4 e5 e6 e7 e8⟩⟩⟩
  · clear hr hu hrT
    obtain ⟨r1, m1, ev1, p1⟩ := ex_callE (K := K) (E := E0) (n := 3) hgD (ta := tCons (tVar 1) (tCons (tC (.int 3)) (tCons (tC (.int 4)) tNil))) (es := [.v (.ref a), .c 0, .no, .no, .no, .no, .no, .no, .no, .no]) (m := [[.int x, .int 0]]) (ea_cons (ev_var rfl nofun) (arg2 ev_int ev_int)) ⟨0, 3, 4, rfl, ⟨x, 0, rfl⟩, by decide, by decide, by decide, by decide⟩ rfl
    obtain ⟨ls0, rfl, hl3, ⟨hls, hpts⟩, hro⟩ := p1 0 3 4 rfl
    have hok : ∀ l, l ∈ ls0 → okL 2 l = true := fun l h => (layer_ok (by decide) 1 (hls l h)).2
    have hnest : ∀ l, l ∈ ls0 → nestedM 2 l = true := fun l h => (layer_ok (by decide) 1 (hls l h)).1
    have hdm : drawM (.tuple ls0) = true := draw_yes (by omega) (List.all_eq_true.mpr hnest) (by omega)
    have hko : okLs 2 (.tuple ls0) = true := List.all_eq_true.mpr hok
    obtain ⟨ls, rfl, hty⟩ := typed layer_t ls0 hls
    rw [List.length_map] at hl3
    have hl3 : ls.length ≤ 3 := by omega
    have hdr := okp_dr hty hl3
    have hdie := hro.die (show 0 < [[PyData.int x, PyData.int 0]].length from Nat.succ_pos 0)
    refine turn_of ?_
    refine ex_then (sv_set ev1) ?_
    have tp : ∀ (p : RT.Pt), PtOk p → ∀ {es : List Sl} {m : M}, es[2]? = some (.d (.tuple (ls.map l1D))) → es[4]? = some (.d (ptD p)) → EvE K (tTold K Tbs.T Pt cs.PictureError (spTerm K (R_term K cs)) fun E => tCall (spX K 2 (g_painted D1 D2 D3)) [] E (tCons (tVar 2) (tCons (tVar 4) tNil))) es m (.d (tolD (paint1s p still ls zero4))) m := by
      intro p hp es m h2 h4
      have hpe := painted_eq (isSpot hp.x1 hp.y1) (ls := ls) fun l hl => l1Ok_ok (okp_l1 (hty l hl))
      have ha : EvA K (tCons (tVar 2) (tCons (tVar 4) tNil)) es m [.d (.tuple (ls.map l1D)), .d (ptD p)] m := arg2 (ev_var h2 nofun) (ev_var h4 nofun)
      cases hq : paint1s p still ls zero4 with
      | none =>
        rw [hq] at hpe
        exact ev_tpX hmT eD3 (by decide) ha ⟨rfl, _, _, rfl, hko, .inr (.inr ⟨hdm, hp.m, ls, p, rfl, hdr, rfl, hp.x1, hp.y1, hp.B, by rw [hpe] <;> rfl⟩)⟩
      | some v =>
        rw [hq] at hpe
        exact ev_tpO hmT ha ⟨rfl, _, _, rfl, hko, .inr (.inr ⟨hdm, hp.m, ls, p, rfl, hdr, rfl, hp.x1, hp.y1, hp.B, by rw [hpe] <;> rfl⟩)⟩
    refine exN_for (i := 3) (ds := rangeD 0 (6 : Int).toNat) (m1 := m1) (fun _ es m2 => (∃ x3 x4 x5 x6, es = [.v (.ref a), .c 0, .d (.tuple (ls.map l1D)), x3, x4, x5, x6, .no, .no, .no]) ∧ DieAt m2 0) (ei_rng1 (arg1 ev_int) (by omega) (by omega)) ⟨⟨_, _, _, _, rfl⟩, hdie⟩ ?turn ?cases
    case turn =>
      rintro l d es m2 hd' ⟨⟨x3, x4, x5, x6, rfl⟩, hdie2⟩
      obtain ⟨hl6, rfl⟩ := rangeD_get hd'
      obtain ⟨r2, m3, evp, pp⟩ := ex_callE (K := K) (E := E0) (n := 2) hgP (ta := tCons (tVar 1) (tCons (tC (.int 6)) tNil)) (es := [.v (.ref a), .c 0, .d (.tuple (ls.map l1D)), .d (.int (0 + (l : Int))), x4, x5, x6, .no, .no, .no]) (m := m2) (arg2 (ev_var rfl nofun) ev_int) ⟨0, rfl, hdie2⟩ rfl
      obtain ⟨p0, rfl, hp0, hro3⟩ := pp 0 rfl
      have hdie3 := hro3.die hdie2.lt
      refine ex_one (ex_then (sv_set evp) ?_)
      obtain ⟨v, m4, evr, v0, v1, hro4⟩ := ex_roll (K := K) (E := E0) (es := [.v (.ref a), .c 0, .d (.tuple (ls.map l1D)), .d (.int (0 + (l : Int))), .d (ptD p0), x5, x6, .no, .no, .no]) (m := m3) (i := 1) (te := tC (.int 2)) rfl ev_int hdie3 (by decide) (by decide)
      have hdie4 := hro4.die hdie3.lt
      refine ex_bind (Q1 := fun es2 m5 => ∃ p : RT.Pt, PtOk p ∧ es2 = [.v (.ref a), .c 0, .d (.tuple (ls.map l1D)), .d (.int (0 + (l : Int))), .d (ptD p), x5, x6, .no, .no, .no] ∧ DieAt m5 0) ?grid ?rest
      case grid =>
        by_cases hv : v = 0
        · obtain ⟨gx, m5, evx, gx0, gx1, hro5⟩ := ex_roll (K := K) (E := E0) (es := [.v (.ref a), .c 0, .d (.tuple (ls.map l1D)), .d (.int (0 + (l : Int))), .d (ptD p0), x5, x6, .no, .no, .no]) (m := m4) (i := 1) (te := tC (.int 11)) rfl ev_int hdie4 (by decide) (by decide)
          have hdie5 := hro5.die hdie4.lt
          obtain ⟨gy, m6, evy, gy0, gy1, hro6⟩ := ex_roll (K := K) (E := E0) (es := [.v (.ref a), .c 0, .d (.tuple (ls.map l1D)), .d (.int (0 + (l : Int))), .d (ptD p0), x5, x6, .no, .no, .no]) (m := m5) (i := 1) (te := tC (.int 21)) rfl ev_int hdie5 (by decide) (by decide)
          have hdie6 := hro6.die hdie5.lt
          have gp := grid_pt gx0 gx1 gy0 gy1
          refine ex_ifT (eb_cast (eb_test (ev_op evr ev_int o_eqI)) (by rw [hv]; rfl)) ⟨_, m6, sv_set (r := .d (ptD ⟨gx - 5, 1, (Rat.divInt (gy - 10) 2).num, ((Rat.divInt (gy - 10) 2).den : Int)⟩)) (ev_tup (ds := [.tuple [.int (gx - 5), .int 1], fr (Rat.divInt (gy - 10) 2)]) (arg2 (ev_tup (ds := [.int (gx - 5), .int 1]) (arg2 (ev_sub evx ev_int) ev_int) rfl (by simp)) (ev_pure (arg2 (ev_sub evy ev_int) ev_int) (ds := [.int (gy - 10), .int 2]) rfl (low_of (k := 10) (by decide) (Nat.le_trans (show (gy - 10).natAbs ≤ 10 by omega) (by decide)) (by decide) (by decide)) rfl)) rfl (by simp)), _, gp, rfl, hdie6⟩
        · exact ex_ifF (eb_cast (eb_test (ev_op evr ev_int o_eqI)) (by simpa using hv)) ⟨_, m4, sv_next, p0, hp0, rfl, hdie4⟩
      case rest =>
        rintro es2 m5 ⟨p, hp, rfl, hdie5⟩
        refine ex_then (m1 := m5) (sv_set (r := .d (valD (paint1s p still ls zero4))) (ev_pure (arg2 (ev_var rfl nofun) (ev_var rfl nofun)) (ds := [.tuple (ls.map l1D), ptD p]) rfl ⟨ls, p, rfl, hl3, hty, hp.B, rfl⟩ rfl)) ?_
        refine ex_then (m1 := m5) (sv_set (r := .d (tolD (paint1s p still ls zero4))) (tp p hp rfl rfl)) ?_
        refine ⟨_, m5, sv_ifF (m1 := m5) (eb_cast (eb_test (ev_op (y := tolD (paint1s p still ls zero4)) (ev_var rfl nofun) ?due (o_neD (tol_shaped _).1 (tol_shaped _).1))) (by rw [(tol_shaped _).2]; rfl)) sv_next, ⟨_, _, _, _, rfl⟩, hdie5⟩
        cases hq : paint1s p still ls zero4 with
        | none => exact ev_ifT (eb_cast (eb_test (ev_op (ev_var (r := .d .none) rfl nofun) ev_non o_isN)) rfl) (ev_err 11 rfl)
        | some v => exact ev_ifF (eb_cast (eb_test (ev_op (ev_var (r := .d (vD v)) rfl nofun) ev_non o_isN)) rfl) (ev_var (r := .d (vD v)) rfl nofun)
    case cases =>
      rintro es m3 ⟨⟨x3, x4, x5, x6, rfl⟩, _⟩
      have i01 : ∀ {es : List Sl} {m : M} (i j : Int), EvE K (tTup (tCons (tC (.int i)) (tCons (tC (.int j)) tNil))) es m (.d (.tuple [.int i, .int j])) m := fun i j => ev_tup (ds := [.int i, .int j]) (arg2 ev_int ev_int) rfl (by simp)
      refine ex_then (sv_cell (ds := cases6) (m1 := m3) (el_lst (ds := cases6) (ea_cons ev_non (ea_cons (ev_tup (ds := []) ea_nil rfl (by simp)) (ea_cons (ev_tup (ds := [.tuple [.int 0, .int 1]]) (arg1 (i01 0 1)) rfl (by simp)) (ea_cons (ev_lst (ds := [.tuple [.int 0, .int 1], .tuple [.int 0, .int 1]]) (arg2 (i01 0 1) (i01 0 1)) rfl (by simp)) (arg2 (ev_tup (ds := [.tuple [.int 0, .int 1], .tuple [.int 2, .int 4]]) (arg2 (i01 0 1) (i01 2 4)) rfl (by simp)) (ev_tup (ds := [.tuple [.int 0, .int 1], .tuple [.int 1, .int 0]]) (arg2 (i01 0 1) (i01 1 0)) rfl (by simp))))))) rfl (by simp [cases6]))) ?_
      refine ex_then (sv_set (r := .d (.list (cases6 ++ cases2))) (m1 := m3 ++ [cases6]) (el_d (el_cat rfl (el_lst (ds := cases2) (arg2 (ev_tup (ds := [.tuple [.int 0, .int 1], .int 3]) (arg2 (i01 0 1) ev_int) rfl (by simp)) (ev_tup (ds := [.tuple [.int 0, .int 1], .tuple [.int 1, .int (-1)]]) (arg2 (i01 0 1) (ev_tup (ds := [.int 1, .int (-1)]) (arg2 ev_int (ev_un ev_int o_neg)) rfl (by simp))) rfl (by simp))) rfl (by simp [cases2])) last_get (by simp [cases6, cases2])))) ?_
      refine exN_for (i := 8) (ds := cases6 ++ cases2) (m1 := m3 ++ [cases6]) (fun _ es m4 => m4 = m3 ++ [cases6] ∧ ∃ b, es = [.v (.ref a), .c 0, .d (.tuple (ls.map l1D)), x3, x4, x5, x6, .d (.list (cases6 ++ cases2)), b, .no]) (ei_seqL (ev_var rfl nofun)) ⟨rfl, .no, rfl⟩ ?st1 ?fin1
      case st1 =>
        rintro l d es m4 hd ⟨rfl, b, rfl⟩
        have f1 := cases_no d (List.mem_of_getElem? hd)
        refine ex_one ⟨_, _, sv_ifF (m1 := m3 ++ [cases6]) (eb_cast (eb_test (ev_op (ev_tpX (x := .tuple (ls.map l1D)) (p := d) hmT eD2 (by decide) (arg2 (ev_var rfl nofun) (ev_var rfl nofun)) ⟨rfl, _, _, rfl, hko, .inr (.inl ⟨hdm, f1, rfl⟩)⟩) (ev_err 1 rfl) (o_neD err_shaped.2.1 err_shaped.2.1))) (by rw [err_eqv.2.1]; rfl)) sv_next, rfl, .d d, rfl⟩
      case fin1 =>
        rintro es m4 ⟨rfl, b, rfl⟩
        refine ex_then (m1 := m3 ++ [cases6]) (sv_set (r := .d (.tuple [l1D halfL])) (ev_tup (ds := [l1D halfL]) (arg1 (ev_tup (ds := [.str "fill", shD ⟨true, [[(0, 0), (2, 0), (0, 2)]]⟩, .tuple [.int 1, .int 0, .int 0], .tuple [.int 1, .int 2]]) (ea_cons ev_str (ea_cons (ev_tup (ds := [.str "odd", .tuple [.tuple [.tuple [.int 0, .int 0], .tuple [.int 2, .int 0], .tuple [.int 0, .int 2]]]]) (arg2 ev_str (ev_tup (ds := [.tuple [.tuple [.int 0, .int 0], .tuple [.int 2, .int 0], .tuple [.int 0, .int 2]]]) (arg1 (ev_tup (ds := [.tuple [.int 0, .int 0], .tuple [.int 2, .int 0], .tuple [.int 0, .int 2]]) (ea_cons (i01 0 0) (arg2 (i01 2 0) (i01 0 2))) rfl (by simp))) rfl (by simp))) rfl (by simp)) (arg2 (ev_tup (ds := [.int 1, .int 0, .int 0]) (ea_cons ev_int (arg2 ev_int ev_int)) rfl (by simp)) (i01 1 2)))) rfl (by simp))) rfl (by simp))) ?_
        refine ex_then (m1 := m3 ++ [cases6]) (sv_ifF (m1 := m3 ++ [cases6]) (eb_cast (eb_test (ev_op (x := vD halfV) (y := vD halfV) (ok_call (r := .d (vD halfV)) (m2 := m3 ++ [cases6]) (rs := [.d (.tuple [l1D halfL]), .d (ptD halfP)]) (arg2 (ev_var rfl nofun) (ev_tup (ds := [.tuple [.int 1, .int 2], .tuple [.int 1, .int 2]]) (arg2 (i01 1 2) (i01 1 2)) rfl (by simp))) ⟨rfl, _, _, rfl, half_draw.2, .inr (.inr ⟨half_draw.1, half_pt.m, [halfL], halfP, rfl, half_ok, rfl, half_pt.x1, half_pt.y1, half_pt.B, by rw [half_paint] <;> rfl⟩)⟩ rfl) (ev_cast (ev_tup (ds := [.tuple [.int 1, .int 2], .tuple [.int 1, .int 2], .tuple [.int 0, .int 1], .tuple [.int 0, .int 1]]) (ea_cons (i01 1 2) (ea_cons (i01 1 2) (arg2 (i01 0 1) (i01 0 1)))) rfl (by simp)) (by rw [half_data])) (o_neD (v_shaped _) (v_shaped _)))) (by rw [v_eqv]; rfl)) sv_next) ?_
        refine ex_then (m1 := m3 ++ [cases6]) (sv_ifF (m1 := m3 ++ [cases6]) (eb_cast (eb_test (ev_op (x := vD zero4) (y := vD zero4) (ok_call (r := .d (vD zero4)) (m2 := m3 ++ [cases6]) (rs := [.d (.tuple []), .d (ptD zeroP)]) (arg2 (ev_tup (ds := []) ea_nil rfl (by simp)) (ev_tup (ds := [.tuple [.int 0, .int 1], .tuple [.int 0, .int 1]]) (arg2 (i01 0 1) (i01 0 1)) rfl (by simp))) ⟨rfl, _, _, rfl, zero_draw.2, .inr (.inr ⟨zero_draw.1, zero_pt.m, [], zeroP, rfl, ⟨by simp, by simp, by simp⟩, rfl, zero_pt.x1, zero_pt.y1, zero_pt.B, by rw [zero_paint] <;> rfl⟩)⟩ rfl) (ev_pure ea_nil (ds := []) rfl ⟨rfl, rfl⟩ rfl) (o_neD (v_shaped _) (v_shaped _)))) (by rw [v_eqv]; rfl)) sv_next) ?_
        refine ⟨_, _, sv_ifF (m1 := m3 ++ [cases6]) (eb_cast (eb_test (ev_op (ev_tpX (x := .none) (p := .none) hmT eD1 (by decide) (arg2 ev_non ev_non) ⟨rfl, _, _, rfl, none_draw.2, .inl ⟨none_draw.1, rfl⟩⟩) (ev_err 4 rfl) (o_neD err_shaped.2.2 err_shaped.2.2))) (by rw [err_eqv.2.2]; rfl)) sv_next, _, rfl, rfl⟩
end
end K01

set_option Elab.async false
set_option linter.all false
set_option maxRecDepth 100000
set_option maxHeartbeats 4000000
namespace K01
open PySem PySem.Spec PyProof.Rows L2 DL
structure Top (K : PySem.W.Frag) (mg : Str → Option Value) : Prop where
  d_is_whole : DefT K mg "is_whole" st_is_whole ["value"]
  d_are_whole : DefT K mg "are_whole" st_are_whole ["value", "many", "low", "high"]
  d_is_fraction : DefT K mg "is_fraction" st_is_fraction ["value"]
  d_are_fractions : DefT K mg "are_fractions" st_are_fractions ["value", "many"]
  d_is_point : DefT K mg "is_point" st_is_point ["value"]
  d_lowest : DefT K mg "lowest" st_lowest ["top", "bottom"]
  d_plus : DefT K mg "plus" st_plus ["one", "other"]
  d_times : DefT K mg "times" st_times ["one", "other"]
  d_rest_of : DefT K mg "rest_of" st_rest_of ["fraction"]
  d_is_loop : DefT K mg "is_loop" st_is_loop ["value"]
  d_is_shape : DefT K mg "is_shape" st_is_shape ["value"]
  d_is_colour : DefT K mg "is_colour" st_is_colour ["value"]
  d_is_opacity : DefT K mg "is_opacity" st_is_opacity ["value"]
  d_is_matrix : DefT K mg "is_matrix" st_is_matrix ["value"]
  d_is_fill : DefT K mg "is_fill" st_is_fill ["value"]
  d_is_rub : DefT K mg "is_rub" st_is_rub ["value"]
  d_is_group : DefT K mg "is_group" st_is_group ["value", "deepest"]
  d_is_nested_layer : DefT K mg "is_nested_layer" st_is_nested_layer ["value", "deepest"]
  d_are_layers : DefT K mg "are_layers" st_are_layers ["value", "deepest"]
  d_list_shapes : DefT K mg "list_shapes" st_list_shapes ["layers"]
  d_add_points : DefT K mg "add_points" st_add_points ["layers"]
  d_is_drawing : DefT K mg "is_drawing" st_is_drawing ["value"]
  d_check_drawing : DefT K mg "check_drawing" st_check_drawing ["value"]
  d_make_spot : DefT K mg "make_spot" st_make_spot ["x", "y", "scale"]
  d_spot_of : DefT K mg "spot_of" st_spot_of ["point"]
  d_edges_of : DefT K mg "edges_of" st_edges_of ["loop"]
  d_side_of : DefT K mg "side_of" st_side_of ["edge", "spot"]
  d_is_between : DefT K mg "is_between" st_is_between ["one", "other", "number"]
  d_is_on_edge : DefT K mg "is_on_edge" st_is_on_edge ["edge", "spot"]
  d_is_on_shape : DefT K mg "is_on_shape" st_is_on_shape ["shape", "spot"]
  d_count_turns : DefT K mg "count_turns" st_count_turns ["loop", "spot"]
  d_is_inside : DefT K mg "is_inside" st_is_inside ["shape", "spot"]
  d_lead : DefT K mg "lead" st_lead ["matrix", "pair"]
  d_follow : DefT K mg "follow" st_follow ["outer", "inner"]
  d_place_shape : DefT K mg "place_shape" st_place_shape ["shape", "matrix"]
  d_place_group : DefT K mg "place_group" st_place_group ["group", "matrix"]
  d_place_layer : DefT K mg "place_layer" st_place_layer ["layer", "matrix"]
  d_place_layers : DefT K mg "place_layers" st_place_layers ["layers", "matrix"]
  d_filled : DefT K mg "filled" st_filled ["colour", "opacity"]
  d_weakened : DefT K mg "weakened" st_weakened ["value", "fraction"]
  d_laying : DefT K mg "laying" st_laying ["value"]
  d_laid : DefT K mg "laid" st_laid ["effects"]
  d_stack_layer : DefT K mg "stack_layer" st_stack_layer ["layer", "numbers"]
  d_stack_up : DefT K mg "stack_up" st_stack_up ["layers", "numbers"]
  d_shown_by_group : DefT K mg "shown_by_group" st_shown_by_group ["group", "inside"]
  d_effect_of : DefT K mg "effect_of" st_effect_of ["layer", "inside"]
  d_shown : DefT K mg "shown" st_shown ["stack", "inside"]
  d_check_point : DefT K mg "check_point" st_check_point ["value"]
  d_painted : DefT K mg "painted" st_painted ["drawing", "point"]
  d__law_cell : DefT K mg "_law_cell" st__law_cell ["_law_script", "_law_k"]
  d__law_drawn : DefT K mg "_law_drawn" st__law_drawn ["_law_cell_here", "_law_k"]
  d__law_roll : DefT K mg "_law_roll" st__law_roll ["_law_dice", "_law_many"]
  d__law_rounds : DefT K mg "_law_rounds" st__law_rounds ["_law_script", "_law_most"]
  d__law_term : DefT K mg "_law_term" st__law_term ["_law_e"]
  d__law_told : DefT K mg "_law_told" st__law_told ["_law_deed"]
  d__law_low : DefT K mg "_law_low" st__law_low ["_law_top", "_law_bottom"]
  d__law_plus : DefT K mg "_law_plus" st__law_plus ["_law_one", "_law_other"]
  d__law_minus : DefT K mg "_law_minus" st__law_minus ["_law_one", "_law_other"]
  d__law_times : DefT K mg "_law_times" st__law_times ["_law_one", "_law_other"]
  d__law_loop : DefT K mg "_law_loop" st__law_loop ["_law_dice", "_law_far"]
  d__law_shape : DefT K mg "_law_shape" st__law_shape ["_law_dice", "_law_far"]
  d__law_opacity : DefT K mg "_law_opacity" st__law_opacity ["_law_dice"]
  d__law_matrix : DefT K mg "_law_matrix" st__law_matrix ["_law_dice"]
  d__law_layer : DefT K mg "_law_layer" st__law_layer ["_law_dice", "_law_far", "_law_deep"]
  d__law_drawing : DefT K mg "_law_drawing" st__law_drawing ["_law_dice", "_law_many", "_law_far"]
  d__law_size : DefT K mg "_law_size" st__law_size ["_law_layers"]
  d__law_led : DefT K mg "_law_led" st__law_led ["_law_point_here", "_law_matrix_here"]
  d__law_both : DefT K mg "_law_both" st__law_both ["_law_outer_one", "_law_inner"]
  d__law_round : DefT K mg "_law_round" st__law_round ["_law_loop_here", "_law_point_here"]
  d__law_inside : DefT K mg "_law_inside" st__law_inside ["_law_shape_here", "_law_matrix_here", "_law_point_here"]
  d__law_over : DefT K mg "_law_over" st__law_over ["_law_below", "_law_above"]
  d__law_nothing : DefT K mg "_law_nothing" st__law_nothing []
  d__law_paint : DefT K mg "_law_paint" st__law_paint ["_law_layers", "_law_matrix_here", "_law_point_here"]
  d__law_shown : DefT K mg "_law_shown" st__law_shown ["_law_drawing_here", "_law_point_here"]
  d__law_point : DefT K mg "_law_point" st__law_point ["_law_dice", "_law_far"]
  b_isinstance : mg "isinstance" = none
  b_tuple : mg "tuple" = none
  b_int : mg "int" = none
  b_bool : mg "bool" = none
  b_len : mg "len" = none
  b_all : mg "all" = none
  b_any : mg "any" = none
  b_sum : mg "sum" = none
  b_max : mg "max" = none
  b_min : mg "min" = none
  b_range : mg "range" = none
  b_abs : mg "abs" = none
  b_zip : mg "zip" = none
  b_enumerate : mg "enumerate" = none
  b_ValueError : mg "ValueError" = none
  LIMIT : ∃ t, mg "LIMIT" = some (.int 1000000000000000000000000000000 t)
  RULES : ∃ a, mg "RULES" = some (.ref a) ∧ ∀ H, Dp K H (.ref a) (.tuple [.str "odd", .str "turns"])
  FARTHEST : ∃ t, mg "FARTHEST" = some (.int 9 t)
  MOST_LAYERS : ∃ t, mg "MOST_LAYERS" = some (.int 4 t)
  MOST_POINTS : ∃ t, mg "MOST_POINTS" = some (.int 60 t)
  DEEPEST : ∃ t, mg "DEEPEST" = some (.int 2 t)
  SAME_PLACE : ∃ a, mg "SAME_PLACE" = some (.ref a) ∧ ∀ H, Dp K H (.ref a) (.tuple [.int 1, .int 0, .int 0, .int 1, .int 0, .int 0])
  NOTHING : ∃ a, mg "NOTHING" = some (.ref a) ∧ ∀ H, Dp K H (.ref a) (.tuple [(.tuple [.int 0, .int 1]), (.tuple [.int 0, .int 1]), (.tuple [.int 0, .int 1]), (.tuple [.int 0, .int 1])])
  ALL : ∃ a, mg "ALL" = some (.ref a) ∧ ∀ H, Dp K H (.ref a) (.tuple [.int 1, .int 1])
  m_gcd : mg "gcd" = some (.builtin "math.gcd")
end K01

set_option Elab.async false
set_option linter.all false
set_option maxRecDepth 100000
set_option maxHeartbeats 4000000
set_option exponentiation.threshold 2000
namespace K01
variable [DL.Tbs]
open PySem PySem.Spec PyProof.Rows L2 DL HX GX RT SX StX
section
variable {P : Program} {w : World} {K : PySem.W.Frag} {mg : Str → Option Value} {base : Heap}
theorem neverP {x : Str} {st : Stmt} {ps : List Str} (T : DefT K mg x st ps) : PureC P w K mg base 0 x ps (fun _ _ => False) := by
  obtain ⟨f, fd, F, hm, hB⟩ := T.ex
  refine ⟨f, fd, ⟨fun vs H Q E h => h.1, fun A outer s H args us vs Q E hr he hb hv h => ?_⟩, hm, F.kp, hB⟩
  obtain ⟨_, _, _, _, _, _, _, _, _, ⟨_, _, _, h, _⟩, _⟩ := h
  exact h.elim
theorem DefE.mono {x : Str} {ps : List Str} {k k' : Nat} {Pre : List Sl → M → Prop} {Post : List Sl → M → Sl → M → Prop} (h : DefE P w K mg base k x ps Pre Post) (hk : k ≤ k') : DefE P w K mg base k' x ps Pre Post := by
  obtain ⟨g, a, b⟩ := h
  exact ⟨g, a, b.mono hk⟩
theorem tower (T : Top K mg) (B : Blt mg) (sh : PureC P w K mg base 4 "is_shape" ["value"] R_is_shape) (co : PureC P w K mg base 3 "is_colour" ["value"] R_is_colour) (op : PureC P w K mg base 3 "is_opacity" ["value"] R_is_opacity) (mx : PureC P w K mg base 3 "is_matrix" ["value"] R_is_matrix)
    (fi : PureC P w K mg base 5 "is_fill" ["value"] R_is_fill) (ru : PureC P w K mg base 5 "is_rub" ["value"] R_is_rub) : ∀ n : Nat, PureC P w K mg base (6 + 3 * n) "is_nested_layer" ["value", "deepest"] (R_nested n) ∧ PureC P w K mg base (7 + 3 * n) "are_layers" ["value", "deepest"] (R_layers n)
  | 0 => by
    have g0 := c_group (n := 0) (k := 4) B T.d_is_group ((never (N := []) (n := 2) T.d_are_layers).mono (Nat.zero_le 4)) (fun j e => by cases e) (Nat.le_refl _) sh op mx
    have n0 := c_nested (n := 0) B T.d_is_nested_layer (Nat.le_refl _) fi ru g0
    exact ⟨n0, c_layers B T.d_are_layers n0 T.MOST_LAYERS⟩
  | n + 1 => by
    obtain ⟨_, l⟩ := tower T B sh co op mx fi ru n
    have g1 := c_group (n := n + 1) B T.d_is_group l (fun j e => by cases e; rfl) (by omega) sh op mx
    have n1 := c_nested (n := n + 1) B T.d_is_nested_layer (by omega) fi ru g1
    exact ⟨n1.mono (by omega), (c_layers B T.d_are_layers n1 T.MOST_LAYERS).mono (by omega)⟩
theorem shapes_tower (T : Top K mg) (B : Blt mg) : DefC P w K mg base CX0 3 "list_shapes" ["layers"] (spL K 1 (G_list_shapes 2)) := by
  have z : DefC P w K mg base CX0 0 "list_shapes" ["layers"] (spL K 1 fun _ _ _ _ => False) := by
    obtain ⟨f, fd, F, hm, hB⟩ := T.d_list_shapes.ex
    refine ⟨f, fd, ⟨fun vs H Q E h => h.1, fun A outer s H args us vs Q E hr he hb hv h => ?_⟩, hm, F.kp, hB⟩
    obtain ⟨_, _, _, _, _, _, _, _, _, h, _⟩ := h
    exact h.elim
  have s0 := c_list_shapes (n := 0) B T.d_list_shapes z (fun j e => by cases e) (by decide)
  have s1 := c_list_shapes (n := 1) B T.d_list_shapes s0 (fun j e => by cases e; rfl) (by decide)
  exact c_list_shapes (n := 2) B T.d_list_shapes s1 (fun j e => by cases e; rfl) (by decide)
theorem neverC {x : Str} {st : Stmt} {ps : List Str} (T : DefT K mg x st ps) : ∃ sp : Sp, DefC P w K mg base CX0 0 x ps sp := by
  obtain ⟨f, fd, F, hm, hB⟩ := T.ex
  exact ⟨fun _ _ _ _ => False, f, fd, ⟨fun vs H Q E h => h.elim, fun A outer s H args us vs Q E hr he hb hv h => h.elim⟩, hm, F.kp, hB⟩
theorem law_all (T : Top K mg) {f cc Pt : Addr} {fd : FuncData} {cs : Cs} (hC : CsOk mg cs) (e1 : ErrD K cs 4 cs.InvalidDrawing) (r1 : RaiseD K cs.InvalidDrawing) (e2 : ErrD K cs 1 cs.InvalidPoint) (r2 : RaiseD K cs.InvalidPoint) (e3 : ErrD K cs 11 cs.OnEdge) (r3 : RaiseD K cs.OnEdge) (F : Fun K "law" "law" st_law f fd) (hcc : fd.code = .ref cc)
    (TB : LamX.TabB base mg cc Pt) (hmT : (Pt, ("law.<locals>." : Str) ++ "<lambda>") ∈ Tbs.T) (huT : ∀ p ∈ Tbs.T, p.1 = Pt → p.2 = ("law.<locals>." : Str) ++ "<lambda>") : FnOk P w K mg base CX0 20 f fd ["_law_script"] (spLaw K) := by
  have B : Blt mg := ⟨T.b_isinstance, T.b_tuple, T.b_int, T.b_bool, T.b_len, T.b_all, T.b_sum⟩
  have D : BltD mg := ⟨T.b_len, T.b_max, T.b_min, T.b_range⟩
  have d1 := c_is_whole (P := P) (w := w) (K := K) (base := base) B T.d_is_whole
  have d2 := c_are_whole B T.d_are_whole d1
  have d3 := c_is_loop B T.d_is_loop d2 T.FARTHEST
  have d4 := c_is_shape B T.d_is_shape d3 T.RULES
  have d5 := c_is_colour B T.d_is_colour d2
  have d6 := c_is_opacity B T.d_is_opacity d2
  have d7 := c_is_matrix B T.d_is_matrix d2 T.FARTHEST
  have d8 := c_is_fill B T.d_is_fill d4 d5 d6
  have d9 := c_is_rub B T.d_is_rub d4 d6
  obtain ⟨n2, l2⟩ := tower T B d4 d5 d6 d7 d8 d9 2
  have ls := shapes_tower (P := P) (w := w) (base := base) T B
  have ap := c_add_points B T.d_add_points ls (Nat.le_refl _)
  have dr := c_is_drawing (k := 13) B T.d_is_drawing l2 (ap.mono (by decide)) T.DEEPEST T.MOST_POINTS
  have ck := c_checkX (k := 14) B T.d_check_drawing dr hC.InvalidDrawing r1
  -- points
  have q1 := c_frac T.m_gcd T.LIMIT T.d_is_fraction d2
  have q2 := c_fracs T.b_isinstance T.b_tuple T.b_len T.b_all T.d_are_fractions q1
  have q3 := c_point T.d_is_point q2
  have q4 := c_checkP T.d_check_point q3 hC.InvalidPoint r2
  -- fractions, spots, shapes
  have lo := c_lowest (P := P) (w := w) (K := K) (base := base) T.m_gcd T.d_lowest
  have pl := c_plus T.d_plus lo
  have ti := c_times T.d_times lo
  have re := c_rest T.d_rest_of lo
  have si := c_side (P := P) (w := w) (K := K) (base := base) T.d_side_of
  have be := c_between (P := P) (w := w) (K := K) (base := base) T.b_min T.b_max T.d_is_between
  have oe := c_onEdge T.d_is_on_edge si be
  have ed := c_edges (P := P) (w := w) (K := K) (base := base) T.b_range T.b_len T.d_edges_of
  have os := c_onShape T.b_any T.d_is_on_shape ed oe
  have ct := c_turns T.d_count_turns ed si
  have ins := c_inside T.b_sum T.d_is_inside ct
  have ms := c_mkspot (P := P) (w := w) (K := K) (base := base) T.m_gcd T.d_make_spot
  have sp := c_spotof T.d_spot_of ms
  -- placing
  have le := c_lead (P := P) (w := w) (K := K) (base := base) T.d_lead
  have fo := c_follow T.d_follow le
  have ps := c_placeShape T.b_tuple T.d_place_shape le
  have y0 := c_place0 (k := 2) (by decide) T.d_place_layer ps ((neverP (P := P) (w := w) (base := base) T.d_place_group).mono (by decide))
  have z0 := c_places (toD := plD) (place := placePl) (ok := fun l => plB 20 l ∧ l.ok) (B := 50) T.b_tuple (fun l m ho hm => ⟨l, m, rfl, ho.1, ho.2, hm, rfl⟩) T.d_place_layers y0
  have g0 := c_pgroup (k := 4) (by decide) T.SAME_PLACE T.d_place_group fo ps z0
  have y1 := c_place1 (k := 5) (by decide) T.d_place_layer ps g0
  have z1 := c_places (toD := l1D) (place := place1) (ok := g1B) (B := 20) T.b_tuple (fun l m ho hm => ⟨l, m, rfl, ho, hm, rfl⟩) T.d_place_layers y1
  -- stacks
  obtain ⟨spN, nv⟩ := neverC (P := P) (w := w) (base := base) T.d_stack_up
  have s0 := c_stack0 T.b_len T.d_stack_layer nv
  have t0 := c_stackUp0 T.b_tuple T.d_stack_up s0
  have s1 := c_stack1 T.b_len T.d_stack_layer t0
  have t1 := c_stackUp1 T.b_tuple T.d_stack_up s1
  -- what is shown
  have we := c_weak T.b_tuple T.d_weakened ti
  have la := c_laying T.d_laying re
  have fi := c_filled T.d_filled lo
  have ld := c_laid (k := 3) T.b_tuple T.b_zip T.NOTHING T.d_laid (pl.mono (by decide)) we
  have a0 := c_eff0 (k := 3) T.NOTHING T.ALL T.d_effect_of ((neverP (P := P) (w := w) (base := base) T.d_shown_by_group).mono (by decide)) (la.mono (by decide)) (fi.mono (by decide)) (re.mono (by decide))
  have b0 := c_shown0 (k := 4) T.d_shown a0 ld
  have gr := c_grp (k := 5) T.NOTHING T.d_shown_by_group (we.mono (by decide)) b0 (lo.mono (by decide))
  have a1 := c_eff1 (k := 6) T.NOTHING T.ALL T.d_effect_of gr (la.mono (by decide)) (fi.mono (by decide)) (re.mono (by decide))
  have b1 := c_shown1 (k := 7) T.d_shown a1 (ld.mono (by decide))
  have pa := c_painted (k := 15) T.b_any T.SAME_PLACE T.d_painted hC.OnEdge r3 ck (q4.mono (by decide)) (t1.mono (by decide)) (z1.mono (by decide)) (sp.mono (by decide)) (os.mono (by decide)) (ins.mono (by decide)) (b1.mono (by decide))
  -- the law's own
  have lw := c_llow (P := P) (w := w) (K := K) (base := base) (k := 0) T.b_abs T.d__law_low
  have lp := c_lplus T.d__law_plus lw
  have lm := c_lminus T.d__law_minus lw
  have lt := c_ltimes T.d__law_times lw
  have lled := c_lled (P := P) (w := w) (K := K) (base := base) (k := 0) T.d__law_led
  have lbo := c_lboth T.d__law_both lled
  have lro := c_lround (P := P) (w := w) (K := K) (base := base) (k := 0) T.b_enumerate T.b_len T.b_min T.b_max T.d__law_round
  have lin := c_linside T.d__law_inside lro lled
  have lov := c_lover T.b_enumerate T.b_tuple T.d__law_over lm lp lt
  have lno := c_lnone (P := P) (w := w) (K := K) (base := base) (k := 0) T.d__law_nothing
  have p0 := c_lpaint (g := false) (k := 3) (fun h => nomatch h) T.b_tuple T.d__law_paint ((neverP (P := P) (w := w) (base := base) T.d__law_paint).mono (by decide)) (lno.mono (by decide)) (lbo.mono (by decide)) (lin.mono (by decide)) (lt.mono (by decide)) (lm.mono (by decide)) lov
  have p1 := c_lpaint (g := true) (k := 4) (fun _ => rfl) T.b_tuple T.d__law_paint p0 (lno.mono (by decide)) (lbo.mono (by decide)) (lin.mono (by decide)) (lt.mono (by decide)) (lm.mono (by decide)) (lov.mono (by decide))
  have lsh := c_lshown T.d__law_shown p1
  -- what is drawn
  have ce := c_cell (P := P) (w := w) (K := K) (base := base) D T.d__law_cell
  have dn := c_drawn (P := P) (w := w) (K := K) (base := base) D T.d__law_drawn
  have ro := c_roll D T.d__law_roll dn
  have rn := c_rounds D T.d__law_rounds ce
  obtain ⟨fT, fdT, mTerm, kTerm, bTerm, FTerm⟩ := c_term (P := P) (w := w) (K := K) (base := base) T.b_isinstance T.b_sum T.b_int T.d__law_term T.b_ValueError hC
  have g1 := c_loop T.b_range T.b_tuple T.d__law_loop ro
  have g2 := c_shape T.b_range T.b_tuple T.d__law_shape (ro.mono (by decide)) g1
  have g3 := c_opacity T.d__law_opacity ro
  have g4 := c_matrix T.d__law_matrix ro
  have e0 := c_layer (k := 4) (n := 0) (by decide) T.b_range T.b_tuple T.d__law_layer (ro.mono (by decide)) g2 (DefE.mono g3 (by decide)) (DefE.mono g4 (by decide)) (fun i e => by cases e) ((never (N := []) (n := 3) T.d__law_layer).mono (by decide))
  obtain ⟨gL, hgL, e0'⟩ := e0
  have el1 := c_layer (k := 5) (n := 1) (by decide) T.b_range T.b_tuple T.d__law_layer (ro.mono (by decide)) (DefE.mono g2 (by decide)) (DefE.mono g3 (by decide)) (DefE.mono g4 (by decide)) (gL := gL) (fun i e => by cases e; exact hgL) e0'
  have w0 := c_size (k := 0) (n := 0) T.b_len T.b_sum T.d__law_size (neverP (P := P) (w := w) (base := base) T.d__law_size) (fun i e => by cases e)
  have w1 := c_size (n := 1) T.b_len T.b_sum T.d__law_size w0 (fun i e => by cases e; rfl)
  have w2 := c_size (n := 2) T.b_len T.b_sum T.d__law_size w1 (fun i e => by cases e; rfl)
  have gd := c_drawing (k := 6) T.b_range T.b_tuple T.d__law_drawing (ro.mono (by decide)) el1 (w2.mono (by decide))
  have gp := c_lpoint T.b_int T.d__law_point ro
  obtain ⟨gT, fdTold, FTold, mTold, bTold⟩ := T.d__law_told.ex
  exact c_law (k0 := 17) (by decide) F hcc T.b_len T.b_range (rn.mono (by decide)) (DefE.mono gd (by decide)) (DefE.mono gp (by decide)) (ro.mono (by decide)) (lw.mono (by decide)) (lsh.mono (by decide)) (lno.mono (by decide)) (pa.mono (by decide))
    FTold mTold bTold hC.PictureError mTerm kTerm bTerm FTerm TB hmT huT e1 e2 e3 rfl
end
theorem errs_mk {K : PySem.W.Frag} {h0 : Heap} {mg : Str → Option Value} {a_InvalidNumber a_InvalidPoint a_InvalidShape a_InvalidLayer a_InvalidDrawing a_InvalidRegion a_InvalidPlan a_InvalidIndex a_InvalidBox a_InvalidMove a_InvalidText a_OnEdge a_Blank a_TooMany a_NothingToUndo a_PictureError : Addr}
    (_ : K.In h0) (m_InvalidNumber : mg "InvalidNumber" = some (.ref a_InvalidNumber)) (m_InvalidPoint : mg "InvalidPoint" = some (.ref a_InvalidPoint)) (m_InvalidShape : mg "InvalidShape" = some (.ref a_InvalidShape)) (m_InvalidLayer : mg "InvalidLayer" = some (.ref a_InvalidLayer)) (m_InvalidDrawing : mg "InvalidDrawing" = some (.ref a_InvalidDrawing)) (m_InvalidRegion : mg "InvalidRegion" = some (.ref a_InvalidRegion)) (m_InvalidPlan : mg "InvalidPlan" = some (.ref a_InvalidPlan)) (m_InvalidIndex : mg "InvalidIndex" = some (.ref a_InvalidIndex)) (m_InvalidBox : mg "InvalidBox" = some (.ref a_InvalidBox)) (m_InvalidMove : mg "InvalidMove" = some (.ref a_InvalidMove)) (m_InvalidText : mg "InvalidText" = some (.ref a_InvalidText)) (m_OnEdge : mg "OnEdge" = some (.ref a_OnEdge)) (m_Blank : mg "Blank" = some (.ref a_Blank)) (m_TooMany : mg "TooMany" = some (.ref a_TooMany)) (m_NothingToUndo : mg "NothingToUndo" = some (.ref a_NothingToUndo)) (m_PictureError : mg "PictureError" = some (.ref a_PictureError))
    (hg1 : PySem.W.findIn K (.ref a_InvalidDrawing) "__getattribute__" = some (some (.builtin "BaseException.__getattribute__"))) (hk1 : PySem.W.findIn K (.ref a_InvalidDrawing) "__getattr__" = some none) (hs1 : PySem.W.subIn K (.ref a_InvalidDrawing) (.type "BaseException") = some true) (hd1 : PySem.W.hasDictIn K a_InvalidDrawing = true)
    (ha1 : PySem.W.findIn K (.ref a_InvalidDrawing) "__class__" = some (some (.builtin "object.__class__"))) (hn1 : PySem.W.specialIn K (.builtin "object.__class__") "__get__" = some (some (.builtin "getset_descriptor.__get__"))) (ht1 : PySem.W.takesIn K (.builtin "object.__class__") = some true) (hm1 : PySem.W.mroIn K a_InvalidDrawing (.type "object") = some true)
    (tests1 : [a_InvalidNumber, a_InvalidPoint, a_InvalidShape, a_InvalidLayer, a_InvalidDrawing, a_InvalidRegion, a_InvalidPlan, a_InvalidIndex, a_InvalidBox, a_InvalidMove, a_InvalidText, a_OnEdge, a_Blank, a_TooMany, a_NothingToUndo].map (fun C => PySem.W.kitOne K (.ref a_InvalidDrawing) (.ref C)) = (List.range 15).map fun i => some (i == 4)) (value1 : PySem.W.kitOne K (.ref a_InvalidDrawing) (.type "ValueError") = some true) (caught1 : PySem.W.exmOne K (.ref a_InvalidDrawing) (.ref a_PictureError) = some true)
    (own1 : PySem.W.excIn K a_InvalidDrawing [.type "ValueError", .type "Exception", .type "BaseException", .type "object"] "ValueError.__new__" = true) (kp1 : PySem.W.keepIn K (.ref a_InvalidDrawing) = true) (tF1 : PySem.W.typeIn K (.ref a_InvalidDrawing) = some (.type "type"))
    (hg2 : PySem.W.findIn K (.ref a_InvalidPoint) "__getattribute__" = some (some (.builtin "BaseException.__getattribute__"))) (hk2 : PySem.W.findIn K (.ref a_InvalidPoint) "__getattr__" = some none) (hs2 : PySem.W.subIn K (.ref a_InvalidPoint) (.type "BaseException") = some true) (hd2 : PySem.W.hasDictIn K a_InvalidPoint = true)
    (ha2 : PySem.W.findIn K (.ref a_InvalidPoint) "__class__" = some (some (.builtin "object.__class__"))) (hn2 : PySem.W.specialIn K (.builtin "object.__class__") "__get__" = some (some (.builtin "getset_descriptor.__get__"))) (ht2 : PySem.W.takesIn K (.builtin "object.__class__") = some true) (hm2 : PySem.W.mroIn K a_InvalidPoint (.type "object") = some true)
    (tests2 : [a_InvalidNumber, a_InvalidPoint, a_InvalidShape, a_InvalidLayer, a_InvalidDrawing, a_InvalidRegion, a_InvalidPlan, a_InvalidIndex, a_InvalidBox, a_InvalidMove, a_InvalidText, a_OnEdge, a_Blank, a_TooMany, a_NothingToUndo].map (fun C => PySem.W.kitOne K (.ref a_InvalidPoint) (.ref C)) = (List.range 15).map fun i => some (i == 1)) (value2 : PySem.W.kitOne K (.ref a_InvalidPoint) (.type "ValueError") = some true) (caught2 : PySem.W.exmOne K (.ref a_InvalidPoint) (.ref a_PictureError) = some true)
    (own2 : PySem.W.excIn K a_InvalidPoint [.type "ValueError", .type "Exception", .type "BaseException", .type "object"] "ValueError.__new__" = true) (kp2 : PySem.W.keepIn K (.ref a_InvalidPoint) = true) (tF2 : PySem.W.typeIn K (.ref a_InvalidPoint) = some (.type "type"))
    (hg3 : PySem.W.findIn K (.ref a_OnEdge) "__getattribute__" = some (some (.builtin "BaseException.__getattribute__"))) (hk3 : PySem.W.findIn K (.ref a_OnEdge) "__getattr__" = some none) (hs3 : PySem.W.subIn K (.ref a_OnEdge) (.type "BaseException") = some true) (hd3 : PySem.W.hasDictIn K a_OnEdge = true)
    (ha3 : PySem.W.findIn K (.ref a_OnEdge) "__class__" = some (some (.builtin "object.__class__"))) (hn3 : PySem.W.specialIn K (.builtin "object.__class__") "__get__" = some (some (.builtin "getset_descriptor.__get__"))) (ht3 : PySem.W.takesIn K (.builtin "object.__class__") = some true) (hm3 : PySem.W.mroIn K a_OnEdge (.type "object") = some true)
    (tests3 : [a_InvalidNumber, a_InvalidPoint, a_InvalidShape, a_InvalidLayer, a_InvalidDrawing, a_InvalidRegion, a_InvalidPlan, a_InvalidIndex, a_InvalidBox, a_InvalidMove, a_InvalidText, a_OnEdge, a_Blank, a_TooMany, a_NothingToUndo].map (fun C => PySem.W.kitOne K (.ref a_OnEdge) (.ref C)) = (List.range 15).map fun i => some (i == 11)) (value3 : PySem.W.kitOne K (.ref a_OnEdge) (.type "ValueError") = some true) (caught3 : PySem.W.exmOne K (.ref a_OnEdge) (.ref a_PictureError) = some true)
    (own3 : PySem.W.excIn K a_OnEdge [.type "ValueError", .type "Exception", .type "BaseException", .type "object"] "ValueError.__new__" = true) (kp3 : PySem.W.keepIn K (.ref a_OnEdge) = true) (tF3 : PySem.W.typeIn K (.ref a_OnEdge) = some (.type "type"))
    : ∃ cs : Cs, CsOk mg cs ∧ ErrD K cs 4 cs.InvalidDrawing ∧ RaiseD K cs.InvalidDrawing ∧ ErrD K cs 1 cs.InvalidPoint ∧ RaiseD K cs.InvalidPoint ∧ ErrD K cs 11 cs.OnEdge ∧ RaiseD K cs.OnEdge :=
  ⟨⟨a_InvalidNumber, a_InvalidPoint, a_InvalidShape, a_InvalidLayer, a_InvalidDrawing, a_InvalidRegion, a_InvalidPlan, a_InvalidIndex, a_InvalidBox, a_InvalidMove, a_InvalidText, a_OnEdge, a_Blank, a_TooMany, a_NothingToUndo, a_PictureError⟩, ⟨m_InvalidNumber, m_InvalidPoint, m_InvalidShape, m_InvalidLayer, m_InvalidDrawing, m_InvalidRegion, m_InvalidPlan, m_InvalidIndex, m_InvalidBox, m_InvalidMove, m_InvalidText, m_OnEdge, m_Blank, m_TooMany, m_NothingToUndo, m_PictureError⟩, ⟨⟨hg1, hk1, hs1, hd1, ha1, hn1, ht1, hm1⟩, tests1, value1, caught1⟩, ⟨own1, kp1, hs1, tF1⟩, ⟨⟨hg2, hk2, hs2, hd2, ha2, hn2, ht2, hm2⟩, tests2, value2, caught2⟩, ⟨own2, kp2, hs2, tF2⟩, ⟨⟨hg3, hk3, hs3, hd3, ha3, hn3, ht3, hm3⟩, tests3, value3, caught3⟩, ⟨own3, kp3, hs3, tF3⟩⟩

end K01

set_option Elab.async false
set_option linter.all false
set_option maxRecDepth 100000
set_option maxHeartbeats 4000000
namespace DL
open PySem PySem.Spec PyProof.Rows L2
theorem lawU_mk {K : PySem.W.Frag} {h : Heap} {mg : Str → Option Value} {f fa c Pt : Addr} {x p : Str} {st : Stmt} {oc kV doc pm ct ec : Value} {od an dc : Option Addr} {osl sl : Array (Option Value)} {vs : Array Value} (X : K.In h) (G : h.Ns mainGlobals mg) (hfa : mg x = some (.ref fa))
    (a : PySem.W.nsIn K mainGlobals x = some (some (.ref f))) (l : K.lookup f = some ⟨oc, od, .func (PySem.W.fnOf x x (defArgs st) (defBody st) (defScope st) .none kV doc pm an (.ref c) ct), osl⟩) (ci : PySem.W.codeIn K (.ref c) x = true) (k : PySem.W.keepIn K (.ref f) = true)
    (lc : K.lookup c = some ⟨ec, dc, .fields vs, sl⟩) (h11 : vs[11]? = some (.ref Pt)) (hd : PySem.W.codeHdIn K c Pt = true) (nP : K.lookup Pt = none) (hT : h.get? Pt = some { cls := .none, data := .fields #[] })
    (b : ∀ (s : Shared) (kV doc pm : Value) (an : Option Addr) (cdv ct : Value) (v : Value), BindsTo s (PySem.W.fnOf x x (defArgs st) (defBody st) (defScope st) .none kV doc pm an cdv ct) ⟨[v], []⟩ [(p, v)]) :
    ∃ (fd : FuncData) (c Pt : Addr), (Fun K x x st fa fd ∧ ∀ (s : Shared) (v : Value), BindsTo s fd ⟨[v], []⟩ [(p, v)]) ∧ fd.code = .ref c ∧ h.get? Pt = some { cls := .none, data := .fields #[] } ∧ K.lookup Pt = none ∧ PySem.W.CodeHd h c Pt := by
  have e := hfa.symm.trans (PySem.W.mg_of X G a)
  cases e
  exact ⟨_, c, Pt, ⟨fun_mk (st := st) l ci k, fun s v => b s kV doc pm an _ ct v⟩, rfl, hT, nP, PySem.W.codeHd_of_K X hd⟩
theorem strs_mk {K : PySem.W.Frag} {h : Heap} {mg : Str → Option Value} {a : Addr} {x : Str} {ss : List Str} {n : Nat} {od : Option Addr} {osl : Array (Option Value)} {its : Array Value} (X : K.In h) (G : h.Ns mainGlobals mg)
    (hn : PySem.W.nsIn K mainGlobals x = some (some (.ref a))) (l : K.lookup a = some ⟨.type "tuple", od, .seq its n, osl⟩) (z : its.size ≤ sizeLine) (v : Vals (ss.map V.str) its.toList) : ∃ a, mg x = some (.ref a) ∧ ∀ H, Dp K H (.ref a) (.tuple (ss.map .str)) :=
  ⟨a, PySem.W.mg_of X G hn, dp_strs l rfl rfl z v⟩
theorem dp_intsK {K : PySem.W.Frag} {a : Addr} {ns : List Int} {n : Nat} {od : Option Addr} {osl : Array (Option Value)} {its : Array Value} (l : K.lookup a = some ⟨.type "tuple", od, .seq its n, osl⟩) (z : its.size ≤ sizeLine) (v : Vals (ns.map V.int) its.toList) : ∀ H, Dp K H (.ref a) (.tuple (ns.map .int)) := fun H =>
  .tup (.inr ⟨_, its, n, l, rfl, rfl, z, v⟩) (by
    clear v
    induction ns with
    | nil => exact .nil
    | cons s ss ih => exact .cons (.int s) ih)
theorem ints_mk {K : PySem.W.Frag} {h : Heap} {mg : Str → Option Value} {a : Addr} {x : Str} {ns : List Int} {n : Nat} {od : Option Addr} {osl : Array (Option Value)} {its : Array Value} (X : K.In h) (G : h.Ns mainGlobals mg)
    (hn : PySem.W.nsIn K mainGlobals x = some (some (.ref a))) (l : K.lookup a = some ⟨.type "tuple", od, .seq its n, osl⟩) (z : its.size ≤ sizeLine) (v : Vals (ns.map V.int) its.toList) : ∃ a, mg x = some (.ref a) ∧ ∀ H, Dp K H (.ref a) (.tuple (ns.map .int)) :=
  ⟨a, PySem.W.mg_of X G hn, dp_intsK l z v⟩
theorem four_mk {K : PySem.W.Frag} {h : Heap} {mg : Str → Option Value} {a b1 b2 b3 b4 : Addr} {x : Str} {n1 n2 n3 n4 : List Int} {n m1 m2 m3 m4 : Nat} {od od1 od2 od3 od4 : Option Addr} {osl osl1 osl2 osl3 osl4 : Array (Option Value)} {i1 i2 i3 i4 : Array Value} (X : K.In h) (G : h.Ns mainGlobals mg)
    (hn : PySem.W.nsIn K mainGlobals x = some (some (.ref a))) (l : K.lookup a = some ⟨.type "tuple", od, .seq #[.ref b1, .ref b2, .ref b3, .ref b4] n, osl⟩)
    (l1 : K.lookup b1 = some ⟨.type "tuple", od1, .seq i1 m1, osl1⟩) (l2 : K.lookup b2 = some ⟨.type "tuple", od2, .seq i2 m2, osl2⟩) (l3 : K.lookup b3 = some ⟨.type "tuple", od3, .seq i3 m3, osl3⟩) (l4 : K.lookup b4 = some ⟨.type "tuple", od4, .seq i4 m4, osl4⟩)
    (z1 : i1.size ≤ sizeLine) (z2 : i2.size ≤ sizeLine) (z3 : i3.size ≤ sizeLine) (z4 : i4.size ≤ sizeLine) (v1 : Vals (n1.map V.int) i1.toList) (v2 : Vals (n2.map V.int) i2.toList) (v3 : Vals (n3.map V.int) i3.toList) (v4 : Vals (n4.map V.int) i4.toList) :
    ∃ a, mg x = some (.ref a) ∧ ∀ H, Dp K H (.ref a) (.tuple [.tuple (n1.map .int), .tuple (n2.map .int), .tuple (n3.map .int), .tuple (n4.map .int)]) :=
  ⟨a, PySem.W.mg_of X G hn, fun H => .tup (.inr ⟨_, _, n, l, rfl, rfl, by show 4 ≤ sizeLine; decide, .cons (show RelV (V.ref b1) (Value.ref b1) from rfl) (.cons (show RelV (V.ref b2) (Value.ref b2) from rfl) (.cons (show RelV (V.ref b3) (Value.ref b3) from rfl) (.cons (show RelV (V.ref b4) (Value.ref b4) from rfl) .nil)))⟩) (.cons (dp_intsK l1 z1 v1 H) (.cons (dp_intsK l2 z2 v2 H) (.cons (dp_intsK l3 z3 v3 H) (.cons (dp_intsK l4 z4 v4 H) .nil))))⟩
end DL
open PySem PySem.W PyProof.Rows
set_option maxHeartbeats 0 in
theorem PySem.Challenge.cw_samepictures_k01_whole_painted_points_holds : PySem.Challenge.rw_samepictures_k01_whole_painted_points.Holds := by
  w_on; o_law; k_head; (case hw => w_witness2)
  k_fill
  refine LamX.walk_ofTs (l := PySem.Challenge.rw_samepictures_k01_whole_painted_points) (n := 63) (k := 20) (x := "_law_script") (CX := fun _ => L2.CX0) rfl (by decide) rfl ⟨rfl, by decide, by decide⟩ (fun w h Y => PySem.W.km_in_of Y) ?F (fun _ _ _ _ _ h => h)
  case F =>
    intro w mg fa h Y KX G hmg
    have d_is_whole := (DL.defT_mk (x := "is_whole") (st := K01.st_is_whole) (ps := ["value"]) KX G (by k_is) (by k_is) (by k_is) (by k_is) (fun _ _ _ _ _ _ us hl => match us, hl with | [_], _ => rfl))
    have d_are_whole := (DL.defT_mk (x := "are_whole") (st := K01.st_are_whole) (ps := ["value", "many", "low", "high"]) KX G (by k_is) (by k_is) (by k_is) (by k_is) (fun _ _ _ _ _ _ us hl => match us, hl with | [_, _, _, _], _ => rfl))
    have d_is_fraction := (DL.defT_mk (x := "is_fraction") (st := K01.st_is_fraction) (ps := ["value"]) KX G (by k_is) (by k_is) (by k_is) (by k_is) (fun _ _ _ _ _ _ us hl => match us, hl with | [_], _ => rfl))
    have d_are_fractions := (DL.defT_mk (x := "are_fractions") (st := K01.st_are_fractions) (ps := ["value", "many"]) KX G (by k_is) (by k_is) (by k_is) (by k_is) (fun _ _ _ _ _ _ us hl => match us, hl with | [_, _], _ => rfl))
    have d_is_point := (DL.defT_mk (x := "is_point") (st := K01.st_is_point) (ps := ["value"]) KX G (by k_is) (by k_is) (by k_is) (by k_is) (fun _ _ _ _ _ _ us hl => match us, hl with | [_], _ => rfl))
    have d_lowest := (DL.defT_mk (x := "lowest") (st := K01.st_lowest) (ps := ["top", "bottom"]) KX G (by k_is) (by k_is) (by k_is) (by k_is) (fun _ _ _ _ _ _ us hl => match us, hl with | [_, _], _ => rfl))
    have d_plus := (DL.defT_mk (x := "plus") (st := K01.st_plus) (ps := ["one", "other"]) KX G (by k_is) (by k_is) (by k_is) (by k_is) (fun _ _ _ _ _ _ us hl => match us, hl with | [_, _], _ => rfl))
    have d_times := (DL.defT_mk (x := "times") (st := K01.st_times) (ps := ["one", "other"]) KX G (by k_is) (by k_is) (by k_is) (by k_is) (fun _ _ _ _ _ _ us hl => match us, hl with | [_, _], _ => rfl))
    have d_rest_of := (DL.defT_mk (x := "rest_of") (st := K01.st_rest_of) (ps := ["fraction"]) KX G (by k_is) (by k_is) (by k_is) (by k_is) (fun _ _ _ _ _ _ us hl => match us, hl with | [_], _ => rfl))
    have d_is_loop := (DL.defT_mk (x := "is_loop") (st := K01.st_is_loop) (ps := ["value"]) KX G (by k_is) (by k_is) (by k_is) (by k_is) (fun _ _ _ _ _ _ us hl => match us, hl with | [_], _ => rfl))
    have d_is_shape := (DL.defT_mk (x := "is_shape") (st := K01.st_is_shape) (ps := ["value"]) KX G (by k_is) (by k_is) (by k_is) (by k_is) (fun _ _ _ _ _ _ us hl => match us, hl with | [_], _ => rfl))
    have d_is_colour := (DL.defT_mk (x := "is_colour") (st := K01.st_is_colour) (ps := ["value"]) KX G (by k_is) (by k_is) (by k_is) (by k_is) (fun _ _ _ _ _ _ us hl => match us, hl with | [_], _ => rfl))
    have d_is_opacity := (DL.defT_mk (x := "is_opacity") (st := K01.st_is_opacity) (ps := ["value"]) KX G (by k_is) (by k_is) (by k_is) (by k_is) (fun _ _ _ _ _ _ us hl => match us, hl with | [_], _ => rfl))
    have d_is_matrix := (DL.defT_mk (x := "is_matrix") (st := K01.st_is_matrix) (ps := ["value"]) KX G (by k_is) (by k_is) (by k_is) (by k_is) (fun _ _ _ _ _ _ us hl => match us, hl with | [_], _ => rfl))
    have d_is_fill := (DL.defT_mk (x := "is_fill") (st := K01.st_is_fill) (ps := ["value"]) KX G (by k_is) (by k_is) (by k_is) (by k_is) (fun _ _ _ _ _ _ us hl => match us, hl with | [_], _ => rfl))
    have d_is_rub := (DL.defT_mk (x := "is_rub") (st := K01.st_is_rub) (ps := ["value"]) KX G (by k_is) (by k_is) (by k_is) (by k_is) (fun _ _ _ _ _ _ us hl => match us, hl with | [_], _ => rfl))
    have d_is_group := (DL.defT_mk (x := "is_group") (st := K01.st_is_group) (ps := ["value", "deepest"]) KX G (by k_is) (by k_is) (by k_is) (by k_is) (fun _ _ _ _ _ _ us hl => match us, hl with | [_, _], _ => rfl))
    have d_is_nested_layer := (DL.defT_mk (x := "is_nested_layer") (st := K01.st_is_nested_layer) (ps := ["value", "deepest"]) KX G (by k_is) (by k_is) (by k_is) (by k_is) (fun _ _ _ _ _ _ us hl => match us, hl with | [_, _], _ => rfl))
    have d_are_layers := (DL.defT_mk (x := "are_layers") (st := K01.st_are_layers) (ps := ["value", "deepest"]) KX G (by k_is) (by k_is) (by k_is) (by k_is) (fun _ _ _ _ _ _ us hl => match us, hl with | [_, _], _ => rfl))
    have d_list_shapes := (DL.defT_mk (x := "list_shapes") (st := K01.st_list_shapes) (ps := ["layers"]) KX G (by k_is) (by k_is) (by k_is) (by k_is) (fun _ _ _ _ _ _ us hl => match us, hl with | [_], _ => rfl))
    have d_add_points := (DL.defT_mk (x := "add_points") (st := K01.st_add_points) (ps := ["layers"]) KX G (by k_is) (by k_is) (by k_is) (by k_is) (fun _ _ _ _ _ _ us hl => match us, hl with | [_], _ => rfl))
    have d_is_drawing := (DL.defT_mk (x := "is_drawing") (st := K01.st_is_drawing) (ps := ["value"]) KX G (by k_is) (by k_is) (by k_is) (by k_is) (fun _ _ _ _ _ _ us hl => match us, hl with | [_], _ => rfl))
    have d_check_drawing := (DL.defT_mk (x := "check_drawing") (st := K01.st_check_drawing) (ps := ["value"]) KX G (by k_is) (by k_is) (by k_is) (by k_is) (fun _ _ _ _ _ _ us hl => match us, hl with | [_], _ => rfl))
    have d_make_spot := (DL.defT_mk (x := "make_spot") (st := K01.st_make_spot) (ps := ["x", "y", "scale"]) KX G (by k_is) (by k_is) (by k_is) (by k_is) (fun _ _ _ _ _ _ us hl => match us, hl with | [_, _, _], _ => rfl))
    have d_spot_of := (DL.defT_mk (x := "spot_of") (st := K01.st_spot_of) (ps := ["point"]) KX G (by k_is) (by k_is) (by k_is) (by k_is) (fun _ _ _ _ _ _ us hl => match us, hl with | [_], _ => rfl))
    have d_edges_of := (DL.defT_mk (x := "edges_of") (st := K01.st_edges_of) (ps := ["loop"]) KX G (by k_is) (by k_is) (by k_is) (by k_is) (fun _ _ _ _ _ _ us hl => match us, hl with | [_], _ => rfl))
    have d_side_of := (DL.defT_mk (x := "side_of") (st := K01.st_side_of) (ps := ["edge", "spot"]) KX G (by k_is) (by k_is) (by k_is) (by k_is) (fun _ _ _ _ _ _ us hl => match us, hl with | [_, _], _ => rfl))
    have d_is_between := (DL.defT_mk (x := "is_between") (st := K01.st_is_between) (ps := ["one", "other", "number"]) KX G (by k_is) (by k_is) (by k_is) (by k_is) (fun _ _ _ _ _ _ us hl => match us, hl with | [_, _, _], _ => rfl))
    have d_is_on_edge := (DL.defT_mk (x := "is_on_edge") (st := K01.st_is_on_edge) (ps := ["edge", "spot"]) KX G (by k_is) (by k_is) (by k_is) (by k_is) (fun _ _ _ _ _ _ us hl => match us, hl with | [_, _], _ => rfl))
    have d_is_on_shape := (DL.defT_mk (x := "is_on_shape") (st := K01.st_is_on_shape) (ps := ["shape", "spot"]) KX G (by k_is) (by k_is) (by k_is) (by k_is) (fun _ _ _ _ _ _ us hl => match us, hl with | [_, _], _ => rfl))
    have d_count_turns := (DL.defT_mk (x := "count_turns") (st := K01.st_count_turns) (ps := ["loop", "spot"]) KX G (by k_is) (by k_is) (by k_is) (by k_is) (fun _ _ _ _ _ _ us hl => match us, hl with | [_, _], _ => rfl))
    have d_is_inside := (DL.defT_mk (x := "is_inside") (st := K01.st_is_inside) (ps := ["shape", "spot"]) KX G (by k_is) (by k_is) (by k_is) (by k_is) (fun _ _ _ _ _ _ us hl => match us, hl with | [_, _], _ => rfl))
    have d_lead := (DL.defT_mk (x := "lead") (st := K01.st_lead) (ps := ["matrix", "pair"]) KX G (by k_is) (by k_is) (by k_is) (by k_is) (fun _ _ _ _ _ _ us hl => match us, hl with | [_, _], _ => rfl))
    have d_follow := (DL.defT_mk (x := "follow") (st := K01.st_follow) (ps := ["outer", "inner"]) KX G (by k_is) (by k_is) (by k_is) (by k_is) (fun _ _ _ _ _ _ us hl => match us, hl with | [_, _], _ => rfl))
    have d_place_shape := (DL.defT_mk (x := "place_shape") (st := K01.st_place_shape) (ps := ["shape", "matrix"]) KX G (by k_is) (by k_is) (by k_is) (by k_is) (fun _ _ _ _ _ _ us hl => match us, hl with | [_, _], _ => rfl))
    have d_place_group := (DL.defT_mk (x := "place_group") (st := K01.st_place_group) (ps := ["group", "matrix"]) KX G (by k_is) (by k_is) (by k_is) (by k_is) (fun _ _ _ _ _ _ us hl => match us, hl with | [_, _], _ => rfl))
    have d_place_layer := (DL.defT_mk (x := "place_layer") (st := K01.st_place_layer) (ps := ["layer", "matrix"]) KX G (by k_is) (by k_is) (by k_is) (by k_is) (fun _ _ _ _ _ _ us hl => match us, hl with | [_, _], _ => rfl))
    have d_place_layers := (DL.defT_mk (x := "place_layers") (st := K01.st_place_layers) (ps := ["layers", "matrix"]) KX G (by k_is) (by k_is) (by k_is) (by k_is) (fun _ _ _ _ _ _ us hl => match us, hl with | [_, _], _ => rfl))
    have d_filled := (DL.defT_mk (x := "filled") (st := K01.st_filled) (ps := ["colour", "opacity"]) KX G (by k_is) (by k_is) (by k_is) (by k_is) (fun _ _ _ _ _ _ us hl => match us, hl with | [_, _], _ => rfl))
    have d_weakened := (DL.defT_mk (x := "weakened") (st := K01.st_weakened) (ps := ["value", "fraction"]) KX G (by k_is) (by k_is) (by k_is) (by k_is) (fun _ _ _ _ _ _ us hl => match us, hl with | [_, _], _ => rfl))
    have d_laying := (DL.defT_mk (x := "laying") (st := K01.st_laying) (ps := ["value"]) KX G (by k_is) (by k_is) (by k_is) (by k_is) (fun _ _ _ _ _ _ us hl => match us, hl with | [_], _ => rfl))
    have d_laid := (DL.defT_mk (x := "laid") (st := K01.st_laid) (ps := ["effects"]) KX G (by k_is) (by k_is) (by k_is) (by k_is) (fun _ _ _ _ _ _ us hl => match us, hl with | [_], _ => rfl))
    have d_stack_layer := (DL.defT_mk (x := "stack_layer") (st := K01.st_stack_layer) (ps := ["layer", "numbers"]) KX G (by k_is) (by k_is) (by k_is) (by k_is) (fun _ _ _ _ _ _ us hl => match us, hl with | [_, _], _ => rfl))
    have d_stack_up := (DL.defT_mk (x := "stack_up") (st := K01.st_stack_up) (ps := ["layers", "numbers"]) KX G (by k_is) (by k_is) (by k_is) (by k_is) (fun _ _ _ _ _ _ us hl => match us, hl with | [_, _], _ => rfl))
    have d_shown_by_group := (DL.defT_mk (x := "shown_by_group") (st := K01.st_shown_by_group) (ps := ["group", "inside"]) KX G (by k_is) (by k_is) (by k_is) (by k_is) (fun _ _ _ _ _ _ us hl => match us, hl with | [_, _], _ => rfl))
    have d_effect_of := (DL.defT_mk (x := "effect_of") (st := K01.st_effect_of) (ps := ["layer", "inside"]) KX G (by k_is) (by k_is) (by k_is) (by k_is) (fun _ _ _ _ _ _ us hl => match us, hl with | [_, _], _ => rfl))
    have d_shown := (DL.defT_mk (x := "shown") (st := K01.st_shown) (ps := ["stack", "inside"]) KX G (by k_is) (by k_is) (by k_is) (by k_is) (fun _ _ _ _ _ _ us hl => match us, hl with | [_, _], _ => rfl))
    have d_check_point := (DL.defT_mk (x := "check_point") (st := K01.st_check_point) (ps := ["value"]) KX G (by k_is) (by k_is) (by k_is) (by k_is) (fun _ _ _ _ _ _ us hl => match us, hl with | [_], _ => rfl))
    have d_painted := (DL.defT_mk (x := "painted") (st := K01.st_painted) (ps := ["drawing", "point"]) KX G (by k_is) (by k_is) (by k_is) (by k_is) (fun _ _ _ _ _ _ us hl => match us, hl with | [_, _], _ => rfl))
    have d__law_cell := (DL.defT_mk (x := "_law_cell") (st := K01.st__law_cell) (ps := ["_law_script", "_law_k"]) KX G (by k_is) (by k_is) (by k_is) (by k_is) (fun _ _ _ _ _ _ us hl => match us, hl with | [_, _], _ => rfl))
    have d__law_drawn := (DL.defT_mk (x := "_law_drawn") (st := K01.st__law_drawn) (ps := ["_law_cell_here", "_law_k"]) KX G (by k_is) (by k_is) (by k_is) (by k_is) (fun _ _ _ _ _ _ us hl => match us, hl with | [_, _], _ => rfl))
    have d__law_roll := (DL.defT_mk (x := "_law_roll") (st := K01.st__law_roll) (ps := ["_law_dice", "_law_many"]) KX G (by k_is) (by k_is) (by k_is) (by k_is) (fun _ _ _ _ _ _ us hl => match us, hl with | [_, _], _ => rfl))
    have d__law_rounds := (DL.defT_mk (x := "_law_rounds") (st := K01.st__law_rounds) (ps := ["_law_script", "_law_most"]) KX G (by k_is) (by k_is) (by k_is) (by k_is) (fun _ _ _ _ _ _ us hl => match us, hl with | [_, _], _ => rfl))
    have d__law_term := (DL.defT_mk (x := "_law_term") (st := K01.st__law_term) (ps := ["_law_e"]) KX G (by k_is) (by k_is) (by k_is) (by k_is) (fun _ _ _ _ _ _ us hl => match us, hl with | [_], _ => rfl))
    have d__law_told := (DL.defT_mk (x := "_law_told") (st := K01.st__law_told) (ps := ["_law_deed"]) KX G (by k_is) (by k_is) (by k_is) (by k_is) (fun _ _ _ _ _ _ us hl => match us, hl with | [_], _ => rfl))
    have d__law_low := (DL.defT_mk (x := "_law_low") (st := K01.st__law_low) (ps := ["_law_top", "_law_bottom"]) KX G (by k_is) (by k_is) (by k_is) (by k_is) (fun _ _ _ _ _ _ us hl => match us, hl with | [_, _], _ => rfl))
    have d__law_plus := (DL.defT_mk (x := "_law_plus") (st := K01.st__law_plus) (ps := ["_law_one", "_law_other"]) KX G (by k_is) (by k_is) (by k_is) (by k_is) (fun _ _ _ _ _ _ us hl => match us, hl with | [_, _], _ => rfl))
    have d__law_minus := (DL.defT_mk (x := "_law_minus") (st := K01.st__law_minus) (ps := ["_law_one", "_law_other"]) KX G (by k_is) (by k_is) (by k_is) (by k_is) (fun _ _ _ _ _ _ us hl => match us, hl with | [_, _], _ => rfl))
    have d__law_times := (DL.defT_mk (x := "_law_times") (st := K01.st__law_times) (ps := ["_law_one", "_law_other"]) KX G (by k_is) (by k_is) (by k_is) (by k_is) (fun _ _ _ _ _ _ us hl => match us, hl with | [_, _], _ => rfl))
    have d__law_loop := (DL.defT_mk (x := "_law_loop") (st := K01.st__law_loop) (ps := ["_law_dice", "_law_far"]) KX G (by k_is) (by k_is) (by k_is) (by k_is) (fun _ _ _ _ _ _ us hl => match us, hl with | [_, _], _ => rfl))
    have d__law_shape := (DL.defT_mk (x := "_law_shape") (st := K01.st__law_shape) (ps := ["_law_dice", "_law_far"]) KX G (by k_is) (by k_is) (by k_is) (by k_is) (fun _ _ _ _ _ _ us hl => match us, hl with | [_, _], _ => rfl))
    have d__law_opacity := (DL.defT_mk (x := "_law_opacity") (st := K01.st__law_opacity) (ps := ["_law_dice"]) KX G (by k_is) (by k_is) (by k_is) (by k_is) (fun _ _ _ _ _ _ us hl => match us, hl with | [_], _ => rfl))
    have d__law_matrix := (DL.defT_mk (x := "_law_matrix") (st := K01.st__law_matrix) (ps := ["_law_dice"]) KX G (by k_is) (by k_is) (by k_is) (by k_is) (fun _ _ _ _ _ _ us hl => match us, hl with | [_], _ => rfl))
    have d__law_layer := (DL.defT_mk (x := "_law_layer") (st := K01.st__law_layer) (ps := ["_law_dice", "_law_far", "_law_deep"]) KX G (by k_is) (by k_is) (by k_is) (by k_is) (fun _ _ _ _ _ _ us hl => match us, hl with | [_, _, _], _ => rfl))
    have d__law_drawing := (DL.defT_mk (x := "_law_drawing") (st := K01.st__law_drawing) (ps := ["_law_dice", "_law_many", "_law_far"]) KX G (by k_is) (by k_is) (by k_is) (by k_is) (fun _ _ _ _ _ _ us hl => match us, hl with | [_, _, _], _ => rfl))
    have d__law_size := (DL.defT_mk (x := "_law_size") (st := K01.st__law_size) (ps := ["_law_layers"]) KX G (by k_is) (by k_is) (by k_is) (by k_is) (fun _ _ _ _ _ _ us hl => match us, hl with | [_], _ => rfl))
    have d__law_led := (DL.defT_mk (x := "_law_led") (st := K01.st__law_led) (ps := ["_law_point_here", "_law_matrix_here"]) KX G (by k_is) (by k_is) (by k_is) (by k_is) (fun _ _ _ _ _ _ us hl => match us, hl with | [_, _], _ => rfl))
    have d__law_both := (DL.defT_mk (x := "_law_both") (st := K01.st__law_both) (ps := ["_law_outer_one", "_law_inner"]) KX G (by k_is) (by k_is) (by k_is) (by k_is) (fun _ _ _ _ _ _ us hl => match us, hl with | [_, _], _ => rfl))
    have d__law_round := (DL.defT_mk (x := "_law_round") (st := K01.st__law_round) (ps := ["_law_loop_here", "_law_point_here"]) KX G (by k_is) (by k_is) (by k_is) (by k_is) (fun _ _ _ _ _ _ us hl => match us, hl with | [_, _], _ => rfl))
    have d__law_inside := (DL.defT_mk (x := "_law_inside") (st := K01.st__law_inside) (ps := ["_law_shape_here", "_law_matrix_here", "_law_point_here"]) KX G (by k_is) (by k_is) (by k_is) (by k_is) (fun _ _ _ _ _ _ us hl => match us, hl with | [_, _, _], _ => rfl))
    have d__law_over := (DL.defT_mk (x := "_law_over") (st := K01.st__law_over) (ps := ["_law_below", "_law_above"]) KX G (by k_is) (by k_is) (by k_is) (by k_is) (fun _ _ _ _ _ _ us hl => match us, hl with | [_, _], _ => rfl))
    have d__law_nothing := (DL.defT_mk (x := "_law_nothing") (st := K01.st__law_nothing) (ps := []) KX G (by k_is) (by k_is) (by k_is) (by k_is) (fun _ _ _ _ _ _ us hl => match us, hl with | [], _ => rfl))
    have d__law_paint := (DL.defT_mk (x := "_law_paint") (st := K01.st__law_paint) (ps := ["_law_layers", "_law_matrix_here", "_law_point_here"]) KX G (by k_is) (by k_is) (by k_is) (by k_is) (fun _ _ _ _ _ _ us hl => match us, hl with | [_, _, _], _ => rfl))
    have d__law_shown := (DL.defT_mk (x := "_law_shown") (st := K01.st__law_shown) (ps := ["_law_drawing_here", "_law_point_here"]) KX G (by k_is) (by k_is) (by k_is) (by k_is) (fun _ _ _ _ _ _ us hl => match us, hl with | [_, _], _ => rfl))
    have d__law_point := (DL.defT_mk (x := "_law_point") (st := K01.st__law_point) (ps := ["_law_dice", "_law_far"]) KX G (by k_is) (by k_is) (by k_is) (by k_is) (fun _ _ _ _ _ _ us hl => match us, hl with | [_, _], _ => rfl))
    have b_isinstance : mg "isinstance" = none := PySem.W.mg_none_of KX G (by k_is)
    have b_tuple : mg "tuple" = none := PySem.W.mg_none_of KX G (by k_is)
    have b_int : mg "int" = none := PySem.W.mg_none_of KX G (by k_is)
    have b_bool : mg "bool" = none := PySem.W.mg_none_of KX G (by k_is)
    have b_len : mg "len" = none := PySem.W.mg_none_of KX G (by k_is)
    have b_all : mg "all" = none := PySem.W.mg_none_of KX G (by k_is)
    have b_any : mg "any" = none := PySem.W.mg_none_of KX G (by k_is)
    have b_sum : mg "sum" = none := PySem.W.mg_none_of KX G (by k_is)
    have b_max : mg "max" = none := PySem.W.mg_none_of KX G (by k_is)
    have b_min : mg "min" = none := PySem.W.mg_none_of KX G (by k_is)
    have b_range : mg "range" = none := PySem.W.mg_none_of KX G (by k_is)
    have b_abs : mg "abs" = none := PySem.W.mg_none_of KX G (by k_is)
    have b_zip : mg "zip" = none := PySem.W.mg_none_of KX G (by k_is)
    have b_enumerate : mg "enumerate" = none := PySem.W.mg_none_of KX G (by k_is)
    have b_ValueError : mg "ValueError" = none := PySem.W.mg_none_of KX G (by k_is)
    have c_LIMIT : ∃ t, mg "LIMIT" = some (.int 1000000000000000000000000000000 t) := ⟨_, PySem.W.mg_of KX G (by k_is)⟩
    have c_RULES := DL.strs_mk (x := "RULES") (ss := ["odd", "turns"]) KX G (by k_is) (by k_is) (by decide) (.cons ⟨_, rfl⟩ (.cons ⟨_, rfl⟩ (.nil)))
    have c_FARTHEST : ∃ t, mg "FARTHEST" = some (.int 9 t) := ⟨_, PySem.W.mg_of KX G (by k_is)⟩
    have c_MOST_LAYERS : ∃ t, mg "MOST_LAYERS" = some (.int 4 t) := ⟨_, PySem.W.mg_of KX G (by k_is)⟩
    have c_MOST_POINTS : ∃ t, mg "MOST_POINTS" = some (.int 60 t) := ⟨_, PySem.W.mg_of KX G (by k_is)⟩
    have c_DEEPEST : ∃ t, mg "DEEPEST" = some (.int 2 t) := ⟨_, PySem.W.mg_of KX G (by k_is)⟩
    have c_SAME_PLACE := DL.ints_mk (x := "SAME_PLACE") (ns := [1, 0, 0, 1, 0, 0]) KX G (by k_is) (by k_is) (by decide) (.cons ⟨_, rfl⟩ (.cons ⟨_, rfl⟩ (.cons ⟨_, rfl⟩ (.cons ⟨_, rfl⟩ (.cons ⟨_, rfl⟩ (.cons ⟨_, rfl⟩ (.nil)))))))
    have c_NOTHING := DL.four_mk (x := "NOTHING") (n1 := [0, 1]) (n2 := [0, 1]) (n3 := [0, 1]) (n4 := [0, 1]) KX G (by k_is) (by k_is) (by k_is) (by k_is) (by k_is) (by k_is) (by decide) (by decide) (by decide) (by decide) (.cons ⟨_, rfl⟩ (.cons ⟨_, rfl⟩ (.nil))) (.cons ⟨_, rfl⟩ (.cons ⟨_, rfl⟩ (.nil))) (.cons ⟨_, rfl⟩ (.cons ⟨_, rfl⟩ (.nil))) (.cons ⟨_, rfl⟩ (.cons ⟨_, rfl⟩ (.nil)))
    have c_ALL := DL.ints_mk (x := "ALL") (ns := [1, 1]) KX G (by k_is) (by k_is) (by decide) (.cons ⟨_, rfl⟩ (.cons ⟨_, rfl⟩ (.nil)))
    have m_InvalidNumber := PySem.W.mg_of KX G (n := "InvalidNumber") (by k_is)
    have m_InvalidPoint := PySem.W.mg_of KX G (n := "InvalidPoint") (by k_is)
    have m_InvalidShape := PySem.W.mg_of KX G (n := "InvalidShape") (by k_is)
    have m_InvalidLayer := PySem.W.mg_of KX G (n := "InvalidLayer") (by k_is)
    have m_InvalidDrawing := PySem.W.mg_of KX G (n := "InvalidDrawing") (by k_is)
    have m_InvalidRegion := PySem.W.mg_of KX G (n := "InvalidRegion") (by k_is)
    have m_InvalidPlan := PySem.W.mg_of KX G (n := "InvalidPlan") (by k_is)
    have m_InvalidIndex := PySem.W.mg_of KX G (n := "InvalidIndex") (by k_is)
    have m_InvalidBox := PySem.W.mg_of KX G (n := "InvalidBox") (by k_is)
    have m_InvalidMove := PySem.W.mg_of KX G (n := "InvalidMove") (by k_is)
    have m_InvalidText := PySem.W.mg_of KX G (n := "InvalidText") (by k_is)
    have m_OnEdge := PySem.W.mg_of KX G (n := "OnEdge") (by k_is)
    have m_Blank := PySem.W.mg_of KX G (n := "Blank") (by k_is)
    have m_TooMany := PySem.W.mg_of KX G (n := "TooMany") (by k_is)
    have m_NothingToUndo := PySem.W.mg_of KX G (n := "NothingToUndo") (by k_is)
    have m_PictureError := PySem.W.mg_of KX G (n := "PictureError") (by k_is)
    obtain ⟨cs, hC, e1, r1, e2, r2, e3, r3⟩ := K01.errs_mk KX m_InvalidNumber m_InvalidPoint m_InvalidShape m_InvalidLayer m_InvalidDrawing m_InvalidRegion m_InvalidPlan m_InvalidIndex m_InvalidBox m_InvalidMove m_InvalidText m_OnEdge m_Blank m_TooMany m_NothingToUndo m_PictureError
      (by k_is) (by k_is) (by k_is) (by k_is) (by k_is) (by k_is) (by k_is) (by k_is) (by kernel_rfl) (by kernel_rfl) (by kernel_rfl) (by kernel_rfl) (by k_is) (by k_is)
      (by k_is) (by k_is) (by k_is) (by k_is) (by k_is) (by k_is) (by k_is) (by k_is) (by kernel_rfl) (by kernel_rfl) (by kernel_rfl) (by kernel_rfl) (by k_is) (by k_is)
      (by k_is) (by k_is) (by k_is) (by k_is) (by k_is) (by k_is) (by k_is) (by k_is) (by kernel_rfl) (by kernel_rfl) (by kernel_rfl) (by kernel_rfl) (by k_is) (by k_is)
    have m_gcd : mg "gcd" = some (.builtin "math.gcd") := PySem.W.mg_of KX G (by k_is)
    obtain ⟨fd, cc, Pt, ⟨F, hb⟩, hcc, hT, nT, C⟩ := DL.lawU_mk (x := "law") (p := "_law_script") (st := K01.st_law) KX G hmg (by k_is) (by k_is) (by k_is) (by k_is) (by k_is) (by rfl) (by kernel_rfl) (by kernel_rfl) (by exact PySem.W.km_tabs_of Y _ (List.mem_singleton_self _)) (fun s kV doc pm an cdv ct v => .of_eq rfl)
    have one : ∀ p ∈ [(cc, Pt)], p = (cc, Pt) := fun p hp => List.mem_singleton.mp hp
    exact ⟨fd, [(cc, Pt)], @K01.spLaw ⟨[(Pt, "law.<locals>.<lambda>")]⟩ _, fun p hp => one p hp ▸ hT, fun p hp => one p hp ▸ nT, fun p hp => one p hp ▸ C, hb,
      fun H a ns hl _ hH hS => ⟨fun p hp => by rw [List.mem_singleton.mp hp]; exact LamX.TabS.nil (hH _ (List.mem_singleton_self _)), a, ns, rfl, hS, hl, fun _ => rfl⟩,
      fun base _ _ TB => @K01.law_all ⟨[(Pt, "law.<locals>.<lambda>")]⟩ _ _ _ _ _ ⟨d_is_whole, d_are_whole, d_is_fraction, d_are_fractions, d_is_point, d_lowest, d_plus, d_times, d_rest_of, d_is_loop, d_is_shape, d_is_colour, d_is_opacity, d_is_matrix, d_is_fill, d_is_rub, d_is_group, d_is_nested_layer, d_are_layers, d_list_shapes, d_add_points, d_is_drawing, d_check_drawing, d_make_spot, d_spot_of, d_edges_of, d_side_of, d_is_between, d_is_on_edge, d_is_on_shape, d_count_turns, d_is_inside, d_lead, d_follow, d_place_shape, d_place_group, d_place_layer, d_place_layers, d_filled, d_weakened, d_laying, d_laid, d_stack_layer, d_stack_up, d_shown_by_group, d_effect_of, d_shown, d_check_point, d_painted, d__law_cell, d__law_drawn, d__law_roll, d__law_rounds, d__law_term, d__law_told, d__law_low, d__law_plus, d__law_minus, d__law_times, d__law_loop, d__law_shape, d__law_opacity, d__law_matrix, d__law_layer, d__law_drawing, d__law_size, d__law_led, d__law_both, d__law_round, d__law_inside, d__law_over, d__law_nothing, d__law_paint, d__law_shown, d__law_point, b_isinstance, b_tuple, b_int, b_bool, b_len, b_all, b_any, b_sum, b_max, b_min, b_range, b_abs, b_zip, b_enumerate, b_ValueError, c_LIMIT, c_RULES, c_FARTHEST, c_MOST_LAYERS, c_MOST_POINTS, c_DEEPEST, c_SAME_PLACE, c_NOTHING, c_ALL, m_gcd⟩ _ _ _ _ cs hC e1 r1 e2 r2 e3 r3 F hcc (TB _ (List.mem_singleton_self _)) (List.mem_singleton_self _) (fun p hp _ => by rw [List.mem_singleton.mp hp]; rfl)⟩
