import PyProof.Rows.All
import Wide.All
import OpenK.AllK
import Wide.FinOn
import HandS.ForMost
import HandS.Evl
import HandS.Wide
import HandS.Deep
import HandS.Flow
import HandS.Style
import HandS.IsInst
import HandS.Set
import HandS.SetBool
import PyProof.Rows.SetFrom
import PyProof.Rows.SortStr
import PyProof.Rows.SortShellAny
import HandS.SetFor
import HandS.Ends
import PySem.Challenge.RW_pipeform_k02_pipelines_run
set_option Elab.async false
set_option linter.all false
set_option maxRecDepth 100000
set_option maxHeartbeats 4000000
namespace DL
open PySem PySem.Spec PyProof.Rows L2
abbrev Frg := PySem.W.Frag
mutual
inductive Da (K : Frg) (I : Hp) : V → PyData → Prop
  | non : Da K I .non .none
  | bl (b : Bool) : Da K I (.bl b) (.bool b)
  | int (i : Int) : Da K I (.int i) (.int i)
  | str (x : Str) : Da K I (.str x) (.str x)
  | lst {a : Addr} {xs : List V} {ds : List PyData} : I a = some (.lst xs) → DaL K I xs ds → Da K I (.ref a) (.list ds)
  | tup {a : Addr} {xs : List V} {ds : List PyData} : SqT K I a xs → DaL K I xs ds → Da K I (.ref a) (.tuple ds)
inductive DaL (K : Frg) (I : Hp) : List V → List PyData → Prop
  | nil : DaL K I [] []
  | cons {v : V} {vs : List V} {d : PyData} {ds : List PyData} : Da K I v d → DaL K I vs ds → DaL K I (v :: vs) (d :: ds)
end
theorem sqT_mono {K : Frg} {H H' : Hp} {a : Addr} {xs : List V} (e : Same H H') (h : SqT K H a xs) : SqT K H' a xs := by
  rcases h with (h | ⟨o, h⟩) | h
  · exact .inl (.inl (e _ _ h))
  · exact .inl (.inr ⟨o, e _ _ h⟩)
  · exact .inr h
section
variable {K : Frg} {I I' H H' T : Hp}
mutual
theorem Da.mono (e : Same I I') : ∀ {v : V} {d : PyData}, Da K I v d → Da K I' v d
  | _, _, .non => .non
  | _, _, .bl b => .bl b
  | _, _, .int i => .int i
  | _, _, .str x => .str x
  | _, _, .lst h r => .lst (e _ _ h) (DaL.mono e r)
  | _, _, .tup h r => .tup (sqT_mono e h) (DaL.mono e r)
theorem DaL.mono (e : Same I I') : ∀ {vs : List V} {ds : List PyData}, DaL K I vs ds → DaL K I' vs ds
  | _, _, .nil => .nil
  | _, _, .cons h r => .cons (Da.mono e h) (DaL.mono e r)
end
mutual
theorem Da.dp : ∀ {v : V} {d : PyData}, Da K H v d → Dp K H v d
  | _, _, .non => .non
  | _, _, .bl b => .bl b
  | _, _, .int i => .int i
  | _, _, .str x => .str x
  | _, _, .lst h r => .lst (.inl (.inl h)) (DaL.dp r)
  | _, _, .tup h r => .tup h (DaL.dp r)
theorem DaL.dp : ∀ {vs : List V} {ds : List PyData}, DaL K H vs ds → DpAll K H vs ds
  | _, _, .nil => .nil
  | _, _, .cons h r => .cons (Da.dp h) (DaL.dp r)
end
theorem DaL.length : ∀ {vs : List V} {ds : List PyData}, DaL K I vs ds → vs.length = ds.length
  | _, _, .nil => rfl
  | _, _, .cons _ r => congrArg (· + 1) (DaL.length r)
theorem DaL.get : ∀ {vs : List V} {ds : List PyData} {i : Nat} {d : PyData}, DaL K I vs ds → ds[i]? = some d → ∃ v, vs[i]? = some v ∧ Da K I v d
  | _, _, 0, _, .cons h _, e => by
    cases e
    exact ⟨_, rfl, h⟩
  | _, _, i + 1, _, .cons _ r, e => DaL.get (i := i) r (by simpa using e)
theorem DaL.getV : ∀ {vs : List V} {ds : List PyData} {i : Nat} {v : V}, DaL K I vs ds → vs[i]? = some v → ∃ d, ds[i]? = some d ∧ Da K I v d
  | _, _, 0, _, .cons h _, e => by
    cases e
    exact ⟨_, rfl, h⟩
  | _, _, i + 1, _, .cons _ r, e => DaL.getV (i := i) r (by simpa using e)
theorem DaL.append : ∀ {vs ws : List V} {ds es : List PyData}, DaL K I vs ds → DaL K I ws es → DaL K I (vs ++ ws) (ds ++ es)
  | _, _, _, _, .nil, r => r
  | _, _, _, _, .cons h t, r => .cons h (DaL.append t r)
theorem DaL.one {v : V} {d : PyData} (h : Da K I v d) : DaL K I [v] [d] := .cons h .nil
theorem DaL.take : ∀ {vs : List V} {ds : List PyData} (n : Nat), DaL K I vs ds → DaL K I (vs.take n) (ds.take n)
  | _, _, 0, _ => by simpa using DaL.nil
  | _, _, n + 1, .nil => by simpa using DaL.nil
  | _, _, n + 1, .cons h r => by simpa using DaL.cons h (DaL.take n r)
theorem DaL.drop : ∀ {vs : List V} {ds : List PyData} (n : Nat), DaL K I vs ds → DaL K I (vs.drop n) (ds.drop n)
  | _, _, 0, h => by simpa using h
  | _, _, n + 1, .nil => by simpa using DaL.nil
  | _, _, n + 1, .cons _ r => by simpa using DaL.drop n r
theorem DaL.reverse : ∀ {vs : List V} {ds : List PyData}, DaL K I vs ds → DaL K I vs.reverse ds.reverse
  | _, _, .nil => .nil
  | _, _, .cons h r => by simpa using (DaL.reverse r).append (.one h)
theorem DaL.set : ∀ {vs : List V} {ds : List PyData} {i : Nat} {v : V} {d : PyData}, DaL K I vs ds → Da K I v d → DaL K I (vs.set i v) (ds.set i d)
  | _, _, _, _, _, .nil, _ => .nil
  | _, _, 0, _, _, .cons _ r, h => .cons h r
  | _, _, i + 1, _, _, .cons h0 r, h => .cons h0 (DaL.set r h)
theorem DaL.eraseIdx : ∀ {vs : List V} {ds : List PyData} (i : Nat), DaL K I vs ds → DaL K I (vs.eraseIdx i) (ds.eraseIdx i)
  | _, _, _, .nil => .nil
  | _, _, 0, .cons _ r => r
  | _, _, i + 1, .cons h r => by simpa using DaL.cons h (DaL.eraseIdx i r)
theorem DaL.dropLast : ∀ {vs : List V} {ds : List PyData}, DaL K I vs ds → DaL K I vs.dropLast ds.dropLast := fun h => by
  rw [List.dropLast_eq_take, List.dropLast_eq_take, h.length]
  exact h.take _
theorem DaL.ints : ∀ {vs : List V} {ns : List Int}, DaL K I vs (ns.map .int) → vs = ns.map V.int
  | _, [], .nil => rfl
  | _, n :: ns, .cons (.int _) r => congrArg (V.int n :: ·) (DaL.ints r)
theorem DaL.strs : ∀ {vs : List V} {ns : List Str}, DaL K I vs (ns.map .str) → vs = ns.map V.str
  | _, [], .nil => rfl
  | _, n :: ns, .cons (.str _) r => congrArg (V.str n :: ·) (DaL.strs r)
theorem DaL.ofInts : ∀ (ns : List Int), DaL K I (ns.map V.int) (ns.map .int)
  | [] => .nil
  | n :: ns => .cons (.int n) (DaL.ofInts ns)
theorem DaL.ofStrs : ∀ (ns : List Str), DaL K I (ns.map V.str) (ns.map .str)
  | [] => .nil
  | n :: ns => .cons (.str n) (DaL.ofStrs ns)
theorem Da.list_inv {v : V} {ds : List PyData} (h : Da K I v (.list ds)) : ∃ a xs, v = .ref a ∧ I a = some (.lst xs) ∧ DaL K I xs ds := by
  cases h with
  | lst h r => exact ⟨_, _, rfl, h, r⟩
theorem Da.tup_inv {v : V} {ds : List PyData} (h : Da K I v (.tuple ds)) : ∃ a xs, v = .ref a ∧ SqT K I a xs ∧ DaL K I xs ds := by
  cases h with
  | tup h r => exact ⟨_, _, rfl, h, r⟩
theorem Da.int_inv {v : V} {i : Int} (h : Da K I v (.int i)) : v = .int i := by
  cases h
  rfl
theorem Da.str_inv {v : V} {i : Str} (h : Da K I v (.str i)) : v = .str i := by
  cases h
  rfl
theorem Da.bl_inv {v : V} {i : Bool} (h : Da K I v (.bool i)) : v = .bl i := by
  cases h
  rfl
theorem Da.non_inv {v : V} (h : Da K I v .none) : v = .non := by
  cases h
  rfl
end
structure Cel where
  ok : List Addr → V → Hp → Hp → Prop
  loc : ∀ F v I I' H H', Same I I' → (∀ a ∈ F, H' a = H a) → ok F v I H → ok F v I' H'
inductive SD where
  | un
  | dat (d : PyData)
  | mut (ds : List PyData)
  | cel (c : Cel)
  | scr (ns : List Int)
def Sl (K : Frg) (I H : Hp) (F : List Addr) (o : Option V) : SD → Prop
  | .un => True
  | .dat d => ∃ v, o = some v ∧ Da K I v d
  | .mut ds => ∃ p xs, o = some (.ref p) ∧ p ∈ F ∧ H p = some (.lst xs) ∧ DaL K I xs ds
  | .cel c => ∃ v, o = some v ∧ c.ok F v I H
  | .scr ns => ∃ a, o = some (.ref a) ∧ SqL K I a (ns.map V.int)
structure Ok1 (K : Frg) (T B : Hp) (ft : Nat → List Addr) (ws : List SD) (σ : L2.St) (I H : Hp) : Prop where
  sub : Same I H
  oth : Same T H
  bse : Same B I
  ti : ∀ b, T b ≠ none → I b = none
  len : σ.length = ws.length
  ap : ∀ i j a, a ∈ ft i → a ∈ ft j → i = j
  own : ∀ i a, a ∈ ft i → I a = none ∧ T a = none ∧ H a ≠ none
  sl : ∀ i w, ws[i]? = some w → Sl K I H (ft i) (σ[i]?.join) w
def Ok (K : Frg) (T B : Hp) (ws : List SD) (σ : L2.St) (I H : Hp) : Prop := ∃ ft, Ok1 K T B ft ws σ I H
section
variable {K : Frg} {T B I I' H H' : Hp} {ws : List SD} {σ : L2.St} {F : List Addr} {o : Option V} {w : SD} {ft : Nat → List Addr}
theorem Sl.keep (e : Same I I') (h : ∀ a ∈ F, H' a = H a) : ∀ {w : SD}, Sl K I H F o w → Sl K I' H' F o w
  | .un, _ => trivial
  | .dat _, ⟨v, h1, h2⟩ => ⟨v, h1, h2.mono e⟩
  | .mut _, ⟨p, xs, h1, h2, h3, h4⟩ => ⟨p, xs, h1, h2, (h p h2).trans h3, h4.mono e⟩
  | .cel c, ⟨v, h1, h2⟩ => ⟨v, h1, c.loc F v _ _ H H' e h h2⟩
  | .scr _, ⟨a, h1, h2⟩ => ⟨a, h1, e.seq h2⟩
theorem Ok1.step (k : Ok1 K T B ft ws σ I H) (e : Same I I') (s : Same I' H') (t : Same T H') (ti : ∀ b, T b ≠ none → I' b = none) (own : ∀ i a, a ∈ ft i → H' a = H a ∧ I' a = none) : Ok1 K T B ft ws σ I' H' :=
  ⟨s, t, fun b o h => e b o (k.bse b o h), ti, k.len, k.ap, fun i a h => ⟨(own i a h).2, (k.own i a h).2.1, by rw [(own i a h).1]; exact (k.own i a h).2.2⟩, fun i w h => (k.sl i w h).keep e fun a ha => (own i a ha).1⟩
theorem none_of (k : Same I H) {p : Addr} (h : H p = none) : I p = none := k.free h
theorem Ok1.new (k : Ok1 K T B ft ws σ I H) {p : Addr} (h : H p = none) (o : HO) : Ok1 K T B ft ws σ (upd I p o) (upd H p o) := by
  have hI := none_of k.sub h
  have hT := none_of k.oth h
  refine k.step (fun b x e => ?_) (fun b x e => ?_) (fun b x e => ?_) (fun b hb => ?_) fun i a ha => ?_
  · rw [upd_ne (ne_of_none e hI)]
    exact e
  · by_cases q : b = p
    · subst q
      rw [upd_same] at e ⊢
      exact e
    · rw [upd_ne q] at e ⊢
      exact k.sub _ _ e
  · rw [upd_ne (ne_of_none e hT)]
    exact k.oth _ _ e
  · have q : b ≠ p := fun q => hb (by rw [q]; exact hT)
    rw [upd_ne q]
    exact k.ti b hb
  · have q : a ≠ p := fun q => (k.own i a ha).2.2 (by rw [q]; exact h)
    rw [upd_ne q, upd_ne q]
    exact ⟨rfl, (k.own i a ha).1⟩
theorem Ok.new (k : Ok K T B ws σ I H) {p : Addr} (h : H p = none) (o : HO) : Ok K T B ws σ (upd I p o) (upd H p o) := k.elim fun ft k => ⟨ft, k.new h o⟩
theorem Ok.sub (k : Ok K T B ws σ I H) : Same I H := k.elim fun _ k => k.sub
theorem Ok.oth (k : Ok K T B ws σ I H) : Same T H := k.elim fun _ k => k.oth
theorem Ok.len (k : Ok K T B ws σ I H) : σ.length = ws.length := k.elim fun _ k => k.len
theorem Ok.ti (k : Ok K T B ws σ I H) : ∀ b, T b ≠ none → I b = none := k.elim fun _ k => k.ti
theorem same_new {p : Addr} (h : I p = none) (o : HO) : Same I (upd I p o) := fun b x e => by
  rw [upd_ne (ne_of_none e h)]
  exact e
theorem Ok.dat {i : Nat} {d : PyData} (k : Ok K T B ws σ I H) (h : ws[i]? = some (.dat d)) : ∃ v, σ[i]? = some (some v) ∧ Da K I v d := by
  obtain ⟨ft, k⟩ := k
  obtain ⟨v, h1, h2⟩ := k.sl i _ h
  refine ⟨v, ?_, h2⟩
  cases e : σ[i]? with
  | none => rw [e] at h1; cases h1
  | some x => rw [e] at h1; exact congrArg some h1
theorem join_set {σ : L2.St} {i : Nat} {v : V} {j : Nat} (hj : i < σ.length) : ((σ.set i (some v))[j]?).join = if i = j then some v else (σ[j]?).join := by
  by_cases h : i = j
  · subst h
    rw [if_pos rfl, List.getElem?_set, if_pos rfl, if_pos hj]
    rfl
  · rw [if_neg h, List.getElem?_set, if_neg h]
theorem set_get {ws : List SD} {i j : Nat} {w x : SD} (h : (ws.set i x)[j]? = some w) : (i = j ∧ w = x) ∨ (i ≠ j ∧ ws[j]? = some w) := by
  rw [List.getElem?_set] at h
  by_cases q : i = j
  · rw [if_pos q] at h
    split at h
    · exact .inl ⟨q, (Option.some.inj h).symm⟩
    · cases h
  · rw [if_neg q] at h
    exact .inr ⟨q, h⟩
theorem Ok1.set {i : Nat} {v : V} {d : PyData} (k : Ok1 K T B ft ws σ I H) (h : Da K I v d) : Ok1 K T B (fun j => if i = j then [] else ft j) (ws.set i (.dat d)) (σ.set i (some v)) I H := by
  refine ⟨k.sub, k.oth, k.bse, k.ti, by rw [List.length_set, List.length_set]; exact k.len, fun a b c ha hb => ?_, fun a c ha => ?_, fun j w hw => ?_⟩
  · have ha : c ∈ if i = a then [] else ft a := ha
    have hb : c ∈ if i = b then [] else ft b := hb
    split at ha
    · cases ha
    · split at hb
      · cases hb
      · exact k.ap a b c ha hb
  · have ha : c ∈ if i = a then [] else ft a := ha
    split at ha
    · cases ha
    · exact k.own a c ha
  · rcases set_get hw with ⟨q, rfl⟩ | ⟨q, hw⟩
    · subst q
      have hi : i < ws.length := by
        have := (List.getElem?_eq_some_iff.mp hw).1
        rw [List.length_set] at this
        exact this
      refine ⟨v, ?_, h⟩
      rw [join_set (by rw [k.len]; exact hi), if_pos rfl]
    · show Sl K I H (if i = j then [] else ft j) _ w
      rw [if_neg q]
      have e : ((σ.set i (some v))[j]?).join = (σ[j]?).join := by rw [List.getElem?_set, if_neg q]
      rw [e]
      exact k.sl j w hw
theorem Ok.set {i : Nat} {v : V} {d : PyData} (k : Ok K T B ws σ I H) (h : Da K I v d) : Ok K T B (ws.set i (.dat d)) (σ.set i (some v)) I H := k.elim fun _ k => ⟨_, k.set h⟩
end
def EW (K : Frg) (ws : List SD) (te : TE) (P : PyData → List SD → Prop) : Prop :=
  ∀ T B σ I H, Ok K T B ws σ I H → ∀ Q : VK, (∀ v d ws' I' H', P d ws' → Ok K T B ws' σ I' H' → Same I I' → Da K I' v d → Q v H') → te σ H Q
def EF (K : Frg) (ws : List SD) (te : TE) (P : List PyData → List SD → Prop) : Prop :=
  ∀ T B σ I H, Ok K T B ws σ I H → ∀ Q : VK, (∀ p xs ds ws' I' H', P ds ws' → T p = none → Ok K (upd T p (.lst xs)) B ws' σ I' H' → Same I I' → DaL K I' xs ds → Q (.ref p) H') → te σ H Q
def AW (K : Frg) (ws : List SD) (ta : TA) (P : List PyData → List SD → Prop) : Prop :=
  ∀ T B σ I H, Ok K T B ws σ I H → ∀ Q : List V → Hp → Prop, (∀ vs ds ws' I' H', P ds ws' → Ok K T B ws' σ I' H' → Same I I' → DaL K I' vs ds → Q vs H') → ta σ H Q
def TW (K : Frg) (ws : List SD) (tt : TT) (P : Bool → List SD → Prop) : Prop :=
  ∀ T B σ I H, Ok K T B ws σ I H → ∀ Q : Bool → Hp → Prop, (∀ b ws' I' H', P b ws' → Ok K T B ws' σ I' H' → Same I I' → Q b H') → tt σ H Q
def GW (K : Frg) (T B : Hp) (ws : List SD) (g : TG) (d : PyData) (R : List SD → Prop) : Prop :=
  ∀ σ I H v, Ok K T B ws σ I H → Da K I v d → ∀ Q : L2.St → Hp → Prop, (∀ ws' σ', R ws' → Ok K T B ws' σ' I H → Q σ' H) → g v σ H Q
def GWs (K : Frg) (T B : Hp) (ws : List SD) (g : TGs) (ds : List PyData) (R : List SD → Prop) : Prop :=
  ∀ σ I H vs, Ok K T B ws σ I H → DaL K I vs ds → ∀ Q : L2.St → Hp → Prop, (∀ ws' σ', R ws' → Ok K T B ws' σ' I H → Q σ' H) → g vs σ H Q
def SW (K : Frg) (T B : Hp) (ws : List SD) (ts : TS) (D : Ends) : Prop := ∀ σ I H, Ok K T B ws σ I H → ts D σ H
def NX (K : Frg) (T B : Hp) (ws : List SD) (N : L2.St → Hp → Prop) : Prop := ∀ σ I H, Ok K T B ws σ I H → N σ H
def RT (K : Frg) (T B : Hp) (ws : List SD) (d : PyData) (N : V → Hp → Prop) : Prop := ∀ σ I H v, Ok K T B ws σ I H → Da K I v d → N v H
def Nx (K : Frg) (T B : Hp) (R : List SD → Prop) : L2.St → Hp → Prop := fun σ H => ∃ ws I, R ws ∧ Ok K T B ws σ I H
section
variable {K : Frg} {T B B' I I' H H' : Hp} {ws ws' : List SD} {σ : L2.St}
theorem Same.trans' {I I' J : Hp} (a : Same I I') (b : Same I' J) : Same I J := L2.Same.trans a b
theorem Ok.base (k : Ok K T B ws σ I H) (e : Same B' I) : Ok K T B' ws σ I H := k.elim fun ft k => ⟨ft, { k with bse := e }⟩
theorem Ok.bse (k : Ok K T B ws σ I H) : Same B I := k.elim fun _ k => k.bse
theorem Ok.self (k : Ok K T B ws σ I H) : Ok K T I ws σ I H := k.base (Same.refl I)
theorem Ok.less (k : Ok K T B' ws σ I H) (e : Same B B') : Ok K T B ws σ I H := k.base (e.trans k.bse)
theorem NX.up {N : L2.St → Hp → Prop} (h : NX K T B ws N) (e : Same B B') : NX K T B' ws N := fun σ I H k => h σ I H (k.less e)
theorem RT.up {N : V → Hp → Prop} {d : PyData} (h : RT K T B ws d N) (e : Same B B') : RT K T B' ws d N := fun σ I H v k => h σ I H v (k.less e)
theorem SW.up {ts : TS} {D : Ends} (h : SW K T B ws ts D) (e : Same B B') : SW K T B' ws ts D := fun σ I H k => h σ I H (k.less e)
theorem nx_of {R : List SD → Prop} (h : R ws) : NX K T B ws (Nx K T B R) := fun _ I _ k => ⟨ws, I, h, k⟩
theorem NX.of_nx {R : List SD → Prop} {N : L2.St → Hp → Prop} (h : ∀ ws, R ws → NX K T B ws N) : ∀ σ H, Nx K T B R σ H → N σ H := fun σ H ⟨ws, I, r, k⟩ => h ws r σ I H k
theorem Ok.freeze {p : Addr} {o : HO} (k : Ok K (upd T p o) B ws σ I H) (hT : T p = none) : Ok K T B ws σ (upd I p o) H ∧ Same I (upd I p o) := by
  obtain ⟨ft, k⟩ := k
  have hp : (upd T p o) p = some o := upd_same
  have hI : I p = none := k.ti p (by rw [hp]; simp)
  have hH : H p = some o := k.oth _ _ hp
  have e : Same I (upd I p o) := same_new hI o
  refine ⟨⟨ft, fun b x q => ?_, fun b x q => k.oth b x ?_, k.bse.trans e, fun b hb => ?_, k.len, k.ap, fun i a ha => ?_, fun i w hw => (k.sl i w hw).keep e fun _ _ => rfl⟩, e⟩
  · by_cases z : b = p
    · subst z
      rw [upd_same] at q
      cases q
      exact hH
    · rw [upd_ne z] at q
      exact k.sub _ _ q
  · rw [upd_ne (ne_of_none q hT)]
    exact q
  · have z : b ≠ p := fun z => hb (by rw [z]; exact hT)
    rw [upd_ne z]
    exact k.ti b (by rw [upd_ne z]; exact hb)
  · obtain ⟨h1, h2, h3⟩ := k.own i a ha
    have z : a ≠ p := fun z => by
      rw [z, upd_same] at h2
      cases h2
    rw [upd_ne z] at h2
    rw [upd_ne z]
    exact ⟨h1, h2, h3⟩
theorem Ok.hand {p : Addr} {o : HO} (k : Ok K T B ws σ I H) (h : H p = none) : Ok K (upd T p o) B ws σ I (upd H p o) ∧ T p = none := by
  obtain ⟨ft, k⟩ := k
  have hI := none_of k.sub h
  have hT := none_of k.oth h
  refine ⟨⟨ft, fun b x q => ?_, fun b x q => ?_, k.bse, fun b hb => ?_, k.len, k.ap, fun i a ha => ?_, fun i w hw => (k.sl i w hw).keep (Same.refl I) fun a ha => ?_⟩, hT⟩
  · rw [upd_ne (ne_of_none q hI)]
    exact k.sub _ _ q
  · by_cases z : b = p
    · subst z
      rw [upd_same] at q ⊢
      exact q
    · rw [upd_ne z] at q ⊢
      exact k.oth _ _ q
  · by_cases z : b = p
    · subst z
      exact hI
    · rw [upd_ne z] at hb
      exact k.ti b hb
  · obtain ⟨h1, h2, h3⟩ := k.own i a ha
    have z : a ≠ p := fun z => h3 (by rw [z]; exact h)
    rw [upd_ne z, upd_ne z]
    exact ⟨h1, h2, h3⟩
  · have z : a ≠ p := fun z => (k.own i a ha).2.2 (by rw [z]; exact h)
    rw [upd_ne z]
theorem Ok.keepIt {p : Addr} {xs : List V} {ds : List PyData} {i : Nat} (k : Ok K (upd T p (.lst xs)) B ws σ I H) (hT : T p = none) (hd : DaL K I xs ds) : Ok K T B (ws.set i (.mut ds)) (σ.set i (some (.ref p))) I H := by
  obtain ⟨ft, k⟩ := k
  have hp : (upd T p (HO.lst xs)) p = some (.lst xs) := upd_same
  have hI : I p = none := k.ti p (by rw [hp]; simp)
  have hH : H p = some (.lst xs) := k.oth _ _ hp
  have out : ∀ j, p ∉ ft j := fun j hj => by
    have h2 := (k.own j p hj).2.1
    rw [hp] at h2
    cases h2
  refine ⟨fun j => if i = j then [p] else ft j, k.sub, fun b x q => k.oth b x ?_, k.bse, fun b hb => ?_, by rw [List.length_set, List.length_set]; exact k.len, fun a b c ha hb => ?_, fun j a ha => ?_, fun j w hw => ?_⟩
  · rw [upd_ne (ne_of_none q hT)]
    exact q
  · have z : b ≠ p := fun z => hb (by rw [z]; exact hT)
    exact k.ti b (by rw [upd_ne z]; exact hb)
  · have ha : c ∈ if i = a then [p] else ft a := ha
    have hb : c ∈ if i = b then [p] else ft b := hb
    split at ha
    · split at hb
      · rename_i h1 h2
        exact h1.symm.trans h2
      · rw [List.mem_singleton] at ha
        exact absurd (ha ▸ hb) (out b)
    · split at hb
      · rw [List.mem_singleton] at hb
        exact absurd (hb ▸ ha) (out a)
      · exact k.ap a b c ha hb
  · have ha : a ∈ if i = j then [p] else ft j := ha
    split at ha
    · rw [List.mem_singleton] at ha
      subst ha
      exact ⟨hI, hT, by rw [hH]; simp⟩
    · obtain ⟨h1, h2, h3⟩ := k.own j a ha
      have z : a ≠ p := fun z => out j (by rw [← z]; exact ha)
      rw [upd_ne z] at h2
      exact ⟨h1, h2, h3⟩
  · rcases set_get hw with ⟨q, rfl⟩ | ⟨q, hw⟩
    · subst q
      have hi : i < ws.length := by
        have := (List.getElem?_eq_some_iff.mp hw).1
        rw [List.length_set] at this
        exact this
      refine ⟨p, xs, ?_, ?_, hH, hd⟩
      · rw [join_set (by rw [k.len]; exact hi), if_pos rfl]
      · show p ∈ if i = i then [p] else ft i
        rw [if_pos rfl]
        exact List.mem_singleton.mpr rfl
    · show Sl K I H (if i = j then [p] else ft j) _ w
      rw [if_neg q]
      have e : ((σ.set i (some (V.ref p)))[j]?).join = (σ[j]?).join := by rw [List.getElem?_set, if_neg q]
      rw [e]
      exact k.sl j w hw
theorem Ok.mutAt {i : Nat} {ds : List PyData} (k : Ok K T B ws σ I H) (h : ws[i]? = some (.mut ds)) : ∃ p xs, σ[i]? = some (some (.ref p)) ∧ H p = some (.lst xs) ∧ I p = none ∧ DaL K I xs ds ∧
    (∀ xs' ds', DaL K I xs' ds' → Ok K T B (ws.set i (.mut ds')) σ I (upd H p (.lst xs'))) := by
  obtain ⟨ft, k⟩ := k
  obtain ⟨p, xs, h1, h2, h3, h4⟩ := k.sl i _ h
  have hi : i < ws.length := (List.getElem?_eq_some_iff.mp h).1
  obtain ⟨hI, hT, hH⟩ := k.own i p h2
  refine ⟨p, xs, ?_, h3, hI, h4, fun xs' ds' hd => ⟨ft, fun b x q => ?_, fun b x q => ?_, k.bse, k.ti, by rw [List.length_set]; exact k.len, k.ap, fun j a ha => ?_, fun j w hw => ?_⟩⟩
  · cases e : σ[i]? with
    | none => rw [e] at h1; cases h1
    | some x => rw [e] at h1; exact congrArg some h1
  · rw [upd_ne (ne_of_none q hI)]
    exact k.sub _ _ q
  · rw [upd_ne (ne_of_none q hT)]
    exact k.oth _ _ q
  · obtain ⟨e1, e2, e3⟩ := k.own j a ha
    refine ⟨e1, e2, ?_⟩
    by_cases z : a = p
    · rw [z, upd_same]
      simp
    · rw [upd_ne z]
      exact e3
  · rcases set_get hw with ⟨q, rfl⟩ | ⟨q, hw⟩
    · subst q
      exact ⟨p, xs', h1, h2, upd_same, hd⟩
    · refine (k.sl j w hw).keep (Same.refl I) fun a ha => ?_
      have z : a ≠ p := fun z => q (k.ap i j p h2 (z ▸ ha))
      rw [upd_ne z]
theorem Ok.done {i : Nat} {ds : List PyData} (k : Ok K T B ws σ I H) (h : ws[i]? = some (.mut ds)) : ∃ I', Ok K T B (ws.set i (.dat (.list ds))) σ I' H ∧ Same I I' := by
  obtain ⟨ft, k⟩ := k
  obtain ⟨p, xs, h1, h2, h3, h4⟩ := k.sl i _ h
  obtain ⟨hI, hT, hH⟩ := k.own i p h2
  have e : Same I (upd I p (.lst xs)) := same_new hI _
  refine ⟨upd I p (.lst xs), ⟨fun j => if i = j then [] else ft j, fun b x q => ?_, k.oth, k.bse.trans e, fun b hb => ?_, by rw [List.length_set]; exact k.len, fun a b c ha hb => ?_, fun j a ha => ?_, fun j w hw => ?_⟩, e⟩
  · by_cases z : b = p
    · subst z
      rw [upd_same] at q
      cases q
      exact h3
    · rw [upd_ne z] at q
      exact k.sub _ _ q
  · have z : b ≠ p := fun z => hb (by rw [z]; exact hT)
    rw [upd_ne z]
    exact k.ti b hb
  · have ha : c ∈ if i = a then [] else ft a := ha
    have hb : c ∈ if i = b then [] else ft b := hb
    split at ha
    · cases ha
    · split at hb
      · cases hb
      · exact k.ap a b c ha hb
  · have ha : a ∈ if i = j then [] else ft j := ha
    split at ha
    · cases ha
    · rename_i q
      obtain ⟨e1, e2, e3⟩ := k.own j a ha
      have z : a ≠ p := fun z => q (k.ap i j p h2 (z ▸ ha))
      rw [upd_ne z]
      exact ⟨e1, e2, e3⟩
  · rcases set_get hw with ⟨q, rfl⟩ | ⟨q, hw⟩
    · subst q
      exact ⟨.ref p, h1, .lst upd_same (h4.mono e)⟩
    · show Sl K _ H (if i = j then [] else ft j) _ w
      rw [if_neg q]
      exact (k.sl j w hw).keep e fun _ _ => rfl
theorem Ok.bare (k : Ok K T B ws σ I H) : Ok K T B [] [] I H := k.elim fun ft k => ⟨fun _ => [], k.sub, k.oth, k.bse, k.ti, rfl, fun _ _ _ h _ => (nomatch h), fun _ _ h => (nomatch h), fun _ _ h => (by simp at h)⟩
def rest (I H : Hp) : Hp := fun b => match I b with
  | none => H b
  | some _ => none
theorem rest_eq {b : Addr} (h : I b = none) : rest I H b = H b := by unfold rest; rw [h]
theorem rest_none {b : Addr} (h : I b ≠ none) : rest I H b = none := by
  unfold rest
  cases e : I b with
  | none => exact absurd e h
  | some x => rfl
theorem Ok.give (k : Ok K T B ws σ I H) : Ok K (rest I H) I [] [] I H := by
  refine ⟨fun _ => [], k.sub, fun b x q => ?_, Same.refl I, fun b hb => ?_, rfl, fun _ _ _ h _ => (nomatch h), fun _ _ h => (nomatch h), fun _ _ h => (by simp at h)⟩
  · by_cases z : I b = none
    · rw [rest_eq z] at q
      exact q
    · rw [rest_none z] at q
      cases q
  · by_cases z : I b = none
    · exact z
    · rw [rest_none z] at hb
      exact absurd rfl hb
theorem Ok.take (k : Ok K T B ws σ I H) (k' : Ok K (rest I H) I [] [] I' H') : Ok K T B ws σ I' H' := by
  obtain ⟨ft, k⟩ := k
  have e := k'.bse
  refine ⟨ft, k.step e k'.sub (fun b x q => k'.oth b x ?_) (fun b hb => k'.ti b ?_) fun i a ha => ?_⟩
  · rw [rest_eq (k.ti b (by rw [q]; simp))]
    exact k.oth _ _ q
  · rw [rest_eq (k.ti b hb)]
    cases q : T b with
    | none => exact absurd q hb
    | some x =>
      rw [k.oth _ _ q]
      simp
  · obtain ⟨h1, h2, h3⟩ := k.own i a ha
    have z : rest I H a = H a := rest_eq h1
    refine ⟨?_, k'.ti a (by rw [z]; exact h3)⟩
    cases q : H a with
    | none => exact absurd q h3
    | some x => exact k'.oth a x (by rw [z, q])
end
end DL
namespace DL
open PySem PySem.Spec PyProof.Rows L2
def OW (K : Frg) (r : R2) (x y : PyData) (P : PyData → Prop) : Prop :=
  ∀ T B ws σ I H v u, Ok K T B ws σ I H → Da K I v x → Da K I u y → ∀ Q : VK, (∀ z d I' H', P d → Ok K T B ws σ I' H' → Same I I' → Da K I' z d → Q z H') → r v u H Q
def UW (K : Frg) (r : V → Hp → VK → Prop) (x : PyData) (P : PyData → Prop) : Prop :=
  ∀ T B ws σ I H v, Ok K T B ws σ I H → Da K I v x → ∀ Q : VK, (∀ z d I' H', P d → Ok K T B ws σ I' H' → Same I I' → Da K I' z d → Q z H') → r v H Q
def CW (K : Frg) (r : List V → Hp → VK → Prop) (xs : List PyData) (P : PyData → Prop) : Prop :=
  ∀ T B ws σ I H vs, Ok K T B ws σ I H → DaL K I vs xs → ∀ Q : VK, (∀ z d I' H', P d → Ok K T B ws σ I' H' → Same I I' → Da K I' z d → Q z H') → r vs H Q
def OF (K : Frg) (r : R2) (x y : PyData) (P : List PyData → Prop) : Prop :=
  ∀ T B ws σ I H v u, Ok K T B ws σ I H → Da K I v x → Da K I u y → ∀ Q : VK, (∀ p xs ds I' H', P ds → T p = none → Ok K (upd T p (.lst xs)) B ws σ I' H' → Same I I' → DaL K I' xs ds → Q (.ref p) H') → r v u H Q
def CF (K : Frg) (r : List V → Hp → VK → Prop) (zs : List PyData) (P : List PyData → Prop) : Prop :=
  ∀ T B ws σ I H vs, Ok K T B ws σ I H → DaL K I vs zs → ∀ Q : VK, (∀ p xs ds I' H', P ds → T p = none → Ok K (upd T p (.lst xs)) B ws σ I' H' → Same I I' → DaL K I' xs ds → Q (.ref p) H') → r vs H Q
section
variable {K : Frg} {ws : List SD} {ta tb te : TE} {ts : TA} {tt tu : TT} {r r' : R2} {x y z : PyData} {P : PyData → List SD → Prop} {PA : List PyData → List SD → Prop} {PB : Bool → List SD → Prop} {Pd : PyData → Prop} {Pl : List PyData → Prop}
theorem EW.imp {P' : PyData → List SD → Prop} (h : EW K ws te P) (f : ∀ d w, P d w → P' d w) : EW K ws te P' := fun T B σ I H k Q q => h T B σ I H k Q fun v d ws' I' H' p => q v d ws' I' H' (f _ _ p)
theorem ew_var {i : Nat} {d : PyData} (h : ws[i]? = some (.dat d)) (p : P d ws) : EW K ws (tVar i) P := fun T B σ I H k Q q => by
  obtain ⟨v, e, a⟩ := k.dat h
  exact ⟨v, e, q v d ws I H p k (Same.refl I) a⟩
theorem ew_int {i : Int} (p : P (.int i) ws) : EW K ws (tC (.int i)) P := fun T B σ I H k Q q => q _ _ _ _ _ p k (Same.refl I) (.int i)
theorem ew_str {i : Str} (p : P (.str i) ws) : EW K ws (tC (.str i)) P := fun T B σ I H k Q q => q _ _ _ _ _ p k (Same.refl I) (.str i)
theorem ew_bl {i : Bool} (p : P (.bool i) ws) : EW K ws (tC (.bl i)) P := fun T B σ I H k Q q => q _ _ _ _ _ p k (Same.refl I) (.bl i)
theorem ew_non (p : P .none ws) : EW K ws (tC .non) P := fun T B σ I H k Q q => q _ _ _ _ _ p k (Same.refl I) .non
theorem ew_con {v : V} {d : PyData} (h : Da K (fun _ => none) v d) (p : P d ws) : EW K ws (tC v) P := fun T B σ I H k Q q => q _ _ _ _ _ p k (Same.refl I) (h.mono fun _ _ e => by cases e)
theorem ew_op (h : EW K ws ta fun x w1 => EW K w1 tb fun y w2 => OW K r x y fun d => P d w2) : EW K ws (tOp r ta tb) P := fun T B σ I H k Q q => by
  refine h T B σ I H k _ fun v x w1 I1 H1 p1 k1 s1 a1 => ?_
  refine p1 T B σ I1 H1 k1 _ fun u y w2 I2 H2 p2 k2 s2 a2 => ?_
  exact p2 T B w2 σ I2 H2 v u k2 (a1.mono s2) a2 Q fun z d I3 H3 p3 k3 s3 a3 => q z d w2 I3 H3 p3 k3 ((s1.trans s2).trans s3) a3
theorem ef_op {PL : List PyData → List SD → Prop} (h : EW K ws ta fun x w1 => EW K w1 tb fun y w2 => OF K r x y fun d => PL d w2) : EF K ws (tOp r ta tb) PL := fun T B σ I H k Q q => by
  refine h T B σ I H k _ fun v x w1 I1 H1 p1 k1 s1 a1 => ?_
  refine p1 T B σ I1 H1 k1 _ fun u y w2 I2 H2 p2 k2 s2 a2 => ?_
  exact p2 T B w2 σ I2 H2 v u k2 (a1.mono s2) a2 Q fun p xs ds I3 H3 p3 n3 k3 s3 a3 => q p xs ds w2 I3 H3 p3 n3 k3 ((s1.trans s2).trans s3) a3
theorem ew_un {r : V → Hp → VK → Prop} (h : EW K ws ta fun x w1 => UW K r x fun d => P d w1) : EW K ws (tUn r ta) P := fun T B σ I H k Q q => by
  refine h T B σ I H k _ fun v x w1 I1 H1 p1 k1 s1 a1 => ?_
  exact p1 T B w1 σ I1 H1 v k1 a1 Q fun z d I3 H3 p3 k3 s3 a3 => q z d w1 I3 H3 p3 k3 (s1.trans s3) a3
theorem ew_ef (h : EF K ws te fun ds w => P (.list ds) w) : EW K ws te P := fun T B σ I H k Q q => by
  refine h T B σ I H k _ fun p xs ds w1 I1 H1 p1 n1 k1 s1 a1 => ?_
  obtain ⟨k2, e⟩ := k1.freeze n1
  exact q _ _ _ _ _ p1 k2 (s1.trans e) (.lst upd_same (a1.mono e))
theorem ow_ii {f : Int → Int → Int} {a b : Int} (p : Pd (.int (f a b))) : OW K (rI0 fun i j => .int (f i j)) (.int a) (.int b) Pd := fun T B ws σ I H v u k hv hu Q q => by
  cases hv
  cases hu
  exact ⟨a, b, rfl, rfl, q _ _ _ _ p k (Same.refl I) (.int _)⟩
theorem ow_ib {f : Int → Int → Bool} {a b : Int} (p : Pd (.bool (f a b))) : OW K (rI0 fun i j => .bl (f i j)) (.int a) (.int b) Pd := fun T B ws σ I H v u k hv hu Q q => by
  cases hv
  cases hu
  exact ⟨a, b, rfl, rfl, q _ _ _ _ p k (Same.refl I) (.bl _)⟩
theorem ow_ci {C : Int → Int → Prop} {f : Int → Int → Int} {a b : Int} (c : C a b) (p : Pd (.int (f a b))) : OW K (rI C fun i j => .int (f i j)) (.int a) (.int b) Pd := fun T B ws σ I H v u k hv hu Q q => by
  cases hv
  cases hu
  exact ⟨a, b, rfl, rfl, c, q _ _ _ _ p k (Same.refl I) (.int _)⟩
theorem ow_eqI {a b : Int} (p : Pd (.bool (decide (a = b)))) : OW K rEq (.int a) (.int b) Pd := fun T B ws σ I H v u k hv hu Q q => by
  cases hv
  cases hu
  have e : decide (V.int a = V.int b) = decide (a = b) := by by_cases h : a = b <;> simp [h]
  exact ⟨rfl, by rw [e]; exact q _ _ _ _ p k (Same.refl I) (.bl _)⟩
theorem ow_neI {a b : Int} (p : Pd (.bool (!decide (a = b)))) : OW K rNe (.int a) (.int b) Pd := fun T B ws σ I H v u k hv hu Q q => by
  cases hv
  cases hu
  have e : decide (V.int a = V.int b) = decide (a = b) := by by_cases h : a = b <;> simp [h]
  exact ⟨rfl, by rw [e]; exact q _ _ _ _ p k (Same.refl I) (.bl _)⟩
theorem ow_eqS {a b : Str} (p : Pd (.bool (decide (a = b)))) : OW K rEq (.str a) (.str b) Pd := fun T B ws σ I H v u k hv hu Q q => by
  cases hv
  cases hu
  have e : decide (V.str a = V.str b) = decide (a = b) := by by_cases h : a = b <;> simp [h]
  exact ⟨rfl, by rw [e]; exact q _ _ _ _ p k (Same.refl I) (.bl _)⟩
theorem ow_neS {a b : Str} (p : Pd (.bool (!decide (a = b)))) : OW K rNe (.str a) (.str b) Pd := fun T B ws σ I H v u k hv hu Q q => by
  cases hv
  cases hu
  have e : decide (V.str a = V.str b) = decide (a = b) := by by_cases h : a = b <;> simp [h]
  exact ⟨rfl, by rw [e]; exact q _ _ _ _ p k (Same.refl I) (.bl _)⟩
theorem dp_of {T B : Hp} {I H : Hp} {σ : L2.St} {v : V} {d : PyData} (k : Ok K T B ws σ I H) (a : Da K I v d) : Dp K H v d := (a.mono k.sub).dp
theorem ow_eqD {a b : PyData} (h1 : SeqAt.shaped a = true) (h2 : SeqAt.shaped b = true) (p : Pd (.bool (PyData.eqv a b))) : OW K (rEqD K) a b Pd := fun T B ws σ I H v u k hv hu Q q =>
  ⟨a, b, dp_of k hv, dp_of k hu, h1, h2, q _ _ _ _ p k (Same.refl I) (.bl _)⟩
theorem ow_neD {a b : PyData} (h1 : SeqAt.shaped a = true) (h2 : SeqAt.shaped b = true) (p : Pd (.bool (!PyData.eqv a b))) : OW K (rNeD K) a b Pd := fun T B ws σ I H v u k hv hu Q q =>
  ⟨a, b, dp_of k hv, dp_of k hu, h1, h2, q _ _ _ _ p k (Same.refl I) (.bl _)⟩
theorem ow_inD {a : PyData} {ds : List PyData} (h1 : SeqAt.shaped a = true) (h2 : SeqAt.shaped (.list ds) = true) (p : Pd (.bool (ds.any fun z => PyData.eqv z a))) : OW K (rInD K) a (.list ds) Pd := fun T B ws σ I H v u k hv hu Q q =>
  ⟨a, ds, dp_of k hv, dp_of k hu, h1, h2, q _ _ _ _ p k (Same.refl I) (.bl _)⟩
theorem ow_notInD {a : PyData} {ds : List PyData} (h1 : SeqAt.shaped a = true) (h2 : SeqAt.shaped (.list ds) = true) (p : Pd (.bool (!ds.any fun z => PyData.eqv z a))) : OW K (rNotInD K) a (.list ds) Pd := fun T B ws σ I H v u k hv hu Q q =>
  ⟨a, ds, dp_of k hv, dp_of k hu, h1, h2, q _ _ _ _ p k (Same.refl I) (.bl _)⟩
def flatD : PyData → Option V
  | .none => some .non
  | .bool b => some (.bl b)
  | .int i => some (.int i)
  | .str x => some (.str x)
  | _ => none
theorem flat_val {I : Hp} {v w : V} {d : PyData} (h : Da K I v d) (e : flatD d = some w) : v = w ∧ flatV v = true := by
  cases h <;> cases e <;> exact ⟨rfl, rfl⟩
theorem flats_val {I : Hp} : ∀ {vs ws : List V} {ds : List PyData}, DaL K I vs ds → ds.mapM flatD = some ws → vs = ws ∧ vs.all flatV = true
  | _, _, _, .nil, e => by
    cases e
    exact ⟨rfl, rfl⟩
  | _, _, d :: ds, .cons h r, e => by
    rw [List.mapM_cons] at e
    cases e1 : flatD d with
    | none => rw [e1] at e; cases e
    | some w =>
      cases e2 : ds.mapM flatD with
      | none => rw [e1, e2] at e; cases e
      | some us =>
        rw [e1, e2] at e
        cases e
        obtain ⟨rfl, h1⟩ := flat_val h e1
        obtain ⟨rfl, h2⟩ := flats_val r e2
        exact ⟨rfl, by rw [List.all_cons, h1, h2]; rfl⟩
theorem ow_in {neg : Bool} {a : PyData} {ds : List PyData} {w : V} {us : List V} (t : y = .tuple ds ∨ y = .list ds) (h1 : flatD a = some w) (h2 : ds.mapM flatD = some us) (p : Pd (.bool (if neg then !inV w us else inV w us))) : OW K (rIn K neg) a y Pd := fun T B ws σ I H v u k hv hu Q q => by
  obtain ⟨rfl, f1⟩ := flat_val hv h1
  rcases t with rfl | rfl
  · obtain ⟨p0, xs, rfl, hs, ha⟩ := hu.tup_inv
    obtain ⟨rfl, f2⟩ := flats_val ha h2
    exact ⟨p0, xs, rfl, .inr (sqT_mono k.sub hs), f1, f2, q _ _ _ _ p k (Same.refl I) (.bl _)⟩
  · obtain ⟨p0, xs, rfl, hs, ha⟩ := hu.list_inv
    obtain ⟨rfl, f2⟩ := flats_val ha h2
    exact ⟨p0, xs, rfl, .inl (.inl (.inl (k.sub _ _ hs))), f1, f2, q _ _ _ _ p k (Same.refl I) (.bl _)⟩
theorem atI_da {I : Hp} {vs : List V} {ds : List PyData} {i : Int} {d : PyData} (h : DaL K I vs ds) (e : atI ds i = some d) : ∃ v, atI vs i = some v ∧ Da K I v d := by
  unfold atI at e ⊢
  rw [h.length]
  cases n : ixN ds.length i with
  | none => rw [n] at e; cases e
  | some j =>
    rw [n] at e
    exact h.get e
theorem ow_ixL {ds : List PyData} {i : Int} {d : PyData} (e : atI ds i = some d) (p : Pd d) : OW K (rIxL K) (.list ds) (.int i) Pd := fun T B ws σ I H v u k hv hu Q q => by
  obtain ⟨a, xs, rfl, hs, ha⟩ := hv.list_inv
  obtain rfl := hu.int_inv
  obtain ⟨w, e2, hw⟩ := atI_da ha e
  exact ⟨a, xs, i, w, rfl, rfl, .inl (.inl (k.sub _ _ hs)), e2, q _ _ _ _ p k (Same.refl I) hw⟩
theorem ow_ixT {ds : List PyData} {i : Int} {d : PyData} (e : atI ds i = some d) (p : Pd d) : OW K (rIxT K) (.tuple ds) (.int i) Pd := fun T B ws σ I H v u k hv hu Q q => by
  obtain ⟨a, xs, rfl, hs, ha⟩ := hv.tup_inv
  obtain rfl := hu.int_inv
  obtain ⟨w, e2, hw⟩ := atI_da ha e
  exact ⟨a, xs, i, w, rfl, rfl, sqT_mono k.sub hs, e2, q _ _ _ _ p k (Same.refl I) hw⟩
theorem ow_ixT' {ds : List PyData} {i : Int} {d : PyData} (e : atI ds i = some d) (p : Pd d) : OW K (rIx K) (.tuple ds) (.int i) Pd := fun T B ws σ I H v u k hv hu Q q => .inr (.inl (ow_ixT e p T B ws σ I H v u k hv hu Q q))
theorem ow_ixL' {ds : List PyData} {i : Int} {d : PyData} (e : atI ds i = some d) (p : Pd d) : OW K (rIx K) (.list ds) (.int i) Pd := fun T B ws σ I H v u k hv hu Q q => .inl (ow_ixL e p T B ws σ I H v u k hv hu Q q)
theorem of_cat {xs ys : List PyData} (hz : xs.length + ys.length ≤ sizeLine) (p : Pl (xs ++ ys)) : OF K rCat (.list xs) (.list ys) Pl := fun T B ws σ I H v u k hv hu Q q => by
  obtain ⟨a, vs, rfl, hs, ha⟩ := hv.list_inv
  obtain ⟨b, us, rfl, hs2, hb⟩ := hu.list_inv
  refine ⟨a, b, vs, us, rfl, rfl, k.sub _ _ hs, k.sub _ _ hs2, by rw [ha.length, hb.length]; exact hz, fun l hl => ?_⟩
  obtain ⟨k2, n2⟩ := k.hand (o := .lst (vs ++ us)) hl
  exact q _ _ _ _ _ p n2 k2 (Same.refl I) (ha.append hb)
theorem daL_rep {I : Hp} : ∀ {vs : List V} {ds : List PyData} (n : Nat), DaL K I vs ds → DaL K I (List.replicate n vs).flatten (List.replicate n ds).flatten
  | _, _, 0, _ => .nil
  | _, _, n + 1, h => by
    rw [List.replicate_succ, List.replicate_succ, List.flatten_cons, List.flatten_cons]
    exact h.append (daL_rep n h)
theorem tw_test (h : EW K ws te fun d w => ∃ b, d = .bool b ∧ PB b w) : TW K ws (tTest te) PB := fun T B σ I H k Q q => by
  refine h T B σ I H k _ fun v d w1 I1 H1 p1 k1 s1 a1 => ?_
  obtain ⟨b, rfl, pb⟩ := p1
  exact ⟨b, a1.bl_inv, q _ _ _ _ pb k1 s1⟩
theorem tw_B (h : EW K ws te fun d w => ∃ b, d = .bool b ∧ PB b w) : TW K ws (tB te) PB := fun T B σ I H k Q q => by
  refine h T B σ I H k _ fun v d w1 I1 H1 p1 k1 s1 a1 => ?_
  obtain ⟨b, rfl, pb⟩ := p1
  exact ⟨b, a1.bl_inv, q _ _ _ _ pb k1 s1⟩
theorem tw_not (h : TW K ws tt fun b w => PB (!b) w) : TW K ws (tNot tt) PB := fun T B σ I H k Q q => h T B σ I H k _ fun b w1 I1 H1 p1 k1 s1 => q _ _ _ _ p1 k1 s1
theorem tw_and (h : TW K ws tt fun b w => if b = true then TW K w tu PB else PB false w) : TW K ws (tAnd tt tu) PB := fun T B σ I H k Q q => by
  refine h T B σ I H k _ fun b w1 I1 H1 p1 k1 s1 => ?_
  cases b with
  | true => exact p1 T B σ I1 H1 k1 Q fun b w2 I2 H2 p2 k2 s2 => q _ _ _ _ p2 k2 (s1.trans s2)
  | false => exact q _ _ _ _ p1 k1 s1
theorem tw_or (h : TW K ws tt fun b w => if b = true then PB true w else TW K w tu PB) : TW K ws (tOr tt tu) PB := fun T B σ I H k Q q => by
  refine h T B σ I H k _ fun b w1 I1 H1 p1 k1 s1 => ?_
  cases b with
  | false => exact p1 T B σ I1 H1 k1 Q fun b w2 I2 H2 p2 k2 s2 => q _ _ _ _ p2 k2 (s1.trans s2)
  | true => exact q _ _ _ _ p1 k1 s1
theorem tw_yes (p : PB true ws) : TW K ws tYes PB := fun T B σ I H k Q q => q _ _ _ _ p k (Same.refl I)
theorem ew_if (h : TW K ws tt fun b w => if b = true then EW K w ta P else EW K w tb P) : EW K ws (tIf tt ta tb) P := fun T B σ I H k Q q => by
  refine h T B σ I H k _ fun b w1 I1 H1 p1 k1 s1 => ?_
  cases b with
  | true => exact p1 T B σ I1 H1 k1 Q fun z d w2 I2 H2 p2 k2 s2 a2 => q _ _ _ _ _ p2 k2 (s1.trans s2) a2
  | false => exact p1 T B σ I1 H1 k1 Q fun z d w2 I2 H2 p2 k2 s2 a2 => q _ _ _ _ _ p2 k2 (s1.trans s2) a2
theorem ew_andV (h : EW K ws ta fun x w => ∃ b, x = .bool b ∧ if b = true then EW K w tb P else P (.bool false) w) : EW K ws (tAndV ta tb) P := fun T B σ I H k Q q => by
  refine h T B σ I H k _ fun v d w1 I1 H1 p1 k1 s1 a1 => ?_
  obtain ⟨b, rfl, p1⟩ := p1
  refine ⟨b, a1.bl_inv, ?_⟩
  cases b with
  | true => exact p1 T B σ I1 H1 k1 Q fun z d w2 I2 H2 p2 k2 s2 a2 => q _ _ _ _ _ p2 k2 (s1.trans s2) a2
  | false => exact q _ _ _ _ _ p1 k1 s1 (.bl false)
theorem ew_orV (h : EW K ws ta fun x w => ∃ b, x = .bool b ∧ if b = true then P (.bool true) w else EW K w tb P) : EW K ws (tOrV ta tb) P := fun T B σ I H k Q q => by
  refine h T B σ I H k _ fun v d w1 I1 H1 p1 k1 s1 a1 => ?_
  obtain ⟨b, rfl, p1⟩ := p1
  refine ⟨b, a1.bl_inv, ?_⟩
  cases b with
  | false => exact p1 T B σ I1 H1 k1 Q fun z d w2 I2 H2 p2 k2 s2 a2 => q _ _ _ _ _ p2 k2 (s1.trans s2) a2
  | true => exact q _ _ _ _ _ p1 k1 s1 (.bl true)
theorem ew_notV (h : EW K ws ta fun x w => ∃ b, x = .bool b ∧ P (.bool (!b)) w) : EW K ws (tNotV ta) P := fun T B σ I H k Q q => by
  refine h T B σ I H k _ fun v d w1 I1 H1 p1 k1 s1 a1 => ?_
  obtain ⟨b, rfl, p1⟩ := p1
  exact ⟨b, a1.bl_inv, q _ _ _ _ _ p1 k1 s1 (.bl _)⟩
theorem ew_chain {tc : TE} (h : EW K ws ta fun x w1 => EW K w1 tb fun y w2 => OW K r x y fun d => ∃ b, d = .bool b ∧ if b = true then EW K w2 tc fun z w3 => OW K r' y z fun d => P d w3 else P (.bool false) w2) : EW K ws (tChain r r' ta tb tc) P := fun T B σ I H k Q q => by
  refine h T B σ I H k _ fun v x w1 I1 H1 p1 k1 s1 a1 => ?_
  refine p1 T B σ I1 H1 k1 _ fun u y w2 I2 H2 p2 k2 s2 a2 => ?_
  refine p2 T B w2 σ I2 H2 v u k2 (a1.mono s2) a2 _ fun z d I3 H3 p3 k3 s3 a3 => ?_
  obtain ⟨b, rfl, p3⟩ := p3
  refine ⟨b, a3.bl_inv, ?_⟩
  cases b with
  | true => exact p3 T B σ I3 H3 k3 _ fun t d w4 I4 H4 p4 k4 s4 a4 => p4 T B w4 σ I4 H4 u t k4 (a2.mono (s3.trans s4)) a4 Q fun z d I5 H5 p5 k5 s5 a5 => q _ _ _ _ _ p5 k5 ((((s1.trans s2).trans s3).trans s4).trans s5) a5
  | false => exact q _ _ _ _ _ p3 k3 ((s1.trans s2).trans s3) (.bl false)
theorem aw_nil (p : PA [] ws) : AW K ws tNil PA := fun T B σ I H k Q q => q _ _ _ _ _ p k (Same.refl I) .nil
theorem aw_cons (h : EW K ws ta fun x w => AW K w ts fun xs w' => PA (x :: xs) w') : AW K ws (tCons ta ts) PA := fun T B σ I H k Q q => by
  refine h T B σ I H k _ fun v x w1 I1 H1 p1 k1 s1 a1 => ?_
  exact p1 T B σ I1 H1 k1 _ fun vs xs w2 I2 H2 p2 k2 s2 a2 => q _ _ _ _ _ p2 k2 (s1.trans s2) (.cons (a1.mono s2) a2)
theorem ew_tup (h : AW K ws ts fun xs w => xs.length ≤ sizeLine ∧ P (.tuple xs) w) : EW K ws (tTup ts) P := fun T B σ I H k Q q => by
  refine h T B σ I H k _ fun vs xs w1 I1 H1 p1 k1 s1 a1 => ?_
  refine ⟨by rw [a1.length]; exact p1.1, fun p hp => ?_⟩
  have e := same_new (none_of k1.sub hp) (HO.tup vs)
  exact q _ _ _ _ _ p1.2 (k1.new hp _) (s1.trans e) (.tup (.inl (.inl upd_same)) (a1.mono e))
theorem ef_lst (h : AW K ws ts fun xs w => xs.length ≤ sizeLine ∧ PA xs w) : EF K ws (tLst ts) PA := fun T B σ I H k Q q => by
  refine h T B σ I H k _ fun vs xs w1 I1 H1 p1 k1 s1 a1 => ?_
  refine ⟨by rw [a1.length]; exact p1.1, fun p hp => ?_⟩
  obtain ⟨k2, n2⟩ := k1.hand (o := .lst vs) hp
  exact q _ _ _ _ _ _ p1.2 n2 k2 s1 a1
theorem ew_cb {r : List V → Hp → VK → Prop} (h : AW K ws ts fun xs w => CW K r xs fun d => P d w) : EW K ws (tCB r ts) P := fun T B σ I H k Q q => by
  refine h T B σ I H k _ fun vs xs w1 I1 H1 p1 k1 s1 a1 => ?_
  exact p1 T B w1 σ I1 H1 vs k1 a1 Q fun z d I2 H2 p2 k2 s2 a2 => q _ _ _ _ _ p2 k2 (s1.trans s2) a2
theorem ef_cb {r : List V → Hp → VK → Prop} (h : AW K ws ts fun xs w => CF K r xs fun d => PA d w) : EF K ws (tCB r ts) PA := fun T B σ I H k Q q => by
  refine h T B σ I H k _ fun vs xs w1 I1 H1 p1 k1 s1 a1 => ?_
  exact p1 T B w1 σ I1 H1 vs k1 a1 Q fun p ys ds I2 H2 p2 n2 k2 s2 a2 => q _ _ _ _ _ _ p2 n2 k2 (s1.trans s2) a2
theorem cw_len {ds : List PyData} (t : x = .list ds ∨ x = .tuple ds) (p : Pd (.int ds.length)) : CW K (fun xs H Q => ∃ p ys, xs = [.ref p] ∧ (SqL K H p ys ∨ SqT K H p ys) ∧ Q (.int ys.length) H) [x] Pd := fun T B ws σ I H vs k a Q q => by
  cases a with
  | cons h r =>
    cases r
    rcases t with rfl | rfl
    · obtain ⟨b, xs, rfl, hs, ha⟩ := h.list_inv
      refine ⟨b, xs, rfl, .inl (.inl (.inl (k.sub _ _ hs))), ?_⟩
      rw [ha.length]
      exact q _ _ _ _ p k (Same.refl I) (.int _)
    · obtain ⟨b, xs, rfl, hs, ha⟩ := h.tup_inv
      refine ⟨b, xs, rfl, .inr (sqT_mono k.sub hs), ?_⟩
      rw [ha.length]
      exact q _ _ _ _ p k (Same.refl I) (.int _)
theorem cf_list {ds : List PyData} (t : x = .list ds ∨ x = .tuple ds) (p : Pl ds) : CF K (fun xs H Q => ∃ p ys, xs = [.ref p] ∧ (SqL K H p ys ∨ SqT K H p ys) ∧ ∀ l, H l = none → Q (.ref l) (upd H l (.lst ys))) [x] Pl := fun T B ws σ I H vs k a Q q => by
  cases a with
  | cons h r =>
    cases r
    rcases t with rfl | rfl
    · obtain ⟨b, xs, rfl, hs, ha⟩ := h.list_inv
      refine ⟨b, xs, rfl, .inl (.inl (.inl (k.sub _ _ hs))), fun l hl => ?_⟩
      obtain ⟨k2, n2⟩ := k.hand (o := .lst xs) hl
      exact q _ _ _ _ _ p n2 k2 (Same.refl I) ha
    · obtain ⟨b, xs, rfl, hs, ha⟩ := h.tup_inv
      refine ⟨b, xs, rfl, .inr (sqT_mono k.sub hs), fun l hl => ?_⟩
      obtain ⟨k2, n2⟩ := k.hand (o := .lst xs) hl
      exact q _ _ _ _ _ p n2 k2 (Same.refl I) ha
theorem cw_abs {i : Int} (p : Pd (.int (if i < 0 then -i else i))) : CW K (fun xs H Q => ∃ i, xs = [.int i] ∧ Q (.int (if i < 0 then -i else i)) H) [.int i] Pd := fun T B ws σ I H vs k a Q q => by
  cases a with
  | cons h r =>
    cases r
    cases h
    exact ⟨i, rfl, q _ _ _ _ p k (Same.refl I) (.int _)⟩
theorem cw_max2 {i j : Int} (p : Pd (.int (if j > i then j else i))) : CW K (fun xs H Q => ∃ i j, xs = [.int i, .int j] ∧ Q (.int (if j > i then j else i)) H) [.int i, .int j] Pd := fun T B ws σ I H vs k a Q q => by
  cases a with
  | cons h r =>
    cases h
    cases r with
    | cons h r =>
      cases r
      cases h
      exact ⟨i, j, rfl, q _ _ _ _ p k (Same.refl I) (.int _)⟩
theorem cw_min2 {i j : Int} (p : Pd (.int (if j < i then j else i))) : CW K (fun xs H Q => ∃ i j, xs = [.int i, .int j] ∧ Q (.int (if j < i then j else i)) H) [.int i, .int j] Pd := fun T B ws σ I H vs k a Q q => by
  cases a with
  | cons h r =>
    cases h
    cases r with
    | cons h r =>
      cases r
      cases h
      exact ⟨i, j, rfl, q _ _ _ _ p k (Same.refl I) (.int _)⟩
theorem cw_int1 {b : Bool} (p : Pd (.int (if b then 1 else 0))) : CW K (fun xs H Q => (∃ i, xs = [.int i] ∧ Q (.int i) H) ∨ ∃ k, xs = [.bl k] ∧ Q (.int (if k then 1 else 0)) H) [.bool b] Pd := fun T B ws σ I H vs k a Q q => by
  cases a with
  | cons h r =>
    cases h
    cases r
    exact .inr ⟨b, rfl, q _ _ _ _ p k (Same.refl I) (.int _)⟩
theorem cw_sum {ns : List Int} (p : Pd (.int ns.sum)) : CW K (rSum K) [.list (ns.map .int)] Pd := fun T B ws σ I H vs k a Q q => by
  cases a with
  | cons h r =>
    cases r
    obtain ⟨b, xs, rfl, hs, ha⟩ := h.list_inv
    obtain rfl := ha.ints
    exact ⟨b, ns, rfl, .inl (.inl (k.sub _ _ hs)), q _ _ _ _ p k (Same.refl I) (.int _)⟩
theorem cf_sortS {xs : List Str} (h64 : xs.length < 64) (p : ∀ ys : List Str, ys.Perm xs → sortedS ys = true → Pl (ys.map .str)) : CF K (rSortedS K) [.list (xs.map .str)] Pl := fun T B ws σ I H vs k a Q q => by
  cases a with
  | cons h r =>
    cases r
    obtain ⟨b, us, rfl, hs, ha⟩ := h.list_inv
    obtain rfl := ha.strs
    refine ⟨b, xs, rfl, .inl (.inl (k.sub _ _ hs)), h64, fun ys l hp hso hl => ?_⟩
    obtain ⟨k2, n2⟩ := k.hand (o := .lst (ys.map V.str)) hl
    exact q _ _ _ _ _ (p ys hp hso) n2 k2 (Same.refl I) (DaL.ofStrs ys)
def OptE (K : Frg) (ws : List SD) (to : TO) (P : Option Int → List SD → Prop) : Prop :=
  ∀ T B σ I H, Ok K T B ws σ I H → ∀ Q : Option Int → Hp → Prop, (∀ o ws' I' H', P o ws' → Ok K T B ws' σ I' H' → Same I I' → Q o H') → to σ H Q
theorem oe_no {PO : Option Int → List SD → Prop} (p : PO none ws) : OptE K ws tNoPart PO := fun T B σ I H k Q q => q _ _ _ _ p k (Same.refl I)
theorem oe_part {PO : Option Int → List SD → Prop} (h : EW K ws te fun x w => ∃ i, x = .int i ∧ PO (some i) w) : OptE K ws (tPart te) PO := fun T B σ I H k Q q => by
  refine h T B σ I H k _ fun v x w1 I1 H1 p1 k1 s1 a1 => ?_
  obtain ⟨i, rfl, p1⟩ := p1
  exact ⟨i, a1.int_inv, q _ _ _ _ p1 k1 s1⟩
def cutD {α : Type} (xs : List α) (lo hi : Option Int) : List α := (xs.drop (HT.sIx xs.length 0 lo)).take (HT.sIx xs.length xs.length hi - HT.sIx xs.length 0 lo)
theorem ef_slice {tl th : TO} (h : EW K ws te fun x w1 => ∃ ds, x = .list ds ∧ OptE K w1 tl fun lo w2 => OptE K w2 th fun hi w3 => PA (cutD ds lo hi) w3) : EF K ws (tSl (rSlL K) te tl th) PA := fun T B σ I H k Q q => by
  refine h T B σ I H k _ fun v x w1 I1 H1 p1 k1 s1 a1 => ?_
  obtain ⟨ds, rfl, p1⟩ := p1
  refine p1 T B σ I1 H1 k1 _ fun lo w2 I2 H2 p2 k2 s2 => ?_
  refine p2 T B σ I2 H2 k2 _ fun hi w3 I3 H3 p3 k3 s3 => ?_
  obtain ⟨b, us, rfl, hs, ha⟩ := (a1.mono (s2.trans s3)).list_inv
  refine ⟨b, us, rfl, .inl (.inl (k3.sub _ _ hs)), fun l hl => ?_⟩
  obtain ⟨k4, n4⟩ := k3.hand (o := .lst (cutV us lo hi)) hl
  refine q _ _ _ _ _ _ p3 n4 k4 ((s1.trans s2).trans s3) ?_
  unfold cutV cutD
  rw [ha.length]
  exact (ha.drop _).take _
theorem ef_rev (h : EW K ws te fun x w1 => ∃ ds, x = .list ds ∧ PA ds.reverse w1) : EF K ws (tRevL K te) PA := fun T B σ I H k Q q => by
  refine h T B σ I H k _ fun v x w1 I1 H1 p1 k1 s1 a1 => ?_
  obtain ⟨ds, rfl, p1⟩ := p1
  obtain ⟨b, us, rfl, hs, ha⟩ := a1.list_inv
  refine ⟨b, us, rfl, .inl (.inl (k1.sub _ _ hs)), fun l hl => ?_⟩
  obtain ⟨k4, n4⟩ := k1.hand (o := .lst us.reverse) hl
  exact q _ _ _ _ _ _ p1 n4 k4 s1 ha.reverse
theorem ew_lenM {i : Nat} {ds : List PyData} (h : ws[i]? = some (.mut ds)) (p : P (.int ds.length) ws) : EW K ws (tCB (fun xs H Q => ∃ p ys, xs = [.ref p] ∧ (SqL K H p ys ∨ SqT K H p ys) ∧ Q (.int ys.length) H) (tCons (tVar i) tNil)) P := fun T B σ I H k Q q => by
  obtain ⟨b, xs, e, hH, _, ha, _⟩ := k.mutAt h
  refine ⟨.ref b, e, b, xs, rfl, .inl (.inl (.inl hH)), ?_⟩
  rw [ha.length]
  exact q _ _ _ _ _ p k (Same.refl I) (.int _)
theorem ew_ixM {i : Nat} {ds : List PyData} (h : ws[i]? = some (.mut ds)) (hb : EW K ws tb fun y w => ∃ j, y = .int j ∧ w = ws ∧ ∃ d, atI ds j = some d ∧ P d ws) : EW K ws (tOp (rIxL K) (tVar i) tb) P := fun T B σ I H k Q q => by
  obtain ⟨b, xs, e, hH, hI, ha, _⟩ := k.mutAt h
  refine ⟨.ref b, e, ?_⟩
  refine hb T B σ I H k _ fun u y w1 I1 H1 p1 k1 s1 a1 => ?_
  obtain ⟨j, rfl, rfl, d, at_, p⟩ := p1
  obtain ⟨b', xs', e', hH', _, ha', _⟩ := k1.mutAt h
  rw [e] at e'
  cases e'
  obtain ⟨w, e2, hw⟩ := atI_da ha' at_
  exact ⟨b, xs', j, w, rfl, a1.int_inv, .inl (.inl hH'), e2, q _ _ _ _ _ p k1 s1 hw⟩
theorem ew_neM {i : Nat} {ds : List PyData} (h : ws[i]? = some (.mut ds)) (hb : EW K ws tb fun y w => w = ws ∧ SeqAt.shaped (.list ds) = true ∧ SeqAt.shaped y = true ∧ P (.bool (!PyData.eqv (.list ds) y)) ws) : EW K ws (tOp (rNeD K) (tVar i) tb) P := fun T B σ I H k Q q => by
  obtain ⟨b, xs, e, hH, hI, ha, _⟩ := k.mutAt h
  refine ⟨.ref b, e, ?_⟩
  refine hb T B σ I H k _ fun u y w1 I1 H1 p1 k1 s1 a1 => ?_
  obtain ⟨rfl, h1, h2, p⟩ := p1
  obtain ⟨b', xs', e', hH', _, ha', _⟩ := k1.mutAt h
  rw [e] at e'
  cases e'
  exact ⟨_, _, .lst (.inl (.inl hH')) (ha'.mono k1.sub).dp, dp_of k1 a1, h1, h2, q _ _ _ _ _ p k1 s1 (.bl _)⟩
theorem ew_eqM {i : Nat} {ds : List PyData} (h : ws[i]? = some (.mut ds)) (hb : EW K ws tb fun y w => w = ws ∧ SeqAt.shaped (.list ds) = true ∧ SeqAt.shaped y = true ∧ P (.bool (PyData.eqv (.list ds) y)) ws) : EW K ws (tOp (rEqD K) (tVar i) tb) P := fun T B σ I H k Q q => by
  obtain ⟨b, xs, e, hH, hI, ha, _⟩ := k.mutAt h
  refine ⟨.ref b, e, ?_⟩
  refine hb T B σ I H k _ fun u y w1 I1 H1 p1 k1 s1 a1 => ?_
  obtain ⟨rfl, h1, h2, p⟩ := p1
  obtain ⟨b', xs', e', hH', _, ha', _⟩ := k1.mutAt h
  rw [e] at e'
  cases e'
  exact ⟨_, _, .lst (.inl (.inl hH')) (ha'.mono k1.sub).dp, dp_of k1 a1, h1, h2, q _ _ _ _ _ p k1 s1 (.bl _)⟩
theorem ew_popAt {i : Nat} {ds : List PyData} (h : ws[i]? = some (.mut ds)) (hz : ds.length < 2 ^ 62)
    (hb : EW K ws tb fun y w => ∃ j : Int, y = .int j ∧ w = ws ∧ 0 ≤ j ∧ ∃ d, ds[j.toNat]? = some d ∧ P d (ws.set i (.mut (ds.eraseIdx j.toNat)))) : EW K ws (tBM K "list" rPopAt (tVar i) (tCons tb tNil)) P := fun T B σ I H k Q q => by
  obtain ⟨b, xs, e, hH, hI, ha, _⟩ := k.mutAt h
  refine ⟨.ref b, e, .inl ⟨rfl, _, .inl (.inl hH)⟩, ?_⟩
  refine hb T B σ I H k _ fun u y w1 I1 H1 p1 k1 s1 a1 => ?_
  obtain ⟨j, rfl, rfl, h0, d, at_, p⟩ := p1
  obtain ⟨b', xs', e', hH', _, ha', up⟩ := k1.mutAt h
  rw [e] at e'
  cases e'
  obtain ⟨w, e2, hw⟩ := ha'.get at_
  have hj : j.toNat < xs'.length := (List.getElem?_eq_some_iff.mp e2).1
  have hl := ha'.length
  refine ⟨b, xs', j, j.toNat, w, rfl, by rw [a1.int_inv], hH', by omega, by omega, ?_, e2, q _ _ _ _ _ p (up _ _ (ha'.eraseIdx j.toNat)) s1 hw⟩
  first | (simp [seqIndex?]; omega) | (unfold seqIndex?; simp; omega)
theorem ew_pop {i : Nat} {ds : List PyData} {d : PyData} (h : ws[i]? = some (.mut ds)) (hd : ds[ds.length - 1]? = some d) (p : P d (ws.set i (.mut ds.dropLast))) : EW K ws (tBM0 K "list" rPop (tVar i)) P := fun T B σ I H k Q q => by
  obtain ⟨b, xs, e, hH, hI, ha, up⟩ := k.mutAt h
  obtain ⟨w, e2, hw⟩ := ha.get hd
  refine ⟨.ref b, e, .inl ⟨rfl, _, .inl (.inl hH)⟩, b, xs, w, rfl, rfl, hH, by rw [ha.length]; exact e2, q _ _ _ _ _ p (up _ _ ha.dropLast) (Same.refl I) hw⟩
end
end DL
namespace DL
open PySem PySem.Spec PyProof.Rows L2
section
variable {K : Frg} {T B : Hp} {ws : List SD} {ta tb te tv ti : TE} {tt : TT} {t u ts : TS} {g : TG} {tg : TGs} {D : Ends}
theorem sw_seq (h : SW K T B ws t { D with nx := u D }) : SW K T B ws (tSeq t u) D := h
theorem sw_next (h : NX K T B ws D.nx) : SW K T B ws tNext D := h
theorem sw_brk (h : NX K T B ws D.bk) : SW K T B ws tBreak D := h
theorem sw_ct (h : NX K T B ws D.ct) : SW K T B ws tCont D := h
theorem nx_sw (h : SW K T B ws u D) : NX K T B ws (u D) := h
theorem gw_name {i : Nat} {d : PyData} {R : List SD → Prop} (h : R (ws.set i (.dat d))) : GW K T B ws (gName i) d R := fun σ I H v k a Q q => q _ _ h (k.set a)
theorem gws_nil {R : List SD → Prop} (h : R ws) : GWs K T B ws gNil [] R := fun σ I H vs k a Q q => by
  cases a
  exact ⟨rfl, q _ _ h k⟩
theorem gws_cons {d : PyData} {ds : List PyData} {R : List SD → Prop} (h : GW K T B ws g d fun w => GWs K T B w tg ds R) : GWs K T B ws (gCons g tg) (d :: ds) R := fun σ I H vs k a Q q => by
  cases a with
  | cons a r => exact ⟨_, _, rfl, h σ I H _ k a _ fun w σ' hw k' => hw σ' I H _ k' r Q q⟩
theorem gw_tup {n : Nat} {ds : List PyData} {R : List SD → Prop} (hn : ds.length = n) (h : GWs K T B ws tg ds R) : GW K T B ws (gTup K n tg) (.tuple ds) R := fun σ I H v k a Q q => by
  obtain ⟨p, xs, rfl, hs, ha⟩ := a.tup_inv
  exact ⟨p, xs, rfl, sqT_mono k.sub hs, by rw [ha.length]; exact hn, h σ I H xs k ha Q q⟩
theorem sw_asg (h : EW K ws te fun d w => GW K T B w g d fun w2 => NX K T B w2 D.nx) : SW K T B ws (tAsg te g) D := fun σ I H k =>
  h T B σ I H k _ fun v d w I1 H1 p k1 s1 a1 => p σ I1 H1 v k1 a1 _ fun w2 σ2 n k2 => n σ2 I1 H1 k2
theorem sw_set {i : Nat} (h : EW K ws te fun d w => NX K T B (w.set i (.dat d)) D.nx) : SW K T B ws (tAsg te (gName i)) D := sw_asg (h.imp fun d w p => gw_name p)
theorem sw_own {i : Nat} (h : EF K ws te fun ds w => NX K T B (w.set i (.mut ds)) D.nx) : SW K T B ws (tAsg te (gName i)) D := fun σ I H k =>
  h T B σ I H k _ fun p xs ds w I1 H1 p1 n1 k1 s1 a1 => p1 _ _ _ (k1.keepIt n1 a1)
theorem sw_drop (h : EW K ws te fun _ w => NX K T B w D.nx) : SW K T B ws (tDrop te) D := fun σ I H k => h T B σ I H k _ fun v d w I1 H1 p k1 s1 a1 => p σ I1 H1 k1
theorem sw_ret (h : EW K ws te fun d w => RT K T B w d D.rt) : SW K T B ws (tRet te) D := fun σ I H k => h T B σ I H k _ fun v d w I1 H1 p k1 s1 a1 => p σ I1 H1 v k1 a1
theorem sw_retN (h : RT K T B ws .none D.rt) : SW K T B ws tRetN D := fun σ I H k => h σ I H _ k .non
theorem sw_retM {i : Nat} {ds : List PyData} (hi : ws[i]? = some (.mut ds)) (h : RT K T B (ws.set i (.dat (.list ds))) (.list ds) D.rt) : SW K T B ws (tRet (tVar i)) D := fun σ I H k => by
  obtain ⟨I', k', e⟩ := k.done hi
  have hl : i < ws.length := (List.getElem?_eq_some_iff.mp hi).1
  obtain ⟨v, e2, a⟩ := k'.dat (i := i) (d := .list ds) (by rw [List.getElem?_set, if_pos rfl, if_pos hl])
  exact ⟨v, e2, h σ I' H v k' a⟩
theorem sw_if (h : TW K ws tt fun b w => if b = true then SW K T B w t D else SW K T B w u D) : SW K T B ws (tIfS tt t u) D := fun σ I H k => by
  refine h T B σ I H k _ fun b w I1 H1 p k1 s1 => ?_
  cases b with
  | true => exact p σ I1 H1 k1
  | false => exact p σ I1 H1 k1
theorem sw_done {i : Nat} {ds : List PyData} (hi : ws[i]? = some (.mut ds)) (h : SW K T B (ws.set i (.dat (.list ds))) ts D) : SW K T B ws ts D := fun σ I H k => by
  obtain ⟨I', k', e⟩ := k.done hi
  exact h σ I' H k'
theorem sw_append {i : Nat} {ds : List PyData} (hi : ws[i]? = some (.mut ds)) (h : EW K ws te fun d w => ∃ ds', w[i]? = some (.mut ds') ∧ ds'.length < sizeLine ∧ NX K T B (w.set i (.mut (ds' ++ [d]))) D.nx) :
    SW K T B ws (tDrop (tBM K "list" rAppend (tVar i) (tCons te tNil))) D := fun σ I H k => by
  obtain ⟨b, xs, e, hH, hI, ha, _⟩ := k.mutAt hi
  refine ⟨.ref b, e, .inl ⟨rfl, _, .inl (.inl hH)⟩, ?_⟩
  refine h T B σ I H k _ fun v d w I1 H1 p k1 s1 a1 => ?_
  obtain ⟨ds', hi', hz, p⟩ := p
  obtain ⟨b', xs', e', hH', _, ha', up⟩ := k1.mutAt hi'
  rw [e] at e'
  cases e'
  exact ⟨b, xs', v, rfl, rfl, hH', by rw [ha'.length]; exact hz, p σ I1 _ (up _ _ (ha'.append (.one a1)))⟩
theorem sw_setM {i : Nat} {ds : List PyData} (hi : ws[i]? = some (.mut ds)) (h : EW K ws te fun d w => ∃ ds', w[i]? = some (.mut ds') ∧ EW K w ti fun y w2 => w2 = w ∧ ∃ (j : Int) (n : Nat), y = .int j ∧ ixN ds'.length j = some n ∧ NX K T B (w.set i (.mut (ds'.set n d))) D.nx) :
    SW K T B ws (tAsg te (gSub (tVar i) ti rSetL)) D := fun σ I H k => by
  refine h T B σ I H k _ fun v d w I1 H1 p k1 s1 a1 => ?_
  obtain ⟨ds', hi', p⟩ := p
  obtain ⟨b, xs, e, hH, hI, ha, _⟩ := k1.mutAt hi'
  refine ⟨.ref b, e, ?_⟩
  refine p T B σ I1 H1 k1 _ fun y dy w2 I2 H2 p2 k2 s2 a2 => ?_
  obtain ⟨rfl, j, n, rfl, hn, p⟩ := p2
  obtain ⟨b', xs', e', hH', _, ha', up⟩ := k2.mutAt hi'
  rw [e] at e'
  cases e'
  exact ⟨b, xs', j, n, rfl, a2.int_inv, hH', by rw [ha'.length]; exact hn, p σ I2 _ (up _ _ (ha'.set (a1.mono s2)))⟩
theorem sw_augI {i : Nat} {f : Int → Int → Int} {a : Int} (hi : ws[i]? = some (.dat (.int a))) (h : EW K ws te fun d w => ∃ b, d = .int b ∧ NX K T B (w.set i (.dat (.int (f a b)))) D.nx) : SW K T B ws (tAug i te (ipI f)) D := fun σ I H k => by
  obtain ⟨v, e, hv⟩ := k.dat hi
  obtain rfl := hv.int_inv
  refine ⟨_, e, ?_⟩
  refine h T B σ I H k _ fun v d w I1 H1 p k1 s1 a1 => ?_
  obtain ⟨b, rfl, p⟩ := p
  exact ⟨a, b, rfl, a1.int_inv, p _ I1 H1 (k1.set (.int _))⟩
theorem sw_par {i j : Nat} {ta : TA} (h : AW K ws ta fun ds w => ∃ x y, ds = [x, y] ∧ NX K T B ((w.set i (.dat x)).set j (.dat y)) D.nx) : SW K T B ws (tPar i j ta) D := fun σ I H k => by
  refine h T B σ I H k _ fun vs ds w I1 H1 p k1 s1 a1 => ?_
  obtain ⟨x, y, rfl, p⟩ := p
  cases a1 with
  | cons h1 r =>
    cases r with
    | cons h2 r =>
      cases r
      exact ⟨_, _, rfl, p _ I1 H1 ((k1.set h1).set h2)⟩
structure Runs (K : Frg) (I1 : Hp) (J : It) (ds : List PyData) : Prop where
  go : ∀ i H I, i < ds.length → Same I1 I → Same I H → J.go i H
  stop : ∀ H I, Same I1 I → Same I H → J.stop ds.length H
  yld : ∀ i x H H' T B ws σ I, Ok K T B ws σ I H → Same I1 I → J.yld i H x H' → i < ds.length → ∃ d I', ds[i]? = some d ∧ Ok K T B ws σ I' H' ∧ Same I I' ∧ Da K I' x d
def IW (K : Frg) (ws : List SD) (wi : TI) (P : List PyData → List SD → Prop) : Prop :=
  ∀ T B σ I H, Ok K T B ws σ I H → ∀ R : It → Hp → Prop, (∀ J ds ws' I' H', P ds ws' → Ok K T B ws' σ I' H' → Same I I' → Runs K I' J ds → R J H') → wi σ H R
theorem runs_list {I1 : Hp} {a : Addr} {xs : List V} {ds : List PyData} (h : I1 a = some (.lst xs)) (d : DaL K I1 xs ds) : Runs K I1 (Itl K a) ds := by
  have sq : ∀ {H I : Hp}, Same I1 I → Same I H → SqL K H a xs := fun e s => .inl (.inl (s _ _ (e _ _ h)))
  refine ⟨fun i H I hi e s => ?_, fun H I e s => ⟨xs, sq e s, by rw [d.length]; exact Nat.le_refl _⟩, fun i x H H' T B ws σ I k e y hi => ?_⟩
  · have hi' : i < xs.length := by rw [d.length]; exact hi
    exact ⟨xs, xs[i], sq e s, List.getElem?_eq_getElem hi'⟩
  · obtain ⟨rfl, y⟩ := y
    obtain ⟨dd, e1, e2⟩ := d.getV (y xs (sq e k.sub))
    exact ⟨dd, I, e1, k, Same.refl I, e2.mono e⟩
theorem runs_tup {I1 : Hp} {a : Addr} {xs : List V} {ds : List PyData} (h : SqT K I1 a xs) (d : DaL K I1 xs ds) : Runs K I1 (Itt K a) ds := by
  have sq : ∀ {H I : Hp}, Same I1 I → Same I H → SqT K H a xs := fun e s => sqT_mono (e.trans s) h
  refine ⟨fun i H I hi e s => ?_, fun H I e s => ⟨xs, sq e s, by rw [d.length]; exact Nat.le_refl _⟩, fun i x H H' T B ws σ I k e y hi => ?_⟩
  · have hi' : i < xs.length := by rw [d.length]; exact hi
    exact ⟨xs, xs[i], sq e s, List.getElem?_eq_getElem hi'⟩
  · obtain ⟨rfl, y⟩ := y
    obtain ⟨dd, e1, e2⟩ := d.getV (y xs (sq e k.sub))
    exact ⟨dd, I, e1, k, Same.refl I, e2.mono e⟩
def rangeD (lo : Int) (n : Nat) : List PyData := (List.range n).map fun i => .int (lo + (i : Nat))
theorem rangeD_len {lo : Int} {n : Nat} : (rangeD lo n).length = n := by unfold rangeD; simp
theorem rangeD_get {lo : Int} {n i : Nat} {d : PyData} (h : (rangeD lo n)[i]? = some d) : i < n ∧ d = .int (lo + (i : Nat)) := by
  unfold rangeD at h
  rw [List.getElem?_map] at h
  cases e : (List.range n)[i]? with
  | none => rw [e] at h; cases h
  | some j =>
    rw [e] at h
    obtain ⟨h1, h2⟩ := List.getElem?_eq_some_iff.mp e
    rw [List.getElem_range] at h2
    subst h2
    exact ⟨by simpa using h1, (Option.some.inj h).symm⟩
theorem runs_range {I1 : Hp} {lo : Int} {n : Nat} : Runs K I1 (Itr lo n) (rangeD lo n) := by
  refine ⟨fun i H I hi e s => by rw [rangeD_len] at hi; exact hi, fun H I e s => by rw [rangeD_len]; exact Nat.le_refl _, fun i x H H' T B ws σ I k e y hi => ?_⟩
  obtain ⟨rfl, rfl⟩ := y
  rw [rangeD_len] at hi
  refine ⟨_, I, ?_, k, Same.refl I, .int _⟩
  unfold rangeD
  rw [List.getElem?_map, List.getElem?_range hi]
  rfl
def enumD (ds : List PyData) : List PyData := ds.mapIdx fun i d => .tuple [.int (i : Nat), d]
theorem enumD_len {ds : List PyData} : (enumD ds).length = ds.length := by unfold enumD; simp
theorem enumD_get {ds : List PyData} {i : Nat} {d : PyData} (h : (enumD ds)[i]? = some d) : ∃ x, ds[i]? = some x ∧ d = .tuple [.int (i : Nat), x] := by
  unfold enumD at h
  rw [List.getElem?_mapIdx] at h
  cases e : ds[i]? with
  | none => rw [e] at h; cases h
  | some x =>
    rw [e] at h
    exact ⟨x, rfl, (Option.some.inj h).symm⟩
theorem runs_enum {I1 : Hp} {a : Addr} {xs : List V} {ds : List PyData} (h : I1 a = some (.lst xs)) (d : DaL K I1 xs ds) : Runs K I1 (Ite K a) (enumD ds) := by
  have sq : ∀ {H I : Hp}, Same I1 I → Same I H → SqL K H a xs := fun e s => .inl (.inl (s _ _ (e _ _ h)))
  refine ⟨fun i H I hi e s => ?_, fun H I e s => ⟨xs, sq e s, by rw [d.length, enumD_len]; exact Nat.le_refl _⟩, fun i x H H' T B ws σ I k e y hi => ?_⟩
  · rw [enumD_len] at hi
    have hi' : i < xs.length := by rw [d.length]; exact hi
    exact ⟨xs, xs[i], sq e s, List.getElem?_eq_getElem hi'⟩
  · obtain ⟨p, z, rfl, hp, rfl, y⟩ := y
    obtain ⟨dd, e1, e2⟩ := d.getV (y xs (sq e k.sub))
    have n := same_new (none_of k.sub hp) (HO.tup [.int (i : Nat), z])
    refine ⟨.tuple [.int (i : Nat), dd], _, ?_, k.new hp _, n, .tup (.inl (.inl upd_same)) (.cons (.int _) (.one ((e2.mono e).mono n)))⟩
    unfold enumD
    rw [List.getElem?_mapIdx, e1]
    rfl
def zipD (xs ys : List PyData) : List PyData := List.zipWith (fun x y => .tuple [x, y]) xs ys
theorem iw_list {P : List PyData → List SD → Prop} (h : EW K ws te fun x w => ∃ ds, x = .list ds ∧ P ds w) : IW K ws (iList K te) P := fun T B σ I H k R q => by
  refine h T B σ I H k _ fun v x w I1 H1 p k1 s1 a1 => ?_
  obtain ⟨ds, rfl, p⟩ := p
  obtain ⟨a, xs, rfl, hs, ha⟩ := a1.list_inv
  exact ⟨a, rfl, ⟨xs, .inl (.inl (k1.sub _ _ hs))⟩, q _ _ _ _ _ p k1 s1 (runs_list hs ha)⟩
theorem iw_tup {P : List PyData → List SD → Prop} (h : EW K ws te fun x w => ∃ ds, x = .tuple ds ∧ P ds w) : IW K ws (iTup K te) P := fun T B σ I H k R q => by
  refine h T B σ I H k _ fun v x w I1 H1 p k1 s1 a1 => ?_
  obtain ⟨ds, rfl, p⟩ := p
  obtain ⟨a, xs, rfl, hs, ha⟩ := a1.tup_inv
  exact ⟨a, rfl, ⟨xs, sqT_mono k1.sub hs⟩, q _ _ _ _ _ p k1 s1 (runs_tup hs ha)⟩
theorem iw_range1 {P : List PyData → List SD → Prop} {ta : TA} (h : AW K ws ta fun ds w => ∃ j : Int, ds = [.int j] ∧ -(2 ^ 62) ≤ j ∧ j < 2 ^ 62 ∧ P (rangeD 0 j.toNat) w) : IW K ws (iRng1 ta) P := fun T B σ I H k R q => by
  refine h T B σ I H k _ fun vs ds w I1 H1 p k1 s1 a1 => ?_
  obtain ⟨j, rfl, h1, h2, p⟩ := p
  cases a1 with
  | cons a r =>
    cases r
    cases a
    exact ⟨j, rfl, h1, h2, q _ _ _ _ _ p k1 s1 runs_range⟩
theorem iw_range2 {P : List PyData → List SD → Prop} {ta : TA} (h : AW K ws ta fun ds w => ∃ i j : Int, ds = [.int i, .int j] ∧ (-(2 ^ 62) ≤ i ∧ i < 2 ^ 62 ∧ -(2 ^ 62) ≤ j ∧ j < 2 ^ 62) ∧ P (rangeD i (j - i).toNat) w) : IW K ws (iRng2 ta) P := fun T B σ I H k R q => by
  refine h T B σ I H k _ fun vs ds w I1 H1 p k1 s1 a1 => ?_
  obtain ⟨i, j, rfl, h1, p⟩ := p
  cases a1 with
  | cons a r =>
    cases a
    cases r with
    | cons a r =>
      cases a
      cases r
      exact ⟨i, j, rfl, h1, q _ _ _ _ _ p k1 s1 runs_range⟩
theorem iw_enum {P : List PyData → List SD → Prop} {ta : TA} (h : AW K ws ta fun zs w => ∃ ds, zs = [.list ds] ∧ P (enumD ds) w) : IW K ws (iEnum K ta) P := fun T B σ I H k R q => by
  refine h T B σ I H k _ fun vs ds w I1 H1 p k1 s1 a1 => ?_
  obtain ⟨ds, rfl, p⟩ := p
  cases a1 with
  | cons a r =>
    cases r
    obtain ⟨b, xs, rfl, hs, ha⟩ := a.list_inv
    exact ⟨b, xs, rfl, .inl (.inl (k1.sub _ _ hs)), q _ _ _ _ _ p k1 s1 (runs_enum hs ha)⟩
theorem sw_for {wi : TI} (h : IW K ws wi fun ds w0 => ∃ Iv : Nat → List SD → Prop, Iv 0 w0 ∧
      (∀ i d w B', ds[i]? = some d → Iv i w → Same B B' → GW K T B' w g d fun w2 => SW K T B' w2 ts { D with nx := Nx K T B' (Iv (i + 1)), ct := Nx K T B' (Iv (i + 1)), bk := D.nx }) ∧
      ∀ w, Iv ds.length w → NX K T B w D.nx) : SW K T B ws (tFor wi g ts) D := fun σ I H k => by
  refine h T B σ I H k _ fun J ds w0 I1 H1 p k1 s1 r => ?_
  obtain ⟨Iv, h0, hs, hd⟩ := p
  refine ⟨fun i m σ H => m = ds.length - i ∧ i ≤ ds.length ∧ ∃ w I, Iv i w ∧ Ok K T I1 w σ I H, ⟨_, rfl, Nat.zero_le _, w0, I1, h0, k1.self⟩, ?_⟩
  rintro i m σ H ⟨rfl, hi, w, I2, iv, k2⟩
  by_cases hlt : i < ds.length
  · refine .inr ⟨r.go i H I2 hlt k2.bse k2.sub, Nx K T I1 (Iv (i + 1)), fun σ' H' ⟨w', I', iv', k'⟩ => ⟨ds.length - (i + 1), by omega, rfl, hlt, w', I', iv', k'⟩, fun x H' y => ?_⟩
    obtain ⟨d, I3, e, k3, s3, a3⟩ := r.yld i x H H' T I1 w σ I2 k2 k2.bse y hlt
    exact hs i d w I1 e iv k1.bse σ I3 H' x k3 a3 _ fun w2 σ2 hw k4 => hw σ2 I3 H' k4
  · have e : i = ds.length := by omega
    subst e
    exact .inl ⟨r.stop H I2 k2.bse k2.sub, hd w iv σ I2 H (k2.less k1.bse)⟩
end
def wipeS (w : List SD) : List Nat → List SD
  | [] => w
  | v :: vs => (wipeS w vs).set v .un
def backS (w w4 : List SD) : List Nat → List SD
  | [] => w4
  | v :: vs => (backS w w4 vs).set v (w.getD v .un)
theorem wipeS_len (w : List SD) : ∀ vs, (wipeS w vs).length = w.length
  | [] => rfl
  | v :: vs => by unfold wipeS; rw [List.length_set, wipeS_len w vs]
theorem backS_len (w w4 : List SD) : ∀ vs, (backS w w4 vs).length = w4.length
  | [] => rfl
  | v :: vs => by unfold backS; rw [List.length_set, backS_len w w4 vs]
theorem wipeS_get {w : List SD} {j : Nat} {x : SD} : ∀ {vs : List Nat}, (wipeS w vs)[j]? = some x → x = .un ∨ (j ∉ vs ∧ w[j]? = some x)
  | [], h => .inr ⟨by simp, h⟩
  | v :: vs, h => by
    unfold wipeS at h
    rcases set_get h with ⟨_, e⟩ | ⟨e, h⟩
    · exact .inl e
    · rcases wipeS_get h with e2 | ⟨e2, e3⟩
      · exact .inl e2
      · exact .inr ⟨by simp only [List.mem_cons, not_or]; exact ⟨fun z => e z.symm, e2⟩, e3⟩
theorem backS_get {w w4 : List SD} {j : Nat} {x : SD} : ∀ {vs : List Nat}, (backS w w4 vs)[j]? = some x → (j ∈ vs ∧ x = w.getD j .un) ∨ (j ∉ vs ∧ w4[j]? = some x)
  | [], h => .inr ⟨by simp, h⟩
  | v :: vs, h => by
    unfold backS at h
    rcases set_get h with ⟨rfl, e⟩ | ⟨e, h⟩
    · exact .inl ⟨by simp, e⟩
    · rcases backS_get h with ⟨e2, e3⟩ | ⟨e2, e3⟩
      · exact .inl ⟨by simp [e2], e3⟩
      · exact .inr ⟨by simp only [List.mem_cons, not_or]; exact ⟨fun z => e z.symm, e2⟩, e3⟩
theorem wipe_get_out {σ : L2.St} {j : Nat} : ∀ {vs : List Nat}, j ∉ vs → (wipe σ vs)[j]? = σ[j]?
  | [], _ => rfl
  | v :: vs, h => by
    simp only [List.mem_cons, not_or] at h
    show ((wipe σ vs).set v none)[j]? = _
    rw [List.getElem?_set_ne (fun z => h.1 z.symm)]
    exact wipe_get_out h.2
theorem wipe_set_in {σ : L2.St} {j : Nat} {o : Option V} : ∀ {vs : List Nat}, j ∈ vs → wipe (σ.set j o) vs = wipe σ vs
  | [], h => by cases h
  | v :: vs, h => by
    show (wipe (σ.set j o) vs).set v none = (wipe σ vs).set v none
    by_cases e : j ∈ vs
    · rw [wipe_set_in e]
    · have e2 : j = v := by
        rcases List.mem_cons.mp h with z | z
        · exact z
        · exact absurd z e
      subst e2
      have gen : ∀ us : List Nat, j ∉ us → wipe (σ.set j o) us = (wipe σ us).set j o := fun us => by
        induction us with
        | nil => intro _; rfl
        | cons u us ih =>
          intro hu
          simp only [List.mem_cons, not_or] at hu
          show (wipe (σ.set j o) us).set u none = ((wipe σ us).set u none).set j o
          rw [ih hu.2, List.set_comm _ _ hu.1]
      rw [gen vs e, List.set_set]
theorem wipe_idem {σ : L2.St} : ∀ {vs : List Nat}, wipe (wipe σ vs) vs = wipe σ vs := fun {vs} => by
  have gen : ∀ (us : List Nat) (ρ : L2.St), (∀ u ∈ us, ρ[u]? = some none ∨ ρ[u]? = none) → wipe ρ us = ρ := fun us => by
    induction us with
    | nil => intro ρ _; rfl
    | cons u us ih =>
      intro ρ h
      show (wipe ρ us).set u none = ρ
      rw [ih ρ fun v hv => h v (List.mem_cons_of_mem _ hv)]
      apply List.ext_getElem?
      intro i
      rw [List.getElem?_set]
      split
      · rename_i e
        subst e
        rcases h u List.mem_cons_self with z | z
        · rw [z]
          have := (List.getElem?_eq_some_iff.mp z).1
          rw [if_pos this]
        · rw [z]
          have : ¬ u < ρ.length := by
            have := List.getElem?_eq_none_iff.mp z
            omega
          rw [if_neg this]
      · rfl
  refine gen vs _ fun u hu => ?_
  have main : ∀ vs : List Nat, u ∈ vs → (wipe σ vs)[u]? = some none ∨ (wipe σ vs)[u]? = none := fun vs => by
    induction vs with
    | nil => intro h; cases h
    | cons v vs ih =>
      intro h
      show ((wipe σ vs).set v none)[u]? = _ ∨ ((wipe σ vs).set v none)[u]? = _
      rw [List.getElem?_set]
      by_cases e : v = u
      · rw [if_pos e]
        split
        · exact .inl rfl
        · exact .inr rfl
      · rw [if_neg e]
        rcases List.mem_cons.mp h with z | z
        · exact absurd z.symm e
        · exact ih z
  exact main vs hu
section
variable {K : Frg} {T B I I' H H' : Hp} {ws w w4 : List SD} {σ σ2 : L2.St} {vs : List Nat}
theorem Ok.wipe (k : Ok K T B w σ I H) : Ok K T B (wipeS w vs) (L2.wipe σ vs) I H := by
  obtain ⟨ft, k⟩ := k
  refine ⟨ft, k.sub, k.oth, k.bse, k.ti, by rw [wipe_length, wipeS_len]; exact k.len, k.ap, k.own, fun j x hx => ?_⟩
  rcases wipeS_get hx with rfl | ⟨h1, h2⟩
  · trivial
  · rw [wipe_get_out h1]
    exact k.sl j x h2
def Plain (w : List SD) (vs : List Nat) : Prop := ∀ v ∈ vs, w.getD v .un = .un ∨ ∃ d, w.getD v .un = .dat d
theorem Ok.back (k : Ok K T B w σ I H) (k4 : Ok K T B w4 σ2 I' H') (e : L2.wipe σ2 vs = L2.wipe σ vs) (s : Same I I') (pl : Plain w vs) : Ok K T B (backS w w4 vs) σ I' H' := by
  obtain ⟨ft0, k⟩ := k
  obtain ⟨ft, k4⟩ := k4
  have hl : σ.length = σ2.length := by
    have := congrArg List.length e
    rw [wipe_length, wipe_length] at this
    exact this.symm
  refine ⟨fun j => if j ∈ vs then [] else ft j, k4.sub, k4.oth, k4.bse, k4.ti, by rw [backS_len, hl]; exact k4.len, fun a b c ha hb => ?_, fun j a ha => ?_, fun j x hx => ?_⟩
  · have ha : c ∈ if a ∈ vs then [] else ft a := ha
    have hb : c ∈ if b ∈ vs then [] else ft b := hb
    split at ha
    · cases ha
    · split at hb
      · cases hb
      · exact k4.ap a b c ha hb
  · have ha : a ∈ if j ∈ vs then [] else ft j := ha
    split at ha
    · cases ha
    · exact k4.own j a ha
  · rcases backS_get hx with ⟨h1, rfl⟩ | ⟨h1, h2⟩
    · have hj : w[j]? = some (w.getD j .un) := by
        have := (List.getElem?_eq_some_iff.mp hx).1
        rw [backS_len, ← k4.len, ← hl, k.len] at this
        rw [List.getD_eq_getElem?_getD, List.getElem?_eq_getElem this]
        rfl
      have q := k.sl j _ hj
      rcases pl j h1 with z | ⟨d, z⟩
      · rw [z]
        trivial
      · rw [z] at q ⊢
        obtain ⟨v, q1, q2⟩ := q
        exact ⟨v, q1, q2.mono s⟩
    · show Sl K I' H' (if j ∈ vs then [] else ft j) _ x
      rw [if_neg h1]
      have z : σ[j]? = σ2[j]? := by rw [← wipe_get_out (σ := σ) h1, ← wipe_get_out (σ := σ2) h1, e]
      rw [z]
      exact k4.sl j x h2
def GC (K : Frg) (vs : List Nat) (ws : List SD) (g : TG) (d : PyData) (R : List SD → Prop) : Prop :=
  ∀ T B σ I H v, Ok K T B ws σ I H → Da K I v d → ∀ Q : L2.St → Hp → Prop, (∀ ws' σ', R ws' → Ok K T B ws' σ' I H → L2.wipe σ' vs = L2.wipe σ vs → Q σ' H) → g v σ H Q
def GCs (K : Frg) (vs : List Nat) (ws : List SD) (g : TGs) (ds : List PyData) (R : List SD → Prop) : Prop :=
  ∀ T B σ I H us, Ok K T B ws σ I H → DaL K I us ds → ∀ Q : L2.St → Hp → Prop, (∀ ws' σ', R ws' → Ok K T B ws' σ' I H → L2.wipe σ' vs = L2.wipe σ vs → Q σ' H) → g us σ H Q
theorem gc_name {i : Nat} {d : PyData} {R : List SD → Prop} (hi : i ∈ vs) (h : R (ws.set i (.dat d))) : GC K vs ws (gName i) d R := fun T B σ I H v k a Q q => q _ _ h (k.set a) (wipe_set_in hi)
theorem gcs_nil {R : List SD → Prop} (h : R ws) : GCs K vs ws gNil [] R := fun T B σ I H us k a Q q => by
  cases a
  exact ⟨rfl, q _ _ h k rfl⟩
theorem gcs_cons {g : TG} {tg : TGs} {d : PyData} {ds : List PyData} {R : List SD → Prop} (h : GC K vs ws g d fun w => GCs K vs w tg ds R) : GCs K vs ws (gCons g tg) (d :: ds) R := fun T B σ I H us k a Q q => by
  cases a with
  | cons a r => exact ⟨_, _, rfl, h T B σ I H _ k a _ fun w σ' hw k' e => hw T B σ' I H _ k' r Q fun w2 σ2 r2 k2 e2 => q w2 σ2 r2 k2 (e2.trans e)⟩
theorem gc_tup {n : Nat} {tg : TGs} {ds : List PyData} {R : List SD → Prop} (hn : ds.length = n) (h : GCs K vs ws tg ds R) : GC K vs ws (gTup K n tg) (.tuple ds) R := fun T B σ I H v k a Q q => by
  obtain ⟨p, xs, rfl, hs, ha⟩ := a.tup_inv
  exact ⟨p, xs, rfl, sqT_mono k.sub hs, by rw [ha.length]; exact hn, h T B σ I H xs k ha Q q⟩
theorem Ok.more {D : Addr} {xs : List V} {y : V} (k : Ok K (upd T D (.lst xs)) B w σ I H) : H D = some (.lst xs) ∧ ∀ zs : List V, Ok K (upd T D (.lst zs)) B w σ I (upd H D (.lst zs)) := by
  obtain ⟨ft, k⟩ := k
  have hp : (upd T D (HO.lst xs)) D = some (.lst xs) := upd_same
  have hI : I D = none := k.ti D (by rw [hp]; simp)
  have hH : H D = some (.lst xs) := k.oth _ _ hp
  have out : ∀ j a, a ∈ ft j → a ≠ D := fun j a ha z => by
    have h2 := (k.own j a ha).2.1
    rw [z, hp] at h2
    cases h2
  refine ⟨hH, fun zs => ⟨ft, fun b x q => ?_, fun b x q => ?_, k.bse, fun b hb => ?_, k.len, k.ap, fun j a ha => ?_, fun j x hx => (k.sl j x hx).keep (Same.refl I) fun a ha => by rw [upd_ne (out j a ha)]⟩⟩
  · rw [upd_ne (ne_of_none q hI)]
    exact k.sub _ _ q
  · by_cases z : b = D
    · subst z
      rw [upd_same] at q ⊢
      exact q
    · rw [upd_ne z] at q ⊢
      exact k.oth b x (by rw [upd_ne z]; exact q)
  · by_cases z : b = D
    · subst z
      exact hI
    · rw [upd_ne z] at hb
      exact k.ti b (by rw [upd_ne z]; exact hb)
  · obtain ⟨h1, h2, h3⟩ := k.own j a ha
    have z := out j a ha
    rw [upd_ne z] at h2
    rw [upd_ne z, upd_ne z]
    exact ⟨h1, h2, h3⟩
theorem ef_lc {wi : TI} {g : TG} {tt : TT} {te : TE} {PA : List PyData → List SD → Prop} (h : IW K ws wi fun ds w0 => ∃ Iv : Nat → List PyData → List SD → Prop, Iv 0 [] w0 ∧
      (∀ i d acc w, ds[i]? = some d → Iv i acc w → Plain w vs ∧ GC K vs (wipeS w vs) g d fun w2 => TW K w2 tt fun b w3 =>
        if b = true then EW K w3 te fun e w5 => acc.length < sizeLine ∧ Iv (i + 1) (acc ++ [e]) (backS w w5 vs) else Iv (i + 1) acc (backS w w3 vs)) ∧
      ∀ acc w, Iv ds.length acc w → PA acc w) : EF K ws (tLc wi g tt te vs) PA := fun T B σ I H k Q q => by
  refine h T B σ I H k _ fun J ds w0 I1 H1 p k1 s1 r => ?_
  obtain ⟨Iv, h0, hs, hd⟩ := p
  intro D hD
  obtain ⟨kD, nD⟩ := k1.hand (o := .lst []) hD
  refine ⟨fun i m H => m = ds.length - i ∧ i ≤ ds.length ∧ ∃ w acc us I2, Iv i acc w ∧ Ok K (upd T D (.lst us)) I1 w σ I2 H ∧ DaL K I2 us acc, ⟨_, rfl, Nat.zero_le _, w0, [], [], I1, h0, kD.self, .nil⟩, ?_⟩
  rintro i m H2 ⟨rfl, hi, w, acc, us, I2, iv, k2, da⟩
  by_cases hlt : i < ds.length
  · refine .inr ⟨r.go i H2 I2 hlt k2.bse k2.sub, fun H' => ∃ w acc us I2, Iv (i + 1) acc w ∧ Ok K (upd T D (.lst us)) I1 w σ I2 H' ∧ DaL K I2 us acc, fun H' z => ⟨ds.length - (i + 1), by omega, rfl, hlt, z⟩, fun x H3 y => ?_⟩
    obtain ⟨d, I3, e, k3, s3, a3⟩ := r.yld i x H2 H3 _ I1 w σ I2 k2 k2.bse y hlt
    obtain ⟨pl, hg⟩ := hs i d acc w e iv
    refine hg _ I1 _ I3 H3 x (k3.wipe (vs := vs)) a3 _ fun w2 σ2 hw k4 ew => ?_
    have ew : L2.wipe σ2 vs = L2.wipe σ vs := ew.trans wipe_idem
    refine ⟨ew, ?_⟩
    refine hw _ I1 σ2 I3 H3 k4 _ fun b w3 I4 H4 pb k5 s5 => ?_
    cases b with
    | true =>
      refine pb _ I1 σ2 I4 H4 k5 _ fun v e5 w5 I5 H5 pe k6 s6 a6 => ?_
      have kk := k3.back k6 ew (s5.trans s6) pl
      obtain ⟨hH, up⟩ := kk.more (y := v)
      exact ⟨us, hH, by rw [da.length]; exact pe.1, _, _, us ++ [v], I5, pe.2, up _, (da.mono (s3.trans (s5.trans s6))).append (.one a6)⟩
    | false =>
      exact ⟨_, _, us, I4, pb, k3.back k5 ew s5 pl, da.mono (s3.trans s5)⟩
  · have e : i = ds.length := by omega
    subst e
    exact .inl ⟨r.stop H2 I2 k2.bse k2.sub, q D us acc w I2 H2 (hd acc w iv) nD (k2.less k1.bse) (s1.trans k2.bse) da⟩
end
def SpP (K : Frg) (pre : List PyData → (PyData → Prop) → Prop) : Sp := fun vs H Q _ => ∃ T B I ds R, Ok K T B [] [] I H ∧ DaL K I vs ds ∧ pre ds R ∧
  ∀ v d I' H', R d → Ok K T B [] [] I' H' → Same I I' → Da K I' v d → Q v H'
def SpR (K : Frg) (pre : Cel → List PyData → Cel → (PyData → Prop) → Prop) : Sp := fun vs H Q _ => ∃ T B I v0 us c c' ds R, vs = v0 :: us ∧ Ok K T B [.cel c] [some v0] I H ∧ DaL K I us ds ∧ pre c ds c' R ∧
  ∀ v d I' H', R d → Ok K T B [.cel c'] [some v0] I' H' → Same I I' → Da K I' v d → Q v H'
section
variable {K : Frg} {T B I I' H H' : Hp} {ws : List SD} {σ : L2.St}
theorem ew_callP {pre : List PyData → (PyData → Prop) → Prop} {E : XK} {ts : TA} {P : PyData → List SD → Prop} (h : AW K ws ts fun ds w => ∃ R, pre ds R ∧ ∀ d, R d → P d w) : EW K ws (tCall (SpP K pre) [] E ts) P := fun T B σ I H k Q q => by
  refine h T B σ I H k _ fun vs ds w I1 H1 p k1 s1 a1 => ?_
  obtain ⟨R, hp, hr⟩ := p
  rw [List.append_nil]
  exact ⟨rest I1 H1, I1, I1, ds, R, k1.give, a1, hp, fun v d I' H' rd k' e a => q v d w I' H' (hr d rd) (k1.take k') (s1.trans e) a⟩
def restF (F : List Addr) (I H : Hp) : Hp := fun b => if b ∈ F then none else rest I H b
theorem Ok.giveC {j : Nat} {c : Cel} (k : Ok K T B ws σ I H) (h : ws[j]? = some (.cel c)) : ∃ v F, σ[j]? = some (some v) ∧ Ok K (restF F I H) I [.cel c] [some v] I H ∧
    ∀ c' I' H', Ok K (restF F I H) I [.cel c'] [some v] I' H' → Ok K T B (ws.set j (.cel c')) σ I' H' := by
  obtain ⟨ft, k⟩ := k
  obtain ⟨v, h1, h2⟩ := k.sl j _ h
  have hj : σ[j]? = some (some v) := by
    cases e : σ[j]? with
    | none => rw [e] at h1; cases h1
    | some x => rw [e] at h1; exact congrArg some h1
  refine ⟨v, ft j, hj, ⟨fun i => if i = 0 then ft j else [], k.sub, fun b x q => ?_, Same.refl I, fun b hb => ?_, rfl, fun a b x ha hb => ?_, fun i a ha => ?_, fun i w hw => ?_⟩, fun c' I' H' k' => ?_⟩
  · unfold restF at q
    split at q
    · cases q
    · by_cases z : I b = none
      · rw [rest_eq z] at q
        exact q
      · rw [rest_none z] at q
        cases q
  · unfold restF at hb
    split at hb
    · exact absurd rfl hb
    · by_cases z : I b = none
      · exact z
      · rw [rest_none z] at hb
        exact absurd rfl hb
  · have ha : x ∈ if a = 0 then ft j else [] := ha
    have hb : x ∈ if b = 0 then ft j else [] := hb
    split at ha
    · split at hb
      · omega
      · cases hb
    · cases ha
  · have ha : a ∈ if i = 0 then ft j else [] := ha
    split at ha
    · obtain ⟨e1, e2, e3⟩ := k.own j a ha
      exact ⟨e1, by unfold restF; rw [if_pos ha], e3⟩
    · cases ha
  · cases i with
    | zero =>
      cases hw
      exact ⟨v, rfl, h2⟩
    | succ i => cases hw
  · obtain ⟨ft', k'⟩ := k'
    have e := k'.bse
    have rs : ∀ a, a ∉ ft j → I a = none → restF (ft j) I H a = H a := fun a h1 h2 => by
      unfold restF
      rw [if_neg h1, rest_eq h2]
    have keep : ∀ a, a ∉ ft j → I a = none → H a ≠ none → H' a = H a ∧ I' a = none ∧ restF (ft j) I H a ≠ none := fun a h1 h2 h3 => by
      have z := rs a h1 h2
      refine ⟨?_, k'.ti a (by rw [z]; exact h3), by rw [z]; exact h3⟩
      cases q : H a with
      | none => exact absurd q h3
      | some x => exact k'.oth a x (by rw [z, q])
    have tn : ∀ b, T b ≠ none → b ∉ ft j := fun b hb hj => hb (k.own j b hj).2.1
    have new0 : ∀ a, a ∈ ft' 0 → I' a = none ∧ T a = none ∧ H' a ≠ none ∧ ∀ i, i ≠ j → a ∉ ft i := fun a ha => by
      obtain ⟨e1, e2, e3⟩ := k'.own 0 a ha
      refine ⟨e1, ?_, e3, fun i hi hm => ?_⟩
      · cases q : T a with
        | none => rfl
        | some x =>
          have hb : T a ≠ none := by rw [q]; simp
          have := (keep a (tn a hb) (k.ti a hb) (by rw [k.oth _ _ q]; simp)).2.2
          exact absurd e2 this
      · obtain ⟨f1, f2, f3⟩ := k.own i a hm
        exact absurd e2 (keep a (fun z => hi (k.ap i j a hm z)) f1 f3).2.2
    refine ⟨fun i => if i = j then ft' 0 else ft i, k'.sub, fun b x q => ?_, fun b x q => e b x (k.bse b x q), fun b hb => ?_, by rw [List.length_set]; exact k.len, fun a b x ha hb => ?_, fun i a ha => ?_, fun i w hw => ?_⟩
    · have hb : T b ≠ none := by rw [q]; simp
      have q2 := k.oth b x q
      rw [(keep b (tn b hb) (k.ti b hb) (by rw [q2]; simp)).1]
      exact q2
    · refine (keep b (tn b hb) (k.ti b hb) ?_).2.1
      cases q : T b with
      | none => exact absurd q hb
      | some x => rw [k.oth b x q]; simp
    · have ha : x ∈ if a = j then ft' 0 else ft a := ha
      have hb : x ∈ if b = j then ft' 0 else ft b := hb
      split at ha
      · split at hb
        · rename_i z1 z2
          rw [z1, z2]
        · rename_i z1 z2
          exact absurd hb ((new0 x ha).2.2.2 b z2)
      · split at hb
        · rename_i z1 z2
          exact absurd ha ((new0 x hb).2.2.2 a z1)
        · exact k.ap a b x ha hb
    · have ha : a ∈ if i = j then ft' 0 else ft i := ha
      split at ha
      · obtain ⟨e1, e2, e3, _⟩ := new0 a ha
        exact ⟨e1, e2, e3⟩
      · rename_i z
        obtain ⟨f1, f2, f3⟩ := k.own i a ha
        obtain ⟨g1, g2, _⟩ := keep a (fun y => z (k.ap i j a ha y)) f1 f3
        exact ⟨g2, f2, by rw [g1]; exact f3⟩
    · rcases set_get hw with ⟨q, rfl⟩ | ⟨q, hw⟩
      · subst q
        show Sl K I' H' (if j = j then ft' 0 else ft j) _ _
        rw [if_pos rfl]
        obtain ⟨v', e1, e2⟩ := k'.sl 0 _ rfl
        cases e1
        exact ⟨v, h1, e2⟩
      · show Sl K I' H' (if i = j then ft' 0 else ft i) _ w
        rw [if_neg fun z => q z.symm]
        refine (k.sl i w hw).keep e fun a ha => ?_
        obtain ⟨f1, f2, f3⟩ := k.own i a ha
        exact (keep a (fun y => q (k.ap i j a ha y).symm) f1 f3).1
theorem ew_callR {pre : Cel → List PyData → Cel → (PyData → Prop) → Prop} {E : XK} {ts : TA} {P : PyData → List SD → Prop} {j : Nat} {c0 : Cel} (hj : ws[j]? = some (.cel c0))
    (h : AW K ws ts fun ds w => ∃ c c' R, w[j]? = some (.cel c) ∧ pre c ds c' R ∧ ∀ d, R d → P d (w.set j (.cel c'))) : EW K ws (tCall (SpR K pre) [] E (tCons (tVar j) ts)) P := fun T B σ I H k Q q => by
  obtain ⟨v, F, e, _, _⟩ := k.giveC hj
  refine ⟨v, e, ?_⟩
  refine h T B σ I H k _ fun vs ds w I1 H1 p k1 s1 a1 => ?_
  obtain ⟨c, c', R, hc, hp, hr⟩ := p
  obtain ⟨v', F', e', kc, up⟩ := k1.giveC hc
  rw [e] at e'
  cases e'
  rw [List.append_nil]
  exact ⟨restF F' I1 H1, I1, I1, v, vs, c, c', ds, R, rfl, kc, a1, hp, fun z d I' H' rd k' s a => q z d _ I' H' (hr d rd) (up c' I' H' k') (s1.trans s) a⟩
theorem Ok.begin {vs : List V} {ds : List PyData} {n : Nat} (k : Ok K T B [] [] I H) (a : DaL K I vs ds) : Ok K T I (ds.map .dat ++ List.replicate n .un) (vs.map some ++ List.replicate n none) I H := by
  refine ⟨fun _ => [], k.sub, k.oth, Same.refl I, k.ti, by simp [a.length], fun _ _ _ h _ => (nomatch h), fun _ _ h => (nomatch h), fun i w hw => ?_⟩
  by_cases hi : i < ds.length
  · have hi' : i < vs.length := by rw [a.length]; exact hi
    rw [List.getElem?_append_left (by simpa using hi), List.getElem?_map, List.getElem?_eq_getElem hi] at hw
    cases hw
    obtain ⟨v, e, d⟩ := a.get (List.getElem?_eq_getElem hi)
    refine ⟨v, ?_, d⟩
    rw [List.getElem?_append_left (by simpa using hi'), List.getElem?_map, e]
    rfl
  · rw [List.getElem?_append_right (by simpa using hi), List.getElem?_replicate] at hw
    split at hw
    · cases hw
      trivial
    · cases hw
theorem body_P {N : List Str} {vs : List V} {ds : List PyData} {ts : TS} {D : Ends} (k : Ok K T B [] [] I H) (a : DaL K I vs ds) (h : SW K T I (ds.map .dat ++ List.replicate (N.length - ds.length) .un) ts D) : ts D (L2.start N vs) H := by
  have q := h _ I H (k.begin (n := N.length - ds.length) a)
  unfold L2.start
  rw [a.length]
  exact q
theorem rt_P {pre : Prop} {Q : V → Hp → Prop} {R : PyData → Prop} {d : PyData} (k : Ok K T B [] [] I H) (q : ∀ v d I' H', R d → Ok K T B [] [] I' H' → Same I I' → Da K I' v d → Q v H') (hd : R d) {B' : Hp} (e : Same I B') : RT K T B' ws d Q := fun σ I' H' v k' a =>
  q v d I' H' hd (k'.bare.less (k.bse.trans e)) (e.trans k'.bse) a
theorem Ok.beginC {c : Cel} {v0 : V} {vs : List V} {ds : List PyData} {n : Nat} (k : Ok K T B [.cel c] [some v0] I H) (a : DaL K I vs ds) : Ok K T I (.cel c :: (ds.map .dat ++ List.replicate n .un)) (some v0 :: (vs.map some ++ List.replicate n none)) I H := by
  have k2 := k.bare.begin (n := n) a
  obtain ⟨ft, k⟩ := k
  obtain ⟨ft2, k2⟩ := k2
  refine ⟨fun i => if i = 0 then ft 0 else [], k.sub, k.oth, Same.refl I, k.ti, by simp [a.length], fun x y b hx hy => ?_, fun i b hb => ?_, fun i w hw => ?_⟩
  · have hx : b ∈ if x = 0 then ft 0 else [] := hx
    have hy : b ∈ if y = 0 then ft 0 else [] := hy
    split at hx
    · split at hy
      · omega
      · cases hy
    · cases hx
  · have hb : b ∈ if i = 0 then ft 0 else [] := hb
    split at hb
    · exact k.own 0 b hb
    · cases hb
  · cases i with
    | zero =>
      cases hw
      exact k.sl 0 _ rfl
    | succ i =>
      have hw' : (ds.map SD.dat ++ List.replicate n .un)[i]? = some w := hw
      have q := k2.sl i w hw'
      show Sl K I H (if i + 1 = 0 then ft 0 else []) _ w
      rw [if_neg (by omega)]
      by_cases hi : i < ds.length
      · rw [List.getElem?_append_left (by simpa using hi), List.getElem?_map, List.getElem?_eq_getElem hi] at hw'
        cases hw'
        exact q
      · rw [List.getElem?_append_right (by simpa using hi), List.getElem?_replicate] at hw'
        split at hw'
        · cases hw'
          trivial
        · cases hw'
theorem body_R {N : List Str} {c : Cel} {v0 : V} {vs : List V} {ds : List PyData} {ts : TS} {D : Ends} (k : Ok K T B [.cel c] [some v0] I H) (a : DaL K I vs ds) (h : SW K T I (.cel c :: (ds.map .dat ++ List.replicate (N.length - (ds.length + 1)) .un)) ts D) : ts D (L2.start N (v0 :: vs)) H := by
  have q := h _ I H (k.beginC (n := N.length - (ds.length + 1)) a)
  unfold L2.start
  rw [List.length_cons, a.length]
  exact q
theorem Ok.celAt {j : Nat} {c : Cel} (k : Ok K T B ws σ I H) (h : ws[j]? = some (.cel c)) {v0 : V} (hv : ∀ F v I H, c.ok F v I H → v = v0) : Ok K T B [.cel c] [some v0] I H := by
  obtain ⟨ft, k⟩ := k
  obtain ⟨v, h1, h2⟩ := k.sl j _ h
  have hv := hv _ _ _ _ h2
  subst hv
  refine ⟨fun i => if i = 0 then ft j else [], k.sub, k.oth, k.bse, k.ti, rfl, fun x y b hx hy => ?_, fun i b hb => ?_, fun i w hw => ?_⟩
  · have hx : b ∈ if x = 0 then ft j else [] := hx
    have hy : b ∈ if y = 0 then ft j else [] := hy
    split at hx
    · split at hy
      · omega
      · cases hy
    · cases hx
  · have hb : b ∈ if i = 0 then ft j else [] := hb
    split at hb
    · exact k.own j b hb
    · cases hb
  · cases i with
    | zero =>
      cases hw
      exact ⟨v, rfl, h2⟩
    | succ i => cases hw
theorem rt_R {Q : V → Hp → Prop} {R : PyData → Prop} {d : PyData} {c c' : Cel} {v0 : V} (k : Ok K T B [.cel c] [some v0] I H) (q : ∀ v d I' H', R d → Ok K T B [.cel c'] [some v0] I' H' → Same I I' → Da K I' v d → Q v H') (hd : R d) (hv : ∀ F v I H, c'.ok F v I H → v = v0) {j : Nat} (hw : ws[j]? = some (.cel c')) {B' : Hp} (e : Same I B') : RT K T B' ws d Q := fun σ I' H' v k' a =>
  q v d I' H' hd ((k'.celAt hw hv).less (k.bse.trans e)) (e.trans k'.bse) a
end
end DL
namespace DL
open PySem PySem.Spec PyProof.Rows L2
def CPowW (i j : Int) : Prop := 0 ≤ j ∧ j ≤ 1000 ∧ i.natAbs < 2 ^ 1000
theorem CPowW.ok {i j : Int} (h : CPowW i j) : (Builtin.Int.intBits i : Int) * j ≤ 2 ^ 27 := by
  obtain ⟨h1, h2, h3⟩ := h
  have b : Builtin.Int.intBits i ≤ i.natAbs.log2 + 1 := by
    unfold Builtin.Int.intBits
    split <;> omega
  have l := PySem.Flt.log2_lt_of (by decide : 0 < 1000) h3
  have c : (Builtin.Int.intBits i : Int) ≤ 1001 := by omega
  have d := Int.mul_le_mul c h2 h1 (by decide)
  exact Int.le_trans d (by decide)
theorem op_powW {X : Cx} : OpR X (binaryOp .Pow) (rI CPowW fun i j => .int (i ^ j.toNat)) := opI fun _ _ _ _ _ _ _ hc q => pow_int hc.1 hc.ok q
def Df (P : Program) (w : World) (K : Frg) (mg : Str → Option Value) (base : Heap) (k : Nat) (x : Str) (ps : List Str) (sp : Sp) : Prop :=
  ∃ f fd, FnOk P w K mg base CX0 k f fd ps sp ∧ mg x = some (.ref f) ∧ PySem.W.keepIn K (.ref f) = true ∧ Binds K fd ps []
def At (K : Frg) (mg : Str → Option Value) (x : Str) (st : Stmt) (ps : List Str) : Prop :=
  ∃ f fd, Fun K x x.toString st f fd ∧ mg x = some (.ref f) ∧ Binds K fd ps []
section
variable {P : Program} {w : World} {K : Frg} {mg : Str → Option Value} {base : Heap} {X : Cx} {k j : Nat} {x : Str} {ps : List Str} {sp : Sp} {p pos : Pos} {e : Expr} {es : List Expr} {t : TA}
theorem pe_df (G : Df X.prog X.w X.K X.mg X.base k x ps sp) (hr : Room j X.A) (hk : k ≤ j) (hg : Gl X x) (ha : PA X (e :: es) t) (hdb : (x == ("__debug__" : Str)) = false := by decide)
    (he : starEach (e :: es) X.env = (false, eval e X.env) :: starEach es X.env := by rfl) (hpl : (backTo pos (starEach es X.env)).any (·.1) = false := by rfl) : PE X (.Call (.Name x p) (e :: es) [] pos) (tCall sp [] E0 t) := by
  obtain ⟨f, fd, G, m, kp, b⟩ := G
  exact pe_call G (hr.mono hk) hg m kp b .nil pass0 ha hdb he hpl
theorem pe_df0 (G : Df X.prog X.w X.K X.mg X.base k x ps sp) (hr : Room j X.A) (hk : k ≤ j) (hg : Gl X x) (hdb : (x == ("__debug__" : Str)) = false := by decide) : PE X (.Call (.Name x p) [] [] pos) (tCall sp [] E0 tNil) := by
  obtain ⟨f, fd, G, m, kp, b⟩ := G
  exact pe_call0 G (hr.mono hk) hg m kp b .nil pass0 hdb
end
def flC (v : V) (xs : List V) : Cel := ⟨fun F u _ H => u = v ∧ ∃ p, v = .ref p ∧ F = [p] ∧ H p = some (.lst xs), fun F u I I' H H' _ e ⟨h1, p, h2, h3, h4⟩ => ⟨h1, p, h2, h3, by rw [e p (by rw [h3]; exact List.mem_singleton.mpr rfl)]; exact h4⟩⟩
section
variable {K : Frg} {T B I H : Hp} {ws : List SD} {σ : L2.St} {te ti tb : TE} {D : Ends} {P : PyData → List SD → Prop}
theorem Ok.celEx {α : Type} {j : Nat} {c : Cel} {C : α → Cel} (k : Ok K T B ws σ I H) (h : ws[j]? = some (.cel c)) (e : ∀ F v I H, c.ok F v I H → ∃ x, (C x).ok F v I H) : ∃ x, Ok K T B (ws.set j (.cel (C x))) σ I H := by
  obtain ⟨ft, k⟩ := k
  obtain ⟨v, h1, h2⟩ := k.sl j _ h
  obtain ⟨x, hx⟩ := e _ _ _ _ h2
  refine ⟨x, ft, k.sub, k.oth, k.bse, k.ti, by rw [List.length_set]; exact k.len, k.ap, k.own, fun i w hw => ?_⟩
  rcases set_get hw with ⟨q, rfl⟩ | ⟨q, hw⟩
  · subst q
    exact ⟨v, h1, hx⟩
  · exact k.sl i w hw
theorem Ok.celTo {j : Nat} {c c' : Cel} (k : Ok K T B ws σ I H) (h : ws[j]? = some (.cel c)) (e : ∀ F v I H, c.ok F v I H → c'.ok F v I H) : Ok K T B (ws.set j (.cel c')) σ I H := by
  obtain ⟨_, k⟩ := k.celEx (C := fun _ : Unit => c') h fun F v I H q => ⟨(), e F v I H q⟩
  exact k
theorem sw_open {α : Type} {j : Nat} {c : Cel} {C : α → Cel} {ts : TS} (h : ws[j]? = some (.cel c)) (e : ∀ F v I H, c.ok F v I H → ∃ x, (C x).ok F v I H) (q : ∀ x, SW K T B (ws.set j (.cel (C x))) ts D) : SW K T B ws ts D := fun σ I H k => by
  obtain ⟨x, k⟩ := k.celEx h e
  exact q x σ I H k
theorem sw_cel {j : Nat} {c c' : Cel} {ts : TS} (h : ws[j]? = some (.cel c)) (e : ∀ F v I H, c.ok F v I H → c'.ok F v I H) (q : SW K T B (ws.set j (.cel c')) ts D) : SW K T B ws ts D := fun σ I H k => q σ I H (k.celTo h e)
theorem rt_cel {j : Nat} {c c' : Cel} {N : V → Hp → Prop} {d : PyData} (h : ws[j]? = some (.cel c)) (e : ∀ F v I H, c.ok F v I H → c'.ok F v I H) (q : RT K T B (ws.set j (.cel c')) d N) : RT K T B ws d N := fun σ I H v k => q σ I H v (k.celTo h e)
theorem nx_cel {j : Nat} {c c' : Cel} {N : L2.St → Hp → Prop} (h : ws[j]? = some (.cel c)) (e : ∀ F v I H, c.ok F v I H → c'.ok F v I H) (q : NX K T B (ws.set j (.cel c')) N) : NX K T B ws N := fun σ I H k => q σ I H (k.celTo h e)
theorem Ok.flAt {j : Nat} {v : V} {xs : List V} (k : Ok K T B ws σ I H) (h : ws[j]? = some (.cel (flC v xs))) : ∃ p, v = .ref p ∧ σ[j]? = some (some (.ref p)) ∧ H p = some (.lst xs) ∧ ∀ ys, Ok K T B (ws.set j (.cel (flC v ys))) σ I (upd H p (.lst ys)) := by
  obtain ⟨ft, k⟩ := k
  obtain ⟨u, h1, rfl, p, rfl, hF, hH⟩ := k.sl j _ h
  have hp : p ∈ ft j := by rw [hF]; exact List.mem_singleton.mpr rfl
  obtain ⟨hI, hT, hn⟩ := k.own j p hp
  refine ⟨p, rfl, ?_, hH, fun ys => ⟨ft, fun b x q => ?_, fun b x q => ?_, k.bse, k.ti, by rw [List.length_set]; exact k.len, k.ap, fun i a ha => ?_, fun i w hw => ?_⟩⟩
  · cases e : σ[j]? with
    | none => rw [e] at h1; cases h1
    | some x => rw [e] at h1; exact congrArg some h1
  · rw [upd_ne (ne_of_none q hI)]
    exact k.sub _ _ q
  · rw [upd_ne (ne_of_none q hT)]
    exact k.oth _ _ q
  · obtain ⟨e1, e2, e3⟩ := k.own i a ha
    refine ⟨e1, e2, ?_⟩
    by_cases z : a = p
    · rw [z, upd_same]
      simp
    · rw [upd_ne z]
      exact e3
  · rcases set_get hw with ⟨q, rfl⟩ | ⟨q, hw⟩
    · subst q
      exact ⟨.ref p, h1, rfl, p, rfl, hF, upd_same⟩
    · refine (k.sl i w hw).keep (Same.refl I) fun a ha => ?_
      have z : a ≠ p := fun z => q (k.ap j i p hp (z ▸ ha))
      rw [upd_ne z]
theorem da_flat {d : PyData} {v : V} (h : flatD d = some v) : Da K I v d := by
  cases d <;> cases h <;> constructor
theorem ew_ixC {j : Nat} {v : V} {xs : List V} (h : ws[j]? = some (.cel (flC v xs))) (hb : EW K ws tb fun y w => ∃ i, y = .int i ∧ w = ws ∧ ∃ z, atI xs i = some (.int z) ∧ P (.int z) ws) : EW K ws (tOp (rIxL K) (tVar j) tb) P := fun T B σ I H k Q q => by
  obtain ⟨p, rfl, e, hH, _⟩ := k.flAt h
  refine ⟨_, e, ?_⟩
  refine hb T B σ I H k _ fun u y w1 I1 H1 p1 k1 s1 a1 => ?_
  obtain ⟨i, rfl, rfl, z, at_, pp⟩ := p1
  obtain ⟨p', e1, e', hH', _⟩ := k1.flAt h
  cases e1
  exact ⟨p, xs, i, .int z, rfl, a1.int_inv, .inl (.inl hH'), at_, q _ _ _ _ _ pp k1 s1 (.int z)⟩
theorem sw_setC {j : Nat} {v : V} {xs : List V} (h : ws[j]? = some (.cel (flC v xs))) (he : EW K ws te fun d w => ∃ z, d = .int z ∧ w = ws ∧ EW K ws ti fun y w2 => ∃ i, y = .int i ∧ w2 = ws ∧ ∃ n, ixN xs.length i = some n ∧ NX K T B (ws.set j (.cel (flC v (xs.set n (.int z))))) D.nx) :
    SW K T B ws (tAsg te (gSub (tVar j) ti rSetL)) D := fun σ I H k => by
  refine he T B σ I H k _ fun x d w I1 H1 p k1 s1 a1 => ?_
  obtain ⟨z, rfl, rfl, p⟩ := p
  obtain ⟨b, rfl, e, hH, _⟩ := k1.flAt h
  refine ⟨_, e, ?_⟩
  refine p T B σ I1 H1 k1 _ fun y dy w2 I2 H2 p2 k2 s2 a2 => ?_
  obtain ⟨i, rfl, rfl, n, hn, p⟩ := p2
  obtain ⟨b', e1, e', hH', up⟩ := k2.flAt h
  cases e1
  obtain rfl := a1.int_inv
  exact ⟨b, xs, i, n, rfl, a2.int_inv, hH', hn, p σ I2 _ (up _)⟩
end
def rngC (v : V) (n : Nat) : Cel := ⟨fun F u I H => ∃ a b c : Int, (0 ≤ a ∧ 0 ≤ b ∧ b < 2305843009213693951 ∧ 0 ≤ c ∧ c ≤ n) ∧ (flC v [.int a, .int b, .int c]).ok F u I H,
  fun F u I I' H H' s e ⟨a, b, c, h, q⟩ => ⟨a, b, c, h, (flC v [.int a, .int b, .int c]).loc F u I I' H H' s e q⟩⟩
theorem rngC_fix {v : V} {n : Nat} : ∀ F u I H, (rngC v n).ok F u I H → u = v := fun _ _ _ _ ⟨_, _, _, _, h, _⟩ => h
theorem rngC_le {v : V} {n m : Nat} (h : n ≤ m) : ∀ F u I H, (rngC v n).ok F u I H → (rngC v m).ok F u I H := fun _ _ _ _ ⟨a, b, c, ⟨h1, h2, h3, h4, h5⟩, q⟩ => ⟨a, b, c, ⟨h1, h2, h3, h4, by omega⟩, q⟩
end DL
namespace DL
open PySem PySem.Spec PyProof.Rows L2
section
variable {K : Frg} {T B : Hp} {ws : List SD} {ta tb te : TE} {ts : TA} {P : PyData → List SD → Prop} {PA : List PyData → List SD → Prop} {D : Ends}
theorem ifd {c A B : Prop} [Decidable c] (h1 : c → A) (h2 : ¬ c → B) : if decide c = true then A else B := by
  by_cases h : c
  · rw [decide_eq_true h, if_pos rfl]
    exact h1 h
  · rw [decide_eq_false h, if_neg Bool.false_ne_true]
    exact h2 h
theorem ifn {c A B : Prop} [Decidable c] (h1 : ¬ c → A) (h2 : c → B) : if (!decide c) = true then A else B := by
  by_cases h : c
  · rw [decide_eq_true h]
    exact h2 h
  · rw [decide_eq_false h]
    exact h1 h
theorem if_yes {c A B : Prop} [Decidable c] (h : c) (a : A) : if decide c = true then A else B := ifd (fun _ => a) fun z => absurd h z
theorem if_no {c A B : Prop} [Decidable c] (h : ¬ c) (a : B) : if decide c = true then A else B := ifd (fun z => absurd z h) fun _ => a
theorem ifn_yes {c A B : Prop} [Decidable c] (h : ¬ c) (a : A) : if (!decide c) = true then A else B := ifn (fun _ => a) fun z => absurd z h
theorem ifn_no {c A B : Prop} [Decidable c] (h : c) (a : B) : if (!decide c) = true then A else B := ifn (fun z => absurd h z) fun _ => a
theorem ifbT {b : Bool} {A B : Prop} (h : b = true) (a : A) : if b = true then A else B := by
  rw [if_pos h]
  exact a
theorem ifbF {b : Bool} {A B : Prop} (h : b = false) (a : B) : if b = true then A else B := by
  rw [h]
  exact a
theorem ifb {b : Bool} {A B : Prop} (h1 : b = true → A) (h2 : b = false → B) : if b = true then A else B := by
  cases b with
  | true => exact h1 rfl
  | false => exact h2 rfl
theorem ifT {A B : Prop} (h : A) : if true = true then A else B := h
theorem ifF {A B : Prop} (h : B) : if false = true then A else B := h
theorem ew_cat (h : EW K ws ta fun x w1 => EW K w1 tb fun y w2 => OF K rCat x y fun d => P (.list d) w2) : EW K ws (tOp rCat ta tb) P := ew_ef (ef_op h)
theorem ew_rep (h : EW K ws ta fun x w1 => EW K w1 tb fun y w2 => OF K rRep x y fun d => P (.list d) w2) : EW K ws (tOp rRep ta tb) P := ew_ef (ef_op h)
theorem ew_lst (h : AW K ws ts fun xs w => xs.length ≤ sizeLine ∧ P (.list xs) w) : EW K ws (tLst ts) P := ew_ef (ef_lst h)
theorem nx_mk {u : TS} {a : V → Hp → Prop} {b c : L2.St → Hp → Prop} (h : SW K T B ws u D) : NX K T B ws (Ends.nx (Ends.mk (u D) a b c)) := h
theorem nx_tn {a : V → Hp → Prop} {b c : L2.St → Hp → Prop} {R : List SD → Prop} (h : R ws) : NX K T B ws (Ends.nx (Ends.mk (Nx K T B R) a b c)) := nx_of h
theorem ct_tn {n : L2.St → Hp → Prop} {a : V → Hp → Prop} {b : L2.St → Hp → Prop} {R : List SD → Prop} (h : R ws) : NX K T B ws (Ends.ct (Ends.mk n a b (Nx K T B R))) := nx_of h
theorem nx_e {n : L2.St → Hp → Prop} {a : V → Hp → Prop} {b c : L2.St → Hp → Prop} (h : NX K T B ws n) : NX K T B ws (Ends.nx (Ends.mk n a b c)) := h
theorem rt_mk {n : L2.St → Hp → Prop} {a : V → Hp → Prop} {b c : L2.St → Hp → Prop} {d : PyData} (h : RT K T B ws d a) : RT K T B ws d (Ends.rt (Ends.mk n a b c)) := h
theorem Ok.vfix {I H : Hp} {c : Cel} {v0 v : V} (k : Ok K T B [.cel c] [some v0] I H) (hv : ∀ F u I H, c.ok F u I H → u = v) : v0 = v := by
  obtain ⟨ft, k⟩ := k
  obtain ⟨u, h1, h2⟩ := k.sl 0 _ rfl
  cases h1
  exact hv _ _ _ _ h2
theorem Ok.drop {I H : Hp} {σ : L2.St} {p p2 : Addr} {o o2 : HO} (k : Ok K (upd (upd T p o) p2 o2) B ws σ I H) (ne : p ≠ p2) (h2 : T p2 = none) (h : T p = none) : Ok K (upd T p2 o2) B ws σ I H := by
  obtain ⟨ft, k⟩ := k
  have le : ∀ b x, (upd T p2 o2) b = some x → (upd (upd T p o) p2 o2) b = some x := fun b x e => by
    by_cases z : b = p2
    · subst z
      rw [upd_same] at e ⊢
      exact e
    · rw [upd_ne z] at e ⊢
      rw [upd_ne (ne_of_none e h)]
      exact e
  refine ⟨ft, k.sub, fun b x e => k.oth b x (le b x e), k.bse, fun b hb => k.ti b ?_, k.len, k.ap, fun i a ha => ?_, k.sl⟩
  · cases e : (upd T p2 o2) b with
    | none => exact absurd e hb
    | some x =>
      rw [le b x e]
      simp
  · obtain ⟨e1, e2, e3⟩ := k.own i a ha
    refine ⟨e1, ?_, e3⟩
    cases e : (upd T p2 o2) a with
    | none => rfl
    | some x =>
      rw [le a x e] at e2
      cases e2
theorem tw_truM {i : Nat} {ds : List PyData} {PB : Bool → List SD → Prop} (hi : ws[i]? = some (.mut ds)) (p : PB (!ds.isEmpty) ws) : TW K ws (fun σ H Q => tVar i σ H fun x H' => ∃ k, TruV K x H' k ∧ Q k H') PB := fun T B σ I H k Q q => by
  obtain ⟨b, xs, e, hH, hI, ha, _⟩ := k.mutAt hi
  refine ⟨.ref b, e, !ds.isEmpty, .inl ⟨xs, .inl (.inl hH), ?_⟩, q _ _ _ _ p k (Same.refl I)⟩
  cases ha <;> rfl
theorem ew_draw {j : Nat} {v : V} {n0 : Nat} {pre : Cel → List PyData → Cel → (PyData → Prop) → Prop} {E : XK}
    (hp : ∀ v n lim, 0 < lim → lim < 2 ^ 200 → n < 2 ^ 60 → pre (rngC v n) [.int lim] (rngC v (n + 1)) fun d => ∃ r, d = .int r ∧ 0 ≤ r ∧ r < lim) (hj : ws[j]? = some (.cel (rngC v n0)))
    (h : AW K ws ts fun ds w => ∃ lim n, ds = [.int lim] ∧ w[j]? = some (.cel (rngC v n)) ∧ 0 < lim ∧ lim < 2 ^ 200 ∧ n < 2 ^ 60 ∧ ∀ r, 0 ≤ r → r < lim → P (.int r) (w.set j (.cel (rngC v (n + 1))))) :
    EW K ws (tCall (SpR K pre) [] E (tCons (tVar j) ts)) P := ew_callR hj (fun T B σ I H k Q q => h T B σ I H k Q fun vs ds w I' H' p => q vs ds w I' H' (by
      obtain ⟨lim, n, rfl, h1, h2, h3, h4, h5⟩ := p
      exact ⟨_, _, _, h1, hp v n lim h2 h3 h4, fun d ⟨r, e, h6, h7⟩ => by rw [e]; exact h5 r h6 h7⟩))
end
end DL
namespace PT
open PySem PySem.Spec PyProof.Rows L2 DL
abbrev S := PySem.Str
inductive Ow where
  | leaf (d : PyData) | hole | lst (ds : List PyData) | list (ts : List Ow) | obj (c : Nat) (ks : List S) (ts : List Ow)
structure Ctx where
  K : Frg
  ca : Nat → Addr
mutual
inductive OwOk (X : Ctx) (I H : Hp) : List Addr → V → Ow → Prop
  | leaf {v : V} {d : PyData} : Da X.K I v d → OwOk X I H [] v (.leaf d)
  | hole {v : V} : OwOk X I H [] v .hole
  | lst {p : Addr} {xs : List V} {ds : List PyData} : H p = some (.lst xs) → DaL X.K I xs ds → OwOk X I H [p] (.ref p) (.lst ds)
  | list {p : Addr} {xs : List V} {ts : List Ow} {F : List Addr} : H p = some (.lst xs) → OwL X I H F xs ts → p ∉ F → OwOk X I H (p :: F) (.ref p) (.list ts)
  | obj {p dx : Addr} {c : Nat} {fs : List (S × V)} {ks : List S} {ts : List Ow} {F : List Addr} : H p = some (.ins (X.ca c) dx fs) → H dx = some (.own p) → fs.map (·.1) = ks → OwL X I H F (fs.map (·.2)) ts → p ∉ F → dx ∉ F → p ≠ dx → OwOk X I H (p :: dx :: F) (.ref p) (.obj c ks ts)
inductive OwL (X : Ctx) (I H : Hp) : List Addr → List V → List Ow → Prop
  | nil : OwL X I H [] [] []
  | cons {v : V} {t : Ow} {vs : List V} {ts : List Ow} {F G : List Addr} : OwOk X I H F v t → OwL X I H G vs ts → (∀ a ∈ F, a ∉ G) → OwL X I H (F ++ G) (v :: vs) (t :: ts)
end
section
variable {X : Ctx} {I I' H H' : Hp}
mutual
theorem OwOk.keep (e : Same I I') : ∀ {F : List Addr} {v : V} {t : Ow}, OwOk X I H F v t → (∀ a ∈ F, H' a = H a) → OwOk X I' H' F v t
  | _, _, _, .leaf d, _ => .leaf (d.mono e)
  | _, _, _, .hole, _ => .hole
  | _, _, _, .lst h d, k => .lst ((k _ List.mem_cons_self).trans h) (d.mono e)
  | _, _, _, .list h r n, k => .list ((k _ List.mem_cons_self).trans h) (OwL.keep e r fun a ha => k a (List.mem_cons_of_mem _ ha)) n
  | _, _, _, .obj h1 h2 h3 r n1 n2 n3, k => .obj ((k _ List.mem_cons_self).trans h1) ((k _ (List.mem_cons_of_mem _ List.mem_cons_self)).trans h2) h3 (OwL.keep e r fun a ha => k a (List.mem_cons_of_mem _ (List.mem_cons_of_mem _ ha))) n1 n2 n3
theorem OwL.keep (e : Same I I') : ∀ {F : List Addr} {vs : List V} {ts : List Ow}, OwL X I H F vs ts → (∀ a ∈ F, H' a = H a) → OwL X I' H' F vs ts
  | _, _, _, .nil, _ => .nil
  | _, _, _, .cons h r d, k => .cons (OwOk.keep e h fun a ha => k a (List.mem_append_left _ ha)) (OwL.keep e r fun a ha => k a (List.mem_append_right _ ha)) d
end
theorem OwL.length : ∀ {F : List Addr} {vs : List V} {ts : List Ow}, OwL X I H F vs ts → vs.length = ts.length
  | _, _, _, .nil => rfl
  | _, _, _, .cons _ r _ => congrArg (· + 1) r.length
theorem OwL.split : ∀ {F : List Addr} {vs : List V} {ts : List Ow} {n : Nat} {t : Ow}, OwL X I H F vs ts → ts[n]? = some t →
    ∃ u F1 F2, vs[n]? = some u ∧ OwOk X I H F2 u t ∧ OwL X I H F1 vs (ts.set n .hole) ∧ (∀ a ∈ F1, a ∉ F2) ∧ ∀ a, a ∈ F ↔ a ∈ F1 ∨ a ∈ F2
  | _, _, _, 0, _, .cons (F := F) (G := G) h r d, e => by
    cases e
    exact ⟨_, [] ++ G, F, rfl, h, .cons .hole r (fun a ha => nomatch ha), fun a ha hf => d a hf ha, fun a => by simp [or_comm]⟩
  | _, _, _, n + 1, _, .cons (F := F) (G := G) h r d, e => by
    obtain ⟨u, F1, F2, h1, h2, h3, h4, h5⟩ := OwL.split (n := n) r (by simpa using e)
    refine ⟨u, F ++ F1, F2, by simpa using h1, h2, .cons h h3 fun a ha hf => d a ha ((h5 a).2 (.inl hf)), fun a ha hf => ?_, fun a => ?_⟩
    · rcases List.mem_append.mp ha with z | z
      · exact d a z ((h5 a).2 (.inr hf))
      · exact h4 a z hf
    · simp only [List.mem_append, h5 a, or_assoc]
theorem OwL.join : ∀ {F1 F2 : List Addr} {vs : List V} {ts : List Ow} {n : Nat} {u : V} {t : Ow}, OwL X I H F1 vs ts → vs[n]? = some u → ts[n]? = some .hole → OwOk X I H F2 u t → (∀ a ∈ F1, a ∉ F2) →
    ∃ F, OwL X I H F vs (ts.set n t) ∧ ∀ a, a ∈ F ↔ a ∈ F1 ∨ a ∈ F2
  | _, _, _, _, 0, _, _, .cons (F := F) (G := G) h r d, e1, e2, h2, dj => by
    cases e1
    cases e2
    cases h with
    | hole => exact ⟨_, .cons h2 r fun a ha hg => dj a (List.mem_append_right _ hg) ha, fun a => by simp [or_comm]⟩
  | _, F2, _, _, n + 1, _, _, .cons (F := F) (G := G) h r d, e1, e2, h2, dj => by
    obtain ⟨F3, h3, h4⟩ := OwL.join (n := n) r (by simpa using e1) (by simpa using e2) h2 fun a ha => dj a (List.mem_append_right _ ha)
    refine ⟨F ++ F3, .cons h h3 fun a ha hg => ?_, fun a => ?_⟩
    · rcases (h4 a).1 hg with z | z
      · exact d a ha z
      · exact dj a (List.mem_append_left _ ha) z
    · simp only [List.mem_append, h4 a, or_assoc]
theorem OwL.snoc : ∀ {F G : List Addr} {vs : List V} {ts : List Ow} {u : V} {t : Ow}, OwL X I H F vs ts → OwOk X I H G u t → (∀ a ∈ F, a ∉ G) → ∃ J, OwL X I H J (vs ++ [u]) (ts ++ [t]) ∧ ∀ a, a ∈ J ↔ a ∈ F ∨ a ∈ G
  | _, G, _, _, _, _, .nil, h, _ => ⟨G ++ [], .cons h .nil (fun _ _ h => nomatch h), fun a => by simp⟩
  | _, G, _, _, _, _, .cons (F := F) (G := G') h0 r d, h, dj => by
    obtain ⟨J, h1, h2⟩ := OwL.snoc r h fun a ha => dj a (List.mem_append_right _ ha)
    refine ⟨F ++ J, .cons h0 h1 fun a ha hj => ?_, fun a => by simp only [List.mem_append, h2 a, or_assoc]⟩
    rcases (h2 a).1 hj with z | z
    · exact d a ha z
    · exact dj a (List.mem_append_left _ ha) z
theorem OwL.leaves : ∀ {vs : List V} {ds : List PyData}, DaL X.K I vs ds → OwL X I H [] vs (ds.map .leaf)
  | _, _, .nil => .nil
  | _, _, .cons h r => OwL.cons (F := []) (G := []) (.leaf h) (OwL.leaves r) (fun _ h => nomatch h)
end
inductive Step where
  | fld (c : Nat) (k : S) | ix (j : Int)
def Ow.child : Ow → Step → Option Nat
  | .obj c' ks _, .fld c k => if c' = c then ks.idxOf? k else none
  | .list ts, .ix j => ixN ts.length j
  | _, _ => none
def Ow.kids : Ow → List Ow
  | .list ts => ts
  | .obj _ _ ts => ts
  | _ => []
def Ow.setKid : Ow → Nat → Ow → Ow
  | .list ts, n, t => .list (ts.set n t)
  | .obj c ks ts, n, t => .obj c ks (ts.set n t)
  | t, _, _ => t
def Ow.sub : Ow → List Step → Option Ow
  | t, [] => some t
  | t, s :: ss => (t.child s).bind fun n => (t.kids[n]?).bind fun k => k.sub ss
def Ow.put : Ow → List Step → Ow → Ow
  | _, [], t' => t'
  | t, s :: ss, t' => match t.child s with
    | some n => match t.kids[n]? with
      | some k => t.setKid n (k.put ss t')
      | none => t
    | none => t
inductive Walk (X : Ctx) (H : Hp) : V → List Step → V → Prop
  | nil {v : V} : Walk X H v [] v
  | fld {a dx : Addr} {c : Nat} {fs : List (S × V)} {k : S} {u w : V} {ss : List Step} : H a = some (.ins (X.ca c) dx fs) → fs.lookup k = some u → Walk X H u ss w → Walk X H (.ref a) (.fld c k :: ss) w
  | ix {a : Addr} {xs : List V} {j : Int} {u w : V} {ss : List Step} : H a = some (.lst xs) → atI xs j = some u → Walk X H u ss w → Walk X H (.ref a) (.ix j :: ss) w
theorem lookup_idx : ∀ {fs : List (S × V)} {k : S} {n : Nat}, (fs.map (·.1)).idxOf? k = some n → ∃ u, (fs.map (·.2))[n]? = some u ∧ fs.lookup k = some u
  | [], k, n, h => by simp at h
  | (k0, u0) :: fs, k, n, h => by
    rw [List.map_cons, List.idxOf?_cons] at h
    by_cases e : k0 = k
    · subst e
      simp at h
      subst h
      exact ⟨u0, rfl, by simp [List.lookup]⟩
    · have e1 : (k0 == k) = false := by simpa using e
      have e2 : (k == k0) = false := by simpa using fun z : k = k0 => e z.symm
      rw [e1] at h
      simp only [Bool.false_eq_true, if_false] at h
      cases h2 : (fs.map (·.1)).idxOf? k with
      | none => rw [h2] at h; cases h
      | some m =>
        rw [h2] at h
        cases h
        obtain ⟨u, h3, h4⟩ := lookup_idx h2
        exact ⟨u, by simpa using h3, by simp [List.lookup, e2, h4]⟩
section
variable {X : Ctx} {I I' H H' : Hp}
theorem OwOk.step {F : List Addr} {v : V} {t k : Ow} {s : Step} {n : Nat} (h : OwOk X I H F v t) (h1 : t.child s = some n) (h2 : t.kids[n]? = some k) :
    ∃ u F1 F2, OwOk X I H F2 u k ∧ OwOk X I H F1 v (t.setKid n .hole) ∧ (∀ a ∈ F1, a ∉ F2) ∧ (∀ a, a ∈ F ↔ a ∈ F1 ∨ a ∈ F2) ∧ (∀ ss w, Walk X H u ss w → Walk X H v (s :: ss) w) ∧
      ∀ I' H' k' F2', Same I I' → (∀ a ∈ F1, H' a = H a) → OwOk X I' H' F2' u k' → (∀ a ∈ F1, a ∉ F2') → ∃ F', OwOk X I' H' F' v (t.setKid n k') ∧ ∀ a, a ∈ F' ↔ a ∈ F1 ∨ a ∈ F2' := by
  cases h with
  | leaf d => cases s <;> cases h1
  | hole => cases s <;> cases h1
  | lst a b => cases s <;> cases h1
  | @list p xs ts F hp r nn =>
    cases s with
    | fld c k => cases h1
    | ix j =>
      have h1 : ixN ts.length j = some n := h1
      obtain ⟨u, F1, F2, g1, g2, g3, g4, g5⟩ := r.split h2
      have np : ∀ a, a = p → a ∉ F1 ∧ a ∉ F2 := fun a e => ⟨fun z => nn (e ▸ (g5 a).2 (.inl z)), fun z => nn (e ▸ (g5 a).2 (.inr z))⟩
      refine ⟨u, p :: F1, F2, g2, .list hp g3 (np p rfl).1, fun a ha hf => ?_, fun a => ?_, fun ss w hw => .ix hp ?_ hw, fun I' H' k' F2' e hk ho dj => ?_⟩
      · rcases List.mem_cons.mp ha with z | z
        · exact (np a z).2 hf
        · exact g4 a z hf
      · simp only [List.mem_cons, g5 a, or_assoc]
      · unfold atI
        rw [r.length, h1]
        exact g1
      · have hl : n < ts.length := (List.getElem?_eq_some_iff.mp h2).1
        obtain ⟨F3, q1, q2⟩ := (g3.keep e fun a ha => hk a (List.mem_cons_of_mem _ ha)).join g1 (by rw [List.getElem?_set, if_pos rfl, if_pos hl]) ho fun a ha => dj a (List.mem_cons_of_mem _ ha)
        rw [List.set_set] at q1
        refine ⟨p :: F3, .list ((hk p List.mem_cons_self).trans hp) q1 fun z => ?_, fun a => by simp only [List.mem_cons, q2 a, or_assoc]⟩
        rcases (q2 p).1 z with z | z
        · exact (np p rfl).1 z
        · exact dj p List.mem_cons_self z
  | @obj p dx c fs ks ts F hp hd hk r n1 n2 n3 =>
    cases s with
    | ix j => cases h1
    | fld c' k =>
      have h1 : (if c = c' then ks.idxOf? k else none) = some n := h1
      by_cases ec : c = c'
      · subst ec
        rw [if_pos rfl] at h1
        subst hk
        obtain ⟨u, F1, F2, g1, g2, g3, g4, g5⟩ := r.split h2
        obtain ⟨u', l1, l2⟩ := lookup_idx h1
        rw [g1] at l1
        cases l1
        have out : ∀ a, a ∉ F → a ∉ F1 ∧ a ∉ F2 := fun a e => ⟨fun z => e ((g5 a).2 (.inl z)), fun z => e ((g5 a).2 (.inr z))⟩
        refine ⟨u, p :: dx :: F1, F2, g2, .obj hp hd rfl g3 (out p n1).1 (out dx n2).1 n3, fun a ha hf => ?_, fun a => ?_, fun ss w hw => .fld hp l2 hw, fun I' H' k' F2' e hk ho dj => ?_⟩
        · rcases List.mem_cons.mp ha with z | z
          · exact (out p n1).2 (z ▸ hf)
          · rcases List.mem_cons.mp z with z | z
            · exact (out dx n2).2 (z ▸ hf)
            · exact g4 a z hf
        · simp only [List.mem_cons, g5 a, or_assoc]
        · have hl : n < ts.length := (List.getElem?_eq_some_iff.mp h2).1
          obtain ⟨F3, q1, q2⟩ := (g3.keep e fun a ha => hk a (List.mem_cons_of_mem _ (List.mem_cons_of_mem _ ha))).join g1 (by rw [List.getElem?_set, if_pos rfl, if_pos hl]) ho fun a ha => dj a (List.mem_cons_of_mem _ (List.mem_cons_of_mem _ ha))
          rw [List.set_set] at q1
          refine ⟨p :: dx :: F3, .obj ((hk p List.mem_cons_self).trans hp) ((hk dx (List.mem_cons_of_mem _ List.mem_cons_self)).trans hd) rfl q1 (fun z => ?_) (fun z => ?_) n3, fun a => by simp only [List.mem_cons, q2 a, or_assoc]⟩
          · rcases (q2 p).1 z with z | z
            · exact (out p n1).1 z
            · exact dj p List.mem_cons_self z
          · rcases (q2 dx).1 z with z | z
            · exact (out dx n2).1 z
            · exact dj dx (List.mem_cons_of_mem _ List.mem_cons_self) z
      · rw [if_neg ec] at h1
        cases h1
theorem OwOk.lend : ∀ {ss : List Step} {F : List Addr} {v : V} {t k : Ow}, OwOk X I H F v t → t.sub ss = some k →
    ∃ (u : V) (F1 F2 : List Addr), OwOk X I H F2 u k ∧ Walk X H v ss u ∧ (∀ a ∈ F1, a ∉ F2) ∧ (∀ a, a ∈ F ↔ a ∈ F1 ∨ a ∈ F2) ∧
      ∀ (I' H' : Hp) (k' : Ow) (F2' : List Addr), Same I I' → (∀ a ∈ F1, H' a = H a) → OwOk X I' H' F2' u k' → (∀ a ∈ F1, a ∉ F2') → ∃ F', OwOk X I' H' F' v (t.put ss k') ∧ ∀ a, a ∈ F' ↔ a ∈ F1 ∨ a ∈ F2'
  | [], F, v, t, k, h, e => by
    cases e
    exact ⟨v, [], F, h, .nil, (fun _ z => nomatch z), fun a => by simp, fun I' H' k' F2' _ _ ho _ => ⟨F2', ho, fun a => by simp⟩⟩
  | s :: ss, F, v, t, k, h, e => by
    have e : ((t.child s).bind fun n => (t.kids[n]?).bind fun k => k.sub ss) = some k := e
    cases h1 : t.child s with
    | none => rw [h1] at e; cases e
    | some n =>
      rw [h1] at e
      have e : ((t.kids[n]?).bind fun k => k.sub ss) = some k := e
      cases h2 : t.kids[n]? with
      | none => rw [h2] at e; cases e
      | some m =>
        rw [h2] at e
        have e : m.sub ss = some k := e
        obtain ⟨u, F1, F2, g1, g2, g3, g4, g5, g6⟩ := h.step h1 h2
        obtain ⟨u', G1, G2, k1, k2, k3, k4, k5⟩ := OwOk.lend (ss := ss) g1 e
        have pe : ∀ k', t.put (s :: ss) k' = t.setKid n (m.put ss k') := fun k' => by
          show (match t.child s with
            | some n => match t.kids[n]? with
              | some k => t.setKid n (k.put ss k')
              | none => t
            | none => t) = _
          rw [h1]
          show (match t.kids[n]? with
              | some k => t.setKid n (k.put ss k')
              | none => t) = _
          rw [h2]
        refine ⟨u', F1 ++ G1, G2, k1, g5 ss u' k2, fun a ha hg => ?_, fun a => ?_, fun I' H' k' F2' e1 e2 ho dj => ?_⟩
        · rcases List.mem_append.mp ha with z | z
          · exact g3 a z ((k4 a).2 (.inr hg))
          · exact k3 a z hg
        · simp only [List.mem_append, g4 a, k4 a, or_assoc]
        · obtain ⟨J, j1, j2⟩ := k5 I' H' k' F2' e1 (fun a ha => e2 a (List.mem_append_right _ ha)) ho fun a ha => dj a (List.mem_append_right _ ha)
          obtain ⟨J', j3, j4⟩ := g6 I' H' _ J e1 (fun a ha => e2 a (List.mem_append_left _ ha)) j1 fun a ha hj => by
            rcases (j2 a).1 hj with z | z
            · exact g3 a ha ((k4 a).2 (.inl z))
            · exact dj a (List.mem_append_left _ ha) z
          exact ⟨J', by rw [pe]; exact j3, fun a => by simp only [List.mem_append, j4 a, j2 a, or_assoc]⟩
end
end PT
namespace PT
open PySem PySem.Spec PyProof.Rows L2 DL
inductive Sx where
  | un | dat (d : PyData) | own (t : Ow) | par (k : Nat) (t : Ow) | scr (ns : List Int)
abbrev En := List Sx
def owC (X : Ctx) (t : Ow) : Cel := ⟨fun F v I H => OwOk X I H F v t, fun F v I I' H H' s e h => h.keep s e⟩
def paC (X : Ctx) (z : Nat → V) (k : Nat) (t : Ow) : Cel := ⟨fun F v I H => v = z k ∧ OwOk X I H F v t, fun F v I I' H H' s e h => ⟨h.1, h.2.keep s e⟩⟩
def sd (X : Ctx) (z : Nat → V) : Sx → SD
  | .un => .un | .dat d => .dat d | .own t => .cel (owC X t) | .par k t => .cel (paC X z k t) | .scr ns => .scr ns
abbrev sds (X : Ctx) (z : Nat → V) (e : En) : List SD := e.map (sd X z)
theorem sds_set {X : Ctx} {z : Nat → V} {e : En} {i : Nat} {x : Sx} : sds X z (e.set i x) = (sds X z e).set i (sd X z x) := List.map_set
theorem sds_get {X : Ctx} {z : Nat → V} {e : En} {i : Nat} {x : Sx} (h : e[i]? = some x) : (sds X z e)[i]? = some (sd X z x) := by rw [List.getElem?_map, h]; rfl
section
variable {K : Frg} {T B I I' H H' : Hp} {ws us : List SD} {w : SD} {σ τ : L2.St} {ft : Nat → List Addr} {v : V} {F : List Addr}
theorem get_app {α : Type} {xs : List α} {x y : α} {j : Nat} (h : (xs ++ [x])[j]? = some y) : (j < xs.length ∧ xs[j]? = some y) ∨ (j = xs.length ∧ y = x) := by
  by_cases q : j < xs.length
  · rw [List.getElem?_append_left q] at h
    exact .inl ⟨q, h⟩
  · rw [List.getElem?_append_right (by omega)] at h
    have z : j = xs.length := by
      have := (List.getElem?_eq_some_iff.mp h).1
      simp at this
      omega
    subst z
    simp at h
    exact .inr ⟨rfl, h.symm⟩
theorem _root_.DL.Ok1.app (k : Ok1 K T B ft ws σ I H) (hF : ∀ a ∈ F, (I a = none ∧ T a = none ∧ H a ≠ none) ∧ ∀ i, i < ws.length → a ∉ ft i) (hw : Sl K I H F (some v) w) :
    Ok1 K T B (fun i => if i < ws.length then ft i else if i = ws.length then F else []) (ws ++ [w]) (σ ++ [some v]) I H := by
  refine ⟨k.sub, k.oth, k.bse, k.ti, by simp [k.len], fun i j a ha hb => ?_, fun i a ha => ?_, fun i x hx => ?_⟩
  · have ha : a ∈ if i < ws.length then ft i else if i = ws.length then F else [] := ha
    have hb : a ∈ if j < ws.length then ft j else if j = ws.length then F else [] := hb
    split at ha
    · split at hb
      · exact k.ap i j a ha hb
      · split at hb
        · exact absurd ha ((hF a hb).2 i ‹_›)
        · cases hb
    · split at ha
      · split at hb
        · exact absurd hb ((hF a ha).2 j ‹_›)
        · split at hb
          · omega
          · cases hb
      · cases ha
  · have ha : a ∈ if i < ws.length then ft i else if i = ws.length then F else [] := ha
    split at ha
    · exact k.own i a ha
    · split at ha
      · exact (hF a ha).1
      · cases ha
  · show Sl K I H (if i < ws.length then ft i else if i = ws.length then F else []) _ x
    rcases get_app hx with ⟨q, hx⟩ | ⟨q, rfl⟩
    · rw [if_pos q, List.getElem?_append_left (by rw [k.len]; exact q)]
      exact k.sl i x hx
    · subst q
      rw [if_neg (Nat.lt_irrefl _), if_pos rfl, List.getElem?_append_right (by rw [k.len]; exact Nat.le_refl _), k.len, Nat.sub_self]
      exact hw
theorem _root_.DL.Ok.appD {d : PyData} (k : Ok K T B ws σ I H) (h : Da K I v d) : Ok K T B (ws ++ [.dat d]) (σ ++ [some v]) I H := k.elim fun _ k => ⟨_, k.app (F := []) (fun _ h => nomatch h) ⟨v, rfl, h⟩⟩
theorem _root_.DL.Ok.chop (k : Ok K T B (ws ++ [w]) (σ ++ [some v]) I H) : Ok K T B ws σ I H := by
  obtain ⟨ft, k⟩ := k
  have hl : σ.length = ws.length := by have := k.len; simp at this; exact this
  refine ⟨fun i => if i < ws.length then ft i else [], k.sub, k.oth, k.bse, k.ti, hl, fun i j a ha hb => ?_, fun i a ha => ?_, fun i x hx => ?_⟩
  · have ha : a ∈ if i < ws.length then ft i else [] := ha
    have hb : a ∈ if j < ws.length then ft j else [] := hb
    split at ha
    · split at hb
      · exact k.ap i j a ha hb
      · cases hb
    · cases ha
  · have ha : a ∈ if i < ws.length then ft i else [] := ha
    split at ha
    · exact k.own i a ha
    · cases ha
  · have q : i < ws.length := (List.getElem?_eq_some_iff.mp hx).1
    show Sl K I H (if i < ws.length then ft i else []) _ x
    rw [if_pos q]
    have := k.sl i x (by rw [List.getElem?_append_left q]; exact hx)
    rw [List.getElem?_append_left (by rw [hl]; exact q)] at this
    exact this
theorem _root_.DL.Ok.move {i : Nat} (k : Ok K T B ws σ I H) (h : ws[i]? = some w) (hv : σ[i]? = some (some v)) : Ok K T B (ws.set i .un ++ [w]) (σ ++ [some v]) I H := by
  obtain ⟨ft, k⟩ := k
  have hi : i < ws.length := (List.getElem?_eq_some_iff.mp h).1
  have k0 : Ok1 K T B (fun j => if j = i then [] else ft j) (ws.set i .un) σ I H := by
    refine ⟨k.sub, k.oth, k.bse, k.ti, by rw [List.length_set]; exact k.len, fun a b c ha hb => ?_, fun a c ha => ?_, fun j x hx => ?_⟩
    · have ha : c ∈ if a = i then [] else ft a := ha
      have hb : c ∈ if b = i then [] else ft b := hb
      split at ha
      · cases ha
      · split at hb
        · cases hb
        · exact k.ap a b c ha hb
    · have ha : c ∈ if a = i then [] else ft a := ha
      split at ha
      · cases ha
      · exact k.own a c ha
    · rcases set_get hx with ⟨q, rfl⟩ | ⟨q, hx⟩
      · trivial
      · show Sl K I H (if j = i then [] else ft j) _ x
        rw [if_neg fun z => q z.symm]
        exact k.sl j x hx
  refine ⟨_, k0.app (F := ft i) (fun a ha => ⟨k.own i a ha, fun j _ hj => ?_⟩) ?_⟩
  · have hj : a ∈ if j = i then [] else ft j := hj
    split at hj
    · cases hj
    · rename_i z
      exact z (k.ap j i a hj ha)
  · have := k.sl i w h
    rw [hv] at this
    exact this
theorem _root_.DL.Ok.unmove {i : Nat} (k : Ok K T B (ws ++ [w]) (σ ++ [some v]) I H) (hi : i < ws.length) : Ok K T B (ws.set i w) (σ.set i (some v)) I H := by
  obtain ⟨ft, k⟩ := k
  have hl : σ.length = ws.length := by have := k.len; simp at this; exact this
  refine ⟨fun j => if j = i then ft ws.length else if j < ws.length then ft j else [], k.sub, k.oth, k.bse, k.ti, by rw [List.length_set, List.length_set]; exact hl, fun x y a ha hb => ?_, fun x a ha => ?_, fun j x hx => ?_⟩
  · have ha : a ∈ if x = i then ft ws.length else if x < ws.length then ft x else [] := ha
    have hb : a ∈ if y = i then ft ws.length else if y < ws.length then ft y else [] := hb
    split at ha
    · split at hb
      · omega
      · split at hb
        · have := k.ap _ _ a ha hb
          omega
        · cases hb
    · split at ha
      · split at hb
        · have := k.ap _ _ a ha hb
          omega
        · split at hb
          · exact k.ap x y a ha hb
          · cases hb
      · cases ha
  · have ha : a ∈ if x = i then ft ws.length else if x < ws.length then ft x else [] := ha
    split at ha
    · exact k.own _ a ha
    · split at ha
      · exact k.own x a ha
      · cases ha
  · show Sl K I H (if j = i then ft ws.length else if j < ws.length then ft j else []) _ x
    rcases set_get hx with ⟨q, rfl⟩ | ⟨q, hx⟩
    · subst q
      rw [if_pos rfl, join_set (by rw [hl]; exact hi), if_pos rfl]
      have := k.sl ws.length x (by rw [List.getElem?_append_right (Nat.le_refl _), Nat.sub_self]; rfl)
      rw [List.getElem?_append_right (by omega), hl, Nat.sub_self] at this
      exact this
    · have hj : j < ws.length := (List.getElem?_eq_some_iff.mp hx).1
      rw [if_neg (fun z => q z.symm), if_pos hj, List.getElem?_set_ne q]
      have := k.sl j x (by rw [List.getElem?_append_left hj]; exact hx)
      rw [List.getElem?_append_left (by omega)] at this
      exact this
theorem set_self {α : Type} : ∀ {xs : List α} {i : Nat} {x : α}, xs[i]? = some x → xs.set i x = xs
  | [], _, _, h => by cases h
  | _ :: _, 0, _, h => by cases h; rfl
  | y :: xs, i + 1, _, h => congrArg (y :: ·) (set_self (i := i) h)
theorem _root_.DL.Ok.unmove' {i : Nat} (k : Ok K T B (ws ++ [w]) (σ ++ [some v]) I H) (hi : i < ws.length) (hv : σ[i]? = some (some v)) : Ok K T B (ws.set i w) σ I H := by
  have := k.unmove hi
  rwa [set_self hv] at this
def addF (T H : Hp) (F : List Addr) : Hp := fun b => if b ∈ F then H b else T b
theorem addF_in {b : Addr} (h : b ∈ F) : addF T H F b = H b := if_pos h
theorem addF_out {b : Addr} (h : b ∉ F) : addF T H F b = T b := if_neg h
theorem _root_.DL.Ok.park (k : Ok K T B (ws ++ [w]) (σ ++ [some v]) I H) : ∃ T', Ok K T' B ws σ I H ∧ (∀ b, T' b = none → T b = none) ∧
    ∀ ws' σ' B' I' H', Ok K T' B' ws' σ' I' H' → Same I I' → Ok K T B' (ws' ++ [w]) (σ' ++ [some v]) I' H' := by
  obtain ⟨ft, k⟩ := k
  have hl : σ.length = ws.length := by have := k.len; simp at this; exact this
  have hF : ∀ a ∈ ft ws.length, I a = none ∧ T a = none ∧ H a ≠ none := fun a ha => k.own _ a ha
  have tle : ∀ b, T b ≠ none → b ∉ ft ws.length := fun b hb z => hb (hF b z).2.1
  have hsl := k.sl ws.length w (by rw [List.getElem?_append_right (Nat.le_refl _), Nat.sub_self]; rfl)
  rw [List.getElem?_append_right (by omega), hl, Nat.sub_self] at hsl
  refine ⟨addF T H (ft ws.length), ⟨fun j => if j < ws.length then ft j else [], k.sub, fun b x e => ?_, k.bse, fun b hb => ?_, hl, fun i j a ha hb => ?_, fun i a ha => ?_, fun i x hx => ?_⟩, fun b hb => ?_, fun ws' σ' B' I' H' k' s => ?_⟩
  · by_cases z : b ∈ ft ws.length
    · rw [addF_in z] at e
      exact e
    · rw [addF_out z] at e
      exact k.oth b x e
  · by_cases z : b ∈ ft ws.length
    · exact (hF b z).1
    · rw [addF_out z] at hb
      exact k.ti b hb
  · have ha : a ∈ if i < ws.length then ft i else [] := ha
    have hb : a ∈ if j < ws.length then ft j else [] := hb
    split at ha
    · split at hb
      · exact k.ap i j a ha hb
      · cases hb
    · cases ha
  · have ha : a ∈ if i < ws.length then ft i else [] := ha
    split at ha
    · rename_i hi
      obtain ⟨h1, h2, h3⟩ := k.own i a ha
      refine ⟨h1, ?_, h3⟩
      rw [addF_out fun z => Nat.ne_of_lt hi (k.ap i _ a ha z)]
      exact h2
    · cases ha
  · have q : i < ws.length := (List.getElem?_eq_some_iff.mp hx).1
    show Sl K I H (if i < ws.length then ft i else []) _ x
    rw [if_pos q]
    have := k.sl i x (by rw [List.getElem?_append_left q]; exact hx)
    rw [List.getElem?_append_left (by rw [hl]; exact q)] at this
    exact this
  · by_cases z : b ∈ ft ws.length
    · exact (hF b z).2.1
    · rw [addF_out z] at hb
      exact hb
  · obtain ⟨ft', k'⟩ := k'
    have keep : ∀ a ∈ ft ws.length, H' a = H a ∧ I' a = none := fun a ha => by
      have hn := (hF a ha).2.2
      refine ⟨?_, k'.ti a (by rw [addF_in ha]; exact hn)⟩
      cases q : H a with
      | none => exact absurd q hn
      | some x => exact k'.oth a x (by rw [addF_in ha, q])
    have k2 : Ok1 K T B' (fun j => if j < ws'.length then ft' j else []) ws' σ' I' H' := by
      refine ⟨k'.sub, fun b x e => k'.oth b x ?_, k'.bse, fun b hb => k'.ti b ?_, k'.len, fun i j a ha hb => ?_, fun i a ha => ?_, fun i x hx => ?_⟩
      · rw [addF_out (tle b (by rw [e]; simp))]
        exact e
      · rw [addF_out (tle b hb)]
        exact hb
      · have ha : a ∈ if i < ws'.length then ft' i else [] := ha
        have hb : a ∈ if j < ws'.length then ft' j else [] := hb
        split at ha
        · split at hb
          · exact k'.ap i j a ha hb
          · cases hb
        · cases ha
      · have ha : a ∈ if i < ws'.length then ft' i else [] := ha
        split at ha
        · obtain ⟨h1, h2, h3⟩ := k'.own i a ha
          refine ⟨h1, ?_, h3⟩
          by_cases z : a ∈ ft ws.length
          · exact (hF a z).2.1
          · rw [addF_out z] at h2
            exact h2
        · cases ha
      · show Sl K I' H' (if i < ws'.length then ft' i else []) _ x
        rw [if_pos (List.getElem?_eq_some_iff.mp hx).1]
        exact k'.sl i x hx
    refine ⟨_, k2.app (F := ft ws.length) (fun a ha => ⟨⟨(keep a ha).2, (hF a ha).2.1, by rw [(keep a ha).1]; exact (hF a ha).2.2⟩, fun i hi hm => ?_⟩) (hsl.keep s fun a ha => (keep a ha).1)⟩
    have hm : a ∈ if i < ws'.length then ft' i else [] := hm
    rw [if_pos hi] at hm
    have := (k'.own i a hm).2.1
    rw [addF_in ha] at this
    exact (hF a ha).2.2 this
end
end PT
namespace PT
open PySem PySem.Spec PyProof.Rows L2 DL
section
variable {K : Frg} {T B I I' H H' : Hp} {ws us : List SD} {w : SD} {σ τ : L2.St} {ft : Nat → List Addr} {v : V} {F : List Addr}
open Classical in
noncomputable def addP (T H : Hp) (P : Addr → Prop) : Hp := fun b => if P b then H b else T b
theorem addP_in {P : Addr → Prop} {b : Addr} (h : P b) : addP T H P b = H b := if_pos h
theorem addP_out {P : Addr → Prop} {b : Addr} (h : ¬ P b) : addP T H P b = T b := if_neg h
theorem _root_.DL.Ok1.view (k : Ok1 K T B ft ws σ I H) (P : Addr → Prop) (hP : ∀ b, P b → I b = none ∧ T b = none ∧ H b ≠ none) (gt : Nat → List Addr) (hg : ∀ j a, a ∈ gt j → ¬ P a ∧ I a = none ∧ T a = none ∧ H a ≠ none)
    (ap : ∀ i j a, a ∈ gt i → a ∈ gt j → i = j) (hl : τ.length = us.length) (sl : ∀ i w, us[i]? = some w → Sl K I H (gt i) (τ[i]?.join) w) :
    Ok1 K (addP T H P) I gt us τ I H ∧ ∀ (ft' : Nat → List Addr) (us' : List SD) (τ' : L2.St) (I' H' : Hp), Ok1 K (addP T H P) I ft' us' τ' I' H' →
      Same I I' ∧ Same I' H' ∧ Same T H' ∧ (∀ b, T b ≠ none → I' b = none) ∧ (∀ b, P b → H' b = H b ∧ I' b = none) ∧ ∀ j a, a ∈ ft' j → I' a = none ∧ T a = none ∧ H' a ≠ none ∧ ¬ P a := by
  refine ⟨⟨k.sub, fun b x e => ?_, Same.refl I, fun b hb => ?_, hl, ap, fun i a ha => ?_, sl⟩, fun ft' us' τ' I' H' k' => ⟨k'.bse, k'.sub, fun b x e => k'.oth b x ?_, fun b hb => k'.ti b ?_, fun b hb => ?_, fun j a ha => ?_⟩⟩
  · by_cases z : P b
    · rw [addP_in z] at e
      exact e
    · rw [addP_out z] at e
      exact k.oth b x e
  · by_cases z : P b
    · exact (hP b z).1
    · rw [addP_out z] at hb
      exact k.ti b hb
  · obtain ⟨h1, h2, h3, h4⟩ := hg i a ha
    exact ⟨h2, by rw [addP_out h1]; exact h3, h4⟩
  · rw [addP_out fun z => by rw [(hP b z).2.1] at e; cases e]
    exact e
  · rw [addP_out fun z => hb (hP b z).2.1]
    exact hb
  · have hn := (hP b hb).2.2
    refine ⟨?_, k'.ti b (by rw [addP_in hb]; exact hn)⟩
    cases q : H b with
    | none => exact absurd q hn
    | some x => exact k'.oth b x (by rw [addP_in hb, q])
  · obtain ⟨h1, h2, h3⟩ := k'.own j a ha
    have np : ¬ P a := fun z => by
      rw [addP_in z] at h2
      exact (hP a z).2.2 h2
    rw [addP_out np] at h2
    exact ⟨h1, h2, h3, np⟩
theorem _root_.DL.Ok.lease (k : Ok K T B (ws ++ us) (σ ++ τ) I H) (hn : σ.length = ws.length) : ∃ T', Ok K T' I us τ I H ∧ ∀ us' τ' I' H', Ok K T' I us' τ' I' H' → Ok K T B (ws ++ us') (σ ++ τ') I' H' := by
  obtain ⟨ft, k⟩ := k
  have hl : τ.length = us.length := by have := k.len; simp at this; omega
  obtain ⟨k1, k2⟩ := k.view (fun b => ∃ j, j < ws.length ∧ b ∈ ft j) (fun b ⟨j, _, hj⟩ => k.own j b hj) (fun j => ft (ws.length + j)) (τ := τ) (us := us) (fun j a ha => ⟨fun ⟨i, hi, hj⟩ => by have := k.ap i _ a hj ha; omega, k.own _ a ha⟩)
    (fun i j a ha hb => by have := k.ap _ _ a ha hb; omega) hl (fun i w hw => by
      have := k.sl (ws.length + i) w (by rw [List.getElem?_append_right (by omega), Nat.add_sub_cancel_left]; exact hw)
      rw [List.getElem?_append_right (by omega), hn, Nat.add_sub_cancel_left] at this
      exact this)
  refine ⟨_, ⟨_, k1⟩, fun us' τ' I' H' ⟨ft', k'⟩ => ?_⟩
  obtain ⟨s1, s2, s3, s4, s5, s6⟩ := k2 ft' us' τ' I' H' k'
  refine ⟨fun j => if j < ws.length then ft j else ft' (j - ws.length), s2, s3, fun b x e => s1 b x (k.bse b x e), s4, by simp [hn, k'.len], fun i j a ha hb => ?_, fun i a ha => ?_, fun i x hx => ?_⟩
  · have ha : a ∈ if i < ws.length then ft i else ft' (i - ws.length) := ha
    have hb : a ∈ if j < ws.length then ft j else ft' (j - ws.length) := hb
    split at ha
    · split at hb
      · exact k.ap i j a ha hb
      · exact absurd ⟨i, ‹_›, ha⟩ (s6 _ a hb).2.2.2
    · split at hb
      · exact absurd ⟨j, ‹_›, hb⟩ (s6 _ a ha).2.2.2
      · have := k'.ap _ _ a ha hb
        omega
  · have ha : a ∈ if i < ws.length then ft i else ft' (i - ws.length) := ha
    split at ha
    · obtain ⟨h1, h2, h3⟩ := k.own i a ha
      obtain ⟨g1, g2⟩ := s5 a ⟨i, ‹_›, ha⟩
      exact ⟨g2, h2, by rw [g1]; exact h3⟩
    · obtain ⟨h1, h2, h3, _⟩ := s6 _ a ha
      exact ⟨h1, h2, h3⟩
  · show Sl K I' H' (if i < ws.length then ft i else ft' (i - ws.length)) _ x
    by_cases q : i < ws.length
    · rw [if_pos q]
      rw [List.getElem?_append_left q] at hx
      have := k.sl i x (by rw [List.getElem?_append_left q]; exact hx)
      rw [List.getElem?_append_left (by omega)] at this ⊢
      exact this.keep s1 fun a ha => (s5 a ⟨i, q, ha⟩).1
    · rw [if_neg q]
      rw [List.getElem?_append_right (by omega)] at hx
      rw [List.getElem?_append_right (by omega), hn]
      exact k'.sl _ x hx
theorem _root_.DL.Ok1.write2 {i : Nat} {u : SD} {w' : SD} {F' : List Addr} (k : Ok1 K T B ft (ws ++ [u]) (σ ++ [some v]) I H) (hi : i < ws.length) (hk : ∀ a, a ∉ ft i → a ∉ ft ws.length → H a ≠ none → H' a = H a)
    (hF : ∀ a ∈ F', H' a ≠ none ∧ (a ∈ ft i ∨ a ∈ ft ws.length ∨ H a = none)) (hw : Sl K I H' F' (σ[i]?.join) w') : Ok K T B (ws.set i w') σ I H' := by
  have hl : σ.length = ws.length := by have := k.len; simp at this; exact this
  have sm : ∀ {J : Hp}, Same J H → (∀ a, J a ≠ none → a ∉ ft i ∧ a ∉ ft ws.length) → Same J H' := fun s o b x e => by
    obtain ⟨o1, o2⟩ := o b (by rw [e]; simp)
    have e2 := s b x e
    rw [hk b o1 o2 (by rw [e2]; simp)]
    exact e2
  have hI : ∀ a, I a ≠ none → a ∉ ft i ∧ a ∉ ft ws.length := fun a h => ⟨fun z => h (k.own _ a z).1, fun z => h (k.own _ a z).1⟩
  have hT : ∀ a, T a ≠ none → a ∉ ft i ∧ a ∉ ft ws.length := fun a h => ⟨fun z => h (k.own _ a z).2.1, fun z => h (k.own _ a z).2.1⟩
  refine ⟨fun j => if j = i then F' else if j < ws.length then ft j else [], sm k.sub hI, sm k.oth hT, k.bse, k.ti, by rw [List.length_set]; exact hl, fun x y a ha hb => ?_, fun x a ha => ?_, fun j x hx => ?_⟩
  · have ha : a ∈ if x = i then F' else if x < ws.length then ft x else [] := ha
    have hb : a ∈ if y = i then F' else if y < ws.length then ft y else [] := hb
    have key : ∀ z, z ≠ i → z < ws.length → a ∈ ft z → a ∈ F' → False := fun z h1 h2 h3 h4 => by
      rcases (hF a h4).2 with q | q | q
      · exact h1 (k.ap z i a h3 q)
      · have := k.ap z _ a h3 q
        omega
      · exact (k.own z a h3).2.2 q
    split at ha
    · split at hb
      · omega
      · split at hb
        · exact (key y ‹_› ‹_› hb ha).elim
        · cases hb
    · split at ha
      · split at hb
        · exact (key x ‹_› ‹_› ha hb).elim
        · split at hb
          · exact k.ap x y a ha hb
          · cases hb
      · cases ha
  · have ha : a ∈ if x = i then F' else if x < ws.length then ft x else [] := ha
    split at ha
    · obtain ⟨h1, h2⟩ := hF a ha
      rcases h2 with q | q | q
      · exact ⟨(k.own _ a q).1, (k.own _ a q).2.1, h1⟩
      · exact ⟨(k.own _ a q).1, (k.own _ a q).2.1, h1⟩
      · exact ⟨k.sub.free q, k.oth.free q, h1⟩
    · split at ha
      · rename_i h1 h2
        obtain ⟨g1, g2, g3⟩ := k.own x a ha
        refine ⟨g1, g2, ?_⟩
        rw [hk a (fun z => h1 (k.ap x i a ha z)) (fun z => by have := k.ap x _ a ha z; omega) g3]
        exact g3
      · cases ha
  · show Sl K I H' (if j = i then F' else if j < ws.length then ft j else []) _ x
    rcases set_get hx with ⟨q, rfl⟩ | ⟨q, hx⟩
    · subst q
      rw [if_pos rfl]
      exact hw
    · have hj : j < ws.length := (List.getElem?_eq_some_iff.mp hx).1
      rw [if_neg (fun z => q z.symm), if_pos hj]
      have := k.sl j x (by rw [List.getElem?_append_left hj]; exact hx)
      rw [List.getElem?_append_left (by omega)] at this
      exact this.keep (Same.refl I) fun a ha => hk a (fun z => q (k.ap i j a z ha)) (fun z => by have := k.ap j _ a ha z; omega) (k.own j a ha).2.2
end
def Sx.tree : Sx → Option Ow
  | .own t => some t | .par _ t => some t | _ => none
def Sx.with : Sx → Ow → Sx
  | .par k _, t => .par k t | _, t => .own t
section
variable {X : Ctx} {z : Nat → V} {T B I I' H H' : Hp} {e : En} {x : Sx} {t s : Ow} {σ τ : L2.St} {i : Nat} {v : V}
theorem sl_tree {F : List Addr} {o : Option V} (ht : x.tree = some t) (h : Sl X.K I H F o (sd X z x)) : ∃ v, o = some v ∧ OwOk X I H F v t ∧ ∀ I' H' F' t', OwOk X I' H' F' v t' → Sl X.K I' H' F' o (sd X z (x.with t')) := by
  cases x with
  | own t0 =>
    cases ht
    obtain ⟨v, e, q⟩ := h
    exact ⟨v, e, q, fun I' H' F' t' q' => ⟨v, e, q'⟩⟩
  | par k t0 =>
    cases ht
    obtain ⟨v, e, q0, q⟩ := h
    exact ⟨v, e, q, fun I' H' F' t' q' => ⟨v, e, q0, q'⟩⟩
  | un => cases ht
  | dat d => cases ht
  | scr ns => cases ht
theorem join_some {σ : L2.St} {i : Nat} {v : V} (h : (σ[i]?).join = some v) : σ[i]? = some (some v) := by
  cases e : σ[i]? with
  | none => rw [e] at h; cases h
  | some x => rw [e] at h; exact congrArg some h
theorem lend (k : Ok X.K T B (sds X z e) σ I H) (hx : e[i]? = some x) (ht : x.tree = some t) {ss : List Step} (hs : t.sub ss = some s) :
    ∃ v u T', σ[i]? = some (some v) ∧ Walk X H v ss u ∧ Ok X.K T' I [sd X z (.own s)] [some u] I H ∧
      ∀ s' zs τ I' H', Ok X.K T' I (sd X z (.own s') :: zs) (some u :: τ) I' H' → Ok X.K T B (sds X z (e.set i (x.with (t.put ss s'))) ++ zs) (σ ++ τ) I' H' := by
  obtain ⟨ft, k⟩ := k
  have hx' := sds_get (X := X) (z := z) hx
  have hi : i < (sds X z e).length := (List.getElem?_eq_some_iff.mp hx').1
  obtain ⟨v, e1, ow, put⟩ := sl_tree ht (k.sl i _ hx')
  obtain ⟨u, F1, F2, l1, l2, l3, l4, l5⟩ := ow.lend hs
  have hF1 : ∀ a ∈ F1, a ∈ ft i := fun a h => (l4 a).2 (.inl h)
  have hF2 : ∀ a ∈ F2, a ∈ ft i := fun a h => (l4 a).2 (.inr h)
  obtain ⟨k1, k2⟩ := k.view (fun b => (∃ j, j < (sds X z e).length ∧ j ≠ i ∧ b ∈ ft j) ∨ b ∈ F1) (fun b h => by
      rcases h with ⟨j, _, _, hj⟩ | h
      · exact k.own j b hj
      · exact k.own i b (hF1 b h)) (fun j => if j = 0 then F2 else []) (τ := [some u]) (us := [sd X z (.own s)]) (fun j a ha => by
      have ha : a ∈ if j = 0 then F2 else [] := ha
      split at ha
      · refine ⟨fun z => ?_, k.own i a (hF2 a ha)⟩
        rcases z with ⟨j, _, hj, hm⟩ | z
        · exact hj (k.ap j i a hm (hF2 a ha))
        · exact l3 a z ha
      · cases ha) (fun a b c ha hb => by
      have ha : c ∈ if a = 0 then F2 else [] := ha
      have hb : c ∈ if b = 0 then F2 else [] := hb
      split at ha
      · split at hb
        · omega
        · cases hb
      · cases ha) rfl (fun j w hw => by
      cases j with
      | zero =>
        cases hw
        exact ⟨u, rfl, l1⟩
      | succ j => cases hw)
  refine ⟨v, u, _, join_some e1, l2, ⟨_, k1⟩, fun s' zs τ I' H' ⟨ft', k'⟩ => ?_⟩
  obtain ⟨s1, s2, s3, s4, s5, s6⟩ := k2 ft' _ _ I' H' k'
  obtain ⟨u', e2, o2⟩ := k'.sl 0 _ rfl
  have e2 : some u = some u' := e2
  cases e2
  have o2 : OwOk X I' H' (ft' 0) u s' := o2
  obtain ⟨F', o3, o4⟩ := l5 I' H' s' (ft' 0) s1 (fun a ha => (s5 a (.inr ha)).1) o2 (fun a ha hz => (s6 0 a hz).2.2.2 (.inr ha))
  have sl' := put I' H' F' _ o3
  have own' : ∀ a ∈ F', I' a = none ∧ T a = none ∧ H' a ≠ none := fun a ha => by
    rcases (o4 a).1 ha with z | z
    · obtain ⟨g1, g2, g3⟩ := k.own i a (hF1 a z)
      obtain ⟨q1, q2⟩ := s5 a (.inr z)
      exact ⟨q2, g2, by rw [q1]; exact g3⟩
    · obtain ⟨g1, g2, g3, _⟩ := s6 0 a z
      exact ⟨g1, g2, g3⟩
  have hlz : τ.length = zs.length := by have := k'.len; simp at this; exact this
  refine ⟨fun j => if j < (sds X z e).length then (if j = i then F' else ft j) else ft' (j - (sds X z e).length + 1), s2, s3, fun b x e => s1 b x (k.bse b x e), s4, by have := k.len; simp at this ⊢; omega, fun a b c ha hb => ?_, fun j a ha => ?_, fun j w hw => ?_⟩
  · have ha : c ∈ if a < (sds X z e).length then (if a = i then F' else ft a) else ft' (a - (sds X z e).length + 1) := ha
    have hb : c ∈ if b < (sds X z e).length then (if b = i then F' else ft b) else ft' (b - (sds X z e).length + 1) := hb
    have kk : ∀ y, y < (sds X z e).length → y ≠ i → c ∈ ft y → c ∈ F' → False := fun y h1 h2 h3 h4 => by
      rcases (o4 c).1 h4 with q | q
      · exact h2 (k.ap y i c h3 (hF1 c q))
      · exact (s6 0 c q).2.2.2 (.inl ⟨y, h1, h2, h3⟩)
    have k3 : ∀ z, c ∈ ft' (z + 1) → c ∈ F' → False := fun z h1 h2 => by
      rcases (o4 c).1 h2 with q | q
      · exact (s6 _ c h1).2.2.2 (.inr q)
      · have := k'.ap _ _ c h1 q
        omega
    split at ha
    · split at ha
      · split at hb
        · split at hb
          · omega
          · exact (kk b ‹_› ‹_› hb ha).elim
        · exact (k3 _ hb ha).elim
      · split at hb
        · split at hb
          · exact (kk a ‹_› ‹_› ha hb).elim
          · exact k.ap a b c ha hb
        · exact absurd (.inl ⟨a, ‹_›, ‹_›, ha⟩) (s6 _ c hb).2.2.2
    · split at hb
      · split at hb
        · exact (k3 _ ha hb).elim
        · exact absurd (.inl ⟨b, ‹_›, ‹_›, hb⟩) (s6 _ c ha).2.2.2
      · have := k'.ap _ _ c ha hb
        omega
  · have ha : a ∈ if j < (sds X z e).length then (if j = i then F' else ft j) else ft' (j - (sds X z e).length + 1) := ha
    split at ha
    · split at ha
      · exact own' a ha
      · obtain ⟨g1, g2, g3⟩ := k.own j a ha
        obtain ⟨q1, q2⟩ := s5 a (.inl ⟨j, ‹_›, ‹_›, ha⟩)
        exact ⟨q2, g2, by rw [q1]; exact g3⟩
    · obtain ⟨g1, g2, g3, _⟩ := s6 _ a ha
      exact ⟨g1, g2, g3⟩
  · show Sl X.K I' H' (if j < (sds X z e).length then (if j = i then F' else ft j) else ft' (j - (sds X z e).length + 1)) _ w
    have lset : (sds X z (e.set i (x.with (t.put ss s')))).length = (sds X z e).length := by simp
    have hσ : σ.length = (sds X z e).length := k.len
    by_cases q : j < (sds X z e).length
    · rw [if_pos q, List.getElem?_append_left (by omega)]
      rw [List.getElem?_append_left (by omega), sds_set] at hw
      rcases set_get hw with ⟨z, rfl⟩ | ⟨z, hw⟩
      · subst z
        rw [if_pos rfl]
        exact sl'
      · rw [if_neg fun y => z y.symm]
        exact (k.sl j w hw).keep s1 fun a ha => (s5 a (.inl ⟨j, q, fun y => z y.symm, ha⟩)).1
    · rw [if_neg q, List.getElem?_append_right (by omega), hσ]
      rw [List.getElem?_append_right (by omega), lset] at hw
      exact k'.sl _ w (by simpa using hw)
end
end PT
namespace PT
open PySem PySem.Spec PyProof.Rows L2 DL
section
variable {K : Frg} {T B I I' H H' : Hp} {ws ws' us : List SD} {w : SD} {σ σ' τ : L2.St} {v : V}
theorem _root_.DL.Ok.sel (k : Ok K T B ws σ I H) (π : Nat → Option Nat) (inj : ∀ i j a, π i = some a → π j = some a → i = j) (hl : σ'.length = ws'.length)
    (h : ∀ j w, ws'[j]? = some w → w = .un ∨ ∃ i, π j = some i ∧ ws[i]? = some w ∧ (σ'[j]?).join = (σ[i]?).join) : Ok K T B ws' σ' I H := by
  obtain ⟨ft, k⟩ := k
  have key : ∀ j a, a ∈ (match π j with | some i => ft i | none => []) → ∃ i, π j = some i ∧ a ∈ ft i := fun j a h => by
    cases e : π j with
    | none => rw [e] at h; cases h
    | some i => rw [e] at h; exact ⟨i, rfl, h⟩
  refine ⟨fun j => match π j with | some i => ft i | none => [], k.sub, k.oth, k.bse, k.ti, hl, fun i j a ha hb => ?_, fun i a ha => ?_, fun j w hw => ?_⟩
  · obtain ⟨x, e1, h1⟩ := key i a ha
    obtain ⟨y, e2, h2⟩ := key j a hb
    have := k.ap x y a h1 h2
    subst this
    exact inj i j x e1 e2
  · obtain ⟨x, e1, h1⟩ := key i a ha
    exact k.own x a h1
  · rcases h j w hw with rfl | ⟨i, e1, e2, e3⟩
    · trivial
    · show Sl K I H (match π j with | some i => ft i | none => []) _ w
      rw [e1, e3]
      exact k.sl i w e2
theorem _root_.DL.Ok.home {i : Nat} (k : Ok K T B (ws ++ (w :: us)) (σ ++ (some v :: τ)) I H) (hn : σ.length = ws.length) (hi : i < ws.length) (hv : σ[i]? = some (some v)) : Ok K T B (ws.set i w ++ us) (σ ++ τ) I H := by
  have hl : τ.length = us.length := by have := k.len; simp at this; omega
  refine k.sel (fun j => some (if j = i then ws.length else if j < ws.length then j else j + 1)) (fun x y a h1 h2 => ?_) (by simp [hn, hl]) fun j x hx => .inr ?_
  · have h1 := Option.some.inj h1
    have h2 := Option.some.inj h2
    split at h1 <;> split at h2 <;> (try split at h1) <;> (try split at h2) <;> omega
  · refine ⟨_, rfl, ?_⟩
    by_cases q : j = i
    · subst q
      rw [if_pos rfl]
      rw [List.getElem?_append_left (by simpa using hi), List.getElem?_set, if_pos rfl, if_pos hi] at hx
      cases hx
      rw [List.getElem?_append_right (Nat.le_refl _), Nat.sub_self, List.getElem?_append_left (by omega), hv, List.getElem?_append_right (by omega), hn, Nat.sub_self]
      exact ⟨rfl, rfl⟩
    · rw [if_neg q]
      by_cases z : j < ws.length
      · rw [if_pos z]
        rw [List.getElem?_append_left (by simpa using z), List.getElem?_set_ne (fun y => q y.symm)] at hx
        rw [List.getElem?_append_left z, List.getElem?_append_left (by omega), List.getElem?_append_left (by omega)]
        exact ⟨hx, rfl⟩
      · rw [if_neg z]
        rw [List.getElem?_append_right (by simp; omega), List.length_set] at hx
        rw [List.getElem?_append_right (by omega), List.getElem?_append_right (by omega), List.getElem?_append_right (by omega), hn]
        have e : j + 1 - ws.length = (j - ws.length) + 1 := by omega
        rw [e]
        exact ⟨hx, rfl⟩
theorem _root_.DL.Ok.omit (k : Ok K T B (ws ++ (w :: us)) (σ ++ (some v :: τ)) I H) (hn : σ.length = ws.length) : Ok K T B (ws ++ us) (σ ++ τ) I H := by
  have hl : τ.length = us.length := by have := k.len; simp at this; omega
  refine k.sel (fun j => some (if j < ws.length then j else j + 1)) (fun x y a h1 h2 => ?_) (by simp [hn, hl]) fun j x hx => .inr ?_
  · have h1 := Option.some.inj h1
    have h2 := Option.some.inj h2
    split at h1 <;> split at h2 <;> omega
  · refine ⟨_, rfl, ?_⟩
    by_cases z : j < ws.length
    · rw [if_pos z]
      rw [List.getElem?_append_left z] at hx
      rw [List.getElem?_append_left z, List.getElem?_append_left (by omega), List.getElem?_append_left (by omega)]
      exact ⟨hx, rfl⟩
    · rw [if_neg z]
      rw [List.getElem?_append_right (by omega)] at hx
      rw [List.getElem?_append_right (by omega), List.getElem?_append_right (by omega), List.getElem?_append_right (by omega), hn]
      have e : j + 1 - ws.length = (j - ws.length) + 1 := by omega
      rw [e]
      exact ⟨hx, rfl⟩
theorem _root_.DL.Ok.unset {i : Nat} (k : Ok K T B ws σ I H) : Ok K T B (ws.set i .un) σ I H :=
  k.sel some (fun _ _ _ h1 h2 => (Option.some.inj h1).trans (Option.some.inj h2).symm) (by rw [List.length_set]; exact k.len) fun j w hw => by
    rcases set_get hw with ⟨_, rfl⟩ | ⟨_, hw⟩
    · exact .inl rfl
    · exact .inr ⟨j, rfl, hw, rfl⟩
end
section
variable {X : Ctx} {I H : Hp}
theorem OwOk.leaf_inv : ∀ {F : List Addr} {v : V} {d : PyData}, OwOk X I H F v (.leaf d) → F = [] ∧ Da X.K I v d
  | _, _, _, .leaf a => ⟨rfl, a⟩
theorem OwOk.lst_inv : ∀ {F : List Addr} {v : V} {ds : List PyData}, OwOk X I H F v (.lst ds) → ∃ p xs, F = [p] ∧ v = .ref p ∧ H p = some (.lst xs) ∧ DaL X.K I xs ds
  | _, _, _, .lst h a => ⟨_, _, rfl, rfl, h, a⟩
theorem OwOk.list_inv : ∀ {F : List Addr} {v : V} {ts : List Ow}, OwOk X I H F v (.list ts) → ∃ p xs G, F = p :: G ∧ v = .ref p ∧ H p = some (.lst xs) ∧ OwL X I H G xs ts ∧ p ∉ G
  | _, _, _, .list h r n => ⟨_, _, _, rfl, rfl, h, r, n⟩
theorem OwOk.obj_inv : ∀ {F : List Addr} {v : V} {c : Nat} {ks : List S} {ts : List Ow}, OwOk X I H F v (.obj c ks ts) → ∃ p dx fs G, F = p :: dx :: G ∧ v = .ref p ∧ H p = some (.ins (X.ca c) dx fs) ∧ H dx = some (.own p) ∧ fs.map (·.1) = ks ∧ OwL X I H G (fs.map (·.2)) ts ∧ p ∉ G ∧ dx ∉ G ∧ p ≠ dx
  | _, _, _, _, _, .obj h1 h2 h3 r n1 n2 n3 => ⟨_, _, _, _, rfl, rfl, h1, h2, h3, r, n1, n2, n3⟩
end
mutual
def Ow.toD : Ow → Option PyData
  | .leaf d => some d
  | .lst ds => some (.list ds)
  | .list ts => (Ow.toDs ts).map .list
  | .hole => none
  | .obj _ _ _ => none
def Ow.toDs : List Ow → Option (List PyData)
  | [] => some []
  | t :: ts => (t.toD).bind fun d => (Ow.toDs ts).map (d :: ·)
end
section
variable {X : Ctx} {z : Nat → V} {T B I I' H H' : Hp} {e : En} {x : Sx} {t s : Ow} {σ τ : L2.St} {i : Nat} {v : V} {F : List Addr}
theorem same_addP {P : Addr → Prop} (h : ∀ a, P a → I a = none) : Same I (addP I H P) := fun b x e => by
  rw [addP_out fun q => by rw [h b q] at e; cases e]
  exact e
theorem addP_le {P Q : Addr → Prop} (h : ∀ a, Q a → I a = none) (le : ∀ a, P a → Q a) : Same (addP I H P) (addP I H Q) := fun b x e => by
  by_cases p : P b
  · rw [addP_in p] at e
    rw [addP_in (le b p)]
    exact e
  · rw [addP_out p] at e
    rw [addP_out fun q => by rw [h b q] at e; cases e]
    exact e
mutual
theorem OwOk.fz : ∀ {F : List Addr} {v : V} {t : Ow} {d : PyData}, OwOk X I H F v t → (∀ a ∈ F, I a = none) → t.toD = some d → Da X.K (addP I H (· ∈ F)) v d
  | _, _, _, _, .leaf a, n, e => by
    simp only [Ow.toD, Option.some.injEq] at e
    subst e
    exact a.mono (same_addP n)
  | _, _, _, _, .hole, _, e => by simp [Ow.toD] at e
  | _, _, _, _, .lst h a, n, e => by
    simp only [Ow.toD, Option.some.injEq] at e
    subst e
    exact .lst ((addP_in List.mem_cons_self).trans h) (a.mono (same_addP n))
  | _, _, _, _, .list (p := p) (ts := ts) (F := F) h r np, n, e => by
    simp only [Ow.toD] at e
    cases e1 : Ow.toDs ts with
    | none => rw [e1] at e; cases e
    | some ds =>
      rw [e1] at e
      cases e
      exact .lst ((addP_in List.mem_cons_self).trans h) ((OwL.fz r (fun a ha => n a (List.mem_cons_of_mem _ ha)) e1).mono (addP_le n fun a ha => List.mem_cons_of_mem _ ha))
  | _, _, _, _, .obj _ _ _ _ _ _ _, _, e => by simp [Ow.toD] at e
theorem OwL.fz : ∀ {F : List Addr} {vs : List V} {ts : List Ow} {ds : List PyData}, OwL X I H F vs ts → (∀ a ∈ F, I a = none) → Ow.toDs ts = some ds → DaL X.K (addP I H (· ∈ F)) vs ds
  | _, _, _, _, .nil, _, e => by
    simp only [Ow.toDs, Option.some.injEq] at e
    subst e
    exact .nil
  | _, _, _, _, .cons (t := t) (ts := ts) (F := F) (G := G) h r dj, n, e => by
    simp only [Ow.toDs] at e
    cases e1 : t.toD with
    | none => rw [e1] at e; cases e
    | some d =>
      rw [e1] at e
      cases e2 : Ow.toDs ts with
      | none => rw [e2] at e; cases e
      | some ds =>
        rw [e2] at e
        cases e
        exact .cons ((OwOk.fz h (fun a ha => n a (List.mem_append_left _ ha)) e1).mono (addP_le n fun a ha => List.mem_append_left _ ha)) ((OwL.fz r (fun a ha => n a (List.mem_append_right _ ha)) e2).mono (addP_le n fun a ha => List.mem_append_right _ ha))
end
theorem freeze (k : Ok X.K T B (sds X z e) σ I H) (hx : e[i]? = some x) (ht : x.tree = some t) {ss : List Step} (hs : t.sub ss = some s) {d : PyData} (hd : s.toD = some d) :
    ∃ v u I', σ[i]? = some (some v) ∧ Walk X H v ss u ∧ Same I I' ∧ Da X.K I' u d ∧ Ok X.K T B (sds X z (e.set i (x.with (t.put ss (.leaf d))))) σ I' H := by
  obtain ⟨ft, k⟩ := k
  have hx' := sds_get (X := X) (z := z) hx
  have hi : i < (sds X z e).length := (List.getElem?_eq_some_iff.mp hx').1
  obtain ⟨v, e1, ow, put⟩ := sl_tree ht (k.sl i _ hx')
  obtain ⟨u, F1, F2, l1, l2, l3, l4, l5⟩ := ow.lend hs
  have hF1 : ∀ a ∈ F1, a ∈ ft i := fun a h => (l4 a).2 (.inl h)
  have hF2 : ∀ a ∈ F2, a ∈ ft i := fun a h => (l4 a).2 (.inr h)
  have n2 : ∀ a ∈ F2, I a = none := fun a h => (k.own i a (hF2 a h)).1
  have sI : Same I (addP I H (· ∈ F2)) := same_addP n2
  obtain ⟨F', o3, o4⟩ := l5 _ H (.leaf d) [] sI (fun _ _ => rfl) (.leaf (l1.fz n2 hd)) (fun _ _ h => nomatch h)
  have sl' := put _ H F' _ o3
  have out : ∀ j a, a ∈ ft j → j ≠ i → a ∉ F2 := fun j a h1 h2 h3 => h2 (k.ap j i a h1 (hF2 a h3))
  refine ⟨v, u, _, join_some e1, l2, sI, l1.fz n2 hd, fun j => if j = i then F' else ft j, fun b y q => ?_, k.oth, k.bse.trans sI, fun b hb => ?_, by have := k.len; simp at this ⊢; exact this, fun a b c ha hb => ?_, fun j a ha => ?_, fun j w hw => ?_⟩
  · by_cases m : b ∈ F2
    · rw [addP_in m] at q
      exact q
    · rw [addP_out m] at q
      exact k.sub b y q
  · rw [addP_out fun m => hb (k.own i b (hF2 b m)).2.1]
    exact k.ti b hb
  · have ha : c ∈ if a = i then F' else ft a := ha
    have hb : c ∈ if b = i then F' else ft b := hb
    have f : c ∈ F' → c ∈ ft i := fun h => by
      rcases (o4 c).1 h with q | q
      · exact hF1 c q
      · cases q
    split at ha
    · split at hb
      · omega
      · rename_i h1 h2
        exact absurd (k.ap b i c hb (f ha)) h2
    · split at hb
      · rename_i h1 h2
        exact absurd (k.ap a i c ha (f hb)) h1
      · exact k.ap a b c ha hb
  · have ha : a ∈ if j = i then F' else ft j := ha
    split at ha
    · rcases (o4 a).1 ha with q | q
      · obtain ⟨g1, g2, g3⟩ := k.own i a (hF1 a q)
        exact ⟨by rw [addP_out (l3 a q)]; exact g1, g2, g3⟩
      · cases q
    · obtain ⟨g1, g2, g3⟩ := k.own j a ha
      exact ⟨by rw [addP_out (out j a ha ‹_›)]; exact g1, g2, g3⟩
  · show Sl X.K _ H (if j = i then F' else ft j) _ w
    rw [sds_set] at hw
    rcases set_get hw with ⟨q, rfl⟩ | ⟨q, hw⟩
    · subst q
      rw [if_pos rfl]
      exact sl'
    · rw [if_neg fun y => q y.symm]
      exact (k.sl j w hw).keep sI fun _ _ => rfl
theorem ripe {d : PyData} (k : Ok X.K T B (sds X z e) σ I H) (hx : e[i]? = some (.own (.leaf d))) : Ok X.K T B (sds X z (e.set i (.dat d))) σ I H := by
  obtain ⟨ft, k⟩ := k
  refine ⟨ft, k.sub, k.oth, k.bse, k.ti, by have := k.len; simp at this ⊢; exact this, k.ap, k.own, fun j w hw => ?_⟩
  rw [sds_set] at hw
  rcases set_get hw with ⟨q, rfl⟩ | ⟨q, hw⟩
  · subst q
    obtain ⟨v, e1, e2⟩ := k.sl i _ (sds_get hx)
    have e2 : OwOk X I H (ft i) v (.leaf d) := e2
    refine ⟨v, e1, ?_⟩
    exact e2.leaf_inv.2
  · exact k.sl j w hw
inductive Ad where
  | d (x : PyData) | s (i : Nat)
def AdOk (X : Ctx) (I : Hp) (σ : L2.St) (v : V) : Ad → Prop
  | .d x => Da X.K I v x
  | .s i => σ[i]? = some (some v)
theorem AdOk.mono {a : Ad} (h : AdOk X I σ v a) (s : Same I I') : AdOk X I' σ v a := by
  cases a with
  | d x => exact Da.mono s h
  | s i => exact h
def Ad.tree (e : En) : Ad → Option Ow
  | .d _ => none
  | .s i => (e[i]?).bind Sx.tree
def Ad.val (e : En) (a : Ad) : Option PyData := match a with
  | .d x => some x
  | .s i => (e[i]?).bind fun x => x.tree.bind Ow.toD
def Ad.lst (e : En) (a : Ad) : Option (List PyData) := match a with
  | .d (.list ds) => some ds
  | .d _ => none
  | .s i => match e[i]? with
    | some (.own (.lst ds)) => some ds
    | some (.par _ (.lst ds)) => some ds
    | some (.scr ns) => some (ns.map .int)
    | _ => none
def Ad.lstH (e : En) (a : Ad) : Option (List PyData) := match a with
  | .d (.list ds) => some ds
  | .d _ => none
  | .s i => match e[i]? with
    | some (.own (.lst ds)) => some ds
    | some (.par _ (.lst ds)) => some ds
    | _ => none
theorem ad_val {a : Ad} {d : PyData} (k : Ok X.K T B (sds X z e) σ I H) (h : AdOk X I σ v a) (hv : a.val e = some d) : ∃ J, Same J H ∧ Same I J ∧ Da X.K J v d := by
  cases a with
  | d x =>
    cases hv
    exact ⟨I, k.sub, Same.refl I, h⟩
  | s i =>
    have hv : ((e[i]?).bind fun x => x.tree.bind Ow.toD) = some d := hv
    cases e1 : e[i]? with
    | none => rw [e1] at hv; cases hv
    | some x =>
      rw [e1] at hv
      have hv : x.tree.bind Ow.toD = some d := hv
      cases e2 : x.tree with
      | none => rw [e2] at hv; cases hv
      | some t =>
        rw [e2] at hv
        have hv : t.toD = some d := hv
        obtain ⟨v', u, I', g1, g2, g3, g4, g5⟩ := freeze k e1 e2 (ss := []) rfl hv
        have h : σ[i]? = some (some v) := h
        rw [h] at g1
        cases g1
        cases g2
        exact ⟨I', g5.sub, g3, g4⟩
theorem ad_lst {a : Ad} {ds : List PyData} (k : Ok X.K T B (sds X z e) σ I H) (h : AdOk X I σ v a) (hv : a.lst e = some ds) : ∃ p xs, v = .ref p ∧ SqL X.K H p xs ∧ DaL X.K I xs ds := by
  cases a with
  | d x =>
    cases x <;> try cases hv
    obtain ⟨p, xs, rfl, hs, ha⟩ := Da.list_inv h
    exact ⟨p, xs, rfl, .inl (.inl (k.sub _ _ hs)), ha⟩
  | s i =>
    have h : σ[i]? = some (some v) := h
    obtain ⟨ft, k⟩ := k
    have own : ∀ {x : Sx}, e[i]? = some x → x.tree = some (.lst ds) → ∃ p xs, v = .ref p ∧ SqL X.K H p xs ∧ DaL X.K I xs ds := fun hx ht => by
      obtain ⟨u, e1, ow, _⟩ := sl_tree ht (k.sl i _ (sds_get hx))
      rw [h] at e1
      cases e1
      obtain ⟨p, xs, _, rfl, hp, ha⟩ := ow.lst_inv
      exact ⟨_, _, rfl, .inl (.inl hp), ha⟩
    unfold Ad.lst at hv
    cases e1 : e[i]? with
    | none => simp only [e1] at hv; cases hv
    | some x =>
      simp only [e1] at hv
      cases x with
      | un => cases hv
      | dat d => cases hv
      | own t =>
        cases t <;> try cases hv
        exact own e1 rfl
      | par n t =>
        cases t <;> try cases hv
        exact own e1 rfl
      | scr ns =>
        cases hv
        obtain ⟨b, e2, sq⟩ := k.sl i _ (sds_get e1)
        rw [h] at e2
        cases e2
        exact ⟨b, _, rfl, k.sub.seq sq, DaL.ofInts ns⟩
theorem ad_lstH {a : Ad} {ds : List PyData} (k : Ok X.K T B (sds X z e) σ I H) (h : AdOk X I σ v a) (hv : a.lstH e = some ds) : ∃ p xs, v = .ref p ∧ H p = some (.lst xs) ∧ DaL X.K I xs ds := by
  cases a with
  | d x =>
    cases x <;> try cases hv
    obtain ⟨p, xs, rfl, hs, ha⟩ := Da.list_inv h
    exact ⟨p, xs, rfl, k.sub _ _ hs, ha⟩
  | s i =>
    have h : σ[i]? = some (some v) := h
    obtain ⟨ft, k⟩ := k
    have own : ∀ {x : Sx}, e[i]? = some x → x.tree = some (.lst ds) → ∃ p xs, v = .ref p ∧ H p = some (.lst xs) ∧ DaL X.K I xs ds := fun hx ht => by
      obtain ⟨u, e1, ow, _⟩ := sl_tree ht (k.sl i _ (sds_get hx))
      rw [h] at e1
      cases e1
      obtain ⟨p, xs, _, rfl, hp, ha⟩ := ow.lst_inv
      exact ⟨_, _, rfl, hp, ha⟩
    unfold Ad.lstH at hv
    cases e1 : e[i]? with
    | none => simp only [e1] at hv; cases hv
    | some x =>
      simp only [e1] at hv
      cases x with
      | un => cases hv
      | dat d => cases hv
      | own t =>
        cases t <;> try cases hv
        exact own e1 rfl
      | par n t =>
        cases t <;> try cases hv
        exact own e1 rfl
      | scr ns => cases hv
end
end PT
namespace SS
open PySem PySem.Spec PyProof.Rows L2
def tkey (e : Int × Value) : PySem.Str := match e.2 with | .str x _ => x | _ => Str.empty
def GoodT (P : Program) (w : World) (e : Int × Value) : Prop := ∃ x tk, e.2 = Value.str x tk ∧ e.1 = (PySem.strKind P w).hash x
structure SetT (P : Program) (w : World) (h : Heap) (a : Addr) (S : PySem.Str → Bool) (n : Nat) (ob : Obj) (rows : Array (Int × Value)) (ep : Nat) (tb : SetTable) : Prop where
  at_ : h.get? a = some ob
  ex : ob.ExactSet
  dt : ob.data = .set rows ep tb
  good : ∀ e ∈ rows.toList, GoodT P w e
  nd : (rows.toList.map tkey).Nodup
  mem : ∀ k, S k = true ↔ k ∈ rows.toList.map tkey
  bd : rows.size < scanBound
  fit : tb.fits rows.size = true
  num : rows.size = n
  ris : Ris tb.place.toList
  led : w.params.followText "set-order" = true ∨ tb.led = true
def SetS (P : Program) (w : World) (h : Heap) (a : Addr) (S : PySem.Str → Bool) (n : Nat) : Prop := ∃ ob rows ep tb, SetT P w h a S n ob rows ep tb
section
variable {P : Program} {w : World} {h h' : Heap} {a : Addr} {S : PySem.Str → Bool} {n : Nat}
theorem SetS.keep (R : SetS P w h a S n) (k : ∀ o, h.get? a = some o → h'.get? a = some o) : SetS P w h' a S n := by
  obtain ⟨ob, rows, ep, tb, r⟩ := R
  exact ⟨ob, rows, ep, tb, { r with at_ := k _ r.at_ }⟩
theorem SetS.some (R : SetS P w h a S n) : ∃ o, h.get? a = some o := let ⟨ob, _, _, _, r⟩ := R; ⟨ob, r.at_⟩
theorem SetS.is {S' : PySem.Str → Bool} {n' : Nat} (R : SetS P w h a S n) (e : ∀ k, S' k = S k) (en : n' = n) : SetS P w h a S' n' := by
  have q : S' = S := funext e
  rw [q, en]
  exact R
theorem goodT_elems {l : List (Int × Value)} (g : ∀ e ∈ l, GoodT P w e) : ElemsOf (PySem.strKind P w) l := fun e he => by
  obtain ⟨x, tk, e1, e2⟩ := g e he
  exact ⟨⟨x, by rw [e1]; exact strKind_is P w x tk, e2⟩, by rw [e1]; rfl⟩
theorem goodT_is {e : Int × Value} (g : GoodT P w e) (k : PySem.Str) : (PySem.strKind P w).is k e.2 = true ↔ tkey e = k := by
  obtain ⟨x, tk, e1, _⟩ := g
  unfold tkey
  rw [e1]
  show (Value.isStrOf k (.str x tk) = true) ↔ x = k
  constructor
  · intro z
    obtain ⟨t, e⟩ := Value.isStrOf_shape z
    injection e
  · intro z
    subst z
    exact strKind_is P w x tk
theorem goodT_mem {l : List (Int × Value)} (g : ∀ e ∈ l, GoodT P w e) (k : PySem.Str) : k ∈ l.map tkey ↔ ∃ e ∈ l, (PySem.strKind P w).is k e.2 = true := by
  rw [List.mem_map]
  exact ⟨fun ⟨e, he, q⟩ => ⟨e, he, (goodT_is (g e he) k).2 q⟩, fun ⟨e, he, q⟩ => ⟨e, he, (goodT_is (g e he) k).1 q⟩⟩
theorem SetS.setOf (R : SetS P w h a S n) : h.SetOf (PySem.strKind P w) a S n := by
  obtain ⟨ob, rows, ep, tb, r⟩ := R
  exact ⟨ob, rows, ep, tb, r.at_, r.ex, r.dt, goodT_elems r.good, fun k => (r.mem k).trans (goodT_mem r.good k), r.bd, r.fit, r.num⟩
theorem setS_fresh {a : Addr} (e : h.get? a = .some { cls := .type "set", dict := none, data := .set #[] 0 (.fresh 0 0 (!w.params.followText "set-order")) }) : SetS P w h a (fun _ => false) 0 := by
  refine ⟨_, #[], 0, _, ⟨e, ⟨rfl, rfl, rfl⟩, rfl, fun e he => by simp at he, by simp, fun k => by simp, by decide, by rfl, rfl, List.Pairwise.nil, ?_⟩⟩
  show _ ∨ (!w.params.followText "set-order") = true
  cases w.params.followText "set-order" <;> simp
end
section
variable {P : Program} {w : World} {A : Around} {E : Value → Shared → Prop} {s : Shared} {a : Addr} {S : PySem.Str → Bool} {n : Nat}
theorem add_tail {g : Bool → Sem Unit} (hg : ∀ (b : Bool) (s1 : Shared) (Q' : Unit → Shared → Prop), Q' () s1 → wpAny (model P w) A (g b) Q' E s1)
    {ob : Obj} {rows : Array (Int × Value)} {ep : Nat} {tb : SetTable} (e0 : s.heap.get? a = .some ob) (ex : ob.ExactSet) (dt : ob.data = .set rows ep tb)
    {rows1 : Array (Int × Value)} {tb2 : SetTable} {S' : PySem.Str → Bool} (g1 : ∀ e ∈ rows1.toList, GoodT P w e) (nd1 : (rows1.toList.map tkey).Nodup) (m1 : ∀ k, S' k = true ↔ k ∈ rows1.toList.map tkey)
    (b1 : rows1.size < scanBound) (f2 : tb2.fits rows1.size = true) (r2 : Ris tb2.place.toList) (l2 : w.params.followText "set-order" = true ∨ tb2.led = true) {dummy : Bool} {R : Option Bool → Shared → Prop}
    (hR : ∀ h', Heap.SameBut a s.heap h' → SetS P w h' a S' rows1.size → R (.some true) { s with heap := h' }) :
    wpAny (model P w) A (do
        storeSet a rows1 tb2
        if (!dummy && tb2.tooFull) = true then do
            g (relayAll tb2 rows1 (SetTable.grown rows1.size)).2.2
            storeSet a (relayAll tb2 rows1 (SetTable.grown rows1.size)).1 (relayAll tb2 rows1 (SetTable.grown rows1.size)).2.1
            pure (.some true)
          else pure (.some true)) R E s := by
  apply wpAny_bind (wpAny_storeSet_of e0 dt ?_ (fits_of_scanBound b1))
  have e1 := store_at (es' := rows1) (t' := tb2) e0 dt
  have sb := Heap.SameBut.update s.heap a (Obj.putSet rows1 tb2)
  split
  · have pm := relayAll_perm tb2 rows1 (SetTable.grown rows1.size)
    have f3 := relayAll_fits tb2 rows1 (SetTable.grown rows1.size)
    have r3 := relayAll_ris tb2 rows1 (SetTable.grown rows1.size)
    have l3 := relayAll_led tb2 rows1 (SetTable.grown rows1.size)
    generalize relayAll tb2 rows1 (SetTable.grown rows1.size) = Z at pm f3 r3 l3 ⊢
    obtain ⟨rows2, tb3, gave⟩ := Z
    dsimp only at pm f3 r3 l3 ⊢
    have sz : rows2.size = rows1.size := by rw [← Array.length_toList, pm.length_eq, Array.length_toList]
    have b2 : rows2.size < scanBound := sz ▸ b1
    apply wpAny_bind (hg _ _ _ ?_)
    apply wpAny_bind (wpAny_storeSet_of e1 rfl ?_ (fits_of_scanBound b2))
    have e2 := store_at (es' := rows2) (t' := tb3) e1 rfl
    apply wpAny_pure (hR _ (sb.trans (Heap.SameBut.update _ a _)) ?_)
    exact ⟨_, rows2, _, tb3, ⟨e2, ex, rfl, fun e he => g1 e (pm.mem_iff.mp he), (pm.map tkey).nodup_iff.mpr nd1, fun k => (m1 k).trans (pm.map tkey).mem_iff.symm, b2, f3, sz, r3, l2.imp id fun z => l3.trans z⟩⟩
  · exact wpAny_pure (hR _ sb ⟨_, rows1, _, tb2, ⟨e1, ex, rfl, g1, nd1, m1, b1, f2, rfl, r2, l2⟩⟩)
theorem add_hashed {k : PySem.Str} {tk : Tok} {Q : Bool → Shared → Prop} (R : SetS P w s.heap a S n) (room : n + 1 < scanBound)
    (hQ : ∀ h', Heap.SameBut a s.heap h' → SetS P w h' a (fun j => S j || decide (j = k)) (if S k = true then n else n + 1) → Q (!S k) { s with heap := h' }) :
    wpAny (model P w) A (setAddHashed a (.str k tk) ((PySem.strKind P w).hash k)) Q E s := by
  obtain ⟨ob, rows, ep, tb, r⟩ := R
  have ik : (PySem.strKind P w).is k (.str k tk) = true := strKind_is P w k tk
  have sc : (Value.str k tk).scannable = true := rfl
  have el : ElemsOf (PySem.strKind P w) rows.toList := goodT_elems r.good
  unfold setAddHashed setAddHashedIn
  apply wpAny_holding
  apply wpAny_bind (wpAny_setState_of r.at_ r.dt r.fit ?_)
  dsimp only
  rw [byScan_of sc r.bd el]
  simp only [↓reduceIte]
  unfold setAddByScan
  apply wpAny_bind
  apply wpAny_bind
  apply wpAny_rule
  apply wpAny_bind (wpAny_setScan_of ik r.at_ r.dt r.fit el ?_)
  cases hf : List.findIdx? (fun e => (PySem.strKind P w).is k e.2) rows.toList with
  | some j =>
    dsimp only
    obtain ⟨hj, pj, _⟩ := List.findIdx?_eq_some_iff_getElem.mp hf
    have sk : S k = true := (r.mem k).2 ((goodT_mem r.good k).2 ⟨rows.toList[j], List.getElem_mem hj, pj⟩)
    apply wpAny_pure
    apply wpAny_pure
    have q := hQ s.heap (Heap.SameBut.refl a s.heap) ⟨ob, rows, ep, tb, { r with
      mem := fun i => by
        rw [Bool.or_eq_true, decide_eq_true_eq, ← r.mem i]
        exact ⟨fun z => z.elim id fun e => e ▸ sk, .inl⟩
      num := by
        rw [if_pos sk]
        exact r.num }⟩
    rw [sk] at q
    exact q
  | none =>
    dsimp only
    have nk : k ∉ rows.toList.map tkey := fun z => by
      obtain ⟨e, he, q⟩ := (goodT_mem r.good k).1 z
      have c := List.findIdx?_eq_none_iff.mp hf e he
      rw [q] at c
      cases c
    have sk : S k = false := by
      cases q : S k
      · rfl
      · exact absurd ((r.mem k).1 q) nk
    have gw : ∀ (b : Bool) {s1 : Shared} {Q' : Unit → Shared → Prop}, Q' () s1 → wpAny (model P w) A (match b with | true => rule "set.scan.the-table-gave-way" | false => pure ()) Q' E s1 := by
      intro b s1 Q' q
      cases b
      · exact wpAny_pure q
      · exact wpAny_rule q
    have pm := layNew_perm tb rows ((PySem.strKind P w).hash k) (.str k tk)
    have f1 := layNew_fits tb rows ((PySem.strKind P w).hash k) (.str k tk)
    have r1 := layNew_ris tb rows ((PySem.strKind P w).hash k) (.str k tk) r.ris
    have l1 := layNew_led tb rows ((PySem.strKind P w).hash k) (.str k tk)
    generalize layNew tb rows ((PySem.strKind P w).hash k) (.str k tk) = Z at pm f1 r1 l1 ⊢
    obtain ⟨rows1, tb1, dummy, gave⟩ := Z
    dsimp only at pm f1 r1 l1 ⊢
    rw [Array.toList_push] at pm
    have pc : rows1.toList.Perm (((PySem.strKind P w).hash k, Value.str k tk) :: rows.toList) := pm.trans (List.perm_append_singleton _ _)
    have pk : (rows1.toList.map tkey).Perm (k :: rows.toList.map tkey) := pc.map tkey
    have g1 : ∀ e ∈ rows1.toList, GoodT P w e := by
      intro e he
      rcases List.mem_cons.mp (pc.mem_iff.mp he) with z | z
      · rw [z]
        exact ⟨k, tk, rfl, rfl⟩
      · exact r.good e z
    have nd1 : (rows1.toList.map tkey).Nodup := pk.nodup_iff.mpr (List.nodup_cons.mpr ⟨nk, r.nd⟩)
    have m1 : ∀ i, (S i || decide (i = k)) = true ↔ i ∈ rows1.toList.map tkey := by
      intro i
      rw [Bool.or_eq_true, decide_eq_true_eq, r.mem i, pk.mem_iff, List.mem_cons]
      exact Or.comm
    have sz : rows1.size = n + 1 := by rw [← Array.length_toList, pc.length_eq, List.length_cons, Array.length_toList, r.num]
    have b1 : rows1.size < scanBound := sz ▸ room
    have ld : w.params.followText "set-order" = true ∨ tb1.led = true := r.led.imp id fun z => l1.trans z
    have fin : ∀ h', Heap.SameBut a s.heap h' → SetS P w h' a (fun j => S j || decide (j = k)) rows1.size → Q true { s with heap := h' } := by
      intro h' sb x
      have q := hQ h' sb
      rw [sk] at q
      rw [sz] at x
      exact q x
    apply wpAny_bind (gw _ ?_)
    split
    · apply wpAny_bind
      rw [hashByValue_scannable 8 sc]
      apply wpAny_pure
      apply add_tail ?_ r.at_ r.ex r.dt g1 nd1 m1 b1 ?_ ?_ ?_ ?_
      · intro b s1 Q' q
        cases b
        · exact wpAny_pure q
        · exact wpAny_rule q
      · first | (split <;> first | exact f1 | exact SetTable.fits_plain_off f1) | exact f1
      · first | (split <;> exact r1) | exact r1
      · first | (split <;> exact ld) | exact ld
      · intro h' sb x
        dsimp only
        exact wpAny_pure (fin h' sb x)
    · apply wpAny_bind
      apply wpAny_pure
      simp only [↓reduceIte]
      apply add_tail ?_ r.at_ r.ex r.dt g1 nd1 m1 b1 f1 r1 ld ?_
      · intro b s1 Q' q
        cases b
        · exact wpAny_pure q
        · exact wpAny_rule q
      · intro h' sb x
        dsimp only
        exact wpAny_pure (fin h' sb x)
theorem set_add {k : PySem.Str} {tk : Tok} {Q : Value → Shared → Prop} (R : SetS P w s.heap a S n) (room : n + 1 < scanBound)
    (hQ : ∀ h', Heap.SameBut a s.heap h' → SetS P w h' a (fun j => S j || decide (j = k)) (if S k = true then n else n + 1) → Q .none { s with heap := h', toks := s.toks + 1 }) :
    wpAny (model P w) A (call (.builtin "set.add") [.ref a, .str k tk]) Q E s := by
  apply wpAny_call_entry PySem.F.slot_set_add R.setOf.typeIs PySem.F.entry_set_add ?_ (PySem.F.args_set_add_2 _ _)
  unfold Builtin.«set.add» Builtin.Frozenset.oneOther
  simp only [List.isEmpty_nil, bind_assoc]
  unfold Builtin.Frozenset.addrOf setAdd
  apply wpAny_bind (wpAny_pure ?_)
  try dsimp only
  apply wpAny_bind (wpAny_pure ?_)
  try dsimp only
  apply wpAny_bind
  apply wpAny_holding
  apply wpAny_bind ((PySem.strKind P w).pyHash (strKind_is P w k tk) ?_)
  apply add_hashed (s := { s with toks := s.toks + 1 }) R room
  intro h' sb x
  show wpAny _ _ (ret Value.none) _ _ _
  exact wpAny_pure ⟨_, rfl, hQ h' sb x⟩
end
end SS
namespace SS
open PySem PySem.Spec PyProof.Rows L2
def TextAt (xs : List PySem.Str) (i : Nat) (v : Value) : Prop := ∃ x t, xs[i]? = some x ∧ v = .str x t
def Just (P : Program) (w : World) (h : Heap) (a : Addr) (l : List PySem.Str) : Prop := ∃ n, n ≤ l.length ∧ SetS P w h a (fun k => decide (k ∈ l)) n
theorem Just.keep {P : Program} {w : World} {h h' : Heap} {a : Addr} {l : List PySem.Str} (R : Just P w h a l) (k : ∀ o, h.get? a = some o → h'.get? a = some o) : Just P w h' a l := let ⟨n, hn, r⟩ := R; ⟨n, hn, r.keep k⟩
theorem take_more {xs : List PySem.Str} {i : Nat} {x : PySem.Str} (h : xs[i]? = some x) : xs.take (i + 1) = xs.take i ++ [x] := by
  rw [List.take_add_one, h]
  rfl
theorem Just.more {P : Program} {w : World} {h : Heap} {a : Addr} {l : List PySem.Str} {x : PySem.Str} {n : Nat} (hn : n ≤ l.length) (r : SetS P w h a (fun j => decide (j ∈ l) || decide (j = x)) (if decide (x ∈ l) = true then n else n + 1)) : Just P w h a (l ++ [x]) := by
  refine ⟨if decide (x ∈ l) = true then n else n + 1, ?_, r.is (fun k => ?_) rfl⟩
  · rw [List.length_append, List.length_singleton]
    split <;> omega
  · by_cases h1 : k ∈ l <;> by_cases h2 : k = x <;> simp [h1, h2]
def emptySet (w : World) : Obj := { cls := .type "set", dict := none, data := .set #[] 0 (.fresh 0 0 (!w.params.followText "set-order")) }
section
variable {prog : Program} {w : World} {A : Around} {E : Value → Shared → Prop} {s : Shared}
theorem update_loop {R : Result → Shared → Prop} {I : Addr} {fp wr : List Addr} {G : Array GenState → Array GenState → Prop} {St : Nat → Shared → Prop} {xs : List PySem.Str} {Pv : Nat → Value → Prop} {m : Nat} (em : m = xs.length) (W : WalksS prog w A.in1 I fp wr G m Pv St) (tx : ∀ i v, Pv i v → TextAt xs i v) (D : Addr) (nfp : D ∉ fp) (hb : xs.length + 1 < scanBound) :
    ∀ (k i : Nat) (s : Shared), xs.length - i = k → i ≤ xs.length → St i s → Just prog w s.heap D (xs.take i) →
      (∀ s', Moved (D :: wr) G s s' → Just prog w s'.heap D xs → R (.ok (.ret .none)) s') → codeAny (model prog w) A (.builtin "set.update.loop" ⟨[.ref D, .ref I], []⟩) R s := by
  subst em
  have nwr : D ∉ wr := fun z => nfp (W.sub _ z)
  have sub : ∀ b ∈ wr, b ∈ D :: wr := fun b hb => List.mem_cons_of_mem _ hb
  intro k
  induction k with
  | zero =>
    intro i s hk hi st js hR
    have e : i = xs.length := by omega
    subst e
    apply codeAny_builtin PyProof.Rows.F.entry_set_update_loop
    rw [Around.under_plainId PyProof.Rows.F.plain_set_update_loop _]
    show wpAny _ A.in1 (pyNext (.ref I) >>= _) _ _ s
    apply wpAny_bind (W.done s _ _ st ?_)
    intro s' hm
    show wpAny _ A.in1 (ret Value.none) _ _ s'
    apply wpAny_pure
    apply hR s' (hm.mono sub)
    rw [List.take_length] at js
    exact js.keep fun o e => hm.heap D o nwr e
  | succ k ih =>
    intro i s hk hi st js hR
    have lt : i < xs.length := by omega
    apply codeAny_builtin PyProof.Rows.F.entry_set_update_loop
    rw [Around.under_plainId PyProof.Rows.F.plain_set_update_loop _]
    show wpAny _ A.in1 (pyNext (.ref I) >>= _) _ _ s
    apply wpAny_bind (W.item i s _ _ lt st ?_)
    intro v s' pv st' hm
    obtain ⟨x, t, hx, rfl⟩ := tx i v pv
    obtain ⟨n, hn, js'⟩ := js.keep (h' := s'.heap) fun o e => hm.heap D o nwr e
    show wpAny _ A.in1 (holding [Value.str x t] (setAdd D (.str x t)) >>= _) _ _ s'
    apply wpAny_bind
    apply wpAny_holding
    unfold setAdd
    apply wpAny_holding
    apply wpAny_bind ((PySem.strKind prog w).pyHash (strKind_is prog w x t) ?_)
    have hl : (xs.take i).length ≤ i := by rw [List.length_take]; omega
    apply add_hashed (s := { s' with toks := s'.toks + 1 }) js' (by omega)
    intro h' sb js2
    have js3 : Just prog w h' D (xs.take (i + 1)) := by
      rw [take_more hx]
      exact .more hn js2
    apply wpAny_pure
    refine ⟨plainId_quiet PyProof.Rows.F.plain_set_update_loop _, ih (i + 1) _ (by omega) lt (W.frame _ s' _ _ st' (Nat.le_succ _) ?_) js3 ?_⟩
    · intro b hb o e
      rw [sb.2 b fun z => nfp (z ▸ hb)]
      exact e
    · intro s'' hm2 js4
      refine hR s'' (Moved.trans W.gtrans ((hm.mono sub).then_heap (Nat.le_succ _) ?_) hm2) js4
      intro b o hb e
      rw [sb.2 b fun z => hb (z ▸ List.mem_cons_self)]
      exact e
set_option maxHeartbeats 8000000 in
theorem call_set {l : Addr} {items : Array Value} {xs : List PySem.Str} {Q : Value → Shared → Prop} (hh : A.handled = none) (hl : s.heap.IsList l items) (hi : StrsAre items.toList xs) (hb : xs.length + 1 < scanBound)
    (h : ∀ (h' : Heap) (tk : Nat), Just prog w h' s.heap.objs.size xs → (∀ b o, b < s.heap.objs.size → s.heap.get? b = some o → h'.get? b = some o) → Q (.ref s.heap.objs.size) { s with heap := h', toks := tk }) :
    wpAny (model prog w) A (call (.type "set") [.ref l]) Q E s := by
  have text : ∀ (vs : List Value) (xs : List PySem.Str), StrsAre vs xs → vs.length = xs.length ∧ ∀ (i : Nat) (v : Value), vs[i]? = some v → TextAt xs i v := by
    intro vs xs q
    induction q with
    | nil => exact ⟨rfl, fun i v e => by simp at e⟩
    | cons x t _ ih =>
      refine ⟨congrArg (· + 1) ih.1, fun i v e => ?_⟩
      cases i with
      | zero =>
        cases e
        exact ⟨x, t, rfl, rfl⟩
      | succ i => exact ih.2 i v e
  obtain ⟨len, at_⟩ := text _ _ hi
  have hsz : items.size = xs.length := by rw [← Array.length_toList]; exact len
  obtain ⟨c, tl, mro⟩ := PySem.F.called_set.mro
  have made := PySem.F.called_set.made
  have sub := PySem.F.called_set.sub
  apply wpAny_call (codeAny_of_tree ?_)
  show wpAny _ _ (callAny (.type "set") _) _ _ _
  apply wpAny_pure
  refine ⟨Code.quiet_builtin _ (by decide +kernel), codeAny_builtin PySem.F.entry_type_call ?_⟩
  rw [Around.under_plain (weight_type_call_type "set" [.ref l] []) rfl]
  have n1 := PySem.F.called_set.notType
  have n2 := PySem.F.called_set.canCreate
  have n3 := PySem.F.typeCall_set_1 (.ref l)
  repeat (any_goals (first | assumption | wp_step))
  apply codeAny_mono (code_set_led1 (.ref l) (E := E) (Q₁ := fun ob s1 => ob = .ref s.heap.objs.size ∧ s1 = { s with heap := s.heap.push (emptySet w) }) ⟨rfl, rfl⟩)
  rintro (e | f) s1 hr
  · exact hr
  · cases f with
    | ret ob =>
      obtain ⟨rfl, rfl⟩ := hr
      have here : (s.heap.push (emptySet w)).get? s.heap.objs.size = some (emptySet w) := Heap.get?_push_size _ rfl
      have ty : Shared.TypeIs { s with heap := s.heap.push (emptySet w) } (.ref s.heap.objs.size) "set" := ⟨_, here, rfl⟩
      have i1 := PySem.F.called_set.init.lookup
      have i2 := PySem.F.called_set.init.bind (.ref s.heap.objs.size)
      repeat (any_goals (first | assumption | wp_step))
      apply codeAny_mono (codeAny_call_builtin (R := wants (fun r s2 => r = .none ∧ ∃ h' tk, s2 = { s with heap := h', toks := tk } ∧ Just prog w h' s.heap.objs.size xs ∧ ∀ b o, b < s.heap.objs.size → s.heap.get? b = some o → h'.get? b = some o) E) PySem.F.called_set.init.plain PySem.F.entry_set_init (check_set_init_1 ty ?_))
      · rintro (e | f) s2 h2
        · exact h2
        · cases f with
          | ret r =>
            obtain ⟨rfl, h', tk, rfl, js, kp⟩ := h2
            repeat (any_goals (first | assumption | wp_step))
            exact h _ _ js kp
          | _ => exact h2.elim
      · obtain ⟨⟨k1, k2, k3, k4⟩, at1, k5, nl, k6⟩ := hl
        simp only at k5 k6
        subst k5
        subst k6
        have at2 : (s.heap.push (emptySet w)).get? l = some { cls := .type "list", dict := k2, data := .seq items nl, slots := k4 } := Heap.get?_push_of_some _ at1
        have u1 := PySem.F.sub_list_set
        have u2 := PySem.F.sub_list_frozenset
        have u3 : (Value.type "list" == Value.type "dict") = false := by decide
        have isl : (s.heap.push (emptySet w)).IsList l items := ⟨_, at2, rfl, nl, rfl⟩
        have lt : @LT.lt Nat _ l s.heap.objs.size := Heap.lt_size at1
        have z1 : (s.heap.push (emptySet w)).objs.size = s.heap.objs.size + 1 := Heap.size_push ..
        have nl1 : l ≠ (s.heap.push (emptySet w)).objs.size := fun z => by
          have z2 : @Eq Nat l _ := z
          omega
        have nD : s.heap.objs.size ∉ [(s.heap.push (emptySet w)).objs.size, l] := by
          intro z
          rcases List.mem_cons.mp z with z | z
          · have z2 : @Eq Nat _ _ := z
            omega
          · have z2 : @Eq Nat _ _ := List.mem_singleton.mp z
            omega
        unfold Builtin.«set.__init__» noKeywords Builtin.Frozenset.updateFrom
        generalize hPI : pyIter = PI
        wp_walk
        subst hPI
        apply wpAny_pyIter_list isl
        apply wpAny_bind (wpAny_runValue ?_)
        apply update_loop (xs := xs) hsz ((Walks.list (A := A.in1.in1.in1) (by simp [hh]) _ l nl1 items).toS) (fun i v e => at_ i v (by rw [Array.getElem?_toList]; exact e)) s.heap.objs.size nD hb (xs.length - 0) 0 _ rfl (Nat.zero_le _)
          ⟨⟨_, Heap.get?_push_size _ rfl, rfl, rfl⟩, isl.push _⟩
        · exact ⟨0, Nat.zero_le _, (setS_fresh (Heap.get?_push_of_some _ here)).is (fun k => by simp) rfl⟩
        · rintro ⟨h', g', d', tk', os'⟩ hm js
          have e1 : g' = s.gens := hm.gens
          have e2 : d' = s.drawn := hm.drawn
          have e3 : os' = s.os := hm.os
          subst e1
          subst e2
          subst e3
          show wpAny _ _ _ _ _ _
          apply wpAny_pure
          show wpAny _ _ (ret Value.none) _ _ _
          apply wpAny_pure
          refine ⟨rfl, h', tk', rfl, js, fun b o hb e => hm.heap b o ?_ (Heap.get?_push_of_some _ (Heap.get?_push_of_some _ e))⟩
          intro z
          rcases List.mem_cons.mp z with z | z
          · have z2 : @Eq Nat _ _ := z
            have hb : @LT.lt Nat _ b s.heap.objs.size := hb
            omega
          · have z2 : @Eq Nat _ _ := List.mem_singleton.mp z
            have hb : @LT.lt Nat _ b s.heap.objs.size := hb
            omega
    | _ => exact hr.elim
theorem strs_of : ∀ (l : List Value), (∀ v ∈ l, ∃ x t, v = Value.str x t) → ∃ xs, StrsAre l xs ∧ xs = l.map strOf
  | [], _ => ⟨[], .nil, rfl⟩
  | v :: l, h => by
    obtain ⟨x, t, rfl⟩ := h v List.mem_cons_self
    obtain ⟨xs, q, rfl⟩ := strs_of l fun u hu => h u (List.mem_cons_of_mem _ hu)
    exact ⟨_, .cons x t q, rfl⟩
theorem sorted_texts {S : PySem.Str → Bool} {n : Nat} {a : Addr} {Q : Value → Shared → Prop} (R : SetS prog w s.heap a S n) (hh : A.handled = none)
    (hQ : ∀ s' p (out : Array Value) (c : Nat) (xs : List PySem.Str), (∀ b o, s.heap.get? b = some o → s'.heap.get? b = some o) → s'.gens = s.gens → s'.os = s.os → s.heap.objs.size ≤ p → s'.heap.get? p = some (seqObj "list" out c) →
      StrsAre out.toList xs → sortedS xs = true → xs.Nodup → (∀ k, k ∈ xs ↔ S k = true) → xs.length = n → Q (.ref p) s') : wpAny (model prog w) A (call (.builtin "sorted") [.ref a]) Q E s := by
  obtain ⟨ob, rows, ep, tb, r⟩ := R
  refine Calls.call_function_entry kind_sorted plain_sorted entry_sorted (args_sorted1 _) (?_)
  unfold Builtin.«sorted»
  refine (wpAny_bind (m := checkCount "sorted" 1 1 _) (wpAny_pure ?_))
  refine (wpAny_bind (collect_set (A := A.in1) hh ⟨ob, r.at_, r.ex.1, r.dt⟩ r.fit r.bd r.ris r.led ?_))
  intro s1 vs k1 z1 g1 o1 pm
  have lv : vs.length = n := by rw [pm.length_eq, List.length_map, Array.length_toList, r.num]
  have bd := r.bd
  have hn := r.num
  obtain ⟨xs, hx, ex⟩ := strs_of vs fun v hv => by
    obtain ⟨e, he, q⟩ := List.mem_map.mp (pm.mem_iff.mp hv)
    obtain ⟨x, tk, e1, _⟩ := r.good e he
    exact ⟨x, tk, by rw [← q]; exact e1⟩
  have px : xs.Perm (rows.toList.map tkey) := by
    have q := pm.map strOf
    rw [List.map_map] at q
    rw [ex]
    exact q
  have few : vs.length ≤ sizeLine := Nat.le_trans (Nat.le_of_lt (by rw [lv, ← hn]; exact bd)) (by decide)
  apply wpAny_bind (wpAny_newList ?_ few)
  have hL : (s1.heap.push (seqObj "list" vs.toArray 0)).get? s1.heap.objs.size = some (seqObj "list" vs.toArray 0) := Heap.get?_push_size _ rfl
  refine wpAny_bind (wpAny_holding (wpAny_call_entry slot_list_sort ⟨_, hL, rfl⟩ entry_list_sort (list_sort_treeKAny strKind_oneLt hL hx.keysOf (fun v1 v2 rest e => keyKind_strs (by rw [← e]; exact hx)) few fun st a1 a2 => ⟨_, rfl, ?_⟩) (args_list_sort _)))
  obtain ⟨ys, b1, b2, b3⟩ := sorted_out_str hx a1 a2
  obtain ⟨c, hc⟩ := sortedHeap_at (vs := vs) (out := (arrOf st).map (·.2)) hL
  have py : ys.Perm (rows.toList.map tkey) := b2.trans px
  refine wpAny_pure ⟨_, rfl, hQ _ s1.heap.objs.size _ c ys ?_ g1 o1 z1 hc b1 b3 (py.nodup_iff.mpr r.nd) (fun k => by rw [py.mem_iff, ← r.mem k]) (by rw [py.length_eq, List.length_map, Array.length_toList, r.num])⟩
  intro b u e
  have q := k1 b u e
  have lt := Heap.lt_size q
  show (sortedHeap (s1.heap.push (seqObj "list" vs.toArray 0)) s1.heap.objs.size vs ((arrOf st).map (·.2))).get? b = some u
  rw [sortedHeap_old (Nat.ne_of_lt lt) (by rw [size_push']; exact Nat.lt_succ_of_lt lt)]
  exact Heap.get?_push_of_some _ q
end
end SS
namespace DL
open PySem PySem.Spec PyProof.Rows L2
structure FnG (P : Program) (w : World) (K : Frg) (mg : Str → Option Value) (base : Heap) (CX : CXT) (k : Nat) (f : Addr) (fd : FuncData) (ps : List Str) (sp : Sp) : Prop where
  many : ∀ vs H Q E, sp vs H Q E → vs.length = ps.length
  goes : ∀ (A : Around) (outer : List Env) (s : Shared) (H : Hp) (args : Args) (us : List Value) (vs : List V) (Q : VK) (E : XK), A.guards = some [] → Room k A → Env0 P w K mg base A outer s H → BindsTo s fd args (ps.zip us) → Vals vs us → sp vs H Q E → codeAny (model P w) A (.call (.ref f) args) (CR CX outer P w H s Q E) s
theorem guards_deeper {A : Around} {env : Env} (h : A.guards = some []) : (A.deeper env).guards = some [] := h
section
variable {CX : CXT} {P : Program} {w : World} {K : Frg} {mg : Str → Option Value} {base : Heap} {k : Nat} {f : Addr} {fd : FuncData} {ps : List Str} {sp : Sp}
theorem FnG.of (F : FnOk P w K mg base CX k f fd ps sp) : FnG P w K mg base CX k f fd ps sp := ⟨F.len, fun A outer s H args us vs Q E _ => F.run A outer s H args us vs Q E⟩
theorem fnG_of {x qual : Str} {pa : Arguments} {body : List Stmt} {sc : Scope} {dV kV dc pm cv ct oc : Value} {an od : Option Addr} {sl : Array (Option Value)} {N : List Str}
    (lk : K.lookup f = some ⟨oc, od, .func (PySem.W.fnOf x qual pa body sc dV kV dc pm an cv ct), sl⟩) (hc : PySem.W.codeIn K cv qual = true) (S : FnScope N ps sc) (many : ∀ vs H Q E, sp vs H Q E → vs.length = ps.length)
    (hb : ∀ (A : Around) (outer : List Env) (s : Shared) (H : Hp) (vs : List V) (Q : VK) (E : XK), (A.deeper (envOfC qual sc s.heap.objs.size f cv)).guards = some [] → Room k (A.deeper (envOfC qual sc s.heap.objs.size f cv)) → sp vs H Q E →
      ∃ t, PSs (cxOf CX P w K mg base N qual sc f cv A outer s H E) body t ∧ t { nx := fun _ H' => Q .non H', rt := Q } (L2.start N vs) H) :
    FnG P w K mg base CX (k + 1) f (PySem.W.fnOf x qual pa body sc dV kV dc pm an cv ct) ps sp := by
  constructor
  · exact many
  · intro A outer s H args us vs Q E gu hr e0 bi rv hs
    have kin : K.In s.heap := e0.mod.kin.keeps (fun b o e => (e0.bs b o e).1)
    have nol : s.heap.NoLimit := e0.mod.nolimit.keeps (fun b o e => (e0.bs b o e).1)
    have kinds : ∀ y ∈ ps.zip us, sc.names.lookup y.1 = some .local ∨ (sc.names.lookup y.1 = some .cell ∧ ((cellsFrom (s.heap.objs.size + 1) sc.names []).lookup y.1).isSome = true) := by
      rintro ⟨n, v⟩ hy
      exact (S.par n (List.of_mem_zip hy).1).imp id (fun q => ⟨q, PySem.W.cellsFrom_some _ _ _ (.inl q)⟩)
    apply codeAny_call_function hr.depth (kin _ _ lk) rfl S.co S.gen rfl (PySem.W.codeRec_of kin hc)
    apply bi
    apply wpAny_newFunctionEnv_cells S.kind kinds
    intro env he s1 x1
    subst he
    refine And.intro (nol.keeps x1.toInCall.keep) (codeAny_func ?_)
    obtain ⟨t, ht, hq⟩ := hb A outer s H vs Q E (guards_deeper gu) (hr.deeper _) hs
    have J0 := inv_start (CX := CX) (E := E) S hr.hd e0 (many _ _ _ _ hs) rv x1
    refine wpAny_mono (ht.run [] s1 _ H _ J0 hq) ?_ (fun e s' z => z)
    intro fl s' z
    match fl, z with
    | .ret u, ⟨v, σ', H', J, r', q⟩ => exact ⟨v, H', J.os, J.bare, J.base, J.hok, r', q⟩
    | .next, ⟨σ', H', J, q⟩ => exact ⟨V.non, H', J.os, J.bare, J.base, J.hok, rfl, q⟩
    | .brk, ⟨_, _, _, q⟩ => exact q.elim
    | .cont, ⟨_, _, _, q⟩ => exact q.elim
theorem okG {x qual : Str} {st : Stmt} {N : List Str} (F : Fun K x qual st f fd) (S : FnScope N ps (defScope st)) (many : ∀ vs H Q E, sp vs H Q E → vs.length = ps.length)
    (hb : ∀ (cv : Value) (A : Around) (outer : List Env) (s : Shared) (H : Hp) (vs : List V) (Q : VK) (E : XK), (A.deeper (envOfC qual (defScope st) s.heap.objs.size f cv)).guards = some [] → Room k (A.deeper (envOfC qual (defScope st) s.heap.objs.size f cv)) → sp vs H Q E →
      ∃ t, PSs (cxOf CX0 P w K mg base N qual (defScope st) f cv A outer s H E).nox (defBody st) t ∧ t { nx := fun _ H' => Q .non H', rt := Q } (L2.start N vs) H) : FnG P w K mg base CX0 (k + 1) f fd ps sp := by
  obtain ⟨oc, od, kV, dc, pm, an, cv, ct, sl, rfl, lk, hc⟩ := F.ex
  apply fnG_of lk hc S many
  intro A outer s H vs Q E g hr hs
  obtain ⟨t, h, q⟩ := hb cv A outer s H vs Q E g hr hs
  exact ⟨t, h.nox, q⟩
end
theorem cr_repr {X : Cx} (hg : X.A.guards = some []) (hu : X.A.units + 64 < cLine) : CallR X (.builtin "repr") (fun xs H Q => ∃ v d, xs = [v] ∧ Dp X.K H v d ∧ d.showable = true ∧ d.depth ≤ 60 ∧ d.shown.length ≤ sizeLine ∧ d.hasDict = false ∧ Q (.str d.shown) H) := by
  intro pins s σ H xs us Q I r h
  obtain ⟨v, d, rfl, hd, h1, h2, h3, h4, q⟩ := h
  obtain ⟨u, rfl, ru⟩ := r.one
  obtain ⟨as, hr⟩ := Dp.reads I d v u hd ru
  have nd : d.hasDict = true → sysModules ∉ as := fun z => by rw [h4] at z; cases z
  cases hr with
  | none =>
    simp only [PyData.shown] at q
    exact PySem.P.repr_of_none ⟨.str _, H, I.tok _, ⟨_, rfl⟩, q⟩
  | bool b =>
    simp only [PyData.shown] at q
    exact PySem.P.repr_of_bool ⟨.str _, H, I.tok _, ⟨_, rfl⟩, q⟩
  | int i t =>
    simp only [PyData.shown] at q
    exact PySem.P.repr_of_int (by simpa [PyData.showable] using h1) ⟨.str _, H, I.tok _, ⟨_, rfl⟩, q⟩
  | str x t =>
    simp only [PyData.shown] at q h3
    exact PySem.P.repr_of_str ⟨.str _, H, I.tok _, ⟨_, rfl⟩, q⟩ h3
  | list a1 a2 a3 a4 => exact repr_of_reads' (.list a1 a2 a3 a4) h1 nd hg (by omega) (fun _ _ e => e) (fun h' u tk hk => ⟨.str _, H, I.kept hk, ⟨_, rfl⟩, q⟩) h3
  | tuple a1 a2 a3 a4 => exact repr_of_reads' (.tuple a1 a2 a3 a4) h1 nd hg (by omega) (fun _ _ e => e) (fun h' u tk hk => ⟨.str _, H, I.kept hk, ⟨_, rfl⟩, q⟩) h3
  | dict a1 a2 a3 a4 a5 => cases hd
theorem cw_repr {K : Frg} {d : PyData} {Pd : PyData → Prop} (h1 : d.showable = true) (h2 : d.depth ≤ 60) (h3 : d.shown.length ≤ sizeLine) (h4 : d.hasDict = false) (p : Pd (.str d.shown)) :
    CW K (fun xs H Q => ∃ v d, xs = [v] ∧ Dp K H v d ∧ d.showable = true ∧ d.depth ≤ 60 ∧ d.shown.length ≤ sizeLine ∧ d.hasDict = false ∧ Q (.str d.shown) H) [d] Pd := fun T B ws σ I H vs k a Q q => by
  cases a with
  | cons h r =>
    cases r
    exact ⟨_, d, rfl, dp_of k h, h1, h2, h3, h4, q _ _ _ _ p k (Same.refl I) (.str _)⟩
theorem law_goes {P : Program} {w : World} {K : Frg} {mg mb : Str → Option Value} {k : Nat} {fa a : Addr} {fd : FuncData} {x : Str} {sp : Sp} {s : Shared} {vs : List Value} {ns : List Int}
    (kin : K.In s.heap) (ng : s.heap.Ns mainGlobals mg) (nb : s.heap.Ns builtinsNs mb) (eb : ∀ x : Str, x ≠ "__name__" → mb x = bootBuiltins x) (nl : s.heap.NoLimit) (g0 : s.gens = #[])
    (ha : s.heap.get? a = some { cls := .type "list", data := .seq vs.toArray }) (hi : IntsAre vs ns) (hl : ns.length ≤ sizeLine) (hr : Room k callerA)
    (F : ∀ base : Heap, K.In base → base.Ns mainGlobals mg → FnG P w K mg base CX0 k fa fd [x] sp) (bi : ∀ (s : Shared) (u : Value), BindsTo s fd ⟨[u], []⟩ [(x, u)])
    (hs : ∀ H : Hp, Only H → SqL K H a (ns.map V.int) → sp [.ref a] H (fun v _ => v = .bl true) fun _ _ _ => False) :
    codeAny (model P w) callerA (.call (.ref fa) ⟨[.ref a], []⟩) (fun r s' => r = .ok (.ret (.bool true)) ∧ OldK s.heap s'.heap ∧ s'.os = s.os ∧ AllBare s'.gens) s := by
  have rv := vals_ints hi
  have key : ∀ H : Hp, Only H → SqL K H a (ns.map V.int) → HOk P w H s.heap → (∀ b, H b ≠ none → b = a ∧ K.lookup a = none) →
      codeAny (model P w) callerA (.call (.ref fa) ⟨[.ref a], []⟩) (fun r s' => r = .ok (.ret (.bool true)) ∧ OldK s.heap s'.heap ∧ s'.os = s.os ∧ AllBare s'.gens) s := by
    intro H only sq hok dom
    have stays : ∀ b o, s.heap.get? b = some o → H b = none → (hidT s.heap H).get? b = some o := fun _ _ e n => hidT_get e n
    have plain : ∀ b o, s.heap.get? b = some o → (∀ u, o.data ≠ .seq vs.toArray u) → H b = none := by
      intro b o e d
      rcases h : H b with _ | u
      · rfl
      · have z := (dom b (by rw [h]; exact nofun)).1
        rw [z, ha] at e
        cases e
        exact absurd rfl (d _)
    have ns_ : ∀ (b : Addr) (m : Str → Option Value), s.heap.Ns b m → (hidT s.heap H).Ns b m := by
      rintro b m ⟨o, es, ep, e, d, r⟩
      exact ⟨o, es, ep, stays b o e (plain b o e fun u z => by rw [d] at z; cases z), d, r⟩
    have kb : K.In (hidT s.heap H) := by
      intro b o e
      apply stays b o (kin b o e)
      rcases h : H b with _ | u
      · rfl
      · obtain ⟨z, y⟩ := dom b (by rw [h]; exact nofun)
        rw [z, y] at e
        cases e
    obtain ⟨mc, c1, c2⟩ := nl
    have e0 : Env0 P w K mg (hidT s.heap H) callerA [] s H := by
      constructor
      · rfl
      · exact ⟨kb, ns_ _ _ ng, ⟨mb, ns_ _ _ nb, eb⟩, ⟨mc, ns_ _ _ c1, c2⟩⟩
      · exact fun b o e => of_hidT e
      · exact Nat.le_of_eq (hidT_size _ _)
      · trivial
      · exact fun b hb => nomatch hb
      · exact hok
      · exact .of_eq g0
    apply codeAny_mono ((F _ kb (ns_ _ _ ng)).goes callerA [] s H ⟨[.ref a], []⟩ [.ref a] [.ref a] _ _ rfl hr e0 (bi s (.ref a)) (.cons rfl .nil) (hs H only sq))
    rintro (e | f) s' z
    · exact z.elim
    · match f, z with
      | .ret u, ⟨v, H', os, bare, un, ok', r', q⟩ =>
        have q : v = .bl true := q
        subst q
        have r' : u = Value.bool true := r'
        subst r'
        refine ⟨rfl, OldK.of_keep ?_, os, bare⟩
        intro b o e
        rcases h : H b with _ | u
        · exact un.keep b o e h (fun z => nomatch z) (fun z => nomatch z)
        · rcases only b with z | ⟨ob, xs, z⟩
          · rw [h] at z
            cases z
          · have y1 := (hok b _ z).1
            have y2 := (ok' b _ (un.frzs b ob _ z)).1
            rw [e] at y1
            cases y1
            exact y2
  rcases hk : K.lookup a with _ | o
  · have one : ∀ b, (fun b => if b = a then some (HO.frz { cls := .type "list", data := .seq vs.toArray } (.lst (ns.map V.int))) else none) b ≠ none → b = a := fun b hb => by
      by_cases z : b = a
      · exact z
      · exact absurd (if_neg z) hb
    apply key (fun b => if b = a then some (.frz { cls := .type "list", data := .seq vs.toArray } (.lst (ns.map V.int))) else none)
    · intro b
      by_cases z : b = a
      · exact .inr ⟨_, _, if_pos z⟩
      · exact .inl (if_neg z)
    · exact .inl (.inr ⟨_, if_pos rfl⟩)
    · intro b u hu
      have z := one b (by rw [hu]; exact nofun)
      subst z
      have hu := (if_pos rfl).symm.trans hu
      cases hu
      exact ⟨ha, (by rw [List.length_map]; exact hl), vs, _, rv, ha⟩
    · exact fun b hb => ⟨one b hb, hk⟩
  · have e := kin a o hk
    rw [ha] at e
    cases e
    refine key (fun _ => none) (fun _ => .inl rfl) (.inr ⟨_, vs.toArray, _, hk, rfl, rfl, rfl, ?_, by simpa using rv⟩) (fun b u z => nomatch z) (fun b z => absurd rfl z)
    rw [List.size_toArray, hi.length]
    exact hl
theorem walk_goes {l : PySem.W.OpenLaw} {n k : Nat} {q : Program} {loose : List Str} {XP : (Str → Option Value) → Heap → Prop} {YP : World → Heap → Prop} {d : DefRec} {K : Params → Frg} {sp : Frg → Sp} {x : Str}
    (hn : l.most = some n) (hn2 : n ≤ sizeLine) (hdf : d.params.defaults = []) (hr : Room k callerA) (hY : ∀ (w : World) (h : Heap), YP w h → (K w.params).In h)
    (F : ∀ (w : World) (mg : Str → Option Value) (fa : Addr) (h : Heap), (K w.params).In h → h.Ns mainGlobals mg → mg d.name = some (.ref fa) →
      ∃ fd : FuncData, (∀ (s : Shared) (u : Value), BindsTo s fd ⟨[u], []⟩ [(x, u)]) ∧ ∀ base : Heap, (K w.params).In base → base.Ns mainGlobals mg → FnG l.prog w (K w.params) mg base CX0 k fa fd [x] (sp (K w.params)))
    (hs : ∀ (K : Frg) (H : Hp) (a : Addr) (ns : List Int), ns.length ≤ n → Only H → SqL K H a (ns.map V.int) → sp K [.ref a] H (fun v _ => v = .bl true) fun _ _ _ => False) :
    PySem.W.WalkO q loose XP YP l.row.toRowW d [] (fun f vs => PySem.call f vs) := by
  apply Att.attach_call hn hdf
  intro w s0 s1 mg mb fa o pm cd doc a vs ns G Y ho hd hcd hmg hobj hints hlen hg
  have kin := hY w _ Y
  obtain ⟨fd, hb, hF⟩ := F w mg fa _ kin G.T.g hmg
  exact law_goes kin G.T.g G.T.b G.T.builtins G.T.nolimit hg hobj hints (Nat.le_trans hlen hn2) hr hF hb (fun H hO hS => hs _ H a ns hlen hO hS)
end DL
namespace SS
open PySem PySem.Spec PyProof.Rows L2 DL
def SetSO (P : Program) (w : World) (a : Addr) (S : PySem.Str → Bool) (n : Nat) : HO := .ext fun h => SetS P w h a S n
theorem setSO_new {w : World} {P : Program} {H : Hp} {h : Heap} {a : Addr} {S : PySem.Str → Bool} {n : Nat} (R : SetS P w h a S n) : ObjOk P w H h a (SetSO P w a S n) := ⟨R, R.some, fun h1 h2 p k => SetS.keep p k⟩
theorem strs_vals : ∀ {xs : List PySem.Str} {us : List Value}, Vals (xs.map V.str) us → StrsAre us xs
  | [], _, .nil => .nil
  | x :: xs, _, .cons r t => by
    obtain ⟨tk, rfl⟩ := r
    exact .cons x tk (strs_vals t)
theorem vals_strs : ∀ {us : List Value} {xs : List PySem.Str}, StrsAre us xs → Vals (xs.map V.str) us
  | _, _, .nil => .nil
  | _, _, .cons x t h => .cons ⟨t, rfl⟩ (vals_strs h)
section
variable {X : Cx}
def rSetT (K : Frg) (P : Program) (w : World) : List V → Hp → VK → Prop := fun vs H Q => ∃ (l : Addr) (xs : List PySem.Str), vs = [V.ref l] ∧ SqL K H l (xs.map V.str) ∧ xs.length + 1 < scanBound ∧ ∀ p n, H p = none → n ≤ xs.length → Q (.ref p) (upd H p (SetSO P w p (fun k => decide (k ∈ xs)) n))
theorem cr_setT (hc : X.calm = true) : CallR X (.type "set") (rSetT X.K X.prog X.w) := by
  intro pins s σ H vs us Q I r h
  obtain ⟨l, xs, rfl, hl, hb, q⟩ := h
  rw [Vals.ref1 r]
  obtain ⟨its, rv, pl, hz⟩ := I.list hl
  apply call_set (I.ok.hd hc) pl.isList (by simpa using strs_vals rv) hb
  rintro h' tk ⟨n, hn, js⟩ kp
  have fr : H s.heap.objs.size = none := I.hok.fresh (Nat.le_refl _)
  exact ⟨.ref s.heap.objs.size, upd H s.heap.objs.size (SetSO X.prog X.w s.heap.objs.size (fun k => decide (k ∈ xs)) n), I.laid (t' := tk) (fun b o e => kp b o (Heap.lt_size e) e) (Nat.le_refl _) (setSO_new js), rfl, q _ n fr hn⟩
def rSortT (P : Program) (w : World) : List V → Hp → VK → Prop := fun vs H Q => ∃ (a : Addr) (S : PySem.Str → Bool) (n : Nat), vs = [V.ref a] ∧ H a = some (SetSO P w a S n) ∧
  ∀ (ys : List PySem.Str) (p : Addr), sortedS ys = true → ys.Nodup → (∀ k, k ∈ ys ↔ S k = true) → ys.length = n → H p = none → Q (.ref p) (upd H p (.lst (ys.map V.str)))
theorem cr_sortT (hc : X.calm = true) : CallR X (.builtin "sorted") (rSortT X.prog X.w) := by
  intro pins s σ H vs us Q I r h
  obtain ⟨a, S, n, rfl, ha, q⟩ := h
  have R : SetS X.prog X.w s.heap a S n := (I.hok a _ ha).1
  have hn : n < scanBound := by
    obtain ⟨ob, rows, ep, tb, x⟩ := R
    rw [← x.num]
    exact x.bd
  rw [Vals.ref1 r]
  apply sorted_texts R (I.ok.hd hc)
  intro s' p out c ys k g o hp hg hs so nd mem len
  have fr : H p = none := I.hok.fresh hp
  have few : (ys.map V.str).length ≤ sizeLine := by
    rw [List.length_map, len]
    exact Nat.le_trans (Nat.le_of_lt hn) (by decide)
  have J : Inv X pins σ (upd H p (.lst (ys.map V.str))) { s with heap := s'.heap, gens := s'.gens, drawn := s'.drawn, toks := s'.toks } :=
    I.call (ch := []) (Un.laid k hp fr) (I.hok.laid k hp ⟨few, out.toList, c, vals_strs hs, hg⟩) (by rw [g]; exact I.bare) (fun _ z => nomatch z)
  have e : s' = { s with heap := s'.heap, gens := s'.gens, drawn := s'.drawn, toks := s'.toks } := by
    obtain ⟨_, _, _, _, _⟩ := s'
    obtain ⟨_, _, _, _, _⟩ := s
    cases o
    rfl
  rw [e]
  exact ⟨.ref p, _, J, rfl, q ys p so nd mem len fr⟩
end
theorem ef_sortset {K : Frg} {P : Program} {w : World} {ws : List SD} {te : TE} {PA : List PyData → List SD → Prop}
    (h : EW K ws te fun x w1 => ∃ xs : List PySem.Str, x = .list (xs.map .str) ∧ xs.length + 1 < scanBound ∧ ∀ ys : List PySem.Str, sortedS ys = true → ys.Nodup → (∀ k, k ∈ ys ↔ k ∈ xs) → PA (ys.map .str) w1) :
    EF K ws (tCB (rSortT P w) (tCons (tCB (rSetT K P w) (tCons te tNil)) tNil)) PA := fun T B σ I H k Q q => by
  refine h T B σ I H k _ fun v d w1 I1 H1 p1 k1 s1 a1 => ?_
  obtain ⟨xs, rfl, hb, p1⟩ := p1
  obtain ⟨l, us, rfl, hs, ha⟩ := a1.list_inv
  obtain rfl := ha.strs
  refine ⟨l, xs, rfl, .inl (.inl (k1.sub _ _ hs)), hb, fun p n hp hn => ?_⟩
  obtain ⟨k2, n2⟩ := k1.hand (o := SetSO P w p (fun k => decide (k ∈ xs)) n) hp
  refine ⟨p, _, n, rfl, upd_same, fun ys p2 so nd mem len hp2 => ?_⟩
  obtain ⟨k3, n3⟩ := k2.hand (o := .lst (ys.map V.str)) hp2
  have ne : p ≠ p2 := fun z => by
    rw [← z, upd_same] at hp2
    cases hp2
  have n3' : T p2 = none := by
    rw [upd_ne ne.symm] at n3
    exact n3
  refine q p2 _ _ w1 I1 _ (p1 ys so nd fun k => (mem k).trans decide_eq_true_iff) n3' (k3.drop ?_ n3' n2) s1 (DaL.ofStrs ys)
  exact ne
end SS
namespace DL
open PySem PySem.Spec PyProof.Rows L2
def Cst (K : Frg) (mg : Str → Option Value) (x : Str) (d : PyData) : Prop := ∃ u v, mg x = some u ∧ RelV v u ∧ Da K (fun _ => none) v d
def tCst (K : Frg) (d : PyData) : TE := fun σ H Q => ∀ v, Da K (fun _ => none) v d → Q v H
theorem pe_cst {X : Cx} {x : Str} {d : PyData} {p : Pos} (hg : Gl X x) (c : Cst X.K X.mg x d) (hdb : (x == ("__debug__" : Str)) = false := by decide) : PE X (.Name x p) (tCst X.K d) := by
  obtain ⟨u, v, m, r, a⟩ := c
  exact ⟨fun pins s σ H Q I h => (pe_glob hg m r hdb).run pins s σ H Q I (h v a)⟩
theorem ew_cst {K : Frg} {ws : List SD} {d : PyData} {P : PyData → List SD → Prop} (p : P d ws) : EW K ws (tCst K d) P := fun T B σ I H k Q q v a => q _ _ _ _ _ p k (Same.refl I) (a.mono fun _ _ e => by cases e)
def gOne {α : Type} (us ws : List α) : List α := match us, ws with | [], [a] => [a] | _, _ => []
def gSw {α : Type} (us ws : List α) : List α := match us, ws with | [], [a, b] => [b, a] | _, _ => []
def DfK (P : Program) (w : World) (K : Frg) (mg : Str → Option Value) (base : Heap) (k : Nat) (x : Str) (ps ks : List Str) (g : List Value → List Value → List Value) (gV : List V → List V → List V) (sp : Sp) : Prop :=
  ∃ f fd, FnOk P w K mg base CX0 k f fd ps sp ∧ mg x = some (.ref f) ∧ PySem.W.keepIn K (.ref f) = true ∧ KBinds K fd ps ks g gV
section
variable {X : Cx} {k j : Nat} {x : Str} {ps ks : List Str} {sp : Sp} {p pos : Pos} {kws : List Keyword} {tk : TA} {g : List Value → List Value → List Value} {gV : List V → List V → List V}
theorem pe_dfK (G : DfK X.prog X.w X.K X.mg X.base k x ps ks g gV sp) (hr : Room j X.A) (hj : k ≤ j) (hg : Gl X x) (hkw : PK X kws tk)
    (hall : (backToKw pos (keywordEach kws X.env)).all (·.1.isSome) = true := by rfl) (hks : (backToKw pos (keywordEach kws X.env)).filterMap (·.1) = ks := by rfl) (hdb : (x == ("__debug__" : Str)) = false := by decide)
    (hpl : ((backTo pos (starEach [] X.env)).any (·.1) || (backToKw pos (keywordEach kws X.env)).any (·.1.isNone)) = false := by rfl) : PE X (.Call (.Name x p) [] kws pos) (tCallK sp gV E0 tNil tk) := by
  obtain ⟨f, fd, F, m, kp, b⟩ := G
  constructor
  intro pins s σ H Q I h
  apply wpAny_Call_Name_kw
  apply ld_glob I hg m ?_ hdb
  apply PySem.W.callWith_KW0 (h₀ := X.base) I.ok.mod.kin kp hall ?_ hpl
  apply thn (hkw.run pos pins s σ H _ I h)
  rintro ws s2 ⟨zs, H2, I2, rz, q2⟩
  refine ⟨I2.kIn, ?_⟩
  rw [hks]
  exact run_fnk F (hr.mono hj) b pass0 I2 .nil rz q2
end
theorem gSw_rel {vs : List V} {us : List Value} {zs : List V} {ws : List Value} (r : Vals vs us) (q : Vals zs ws) : Vals (gSw vs zs) (gSw us ws) := by
  cases r with
  | cons _ _ => exact .nil
  | nil =>
    cases q with
    | nil => exact .nil
    | cons a q =>
      cases q with
      | nil => exact .nil
      | cons b q =>
        cases q with
        | nil => exact .cons b (.cons a .nil)
        | cons _ _ => exact .nil
theorem gOne_rel {vs : List V} {us : List Value} {zs : List V} {ws : List Value} (r : Vals vs us) (q : Vals zs ws) : Vals (gOne vs zs) (gOne us ws) := by
  cases r with
  | cons _ _ => exact .nil
  | nil =>
    cases q with
    | nil => exact .nil
    | cons a q =>
      cases q with
      | nil => exact .cons a .nil
      | cons _ _ => exact .nil
theorem kb_sw {K : Frg} {fd : FuncData} {a b : Str} (h : ∀ u v : Value, bindArgs fd ⟨[], [(b, u), (a, v)]⟩ = pure [(a, v), (b, u)]) : KBinds K fd [a, b] [b, a] gSw gSw := by
  refine ⟨fun s us ws _ hl => ?_, gSw_rel⟩
  match us, ws, hl with
  | [], [u, v], _ => exact .of_eq (h u v)
theorem kb_one {K : Frg} {fd : FuncData} {a : Str} (h : ∀ u : Value, bindArgs fd ⟨[], [(a, u)]⟩ = pure [(a, u)]) : KBinds K fd [a] [a] gOne gOne := by
  refine ⟨fun s us ws _ hl => ?_, gOne_rel⟩
  match us, ws, hl with
  | [], [u], _ => exact .of_eq (h u)
section
variable {K : Frg} {ws : List SD} {tk : TA} {pre : List PyData → (PyData → Prop) → Prop} {E : XK} {P : PyData → List SD → Prop}
theorem ew_callSw (h : AW K ws tk fun ds w => ∃ x y, ds = [x, y] ∧ ∃ R, pre [y, x] R ∧ ∀ d, R d → P d w) : EW K ws (tCallK (SpP K pre) gSw E tNil tk) P := fun T B σ I H k Q q => by
  refine h T B σ I H k _ fun vs ds w I1 H1 p k1 s1 a1 => ?_
  obtain ⟨x, y, rfl, R, hp, hr⟩ := p
  cases a1 with
  | cons h1 r =>
    cases r with
    | cons h2 r =>
      cases r
      exact ⟨rest I1 H1, I1, I1, _, R, k1.give, .cons h2 (.cons h1 .nil), hp, fun v d I' H' rd k' e a => q v d w I' H' (hr d rd) (k1.take k') (s1.trans e) a⟩
theorem ew_callOne (h : AW K ws tk fun ds w => ∃ x, ds = [x] ∧ ∃ R, pre [x] R ∧ ∀ d, R d → P d w) : EW K ws (tCallK (SpP K pre) gOne E tNil tk) P := fun T B σ I H k Q q => by
  refine h T B σ I H k _ fun vs ds w I1 H1 p k1 s1 a1 => ?_
  obtain ⟨x, rfl, R, hp, hr⟩ := p
  cases a1 with
  | cons h1 r =>
    cases r
    exact ⟨rest I1 H1, I1, I1, _, R, k1.give, .cons h1 .nil, hp, fun v d I' H' rd k' e a => q v d w I' H' (hr d rd) (k1.take k') (s1.trans e) a⟩
end
section
variable {P : Program} {w : World} {K : Frg} {mg : Str → Option Value} {base : Heap} {k : Nat} {f : Addr} {fd : FuncData} {ps : List Str} {x qual : Str} {st : Stmt} {N : List Str}
theorem okP {pre : List PyData → (PyData → Prop) → Prop} (F : Fun K x qual st f fd) (S : FnScope N ps (defScope st)) (many : ∀ ds R, pre ds R → ds.length = ps.length)
    (hb : ∀ (cv : Value) (A : Around) (outer : List Env) (s : Shared) (H : Hp) (Q : VK) (E : XK) (ds : List PyData) (R : PyData → Prop), Room k (A.deeper (envOfC qual (defScope st) s.heap.objs.size f cv)) → pre ds R →
      ∃ t, PSs (cxOf CX0 P w K mg base N qual (defScope st) f cv A outer s H E).nox (defBody st) t ∧
        ∀ T I, (∀ ws d B', R d → Same I B' → RT K T B' ws d Q) → SW K T I (ds.map .dat ++ List.replicate (N.length - ds.length) .un) t { nx := fun _ H' => Q .non H', rt := Q }) : FnOk P w K mg base CX0 (k + 1) f fd ps (SpP K pre) := by
  refine F.ok S (fun vs H Q E h => ?_) (fun cv A outer s H vs Q E hr h => ?_)
  · obtain ⟨T, B, I, ds, R, k, a, p, q⟩ := h
    exact a.length.trans (many ds R p)
  · obtain ⟨T, B, I, ds, R, k, a, p, q⟩ := h
    obtain ⟨t, ht, hq⟩ := hb cv A outer s H Q E ds R hr p
    exact ⟨t, ht, body_P k a (hq T I fun ws d B' hd e => rt_P (pre := True) k q hd e)⟩
theorem okR {pre : Cel → List PyData → Cel → (PyData → Prop) → Prop} (F : Fun K x qual st f fd) (S : FnScope N ps (defScope st)) (many : ∀ c ds c' R, pre c ds c' R → ds.length + 1 = ps.length)
    (fix : ∀ c ds c' R, pre c ds c' R → ∃ v, (∀ F u I H, c.ok F u I H → u = v) ∧ ∀ F u I H, c'.ok F u I H → u = v)
    (hb : ∀ (cv : Value) (A : Around) (outer : List Env) (s : Shared) (H : Hp) (Q : VK) (E : XK) (c c' : Cel) (ds : List PyData) (R : PyData → Prop), Room k (A.deeper (envOfC qual (defScope st) s.heap.objs.size f cv)) → pre c ds c' R →
      ∃ t, PSs (cxOf CX0 P w K mg base N qual (defScope st) f cv A outer s H E).nox (defBody st) t ∧
        ∀ T I, (∀ ws d B', R d → Same I B' → ws[0]? = some (.cel c') → RT K T B' ws d Q) → SW K T I (.cel c :: (ds.map .dat ++ List.replicate (N.length - (ds.length + 1)) .un)) t { nx := fun _ H' => Q .non H', rt := Q }) : FnOk P w K mg base CX0 (k + 1) f fd ps (SpR K pre) := by
  refine F.ok S (fun vs H Q E h => ?_) (fun cv A outer s H vs Q E hr h => ?_)
  · obtain ⟨T, B, I, v0, us, c, c', ds, R, rfl, k, a, p, q⟩ := h
    rw [List.length_cons, a.length]
    exact many c ds c' R p
  · obtain ⟨T, B, I, v0, us, c, c', ds, R, rfl, k, a, p, q⟩ := h
    obtain ⟨v, f1, f2⟩ := fix c ds c' R p
    obtain rfl := k.vfix f1
    obtain ⟨t, ht, hq⟩ := hb cv A outer s H Q E c c' ds R hr p
    exact ⟨t, ht, body_R k a (hq T I fun ws d B' hd e hw => rt_R k q hd f2 hw e)⟩
end
end DL
namespace DL
open PySem PySem.Spec PyProof.Rows L2
def SpF (K : Frg) (pre : List PyData → (List PyData → Prop) → Prop) : Sp := fun vs H Q _ => ∃ T B I ds R, Ok K T B [] [] I H ∧ DaL K I vs ds ∧ pre ds R ∧
  ∀ p xs es I' H', R es → T p = none → Ok K (upd T p (.lst xs)) B [] [] I' H' → Same I I' → DaL K I' xs es → Q (.ref p) H'
def RF (K : Frg) (T B : Hp) (ws : List SD) (ds : List PyData) (N : V → Hp → Prop) : Prop := ∀ σ I H p xs, T p = none → Ok K (upd T p (.lst xs)) B ws σ I H → DaL K I xs ds → N (.ref p) H
section
variable {K : Frg} {T B I I' H H' : Hp} {ws : List SD} {σ : L2.St} {te : TE} {D : Ends}
theorem RF.up {B' : Hp} {N : V → Hp → Prop} {ds : List PyData} (h : RF K T B ws ds N) (e : Same B B') : RF K T B' ws ds N := fun σ I H p xs n k a => h σ I H p xs n (k.less e) a
theorem sw_retE (h : EF K ws te fun ds w => RF K T B w ds D.rt) : SW K T B ws (tRet te) D := fun σ I H k => h T B σ I H k _ fun p xs ds w I1 H1 p1 n1 k1 s1 a1 => p1 σ I1 H1 p xs n1 k1 a1
theorem Ok.handOver {i : Nat} {ds : List PyData} (k : Ok K T B ws σ I H) (h : ws[i]? = some (.mut ds)) : ∃ p xs, σ[i]? = some (some (.ref p)) ∧ T p = none ∧ DaL K I xs ds ∧ Ok K (upd T p (.lst xs)) B (ws.set i .un) σ I H := by
  obtain ⟨ft, k⟩ := k
  obtain ⟨p, xs, h1, h2, h3, h4⟩ := k.sl i _ h
  obtain ⟨hI, hT, hH⟩ := k.own i p h2
  refine ⟨p, xs, ?_, hT, h4, fun j => if i = j then [] else ft j, k.sub, fun b x q => ?_, k.bse, fun b hb => ?_, by rw [List.length_set]; exact k.len, fun a b c ha hb => ?_, fun j a ha => ?_, fun j w hw => ?_⟩
  · cases e : σ[i]? with
    | none => rw [e] at h1; cases h1
    | some x => rw [e] at h1; exact congrArg some h1
  · by_cases z : b = p
    · subst z
      rw [upd_same] at q
      cases q
      exact h3
    · rw [upd_ne z] at q
      exact k.oth b x q
  · by_cases z : b = p
    · subst z
      exact hI
    · rw [upd_ne z] at hb
      exact k.ti b hb
  · have ha : c ∈ if i = a then [] else ft a := ha
    have hb : c ∈ if i = b then [] else ft b := hb
    split at ha
    · cases ha
    · split at hb
      · cases hb
      · exact k.ap a b c ha hb
  · have ha : a ∈ if i = j then [] else ft j := ha
    split at ha
    · cases ha
    · rename_i q
      obtain ⟨e1, e2, e3⟩ := k.own j a ha
      have z : a ≠ p := fun z => q (k.ap i j p h2 (z ▸ ha))
      rw [upd_ne z]
      exact ⟨e1, e2, e3⟩
  · rcases set_get hw with ⟨q, rfl⟩ | ⟨q, hw⟩
    · trivial
    · show Sl K I H (if i = j then [] else ft j) _ w
      rw [if_neg q]
      exact k.sl j w hw
theorem sw_retH {i : Nat} {ds : List PyData} (hi : ws[i]? = some (.mut ds)) (h : RF K T B (ws.set i .un) ds D.rt) : SW K T B ws (tRet (tVar i)) D := fun σ I H k => by
  obtain ⟨p, xs, e, n, a, k'⟩ := k.handOver hi
  exact ⟨_, e, h σ I H p xs n k' a⟩
theorem rf_mk {n : L2.St → Hp → Prop} {a : V → Hp → Prop} {b c : L2.St → Hp → Prop} {ds : List PyData} (h : RF K T B ws ds a) : RF K T B ws ds (Ends.rt (Ends.mk n a b c)) := h
theorem Ok.takeF {p : Addr} {xs : List V} (k : Ok K T B ws σ I H) (n : rest I H p = none) (k' : Ok K (upd (rest I H) p (.lst xs)) I [] [] I' H') : T p = none ∧ Ok K (upd T p (.lst xs)) B ws σ I' H' := by
  obtain ⟨ft, k⟩ := k
  have e := k'.bse
  have hp : (upd (rest I H) p (HO.lst xs)) p = some (.lst xs) := upd_same
  have nI' : I' p = none := k'.ti p (by rw [hp]; simp)
  have nI : I p = none := e.free nI'
  have nH : H p = none := by rw [← rest_eq (H := H) nI]; exact n
  have nT : T p = none := none_of k.oth nH
  have old : ∀ a, I a = none → H a ≠ none → H' a = H a ∧ I' a = none := fun a h1 h3 => by
    have z : rest I H a = H a := rest_eq h1
    have ne : a ≠ p := fun q => h3 (by rw [q]; exact nH)
    refine ⟨?_, k'.ti a (by rw [upd_ne ne, z]; exact h3)⟩
    cases q : H a with
    | none => exact absurd q h3
    | some x => exact k'.oth a x (by rw [upd_ne ne, z, q])
  refine ⟨nT, ft, k'.sub, fun b x q => ?_, fun b x q => e b x (k.bse b x q), fun b hb => ?_, k.len, k.ap, fun i a ha => ?_, fun i w hw => (k.sl i w hw).keep e fun a ha => ?_⟩
  · by_cases z : b = p
    · subst z
      rw [upd_same] at q
      exact k'.oth b x (by rw [upd_same]; exact q)
    · rw [upd_ne z] at q
      have hb : T b ≠ none := by rw [q]; simp
      rw [(old b (k.ti b hb) (by rw [k.oth _ _ q]; simp)).1]
      exact k.oth _ _ q
  · by_cases z : b = p
    · subst z
      exact nI'
    · rw [upd_ne z] at hb
      refine (old b (k.ti b hb) ?_).2
      cases q : T b with
      | none => exact absurd q hb
      | some x => rw [k.oth _ _ q]; simp
  · obtain ⟨h1, h2, h3⟩ := k.own i a ha
    have ne : a ≠ p := fun q => h3 (by rw [q]; exact nH)
    obtain ⟨g1, g2⟩ := old a h1 h3
    exact ⟨g2, by rw [upd_ne ne]; exact h2, by rw [g1]; exact h3⟩
  · obtain ⟨h1, h2, h3⟩ := k.own i a ha
    exact (old a h1 h3).1
theorem ef_callF {pre : List PyData → (List PyData → Prop) → Prop} {E : XK} {ts : TA} {PA : List PyData → List SD → Prop} (h : AW K ws ts fun ds w => ∃ R, pre ds R ∧ ∀ es, R es → PA es w) : EF K ws (tCall (SpF K pre) [] E ts) PA := fun T B σ I H k Q q => by
  refine h T B σ I H k _ fun vs ds w I1 H1 p k1 s1 a1 => ?_
  obtain ⟨R, hp, hr⟩ := p
  rw [List.append_nil]
  refine ⟨rest I1 H1, I1, I1, ds, R, k1.give, a1, hp, fun p xs es I' H' re n k' e a => ?_⟩
  obtain ⟨n2, k2⟩ := k1.takeF n k'
  exact q p xs es w I' H' (hr es re) n2 k2 (s1.trans e) a
theorem ef_callSwF {pre : List PyData → (List PyData → Prop) → Prop} {E : XK} {ts : TA} {PA : List PyData → List SD → Prop} (h : AW K ws ts fun ds w => ∃ x y, ds = [x, y] ∧ ∃ R, pre [y, x] R ∧ ∀ es, R es → PA es w) : EF K ws (tCallK (SpF K pre) gSw E tNil ts) PA := fun T B σ I H k Q q => by
  refine h T B σ I H k _ fun vs ds w I1 H1 p k1 s1 a1 => ?_
  obtain ⟨x, y, rfl, R, hp, hr⟩ := p
  cases a1 with
  | cons h1 r =>
    cases r with
    | cons h2 r =>
      cases r
      refine ⟨rest I1 H1, I1, I1, _, R, k1.give, .cons h2 (.cons h1 .nil), hp, fun p xs es I' H' re n k' e a => ?_⟩
      obtain ⟨n2, k2⟩ := k1.takeF n k'
      exact q p xs es w I' H' (hr es re) n2 k2 (s1.trans e) a
theorem ef_callOneF {pre : List PyData → (List PyData → Prop) → Prop} {E : XK} {ts : TA} {PA : List PyData → List SD → Prop} (h : AW K ws ts fun ds w => ∃ x, ds = [x] ∧ ∃ R, pre [x] R ∧ ∀ es, R es → PA es w) : EF K ws (tCallK (SpF K pre) gOne E tNil ts) PA := fun T B σ I H k Q q => by
  refine h T B σ I H k _ fun vs ds w I1 H1 p k1 s1 a1 => ?_
  obtain ⟨x, rfl, R, hp, hr⟩ := p
  cases a1 with
  | cons h1 r =>
    cases r
    refine ⟨rest I1 H1, I1, I1, _, R, k1.give, .cons h1 .nil, hp, fun p xs es I' H' re n k' e a => ?_⟩
    obtain ⟨n2, k2⟩ := k1.takeF n k'
    exact q p xs es w I' H' (hr es re) n2 k2 (s1.trans e) a
end
section
variable {P : Program} {w : World} {K : Frg} {mg : Str → Option Value} {base : Heap} {k : Nat} {f : Addr} {fd : FuncData} {ps : List Str} {x qual : Str} {st : Stmt} {N : List Str}
theorem okF {pre : List PyData → (List PyData → Prop) → Prop} (F : Fun K x qual st f fd) (S : FnScope N ps (defScope st)) (many : ∀ ds R, pre ds R → ds.length = ps.length)
    (hb : ∀ (cv : Value) (A : Around) (outer : List Env) (s : Shared) (H : Hp) (Q : VK) (E : XK) (ds : List PyData) (R : List PyData → Prop), Room k (A.deeper (envOfC qual (defScope st) s.heap.objs.size f cv)) → pre ds R →
      ∃ t, PSs (cxOf CX0 P w K mg base N qual (defScope st) f cv A outer s H E).nox (defBody st) t ∧
        ∀ T I, (∀ ws es B', R es → Same I B' → RF K T B' ws es Q) → SW K T I (ds.map .dat ++ List.replicate (N.length - ds.length) .un) t { nx := fun _ H' => Q .non H', rt := Q }) : FnOk P w K mg base CX0 (k + 1) f fd ps (SpF K pre) := by
  refine F.ok S (fun vs H Q E h => ?_) (fun cv A outer s H vs Q E hr h => ?_)
  · obtain ⟨T, B, I, ds, R, k, a, p, q⟩ := h
    exact a.length.trans (many ds R p)
  · obtain ⟨T, B, I, ds, R, k, a, p, q⟩ := h
    obtain ⟨t, ht, hq⟩ := hb cv A outer s H Q E ds R hr p
    refine ⟨t, ht, body_P k a (hq T I fun ws es B' re e σ I' H' p xs n k' a' => q p xs es I' H' re n ?_ (e.trans k'.bse) a')⟩
    exact k'.bare.less (k.bse.trans e)
end
def twoC (K : Frg) (d1 d2 : List PyData) : Cel := ⟨fun F v I H => ∃ p p1 p2 x1 x2, v = .ref p ∧ F = [p, p1, p2] ∧ p ≠ p1 ∧ p ≠ p2 ∧ p1 ≠ p2 ∧ H p = some (.lst [.ref p1, .ref p2]) ∧ H p1 = some (.lst x1) ∧ H p2 = some (.lst x2) ∧ DaL K I x1 d1 ∧ DaL K I x2 d2,
  fun F v I I' H H' s e ⟨p, p1, p2, x1, x2, h1, h2, n1, n2, n3, h3, h4, h5, h6, h7⟩ => ⟨p, p1, p2, x1, x2, h1, h2, n1, n2, n3, by rw [e p (by rw [h2]; simp)]; exact h3, by rw [e p1 (by rw [h2]; simp)]; exact h4, by rw [e p2 (by rw [h2]; simp)]; exact h5, h6.mono s, h7.mono s⟩⟩
section
variable {K : Frg} {T B I I' H H' : Hp} {ws : List SD} {σ : L2.St} {ta tb te : TE} {D : Ends}
theorem Ok.keepC {T' : Hp} {c : Cel} {v : V} {F : List Addr} {i : Nat} (k : Ok K T' B ws σ I H) (h1 : ∀ b x, T b = some x → T' b = some x) (h2 : ∀ a ∈ F, T a = none ∧ T' a ≠ none) (hc : c.ok F v I H) : Ok K T B (ws.set i (.cel c)) (σ.set i (some v)) I H := by
  obtain ⟨ft, k⟩ := k
  have out : ∀ j a, a ∈ ft j → a ∉ F := fun j a ha hF => (h2 a hF).2 (k.own j a ha).2.1
  refine ⟨fun j => if i = j then F else ft j, k.sub, fun b x q => k.oth b x (h1 b x q), k.bse, fun b hb => k.ti b ?_, by rw [List.length_set, List.length_set]; exact k.len, fun a b c ha hb => ?_, fun j a ha => ?_, fun j w hw => ?_⟩
  · cases q : T b with
    | none => exact absurd q hb
    | some x => rw [h1 b x q]; simp
  · have ha : c ∈ if i = a then F else ft a := ha
    have hb : c ∈ if i = b then F else ft b := hb
    split at ha
    · split at hb
      · rename_i z1 z2
        exact z1.symm.trans z2
      · exact absurd ha (out b c hb)
    · split at hb
      · exact absurd hb (out a c ha)
      · exact k.ap a b c ha hb
  · have ha : a ∈ if i = j then F else ft j := ha
    split at ha
    · obtain ⟨e1, e2⟩ := h2 a ha
      refine ⟨k.ti a e2, e1, ?_⟩
      cases q : T' a with
      | none => exact absurd q e2
      | some x => rw [k.oth a x q]; simp
    · obtain ⟨e1, e2, e3⟩ := k.own j a ha
      refine ⟨e1, ?_, e3⟩
      cases q : T a with
      | none => rfl
      | some x =>
        rw [h1 a x q] at e2
        cases e2
  · rcases set_get hw with ⟨q, rfl⟩ | ⟨q, hw⟩
    · subst q
      have hi : i < ws.length := by
        have := (List.getElem?_eq_some_iff.mp hw).1
        rw [List.length_set] at this
        exact this
      refine ⟨v, ?_, ?_⟩
      · rw [join_set (by rw [k.len]; exact hi), if_pos rfl]
      · show c.ok (if i = i then F else ft i) v I H
        rw [if_pos rfl]
        exact hc
    · show Sl K I H (if i = j then F else ft j) _ w
      rw [if_neg q]
      have e : ((σ.set i (some v))[j]?).join = (σ[j]?).join := by rw [List.getElem?_set, if_neg q]
      rw [e]
      exact k.sl j w hw
theorem sw_two {i : Nat} (h : EF K ws ta fun d1 w1 => EF K w1 tb fun d2 w2 => NX K T B (w2.set i (.cel (twoC K d1 d2))) D.nx) : SW K T B ws (tAsg (tLst (tCons ta (tCons tb tNil))) (gName i)) D := fun σ I H k => by
  refine h T B σ I H k _ fun p1 x1 d1 w1 I1 H1 q1 n1 k1 s1 a1 => ?_
  refine q1 _ B σ I1 H1 k1 _ fun p2 x2 d2 w2 I2 H2 q2 n2 k2 s2 a2 => ?_
  refine ⟨by show 2 ≤ sizeLine; decide, fun p hp => ?_⟩
  obtain ⟨k3, n3⟩ := k2.hand (o := .lst [.ref p1, .ref p2]) hp
  have ne12 : p1 ≠ p2 := fun z => by
    rw [← z, upd_same] at n2
    cases n2
  have ne3 : p ≠ p2 := fun z => by
    rw [z, upd_same] at n3
    cases n3
  have n3b := n3
  rw [upd_ne ne3] at n3b
  have ne1 : p ≠ p1 := fun z => by
    rw [z, upd_same] at n3b
    cases n3b
  rw [upd_ne ne1] at n3b
  have n2b := n2
  rw [upd_ne ne12.symm] at n2b
  have g : ∀ b x, (upd (upd (upd T p1 (.lst x1)) p2 (.lst x2)) p (.lst [.ref p1, .ref p2])) b = some x → (upd H2 p (.lst [.ref p1, .ref p2])) b = some x := fun b x e => k3.oth b x e
  refine q2 _ _ _ (k3.keepC (T := T) (F := [p, p1, p2]) (v := .ref p) (fun b x q => ?_) (fun a ha => ?_) ⟨p, p1, p2, x1, x2, rfl, rfl, ne1, ne3, ne12, upd_same, ?_, ?_, a1.mono s2, a2⟩)
  · rw [upd_ne (ne_of_none q n3b), upd_ne (ne_of_none q n2b), upd_ne (ne_of_none q n1)]
    exact q
  · rcases List.mem_cons.mp ha with z | ha
    · subst z
      exact ⟨n3b, by rw [upd_same]; simp⟩
    · rcases List.mem_cons.mp ha with z | ha
      · subst z
        exact ⟨n1, by rw [upd_ne ne1.symm, upd_ne ne12, upd_same]; simp⟩
      · obtain z := List.mem_singleton.mp ha
        subst z
        exact ⟨n2b, by rw [upd_ne ne3.symm, upd_same]; simp⟩
  · exact g _ _ (by rw [upd_ne ne1.symm, upd_ne ne12, upd_same])
  · exact g _ _ (by rw [upd_ne ne3.symm, upd_same])
theorem Ok.twoAt {i : Nat} {d1 d2 : List PyData} (k : Ok K T B ws σ I H) (h : ws[i]? = some (.cel (twoC K d1 d2))) : ∃ p p1 p2 x1 x2, σ[i]? = some (some (.ref p)) ∧ p ≠ p1 ∧ p ≠ p2 ∧ p1 ≠ p2 ∧ H p = some (.lst [.ref p1, .ref p2]) ∧ H p1 = some (.lst x1) ∧ H p2 = some (.lst x2) ∧ DaL K I x1 d1 ∧ DaL K I x2 d2 ∧
    ∀ y1 y2, Ok K T B (ws.set i .un) σ I (upd (upd H p1 (.lst y1)) p2 (.lst y2)) := by
  obtain ⟨ft, k⟩ := k
  obtain ⟨v, h1, p, p1, p2, x1, x2, rfl, hF, n1, n2, n3, e0, e1, e2, a1, a2⟩ := k.sl i _ h
  have o1 := k.own i p1 (by rw [hF]; simp)
  have o2 := k.own i p2 (by rw [hF]; simp)
  have safe : ∀ (G : Hp) (b : Addr) (x : HO), G b = some x → G p1 = none → G p2 = none → b ≠ p1 ∧ b ≠ p2 := fun G b x e z1 z2 => ⟨ne_of_none e z1, ne_of_none e z2⟩
  refine ⟨p, p1, p2, x1, x2, ?_, n1, n2, n3, e0, e1, e2, a1, a2, fun y1 y2 => ⟨fun j => if i = j then [] else ft j, fun b x q => ?_, fun b x q => ?_, k.bse, k.ti, by rw [List.length_set]; exact k.len, fun a b c ha hb => ?_, fun j a ha => ?_, fun j w hw => ?_⟩⟩
  · cases e : σ[i]? with
    | none => rw [e] at h1; cases h1
    | some x => rw [e] at h1; exact congrArg some h1
  · obtain ⟨z1, z2⟩ := safe I b x q o1.1 o2.1
    rw [upd_ne z2, upd_ne z1]
    exact k.sub _ _ q
  · obtain ⟨z1, z2⟩ := safe T b x q o1.2.1 o2.2.1
    rw [upd_ne z2, upd_ne z1]
    exact k.oth _ _ q
  · have ha : c ∈ if i = a then [] else ft a := ha
    have hb : c ∈ if i = b then [] else ft b := hb
    split at ha
    · cases ha
    · split at hb
      · cases hb
      · exact k.ap a b c ha hb
  · have ha : a ∈ if i = j then [] else ft j := ha
    split at ha
    · cases ha
    · rename_i q
      obtain ⟨f1, f2, f3⟩ := k.own j a ha
      have z1 : a ≠ p1 := fun z => q (k.ap i j p1 (by rw [hF]; simp) (z ▸ ha))
      have z2 : a ≠ p2 := fun z => q (k.ap i j p2 (by rw [hF]; simp) (z ▸ ha))
      exact ⟨f1, f2, by rw [upd_ne z2, upd_ne z1]; exact f3⟩
  · rcases set_get hw with ⟨q, rfl⟩ | ⟨q, hw⟩
    · trivial
    · show Sl K I _ (if i = j then [] else ft j) _ w
      rw [if_neg q]
      refine (k.sl j w hw).keep (Same.refl I) fun a ha => ?_
      have z1 : a ≠ p1 := fun z => q (k.ap i j p1 (by rw [hF]; simp) (z ▸ ha))
      have z2 : a ≠ p2 := fun z => q (k.ap i j p2 (by rw [hF]; simp) (z ▸ ha))
      rw [upd_ne z2, upd_ne z1]
theorem ew_repr2 {i : Nat} {d1 d2 : List PyData} {P : PyData → List SD → Prop} (hi : ws[i]? = some (.cel (twoC K d1 d2))) (h1 : PyData.showable (.list [.list d1, .list d2]) = true) (h2 : PyData.depth (.list [.list d1, .list d2]) ≤ 60) (h3 : (PyData.shown (.list [.list d1, .list d2])).length ≤ sizeLine) (h4 : PyData.hasDict (.list [.list d1, .list d2]) = false)
    (p : P (.str (PyData.shown (.list [.list d1, .list d2]))) ws) : EW K ws (tCB (fun xs H Q => ∃ v d, xs = [v] ∧ Dp K H v d ∧ d.showable = true ∧ d.depth ≤ 60 ∧ d.shown.length ≤ sizeLine ∧ d.hasDict = false ∧ Q (.str d.shown) H) (tCons (tVar i) tNil)) P := fun T B σ I H k Q q => by
  obtain ⟨a, p1, p2, x1, x2, e, _, _, _, e0, e1, e2, a1, a2, _⟩ := k.twoAt hi
  refine ⟨_, e, _, _, rfl, .lst (.inl (.inl e0)) (.cons (.lst (.inl (.inl e1)) (a1.mono k.sub).dp) (.cons (.lst (.inl (.inl e2)) (a2.mono k.sub).dp) .nil)), h1, h2, h3, h4, q _ _ _ _ _ p k (Same.refl I) (.str _)⟩
end
end DL
namespace MM
open PySem PySem.Spec PyProof.Rows L2 DL
abbrev S := PySem.Str
inductive Cm where
  | head (n : Int) | tail (n : Int) | skip (n : Int) | chop (n : Int) | rev | uniq | sort
  deriving DecidableEq
def Cm.d : Cm → PyData
  | .head n => .tuple [.str "head", .int n]
  | .tail n => .tuple [.str "tail", .int n]
  | .skip n => .tuple [.str "skip", .int n]
  | .chop n => .tuple [.str "chop", .int n]
  | .rev => .tuple [.str "reverse"]
  | .uniq => .tuple [.str "uniq"]
  | .sort => .tuple [.str "sort"]
def Cm.num : Cm → Int
  | .head n | .tail n | .skip n | .chop n => n
  | _ => 0
def Cm.ok (c : Cm) : Prop := 0 ≤ c.num
def planD (cs : List Cm) : PyData := .list (cs.map Cm.d)
def linesD (xs : List S) : PyData := .list (xs.map .str)
def stU (acc : List S) (x : S) : List S := if acc.getLast? = some x then acc else acc ++ [x]
def uq (xs : List S) : List S := xs.foldl stU []
theorem stU_last (acc : List S) (x : S) : (stU acc x).getLast? = some x := by
  unfold stU
  split
  · assumption
  · simp
theorem uq_snoc (xs : List S) (x : S) : uq (xs ++ [x]) = stU (uq xs) x := by
  unfold uq
  rw [List.foldl_append]
  rfl
theorem snoc_ind {α : Type} {P : List α → Prop} (h0 : P []) (h1 : ∀ xs x, P xs → P (xs ++ [x])) (xs : List α) : P xs := by
  have h : ∀ ys : List α, P ys.reverse := fun ys => by
    induction ys with
    | nil => exact h0
    | cons y ys ih =>
      rw [List.reverse_cons]
      exact h1 _ _ ih
  have := h xs.reverse
  rwa [List.reverse_reverse] at this
theorem uq_last (xs : List S) : (uq xs).getLast? = xs.getLast? := by
  refine snoc_ind (P := fun xs => (uq xs).getLast? = xs.getLast?) rfl (fun xs x _ => ?_) xs
  rw [uq_snoc, stU_last]
  simp
theorem uq_len (xs : List S) : (uq xs).length ≤ xs.length := by
  refine snoc_ind (P := fun xs => (uq xs).length ≤ xs.length) (Nat.le_refl _) (fun xs x ih => ?_) xs
  rw [uq_snoc]
  unfold stU
  split
  · simp; omega
  · simp; omega
theorem uq_mem (xs : List S) : ∀ x, x ∈ uq xs ↔ x ∈ xs := by
  refine snoc_ind (P := fun xs => ∀ x, x ∈ uq xs ↔ x ∈ xs) (fun x => Iff.rfl) (fun xs y ih x => ?_) xs
  rw [uq_snoc]
  unfold stU
  split
  · rename_i h
    have hy : y ∈ uq xs := List.mem_of_getLast? h
    simp only [List.mem_append, List.mem_singleton]
    constructor
    · intro z; exact .inl ((ih x).1 z)
    · rintro (z | rfl)
      · exact (ih x).2 z
      · exact hy
  · simp [ih]
def lt (a b : S) : Prop := a.cps.toList < b.cps.toList
theorem cps_inj {a b : S} (h : a.cps.toList = b.cps.toList) : a = b := by
  obtain ⟨x⟩ := a
  obtain ⟨y⟩ := b
  exact congrArg PySem.Str.mk (Array.toList_inj.mp h)
theorem lt_trans {a b c : S} (h1 : lt a b) (h2 : lt b c) : lt a c := List.lt_trans h1 h2
theorem lt_irr (a : S) : ¬ lt a a := List.lt_irrefl _
theorem lt_tri (a b : S) : lt a b ∨ a = b ∨ lt b a := by
  by_cases h1 : lt a b
  · exact .inl h1
  · by_cases h2 : lt b a
    · exact .inr (.inr h2)
    · exact .inr (.inl (cps_inj (List.le_antisymm (List.not_lt.mp h2) (List.not_lt.mp h1))))
instance (a b : S) : Decidable (lt a b) := inferInstanceAs (Decidable (_ < _))
def Up (xs : List S) : Prop := xs.Pairwise lt
theorem rising_pw : ∀ (p : S) (xs : List S), risingS p xs = true → xs.Nodup → p ∉ xs → Up xs ∧ ∀ x ∈ xs, lt p x
  | _, [], _, _, _ => ⟨.nil, fun _ h => by cases h⟩
  | p, x :: r, h, nd, np => by
    have h : (!ltCps x.cps.toList p.cps.toList && risingS x r) = true := h
    rw [Bool.and_eq_true] at h
    obtain ⟨h1, h2⟩ := h
    obtain ⟨n1, n2⟩ := List.nodup_cons.mp nd
    obtain ⟨u, hx⟩ := rising_pw x r h2 n2 n1
    have px : lt p x := by
      rcases lt_tri p x with z | z | z
      · exact z
      · exact absurd (z ▸ List.mem_cons_self) np
      · have z : x.cps.toList < p.cps.toList := z
        rw [ltCps_eq, decide_eq_true z] at h1
        cases h1
    exact ⟨List.pairwise_cons.mpr ⟨hx, u⟩, fun y hy => by
      rcases List.mem_cons.mp hy with z | z
      · rw [z]; exact px
      · exact lt_trans px (hx y z)⟩
theorem sorted_up {xs : List S} (h : sortedS xs = true) (nd : xs.Nodup) : Up xs := by
  cases xs with
  | nil => exact .nil
  | cons x r =>
    obtain ⟨n1, n2⟩ := List.nodup_cons.mp nd
    obtain ⟨u, hx⟩ := rising_pw x r h n2 n1
    exact List.pairwise_cons.mpr ⟨hx, u⟩
theorem up_eq : ∀ {xs ys : List S}, Up xs → Up ys → (∀ k, k ∈ xs ↔ k ∈ ys) → xs = ys
  | [], [], _, _, _ => rfl
  | [], y :: ys, _, _, h => absurd ((h y).2 List.mem_cons_self) (by simp)
  | x :: xs, [], _, _, h => absurd ((h x).1 List.mem_cons_self) (by simp)
  | x :: xs, y :: ys, u, v, h => by
    obtain ⟨u1, u2⟩ := List.pairwise_cons.mp u
    obtain ⟨v1, v2⟩ := List.pairwise_cons.mp v
    have e : x = y := by
      rcases List.mem_cons.mp ((h x).1 List.mem_cons_self) with z | z
      · exact z
      · rcases List.mem_cons.mp ((h y).2 List.mem_cons_self) with w | w
        · exact w.symm
        · exact absurd (lt_trans (u1 y w) (v1 x z)) (lt_irr x)
    subst e
    refine congrArg (x :: ·) (up_eq u2 v2 fun k => ⟨fun hk => ?_, fun hk => ?_⟩)
    · rcases List.mem_cons.mp ((h k).1 (List.mem_cons_of_mem _ hk)) with z | z
      · exact absurd (z ▸ u1 k hk) (lt_irr _)
      · exact z
    · rcases List.mem_cons.mp ((h k).2 (List.mem_cons_of_mem _ hk)) with z | z
      · exact absurd (z ▸ v1 k hk) (lt_irr _)
      · exact z
def ins (x : S) : List S → List S
  | [] => [x]
  | y :: r => if lt x y then x :: y :: r else if x = y then y :: r else y :: ins x r
def srt : List S → List S
  | [] => []
  | x :: r => ins x (srt r)
theorem ins_mem (x : S) : ∀ (r : List S) (k : S), k ∈ ins x r ↔ k = x ∨ k ∈ r
  | [], k => by simp [ins]
  | y :: r, k => by
    unfold ins
    split
    · simp
    · split
      · rename_i e
        subst e
        simp
      · simp only [List.mem_cons, ins_mem x r k]
        constructor
        · rintro (h | h | h) <;> simp [h]
        · rintro (h | h | h) <;> simp [h]
theorem ins_up (x : S) : ∀ (r : List S), Up r → Up (ins x r)
  | [], _ => by simp [ins, Up]
  | y :: r, u => by
    obtain ⟨u1, u2⟩ := List.pairwise_cons.mp u
    unfold ins
    split
    · rename_i h
      exact List.pairwise_cons.mpr ⟨fun z hz => by
        rcases List.mem_cons.mp hz with e | e
        · rw [e]; exact h
        · exact lt_trans h (u1 z e), u⟩
    · split
      · exact u
      · rename_i h1 h2
        refine List.pairwise_cons.mpr ⟨fun z hz => ?_, ins_up x r u2⟩
        rcases (ins_mem x r z).1 hz with e | e
        · subst e
          rcases lt_tri z y with w | w | w
          · exact absurd w h1
          · exact absurd w h2
          · exact w
        · exact u1 z e
theorem srt_mem : ∀ (xs : List S) (k : S), k ∈ srt xs ↔ k ∈ xs
  | [], _ => Iff.rfl
  | x :: r, k => by
    unfold srt
    rw [ins_mem, srt_mem r k, List.mem_cons]
theorem srt_up : ∀ (xs : List S), Up (srt xs)
  | [] => .nil
  | x :: r => ins_up x _ (srt_up r)
theorem srt_of {xs ys : List S} (h : sortedS ys = true) (nd : ys.Nodup) (m : ∀ k, k ∈ ys ↔ k ∈ xs) : ys = srt xs := up_eq (sorted_up h nd) (srt_up xs) fun k => (m k).trans (srt_mem xs k).symm
theorem srt_congr {xs ys : List S} (m : ∀ k, k ∈ xs ↔ k ∈ ys) : srt xs = srt ys := up_eq (srt_up xs) (srt_up ys) fun k => (srt_mem xs k).trans ((m k).trans (srt_mem ys k).symm)
theorem up_nodup {xs : List S} (u : Up xs) : xs.Nodup := by
  refine List.Pairwise.imp (R := lt) (S := (· ≠ ·)) ?_ u
  intro a b h e
  rw [e] at h
  exact lt_irr b h
theorem nodup_len : ∀ {xs ys : List S}, xs.Nodup → (∀ k ∈ xs, k ∈ ys) → xs.length ≤ ys.length
  | [], _, _, _ => Nat.zero_le _
  | x :: xs, ys, nd, h => by
    obtain ⟨n1, n2⟩ := List.nodup_cons.mp nd
    have hx : x ∈ ys := h x List.mem_cons_self
    have := nodup_len (xs := xs) (ys := ys.erase x) n2 fun k hk => by
      have ne : k ≠ x := fun e => n1 (e ▸ hk)
      exact (List.mem_erase_of_ne ne).2 (h k (List.mem_cons_of_mem _ hk))
    rw [List.length_erase_of_mem hx] at this
    have : 0 < ys.length := List.length_pos_of_mem hx
    simp only [List.length_cons]
    omega
theorem srt_len (xs : List S) : (srt xs).length ≤ xs.length := nodup_len (up_nodup (srt_up xs)) fun k hk => (srt_mem xs k).1 hk
def cut {α : Type} (xs : List α) (lo hi : Int) : List α := (xs.take hi.toNat).drop lo.toNat
def Cm.app (c : Cm) (xs : List S) : List S := match c with
  | .head n => xs.take n.toNat
  | .tail n => xs.drop (xs.length - n.toNat)
  | .skip n => xs.drop n.toNat
  | .chop n => xs.take (xs.length - n.toNat)
  | .rev => xs.reverse
  | .uniq => uq xs
  | .sort => srt xs
def runP (cs : List Cm) (xs : List S) : List S := cs.foldl (fun xs c => c.app xs) xs
theorem runP_snoc (cs : List Cm) (c : Cm) (xs : List S) : runP (cs ++ [c]) xs = c.app (runP cs xs) := by
  unfold runP
  rw [List.foldl_append]
  rfl
theorem runP_append (cs ds : List Cm) (xs : List S) : runP (cs ++ ds) xs = runP ds (runP cs xs) := by
  unfold runP
  rw [List.foldl_append]
theorem app_len (c : Cm) (xs : List S) : (c.app xs).length ≤ xs.length := by
  cases c
  · simp only [Cm.app, List.length_take]; omega
  · simp only [Cm.app, List.length_drop]; omega
  · simp only [Cm.app, List.length_drop]; omega
  · simp only [Cm.app, List.length_take]; omega
  · simp only [Cm.app, List.length_reverse]; omega
  · exact uq_len xs
  · exact srt_len xs
theorem app_mem (c : Cm) (xs : List S) : ∀ x ∈ c.app xs, x ∈ xs := by
  intro x h
  cases c
  · exact List.mem_of_mem_take h
  · exact List.mem_of_mem_drop h
  · exact List.mem_of_mem_drop h
  · exact List.mem_of_mem_take h
  · exact List.mem_reverse.mp h
  · exact (uq_mem xs x).1 h
  · exact (srt_mem xs x).1 h
theorem run_len (cs : List Cm) (xs : List S) : (runP cs xs).length ≤ xs.length := by
  refine snoc_ind (P := fun cs => (runP cs xs).length ≤ xs.length) (Nat.le_refl _) (fun cs c ih => ?_) cs
  rw [runP_snoc]
  exact Nat.le_trans (app_len c _) ih
theorem run_mem (cs : List Cm) (xs : List S) : ∀ x ∈ runP cs xs, x ∈ xs := by
  refine snoc_ind (P := fun cs => ∀ x ∈ runP cs xs, x ∈ xs) (fun _ h => h) (fun cs c ih => ?_) cs
  rw [runP_snoc]
  exact fun x h => ih x (app_mem c _ x h)
def Cm.rng (c : Cm) (len : Int) : Int × Int := match c with
  | .head n => (0, if len < n then len else n)
  | .tail n => (len - (if len < n then len else n), len)
  | .skip n => ((if len < n then len else n), len)
  | .chop n => (0, len - (if len < n then len else n))
  | _ => (0, len)
def Cm.slc : Cm → Prop
  | .head _ | .tail _ | .skip _ | .chop _ => True
  | _ => False
abbrev Rn := S × Int
def runD (r : Rn) : PyData := .tuple [.str r.1, .int r.2]
def runsD (rs : List Rn) : PyData := .list (rs.map runD)
def stP (acc : List Rn) (r : Rn) : List Rn := match acc.getLast? with
  | some l => if l.1 = r.1 then acc.dropLast ++ [(r.1, l.2 + r.2)] else acc ++ [r]
  | none => acc ++ [r]
def pack (rs : List Rn) : List Rn := rs.foldl stP []
theorem pack_snoc (rs : List Rn) (r : Rn) : pack (rs ++ [r]) = stP (pack rs) r := by
  unfold pack
  rw [List.foldl_append]
  rfl
theorem snoc_of {α : Type} {xs : List α} {x : α} (h : xs.getLast? = some x) : xs = xs.dropLast ++ [x] := by
  have ne : xs ≠ [] := fun e => by
    rw [e] at h
    cases h
  rw [List.getLast?_eq_some_getLast ne] at h
  cases h
  exact (List.dropLast_concat_getLast ne).symm
theorem stP_len (acc : List Rn) (r : Rn) : (stP acc r).length ≤ acc.length + 1 := by
  unfold stP
  split
  · split
    · simp only [List.length_append, List.length_dropLast, List.length_singleton]; omega
    · simp
  · simp
theorem pack_len (rs : List Rn) : (pack rs).length ≤ rs.length := by
  refine snoc_ind (P := fun rs => (pack rs).length ≤ rs.length) (Nat.le_refl _) (fun rs r ih => ?_) rs
  rw [pack_snoc, List.length_append, List.length_singleton]
  exact Nat.le_trans (stP_len _ _) (by omega)
theorem stP_fst (acc : List Rn) (r : Rn) : (stP acc r).map (·.1) = stU (acc.map (·.1)) r.1 := by
  unfold stP stU
  rw [List.getLast?_map]
  cases h : acc.getLast? with
  | none => simp
  | some l =>
    simp only [Option.map_some, Option.some.injEq]
    have e := snoc_of h
    by_cases q : l.1 = r.1
    · rw [if_pos q, if_pos q]
      have e2 := congrArg (List.map (·.1)) e
      rw [List.map_append, List.map_singleton] at e2
      rw [List.map_append, List.map_singleton, e2, q]
    · rw [if_neg q, if_neg q, List.map_append, List.map_singleton]
theorem pack_fst (rs : List Rn) : (pack rs).map (·.1) = uq (rs.map (·.1)) := by
  refine snoc_ind (P := fun rs => (pack rs).map (·.1) = uq (rs.map (·.1))) rfl (fun rs r ih => ?_) rs
  rw [pack_snoc, stP_fst, ih, List.map_append, List.map_singleton, uq_snoc]
theorem atI_last {α : Type} (xs : List α) (x : α) : atI (xs ++ [x]) (-1) = some x := by
  unfold atI ixN
  rw [if_neg (by decide), List.length_append, List.length_singleton, if_pos (by omega)]
  have e : (-1 + ((xs.length + 1 : Nat) : Int)).toNat = xs.length := by omega
  show (xs ++ [x])[(-1 + ((xs.length + 1 : Nat) : Int)).toNat]? = some x
  rw [e]
  simp
theorem ixN_last {n : Nat} : ixN (n + 1) (-1) = some n := by
  unfold ixN
  rw [if_neg (by decide), if_pos (by omega)]
  have e : (-1 + ((n + 1 : Nat) : Int)).toNat = n := by omega
  rw [e]
theorem atI_nat' {α : Type} (xs : List α) (i : Nat) : atI xs (i : Int) = xs[i]? := by
  unfold atI ixN
  rw [if_pos (by omega)]
  by_cases h : i < xs.length
  · rw [if_pos (by omega)]
    show xs[((i : Nat) : Int).toNat]? = xs[i]?
    rfl
  · rw [if_neg (by omega), List.getElem?_eq_none (by omega)]
    rfl
structure Nice (n : Nat) (d : PyData) : Prop where
  lay : d.canLay0 = true
  sho : d.showable = true
  dep : d.depth ≤ 60
  wei : d.weight ≤ n
theorem Nice.le {n m : Nat} {d : PyData} (h : Nice n d) (l : n ≤ m) : Nice m d := ⟨h.lay, h.sho, h.dep, Nat.le_trans h.wei l⟩
theorem Nice.shaped {n : Nat} {d : PyData} (h : Nice n d) : SeqAt.shaped d = true := by
  unfold SeqAt.shaped
  rw [h.lay, decide_eq_true (Nat.le_trans h.dep (by decide))]
  rfl
theorem Nice.hd {n : Nat} {d : PyData} (h : Nice n d) : d.hasDict = false := PyData.hasDict_of_canLay d h.lay
mutual
theorem short_of : ∀ d : PyData, d.canLay0 = true → d.showable = true → d.leavesShort 1921 = true
  | .none, _, _ => by simp [PyData.leavesShort]
  | .bool _, _, _ => by simp [PyData.leavesShort]
  | .int i, _, h => by
    have h : i.natAbs.log2 < 1920 := by simpa [PyData.showable] using h
    have := int_text_len_1921 h
    simp only [PyData.leavesShort, PyData.shown]
    exact decide_eq_true this
  | .str x, h, _ => by
    have h : PyData.strOk x = true := by simpa [PyData.canLay0] using h
    simp only [PyData.leavesShort, List.all_eq_true, decide_eq_true_eq]
    intro c hc
    unfold PyData.strOk at h
    rw [← Array.all_toList, List.all_eq_true] at h
    have := of_decide_eq_true (h c hc)
    exact Nat.lt_trans this (by decide)
  | .list xs, h, g => by
    simp only [PyData.leavesShort]
    exact short_all xs (by simpa [PyData.canLay0] using h) (by simpa [PyData.showable] using g)
  | .tuple xs, h, g => by
    simp only [PyData.leavesShort]
    exact short_all xs (by simpa [PyData.canLay0] using h) (by simpa [PyData.showable] using g)
  | .dict _, h, _ => by simp [PyData.canLay0] at h
theorem short_all : ∀ xs : List PyData, PyData.canLayAll0 xs = true → PyData.showableAll xs = true → PyData.leavesShortAll 1921 xs = true
  | [], _, _ => by simp [PyData.leavesShortAll]
  | x :: xs, h, g => by
    simp only [PyData.canLayAll0, Bool.and_eq_true] at h
    simp only [PyData.showableAll, Bool.and_eq_true] at g
    simp only [PyData.leavesShortAll, Bool.and_eq_true]
    exact ⟨short_of x h.1 g.1, short_all xs h.2 g.2⟩
end
theorem Nice.fits {n : Nat} {d : PyData} (h : Nice n d) (l : n ≤ 8000) : d.shown.length ≤ sizeLine := by
  have := PyData.shown_le 1921 (by decide) d (short_of d h.lay h.sho)
  have w := h.wei
  have e : sizeLine = 16777216 := by decide
  rw [e]
  have : (1921 + 2) * d.weight ≤ 1923 * 8000 := Nat.mul_le_mul_left _ (by omega)
  omega
theorem nice_all : ∀ {xs : List PyData} {n : Nat} {k : Nat}, (∀ x ∈ xs, Nice n x ∧ x.depth ≤ k) → PyData.canLayAll0 xs = true ∧ PyData.showableAll xs = true ∧ PyData.depthAll xs ≤ k ∧ PyData.weightAll xs ≤ (n + 1) * xs.length
  | [], n, k, _ => by simp [PyData.canLayAll0, PyData.showableAll, PyData.depthAll, PyData.weightAll]
  | x :: xs, n, k, h => by
    obtain ⟨h1, h0⟩ := h x List.mem_cons_self
    obtain ⟨a, b, c, d⟩ := nice_all (xs := xs) (n := n) (k := k) fun y hy => h y (List.mem_cons_of_mem _ hy)
    have w := h1.wei
    simp only [PyData.canLayAll0, PyData.showableAll, PyData.depthAll, PyData.weightAll, Bool.and_eq_true, List.length_cons]
    refine ⟨⟨h1.lay, a⟩, ⟨h1.sho, b⟩, ?_, ?_⟩
    · exact Nat.max_le.mpr ⟨h0, c⟩
    · rw [Nat.mul_add, Nat.mul_one]
      omega
theorem nice_list {xs : List PyData} {n k m : Nat} (h : ∀ x ∈ xs, Nice n x ∧ x.depth ≤ k) (hl : xs.length ≤ m) (hk : k ≤ 50) : Nice ((n + 1) * m) (.list xs) ∧ (PyData.list xs).depth ≤ k + 1 := by
  obtain ⟨a, b, c, d⟩ := nice_all h
  have e : (n + 1) * xs.length ≤ (n + 1) * m := Nat.mul_le_mul_left _ hl
  refine ⟨⟨by simpa [PyData.canLay0] using a, by simpa [PyData.showable] using b, ?_, ?_⟩, ?_⟩
  · simp only [PyData.depth]; omega
  · simp only [PyData.weight]; omega
  · simp only [PyData.depth]; omega
theorem nice_tuple {xs : List PyData} {n k m : Nat} (h : ∀ x ∈ xs, Nice n x ∧ x.depth ≤ k) (hl : xs.length ≤ m) (hk : k ≤ 50) : Nice ((n + 1) * m) (.tuple xs) ∧ (PyData.tuple xs).depth ≤ k + 1 := by
  obtain ⟨a, b, c, d⟩ := nice_all h
  have e : (n + 1) * xs.length ≤ (n + 1) * m := Nat.mul_le_mul_left _ hl
  refine ⟨⟨by simpa [PyData.canLay0] using a, by simpa [PyData.showable] using b, ?_, ?_⟩, ?_⟩
  · simp only [PyData.depth]; omega
  · simp only [PyData.weight]; omega
  · simp only [PyData.depth]; omega
theorem nice_int {i : Int} (h : i.natAbs < 2 ^ 200) : Nice 200 (.int i) ∧ (PyData.int i).depth ≤ 0 := by
  have l : i.natAbs.log2 < 200 := PySem.Flt.log2_lt_of (by decide) h
  refine ⟨⟨by simp [PyData.canLay0], by simp [PyData.showable]; omega, by simp [PyData.depth], ?_⟩, by simp [PyData.depth]⟩
  simp only [PyData.weight]
  split <;> omega
theorem nice_str {x : S} {n : Nat} (h : PyData.strOk x = true) (l : x.cps.size ≤ n) : Nice n (.str x) ∧ (PyData.str x).depth ≤ 0 :=
  ⟨⟨by simpa [PyData.canLay0] using h, by simp [PyData.showable], by simp [PyData.depth], by simp only [PyData.weight]; exact l⟩, by simp [PyData.depth]⟩
end MM
namespace DL
open PySem PySem.Spec PyProof.Rows L2
section
variable {K : Frg} {T B I H I' H' : Hp} {ws : List SD} {σ : L2.St} {ta tb te ti : TE} {P : PyData → List SD → Prop} {PA : List PyData → List SD → Prop} {Pd : PyData → Prop} {D : Ends}
theorem uw_i {f : Int → Int} {a : Int} (p : Pd (.int (f a))) : UW K (rU fun i => .int (f i)) (.int a) Pd := fun T B ws σ I H v k hv Q q => by
  cases hv
  exact ⟨a, rfl, q _ _ _ _ p k (Same.refl I) (.int _)⟩
theorem Ok.scrAt {i : Nat} {ns : List Int} (k : Ok K T B ws σ I H) (h : ws[i]? = some (.scr ns)) : ∃ a, σ[i]? = some (some (.ref a)) ∧ SqL K I a (ns.map V.int) := by
  obtain ⟨ft, k⟩ := k
  obtain ⟨a, h1, h2⟩ := k.sl i _ h
  refine ⟨a, ?_, h2⟩
  cases e : σ[i]? with
  | none => rw [e] at h1; cases h1
  | some x => rw [e] at h1; exact congrArg some h1
theorem ew_lenS {i : Nat} {ns : List Int} (h : ws[i]? = some (.scr ns)) (p : P (.int ns.length) ws) : EW K ws (tCB (fun xs H Q => ∃ p ys, xs = [.ref p] ∧ (SqL K H p ys ∨ SqT K H p ys) ∧ Q (.int ys.length) H) (tCons (tVar i) tNil)) P := fun T B σ I H k Q q => by
  obtain ⟨a, e, s⟩ := k.scrAt h
  refine ⟨_, e, a, _, rfl, .inl (k.sub.seq s), ?_⟩
  rw [List.length_map]
  exact q _ _ _ _ _ p k (Same.refl I) (.int _)
theorem ef_sliceS {i : Nat} {ns : List Int} {tl th : TO} (h : ws[i]? = some (.scr ns)) (hp : OptE K ws tl fun lo w2 => OptE K w2 th fun hi w3 => PA ((cutD ns lo hi).map .int) w3) : EF K ws (tSl (rSlL K) (tVar i) tl th) PA := fun T B σ I H k Q q => by
  obtain ⟨a, e, s⟩ := k.scrAt h
  refine ⟨_, e, ?_⟩
  refine hp T B σ I H k _ fun lo w2 I2 H2 p2 k2 s2 => ?_
  refine p2 T B σ I2 H2 k2 _ fun hi w3 I3 H3 p3 k3 s3 => ?_
  refine ⟨a, _, rfl, k3.sub.seq ((s2.trans s3).seq s), fun l hl => ?_⟩
  obtain ⟨k4, n4⟩ := k3.hand (o := .lst (cutV (ns.map V.int) lo hi)) hl
  refine q _ _ _ _ _ _ p3 n4 k4 (s2.trans s3) ?_
  have e2 : cutV (ns.map V.int) lo hi = (cutD ns lo hi).map V.int := by
    unfold cutV cutD
    rw [List.length_map, List.map_take, List.map_drop]
  rw [e2]
  exact DaL.ofInts _
theorem Ok.wr {p : Addr} {o o' : HO} (k : Ok K (upd T p o) B ws σ I H) : Ok K (upd T p o') B ws σ I (upd H p o') := by
  obtain ⟨ft, k⟩ := k
  have hp : (upd T p o) p = some o := upd_same
  have hI : I p = none := k.ti p (by rw [hp]; simp)
  have out : ∀ j a, a ∈ ft j → a ≠ p := fun j a ha z => by
    have h2 := (k.own j a ha).2.1
    rw [z, hp] at h2
    cases h2
  refine ⟨ft, fun b x q => ?_, fun b x q => ?_, k.bse, fun b hb => ?_, k.len, k.ap, fun j a ha => ?_, fun j x hx => (k.sl j x hx).keep (Same.refl I) fun a ha => by rw [upd_ne (out j a ha)]⟩
  · rw [upd_ne (ne_of_none q hI)]
    exact k.sub _ _ q
  · by_cases z : b = p
    · subst z
      rw [upd_same] at q ⊢
      exact q
    · rw [upd_ne z] at q ⊢
      exact k.oth b x (by rw [upd_ne z]; exact q)
  · by_cases z : b = p
    · subst z
      exact hI
    · rw [upd_ne z] at hb
      exact k.ti b (by rw [upd_ne z]; exact hb)
  · obtain ⟨h1, h2, h3⟩ := k.own j a ha
    have z := out j a ha
    rw [upd_ne z] at h2
    rw [upd_ne z, upd_ne z]
    exact ⟨h1, h2, h3⟩
theorem Ok.toss {p : Addr} {o : HO} (k : Ok K (upd T p o) B ws σ I H) (hT : T p = none) : Ok K T B ws σ I H := by
  obtain ⟨ft, k⟩ := k
  have le : ∀ b x, T b = some x → (upd T p o) b = some x := fun b x e => by
    rw [upd_ne (ne_of_none e hT)]
    exact e
  refine ⟨ft, k.sub, fun b x e => k.oth b x (le b x e), k.bse, fun b hb => k.ti b ?_, k.len, k.ap, fun i a ha => ?_, k.sl⟩
  · cases e : T b with
    | none => exact absurd e hb
    | some x =>
      rw [le b x e]
      simp
  · obtain ⟨e1, e2, e3⟩ := k.own i a ha
    refine ⟨e1, ?_, e3⟩
    cases e : T a with
    | none => rfl
    | some x =>
      rw [le a x e] at e2
      cases e2
theorem ew_pick4 {a b c d : Str} {t1 t2 t3 t4 ty : TE} (h : EW K ws t1 fun d1 w1 => EW K w1 t2 fun d2 w2 => EW K w2 t3 fun d3 w3 => EW K w3 t4 fun d4 w4 => EW K w4 ty fun y w5 => ∃ s : Str, y = .str s ∧
      ∃ z, (if s = d then some d4 else if s = c then some d3 else if s = b then some d2 else if s = a then some d1 else none) = some z ∧ P z w5) :
    EW K ws (tDGet (tDisp [(tC (.str a), t1), (tC (.str b), t2), (tC (.str c), t3), (tC (.str d), t4)]) ty) P := fun T B σ I H k Q q => by
  intro p hp
  obtain ⟨k0, nT⟩ := k.hand (o := .dK []) hp
  refine h _ B σ I _ k0 _ fun v1 d1 w1 I1 H1 p1 k1 s1 a1 => ?_
  refine p1 _ B σ I1 H1 k1 _ fun v2 d2 w2 I2 H2 p2 k2 s2 a2 => ?_
  refine p2 _ B σ I2 H2 k2 _ fun v3 d3 w3 I3 H3 p3 k3 s3 a3 => ?_
  refine p3 _ B σ I3 H3 k3 _ fun v4 d4 w4 I4 H4 p4 k4 s4 a4 => ?_
  refine ⟨k4.oth _ _ upd_same, [(.inr a, v1), (.inr b, v2), (.inr c, v3), (.inr d, v4)], rfl, (by show 4 ≤ 15; decide), ?_⟩
  refine p4 _ B σ I4 _ (k4.wr (o' := .dK (mergeK [] [(.inr a, v1), (.inr b, v2), (.inr c, v3), (.inr d, v4)]))) _ fun y dy w5 I5 H5 p5 k5 s5 a5 => ?_
  obtain ⟨s, rfl, z, hz, pz⟩ := p5
  obtain rfl := a5.str_inv
  have hH : H5 p = some (.dK (mergeK [] [(.inr a, v1), (.inr b, v2), (.inr c, v3), (.inr d, v4)])) := k5.oth _ _ upd_same
  have key : ∃ v, valV (mergeK [] [(.inr a, v1), (.inr b, v2), (.inr c, v3), (.inr d, v4)]) (.inr s : Key) = some v ∧ Da K I5 v z := by
    show ∃ v, valV (putK (putK (putK (putK [] (.inr a) v1) (.inr b) v2) (.inr c) v3) (.inr d) v4) (.inr s : Key) = some v ∧ Da K I5 v z
    rw [valV_put, valV_put, valV_put, valV_put]
    have inj : ∀ x : Str, ((.inr s : Key) = .inr x) = (s = x) := fun x => by simp
    simp only [inj]
    by_cases e4 : s = d
    · rw [if_pos e4] at hz ⊢
      cases hz
      exact ⟨_, rfl, a4.mono s5⟩
    · rw [if_neg e4] at hz ⊢
      by_cases e3 : s = c
      · rw [if_pos e3] at hz ⊢
        cases hz
        exact ⟨_, rfl, a3.mono (s4.trans s5)⟩
      · rw [if_neg e3] at hz ⊢
        by_cases e2 : s = b
        · rw [if_pos e2] at hz ⊢
          cases hz
          exact ⟨_, rfl, a2.mono (s3.trans (s4.trans s5))⟩
        · rw [if_neg e2] at hz ⊢
          by_cases e1 : s = a
          · rw [if_pos e1] at hz ⊢
            cases hz
            exact ⟨_, rfl, a1.mono (s2.trans (s3.trans (s4.trans s5)))⟩
          · rw [if_neg e1] at hz
            cases hz
  obtain ⟨v, hv, av⟩ := key
  refine ⟨p, v, rfl, .inl ⟨_, .inr s, .inl hH, rfl, hv.symm⟩, ?_⟩
  exact q _ _ _ _ _ pz (k5.toss nT) ((s1.trans s2).trans (s3.trans (s4.trans s5))) av
theorem ew_popW {i : Nat} {ds0 : List PyData} (h : ws[i]? = some (.mut ds0))
    (hb : EW K ws tb fun y w => ∃ (j : Int) (ds : List PyData), y = .int j ∧ w[i]? = some (.mut ds) ∧ ds.length < 2 ^ 62 ∧ 0 ≤ j ∧ ∃ d, ds[j.toNat]? = some d ∧ P d (w.set i (.mut (ds.eraseIdx j.toNat)))) : EW K ws (tBM K "list" rPopAt (tVar i) (tCons tb tNil)) P := fun T B σ I H k Q q => by
  obtain ⟨b, xs, e, hH, hI, ha, _⟩ := k.mutAt h
  refine ⟨.ref b, e, .inl ⟨rfl, _, .inl (.inl hH)⟩, ?_⟩
  refine hb T B σ I H k _ fun u y w1 I1 H1 p1 k1 s1 a1 => ?_
  obtain ⟨j, ds, rfl, hw1, hz, h0, d, at_, p⟩ := p1
  obtain ⟨b', xs', e', hH', _, ha', up⟩ := k1.mutAt hw1
  rw [e] at e'
  cases e'
  obtain ⟨w, e2, hw⟩ := ha'.get at_
  have hj : j.toNat < xs'.length := (List.getElem?_eq_some_iff.mp e2).1
  have hl := ha'.length
  refine ⟨b, xs', j, j.toNat, w, rfl, by rw [a1.int_inv], hH', by omega, by omega, ?_, e2, q _ _ _ _ _ p (up _ _ (ha'.eraseIdx j.toNat)) s1 hw⟩
  first | (simp [seqIndex?]; omega) | (unfold seqIndex?; simp; omega)
theorem Ok.scrap {j : Nat} {o : Option V} (k : Ok K T B ws σ I H) : Ok K T B (ws.set j .un) (σ.set j o) I H := by
  obtain ⟨ft, k⟩ := k
  refine ⟨fun i => if j = i then [] else ft i, k.sub, k.oth, k.bse, k.ti, by rw [List.length_set, List.length_set]; exact k.len, fun a b c ha hb => ?_, fun a c ha => ?_, fun i w hw => ?_⟩
  · have ha : c ∈ if j = a then [] else ft a := ha
    have hb : c ∈ if j = b then [] else ft b := hb
    split at ha
    · cases ha
    · split at hb
      · cases hb
      · exact k.ap a b c ha hb
  · have ha : c ∈ if j = a then [] else ft a := ha
    split at ha
    · cases ha
    · exact k.own a c ha
  · rcases set_get hw with ⟨q, rfl⟩ | ⟨q, hw⟩
    · trivial
    · show Sl K I H (if j = i then [] else ft i) _ w
      rw [if_neg q]
      have e : ((σ.set j o)[i]?).join = (σ[i]?).join := by rw [List.getElem?_set, if_neg q]
      rw [e]
      exact k.sl i w hw
theorem sw_turn2 {i j : Nat} {d1 d2 : List PyData} {t : Str} (hi : ws[i]? = some (.cel (twoC K d1 d2))) (hij : i ≠ j) (hj : j < ws.length) (z1 : d1.length < sizeLine) (z2 : d2.length < sizeLine) (h : NX K T B ((ws.set i .un).set j .un) D.nx) :
    SW K T B ws (tFor (iList K (tVar i)) (gName j) (tSeq (tDrop (tBM K "list" rAppend (tVar j) (tCons (tC (.str t)) tNil))) (tDrop (tBM0 K "list" rReverse (tVar j))))) D := fun σ I H k => by
  obtain ⟨p, p1, p2, x1, x2, e, n1, n2, n3, e0, e1, e2, a1, a2, up⟩ := k.twoAt hi
  have hjl : j < σ.length := by
    rw [k.len]
    exact hj
  have sq : ∀ {H' : Hp}, H' p = some (.lst [.ref p1, .ref p2]) → SqL K H' p [.ref p1, .ref p2] := fun e => .inl (.inl e)
  have at0 : ∀ y1 y2, (upd (upd H p1 (HO.lst y1)) p2 (.lst y2)) p = some (.lst [.ref p1, .ref p2]) := fun y1 y2 => by
    rw [upd_ne n2, upd_ne n1]
    exact e0
  have at1 : ∀ y1 y2, (upd (upd H p1 (HO.lst y1)) p2 (.lst y2)) p1 = some (.lst y1) := fun y1 y2 => by
    rw [upd_ne n3, upd_same]
  have at2 : ∀ y1 y2, (upd (upd H p1 (HO.lst y1)) p2 (.lst y2)) p2 = some (.lst y2) := fun y1 y2 => upd_same
  have st1 : ∀ y1 y2 z, upd (upd (upd H p1 (HO.lst y1)) p2 (.lst y2)) p1 (.lst z) = upd (upd H p1 (HO.lst z)) p2 (.lst y2) := fun y1 y2 z => by
    funext b
    by_cases q2 : b = p2
    · rw [q2, upd_ne n3.symm, upd_same, upd_same]
    · by_cases q1 : b = p1
      · rw [q1, upd_same, upd_ne n3, upd_same]
      · rw [upd_ne q1, upd_ne q2, upd_ne q1, upd_ne q2, upd_ne q1]
  have st2 : ∀ y1 y2 z, upd (upd (upd H p1 (HO.lst y1)) p2 (.lst y2)) p2 (.lst z) = upd (upd H p1 (HO.lst y1)) p2 (.lst z) := fun y1 y2 z => by
    funext b
    by_cases q2 : b = p2
    · rw [q2, upd_same, upd_same]
    · rw [upd_ne q2, upd_ne q2, upd_ne q2]
  have st0 : upd (upd H p1 (HO.lst x1)) p2 (.lst x2) = H := by
    funext b
    by_cases q2 : b = p2
    · rw [q2, upd_same, e2]
    · by_cases q1 : b = p1
      · rw [q1, upd_ne n3, upd_same, e1]
      · rw [upd_ne q2, upd_ne q1]
  refine ⟨_, e, p, rfl, ⟨_, sq e0⟩, ?_⟩
  refine ⟨fun n m σ' H' => m = 2 - n ∧ n ≤ 2 ∧ ∃ o y1 y2, σ' = σ.set j o ∧ H' = upd (upd H p1 (HO.lst y1)) p2 (.lst y2) ∧ (n = 0 → y1 = x1) ∧ (n ≤ 1 → y2 = x2), ⟨2, rfl, Nat.zero_le _, (σ[j]?).join, x1, x2, ?_, st0.symm, fun _ => rfl, fun _ => rfl⟩, ?_⟩
  · apply List.ext_getElem?
    intro n
    by_cases q : j = n
    · subst q
      rw [List.getElem?_set, if_pos rfl, if_pos hjl, List.getElem?_eq_getElem hjl]
      rfl
    · rw [List.getElem?_set, if_neg q]
  · rintro n m σ' H' ⟨rfl, hn, o, y1, y2, rfl, rfl, c1, c2⟩
    have li : (σ.set j o)[i]? = some (some (.ref p)) := by
      rw [List.getElem?_set, if_neg fun z => hij z.symm]
      exact e
    rcases (by omega : n = 0 ∨ n = 1 ∨ n = 2) with rfl | rfl | rfl
    · obtain rfl := c1 rfl
      obtain rfl := c2 (by decide)
      refine .inr ⟨⟨_, _, sq (at0 _ _), rfl⟩, fun σ' H' => ∃ o y1, σ' = σ.set j o ∧ H' = upd (upd H p1 (HO.lst y1)) p2 (.lst y2), fun σ' H' ⟨o, y1, h1, h2⟩ => ⟨1, by decide, rfl, by decide, o, y1, y2, h1, h2, fun z => absurd z (by decide), fun _ => rfl⟩, ?_⟩
      rintro x H' ⟨rfl, hx⟩
      have hx := hx _ (sq (at0 _ _))
      cases hx
      have lj : ((σ.set j o).set j (some (V.ref p1)))[j]? = some (some (.ref p1)) := by
        rw [List.getElem?_set, if_pos rfl, if_pos (by rw [List.length_set]; exact hjl)]
      refine ⟨_, lj, .inl ⟨rfl, _, .inl (.inl (at1 _ _))⟩, p1, y1, _, rfl, rfl, at1 _ _, by rw [a1.length]; exact z1, ?_⟩
      rw [st1]
      refine ⟨_, lj, .inl ⟨rfl, _, .inl (.inl (at1 _ _))⟩, p1, _, rfl, rfl, at1 _ _, ?_⟩
      rw [st1]
      exact ⟨_, _, List.set_set _, rfl⟩
    · obtain rfl := c2 (by decide)
      refine .inr ⟨⟨_, _, sq (at0 _ _), rfl⟩, fun σ' H' => ∃ o y2, σ' = σ.set j o ∧ H' = upd (upd H p1 (HO.lst y1)) p2 (.lst y2), fun σ' H' ⟨o, y2, h1, h2⟩ => ⟨0, by decide, rfl, by decide, o, y1, y2, h1, h2, fun z => absurd z (by decide), fun z => absurd z (by decide)⟩, ?_⟩
      rintro x H' ⟨rfl, hx⟩
      have hx := hx _ (sq (at0 _ _))
      cases hx
      have lj : ((σ.set j o).set j (some (V.ref p2)))[j]? = some (some (.ref p2)) := by
        rw [List.getElem?_set, if_pos rfl, if_pos (by rw [List.length_set]; exact hjl)]
      refine ⟨_, lj, .inl ⟨rfl, _, .inl (.inl (at2 _ _))⟩, p2, y2, _, rfl, rfl, at2 _ _, by rw [a2.length]; exact z2, ?_⟩
      rw [st2]
      refine ⟨_, lj, .inl ⟨rfl, _, .inl (.inl (at2 _ _))⟩, p2, _, rfl, rfl, at2 _ _, ?_⟩
      rw [st2]
      exact ⟨_, _, List.set_set _, rfl⟩
    · exact .inl ⟨⟨_, sq (at0 _ _), Nat.le_refl 2⟩, h _ I _ (up y1 y2).scrap⟩
def SpG (K : Frg) : Sp := fun vs H Q _ => ∃ (T B I : Hp) (a : Addr) (ns : List Int), vs = [.ref a] ∧ Ok K T B [] [] I H ∧ SqL K I a (ns.map V.int) ∧ ns.length ≤ 63 ∧ ∀ v I' H', Ok K T B [.cel (rngC v 0)] [some v] I' H' → Same I I' → Q v H'
theorem Ok.takeC {c : Cel} {v : V} {j : Nat} (k : Ok K T B ws σ I H) (k' : Ok K (rest I H) I [.cel c] [some v] I' H') : Ok K T B (ws.set j (.cel c)) (σ.set j (some v)) I' H' := by
  obtain ⟨ft, k⟩ := k
  obtain ⟨ft', k'⟩ := k'
  have e := k'.bse
  obtain ⟨v', e1, hc⟩ := k'.sl 0 _ rfl
  cases e1
  have hF : ∀ a ∈ ft' 0, I' a = none ∧ rest I H a = none ∧ H' a ≠ none := fun a ha => k'.own 0 a ha
  have old : ∀ a, I a = none → H a ≠ none → H' a = H a ∧ I' a = none ∧ a ∉ ft' 0 := fun a h1 h3 => by
    have z : rest I H a = H a := rest_eq h1
    refine ⟨?_, k'.ti a (by rw [z]; exact h3), fun q => ?_⟩
    · cases q : H a with
      | none => exact absurd q h3
      | some x => exact k'.oth a x (by rw [z, q])
    · have := (hF a q).2.1
      rw [z] at this
      exact h3 this
  have hT : ∀ b, T b ≠ none → I b = none ∧ H b ≠ none := fun b hb => ⟨k.ti b hb, by
    cases q : T b with
    | none => exact absurd q hb
    | some x => rw [k.oth b x q]; simp⟩
  have k2 : Ok K (fun b => if b ∈ ft' 0 then H' b else T b) B ws σ I' H' := by
    refine ⟨ft, k'.sub, fun b x q => ?_, fun b x q => e b x (k.bse b x q), fun b hb => ?_, k.len, k.ap, fun i a ha => ?_, fun i w hw => (k.sl i w hw).keep e fun a ha => ?_⟩
    · have q : (if b ∈ ft' 0 then H' b else T b) = some x := q
      split at q
      · exact q
      · have hb : T b ≠ none := by rw [q]; simp
        obtain ⟨g1, g2⟩ := hT b hb
        rw [(old b g1 g2).1]
        exact k.oth _ _ q
    · have hb : (if b ∈ ft' 0 then H' b else T b) ≠ none := hb
      split at hb
      · rename_i z
        exact (hF b z).1
      · obtain ⟨g1, g2⟩ := hT b hb
        exact (old b g1 g2).2.1
    · obtain ⟨h1, h2, h3⟩ := k.own i a ha
      obtain ⟨g1, g2, g3⟩ := old a h1 h3
      refine ⟨g2, ?_, by rw [g1]; exact h3⟩
      show (if a ∈ ft' 0 then H' a else T a) = none
      rw [if_neg g3]
      exact h2
    · obtain ⟨h1, h2, h3⟩ := k.own i a ha
      exact (old a h1 h3).1
  refine k2.keepC (T := T) (F := ft' 0) (fun b x q => ?_) (fun a ha => ?_) hc
  · show (if b ∈ ft' 0 then H' b else T b) = some x
    have hb : T b ≠ none := by rw [q]; simp
    obtain ⟨g1, g2⟩ := hT b hb
    rw [if_neg (old b g1 g2).2.2]
    exact q
  · refine ⟨?_, ?_⟩
    · cases q : T a with
      | none => rfl
      | some x =>
        obtain ⟨g1, g2⟩ := hT a (by rw [q]; simp)
        exact absurd ha (old a g1 g2).2.2
    · show (if a ∈ ft' 0 then H' a else T a) ≠ none
      rw [if_pos ha]
      exact (hF a ha).2.2
theorem sw_rng {i j : Nat} {ns : List Int} {E : XK} (hi : ws[i]? = some (.scr ns)) (hl : ns.length ≤ 63) (h : ∀ v, NX K T B (ws.set j (.cel (rngC v 0))) D.nx) : SW K T B ws (tAsg (tCall (SpG K) [] E (tCons (tVar i) tNil)) (gName j)) D := fun σ I H k => by
  obtain ⟨a, e, s⟩ := k.scrAt hi
  refine ⟨_, e, ?_⟩
  exact ⟨rest I H, I, I, a, ns, rfl, k.give, s, hl, fun v I' H' k' _ => h v _ I' H' (k.takeC k')⟩
theorem Ok.beginS {a : Addr} {ns : List Int} {n : Nat} (k : Ok K T B [] [] I H) (s : SqL K I a (ns.map V.int)) : Ok K T I (.scr ns :: List.replicate n .un) (some (.ref a) :: List.replicate n none) I H := by
  refine ⟨fun _ => [], k.sub, k.oth, Same.refl I, k.ti, by simp, fun _ _ _ h _ => (nomatch h), fun _ _ h => (nomatch h), fun i w hw => ?_⟩
  cases i with
  | zero =>
    cases hw
    exact ⟨a, rfl, s⟩
  | succ i =>
    have hw' : (List.replicate n SD.un)[i]? = some w := hw
    rw [List.getElem?_replicate] at hw'
    split at hw'
    · cases hw'
      trivial
    · cases hw'
theorem rf_rng {Q : V → Hp → Prop} {a b c : Int} (h : 0 ≤ a ∧ 0 ≤ b ∧ b < 2305843009213693951 ∧ 0 ≤ c ∧ c ≤ 0) (k0 : Same B I) (q : ∀ v I' H', Ok K T B [.cel (rngC v 0)] [some v] I' H' → Same I I' → Q v H') {B' : Hp} (e : Same I B') : RF K T B' ws [.int a, .int b, .int c] Q := fun σ I' H' p xs n k' a' => by
  obtain rfl : xs = [.int a, .int b, .int c] := by
    have := DaL.ints (ns := [a, b, c]) a'
    exact this
  have hp : (upd T p (HO.lst [.int a, .int b, .int c])) p = some (.lst [.int a, .int b, .int c]) := upd_same
  refine q _ I' H' ?_ (e.trans k'.bse)
  have k1 : Ok K (upd T p (.lst [.int a, .int b, .int c])) B [.un] [none] I' H' := by
    obtain ⟨ft, k2⟩ := (k'.less (k0.trans e)).bare
    refine ⟨fun _ => [], k2.sub, k2.oth, k2.bse, k2.ti, rfl, fun _ _ _ h _ => (nomatch h), fun _ _ h => (nomatch h), fun i w hw => ?_⟩
    cases i with
    | zero =>
      cases hw
      trivial
    | succ i => cases hw
  refine k1.keepC (i := 0) (F := [p]) (fun b x q => ?_) (fun a ha => ?_) ⟨a, b, c, h, rfl, p, rfl, rfl, k'.oth _ _ hp⟩
  · rw [upd_ne (ne_of_none q n)]
    exact q
  · obtain rfl := List.mem_singleton.mp ha
    exact ⟨n, by rw [hp]; simp⟩
end
section
variable {P : Program} {w : World} {K : Frg} {mg : Str → Option Value} {base : Heap} {k : Nat} {f : Addr} {fd : FuncData} {x qual ps : Str} {st : Stmt} {N : List Str}
theorem okRng (F : Fun K x qual st f fd) (S : FnScope N [ps] (defScope st))
    (hb : ∀ (cv : Value) (A : Around) (outer : List Env) (s : Shared) (H : Hp) (Q : VK) (E : XK) (ns : List Int), Room k (A.deeper (envOfC qual (defScope st) s.heap.objs.size f cv)) → ns.length ≤ 63 →
      ∃ t, PSs (cxOf CX0 P w K mg base N qual (defScope st) f cv A outer s H E).nox (defBody st) t ∧
        ∀ T I, (∀ ws a b B', 0 ≤ a → 0 ≤ b → b < 2305843009213693951 → Same I B' → RF K T B' ws [.int a, .int b, .int 0] Q) → SW K T I (.scr ns :: List.replicate (N.length - 1) .un) t { nx := fun _ H' => Q .non H', rt := Q }) : FnOk P w K mg base CX0 (k + 1) f fd [ps] (SpG K) := by
  refine F.ok S (fun vs H Q E h => ?_) (fun cv A outer s H vs Q E hr h => ?_)
  · obtain ⟨T, B, I, a, ns, rfl, _⟩ := h
    rfl
  · obtain ⟨T, B, I, a, ns, rfl, k, s1, hl, q⟩ := h
    obtain ⟨t, ht, hq⟩ := hb cv A outer s H Q E ns hr hl
    refine ⟨t, ht, ?_⟩
    have z := hq T I (fun ws a b B' h1 h2 h3 e => rf_rng ⟨h1, h2, h3, Int.le_refl 0, Int.le_refl 0⟩ k.bse q e) _ I H (k.beginS (n := N.length - 1) s1)
    exact z
end
end DL
namespace PT
open PySem PySem.Spec PyProof.Rows L2 DL
open Classical
inductive Rx where
  | dat (d : PyData) | own (t : Ow)
inductive Out where
  | nx (e : En) | rt (r : Rx) (e : En) | bk (e : En) | ct (e : En)
inductive AdsOk (X : Ctx) (I : Hp) (σ : L2.St) : List V → List Ad → Prop
  | nil : AdsOk X I σ [] []
  | cons {v : V} {vs : List V} {a : Ad} {as : List Ad} : AdOk X I σ v a → AdsOk X I σ vs as → AdsOk X I σ (v :: vs) (a :: as)
section
variable (X : Ctx) (z : Nat → V)
def EV (te : TE) (f : En → Option (PyData × En)) : Prop := ∀ T B e σ I H d e', Ok X.K T B (sds X z e) σ I H → f e = some (d, e') → ∀ Q : VK, (∀ v I' H', Ok X.K T B (sds X z e') σ I' H' → Same I I' → Da X.K I' v d → Q v H') → te σ H Q
def GV (te : TE) (f : En → Option (Ow × En)) : Prop := ∀ T B e σ I H t e', Ok X.K T B (sds X z e) σ I H → f e = some (t, e') → ∀ Q : VK, (∀ v I' H', Ok X.K T B (sds X z e' ++ [sd X z (.own t)]) (σ ++ [some v]) I' H' → Same I I' → Q v H') → te σ H Q
def XV (te : TE) (f : En → Option (Ad × En)) : Prop := ∀ T B e σ I H a e', Ok X.K T B (sds X z e) σ I H → f e = some (a, e') → ∀ Q : VK, (∀ v I' H', Ok X.K T B (sds X z e') σ I' H' → Same I I' → AdOk X I' σ v a → Q v H') → te σ H Q
def AV (ta : TA) (f : En → Option (List Ad × En)) : Prop := ∀ T B e σ I H as e', Ok X.K T B (sds X z e) σ I H → f e = some (as, e') → ∀ Q : List V → Hp → Prop, (∀ vs I' H', Ok X.K T B (sds X z e') σ I' H' → Same I I' → AdsOk X I' σ vs as → Q vs H') → ta σ H Q
def DV (ta : TA) (f : En → Option (List PyData × En)) : Prop := ∀ T B e σ I H ds e', Ok X.K T B (sds X z e) σ I H → f e = some (ds, e') → ∀ Q : List V → Hp → Prop, (∀ vs I' H', Ok X.K T B (sds X z e') σ I' H' → Same I I' → DaL X.K I' vs ds → Q vs H') → ta σ H Q
def TV (tt : TT) (f : En → Option (Bool × En)) : Prop := ∀ T B e σ I H b e', Ok X.K T B (sds X z e) σ I H → f e = some (b, e') → ∀ Q : Bool → Hp → Prop, (∀ I' H', Ok X.K T B (sds X z e') σ I' H' → Same I I' → Q b H') → tt σ H Q
def OpV (to : TO) (f : En → Option (Option Int × En)) : Prop := ∀ T B e σ I H o e', Ok X.K T B (sds X z e) σ I H → f e = some (o, e') → ∀ Q : Option Int → Hp → Prop, (∀ I' H', Ok X.K T B (sds X z e') σ I' H' → Same I I' → Q o H') → to σ H Q
def BinE (r : R2) (o : En → Ad → Ad → Option PyData) : Prop := ∀ T B e σ I H v u a b d, Ok X.K T B (sds X z e) σ I H → AdOk X I σ v a → AdOk X I σ u b → o e a b = some d → ∀ Q : VK, (∀ w I' H', Ok X.K T B (sds X z e) σ I' H' → Same I I' → Da X.K I' w d → Q w H') → r v u H Q
def BinG (r : R2) (o : En → Ad → Ad → Option (List PyData)) : Prop := ∀ T B e σ I H v u a b ds, Ok X.K T B (sds X z e) σ I H → AdOk X I σ v a → AdOk X I σ u b → o e a b = some ds → ∀ Q : VK, (∀ p xs, H p = none → DaL X.K I xs ds → Q (.ref p) (upd H p (.lst xs))) → r v u H Q
def CbE (r : List V → Hp → VK → Prop) (o : En → List Ad → Option PyData) : Prop := ∀ T B e σ I H vs as d, Ok X.K T B (sds X z e) σ I H → AdsOk X I σ vs as → o e as = some d → ∀ Q : VK, (∀ w I' H', Ok X.K T B (sds X z e) σ I' H' → Same I I' → Da X.K I' w d → Q w H') → r vs H Q
def CbG (r : List V → Hp → VK → Prop) (o : En → List Ad → Option (List PyData)) : Prop := ∀ T B e σ I H vs as ds, Ok X.K T B (sds X z e) σ I H → AdsOk X I σ vs as → o e as = some ds → ∀ Q : VK, (∀ p xs, H p = none → DaL X.K I xs ds → Q (.ref p) (upd H p (.lst xs))) → r vs H Q
end
theorem obind {α β : Type} {o : Option α} {f : α → Option β} {b : β} (h : o.bind f = some b) : ∃ a, o = some a ∧ f a = some b := by
  cases o with
  | none => cases h
  | some a => exact ⟨a, rfl, h⟩
theorem omap {α β : Type} {o : Option α} {f : α → β} {b : β} (h : o.map f = some b) : ∃ a, o = some a ∧ f a = b := by
  cases o with
  | none => cases h
  | some a => exact ⟨a, rfl, Option.some.inj h⟩
def xVar (i : Nat) : En → Option (Ad × En) := fun e => match e[i]? with
  | some (.dat d) => some (.d d, e)
  | some (.own (.leaf d)) => some (.d d, e)
  | some (.par _ (.leaf d)) => some (.d d, e)
  | some (.own _) => some (.s i, e)
  | some (.par _ _) => some (.s i, e)
  | some (.scr _) => some (.s i, e)
  | _ => none
def gC (d : PyData) : En → Option (PyData × En) := fun e => some (d, e)
def xD (f : En → Option (PyData × En)) : En → Option (Ad × En) := fun e => (f e).map fun y => (.d y.1, y.2)
def Sx.frz (x : Sx) (d : PyData) : Sx := match x with | .par k _ => .par k (.leaf d) | _ => .dat d
def frzE (e : En) (i : Nat) : Option (PyData × En) := match e[i]? with
  | some x => x.tree.bind fun t => t.toD.map fun d => (d, e.set i (x.frz d))
  | none => none
def gX (f : En → Option (Ad × En)) : En → Option (PyData × En) := fun e => (f e).bind fun y => match y.1 with
  | .d x => some (x, y.2)
  | .s i => frzE y.2 i
def gG (f : En → Option (Ow × En)) : En → Option (PyData × En) := fun e => (f e).bind fun y => y.1.toD.map fun d => (d, y.2)
def gBin (o : En → Ad → Ad → Option PyData) (f g : En → Option (Ad × En)) : En → Option (PyData × En) := fun e => (f e).bind fun y => (g y.2).bind fun w => (o w.2 y.1 w.1).map fun d => (d, w.2)
def lBin (o : En → Ad → Ad → Option (List PyData)) (f g : En → Option (Ad × En)) : En → Option (Ow × En) := fun e => (f e).bind fun y => (g y.2).bind fun w => (o w.2 y.1 w.1).map fun d => (.lst d, w.2)
def gUn (u : PyData → Option PyData) (f : En → Option (PyData × En)) : En → Option (PyData × En) := fun e => (f e).bind fun y => (u y.1).map fun d => (d, y.2)
def bT (f : En → Option (PyData × En)) : En → Option (Bool × En) := fun e => (f e).bind fun y => match y.1 with | .bool b => some (b, y.2) | _ => none
def bNot (f : En → Option (Bool × En)) : En → Option (Bool × En) := fun e => (f e).map fun y => (!y.1, y.2)
def bAnd (f g : En → Option (Bool × En)) : En → Option (Bool × En) := fun e => (f e).bind fun y => if y.1 = true then g y.2 else some (false, y.2)
def bOr (f g : En → Option (Bool × En)) : En → Option (Bool × En) := fun e => (f e).bind fun y => if y.1 = true then some (true, y.2) else g y.2
def bYes : En → Option (Bool × En) := fun e => some (true, e)
def Ad.tru (e : En) : Ad → Option Bool
  | .d (.bool b) => some b
  | .d .none => some false
  | a => (a.lst e).map fun ds => !ds.isEmpty
def bTru (f : En → Option (Ad × En)) : En → Option (Bool × En) := fun e => (f e).bind fun y => (y.1.tru y.2).map fun b => (b, y.2)
def gIf (c : En → Option (Bool × En)) (f g : En → Option (PyData × En)) : En → Option (PyData × En) := fun e => (c e).bind fun y => if y.1 = true then f y.2 else g y.2
def lIf (c : En → Option (Bool × En)) (f g : En → Option (Ow × En)) : En → Option (Ow × En) := fun e => (c e).bind fun y => if y.1 = true then f y.2 else g y.2
def gAnd (f g : En → Option (PyData × En)) : En → Option (PyData × En) := fun e => (f e).bind fun y => match y.1 with | .bool true => g y.2 | .bool false => some (.bool false, y.2) | _ => none
def gOr (f g : En → Option (PyData × En)) : En → Option (PyData × En) := fun e => (f e).bind fun y => match y.1 with | .bool true => some (.bool true, y.2) | .bool false => g y.2 | _ => none
def gNot (f : En → Option (PyData × En)) : En → Option (PyData × En) := fun e => (f e).bind fun y => match y.1 with | .bool b => some (.bool (!b), y.2) | _ => none
def gChain (o o' : En → Ad → Ad → Option PyData) (f g h : En → Option (Ad × En)) : En → Option (PyData × En) := fun e => (f e).bind fun x => (g x.2).bind fun y => (o y.2 x.1 y.1).bind fun b => match b with
  | .bool true => (h y.2).bind fun w => (o' w.2 y.1 w.1).map fun d => (d, w.2)
  | .bool false => some (.bool false, y.2)
  | _ => none
def dNil : En → Option (List PyData × En) := fun e => some ([], e)
def dCons (f : En → Option (PyData × En)) (g : En → Option (List PyData × En)) : En → Option (List PyData × En) := fun e => (f e).bind fun y => (g y.2).map fun w => (y.1 :: w.1, w.2)
def aNil : En → Option (List Ad × En) := fun e => some ([], e)
def aCons (f : En → Option (Ad × En)) (g : En → Option (List Ad × En)) : En → Option (List Ad × En) := fun e => (f e).bind fun y => (g y.2).map fun w => (y.1 :: w.1, w.2)
def gTup (f : En → Option (List PyData × En)) : En → Option (PyData × En) := fun e => (f e).bind fun y => if y.1.length ≤ sizeLine then some (.tuple y.1, y.2) else none
def lLst (f : En → Option (List PyData × En)) : En → Option (Ow × En) := fun e => (f e).bind fun y => if y.1.length ≤ sizeLine then some (.lst y.1, y.2) else none
def gCb (o : En → List Ad → Option PyData) (f : En → Option (List Ad × En)) : En → Option (PyData × En) := fun e => (f e).bind fun y => (o y.2 y.1).map fun d => (d, y.2)
def lCb (o : En → List Ad → Option (List PyData)) (f : En → Option (List Ad × En)) : En → Option (Ow × En) := fun e => (f e).bind fun y => (o y.2 y.1).map fun d => (.lst d, y.2)
def oNo : En → Option (Option Int × En) := fun e => some (none, e)
def oYes (f : En → Option (PyData × En)) : En → Option (Option Int × En) := fun e => (f e).bind fun y => match y.1 with | .int i => some (some i, y.2) | _ => none
def lSl (f : En → Option (Ad × En)) (g h : En → Option (Option Int × En)) : En → Option (Ow × En) := fun e => (f e).bind fun x => (g x.2).bind fun y => (h y.2).bind fun w => (x.1.lst w.2).map fun ds => (.lst (DL.cutD ds y.1 w.1), w.2)
def lRev (f : En → Option (Ad × En)) : En → Option (Ow × En) := fun e => (f e).bind fun x => (x.1.lst x.2).map fun ds => (.lst ds.reverse, x.2)
section
variable {X : Ctx} {z : Nat → V} {ta tb tc te : TE} {tA : TA} {tt tu : TT} {f g h : En → Option (PyData × En)} {fx gx hx : En → Option (Ad × En)} {fl gl : En → Option (Ow × En)} {fb gb : En → Option (Bool × En)} {fd : En → Option (List PyData × En)} {fa : En → Option (List Ad × En)} {r r' : R2}
theorem slen {K : Frg} {T B : Hp} {e : En} {σ : L2.St} {I H : Hp} (k : Ok K T B (sds X z e) σ I H) : σ.length = (sds X z e).length := k.len
theorem handL {T B : Hp} {e : En} {σ : L2.St} {I H : Hp} {p : Addr} {xs : List V} {ds : List PyData} (k : Ok X.K T B (sds X z e) σ I H) (hp : H p = none) (hd : DaL X.K I xs ds) :
    Ok X.K T B (sds X z e ++ [sd X z (.own (.lst ds))]) (σ ++ [some (.ref p)]) I (upd H p (.lst xs)) := by
  obtain ⟨ft, k⟩ := k
  have k2 : Ok1 X.K T B ft (sds X z e) σ I (upd H p (.lst xs)) := k.step (Same.refl I) (fun b y q => by
      rw [upd_ne (ne_of_none q (k.sub.free hp))]
      exact k.sub b y q) (fun b y q => by
      rw [upd_ne (ne_of_none q (k.oth.free hp))]
      exact k.oth b y q) k.ti fun i a ha => ⟨by rw [upd_ne fun q => (k.own i a ha).2.2 (by rw [q]; exact hp)], (k.own i a ha).1⟩
  exact ⟨_, k2.app (F := [p]) (fun a ha => by
    rw [List.mem_singleton] at ha
    subst ha
    exact ⟨⟨k.sub.free hp, k.oth.free hp, by rw [upd_same]; simp⟩, fun i _ hm => (k.own i a hm).2.2 hp⟩) ⟨_, rfl, .lst upd_same hd⟩⟩
theorem handN {T B : Hp} {e : En} {σ : L2.St} {I H : Hp} {p : Addr} (k : Ok X.K T B (sds X z e) σ I H) (hp : H p = none) (o : HO) : Ok X.K T B (sds X z e) σ (upd I p o) (upd H p o) ∧ Same I (upd I p o) := ⟨k.new hp o, same_new (none_of k.sub hp) o⟩
theorem EV.of (hh : ∀ e d e', f e = some (d, e') → EW X.K (sds X z e) te (fun x w => x = d ∧ w = sds X z e')) : EV X z te f := fun T B e σ I H d e' k hf Q q => hh e d e' hf T B σ I H k Q fun v d' ws' I' H' p k' s a => by
  obtain ⟨rfl, rfl⟩ := p
  exact q v I' H' k' s a
theorem EV.ew (hh : EV X z te f) {e e' : En} {d : PyData} (hf : f e = some (d, e')) {P : PyData → List SD → Prop} (p : P d (sds X z e')) : EW X.K (sds X z e) te P := fun T B σ I H k Q q => hh T B e σ I H d e' k hf Q fun v I' H' k' s a => q v d _ I' H' p k' s a
theorem TV.tw (hh : TV X z tt fb) {e e' : En} {b : Bool} (hf : fb e = some (b, e')) {P : Bool → List SD → Prop} (p : P b (sds X z e')) : TW X.K (sds X z e) tt P := fun T B σ I H k Q q => hh T B e σ I H b e' k hf Q fun I' H' k' s => q b _ I' H' p k' s
theorem TV.of (hh : ∀ e b e', fb e = some (b, e') → TW X.K (sds X z e) tt (fun x w => x = b ∧ w = sds X z e')) : TV X z tt fb := fun T B e σ I H b e' k hf Q q => hh e b e' hf T B σ I H k Q fun b' ws' I' H' p k' s => by
  obtain ⟨rfl, rfl⟩ := p
  exact q I' H' k' s
theorem DV.aw (hh : DV X z tA fd) {e e' : En} {ds : List PyData} (hf : fd e = some (ds, e')) {P : List PyData → List SD → Prop} (p : P ds (sds X z e')) : AW X.K (sds X z e) tA P := fun T B σ I H k Q q => hh T B e σ I H ds e' k hf Q fun vs I' H' k' s a => q vs ds _ I' H' p k' s a
theorem xv_var {i : Nat} : XV X z (tVar i) (xVar i) := fun T B e σ I H a e' k hf Q q => by
  unfold xVar at hf
  cases e1 : e[i]? with
  | none => simp only [e1] at hf; cases hf
  | some x =>
    simp only [e1] at hf
    have val : ∀ {c : Cel}, sd X z x = .cel c → ∃ v, σ[i]? = some (some v) := fun hc => by
      obtain ⟨ft, k⟩ := k
      obtain ⟨v, h1, _⟩ := k.sl i _ ((sds_get e1).trans (congrArg some hc))
      exact ⟨v, join_some h1⟩
    cases x with
    | un => cases hf
    | dat d =>
      cases hf
      obtain ⟨v, h1, h2⟩ := k.dat (sds_get e1)
      exact ⟨v, h1, q v I H k (Same.refl I) h2⟩
    | own t =>
      cases t with
      | leaf d =>
        cases hf
        obtain ⟨ft, k0⟩ := id k
        obtain ⟨v, h1, h2⟩ := k0.sl i _ (sds_get e1)
        have h2 : OwOk X I H (ft i) v (.leaf d) := h2
        exact ⟨v, join_some h1, q v I H k (Same.refl I) h2.leaf_inv.2⟩
      | _ =>
        cases hf
        obtain ⟨v, h1⟩ := val rfl
        exact ⟨v, h1, q v I H k (Same.refl I) h1⟩
    | par n t =>
      cases t with
      | leaf d =>
        cases hf
        obtain ⟨ft, k0⟩ := id k
        obtain ⟨v, h1, _, h2⟩ := k0.sl i _ (sds_get e1)
        have h2 : OwOk X I H (ft i) v (.leaf d) := h2
        exact ⟨v, join_some h1, q v I H k (Same.refl I) h2.leaf_inv.2⟩
      | _ =>
        cases hf
        obtain ⟨v, h1⟩ := val rfl
        exact ⟨v, h1, q v I H k (Same.refl I) h1⟩
    | scr ns =>
      cases hf
      obtain ⟨a, h1, h2⟩ := k.scrAt (sds_get e1)
      exact ⟨_, h1, q _ I H k (Same.refl I) h1⟩
theorem xv_d (hh : EV X z te f) : XV X z te (xD f) := fun T B e σ I H a e' k hf Q q => by
  obtain ⟨y, h1, h2⟩ := omap hf
  cases h2
  exact hh T B e σ I H _ _ k h1 Q fun v I' H' k' s a => q v I' H' k' s a
theorem ev_x (hh : XV X z te fx) : EV X z te (gX fx) := fun T B e σ I H d e' k hf Q q => by
  obtain ⟨⟨a, e1⟩, h1, h2⟩ := obind hf
  refine hh T B e σ I H _ _ k h1 Q fun v I' H' k' s ao => ?_
  cases a with
  | d x =>
    cases h2
    exact q v I' H' k' s ao
  | s i =>
    have h2 : frzE e1 i = some (d, e') := h2
    unfold frzE at h2
    cases ex : e1[i]? with
    | none => simp only [ex] at h2; cases h2
    | some x =>
      simp only [ex] at h2
      obtain ⟨t, g1, g2⟩ := obind h2
      obtain ⟨d', g3, g4⟩ := omap g2
      cases g4
      obtain ⟨v', u, I2, w1, w2, w3, w4, w5⟩ := freeze k' ex g1 (ss := []) rfl g3
      have ao : σ[i]? = some (some v) := ao
      rw [ao] at w1
      cases w1
      cases w2
      have hl : i < e1.length := (List.getElem?_eq_some_iff.mp ex).1
      cases x with
      | own t0 =>
        refine q v I2 H' ?_ (s.trans w3) w4
        have := ripe w5 (i := i) (d := d) (by rw [List.getElem?_set, if_pos rfl, if_pos hl]; rfl)
        rw [List.set_set] at this
        exact this
      | par n t0 => exact q v I2 H' w5 (s.trans w3) w4
      | un => cases g1
      | dat d => cases g1
      | scr ns => cases g1
theorem ev_g (hh : GV X z te fl) : EV X z te (gG fl) := fun T B e σ I H d e' k hf Q q => by
  obtain ⟨⟨t, e1⟩, h1, h2⟩ := obind hf
  obtain ⟨d', h3, h4⟩ := omap h2
  cases h4
  refine hh T B e σ I H _ _ k h1 Q fun v I' H' k' s => ?_
  have hl := slen k
  have k2 : Ok X.K T B (sds X z (e1 ++ [.own t])) (σ ++ [some v]) I' H' := by
    rw [sds, List.map_append]
    exact k'
  have hn : σ.length = e1.length := by
    have := k'.len
    simp at this
    exact this
  obtain ⟨v', u, I2, w1, w2, w3, w4, w5⟩ := freeze k2 (i := e1.length) (x := .own t) (t := t) (by rw [List.getElem?_append_right (Nat.le_refl _), Nat.sub_self]; rfl) rfl (ss := []) rfl h3
  rw [List.getElem?_append_right (by omega), hn, Nat.sub_self] at w1
  cases w1
  cases w2
  refine q v I2 H' ?_ (s.trans w3) w4
  rw [List.set_append, if_neg (Nat.lt_irrefl _), sds, List.map_append] at w5
  have w5 : Ok X.K T B (sds X z e1 ++ ([Sx.own t].set (e1.length - e1.length) ((Sx.own t).with (t.put [] (.leaf d)))).map (sd X z)) (σ ++ [some v]) I2 H' := w5
  rw [Nat.sub_self] at w5
  exact w5.chop
theorem ev_c {v : V} {d : PyData} (hd : ∀ I, Da X.K I v d) : EV X z (tC v) (gC d) := fun T B e σ I H d' e' k hf Q q => by
  cases hf
  exact q v I H k (Same.refl I) (hd I)
theorem ev_int {i : Int} : EV X z (tC (.int i)) (gC (.int i)) := ev_c fun _ => .int i
theorem ev_str {i : Str} : EV X z (tC (.str i)) (gC (.str i)) := ev_c fun _ => .str i
theorem ev_bl {i : Bool} : EV X z (tC (.bl i)) (gC (.bool i)) := ev_c fun _ => .bl i
theorem ev_non : EV X z (tC .non) (gC .none) := ev_c fun _ => .non
theorem ev_bin {o : En → Ad → Ad → Option PyData} (ho : BinE X z r o) (ha : XV X z ta fx) (hb : XV X z tb gx) : EV X z (tOp r ta tb) (gBin o fx gx) := fun T B e σ I H d e' k hf Q q => by
  obtain ⟨⟨a, e1⟩, h1, h2⟩ := obind hf
  obtain ⟨⟨b, e2⟩, h3, h4⟩ := obind h2
  obtain ⟨d', h5, h6⟩ := omap h4
  cases h6
  refine ha T B e σ I H a e1 k h1 _ fun v I1 H1 k1 s1 a1 => ?_
  refine hb T B e1 σ I1 H1 b e2 k1 h3 _ fun u I2 H2 k2 s2 a2 => ?_
  exact ho T B e2 σ I2 H2 v u a b d k2 (a1.mono s2) a2 h5 Q fun w I3 H3 k3 s3 a3 => q w I3 H3 k3 ((s1.trans s2).trans s3) a3
theorem gv_bin {o : En → Ad → Ad → Option (List PyData)} (ho : BinG X z r o) (ha : XV X z ta fx) (hb : XV X z tb gx) : GV X z (tOp r ta tb) (lBin o fx gx) := fun T B e σ I H t e' k hf Q q => by
  obtain ⟨⟨a, e1⟩, h1, h2⟩ := obind hf
  obtain ⟨⟨b, e2⟩, h3, h4⟩ := obind h2
  obtain ⟨d', h5, h6⟩ := omap h4
  cases h6
  refine ha T B e σ I H a e1 k h1 _ fun v I1 H1 k1 s1 a1 => ?_
  refine hb T B e1 σ I1 H1 b e2 k1 h3 _ fun u I2 H2 k2 s2 a2 => ?_
  exact ho T B e2 σ I2 H2 v u a b _ k2 (a1.mono s2) a2 h5 Q fun p xs hp hd => q (.ref p) I2 _ (handL k2 hp hd) (s1.trans s2)
theorem ev_un {rr : V → Hp → VK → Prop} {u : PyData → Option PyData} (hu : ∀ x d, u x = some d → UW X.K rr x (· = d)) (ha : EV X z ta f) : EV X z (tUn rr ta) (gUn u f) := fun T B e σ I H d e' k hf Q q => by
  obtain ⟨⟨x, e1⟩, h1, h2⟩ := obind hf
  obtain ⟨d', h3, h4⟩ := omap h2
  cases h4
  refine ha T B e σ I H x e1 k h1 _ fun v I1 H1 k1 s1 a1 => ?_
  exact hu x d h3 T B _ σ I1 H1 v k1 a1 Q fun w d' I2 H2 p k2 s2 a2 => q w I2 H2 k2 (s1.trans s2) (p ▸ a2)
def uNeg : PyData → Option PyData := fun x => match x with | .int i => some (.int (-i)) | _ => none
theorem u_neg : ∀ x d, uNeg x = some d → UW X.K (rU fun i => .int (-i)) x (· = d) := fun x d h => by
  cases x <;> cases h
  exact uw_i rfl
theorem tv_test (hh : EV X z te f) : TV X z (tTest te) (bT f) := fun T B e σ I H b e' k hf Q q => by
  obtain ⟨⟨x, e1⟩, h1, h2⟩ := obind hf
  refine hh T B e σ I H x e1 k h1 _ fun v I1 H1 k1 s1 a1 => ?_
  cases x <;> cases h2
  exact ⟨_, a1.bl_inv, q I1 H1 k1 s1⟩
theorem tv_B (hh : EV X z te f) : TV X z (tB te) (bT f) := fun T B e σ I H b e' k hf Q q => by
  obtain ⟨⟨x, e1⟩, h1, h2⟩ := obind hf
  refine hh T B e σ I H x e1 k h1 _ fun v I1 H1 k1 s1 a1 => ?_
  cases x <;> cases h2
  exact ⟨_, a1.bl_inv, q I1 H1 k1 s1⟩
theorem tv_not (hh : TV X z tt fb) : TV X z (tNot tt) (bNot fb) := fun T B e σ I H b e' k hf Q q => by
  obtain ⟨⟨x, e1⟩, h1, h2⟩ := omap hf
  cases h2
  exact hh T B e σ I H x e1 k h1 _ fun I1 H1 k1 s1 => q I1 H1 k1 s1
theorem tv_and (hh : TV X z tt fb) (hg : TV X z tu gb) : TV X z (tAnd tt tu) (bAnd fb gb) := fun T B e σ I H b e' k hf Q q => by
  obtain ⟨⟨x, e1⟩, h1, h2⟩ := obind hf
  refine hh T B e σ I H x e1 k h1 _ fun I1 H1 k1 s1 => ?_
  cases x with
  | true => exact hg T B e1 σ I1 H1 b e' k1 h2 Q fun I2 H2 k2 s2 => q I2 H2 k2 (s1.trans s2)
  | false =>
    cases h2
    exact q I1 H1 k1 s1
theorem tv_or (hh : TV X z tt fb) (hg : TV X z tu gb) : TV X z (tOr tt tu) (bOr fb gb) := fun T B e σ I H b e' k hf Q q => by
  obtain ⟨⟨x, e1⟩, h1, h2⟩ := obind hf
  refine hh T B e σ I H x e1 k h1 _ fun I1 H1 k1 s1 => ?_
  cases x with
  | false => exact hg T B e1 σ I1 H1 b e' k1 h2 Q fun I2 H2 k2 s2 => q I2 H2 k2 (s1.trans s2)
  | true =>
    cases h2
    exact q I1 H1 k1 s1
theorem tv_yes : TV X z tYes bYes := fun T B e σ I H b e' k hf Q q => by
  cases hf
  exact q I H k (Same.refl I)
theorem tv_tru (hh : XV X z te fx) : TV X z (fun σ H Q => te σ H fun x H' => ∃ k, TruV X.K x H' k ∧ Q k H') (bTru fx) := fun T B e σ I H b e' k hf Q q => by
  obtain ⟨⟨a, e1⟩, h1, h2⟩ := obind hf
  obtain ⟨b', h3, h4⟩ := omap h2
  cases h4
  refine hh T B e σ I H a e1 k h1 _ fun v I1 H1 k1 s1 a1 => ?_
  have viaL : ∀ {ds : List PyData}, a.lst e1 = some ds → b = (!ds.isEmpty) → ∃ k, TruV X.K v H1 k ∧ Q k H1 := fun hl hb => by
    obtain ⟨p, xs, rfl, hs, ha⟩ := ad_lst k1 a1 hl
    refine ⟨b, .inl ⟨xs, hs, ?_⟩, q I1 H1 k1 s1⟩
    rw [hb]
    cases ha <;> rfl
  cases a with
  | s i =>
    obtain ⟨ds, g1, g2⟩ := omap h3
    exact viaL g1 g2.symm
  | d x =>
    cases x with
    | bool b0 =>
      cases h3
      have a1 : Da X.K I1 v (.bool b) := a1
      rw [a1.bl_inv]
      exact ⟨b, rfl, q I1 H1 k1 s1⟩
    | none =>
      cases h3
      have a1 : Da X.K I1 v .none := a1
      rw [a1.non_inv]
      exact ⟨false, rfl, q I1 H1 k1 s1⟩
    | list ds => exact viaL rfl (Option.some.inj h3).symm
    | int i => cases h3
    | str i => cases h3
    | tuple i => cases h3
    | dict i => cases h3
theorem ev_if (hc : TV X z tt fb) (ha : EV X z ta f) (hb : EV X z tb g) : EV X z (tIf tt ta tb) (gIf fb f g) := fun T B e σ I H d e' k hf Q q => by
  obtain ⟨⟨b, e1⟩, h1, h2⟩ := obind hf
  refine hc T B e σ I H b e1 k h1 _ fun I1 H1 k1 s1 => ?_
  cases b with
  | true => exact ha T B e1 σ I1 H1 d e' k1 h2 Q fun v I2 H2 k2 s2 a2 => q v I2 H2 k2 (s1.trans s2) a2
  | false => exact hb T B e1 σ I1 H1 d e' k1 h2 Q fun v I2 H2 k2 s2 a2 => q v I2 H2 k2 (s1.trans s2) a2
theorem gv_if (hc : TV X z tt fb) (ha : GV X z ta fl) (hb : GV X z tb gl) : GV X z (tIf tt ta tb) (lIf fb fl gl) := fun T B e σ I H d e' k hf Q q => by
  obtain ⟨⟨b, e1⟩, h1, h2⟩ := obind hf
  refine hc T B e σ I H b e1 k h1 _ fun I1 H1 k1 s1 => ?_
  cases b with
  | true => exact ha T B e1 σ I1 H1 d e' k1 h2 Q fun v I2 H2 k2 s2 => q v I2 H2 k2 (s1.trans s2)
  | false => exact hb T B e1 σ I1 H1 d e' k1 h2 Q fun v I2 H2 k2 s2 => q v I2 H2 k2 (s1.trans s2)
theorem ev_and (ha : EV X z ta f) (hb : EV X z tb g) : EV X z (tAndV ta tb) (gAnd f g) := fun T B e σ I H d e' k hf Q q => by
  obtain ⟨⟨x, e1⟩, h1, h2⟩ := obind hf
  refine ha T B e σ I H x e1 k h1 _ fun v I1 H1 k1 s1 a1 => ?_
  cases x with
  | bool b =>
    refine ⟨b, a1.bl_inv, ?_⟩
    cases b with
    | true => exact hb T B e1 σ I1 H1 d e' k1 h2 Q fun v I2 H2 k2 s2 a2 => q v I2 H2 k2 (s1.trans s2) a2
    | false =>
      cases h2
      exact q _ I1 H1 k1 s1 (.bl false)
  | none => cases h2
  | list ds => cases h2
  | int i => cases h2
  | str i => cases h2
  | tuple i => cases h2
  | dict i => cases h2
theorem ev_or (ha : EV X z ta f) (hb : EV X z tb g) : EV X z (tOrV ta tb) (gOr f g) := fun T B e σ I H d e' k hf Q q => by
  obtain ⟨⟨x, e1⟩, h1, h2⟩ := obind hf
  refine ha T B e σ I H x e1 k h1 _ fun v I1 H1 k1 s1 a1 => ?_
  cases x with
  | bool b =>
    refine ⟨b, a1.bl_inv, ?_⟩
    cases b with
    | false => exact hb T B e1 σ I1 H1 d e' k1 h2 Q fun v I2 H2 k2 s2 a2 => q v I2 H2 k2 (s1.trans s2) a2
    | true =>
      cases h2
      exact q _ I1 H1 k1 s1 (.bl true)
  | none => cases h2
  | list ds => cases h2
  | int i => cases h2
  | str i => cases h2
  | tuple i => cases h2
  | dict i => cases h2
theorem ev_not (ha : EV X z ta f) : EV X z (tNotV ta) (gNot f) := fun T B e σ I H d e' k hf Q q => by
  obtain ⟨⟨x, e1⟩, h1, h2⟩ := obind hf
  refine ha T B e σ I H x e1 k h1 _ fun v I1 H1 k1 s1 a1 => ?_
  cases x <;> cases h2
  exact ⟨_, a1.bl_inv, q _ I1 H1 k1 s1 (.bl _)⟩
theorem ev_chain {o o' : En → Ad → Ad → Option PyData} (ho : BinE X z r o) (ho' : BinE X z r' o') (ha : XV X z ta fx) (hb : XV X z tb gx) (hc : XV X z tc hx) : EV X z (tChain r r' ta tb tc) (gChain o o' fx gx hx) := fun T B e σ I H d e' k hf Q q => by
  obtain ⟨⟨a, e1⟩, h1, h2⟩ := obind hf
  obtain ⟨⟨b, e2⟩, h3, h4⟩ := obind h2
  obtain ⟨x, h5, h6⟩ := obind h4
  refine ha T B e σ I H a e1 k h1 _ fun v I1 H1 k1 s1 a1 => ?_
  refine hb T B e1 σ I1 H1 b e2 k1 h3 _ fun u I2 H2 k2 s2 a2 => ?_
  refine ho T B e2 σ I2 H2 v u a b x k2 (a1.mono s2) a2 h5 _ fun w I3 H3 k3 s3 a3 => ?_
  cases x with
  | bool c =>
    refine ⟨c, a3.bl_inv, ?_⟩
    cases c with
    | false =>
      cases h6
      exact q _ I3 H3 k3 ((s1.trans s2).trans s3) (.bl false)
    | true =>
      obtain ⟨⟨y, e3⟩, h7, h8⟩ := obind h6
      obtain ⟨d', h9, h10⟩ := omap h8
      cases h10
      refine hc T B e2 σ I3 H3 y e3 k3 h7 _ fun t I4 H4 k4 s4 a4 => ?_
      exact ho' T B e3 σ I4 H4 u t b y d k4 (a2.mono (s3.trans s4)) a4 h9 Q fun w I5 H5 k5 s5 a5 => q w I5 H5 k5 ((((s1.trans s2).trans s3).trans s4).trans s5) a5
  | none => cases h6
  | list ds => cases h6
  | int i => cases h6
  | str i => cases h6
  | tuple i => cases h6
  | dict i => cases h6
theorem dv_nil : DV X z tNil dNil := fun T B e σ I H ds e' k hf Q q => by
  cases hf
  exact q _ I H k (Same.refl I) .nil
theorem dv_cons (ha : EV X z ta f) (hb : DV X z tA fd) : DV X z (tCons ta tA) (dCons f fd) := fun T B e σ I H ds e' k hf Q q => by
  obtain ⟨⟨x, e1⟩, h1, h2⟩ := obind hf
  obtain ⟨⟨ds', e2⟩, h3, h4⟩ := omap h2
  cases h4
  refine ha T B e σ I H x e1 k h1 _ fun v I1 H1 k1 s1 a1 => ?_
  exact hb T B e1 σ I1 H1 _ _ k1 h3 _ fun vs I2 H2 k2 s2 a2 => q _ I2 H2 k2 (s1.trans s2) (.cons (a1.mono s2) a2)
theorem AdsOk.mono {I I' : Hp} {σ : L2.St} (s : Same I I') : ∀ {vs : List V} {as : List Ad}, AdsOk X I σ vs as → AdsOk X I' σ vs as
  | _, _, .nil => .nil
  | _, _, .cons a r => .cons (a.mono s) (AdsOk.mono s r)
theorem av_nil : AV X z tNil aNil := fun T B e σ I H ds e' k hf Q q => by
  cases hf
  exact q _ I H k (Same.refl I) .nil
theorem av_cons (ha : XV X z ta fx) (hb : AV X z tA fa) : AV X z (tCons ta tA) (aCons fx fa) := fun T B e σ I H ds e' k hf Q q => by
  obtain ⟨⟨x, e1⟩, h1, h2⟩ := obind hf
  obtain ⟨⟨ds', e2⟩, h3, h4⟩ := omap h2
  cases h4
  refine ha T B e σ I H x e1 k h1 _ fun v I1 H1 k1 s1 a1 => ?_
  exact hb T B e1 σ I1 H1 _ _ k1 h3 _ fun vs I2 H2 k2 s2 a2 => q _ I2 H2 k2 (s1.trans s2) (.cons (a1.mono s2) a2)
theorem ev_tup (ha : DV X z tA fd) : EV X z (tTup tA) (gTup fd) := fun T B e σ I H d e' k hf Q q => by
  obtain ⟨⟨ds, e1⟩, h1, h2⟩ := obind hf
  refine ha T B e σ I H ds e1 k h1 _ fun vs I1 H1 k1 s1 a1 => ?_
  by_cases hz : ds.length ≤ sizeLine
  · have h2 : (if ds.length ≤ sizeLine then some (PyData.tuple ds, e1) else none) = some (d, e') := h2
    rw [if_pos hz] at h2
    cases h2
    refine ⟨by rw [a1.length]; exact hz, fun p hp => ?_⟩
    obtain ⟨k2, s2⟩ := handN k1 hp (.tup vs)
    exact q _ _ _ k2 (s1.trans s2) (.tup (.inl (.inl upd_same)) (a1.mono s2))
  · have h2 : (if ds.length ≤ sizeLine then some (PyData.tuple ds, e1) else none) = some (d, e') := h2
    rw [if_neg hz] at h2
    cases h2
theorem gv_lst (ha : DV X z tA fd) : GV X z (tLst tA) (lLst fd) := fun T B e σ I H d e' k hf Q q => by
  obtain ⟨⟨ds, e1⟩, h1, h2⟩ := obind hf
  refine ha T B e σ I H ds e1 k h1 _ fun vs I1 H1 k1 s1 a1 => ?_
  have h2 : (if ds.length ≤ sizeLine then some (Ow.lst ds, e1) else none) = some (d, e') := h2
  by_cases hz : ds.length ≤ sizeLine
  · rw [if_pos hz] at h2
    cases h2
    exact ⟨by rw [a1.length]; exact hz, fun p hp => q _ _ _ (handL k1 hp a1) s1⟩
  · rw [if_neg hz] at h2
    cases h2
theorem ev_cb {rr : List V → Hp → VK → Prop} {o : En → List Ad → Option PyData} (ho : CbE X z rr o) (ha : AV X z tA fa) : EV X z (tCB rr tA) (gCb o fa) := fun T B e σ I H d e' k hf Q q => by
  obtain ⟨⟨as, e1⟩, h1, h2⟩ := obind hf
  obtain ⟨d', h3, h4⟩ := omap h2
  cases h4
  refine ha T B e σ I H as e1 k h1 _ fun vs I1 H1 k1 s1 a1 => ?_
  exact ho T B e1 σ I1 H1 vs as d k1 a1 h3 Q fun w I2 H2 k2 s2 a2 => q w I2 H2 k2 (s1.trans s2) a2
theorem gv_cb {rr : List V → Hp → VK → Prop} {o : En → List Ad → Option (List PyData)} (ho : CbG X z rr o) (ha : AV X z tA fa) : GV X z (tCB rr tA) (lCb o fa) := fun T B e σ I H d e' k hf Q q => by
  obtain ⟨⟨as, e1⟩, h1, h2⟩ := obind hf
  obtain ⟨d', h3, h4⟩ := omap h2
  cases h4
  refine ha T B e σ I H as e1 k h1 _ fun vs I1 H1 k1 s1 a1 => ?_
  exact ho T B e1 σ I1 H1 vs as _ k1 a1 h3 Q fun p xs hp hd => q _ I1 _ (handL k1 hp hd) s1
theorem ov_no : OpV X z tNoPart oNo := fun T B e σ I H o e' k hf Q q => by
  cases hf
  exact q I H k (Same.refl I)
theorem ov_yes (ha : EV X z ta f) : OpV X z (tPart ta) (oYes f) := fun T B e σ I H o e' k hf Q q => by
  obtain ⟨⟨x, e1⟩, h1, h2⟩ := obind hf
  refine ha T B e σ I H x e1 k h1 _ fun v I1 H1 k1 s1 a1 => ?_
  cases x <;> cases h2
  exact ⟨_, a1.int_inv, q I1 H1 k1 s1⟩
theorem cutV_da {I : Hp} {xs : List V} {ds : List PyData} (ha : DaL X.K I xs ds) (lo hi : Option Int) : DaL X.K I (cutV xs lo hi) (DL.cutD ds lo hi) := by
  unfold cutV DL.cutD
  rw [ha.length]
  exact (ha.drop _).take _
theorem gv_slice {tl th : TO} {fo go : En → Option (Option Int × En)} (ha : XV X z ta fx) (hl : OpV X z tl fo) (hh : OpV X z th go) : GV X z (tSl (rSlL X.K) ta tl th) (lSl fx fo go) := fun T B e σ I H d e' k hf Q q => by
  obtain ⟨⟨a, e1⟩, h1, h2⟩ := obind hf
  obtain ⟨⟨lo, e2⟩, h3, h4⟩ := obind h2
  obtain ⟨⟨hi, e3⟩, h5, h6⟩ := obind h4
  obtain ⟨ds, h7, h8⟩ := omap h6
  cases h8
  refine ha T B e σ I H a e1 k h1 _ fun v I1 H1 k1 s1 a1 => ?_
  refine hl T B e1 σ I1 H1 lo e2 k1 h3 _ fun I2 H2 k2 s2 => ?_
  refine hh T B e2 σ I2 H2 hi e3 k2 h5 _ fun I3 H3 k3 s3 => ?_
  obtain ⟨p, xs, rfl, hs, hd⟩ := ad_lst k3 (a1.mono (s2.trans s3)) h7
  exact ⟨p, xs, rfl, hs, fun l hl => q _ I3 _ (handL k3 hl (cutV_da hd lo hi)) ((s1.trans s2).trans s3)⟩
theorem gv_rev (ha : XV X z ta fx) : GV X z (tRevL X.K ta) (lRev fx) := fun T B e σ I H d e' k hf Q q => by
  obtain ⟨⟨a, e1⟩, h1, h2⟩ := obind hf
  obtain ⟨ds, h3, h4⟩ := omap h2
  cases h4
  refine ha T B e σ I H a e1 k h1 _ fun v I1 H1 k1 s1 a1 => ?_
  obtain ⟨p, xs, rfl, hs, hd⟩ := ad_lst k1 a1 h3
  exact ⟨p, xs, rfl, hs, fun l hl => q _ I1 _ (handL k1 hl hd.reverse) s1⟩
end
end PT
namespace PT
open PySem PySem.Spec PyProof.Rows L2 DL
open Classical
noncomputable section
def oInt (C : Int → Int → Prop) (f : Int → Int → Int) : En → Ad → Ad → Option PyData := fun _ a b => match a, b with
  | .d (.int i), .d (.int j) => if C i j then some (.int (f i j)) else none
  | _, _ => none
def oI0 (f : Int → Int → Int) : En → Ad → Ad → Option PyData := fun _ a b => match a, b with
  | .d (.int i), .d (.int j) => some (.int (f i j))
  | _, _ => none
def oB0 (f : Int → Int → Bool) : En → Ad → Ad → Option PyData := fun _ a b => match a, b with
  | .d (.int i), .d (.int j) => some (.bool (f i j))
  | _, _ => none
def oStr : En → Ad → Ad → Option PyData := fun _ a b => match a, b with
  | .d (.str i), .d (.str j) => if i.length + j.length ≤ sizeLine then some (.str (i ++ j)) else none
  | _, _ => none
def eqD : PyData → PyData → Option Bool
  | .int i, .int j => some (decide (i = j))
  | .str i, .str j => some (decide (i = j))
  | x, y => if SeqAt.shaped x = true ∧ SeqAt.shaped y = true then some (PyData.eqv x y) else none
def oEq : En → Ad → Ad → Option PyData := fun e a b => (a.val e).bind fun x => (b.val e).bind fun y => (eqD x y).map .bool
def oNe : En → Ad → Ad → Option PyData := fun e a b => (a.val e).bind fun x => (b.val e).bind fun y => (eqD x y).map fun c => .bool (!c)
def Ad.seq (e : En) (a : Ad) : Option (List PyData) := match a with
  | .d (.tuple ds) => some ds
  | a => a.lst e
def inD (x : PyData) (ds : List PyData) (islist : Bool) : Option Bool := match flatD x, ds.mapM flatD with
  | some w, some us => some (inV w us)
  | _, _ => if islist = true ∧ SeqAt.shaped x = true ∧ SeqAt.shaped (.list ds) = true then some (ds.any fun y => PyData.eqv y x) else none
def Ad.isL (a : Ad) : Bool := match a with | .d (.tuple _) => false | _ => true
def oIn (neg : Bool) : En → Ad → Ad → Option PyData := fun e a b => (a.val e).bind fun x => (b.seq e).bind fun ds => (inD x ds (b.isL && (b.lstH e).isSome)).map fun c => .bool (if neg then !c else c)
def oIx : En → Ad → Ad → Option PyData := fun e a b => match b with
  | .d (.int j) => match a with
    | .d (.str s) => if s.length ≤ sizeLine then (atI s.cps.toList j).map fun c => .str ⟨#[c]⟩ else none
    | a => (a.seq e).bind fun ds => atI ds j
  | _ => none
def isNone : PyData → Bool
  | .none => true
  | _ => false
def oIsN (neg : Bool) : En → Ad → Ad → Option PyData := fun _ a b => match a, b with
  | .d x, .d .none => some (.bool (if neg then !isNone x else isNone x))
  | _, _ => none
def oCat : En → Ad → Ad → Option (List PyData) := fun e a b => (a.lstH e).bind fun xs => (b.lstH e).bind fun ys => if xs.length + ys.length ≤ sizeLine then some (xs ++ ys) else none
def oRep : En → Ad → Ad → Option (List PyData) := fun e a b => match b with
  | .d (.int k) => (a.lstH e).bind fun xs => if -(2 ^ 63) ≤ k ∧ k < 2 ^ 63 ∧ xs.length * k.toNat ≤ sizeLine then some (List.replicate k.toNat xs).flatten else none
  | _ => none
def rEqX (K : Frg) : R2 := fun x y H Q => rEq x y H Q ∨ rEqD K x y H Q
def rNeX (K : Frg) : R2 := fun x y H Q => rNe x y H Q ∨ rNeD K x y H Q
def rInX (K : Frg) : R2 := fun x y H Q => rIn K false x y H Q ∨ rInD K x y H Q
def rNotInX (K : Frg) : R2 := fun x y H Q => rIn K true x y H Q ∨ rNotInD K x y H Q
theorem op_eqX {X : Cx} (hu : X.A.units + 64 < cLine) : OpR X (compareOp .Eq) (rEqX X.K) := fun pins s σ H x y v u Q I rx ry h => h.elim (fun h => op_eq pins s σ H x y v u Q I rx ry h) fun h => op_eqD hu pins s σ H x y v u Q I rx ry h
theorem op_neX {X : Cx} (hu : X.A.units + 64 < cLine) : OpR X (compareOp .NotEq) (rNeX X.K) := fun pins s σ H x y v u Q I rx ry h => h.elim (fun h => op_ne pins s σ H x y v u Q I rx ry h) fun h => op_neD hu pins s σ H x y v u Q I rx ry h
theorem op_inX {X : Cx} (hu : X.A.units + 65 < cLine) : OpR X (compareOp .In) (rInX X.K) := fun pins s σ H x y v u Q I rx ry h => h.elim (fun h => op_in_seq pins s σ H x y v u Q I rx ry h) fun h => op_inD hu pins s σ H x y v u Q I rx ry h
theorem op_notInX {X : Cx} (hu : X.A.units + 65 < cLine) : OpR X (compareOp .NotIn) (rNotInX X.K) := fun pins s σ H x y v u Q I rx ry h => h.elim (fun h => op_notIn_seq pins s σ H x y v u Q I rx ry h) fun h => op_notInD hu pins s σ H x y v u Q I rx ry h
section
variable {X : Ctx} {z : Nat → V} {T B I H : Hp} {e : En} {σ : L2.St} {v u : V} {a b : Ad}
theorem ad_d {x : PyData} (h : AdOk X I σ v (.d x)) : Da X.K I v x := h
theorem be_ci {C : Int → Int → Prop} {f : Int → Int → Int} : BinE X z (rI C fun i j => .int (f i j)) (oInt C f) := fun T B e σ I H v u a b d k ha hb ho Q q => by
  unfold oInt at ho
  split at ho
  · rename_i i j
    split at ho
    · cases ho
      exact ⟨i, j, (ad_d ha).int_inv, (ad_d hb).int_inv, ‹_›, q _ I H k (Same.refl I) (.int _)⟩
    · cases ho
  · cases ho
theorem be_ii {f : Int → Int → Int} : BinE X z (rI0 fun i j => .int (f i j)) (oI0 f) := fun T B e σ I H v u a b d k ha hb ho Q q => by
  unfold oI0 at ho
  split at ho
  · rename_i i j
    cases ho
    exact ⟨i, j, (ad_d ha).int_inv, (ad_d hb).int_inv, q _ I H k (Same.refl I) (.int _)⟩
  · cases ho
theorem be_ib {f : Int → Int → Bool} : BinE X z (rI0 fun i j => .bl (f i j)) (oB0 f) := fun T B e σ I H v u a b d k ha hb ho Q q => by
  unfold oB0 at ho
  split at ho
  · rename_i i j
    cases ho
    exact ⟨i, j, (ad_d ha).int_inv, (ad_d hb).int_inv, q _ I H k (Same.refl I) (.bl _)⟩
  · cases ho
theorem be_str : BinE X z (fun x y H Q => ∃ i j, x = .str i ∧ y = .str j ∧ i.length + j.length ≤ sizeLine ∧ Q (.str (i ++ j)) H) oStr := fun T B e σ I H v u a b d k ha hb ho Q q => by
  unfold oStr at ho
  split at ho
  · rename_i i j
    split at ho
    · cases ho
      exact ⟨i, j, (ad_d ha).str_inv, (ad_d hb).str_inv, ‹_›, q _ I H k (Same.refl I) (.str _)⟩
    · cases ho
  · cases ho
theorem eqD_use {x y : PyData} {c : Bool} {J1 J2 : Hp} (h : eqD x y = some c) (s1 : Same J1 H) (s2 : Same J2 H) (h1 : Da X.K J1 v x) (h2 : Da X.K J2 u y) :
    (scal v u = true ∧ decide (v = u) = c) ∨ (Dp X.K H v x ∧ Dp X.K H u y ∧ SeqAt.shaped x = true ∧ SeqAt.shaped y = true ∧ PyData.eqv x y = c) := by
  unfold eqD at h
  split at h
  · rename_i i j
    obtain rfl := h1.int_inv
    obtain rfl := h2.int_inv
    cases h
    exact .inl ⟨rfl, by by_cases q : i = j <;> simp [q]⟩
  · rename_i i j
    obtain rfl := h1.str_inv
    obtain rfl := h2.str_inv
    cases h
    exact .inl ⟨rfl, by by_cases q : i = j <;> simp [q]⟩
  · split at h
    · rename_i hs
      cases h
      exact .inr ⟨(h1.mono s1).dp, (h2.mono s2).dp, hs.1, hs.2, rfl⟩
    · cases h
theorem be_eq : BinE X z (rEqX X.K) oEq := fun T B e σ I H v u a b d k ha hb ho Q q => by
  obtain ⟨x, h1, h2⟩ := obind ho
  obtain ⟨y, h3, h4⟩ := obind h2
  obtain ⟨c, h5, rfl⟩ := omap h4
  obtain ⟨J1, s1, _, a1⟩ := ad_val k ha h1
  obtain ⟨J2, s2, _, a2⟩ := ad_val k hb h3
  have qq := q (.bl c) I H k (Same.refl I) (.bl c)
  rcases eqD_use h5 s1 s2 a1 a2 with ⟨g1, g2⟩ | ⟨g1, g2, g3, g4, g5⟩
  · exact .inl ⟨g1, by rw [g2]; exact qq⟩
  · exact .inr ⟨x, y, g1, g2, g3, g4, by rw [g5]; exact qq⟩
theorem be_ne : BinE X z (rNeX X.K) oNe := fun T B e σ I H v u a b d k ha hb ho Q q => by
  obtain ⟨x, h1, h2⟩ := obind ho
  obtain ⟨y, h3, h4⟩ := obind h2
  obtain ⟨c, h5, rfl⟩ := omap h4
  obtain ⟨J1, s1, _, a1⟩ := ad_val k ha h1
  obtain ⟨J2, s2, _, a2⟩ := ad_val k hb h3
  have qq := q (.bl (!c)) I H k (Same.refl I) (.bl _)
  rcases eqD_use h5 s1 s2 a1 a2 with ⟨g1, g2⟩ | ⟨g1, g2, g3, g4, g5⟩
  · exact .inl ⟨g1, by rw [g2]; exact qq⟩
  · exact .inr ⟨x, y, g1, g2, g3, g4, by rw [g5]; exact qq⟩
theorem ad_seq {ds : List PyData} (k : Ok X.K T B (sds X z e) σ I H) (h : AdOk X I σ v a) (hv : a.seq e = some ds) : ∃ p xs, v = .ref p ∧ (SqL X.K H p xs ∨ SqT X.K H p xs) ∧ DaL X.K I xs ds := by
  unfold Ad.seq at hv
  split at hv
  · cases hv
    obtain ⟨p, xs, rfl, hs, ha⟩ := (ad_d h).tup_inv
    exact ⟨p, xs, rfl, .inr (sqT_mono k.sub hs), ha⟩
  · obtain ⟨p, xs, rfl, hs, ha⟩ := ad_lst k h hv
    exact ⟨p, xs, rfl, .inl hs, ha⟩
theorem lst_seq {ds : List PyData} (hv : a.seq e = some ds) (hl : (a.isL && (a.lstH e).isSome) = true) : a.lstH e = some ds := by
  rw [Bool.and_eq_true] at hl
  obtain ⟨h1, h2⟩ := hl
  cases a with
  | d x =>
    cases x <;> first | (cases h2; done) | (cases h1; done) | (cases hv; rfl)
  | s i =>
    have hv : Ad.lst e (.s i) = some ds := hv
    unfold Ad.lst at hv
    unfold Ad.lstH at h2 ⊢
    cases ex : e[i]? with
    | none => simp only [ex] at hv; cases hv
    | some x =>
      simp only [ex] at hv h2 ⊢
      cases x with
      | un => cases hv
      | dat d => cases hv
      | own t => cases t <;> first | exact hv | cases hv
      | par n t => cases t <;> first | exact hv | cases hv
      | scr ns => cases h2
theorem in_use {neg : Bool} {rD : R2} (hD : ∀ (x y : V) (H : Hp) (Q : VK) d ds, Dp X.K H x d → Dp X.K H y (.list ds) → SeqAt.shaped d = true → SeqAt.shaped (.list ds) = true → Q (.bl (if neg then !ds.any (fun w => PyData.eqv w d) else ds.any fun w => PyData.eqv w d)) H → rD x y H Q) :
    BinE X z (fun x y H Q => rIn X.K neg x y H Q ∨ rD x y H Q) (oIn neg) := fun T B e σ I H v u a b d k ha hb ho Q q => by
  obtain ⟨x, h1, h2⟩ := obind ho
  obtain ⟨ds, h3, h4⟩ := obind h2
  obtain ⟨c, h5, rfl⟩ := omap h4
  obtain ⟨J1, s1, sI, a1⟩ := ad_val k ha h1
  have qq := q (.bl (if neg then !c else c)) I H k (Same.refl I) (.bl _)
  unfold inD at h5
  split at h5
  · rename_i w us f1 f2
    obtain ⟨p, xs, rfl, hs, hd⟩ := ad_seq k hb h3
    obtain ⟨rfl, g1⟩ := flat_val a1 f1
    obtain ⟨rfl, g2⟩ := flats_val hd f2
    cases h5
    exact .inl ⟨p, xs, rfl, hs, g1, g2, qq⟩
  · split at h5
    · rename_i hc
      obtain ⟨c1, c2, c3⟩ := hc
      obtain ⟨p, xs, rfl, hp, hd⟩ := ad_lstH k hb (lst_seq h3 c1)
      cases h5
      exact .inr (hD _ _ _ _ x ds (a1.mono s1).dp (.lst (.inl (.inl hp)) (hd.mono k.sub).dp) c2 c3 qq)
    · cases h5
theorem be_in : BinE X z (rInX X.K) (oIn false) := in_use fun x y H Q d ds h1 h2 h3 h4 q => ⟨d, ds, h1, h2, h3, h4, q⟩
theorem be_notIn : BinE X z (rNotInX X.K) (oIn true) := in_use fun x y H Q d ds h1 h2 h3 h4 q => ⟨d, ds, h1, h2, h3, h4, q⟩
theorem be_ix : BinE X z (rIx X.K) oIx := fun T B e σ I H v u a b d k ha hb ho Q q => by
  unfold oIx at ho
  split at ho
  · rename_i j
    obtain rfl := (ad_d hb).int_inv
    split at ho
    · rename_i s
      split at ho
      · obtain ⟨c, h1, rfl⟩ := omap ho
        exact .inr (.inr ⟨s, j, c, (ad_d ha).str_inv, rfl, ‹_›, h1, q _ I H k (Same.refl I) (.str _)⟩)
      · cases ho
    · obtain ⟨ds, h1, h2⟩ := obind ho
      obtain ⟨p, xs, rfl, hs, hd⟩ := ad_seq k ha h1
      obtain ⟨w, h3, h4⟩ := atI_da hd h2
      rcases hs with hs | hs
      · exact .inl ⟨p, xs, j, w, rfl, rfl, hs, h3, q _ I H k (Same.refl I) h4⟩
      · exact .inr (.inl ⟨p, xs, j, w, rfl, rfl, hs, h3, q _ I H k (Same.refl I) h4⟩)
  · cases ho
theorem non_dec {x : PyData} (h : Da X.K I v x) : decide (v = .non) = isNone x := by
  cases h <;> simp [isNone]
theorem be_isN : BinE X z (fun x y H Q => y = .non ∧ Q (.bl (decide (x = .non))) H) (oIsN false) := fun T B e σ I H v u a b d k ha hb ho Q q => by
  unfold oIsN at ho
  split at ho
  · cases ho
    refine ⟨(ad_d hb).non_inv, ?_⟩
    rw [non_dec (ad_d ha)]
    exact q _ I H k (Same.refl I) (.bl _)
  · cases ho
theorem be_notN : BinE X z (fun x y H Q => y = .non ∧ Q (.bl (!decide (x = .non))) H) (oIsN true) := fun T B e σ I H v u a b d k ha hb ho Q q => by
  unfold oIsN at ho
  split at ho
  · cases ho
    refine ⟨(ad_d hb).non_inv, ?_⟩
    rw [non_dec (ad_d ha)]
    exact q _ I H k (Same.refl I) (.bl _)
  · cases ho
theorem bg_cat : BinG X z rCat oCat := fun T B e σ I H v u a b ds k ha hb ho Q q => by
  obtain ⟨xs, h1, h2⟩ := obind ho
  obtain ⟨ys, h3, h4⟩ := obind h2
  split at h4
  · cases h4
    obtain ⟨p, vs, rfl, hp, hd⟩ := ad_lstH k ha h1
    obtain ⟨p', us, rfl, hp', hd'⟩ := ad_lstH k hb h3
    exact ⟨p, p', vs, us, rfl, rfl, hp, hp', by rw [hd.length, hd'.length]; assumption, fun l hl => q l _ hl (hd.append hd')⟩
  · cases h4
theorem bg_rep : BinG X z rRep oRep := fun T B e σ I H v u a b ds k ha hb ho Q q => by
  unfold oRep at ho
  split at ho
  · obtain ⟨xs, h1, h2⟩ := obind ho
    split at h2
    · rename_i hc
      cases h2
      obtain ⟨p, vs, rfl, hp, hd⟩ := ad_lstH k ha h1
      exact ⟨p, _, vs, rfl, (ad_d hb).int_inv, hp, hc.1, hc.2.1, by rw [hd.length]; exact hc.2.2, fun l hl => q l _ hl (daL_rep _ hd)⟩
    · cases h2
  · cases ho
def cLen : En → List Ad → Option PyData := fun e as => match as with | [a] => (a.seq e).map fun ds => .int ds.length | _ => none
def cAbs : En → List Ad → Option PyData := fun _ as => match as with | [.d (.int i)] => some (.int (if i < 0 then -i else i)) | _ => none
def cMax2 : En → List Ad → Option PyData := fun _ as => match as with | [.d (.int i), .d (.int j)] => some (.int (if j > i then j else i)) | _ => none
def cMin2 : En → List Ad → Option PyData := fun _ as => match as with | [.d (.int i), .d (.int j)] => some (.int (if j < i then j else i)) | _ => none
def cInt1 : En → List Ad → Option PyData := fun _ as => match as with | [.d (.int i)] => some (.int i) | [.d (.bool b)] => some (.int (if b then 1 else 0)) | _ => none
def intsOf : List PyData → Option (List Int)
  | [] => some []
  | .int i :: ds => (intsOf ds).map (i :: ·)
  | _ :: _ => none
def strsOf : List PyData → Option (List S)
  | [] => some []
  | .str i :: ds => (strsOf ds).map (i :: ·)
  | _ :: _ => none
theorem intsOf_eq : ∀ {ds : List PyData} {ns : List Int}, intsOf ds = some ns → ds = ns.map .int
  | [], ns, h => by cases h; rfl
  | d :: ds, ns, h => by
    cases d <;> try cases h
    obtain ⟨ms, h1, rfl⟩ := omap h
    rw [intsOf_eq h1]
    rfl
theorem strsOf_eq : ∀ {ds : List PyData} {ns : List S}, strsOf ds = some ns → ds = ns.map .str
  | [], ns, h => by cases h; rfl
  | d :: ds, ns, h => by
    cases d <;> try cases h
    obtain ⟨ms, h1, rfl⟩ := omap h
    rw [strsOf_eq h1]
    rfl
def cSum : En → List Ad → Option PyData := fun e as => match as with | [a] => (a.lst e).bind fun ds => (intsOf ds).map fun ns => .int ns.sum | _ => none
def cRepr : En → List Ad → Option PyData := fun e as => match as with
  | [a] => (a.val e).bind fun d => if d.showable = true ∧ d.depth ≤ 60 ∧ d.shown.length ≤ sizeLine ∧ d.hasDict = false then some (.str d.shown) else none
  | _ => none
def cList : En → List Ad → Option (List PyData) := fun e as => match as with | [a] => a.seq e | _ => none
theorem ads1 {vs : List V} (h : AdsOk X I σ vs [a]) : ∃ v, vs = [v] ∧ AdOk X I σ v a := by
  cases h with
  | cons h r => cases r; exact ⟨_, rfl, h⟩
theorem ads2 {vs : List V} (h : AdsOk X I σ vs [a, b]) : ∃ v u, vs = [v, u] ∧ AdOk X I σ v a ∧ AdOk X I σ u b := by
  cases h with
  | cons h r =>
    obtain ⟨u, rfl, h2⟩ := ads1 r
    exact ⟨_, u, rfl, h, h2⟩
theorem cb_len : CbE X z (fun xs H Q => ∃ p ys, xs = [.ref p] ∧ (SqL X.K H p ys ∨ SqT X.K H p ys) ∧ Q (.int ys.length) H) cLen := fun T B e σ I H vs as d k ha ho Q q => by
  unfold cLen at ho
  split at ho
  · obtain ⟨ds, h1, rfl⟩ := omap ho
    obtain ⟨v, rfl, h2⟩ := ads1 ha
    obtain ⟨p, xs, rfl, hs, hd⟩ := ad_seq k h2 h1
    refine ⟨p, xs, rfl, hs, ?_⟩
    rw [hd.length]
    exact q _ I H k (Same.refl I) (.int _)
  · cases ho
theorem cb_abs : CbE X z (fun xs H Q => ∃ i, xs = [.int i] ∧ Q (.int (if i < 0 then -i else i)) H) cAbs := fun T B e σ I H vs as d k ha ho Q q => by
  unfold cAbs at ho
  split at ho
  · cases ho
    obtain ⟨v, rfl, h2⟩ := ads1 ha
    exact ⟨_, by rw [(ad_d h2).int_inv], q _ I H k (Same.refl I) (.int _)⟩
  · cases ho
theorem cb_max2 : CbE X z (fun xs H Q => ∃ i j, xs = [.int i, .int j] ∧ Q (.int (if j > i then j else i)) H) cMax2 := fun T B e σ I H vs as d k ha ho Q q => by
  unfold cMax2 at ho
  split at ho
  · cases ho
    obtain ⟨v, u, rfl, h1, h2⟩ := ads2 ha
    exact ⟨_, _, by rw [(ad_d h1).int_inv, (ad_d h2).int_inv], q _ I H k (Same.refl I) (.int _)⟩
  · cases ho
theorem cb_min2 : CbE X z (fun xs H Q => ∃ i j, xs = [.int i, .int j] ∧ Q (.int (if j < i then j else i)) H) cMin2 := fun T B e σ I H vs as d k ha ho Q q => by
  unfold cMin2 at ho
  split at ho
  · cases ho
    obtain ⟨v, u, rfl, h1, h2⟩ := ads2 ha
    exact ⟨_, _, by rw [(ad_d h1).int_inv, (ad_d h2).int_inv], q _ I H k (Same.refl I) (.int _)⟩
  · cases ho
theorem cb_int1 : CbE X z (fun xs H Q => (∃ i, xs = [.int i] ∧ Q (.int i) H) ∨ ∃ k, xs = [.bl k] ∧ Q (.int (if k then 1 else 0)) H) cInt1 := fun T B e σ I H vs as d k ha ho Q q => by
  unfold cInt1 at ho
  split at ho
  · cases ho
    obtain ⟨v, rfl, h2⟩ := ads1 ha
    exact .inl ⟨_, by rw [(ad_d h2).int_inv], q _ I H k (Same.refl I) (.int _)⟩
  · cases ho
    obtain ⟨v, rfl, h2⟩ := ads1 ha
    exact .inr ⟨_, by rw [(ad_d h2).bl_inv], q _ I H k (Same.refl I) (.int _)⟩
  · cases ho
theorem cb_sum : CbE X z (rSum X.K) cSum := fun T B e σ I H vs as d k ha ho Q q => by
  unfold cSum at ho
  split at ho
  · obtain ⟨ds, h1, h2⟩ := obind ho
    obtain ⟨ns, h3, rfl⟩ := omap h2
    obtain ⟨v, rfl, h4⟩ := ads1 ha
    obtain ⟨p, xs, rfl, hs, hd⟩ := ad_lst k h4 h1
    rw [intsOf_eq h3] at hd
    obtain rfl := hd.ints
    exact ⟨p, ns, rfl, hs, q _ I H k (Same.refl I) (.int _)⟩
  · cases ho
theorem cb_repr : CbE X z (fun xs H Q => ∃ v d, xs = [v] ∧ Dp X.K H v d ∧ d.showable = true ∧ d.depth ≤ 60 ∧ d.shown.length ≤ sizeLine ∧ d.hasDict = false ∧ Q (.str d.shown) H) cRepr := fun T B e σ I H vs as d k ha ho Q q => by
  unfold cRepr at ho
  split at ho
  · obtain ⟨x, h1, h2⟩ := obind ho
    split at h2
    · rename_i hc
      cases h2
      obtain ⟨v, rfl, h4⟩ := ads1 ha
      obtain ⟨J, s1, _, hd⟩ := ad_val k h4 h1
      exact ⟨v, x, rfl, (hd.mono s1).dp, hc.1, hc.2.1, hc.2.2.1, hc.2.2.2, q _ I H k (Same.refl I) (.str _)⟩
    · cases h2
  · cases ho
theorem cg_list : CbG X z (fun xs H Q => ∃ p ys, xs = [.ref p] ∧ (SqL X.K H p ys ∨ SqT X.K H p ys) ∧ ∀ l, H l = none → Q (.ref l) (upd H l (.lst ys))) cList := fun T B e σ I H vs as d k ha ho Q q => by
  unfold cList at ho
  split at ho
  · obtain ⟨v, rfl, h2⟩ := ads1 ha
    obtain ⟨p, xs, rfl, hs, hd⟩ := ad_seq k h2 ho
    exact ⟨p, xs, rfl, hs, fun l hl => q l _ hl hd⟩
  · cases ho
def sortL (xs : List S) : List S := if h : ∃ ys : List S, ys.Perm xs ∧ sortedS ys = true then h.choose else xs
theorem sortL_of {xs ys : List S} (hp : ys.Perm xs) (hs : sortedS ys = true) (uq : ∀ a b : List S, a.Perm xs → b.Perm xs → sortedS a = true → sortedS b = true → a = b) : ys = sortL xs := by
  have h : ∃ ys : List S, ys.Perm xs ∧ sortedS ys = true := ⟨ys, hp, hs⟩
  unfold sortL
  rw [dif_pos h]
  exact uq _ _ hp h.choose_spec.1 hs h.choose_spec.2
end
end
end PT
namespace PT
open PySem PySem.Spec PyProof.Rows L2 DL
section
variable {K : Frg} {T B I I' H H' : Hp} {ws us : List SD} {w : SD} {σ τ : L2.St} {ft : Nat → List Addr} {v : V} {F : List Addr}
theorem _root_.DL.Ok1.view2 (k : Ok1 K T B ft ws σ I H) (P : Addr → Prop) (hP : ∀ b, P b → I b = none ∧ T b = none ∧ H b ≠ none) (gt : Nat → List Addr) (hg : ∀ j a, a ∈ gt j → ¬ P a ∧ I a = none ∧ T a = none ∧ H a ≠ none)
    (ap : ∀ i j a, a ∈ gt i → a ∈ gt j → i = j) (hl : τ.length = us.length) (sl : ∀ i w, us[i]? = some w → Sl K I H (gt i) (τ[i]?.join) w) :
    Ok1 K (addP T H P) B gt us τ I H ∧ ∀ (ft' : Nat → List Addr) (us' : List SD) (τ' : L2.St) (B' I' H' : Hp), Ok1 K (addP T H P) B' ft' us' τ' I' H' →
      Same T H' ∧ (∀ b, T b ≠ none → I' b = none) ∧ (∀ b, P b → H' b = H b ∧ I' b = none) ∧ ∀ j a, a ∈ ft' j → I' a = none ∧ T a = none ∧ H' a ≠ none ∧ ¬ P a := by
  obtain ⟨k1, k2⟩ := k.view P hP gt hg ap hl sl
  refine ⟨{ k1 with bse := k.bse }, fun ft' us' τ' B' I' H' k' => ?_⟩
  have k3 : ∀ J : Hp, True := fun _ => trivial
  refine ⟨fun b x e => k'.oth b x ?_, fun b hb => k'.ti b ?_, fun b hb => ?_, fun j a ha => ?_⟩
  · rw [addP_out fun z => by rw [(hP b z).2.1] at e; cases e]
    exact e
  · rw [addP_out fun z => hb (hP b z).2.1]
    exact hb
  · have hn := (hP b hb).2.2
    refine ⟨?_, k'.ti b (by rw [addP_in hb]; exact hn)⟩
    cases q : H b with
    | none => exact absurd q hn
    | some x => exact k'.oth b x (by rw [addP_in hb, q])
  · obtain ⟨h1, h2, h3⟩ := k'.own j a ha
    have np : ¬ P a := fun z => by
      rw [addP_in z] at h2
      exact (hP a z).2.2 h2
    rw [addP_out np] at h2
    exact ⟨h1, h2, h3, np⟩
end
section
variable {X : Ctx} {z : Nat → V} {T B I I' H H' : Hp} {e : En} {x : Sx} {t s : Ow} {σ τ : L2.St} {i : Nat} {v : V}
theorem lend2 (k : Ok X.K T B (sds X z e) σ I H) (hx : e[i]? = some x) (ht : x.tree = some t) {ss : List Step} (hs : t.sub ss = some s) :
    ∃ v u T', σ[i]? = some (some v) ∧ Walk X H v ss u ∧ Ok X.K T' B (sds X z (e.set i .un) ++ [sd X z (.own s)]) (σ ++ [some u]) I H ∧
      ∀ e' s' zs τ B' I' H', Ok X.K T' B' (sds X z e' ++ sd X z (.own s') :: zs) (σ ++ some u :: τ) I' H' → Same I I' → e'.length = e.length → Ok X.K T B' (sds X z (e'.set i (x.with (t.put ss s'))) ++ zs) (σ ++ τ) I' H' := by
  obtain ⟨ft, k⟩ := k
  have hx' := sds_get (X := X) (z := z) hx
  have hi : i < (sds X z e).length := (List.getElem?_eq_some_iff.mp hx').1
  have hn : (sds X z e).length = e.length := List.length_map _
  have hσ : σ.length = e.length := by rw [k.len, hn]
  rw [hn] at hi
  obtain ⟨v, e1, ow, put⟩ := sl_tree ht (k.sl i _ hx')
  obtain ⟨u, F1, F2, l1, l2, l3, l4, l5⟩ := ow.lend hs
  have hF1 : ∀ a ∈ F1, a ∈ ft i := fun a h => (l4 a).2 (.inl h)
  have hF2 : ∀ a ∈ F2, a ∈ ft i := fun a h => (l4 a).2 (.inr h)
  have gdef : ∀ j a, a ∈ (if j = e.length then F2 else if j = i ∨ e.length < j then [] else ft j) → (j = e.length ∧ a ∈ F2) ∨ (j < e.length ∧ j ≠ i ∧ a ∈ ft j) := fun j a h => by
    split at h
    · exact .inl ⟨‹_›, h⟩
    · split at h
      · cases h
      · exact .inr ⟨by omega, by omega, h⟩
  obtain ⟨k1, k2⟩ := k.view2 (· ∈ F1) (fun b h => k.own i b (hF1 b h)) (fun j => if j = e.length then F2 else if j = i ∨ e.length < j then [] else ft j) (τ := σ ++ [some u]) (us := sds X z (e.set i .un) ++ [sd X z (.own s)]) (fun j a ha => by
      rcases gdef j a ha with ⟨_, h⟩ | ⟨_, h2, h⟩
      · exact ⟨fun q => l3 a q h, k.own i a (hF2 a h)⟩
      · exact ⟨fun q => h2 (k.ap j i a h (hF1 a q)), k.own j a h⟩) (fun a b c ha hb => by
      rcases gdef a c ha with ⟨q1, h⟩ | ⟨q1, q2, h⟩
      · rcases gdef b c hb with ⟨q3, g⟩ | ⟨q3, q4, g⟩
        · omega
        · exact absurd (k.ap b i c g (hF2 c h)) q4
      · rcases gdef b c hb with ⟨q3, g⟩ | ⟨q3, q4, g⟩
        · exact absurd (k.ap a i c h (hF2 c g)) q2
        · exact k.ap a b c h g) (by simp [hσ]) (fun j w hw => by
      have hl2 : (sds X z (e.set i .un)).length = e.length := by simp
      by_cases q : j < e.length
      · rw [List.getElem?_append_left (by omega), sds_set] at hw
        rw [List.getElem?_append_left (by omega)]
        rcases set_get hw with ⟨y, rfl⟩ | ⟨y, hw⟩
        · trivial
        · show Sl X.K I H (if j = e.length then F2 else if j = i ∨ e.length < j then [] else ft j) _ w
          rw [if_neg (by omega), if_neg (by omega)]
          exact k.sl j w hw
      · rw [List.getElem?_append_right (by omega), hl2] at hw
        have hj : j = e.length := by
          have := (List.getElem?_eq_some_iff.mp hw).1
          simp at this
          omega
        subst hj
        rw [Nat.sub_self] at hw
        cases hw
        show Sl X.K I H (if e.length = e.length then F2 else _) _ _
        rw [if_pos rfl, List.getElem?_append_right (by omega), hσ, Nat.sub_self]
        exact ⟨u, rfl, l1⟩)
  refine ⟨v, u, _, join_some e1, l2, ⟨_, k1⟩, fun e' s' zs τ B' I' H' ⟨ft', k'⟩ s1 he => ?_⟩
  obtain ⟨s3, s4, s5, s6⟩ := k2 ft' _ _ B' I' H' k'
  have hn' : (sds X z e').length = e.length := by simp [he]
  have at_ : ∀ (m : Nat), (sds X z e' ++ sd X z (.own s') :: zs)[e.length + m]? = (sd X z (.own s') :: zs)[m]? := fun m => by
    rw [List.getElem?_append_right (by omega)]
    congr 1
    omega
  have at2 : ∀ (m : Nat), (σ ++ some u :: τ)[e.length + m]? = (some u :: τ)[m]? := fun m => by
    rw [List.getElem?_append_right (by omega)]
    congr 1
    omega
  have q0 := k'.sl (e.length + 0) (sd X z (.own s')) (by rw [at_]; rfl)
  rw [at2] at q0
  obtain ⟨u', e2, o2⟩ := q0
  have e2 : some u = some u' := e2
  cases e2
  have o2 : OwOk X I' H' (ft' (e.length + 0)) u s' := o2
  rw [Nat.add_zero] at o2
  obtain ⟨F', o3, o4⟩ := l5 I' H' s' (ft' e.length) s1 (fun a ha => (s5 a ha).1) o2 (fun a ha hz => (s6 e.length a hz).2.2.2 ha)
  have sl' := put I' H' F' _ o3
  have own' : ∀ a ∈ F', I' a = none ∧ T a = none ∧ H' a ≠ none := fun a ha => by
    rcases (o4 a).1 ha with y | y
    · obtain ⟨g1, g2, g3⟩ := k.own i a (hF1 a y)
      obtain ⟨q1, q2⟩ := s5 a y
      exact ⟨q2, g2, by rw [q1]; exact g3⟩
    · obtain ⟨g1, g2, g3, _⟩ := s6 _ a y
      exact ⟨g1, g2, g3⟩
  have hlz : τ.length = zs.length := by have := k'.len; simp at this; omega
  have fdef : ∀ j a, a ∈ (if j = i then F' else if j < e.length then ft' j else ft' (j + 1)) → (j = i ∧ a ∈ F') ∨ ∃ m, j ≠ i ∧ a ∈ ft' m ∧ m ≠ e.length ∧ m = if j < e.length then j else j + 1 := fun j a h => by
    split at h
    · exact .inl ⟨‹_›, h⟩
    · split at h
      · exact .inr ⟨j, ‹_›, h, by omega, by rw [if_pos ‹_›]⟩
      · exact .inr ⟨j + 1, ‹_›, h, by omega, by rw [if_neg ‹_›]⟩
  have kk : ∀ m c, c ∈ ft' m → m ≠ e.length → c ∈ F' → False := fun m c h1 h2 h3 => by
    rcases (o4 c).1 h3 with q | q
    · exact (s6 m c h1).2.2.2 q
    · exact h2 (k'.ap m _ c h1 q)
  refine ⟨fun j => if j = i then F' else if j < e.length then ft' j else ft' (j + 1), k'.sub, s3, k'.bse, s4, by simp [he, hσ, hlz], fun a b c ha hb => ?_, fun j a ha => ?_, fun j w hw => ?_⟩
  · rcases fdef a c ha with ⟨q1, h⟩ | ⟨m, q1, h, q2, q3⟩
    · rcases fdef b c hb with ⟨q4, g⟩ | ⟨m', q4, g, q5, q6⟩
      · omega
      · exact (kk m' c g q5 h).elim
    · rcases fdef b c hb with ⟨q4, g⟩ | ⟨m', q4, g, q5, q6⟩
      · exact (kk m c h q2 g).elim
      · have := k'.ap m m' c h g
        subst this
        rw [q3] at q6
        split at q6 <;> split at q6 <;> omega
  · rcases fdef j a ha with ⟨q1, h⟩ | ⟨m, q1, h, q2, q3⟩
    · exact own' a h
    · obtain ⟨g1, g2, g3, _⟩ := s6 _ a h
      exact ⟨g1, g2, g3⟩
  · show Sl X.K I' H' (if j = i then F' else if j < e.length then ft' j else ft' (j + 1)) _ w
    have lset : (sds X z (e'.set i (x.with (t.put ss s')))).length = e.length := by simp [he]
    by_cases q : j < e.length
    · rw [List.getElem?_append_left (by omega)]
      rw [List.getElem?_append_left (by omega), sds_set] at hw
      rcases set_get hw with ⟨y, rfl⟩ | ⟨y, hw⟩
      · subst y
        rw [if_pos rfl]
        exact sl'
      · rw [if_neg fun m => y m.symm, if_pos q]
        have := k'.sl j w (by rw [List.getElem?_append_left (by omega)]; exact hw)
        rw [List.getElem?_append_left (by omega)] at this
        exact this
    · rw [if_neg (by omega), if_neg q]
      rw [List.getElem?_append_right (by omega), lset] at hw
      rw [List.getElem?_append_right (by omega), hσ]
      have e3 : j + 1 = e.length + (j - e.length + 1) := by omega
      have := k'.sl (j + 1) w (by rw [e3, at_]; exact hw)
      have e4 : (σ ++ some u :: τ)[j + 1]? = τ[j - e.length]? := by
        rw [e3, at2]
        rfl
      rw [e4] at this
      exact this
end
end PT
namespace PT
open PySem PySem.Spec PyProof.Rows L2 DL
open Classical
noncomputable section
def LmE (X : Ctx) (r : V → List V → Hp → VK → Prop) (o : List PyData → List PyData → Option (PyData × List PyData)) : Prop :=
  ∀ (I H : Hp) (p : Addr) (xs : List V) (ds : List PyData) (vs : List V) (as : List PyData) (d : PyData) (ds' : List PyData), H p = some (.lst xs) → DaL X.K I xs ds → DaL X.K I vs as → o ds as = some (d, ds') →
    ∀ Q : VK, (∀ v xs', Da X.K I v d → DaL X.K I xs' ds' → Q v (upd H p (.lst xs'))) → r (.ref p) vs H Q
def PL (X : Ctx) (te : TE) (i : Nat) (ss : List Step) : Prop := ∀ σ H v u, σ[i]? = some (some v) → Walk X H v ss u → ∀ Q : VK, Q u H → te σ H Q
def lstAt (e : En) (i : Nat) (ss : List Step) : Option (List PyData) := match e[i]? with
  | some x => x.tree.bind fun t => (t.sub ss).bind fun s => match s with | .lst ds => some ds | _ => none
  | none => none
def putX (e : En) (i : Nat) (ss : List Step) (s : Ow) : Sx := match e[i]? with
  | some x => match x.tree with
    | some t => x.with (t.put ss s)
    | none => .un
  | none => .un
def putAt (e : En) (i : Nat) (ss : List Step) (s : Ow) : En := match e[i]? with
  | some x => match x.tree with
    | some t => e.set i (x.with (t.put ss s))
    | none => e
  | none => e
def gLm (i : Nat) (o : List PyData → List PyData → Option (PyData × List PyData)) (f : En → Option (List PyData × En)) : En → Option (PyData × En) := fun e => (lstAt e i []).bind fun _ => (f e).bind fun y => (lstAt y.2 i []).bind fun ds => (o ds y.1).map fun w => (w.1, putAt y.2 i [] (.lst w.2))
def gLmP (i : Nat) (ss : List Step) (o : List PyData → List PyData → Option (PyData × List PyData)) (f : En → Option (List PyData × En)) : En → Option (PyData × En) := fun e => (lstAt e i ss).bind fun ds => (f (e.set i .un)).bind fun y => (o ds y.1).map fun w => (w.1, y.2.set i (putX e i ss (.lst w.2)))
section
variable {X : Ctx} {z : Nat → V} {T B I H : Hp} {e : En} {σ : L2.St} {v u : V} {i : Nat} {x : Sx} {t : Ow} {te : TE} {tA : TA} {ss : List Step}
theorem lstAt_some {ds : List PyData} (h : lstAt e i ss = some ds) : ∃ x t, e[i]? = some x ∧ x.tree = some t ∧ t.sub ss = some (.lst ds) := by
  unfold lstAt at h
  cases ex : e[i]? with
  | none => simp only [ex] at h; cases h
  | some x =>
    simp only [ex] at h
    obtain ⟨t, h1, h2⟩ := obind h
    obtain ⟨s, h3, h4⟩ := obind h2
    cases s <;> cases h4
    exact ⟨x, t, rfl, h1, h3⟩
theorem putAt_eq {s : Ow} (h1 : e[i]? = some x) (h2 : x.tree = some t) : putAt e i ss s = e.set i (x.with (t.put ss s)) := by
  unfold putAt
  simp only [h1, h2]
theorem rootL {ds : List PyData} (k : Ok X.K T B (sds X z e) σ I H) (hx : e[i]? = some x) (ht : x.tree = some (.lst ds)) : ∃ p xs, σ[i]? = some (some (.ref p)) ∧ H p = some (.lst xs) ∧ DaL X.K I xs ds ∧
    ∀ xs' ds', DaL X.K I xs' ds' → Ok X.K T B (sds X z (e.set i (x.with (.lst ds')))) σ I (upd H p (.lst xs')) := by
  have hi : i < (sds X z e).length := by
    have := (List.getElem?_eq_some_iff.mp hx).1
    simpa using this
  have kk := k.appD (v := .non) (d := .none) .non
  obtain ⟨ft, kk⟩ := kk
  have hx2 : (sds X z e ++ [SD.dat PyData.none])[i]? = some (sd X z x) := by
    rw [List.getElem?_append_left hi]
    exact sds_get hx
  have hj : (σ ++ [some V.non])[i]? = σ[i]? := List.getElem?_append_left (by rw [k.len]; exact hi)
  have sl := kk.sl i _ hx2
  rw [hj] at sl
  obtain ⟨v, e1, ow, put⟩ := sl_tree ht sl
  obtain ⟨p, xs, eF, rfl, hp, hd⟩ := ow.lst_inv
  refine ⟨p, xs, join_some e1, hp, hd, fun xs' ds' hd' => ?_⟩
  have := kk.write2 (i := i) (H' := upd H p (.lst xs')) (F' := [p]) (w' := sd X z (x.with (.lst ds'))) hi (fun a h1 h2 h3 => upd_ne (fun q => h1 (by rw [eF, q]; exact List.mem_singleton.mpr rfl))) (fun a ha => by
    rw [List.mem_singleton] at ha
    subst ha
    exact ⟨by rw [upd_same]; simp, .inl (by rw [eF]; exact List.mem_singleton.mpr rfl)⟩) (put _ _ _ _ (.lst upd_same hd'))
  rw [sds_set]
  exact this
theorem rootP {ds : List PyData} (k : Ok X.K T B (sds X z e) σ I H) (hx : e[i]? = some x) (ht : x.tree = some t) (hs : t.sub ss = some (.lst ds)) : ∃ v p xs, σ[i]? = some (some v) ∧ Walk X H v ss (.ref p) ∧ H p = some (.lst xs) ∧ DaL X.K I xs ds ∧
    ∀ xs' ds', DaL X.K I xs' ds' → Ok X.K T B (sds X z (e.set i (x.with (t.put ss (.lst ds'))))) σ I (upd H p (.lst xs')) := by
  obtain ⟨v, u, T', h1, h2, k', back⟩ := lend k hx ht hs
  have k'' : Ok X.K T' I (sds X z [.own (.lst ds)]) [some u] I H := k'
  obtain ⟨p, xs, e1, hp, hd, up⟩ := rootL (i := 0) (x := .own (.lst ds)) k'' rfl rfl
  have e1 : some (some u) = some (some (V.ref p)) := e1
  cases e1
  refine ⟨v, p, xs, h1, h2, hp, hd, fun xs' ds' hd' => ?_⟩
  have := back (.lst ds') [] [] I _ (up xs' ds' hd')
  simpa using this
theorem pl_var : PL X (tVar i) i [] := fun σ H v u h w Q q => by
  cases w
  exact ⟨_, h, q⟩
theorem ev_lm {r : V → List V → Hp → VK → Prop} {o : List PyData → List PyData → Option (PyData × List PyData)} {f : En → Option (List PyData × En)} (ho : LmE X r o) (ha : DV X z tA f) : EV X z (tBM X.K "list" r (tVar i) tA) (gLm i o f) := fun T B e σ I H d e' k hf Q q => by
  obtain ⟨ds0, h0, hf⟩ := obind hf
  obtain ⟨⟨as, e1⟩, h1, h2⟩ := obind hf
  obtain ⟨ds, h3, h4⟩ := obind h2
  obtain ⟨⟨d', ds'⟩, h5, h6⟩ := omap h4
  cases h6
  obtain ⟨x0, t0, g1, g2, g3⟩ := lstAt_some h0
  cases g3
  obtain ⟨p, xs, q1, q2, _, _⟩ := rootL k g1 g2
  refine ⟨_, q1, .inl ⟨rfl, _, .inl (.inl q2)⟩, ?_⟩
  refine ha T B e σ I H as e1 k h1 _ fun vs I1 H1 k1 s1 a1 => ?_
  obtain ⟨x1, t1, g4, g5, g6⟩ := lstAt_some h3
  cases g6
  obtain ⟨p', xs', q3, q4, q5, up⟩ := rootL k1 g4 g5
  rw [q1] at q3
  cases q3
  refine ho I1 H1 p xs' ds vs as _ ds' q4 q5 a1 h5 Q fun w ys hw hy => q w I1 _ ?_ s1 hw
  have e2 : putAt e1 i [] (.lst ds') = e1.set i (x1.with (.lst ds')) := putAt_eq (ss := []) g4 g5
  show Ok X.K T B (sds X z (putAt e1 i [] (.lst ds'))) σ I1 _
  rw [e2]
  exact up ys ds' hy
theorem ev_lm0 {r : V → List V → Hp → VK → Prop} {o : List PyData → List PyData → Option (PyData × List PyData)} (ho : LmE X r o) : EV X z (tBM0 X.K "list" r (tVar i)) (gLm i o dNil) := fun T B e σ I H d e' k hf Q q => by
  obtain ⟨ds0, h0, hf⟩ := obind hf
  obtain ⟨⟨as, e1⟩, h1, h2⟩ := obind hf
  cases h1
  obtain ⟨ds, h3, h4⟩ := obind h2
  obtain ⟨⟨d', ds'⟩, h5, h6⟩ := omap h4
  cases h6
  obtain ⟨x1, t1, g4, g5, g6⟩ := lstAt_some h3
  cases g6
  obtain ⟨p', xs', q3, q4, q5, up⟩ := rootL k g4 g5
  refine ⟨_, q3, .inl ⟨rfl, _, .inl (.inl q4)⟩, ?_⟩
  refine ho I H p' xs' ds [] [] _ ds' q4 q5 .nil h5 Q fun w ys hw hy => q w I _ ?_ (Same.refl I) hw
  have e2 : putAt e i [] (.lst ds') = e.set i (x1.with (.lst ds')) := putAt_eq (ss := []) g4 g5
  show Ok X.K T B (sds X z (putAt e i [] (.lst ds'))) σ I _
  rw [e2]
  exact up ys ds' hy
theorem ev_lmP {r : V → List V → Hp → VK → Prop} {o : List PyData → List PyData → Option (PyData × List PyData)} {f : En → Option (List PyData × En)} (hp : PL X te i ss) (ho : LmE X r o) (ha : DV X z tA f) : EV X z (tBM X.K "list" r te tA) (gLmP i ss o f) := fun T B e σ I H d e' k hf Q q => by
  obtain ⟨ds, h0, hf⟩ := obind hf
  obtain ⟨⟨as, e1⟩, h1, h2⟩ := obind hf
  obtain ⟨⟨d', ds'⟩, h5, h6⟩ := omap h2
  cases h6
  obtain ⟨x, t, g1, g2, g3⟩ := lstAt_some h0
  obtain ⟨v, u, T', q1, q2, k', back⟩ := lend2 k g1 g2 g3
  obtain ⟨T2, k2, _, unpark⟩ := k'.park
  obtain ⟨v', p0, xs0, w1, w2, w3, _, _⟩ := rootP k g1 g2 g3
  rw [q1] at w1
  cases w1
  have hl0 : (e.set i .un).length = e.length := List.length_set
  have hσ : σ.length = e.length := by have := slen k; simpa using this
  have kx : Ok X.K T' B (sds X z (e.set i .un ++ [.own (.lst ds)])) (σ ++ [some u]) I H := by
    rw [sds, List.map_append]
    exact k'
  obtain ⟨p1, xs1, y1, y2, _, _⟩ := rootL (i := e.length) (x := .own (.lst ds)) kx (by rw [List.getElem?_append_right (by omega), hl0, Nat.sub_self]; rfl) rfl
  rw [List.getElem?_append_right (by omega), hσ, Nat.sub_self] at y1
  cases y1
  refine hp σ H v _ q1 q2 _ ⟨.inl ⟨rfl, _, .inl (.inl y2)⟩, ?_⟩
  refine ha T2 B _ σ I H as e1 k2 h1 _ fun vs I1 H1 k1 s1 a1 => ?_
  have k3 := unpark _ _ _ _ _ k1 s1
  have hl1 : e1.length = e.length := by
    have := slen k1
    simp at this
    omega
  have k4 : Ok X.K T' B (sds X z (e1 ++ [.own (.lst ds)])) (σ ++ [some (.ref p1)]) I1 H1 := by
    rw [sds, List.map_append]
    exact k3
  obtain ⟨p2, xs2, c1, c2, c3, c4⟩ := rootL (i := e.length) (x := .own (.lst ds)) k4 (by rw [List.getElem?_append_right (by omega), hl1, Nat.sub_self]; rfl) rfl
  rw [List.getElem?_append_right (by omega), hσ, Nat.sub_self] at c1
  cases c1
  refine ho I1 H1 p1 xs2 ds vs as _ ds' c2 c3 a1 h5 Q fun w ys hw hy => q w I1 _ ?_ s1 hw
  have k5 := c4 ys ds' hy
  have e5 : (e1 ++ [Sx.own (.lst ds)]).set e.length ((Sx.own (.lst ds)).with (.lst ds')) = e1 ++ [.own (.lst ds')] := by
    rw [List.set_append, if_neg (by omega), hl1, Nat.sub_self]
    rfl
  rw [e5, sds, List.map_append] at k5
  have := back e1 (.lst ds') [] [] _ _ _ k5 s1 hl1
  simpa [putX, g1, g2] using this
end
end
end PT
namespace PT
open PySem PySem.Spec PyProof.Rows L2 DL
open Classical
noncomputable section
def mApp : List PyData → List PyData → Option (PyData × List PyData) := fun ds as => match as with | [d] => if ds.length < sizeLine then some (.none, ds ++ [d]) else none | _ => none
def mPop : List PyData → List PyData → Option (PyData × List PyData) := fun ds as => match as with | [] => (ds[ds.length - 1]?).map fun d => (d, ds.dropLast) | _ => none
def mPopAt : List PyData → List PyData → Option (PyData × List PyData) := fun ds as => match as with | [.int j] => if -(2 ^ 63) ≤ j ∧ j < 2 ^ 63 then (seqIndex? j ds.length).bind fun k => (ds[k]?).map fun d => (d, ds.eraseIdx k) else none | _ => none
def mIns : List PyData → List PyData → Option (PyData × List PyData) := fun ds as => match as with | [.int j, d] => if ds.length < sizeLine ∧ 0 ≤ j ∧ j < 2 ^ 63 then some (.none, ds.take j.toNat ++ [d] ++ ds.drop j.toNat) else none | _ => none
def mRev : List PyData → List PyData → Option (PyData × List PyData) := fun ds as => match as with | [] => some (.none, ds.reverse) | _ => none
def rInsert : V → List V → Hp → VK → Prop := fun x vs H Q => ∃ (l : Addr) (xs : List V) (i : Int) (y : V), x = .ref l ∧ vs = [.int i, y] ∧ H l = some (.lst xs) ∧ xs.length < sizeLine ∧ 0 ≤ i ∧ i < 2 ^ 63 ∧
    Q .non (upd H l (.lst (xs.take i.toNat ++ [y] ++ xs.drop i.toNat)))
section
variable {X : Ctx}
theorem lm_app : LmE X rAppend mApp := fun I H p xs ds vs as d ds' hp hd ha ho Q q => by
  unfold mApp at ho
  split at ho
  · split at ho
    · cases ho
      cases ha with
      | cons h r =>
        cases r
        exact ⟨p, xs, _, rfl, rfl, hp, by rw [hd.length]; assumption, q _ _ .non (hd.append (.one h))⟩
    · cases ho
  · cases ho
theorem lm_pop : LmE X rPop mPop := fun I H p xs ds vs as d ds' hp hd ha ho Q q => by
  unfold mPop at ho
  split at ho
  · obtain ⟨x, h1, h2⟩ := omap ho
    cases h2
    cases ha
    obtain ⟨w, h3, h4⟩ := hd.get h1
    exact ⟨p, xs, w, rfl, rfl, hp, by rw [hd.length]; exact h3, q _ _ h4 hd.dropLast⟩
  · cases ho
theorem lm_popAt : LmE X rPopAt mPopAt := fun I H p xs ds vs as d ds' hp hd ha ho Q q => by
  unfold mPopAt at ho
  split at ho
  · split at ho
    · rename_i hb
      obtain ⟨k, h0, hk⟩ := obind ho
      obtain ⟨x, h1, h2⟩ := omap hk
      cases h2
      obtain ⟨w, h3, h4⟩ := hd.get h1
      cases ha with
      | cons h r =>
        cases r
        exact ⟨p, xs, _, k, w, rfl, by rw [h.int_inv], hp, hb.1, hb.2, by rw [hd.length]; exact h0, h3, q _ _ h4 (hd.eraseIdx k)⟩
    · cases ho
  · cases ho
theorem lm_ins : LmE X rInsert mIns := fun I H p xs ds vs as d ds' hp hd ha ho Q q => by
  unfold mIns at ho
  split at ho
  · split at ho
    · rename_i hb
      cases ho
      cases ha with
      | cons h r =>
        cases r with
        | cons h2 r =>
          cases r
          exact ⟨p, xs, _, _, rfl, by rw [h.int_inv], hp, by rw [hd.length]; exact hb.1, hb.2.1, hb.2.2, q _ _ .non (((hd.take _).append (.one h2)).append (hd.drop _))⟩
    · cases ho
  · cases ho
theorem lm_rev : LmE X rReverse mRev := fun I H p xs ds vs as d ds' hp hd ha ho Q q => by
  unfold mRev at ho
  split at ho
  · cases ho
    cases ha
    exact ⟨p, xs, rfl, rfl, hp, q _ _ .non hd.reverse⟩
  · cases ho
end
def OutOk (X : Ctx) (z : Nat → V) (T B : Hp) (o : Out) (D : Ends) : Prop := match o with
  | .nx e => NX X.K T B (sds X z e) D.nx
  | .rt (.dat d) e => RT X.K T B (sds X z e) d D.rt
  | .rt (.own t) e => ∀ σ I H v, Ok X.K T B (sds X z e ++ [sd X z (.own t)]) (σ ++ [some v]) I H → D.rt v H
  | .bk e => NX X.K T B (sds X z e) D.bk
  | .ct e => NX X.K T B (sds X z e) D.ct
def SV (X : Ctx) (z : Nat → V) (ts : TS) (g : En → Option Out) : Prop := ∀ T B e σ I H o D, Ok X.K T B (sds X z e) σ I H → g e = some o → OutOk X z T B o D → ts D σ H
def GTV (X : Ctx) (z : Nat → V) (g : TG) (h : PyData → En → Option En) : Prop := ∀ T B e σ I H v d e', Ok X.K T B (sds X z e) σ I H → Da X.K I v d → h d e = some e' → ∀ Q : L2.St → Hp → Prop, (∀ σ', Ok X.K T B (sds X z e') σ' I H → Q σ' H) → g v σ H Q
def GTVs (X : Ctx) (z : Nat → V) (g : TGs) (h : List PyData → En → Option En) : Prop := ∀ T B e σ I H vs ds e', Ok X.K T B (sds X z e) σ I H → DaL X.K I vs ds → h ds e = some e' → ∀ Q : L2.St → Hp → Prop, (∀ σ', Ok X.K T B (sds X z e') σ' I H → Q σ' H) → g vs σ H Q
def IV (X : Ctx) (z : Nat → V) (wi : TI) (f : En → Option (List PyData × En)) : Prop := ∀ T B e σ I H ds e', Ok X.K T B (sds X z e) σ I H → f e = some (ds, e') → ∀ R : It → Hp → Prop, (∀ J I' H', Ok X.K T B (sds X z e') σ I' H' → Same I I' → Runs X.K I' J ds → R J H') → wi σ H R
theorem OutOk.less {X : Ctx} {z : Nat → V} {T B B' : Hp} {o : Out} {D : Ends} (h : OutOk X z T B o D) (e : Same B B') : OutOk X z T B' o D := by
  match o, h with
  | .nx _, h => exact NX.up h e
  | .rt (.dat _) _, h => exact RT.up h e
  | .rt (.own _) _, h => exact fun σ I H v k => h σ I H v (k.less e)
  | .bk _, h => exact NX.up h e
  | .ct _, h => exact NX.up h e
def sNext : En → Option Out := fun e => some (.nx e)
def sBrk : En → Option Out := fun e => some (.bk e)
def sCt : En → Option Out := fun e => some (.ct e)
def sSeq (g h : En → Option Out) : En → Option Out := fun e => (g e).bind fun o => match o with | .nx e1 => h e1 | o => some o
def sSet (i : Nat) (f : En → Option (PyData × En)) : En → Option Out := fun e => (f e).map fun y => .nx (y.2.set i (.dat y.1))
def sOwn (i : Nat) (f : En → Option (Ow × En)) : En → Option Out := fun e => (f e).map fun y => .nx (y.2.set i (.own y.1))
def sAsg (f : En → Option (PyData × En)) (h : PyData → En → Option En) : En → Option Out := fun e => (f e).bind fun y => (h y.1 y.2).map .nx
def sDrop (f : En → Option (PyData × En)) : En → Option Out := fun e => (f e).map fun y => .nx y.2
def sRet (f : En → Option (PyData × En)) : En → Option Out := fun e => (f e).map fun y => .rt (.dat y.1) y.2
def sRetN : En → Option Out := fun e => some (.rt (.dat .none) e)
def sRetG (f : En → Option (Ow × En)) : En → Option Out := fun e => (f e).map fun y => .rt (.own y.1) y.2
def sRetV (i : Nat) : En → Option Out := fun e => match e[i]? with
  | some (.dat d) => some (.rt (.dat d) e)
  | some (.own t) => some (.rt (.own t) (e.set i .un))
  | _ => none
def sIf (c : En → Option (Bool × En)) (g h : En → Option Out) : En → Option Out := fun e => (c e).bind fun y => if y.1 = true then g y.2 else h y.2
def sAug (i : Nat) (f : Int → Int → Int) (g : En → Option (PyData × En)) : En → Option Out := fun e => match e[i]? with
  | some (.dat (.int a)) => (g e).bind fun y => match y.1 with | .int b => some (.nx (y.2.set i (.dat (.int (f a b))))) | _ => none
  | _ => none
def sPar (i j : Nat) (f : En → Option (List PyData × En)) : En → Option Out := fun e => (f e).bind fun y => match y.1 with | [a, b] => some (.nx ((y.2.set i (.dat a)).set j (.dat b))) | _ => none
def hName (i : Nat) : PyData → En → Option En := fun d e => some (e.set i (.dat d))
def hNil : List PyData → En → Option En := fun ds e => match ds with | [] => some e | _ => none
def hCons (h : PyData → En → Option En) (hs : List PyData → En → Option En) : List PyData → En → Option En := fun ds e => match ds with | d :: ds => (h d e).bind (hs ds) | [] => none
def hTup (n : Nat) (hs : List PyData → En → Option En) : PyData → En → Option En := fun d e => match d with | .tuple ds => if ds.length = n then hs ds e else none | _ => none
def hSub (i : Nat) (f : En → Option (PyData × En)) : PyData → En → Option En := fun d e => (lstAt e i []).bind fun _ => (f e).bind fun y => match y.1 with
  | .int j => (lstAt y.2 i []).bind fun ds => (ixN ds.length j).map fun n => putAt y.2 i [] (.lst (ds.set n d))
  | _ => none
def forL (h : PyData → En → Option En) (g : En → Option Out) : List PyData → En → Option Out
  | [], e => some (.nx e)
  | d :: ds, e => (h d e).bind fun e1 => (g e1).bind fun o => match o with
    | .nx e2 => forL h g ds e2
    | .ct e2 => forL h g ds e2
    | .bk e2 => some (.nx e2)
    | .rt r e2 => some (.rt r e2)
def sFor (f : En → Option (List PyData × En)) (h : PyData → En → Option En) (g : En → Option Out) : En → Option Out := fun e => (f e).bind fun y => forL h g y.1 y.2
def iLst (f : En → Option (PyData × En)) : En → Option (List PyData × En) := fun e => (f e).bind fun y => match y.1 with | .list ds => some (ds, y.2) | _ => none
def iTupF (f : En → Option (PyData × En)) : En → Option (List PyData × En) := fun e => (f e).bind fun y => match y.1 with | .tuple ds => some (ds, y.2) | _ => none
def iRg1 (f : En → Option (List PyData × En)) : En → Option (List PyData × En) := fun e => (f e).bind fun y => match y.1 with | [.int j] => if -(2 ^ 62) ≤ j ∧ j < 2 ^ 62 then some (rangeD 0 j.toNat, y.2) else none | _ => none
def iRg2 (f : En → Option (List PyData × En)) : En → Option (List PyData × En) := fun e => (f e).bind fun y => match y.1 with | [.int i, .int j] => if -(2 ^ 62) ≤ i ∧ i < 2 ^ 62 ∧ -(2 ^ 62) ≤ j ∧ j < 2 ^ 62 then some (rangeD i (j - i).toNat, y.2) else none | _ => none
def iEnumF (f : En → Option (List PyData × En)) : En → Option (List PyData × En) := fun e => (f e).bind fun y => match y.1 with | [.list ds] => some (enumD ds, y.2) | _ => none
def wipeE (e : En) : List Nat → En
  | [] => e
  | v :: vs => (wipeE e vs).set v .un
def backE (e e4 : En) : List Nat → En
  | [] => e4
  | v :: vs => (backE e e4 vs).set v (e.getD v .un)
def Sx.plain : Sx → Bool
  | .un => true | .dat _ => true | _ => false
def plainE (e : En) (vs : List Nat) : Bool := vs.all fun v => (e.getD v .un).plain
def lcL (h : PyData → En → Option En) (c : En → Option (Bool × En)) (f : En → Option (PyData × En)) (vs : List Nat) : List PyData → List PyData → En → Option (List PyData × En)
  | [], acc, e => some (acc, e)
  | d :: ds, acc, e => if plainE e vs = true then (h d (wipeE e vs)).bind fun e1 => (c e1).bind fun y => if y.1 = true then (f y.2).bind fun w => if acc.length < sizeLine then lcL h c f vs ds (acc ++ [w.1]) (backE e w.2 vs) else none else lcL h c f vs ds acc (backE e y.2 vs) else none
def lLc (i : En → Option (List PyData × En)) (h : PyData → En → Option En) (c : En → Option (Bool × En)) (f : En → Option (PyData × En)) (vs : List Nat) : En → Option (Ow × En) := fun e => (i e).bind fun y => (lcL h c f vs y.1 [] y.2).map fun w => (.lst w.1, w.2)
section
variable {X : Ctx} {z : Nat → V} {t u : TS} {g h : En → Option Out} {te : TE} {tA : TA} {tt : TT} {f : En → Option (PyData × En)} {fl : En → Option (Ow × En)} {fb : En → Option (Bool × En)} {fd fi : En → Option (List PyData × En)} {i j : Nat} {wi : TI}
theorem sv_seq (ht : SV X z t g) (hu : SV X z u h) : SV X z (tSeq t u) (sSeq g h) := fun T B e σ I H o D k hg q => by
  obtain ⟨o1, h1, h2⟩ := obind hg
  show t { D with nx := u D } σ H
  refine ht T B e σ I H o1 _ k h1 ?_
  match o1, h2 with
  | .nx e1, h2 => exact fun σ' I' H' k' => hu T B e1 σ' I' H' o D k' h2 q
  | .rt (.dat _) _, h2 =>
    cases h2
    exact q
  | .rt (.own _) _, h2 =>
    cases h2
    exact q
  | .bk _, h2 =>
    cases h2
    exact q
  | .ct _, h2 =>
    cases h2
    exact q
theorem sv_next : SV X z tNext sNext := fun T B e σ I H o D k hg q => by
  cases hg
  exact q σ I H k
theorem sv_brk : SV X z tBreak sBrk := fun T B e σ I H o D k hg q => by
  cases hg
  exact q σ I H k
theorem sv_ct : SV X z tCont sCt := fun T B e σ I H o D k hg q => by
  cases hg
  exact q σ I H k
theorem sv_set (hf : EV X z te f) : SV X z (tAsg te (gName i)) (sSet i f) := fun T B e σ I H o D k hg q => by
  obtain ⟨⟨d, e1⟩, h1, h2⟩ := omap hg
  subst h2
  refine hf T B e σ I H d e1 k h1 _ fun v I' H' k' s a => q _ I' H' ?_
  rw [sds_set]
  exact k'.set a
theorem sv_own (hf : GV X z te fl) : SV X z (tAsg te (gName i)) (sOwn i fl) := fun T B e σ I H o D k hg q => by
  obtain ⟨⟨d, e1⟩, h1, h2⟩ := omap hg
  subst h2
  refine hf T B e σ I H d e1 k h1 _ fun v I' H' k' s => q _ I' H' ?_
  rw [sds_set]
  have hl : σ.length = (sds X z e1).length := by have := k'.len; simp at this; simpa using this
  by_cases hi : i < (sds X z e1).length
  · exact k'.unmove hi
  · have hi : (sds X z e1).length ≤ i := Nat.le_of_not_lt hi
    rw [List.set_eq_of_length_le hi, List.set_eq_of_length_le (by rw [hl]; exact hi)]
    exact k'.chop
theorem gt_name : GTV X z (gName i) (hName i) := fun T B e σ I H v d e' k a hh Q q => by
  cases hh
  refine q _ ?_
  rw [sds_set]
  exact k.set a
theorem gts_nil : GTVs X z gNil hNil := fun T B e σ I H vs ds e' k a hh Q q => by
  cases a with
  | nil =>
    cases hh
    exact ⟨rfl, q _ k⟩
  | cons _ _ => cases hh
theorem gts_cons {gt : TG} {gs : TGs} {hx : PyData → En → Option En} {hs : List PyData → En → Option En} (h1 : GTV X z gt hx) (h2 : GTVs X z gs hs) : GTVs X z (gCons gt gs) (hCons hx hs) := fun T B e σ I H vs ds e' k a hh Q q => by
  cases a with
  | nil => cases hh
  | cons a r =>
    obtain ⟨e1, g1, g2⟩ := obind hh
    exact ⟨_, _, rfl, h1 T B e σ I H _ _ e1 k a g1 _ fun σ' k' => h2 T B e1 σ' I H _ _ e' k' r g2 Q q⟩
theorem gt_tup {n : Nat} {gs : TGs} {hs : List PyData → En → Option En} (h2 : GTVs X z gs hs) : GTV X z (L2.gTup X.K n gs) (hTup n hs) := fun T B e σ I H v d e' k a hh Q q => by
  unfold hTup at hh
  split at hh
  · split at hh
    · rename_i hn
      obtain ⟨p, xs, rfl, hs', ha⟩ := a.tup_inv
      exact ⟨p, xs, rfl, sqT_mono k.sub hs', by rw [ha.length]; exact hn, h2 T B e σ I H xs _ e' k ha hh Q q⟩
    · cases hh
  · cases hh
theorem gt_sub (hf : EV X z te f) : SV X z t g → SV X z t g := id
theorem sv_asg {gt : TG} {hx : PyData → En → Option En} (hf : EV X z te f) (hg : GTV X z gt hx) : SV X z (tAsg te gt) (sAsg f hx) := fun T B e σ I H o D k hh q => by
  obtain ⟨⟨d, e1⟩, h1, h2⟩ := obind hh
  obtain ⟨e2, h3, h4⟩ := omap h2
  subst h4
  refine hf T B e σ I H d e1 k h1 _ fun v I' H' k' s a => ?_
  exact hg T B e1 σ I' H' v d e2 k' a h3 _ fun σ' k2 => q σ' I' H' k2
theorem sv_sub {ti : TE} {fx : En → Option (PyData × En)} (hf : EV X z te f) (hi : EV X z ti fx) : SV X z (tAsg te (gSub (tVar i) ti rSetL)) (sAsg f (hSub i fx)) := fun T B e σ I H o D k hh q => by
  obtain ⟨⟨d, e1⟩, h1, h2⟩ := obind hh
  obtain ⟨e2, h3, h4⟩ := omap h2
  subst h4
  refine hf T B e σ I H d e1 k h1 _ fun v I1 H1 k1 s1 a1 => ?_
  obtain ⟨ds0, g0, g1⟩ := obind h3
  obtain ⟨⟨y, e3⟩, g2, g3⟩ := obind g1
  obtain ⟨x0, t0, w1, w2, w3⟩ := lstAt_some g0
  cases w3
  obtain ⟨p, xs, q1, q2, _, _⟩ := rootL k1 w1 w2
  refine ⟨_, q1, ?_⟩
  refine hi T B e1 σ I1 H1 y e3 k1 g2 _ fun w I2 H2 k2 s2 a2 => ?_
  cases y <;> try cases g3
  rename_i j
  obtain ⟨ds, g4, g5⟩ := obind g3
  obtain ⟨n, g6, g7⟩ := omap g5
  subst g7
  obtain ⟨x1, t1, w4, w5, w6⟩ := lstAt_some g4
  cases w6
  obtain ⟨p', xs', q3, q4, q5, up⟩ := rootL k2 w4 w5
  rw [q1] at q3
  cases q3
  refine ⟨p, xs', j, n, rfl, a2.int_inv, q4, by rw [q5.length]; exact g6, ?_⟩
  have e4 : putAt e3 i [] (.lst (ds.set n d)) = e3.set i (x1.with (.lst (ds.set n d))) := putAt_eq (ss := []) w4 w5
  have q : NX X.K T B (sds X z (putAt e3 i [] (.lst (ds.set n d)))) D.nx := q
  rw [e4] at q
  exact q σ I2 _ (up _ _ (q5.set (a1.mono s2)))
theorem sv_drop (hf : EV X z te f) : SV X z (tDrop te) (sDrop f) := fun T B e σ I H o D k hg q => by
  obtain ⟨⟨d, e1⟩, h1, h2⟩ := omap hg
  subst h2
  exact hf T B e σ I H d e1 k h1 _ fun v I' H' k' s a => q _ I' H' k'
theorem sv_ret (hf : EV X z te f) : SV X z (tRet te) (sRet f) := fun T B e σ I H o D k hg q => by
  obtain ⟨⟨d, e1⟩, h1, h2⟩ := omap hg
  subst h2
  exact hf T B e σ I H d e1 k h1 _ fun v I' H' k' s a => q σ I' H' v k' a
theorem sv_retN : SV X z tRetN sRetN := fun T B e σ I H o D k hg q => by
  cases hg
  exact q σ I H _ k .non
theorem sv_retG (hf : GV X z te fl) : SV X z (tRet te) (sRetG fl) := fun T B e σ I H o D k hg q => by
  obtain ⟨⟨d, e1⟩, h1, h2⟩ := omap hg
  subst h2
  exact hf T B e σ I H d e1 k h1 _ fun v I' H' k' s => q σ I' H' v k'
theorem sv_retV : SV X z (tRet (tVar i)) (sRetV i) := fun T B e σ I H o D k hg q => by
  unfold sRetV at hg
  split at hg
  · rename_i d hx
    cases hg
    obtain ⟨v, h1, h2⟩ := k.dat (sds_get hx)
    exact ⟨v, h1, q σ I H v k h2⟩
  · rename_i t hx
    cases hg
    obtain ⟨ft, k0⟩ := id k
    obtain ⟨v, e1, _⟩ := k0.sl i _ (sds_get hx)
    have m := k.move (sds_get hx) (join_some e1)
    refine ⟨v, join_some e1, q σ I H v ?_⟩
    rw [sds_set]
    exact m
  · cases hg
theorem sv_if (hc : TV X z tt fb) (ht : SV X z t g) (hu : SV X z u h) : SV X z (tIfS tt t u) (sIf fb g h) := fun T B e σ I H o D k hg q => by
  obtain ⟨⟨b, e1⟩, h1, h2⟩ := obind hg
  refine hc T B e σ I H b e1 k h1 _ fun I' H' k' s => ?_
  cases b with
  | true => exact ht T B e1 σ I' H' o D k' h2 q
  | false => exact hu T B e1 σ I' H' o D k' h2 q
theorem sv_aug {ff : Int → Int → Int} (hf : EV X z te f) : SV X z (tAug i te (ipI ff)) (sAug i ff f) := fun T B e σ I H o D k hg q => by
  unfold sAug at hg
  split at hg
  · rename_i a hx
    obtain ⟨⟨y, e1⟩, h1, h2⟩ := obind hg
    obtain ⟨v, h3, h4⟩ := k.dat (sds_get hx)
    obtain rfl := h4.int_inv
    refine ⟨_, h3, ?_⟩
    refine hf T B e σ I H y e1 k h1 _ fun w I' H' k' s a' => ?_
    cases y <;> cases h2
    refine ⟨a, _, rfl, a'.int_inv, q _ I' H' ?_⟩
    rw [sds_set]
    exact k'.set (.int _)
  · cases hg
theorem sv_par (hf : DV X z tA fd) : SV X z (tPar i j tA) (sPar i j fd) := fun T B e σ I H o D k hg q => by
  obtain ⟨⟨ds, e1⟩, h1, h2⟩ := obind hg
  refine hf T B e σ I H ds e1 k h1 _ fun vs I' H' k' s a => ?_
  match ds, h2, a with
  | [x, y], h2, .cons a1 (.cons a2 .nil) =>
    cases h2
    refine ⟨_, _, rfl, q _ I' H' ?_⟩
    rw [sds_set, sds_set]
    exact (k'.set a1).set a2
theorem iv_list (hf : EV X z te f) : IV X z (iList X.K te) (iLst f) := fun T B e σ I H ds e' k hg R q => by
  obtain ⟨⟨d, e1⟩, h1, h2⟩ := obind hg
  refine hf T B e σ I H d e1 k h1 _ fun v I' H' k' s a => ?_
  cases d <;> cases h2
  obtain ⟨p, xs, rfl, hs, ha⟩ := a.list_inv
  exact ⟨p, rfl, ⟨xs, .inl (.inl (k'.sub _ _ hs))⟩, q _ I' H' k' s (runs_list hs ha)⟩
theorem iv_tup (hf : EV X z te f) : IV X z (iTup X.K te) (iTupF f) := fun T B e σ I H ds e' k hg R q => by
  obtain ⟨⟨d, e1⟩, h1, h2⟩ := obind hg
  refine hf T B e σ I H d e1 k h1 _ fun v I' H' k' s a => ?_
  cases d <;> cases h2
  obtain ⟨p, xs, rfl, hs, ha⟩ := a.tup_inv
  exact ⟨p, rfl, ⟨xs, sqT_mono k'.sub hs⟩, q _ I' H' k' s (runs_tup hs ha)⟩
theorem iv_range1 (hf : DV X z tA fd) : IV X z (iRng1 tA) (iRg1 fd) := fun T B e σ I H ds e' k hg R q => by
  obtain ⟨⟨d, e1⟩, h1, h2⟩ := obind hg
  refine hf T B e σ I H d e1 k h1 _ fun vs I' H' k' s a => ?_
  match d, h2, a with
  | [.int j], h2, .cons a1 .nil =>
    have h2 : (if -(2 ^ 62) ≤ j ∧ j < 2 ^ 62 then some (rangeD 0 j.toNat, e1) else none) = some (ds, e') := h2
    split at h2
    · rename_i hb
      cases h2
      exact ⟨j, by rw [a1.int_inv], hb.1, hb.2, q _ I' H' k' s runs_range⟩
    · cases h2
theorem iv_range2 (hf : DV X z tA fd) : IV X z (iRng2 tA) (iRg2 fd) := fun T B e σ I H ds e' k hg R q => by
  obtain ⟨⟨d, e1⟩, h1, h2⟩ := obind hg
  refine hf T B e σ I H d e1 k h1 _ fun vs I' H' k' s a => ?_
  match d, h2, a with
  | [.int i, .int j], h2, .cons a1 (.cons a2 .nil) =>
    have h2 : (if -(2 ^ 62) ≤ i ∧ i < 2 ^ 62 ∧ -(2 ^ 62) ≤ j ∧ j < 2 ^ 62 then some (rangeD i (j - i).toNat, e1) else none) = some (ds, e') := h2
    split at h2
    · rename_i hb
      cases h2
      exact ⟨i, j, by rw [a1.int_inv, a2.int_inv], hb, q _ I' H' k' s runs_range⟩
    · cases h2
theorem iv_enum (hf : DV X z tA fd) : IV X z (iEnum X.K tA) (iEnumF fd) := fun T B e σ I H ds e' k hg R q => by
  obtain ⟨⟨d, e1⟩, h1, h2⟩ := obind hg
  refine hf T B e σ I H d e1 k h1 _ fun vs I' H' k' s a => ?_
  match d, h2, a with
  | [.list es], h2, .cons a1 .nil =>
    cases h2
    obtain ⟨p, xs, rfl, hs, ha⟩ := a1.list_inv
    exact ⟨p, xs, rfl, .inl (.inl (k'.sub _ _ hs)), q _ I' H' k' s (runs_enum hs ha)⟩
theorem drop_cons {α : Type} {xs : List α} {i : Nat} {x : α} (h : xs[i]? = some x) : xs.drop i = x :: xs.drop (i + 1) := by
  have hl := (List.getElem?_eq_some_iff.mp h).1
  rw [List.drop_eq_getElem_cons hl]
  have := (List.getElem?_eq_some_iff.mp h).2
  rw [this]
theorem sv_for {gt : TG} {hx : PyData → En → Option En} (hi : IV X z wi fi) (hg : GTV X z gt hx) (ht : SV X z t g) : SV X z (tFor wi gt t) (sFor fi hx g) := fun T B e σ I H o D k hh q => by
  obtain ⟨⟨ds, e1⟩, h1, h2⟩ := obind hh
  refine hi T B e σ I H ds e1 k h1 _ fun J I1 H1 k1 s1 r => ?_
  have q1 : OutOk X z T I1 o D := q.less k1.bse
  refine ⟨fun i m σ H => m = ds.length - i ∧ i ≤ ds.length ∧ ∃ e I, forL hx g (ds.drop i) e = some o ∧ Ok X.K T I1 (sds X z e) σ I H, ⟨_, rfl, Nat.zero_le _, e1, I1, h2, k1.self⟩, ?_⟩
  rintro i m σ H ⟨rfl, hi, e, I2, hf, k2⟩
  by_cases hlt : i < ds.length
  · refine .inr ⟨r.go i H I2 hlt k2.bse k2.sub, fun σ' H' => ∃ e' I', forL hx g (ds.drop (i + 1)) e' = some o ∧ Ok X.K T I1 (sds X z e') σ' I' H', fun σ' H' ⟨e', I', hf', k'⟩ => ⟨ds.length - (i + 1), by omega, rfl, hlt, e', I', hf', k'⟩, fun x H' y => ?_⟩
    obtain ⟨d, I3, ed, k3, s3, a3⟩ := r.yld i x H H' T I1 (sds X z e) σ I2 k2 k2.bse y hlt
    rw [drop_cons ed] at hf
    obtain ⟨e2, g1, g2⟩ := obind hf
    obtain ⟨o2, g3, g4⟩ := obind g2
    refine hg T I1 e σ I3 H' x d e2 k3 a3 g1 _ fun σ2 k4 => ?_
    refine ht T I1 e2 σ2 I3 H' o2 _ k4 g3 ?_
    match o2, g4 with
    | .nx e3, g4 => exact fun σ' I' H' k' => ⟨e3, I', g4, k'⟩
    | .ct e3, g4 => exact fun σ' I' H' k' => ⟨e3, I', g4, k'⟩
    | .bk e3, g4 =>
      cases g4
      exact q1
    | .rt (.dat d) e3, g4 =>
      cases g4
      exact q1
    | .rt (.own d) e3, g4 =>
      cases g4
      exact q1
  · have e0 : i = ds.length := by omega
    subst e0
    rw [List.drop_length] at hf
    cases hf
    exact .inl ⟨r.stop H I2 k2.bse k2.sub, q1 σ I2 H k2⟩
theorem sds_wipe {e : En} : ∀ {vs : List Nat}, sds X z (wipeE e vs) = wipeS (sds X z e) vs
  | [] => rfl
  | v :: vs => by
    show sds X z ((wipeE e vs).set v .un) = (wipeS (sds X z e) vs).set v .un
    rw [sds_set, sds_wipe]
    rfl
theorem sds_getD {e : En} {v : Nat} : (sds X z e).getD v .un = sd X z (e.getD v .un) := by
  rw [List.getD_eq_getElem?_getD, List.getD_eq_getElem?_getD, List.getElem?_map]
  cases e[v]? <;> rfl
theorem sds_back {e e4 : En} : ∀ {vs : List Nat}, sds X z (backE e e4 vs) = backS (sds X z e) (sds X z e4) vs
  | [] => rfl
  | v :: vs => by
    show sds X z ((backE e e4 vs).set v (e.getD v .un)) = (backS (sds X z e) (sds X z e4) vs).set v ((sds X z e).getD v .un)
    rw [sds_set, sds_back, sds_getD]
theorem plain_of {e : En} {vs : List Nat} (h : plainE e vs = true) : Plain (sds X z e) vs := fun v hv => by
  have := List.all_eq_true.mp h v hv
  rw [sds_getD]
  cases hx : e.getD v .un with
  | un => exact .inl rfl
  | dat d => exact .inr ⟨d, rfl⟩
  | own t => rw [hx] at this; cases this
  | par k t => rw [hx] at this; cases this
  | scr ns => rw [hx] at this; cases this
def GCV (X : Ctx) (z : Nat → V) (vs : List Nat) (g : TG) (h : PyData → En → Option En) : Prop := ∀ e d e', h d e = some e' → GC X.K vs (sds X z e) g d (fun w => w = sds X z e')
def GCVs (X : Ctx) (z : Nat → V) (vs : List Nat) (g : TGs) (h : List PyData → En → Option En) : Prop := ∀ e ds e', h ds e = some e' → GCs X.K vs (sds X z e) g ds (fun w => w = sds X z e')
theorem gcv_name {vs : List Nat} (hi : i ∈ vs) : GCV X z vs (gName i) (hName i) := fun e d e' hh => by
  cases hh
  exact gc_name hi (sds_set (x := .dat d)).symm
theorem gcvs_nil {vs : List Nat} : GCVs X z vs gNil hNil := fun e ds e' hh => by
  cases ds with
  | nil =>
    cases hh
    exact gcs_nil rfl
  | cons _ _ => cases hh
theorem gcvs_cons {vs : List Nat} {gt : TG} {gs : TGs} {hx : PyData → En → Option En} {hs : List PyData → En → Option En} (h1 : GCV X z vs gt hx) (h2 : GCVs X z vs gs hs) : GCVs X z vs (gCons gt gs) (hCons hx hs) := fun e ds e' hh => by
  cases ds with
  | nil => cases hh
  | cons d ds =>
    obtain ⟨e1, g1, g2⟩ := obind hh
    refine gcs_cons fun T B σ I H v k a Q q => h1 e d e1 g1 T B σ I H v k a Q fun w σ' hw k' ew => q w σ' ?_ k' ew
    subst hw
    exact h2 e1 ds e' g2
theorem gcv_tup {vs : List Nat} {n : Nat} {gs : TGs} {hs : List PyData → En → Option En} (h2 : GCVs X z vs gs hs) : GCV X z vs (L2.gTup X.K n gs) (hTup n hs) := fun e d e' hh => by
  unfold hTup at hh
  split at hh
  · split at hh
    · exact gc_tup ‹_› (h2 e _ e' hh)
    · cases hh
  · cases hh
theorem gv_lc {vs : List Nat} {gt : TG} {hx : PyData → En → Option En} (hi : IV X z wi fi) (hg : GCV X z vs gt hx) (hc : TV X z tt fb) (he : EV X z te f) : GV X z (tLc wi gt tt te vs) (lLc fi hx fb f vs) := fun T B e σ I H t e' k hh Q q => by
  obtain ⟨⟨ds, e1⟩, h1, h2⟩ := obind hh
  obtain ⟨⟨res, e2⟩, h3, h4⟩ := omap h2
  cases h4
  refine hi T B e σ I H ds e1 k h1 _ fun J I1 H1 k1 s1 r => ?_
  intro D hD
  obtain ⟨kD, nD⟩ := k1.hand (o := .lst []) hD
  refine ⟨fun i m H => m = ds.length - i ∧ i ≤ ds.length ∧ ∃ e acc us I2, lcL hx fb f vs (ds.drop i) acc e = some (res, e2) ∧ Ok X.K (upd T D (.lst us)) I1 (sds X z e) σ I2 H ∧ DaL X.K I2 us acc, ⟨_, rfl, Nat.zero_le _, e1, [], [], I1, h3, kD.self, .nil⟩, ?_⟩
  rintro i m H2 ⟨rfl, hi, e, acc, us, I2, hf, k2, da⟩
  by_cases hlt : i < ds.length
  · refine .inr ⟨r.go i H2 I2 hlt k2.bse k2.sub, fun H' => ∃ e acc us I2, lcL hx fb f vs (ds.drop (i + 1)) acc e = some (res, e2) ∧ Ok X.K (upd T D (.lst us)) I1 (sds X z e) σ I2 H' ∧ DaL X.K I2 us acc, fun H' y => ⟨ds.length - (i + 1), by omega, rfl, hlt, y⟩, fun x H3 y => ?_⟩
    obtain ⟨d, I3, ed, k3, s3, a3⟩ := r.yld i x H2 H3 _ I1 (sds X z e) σ I2 k2 k2.bse y hlt
    rw [drop_cons ed] at hf
    unfold lcL at hf
    split at hf
    · rename_i hp
      obtain ⟨e3, g1, g2⟩ := obind hf
      obtain ⟨⟨b, e4⟩, g3, g4⟩ := obind g2
      have kw := k3.wipe (vs := vs)
      rw [← sds_wipe] at kw
      refine hg _ d e3 g1 _ I1 _ I3 H3 x kw a3 _ fun w2 σ2 hw k4 ew => ?_
      subst hw
      have ew : L2.wipe σ2 vs = L2.wipe σ vs := ew.trans wipe_idem
      refine ⟨ew, ?_⟩
      refine hc _ I1 e3 σ2 I3 H3 b e4 k4 g3 _ fun I4 H4 k5 s5 => ?_
      cases b with
      | true =>
        obtain ⟨⟨y, e5⟩, g5, g6⟩ := obind g4
        refine he _ I1 e4 σ2 I4 H4 y e5 k5 g5 _ fun v I5 H5 k6 s6 a6 => ?_
        split at g6
        · rename_i hz
          have kk := k3.back k6 ew (s5.trans s6) (plain_of hp)
          rw [← sds_back] at kk
          obtain ⟨hH, up⟩ := kk.more (y := v)
          exact ⟨us, hH, by rw [da.length]; exact hz, _, _, us ++ [v], I5, g6, up _, (da.mono (s3.trans (s5.trans s6))).append (.one a6)⟩
        · cases g6
      | false =>
        have kk := k3.back k5 ew s5 (plain_of hp)
        rw [← sds_back] at kk
        exact ⟨_, _, us, I4, g4, kk, da.mono (s3.trans s5)⟩
    · cases hf
  · have e0 : i = ds.length := by omega
    subst e0
    rw [List.drop_length] at hf
    cases hf
    refine .inl ⟨r.stop H2 I2 k2.bse k2.sub, q (.ref D) I2 H2 ?_ (s1.trans k2.bse)⟩
    have kf := k2.less k1.bse
    have kA := kf
    obtain ⟨ft, kf⟩ := kf
    have hpD : (upd T D (HO.lst us)) D = some (.lst us) := upd_same
    have hI : I2 D = none := kf.ti D (by rw [hpD]; simp)
    have hH : H2 D = some (.lst us) := kf.oth _ _ hpD
    have k9 : Ok1 X.K T B ft (sds X z e2) σ I2 H2 := ⟨kf.sub, fun b x e => kf.oth b x (by rw [upd_ne (ne_of_none e nD)]; exact e), kf.bse, fun b hb => kf.ti b (by rw [upd_ne fun y => hb (by rw [y]; exact nD)]; exact hb), kf.len, kf.ap, fun i a ha => by
      obtain ⟨w1, w2, w3⟩ := kf.own i a ha
      refine ⟨w1, ?_, w3⟩
      have ne : a ≠ D := fun y => by
        rw [y, upd_same] at w2
        cases w2
      rw [upd_ne ne] at w2
      exact w2, kf.sl⟩
    exact ⟨_, k9.app (F := [D]) (fun a ha => by
      rw [List.mem_singleton] at ha
      subst ha
      refine ⟨⟨hI, nD, by rw [hH]; simp⟩, fun i _ hm => ?_⟩
      have := (kf.own i a hm).2.1
      rw [hpD] at this
      cases this) ⟨_, rfl, .lst hH da⟩⟩
end
end
end PT
namespace PT
open PySem PySem.Spec PyProof.Rows L2 DL
open Classical
noncomputable section
abbrev z0 : Nat → V := fun _ => .non
def RxOk (X : Ctx) (z : Nat → V) (T B : Hp) (r : Rx) (e : En) (σ : L2.St) (I : Hp) (Q : VK) : Prop := match r with
  | .dat d => ∀ v I' H', Ok X.K T B (sds X z e) σ I' H' → Same I I' → Da X.K I' v d → Q v H'
  | .own t => ∀ v I' H', Ok X.K T B (sds X z e ++ [sd X z (.own t)]) (σ ++ [some v]) I' H' → Same I I' → Q v H'
def RV (X : Ctx) (z : Nat → V) (te : TE) (f : En → Option (Rx × En)) : Prop := ∀ T B e σ I H r e', Ok X.K T B (sds X z e) σ I H → f e = some (r, e') → ∀ Q : VK, RxOk X z T B r e' σ I Q → te σ H Q
def SpX (X : Ctx) (F : En → Option (Rx × En)) : Sp := fun vs H Q _ => ∃ T B I us r us', Ok X.K T B (sds X z0 us) (vs.map some) I H ∧ F us = some (r, us') ∧ us'.length = us.length ∧ RxOk X z0 T B r us' (vs.map some) I Q
def lentE : List Ad → En → Option (En × En)
  | [], e => some ([], e)
  | .d x :: as, e => (lentE as e).map fun y => (.dat x :: y.1, y.2)
  | .s i :: as, e => match e[i]? with
    | some (.own t) => (lentE as (e.set i .un)).map fun y => (.own t :: y.1, y.2)
    | some (.par _ t) => (lentE as (e.set i .un)).map fun y => (.own t :: y.1, y.2)
    | some (.scr ns) => (lentE as e).map fun y => (.scr ns :: y.1, y.2)
    | _ => none
def homeE (e0 : En) : List Ad → En → En → En
  | .s i :: as, u :: us, e => homeE e0 as us (match e0[i]?, u with
    | some (.own _), .own t => e.set i (.own t)
    | some (.par k _), .own t => e.set i (.par k t)
    | _, _ => e)
  | .d _ :: as, _ :: us, e => homeE e0 as us e
  | _, _, e => e
section
variable {X : Ctx} {z : Nat → V} {T B I H : Hp} {σ : L2.St}
theorem app_assoc1 {α : Type} (a b : List α) (x : α) (c : List α) : a ++ (b ++ x :: c) = a ++ ((b ++ [x]) ++ c) := by simp
theorem lent_ok : ∀ {as : List Ad} {vs : List V} {e : En} {us e2 : En} {ws : List SD} {τ : L2.St}, AdsOk X I σ vs as → lentE as e = some (us, e2) → Ok X.K T B (sds X z e ++ ws) (σ ++ τ) I H → σ.length = e.length →
    Ok X.K T B (sds X z e2 ++ (ws ++ sds X z0 us)) (σ ++ (τ ++ vs.map some)) I H ∧ e2.length = e.length ∧ us.length = as.length
  | [], _, e, us, e2, ws, τ, .nil, h, k, hl => by
    cases h
    exact ⟨by simpa using k, rfl, rfl⟩
  | .d x :: as, _, e, us, e2, ws, τ, .cons (v := v) (vs := vs) a r, h, k, hl => by
    obtain ⟨⟨us', e'⟩, h1, h2⟩ := omap h
    cases h2
    have k1 := k.appD a
    rw [List.append_assoc, List.append_assoc] at k1
    obtain ⟨q1, q2, q3⟩ := lent_ok r h1 k1 hl
    refine ⟨?_, q2, by simp [q3]⟩
    show Ok X.K T B (sds X z e' ++ (ws ++ sd X z0 (.dat x) :: sds X z0 us')) (σ ++ (τ ++ some v :: vs.map some)) I H
    rw [app_assoc1, app_assoc1]
    exact q1
  | .s i :: as, _, e, us, e2, ws, τ, .cons (v := v) (vs := vs) a r, h, k, hl => by
    have a : σ[i]? = some (some v) := a
    have go : ∀ {t : Ow} {x : Sx}, e[i]? = some x → (sd X z x = .cel (owC X t) ∨ ∃ n, sd X z x = .cel (paC X z n t)) → (lentE as (e.set i .un)).map (fun y => (Sx.own t :: y.1, y.2)) = some (us, e2) →
        Ok X.K T B (sds X z e2 ++ (ws ++ sds X z0 us)) (σ ++ (τ ++ (v :: vs).map some)) I H ∧ e2.length = e.length ∧ us.length = as.length + 1 := fun {t x} hx hs h => by
      obtain ⟨⟨us', e'⟩, h1, h2⟩ := omap h
      cases h2
      have hi : i < e.length := (List.getElem?_eq_some_iff.mp hx).1
      have hi2 : i < (sds X z e).length := by simpa using hi
      have gx : (sds X z e ++ ws)[i]? = some (sd X z x) := by
        rw [List.getElem?_append_left hi2]
        exact sds_get hx
      have gv : (σ ++ τ)[i]? = some (some v) := by
        rw [List.getElem?_append_left (by omega)]
        exact a
      have k1 : Ok X.K T B ((sds X z e ++ ws).set i .un ++ [sd X z0 (.own t)]) (σ ++ τ ++ [some v]) I H := by
        rcases hs with hs | ⟨n, hs⟩
        · rw [hs] at gx
          exact k.move gx gv
        · rw [hs] at gx
          have k0 := k.celTo gx (c' := owC X t) fun F u I H hh => hh.2
          have := k0.move (i := i) (w := .cel (owC X t)) (by rw [List.getElem?_set, if_pos rfl, if_pos (by simp; omega)]) gv
          rw [List.set_set] at this
          exact this
      rw [List.set_append_left _ _ hi2] at k1
      have e1 : (sds X z e).set i .un = sds X z (e.set i .un) := by rw [sds_set]; rfl
      rw [e1, List.append_assoc, List.append_assoc] at k1
      obtain ⟨q1, q2, q3⟩ := lent_ok r h1 k1 (by rw [List.length_set]; exact hl)
      refine ⟨?_, by rw [q2, List.length_set], by simp [q3]⟩
      show Ok X.K T B (sds X z e' ++ (ws ++ sd X z0 (.own t) :: sds X z0 us')) (σ ++ (τ ++ some v :: vs.map some)) I H
      rw [app_assoc1, app_assoc1]
      exact q1
    unfold lentE at h
    cases hx : e[i]? with
    | none => simp only [hx] at h; cases h
    | some x =>
      simp only [hx] at h
      cases x with
      | un => cases h
      | dat d => cases h
      | own t => exact go hx (.inl rfl) h
      | par n t => exact go hx (.inr ⟨n, rfl⟩) h
      | scr ns =>
        obtain ⟨⟨us', e'⟩, h1, h2⟩ := omap h
        cases h2
        have hi : i < e.length := (List.getElem?_eq_some_iff.mp hx).1
        have hi2 : i < (sds X z e).length := by simpa using hi
        have gx : (sds X z e ++ ws)[i]? = some (.scr ns) := by
          rw [List.getElem?_append_left hi2]
          exact sds_get hx
        obtain ⟨b, g1, g2⟩ := k.scrAt gx
        rw [List.getElem?_append_left (by omega), a] at g1
        cases g1
        obtain ⟨ft, k0⟩ := k
        have k1 : Ok X.K T B ((sds X z e ++ ws) ++ [sd X z0 (.scr ns)]) (σ ++ τ ++ [some (.ref b)]) I H := ⟨_, k0.app (F := []) (fun _ h => nomatch h) ⟨b, rfl, g2⟩⟩
        rw [List.append_assoc, List.append_assoc] at k1
        obtain ⟨q1, q2, q3⟩ := lent_ok r h1 k1 hl
        refine ⟨?_, q2, by simp [q3]⟩
        show Ok X.K T B (sds X z e' ++ (ws ++ sd X z0 (.scr ns) :: sds X z0 us')) (σ ++ (τ ++ some (V.ref b) :: _)) I H
        rw [app_assoc1, app_assoc1]
        exact q1
theorem own2par {ws : List SD} {i k : Nat} {t : Ow} (kk : Ok X.K T B ws σ I H) (hx : ws[i]? = some (.cel (owC X t))) (hv : σ[i]? = some (some (z k))) : Ok X.K T B (ws.set i (.cel (paC X z k t))) σ I H := by
  obtain ⟨ft, kk⟩ := kk
  refine ⟨ft, kk.sub, kk.oth, kk.bse, kk.ti, by rw [List.length_set]; exact kk.len, kk.ap, kk.own, fun j w hw => ?_⟩
  rcases set_get hw with ⟨q, rfl⟩ | ⟨q, hw⟩
  · subst q
    obtain ⟨v, e1, e2⟩ := kk.sl i _ hx
    rw [hv] at e1
    cases e1
    exact ⟨_, by rw [hv]; rfl, rfl, e2⟩
  · exact kk.sl j w hw
theorem par_val {e : En} {i k : Nat} {t : Ow} {v : V} (kk : Ok X.K T B (sds X z e) σ I H) (hx : e[i]? = some (.par k t)) (hv : σ[i]? = some (some v)) : v = z k := by
  obtain ⟨ft, kk⟩ := kk
  obtain ⟨u, e1, e2, _⟩ := kk.sl i _ (sds_get hx)
  rw [hv] at e1
  cases e1
  exact e2
theorem home_ok {e0 : En} (hp : ∀ (i k : Nat) (t : Ow) (v : V), e0[i]? = some (Sx.par k t) → σ[i]? = some (some v) → v = z k) : ∀ {as : List Ad} {vs : List V} {us e : En} {zs : List SD} {ρ : L2.St}, AdsOk X I σ vs as → (∀ i, Ad.s i ∈ as → i < e.length) → us.length = as.length → σ.length = e.length →
    ∀ {I' H' B' : Hp}, Ok X.K T B' (sds X z e ++ (sds X z0 us ++ zs)) (σ ++ (vs.map some ++ ρ)) I' H' → Ok X.K T B' (sds X z (homeE e0 as us e) ++ zs) (σ ++ ρ) I' H'
  | [], _, [], e, zs, ρ, .nil, _, _, _, I', H', B', k => by simpa [homeE] using k
  | .d x :: as, _, u :: us, e, zs, ρ, .cons (v := v) (vs := vs) a r, hi, hl, hs, I', H', B', k => by
    have k1 : Ok X.K T B' (sds X z e ++ (sds X z0 us ++ zs)) (σ ++ (vs.map some ++ ρ)) I' H' := by
      have k : Ok X.K T B' (sds X z e ++ (sd X z0 u :: (sds X z0 us ++ zs))) (σ ++ (some v :: (vs.map some ++ ρ))) I' H' := k
      exact k.omit (by simpa using hs)
    exact home_ok hp (e := e) r (fun i h => hi i (List.mem_cons_of_mem _ h)) (by simpa using hl) hs k1
  | .s i :: as, _, u :: us, e, zs, ρ, .cons (v := v) (vs := vs) a r, hi, hl, hs, I', H', B', k => by
    have a : σ[i]? = some (some v) := a
    have hi0 : i < e.length := hi i List.mem_cons_self
    have hi2 : i < (sds X z e).length := by simpa using hi0
    have k : Ok X.K T B' (sds X z e ++ (sd X z0 u :: (sds X z0 us ++ zs))) (σ ++ (some v :: (vs.map some ++ ρ))) I' H' := k
    have next : ∀ {e1 : En}, e1.length = e.length → Ok X.K T B' (sds X z e1 ++ (sds X z0 us ++ zs)) (σ ++ (vs.map some ++ ρ)) I' H' → Ok X.K T B' (sds X z (homeE e0 as us e1) ++ zs) (σ ++ ρ) I' H' := fun {e1} h1 k1 =>
      home_ok hp (e := e1) r (fun i h => by rw [h1]; exact hi i (List.mem_cons_of_mem _ h)) (by simpa using hl) (by rw [h1]; exact hs) k1
    have plain := next rfl (k.omit (by simpa using hs))
    unfold homeE
    cases h0 : e0[i]? with
    | none => exact plain
    | some x0 =>
      have go : ∀ {t : Ow}, u = .own t → Ok X.K T B' (sds X z (e.set i (.own t)) ++ (sds X z0 us ++ zs)) (σ ++ (vs.map some ++ ρ)) I' H' := fun hu => by
        subst hu
        have := k.home (by simpa using hs) hi2 a
        rw [sds_set]
        exact this
      cases x0 with
      | own t0 =>
        cases u with
        | own t => exact next (by rw [List.length_set]) (go rfl)
        | un => exact plain
        | dat d => exact plain
        | par n t => exact plain
        | scr ns => exact plain
      | par n t0 =>
        cases u with
        | own t =>
          refine next (by rw [List.length_set]) ?_
          have k3 := go (t := t) rfl
          have vz := hp i n t0 v h0 a
          subst vz
          have := own2par (z := z) (i := i) (k := n) (t := t) k3 (by rw [List.getElem?_append_left (by simpa using hi0), sds_set, List.getElem?_set, if_pos rfl, if_pos hi2]; rfl) (by rw [List.getElem?_append_left (by omega)]; exact a)
          rw [List.set_append_left _ _ (by simpa using hi0), sds_set, List.set_set] at this
          rw [sds_set]
          exact this
        | un => exact plain
        | dat d => exact plain
        | par n t => exact plain
        | scr ns => exact plain
      | un => cases u <;> exact plain
      | dat d => cases u <;> exact plain
      | scr ns => cases u <;> exact plain
theorem lent_mem : ∀ {as : List Ad} {e us e2 : En}, lentE as e = some (us, e2) → ∀ i, Ad.s i ∈ as → i < e.length
  | [], _, _, _, _, _, h => by cases h
  | .d x :: as, e, us, e2, h, i, hi => by
    obtain ⟨⟨us', e'⟩, h1, h2⟩ := omap h
    rcases List.mem_cons.mp hi with q | q
    · cases q
    · exact lent_mem h1 i q
  | .s j :: as, e, us, e2, h, i, hi => by
    unfold lentE at h
    cases hx : e[j]? with
    | none => simp only [hx] at h; cases h
    | some x =>
      simp only [hx] at h
      have hj : j < e.length := (List.getElem?_eq_some_iff.mp hx).1
      rcases List.mem_cons.mp hi with q | q
      · cases q
        exact hj
      · cases x with
        | un => cases h
        | dat d => cases h
        | own t =>
          obtain ⟨⟨us', e'⟩, h1, h2⟩ := omap h
          have := lent_mem h1 i q
          simpa using this
        | par n t =>
          obtain ⟨⟨us', e'⟩, h1, h2⟩ := omap h
          have := lent_mem h1 i q
          simpa using this
        | scr ns =>
          obtain ⟨⟨us', e'⟩, h1, h2⟩ := omap h
          exact lent_mem h1 i q
end
def rCall (F : En → Option (Rx × En)) (fa : En → Option (List Ad × En)) : En → Option (Rx × En) := fun e => (fa e).bind fun y => (lentE y.1 y.2).bind fun w => (F w.1).bind fun r => if r.2.length = w.1.length then some (r.1, homeE y.2 y.1 r.2 w.2) else none
def gR (f : En → Option (Rx × En)) : En → Option (PyData × En) := fun e => (f e).bind fun y => match y.1 with
  | .dat d => some (d, y.2)
  | .own t => t.toD.map fun d => (d, y.2)
def lR (f : En → Option (Rx × En)) : En → Option (Ow × En) := fun e => (f e).bind fun y => match y.1 with
  | .own t => some (t, y.2)
  | _ => none
def sSetR (i : Nat) (f : En → Option (Rx × En)) : En → Option Out := fun e => (f e).map fun y => match y.1 with
  | .dat d => .nx (y.2.set i (.dat d))
  | .own t => .nx (y.2.set i (.own t))
def sRetR (f : En → Option (Rx × En)) : En → Option Out := fun e => (f e).map fun y => .rt y.1 y.2
def aOne (f : En → Option (List Ad × En)) : En → Option (List Ad × En) := fun e => (f e).bind fun y => match y.1 with | [a] => some ([a], y.2) | _ => none
def aSw (f : En → Option (List Ad × En)) : En → Option (List Ad × En) := fun e => (f e).bind fun y => match y.1 with | [a, b] => some ([b, a], y.2) | _ => none
section
variable {X : Ctx} {z : Nat → V} {te : TE} {tA : TA} {fa : En → Option (List Ad × En)} {F : En → Option (Rx × En)} {fr : En → Option (Rx × En)} {i : Nat}
theorem sp_of {T B : Hp} {e : En} {σ : L2.St} {I H : Hp} {as : List Ad} {vs : List V} {us e2 us' : En} {r : Rx} {Q : VK} {E : XK} (k : Ok X.K T B (sds X z e) σ I H) (ha : AdsOk X I σ vs as) (hl : lentE as e = some (us, e2)) (hF : F us = some (r, us')) (hn : us'.length = us.length)
    (q : RxOk X z T B r (homeE e as us' e2) σ I Q) : SpX X F vs H Q E := by
  have hσ : σ.length = e.length := by have := slen k; simpa using this
  obtain ⟨k1, g1, g2⟩ := lent_ok (ws := []) (τ := []) ha hl (by simpa using k) hσ
  simp only [List.nil_append] at k1
  obtain ⟨T', k2, back⟩ := k1.lease (by simp [hσ, g1])
  have hp : ∀ (i k : Nat) (t : Ow) (v : V), e[i]? = some (Sx.par k t) → σ[i]? = some (some v) → v = z k := fun i n t v hx hv => par_val k hx hv
  refine ⟨T', I, I, us, r, us', k2, hF, hn, ?_⟩
  match r, q with
  | .dat d, q =>
    intro v I' H' k' s a
    have k3 := back _ _ _ _ k'
    have k4 := home_ok (zs := []) (ρ := []) hp ha (fun i h => by rw [g1]; exact lent_mem hl i h) (by rw [hn, g2]) (by rw [g1]; exact hσ) (by simpa using k3)
    exact q v I' H' (by simpa using k4) s a
  | .own t, q =>
    intro v I' H' k' s
    have k3 := back _ _ _ _ k'
    have k4 := home_ok (zs := [sd X z (.own t)]) (ρ := [some v]) hp ha (fun i h => by rw [g1]; exact lent_mem hl i h) (by rw [hn, g2]) (by rw [g1]; exact hσ) k3
    exact q v I' H' k4 s
theorem RxOk.sub {T B : Hp} {e : En} {σ : L2.St} {I J : Hp} {r : Rx} {Q : VK} (h : RxOk X z T B r e σ I Q) (s : Same I J) : RxOk X z T B r e σ J Q := by
  match r, h with
  | .dat d, h => exact fun v I' H' k' s' a => h v I' H' k' (s.trans s') a
  | .own t, h => exact fun v I' H' k' s' => h v I' H' k' (s.trans s')
theorem rv_call {E : XK} (ha : AV X z tA fa) : RV X z (tCall (SpX X F) [] E tA) (rCall F fa) := fun T B e σ I H r e' k hf Q q => by
  obtain ⟨⟨as, e1⟩, h1, h2⟩ := obind hf
  obtain ⟨⟨us, e2⟩, h3, h4⟩ := obind h2
  obtain ⟨⟨r', us'⟩, h5, h6⟩ := obind h4
  refine ha T B e σ I H as e1 k h1 _ fun vs I1 H1 k1 s1 a1 => ?_
  rw [List.append_nil]
  split at h6
  · rename_i hn
    cases h6
    exact sp_of k1 a1 h3 h5 hn (q.sub s1)
  · cases h6
theorem rv_callSw {E : XK} (ha : AV X z tA fa) : RV X z (tCallK (SpX X F) gSw E tNil tA) (rCall F (aSw fa)) := fun T B e σ I H r e' k hf Q q => by
  obtain ⟨⟨as0, e1⟩, h0, h2⟩ := obind hf
  obtain ⟨⟨as, e1'⟩, h1, hs⟩ := obind h0
  obtain ⟨⟨us, e2⟩, h3, h4⟩ := obind h2
  obtain ⟨⟨r', us'⟩, h5, h6⟩ := obind h4
  refine ha T B e σ I H as e1' k h1 _ fun vs I1 H1 k1 s1 a1 => ?_
  match as, hs, a1 with
  | [a, b], hs, .cons (v := v) b1 (.cons (v := u) b2 .nil) =>
    cases hs
    show SpX X F [u, v] H1 Q E
    split at h6
    · rename_i hn
      cases h6
      exact sp_of k1 (.cons b2 (.cons b1 .nil)) h3 h5 hn (q.sub s1)
    · cases h6
theorem rv_callOne {E : XK} (ha : AV X z tA fa) : RV X z (tCallK (SpX X F) gOne E tNil tA) (rCall F (aOne fa)) := fun T B e σ I H r e' k hf Q q => by
  obtain ⟨⟨as0, e1⟩, h0, h2⟩ := obind hf
  obtain ⟨⟨as, e1'⟩, h1, hs⟩ := obind h0
  obtain ⟨⟨us, e2⟩, h3, h4⟩ := obind h2
  obtain ⟨⟨r', us'⟩, h5, h6⟩ := obind h4
  refine ha T B e σ I H as e1' k h1 _ fun vs I1 H1 k1 s1 a1 => ?_
  match as, hs, a1 with
  | [a], hs, .cons (v := v) b1 .nil =>
    cases hs
    show SpX X F [v] H1 Q E
    split at h6
    · rename_i hn
      cases h6
      exact sp_of k1 (.cons b1 .nil) h3 h5 hn (q.sub s1)
    · cases h6
theorem ev_r (hr : RV X z te fr) : EV X z te (gR fr) := fun T B e σ I H d e' k hf Q q => by
  obtain ⟨⟨r, e1⟩, h1, h2⟩ := obind hf
  refine hr T B e σ I H r e1 k h1 Q ?_
  match r, h2 with
  | .dat d, h2 =>
    cases h2
    exact q
  | .own t, h2 =>
    obtain ⟨d', h3, h4⟩ := omap h2
    cases h4
    intro v I' H' k' s
    have hn : σ.length = e1.length := by
      have := k'.len
      simp at this
      exact this
    have k2 : Ok X.K T B (sds X z (e1 ++ [.own t])) (σ ++ [some v]) I' H' := by
      rw [sds, List.map_append]
      exact k'
    obtain ⟨v', u, I2, w1, w2, w3, w4, w5⟩ := freeze k2 (i := e1.length) (x := .own t) (t := t) (by rw [List.getElem?_append_right (Nat.le_refl _), Nat.sub_self]; rfl) rfl (ss := []) rfl h3
    rw [List.getElem?_append_right (by omega), hn, Nat.sub_self] at w1
    cases w1
    cases w2
    refine q v I2 H' ?_ (s.trans w3) w4
    rw [List.set_append, if_neg (Nat.lt_irrefl _), sds, List.map_append] at w5
    have w5 : Ok X.K T B (sds X z e1 ++ ([Sx.own t].set (e1.length - e1.length) ((Sx.own t).with (t.put [] (.leaf d)))).map (sd X z)) (σ ++ [some v]) I2 H' := w5
    rw [Nat.sub_self] at w5
    exact w5.chop
theorem gv_r (hr : RV X z te fr) : GV X z te (lR fr) := fun T B e σ I H t e' k hf Q q => by
  obtain ⟨⟨r, e1⟩, h1, h2⟩ := obind hf
  refine hr T B e σ I H r e1 k h1 Q ?_
  match r, h2 with
  | .own t, h2 =>
    cases h2
    exact q
theorem sv_setR (hr : RV X z te fr) : SV X z (tAsg te (gName i)) (sSetR i fr) := fun T B e σ I H o D k hg q => by
  obtain ⟨⟨r, e1⟩, h1, h2⟩ := omap hg
  subst h2
  refine hr T B e σ I H r e1 k h1 _ ?_
  match r, q with
  | .dat d, q =>
    intro v I' H' k' s a
    refine q _ I' H' ?_
    rw [sds_set]
    exact k'.set a
  | .own t, q =>
    intro v I' H' k' s
    refine q _ I' H' ?_
    rw [sds_set]
    have hl : σ.length = (sds X z e1).length := by have := k'.len; simp at this; simpa using this
    by_cases hi : i < (sds X z e1).length
    · exact k'.unmove hi
    · have hi : (sds X z e1).length ≤ i := Nat.le_of_not_lt hi
      rw [List.set_eq_of_length_le hi, List.set_eq_of_length_le (by rw [hl]; exact hi)]
      exact k'.chop
theorem sv_retR (hr : RV X z te fr) : SV X z (tRet te) (sRetR fr) := fun T B e σ I H o D k hg q => by
  obtain ⟨⟨r, e1⟩, h1, h2⟩ := omap hg
  subst h2
  refine hr T B e σ I H r e1 k h1 _ ?_
  match r, q with
  | .dat d, q => exact fun v I' H' k' s a => q σ I' H' v k' a
  | .own t, q => exact fun v I' H' k' s => q σ I' H' v k'
theorem sv_dropR (hr : RV X z te fr) : SV X z (tDrop te) (fun e => (fr e).map fun y => .nx y.2) := fun T B e σ I H o D k hg q => by
  obtain ⟨⟨r, e1⟩, h1, h2⟩ := omap hg
  subst h2
  refine hr T B e σ I H r e1 k h1 _ ?_
  match r with
  | .dat d => exact fun v I' H' k' s a => q σ I' H' k'
  | .own t => exact fun v I' H' k' s => q σ I' H' k'.chop
end
end
end PT
namespace PT
open PySem PySem.Spec PyProof.Rows L2 DL
open Classical
noncomputable section
def parz : Nat → En → En
  | _, [] => []
  | k, .own t :: us => .par k t :: parz (k + 1) us
  | k, .par _ _ :: us => .un :: parz (k + 1) us
  | k, .un :: us => .un :: parz (k + 1) us
  | k, .dat d :: us => .dat d :: parz (k + 1) us
  | k, .scr d :: us => .scr d :: parz (k + 1) us
def postz : Nat → Nat → En → En
  | _, 0, _ => []
  | k, m + 1, [] => .un :: postz (k + 1) m []
  | k, m + 1, .par k' t :: e => (if k' = k then .own t else .un) :: postz (k + 1) m e
  | k, m + 1, .un :: e => .un :: postz (k + 1) m e
  | k, m + 1, .own _ :: e => .un :: postz (k + 1) m e
  | k, m + 1, .dat _ :: e => .un :: postz (k + 1) m e
  | k, m + 1, .scr _ :: e => .un :: postz (k + 1) m e
def runF (m n : Nat) (g : En → Option Out) : En → Option (Rx × En) := fun us => if us.length = m then (g (parz 0 us ++ List.replicate n .un)).bind fun o => match o with
  | .rt r e => some (r, postz 0 m e)
  | .nx e => some (.dat .none, postz 0 m e)
  | _ => none else none
theorem parz_len : ∀ {k : Nat} {us : En}, (parz k us).length = us.length
  | _, [] => rfl
  | k, u :: us => by cases u <;> simp [parz, parz_len]
theorem postz_len : ∀ {k m : Nat} {e : En}, (postz k m e).length = m
  | _, 0, _ => rfl
  | k, m + 1, [] => by simp [postz, postz_len]
  | k, m + 1, u :: us => by cases u <;> simp [postz, postz_len]
theorem parz_get : ∀ {k i : Nat} {us : En} {x : Sx}, (parz k us)[i]? = some x → x = .un ∨ (∃ t, x = .par (k + i) t ∧ us[i]? = some (.own t)) ∨ (∃ d, x = .dat d ∧ us[i]? = some (.dat d)) ∨ (∃ d, x = .scr d ∧ us[i]? = some (.scr d))
  | _, i, [], x, h => by simp [parz] at h
  | k, 0, u :: us, x, h => by
    cases u with
    | un => cases h; exact .inl rfl
    | par _ _ => cases h; exact .inl rfl
    | own t => cases h; exact .inr (.inl ⟨t, rfl, rfl⟩)
    | dat d => cases h; exact .inr (.inr (.inl ⟨d, rfl, rfl⟩))
    | scr d => cases h; exact .inr (.inr (.inr ⟨d, rfl, rfl⟩))
  | k, i + 1, u :: us, x, h => by
    have h2 : (parz (k + 1) us)[i]? = some x := by cases u <;> simpa [parz] using h
    have := parz_get h2
    have e : k + 1 + i = k + (i + 1) := by omega
    rw [e] at this
    simpa using this
theorem postz_get : ∀ {k m i : Nat} {e : En} {x : Sx}, (postz k m e)[i]? = some x → x = .un ∨ ∃ t, x = .own t ∧ e[i]? = some (.par (k + i) t)
  | _, 0, i, _, x, h => by simp [postz] at h
  | k, m + 1, i, [], x, h => by
    cases i with
    | zero => cases h; exact .inl rfl
    | succ i =>
      have h2 : (postz (k + 1) m [])[i]? = some x := by simpa [postz] using h
      rcases postz_get h2 with q | ⟨t, _, q⟩
      · exact .inl q
      · cases q
  | k, m + 1, 0, u :: us, x, h => by
    cases u with
    | par k' t =>
      unfold postz at h
      have h : some (if k' = k then Sx.own t else .un) = some x := h
      by_cases e : k' = k
      · rw [if_pos e] at h
        cases h
        subst e
        exact .inr ⟨t, rfl, rfl⟩
      · rw [if_neg e] at h
        cases h
        exact .inl rfl
    | un => cases h; exact .inl rfl
    | own t => cases h; exact .inl rfl
    | dat d => cases h; exact .inl rfl
    | scr d => cases h; exact .inl rfl
  | k, m + 1, i + 1, u :: us, x, h => by
    have h2 : (postz (k + 1) m us)[i]? = some x := by cases u <;> simpa [postz] using h
    have := postz_get h2
    have e : k + 1 + i = k + (i + 1) := by omega
    rw [e] at this
    simpa using this
section
variable {X : Ctx} {T B I H : Hp} {us : En} {vs : List V}
def zOf (vs : List V) : Nat → V := fun k => vs.getD k .non
theorem enter {n : Nat} (k : Ok X.K T B (sds X z0 us) (vs.map some) I H) : Ok X.K T I (sds X (zOf vs) (parz 0 us ++ List.replicate n .un)) (vs.map some ++ List.replicate n none) I H := by
  obtain ⟨ft, k⟩ := k
  have hl : vs.length = us.length := by have := k.len; simpa using this
  refine ⟨fun i => if i < us.length then ft i else [], k.sub, k.oth, Same.refl I, k.ti, by simp [parz_len, hl], fun i j a ha hb => ?_, fun i a ha => ?_, fun i w hw => ?_⟩
  · have ha : a ∈ if i < us.length then ft i else [] := ha
    have hb : a ∈ if j < us.length then ft j else [] := hb
    split at ha
    · split at hb
      · exact k.ap i j a ha hb
      · cases hb
    · cases ha
  · have ha : a ∈ if i < us.length then ft i else [] := ha
    split at ha
    · exact k.own i a ha
    · cases ha
  · show Sl X.K I H (if i < us.length then ft i else []) _ w
    by_cases q : i < us.length
    · rw [if_pos q, List.getElem?_append_left (by simp; omega)]
      rw [List.getElem?_map, List.getElem?_append_left (by rw [parz_len]; exact q)] at hw
      cases hx : (parz 0 us)[i]? with
      | none => rw [hx] at hw; cases hw
      | some x =>
        rw [hx] at hw
        cases hw
        rcases parz_get hx with rfl | ⟨t, rfl, hu⟩ | ⟨d, rfl, hu⟩ | ⟨d, rfl, hu⟩
        · trivial
        · obtain ⟨v, e1, e2⟩ := k.sl i _ (sds_get hu)
          refine ⟨v, e1, ?_, e2⟩
          have hv : vs[i]? = some v := by
            have := join_some e1
            rw [List.getElem?_map] at this
            cases hq : vs[i]? with
            | none => rw [hq] at this; cases this
            | some u => rw [hq] at this; cases this; rfl
          show v = vs.getD (0 + i) .non
          rw [Nat.zero_add, List.getD_eq_getElem?_getD, hv]
          rfl
        · exact k.sl i _ (sds_get hu)
        · exact k.sl i _ (sds_get hu)
    · rw [List.getElem?_map, List.getElem?_append_right (by rw [parz_len]; omega), List.getElem?_replicate] at hw
      split at hw
      · cases hw
        trivial
      · cases hw
theorem leave {m : Nat} {e : En} {σ : L2.St} (k : Ok X.K T B (sds X (zOf vs) e) σ I H) (hv : vs.length = m) : Ok X.K T B (sds X z0 (postz 0 m e)) (vs.map some) I H := by
  obtain ⟨ft, k⟩ := k
  refine ⟨fun i => if i < m then ft i else [], k.sub, k.oth, k.bse, k.ti, by simp [postz_len, hv], fun i j a ha hb => ?_, fun i a ha => ?_, fun i w hw => ?_⟩
  · have ha : a ∈ if i < m then ft i else [] := ha
    have hb : a ∈ if j < m then ft j else [] := hb
    split at ha
    · split at hb
      · exact k.ap i j a ha hb
      · cases hb
    · cases ha
  · have ha : a ∈ if i < m then ft i else [] := ha
    split at ha
    · exact k.own i a ha
    · cases ha
  · show Sl X.K I H (if i < m then ft i else []) _ w
    rw [List.getElem?_map] at hw
    cases hx : (postz 0 m e)[i]? with
    | none => rw [hx] at hw; cases hw
    | some x =>
      have hi : i < m := by
        have := (List.getElem?_eq_some_iff.mp hx).1
        rw [postz_len] at this
        exact this
      rw [hx] at hw
      cases hw
      rw [if_pos hi]
      rcases postz_get hx with rfl | ⟨t, rfl, hu⟩
      · trivial
      · obtain ⟨v, e1, e2, e3⟩ := k.sl i _ (sds_get hu)
        have e2 : v = vs.getD (0 + i) .non := e2
        rw [Nat.zero_add, List.getD_eq_getElem?_getD, List.getElem?_eq_getElem (by omega)] at e2
        refine ⟨v, ?_, e3⟩
        rw [List.getElem?_map, List.getElem?_eq_getElem (by omega), e2]
        rfl
theorem body_ok {N : List Str} {m : Nat} {g : En → Option Out} {ts : TS} {r : Rx} {us' : En} {Q : VK} (hm : m ≤ N.length) (hg : ∀ z, SV X z ts g) (k : Ok X.K T B (sds X z0 us) (vs.map some) I H) (hF : runF m (N.length - m) g us = some (r, us')) (q : RxOk X z0 T B r us' (vs.map some) I Q) :
    ts { nx := fun _ H' => Q .non H', rt := Q } (L2.start N vs) H := by
  unfold runF at hF
  split at hF
  · rename_i hl
    obtain ⟨o, h1, h2⟩ := obind hF
    have hv : vs.length = m := by
      have := k.len
      simp at this
      omega
    have k2 := enter (n := N.length - m) k
    have hst : L2.start N vs = vs.map some ++ List.replicate (N.length - m) none := by
      unfold L2.start
      rw [hv]
    rw [hst]
    have kb : Same B I := k.bse
    refine hg (zOf vs) T I _ _ I H o _ k2 h1 ?_
    match o, h2 with
    | .nx e, h2 =>
      cases h2
      exact fun σ' I' H' k' => q .non I' H' ((leave k' hv).less kb) k'.bse .non
    | .rt (.dat d) e, h2 =>
      cases h2
      exact fun σ' I' H' v k' a => q v I' H' ((leave k' hv).less kb) k'.bse a
    | .rt (.own t) e, h2 =>
      cases h2
      intro σ' I' H' v k'
      obtain ⟨T', k3, _, back⟩ := k'.park
      have k4 := back _ _ _ _ _ (leave k3 hv) (Same.refl I')
      exact q v I' H' (k4.less kb) k'.bse
  · cases hF
end
section
variable {P : Program} {w : World} {X : Ctx} {mg : Str → Option Value} {base : Heap} {k : Nat} {f : Addr} {fd : FuncData} {ps : List Str} {x qual : Str} {st : Stmt} {N : List Str}
theorem runF_len {m n : Nat} {g : En → Option Out} {us : En} {r : Rx} {us' : En} (h : runF m n g us = some (r, us')) : us.length = m := by
  unfold runF at h
  split at h
  · assumption
  · cases h
theorem okX {g : En → Option Out} (F : Fun X.K x qual st f fd) (S : FnScope N ps (defScope st)) (hm : ps.length ≤ N.length)
    (hb : ∀ (cv : Value) (A : Around) (outer : List Env) (s : Shared) (H : Hp) (Q : VK) (E : XK), Room k (A.deeper (envOfC qual (defScope st) s.heap.objs.size f cv)) →
      ∃ t, PSs (cxOf CX0 P w X.K mg base N qual (defScope st) f cv A outer s H E).nox (defBody st) t ∧ ∀ z, SV X z t g) : FnOk P w X.K mg base CX0 (k + 1) f fd ps (SpX X (runF ps.length (N.length - ps.length) g)) := by
  refine F.ok S (fun vs H Q E h => ?_) (fun cv A outer s H vs Q E hr h => ?_)
  · obtain ⟨T, B, I, us, r, us', k, hF, _, q⟩ := h
    have := k.len
    rw [← runF_len hF]
    simpa using this
  · obtain ⟨T, B, I, us, r, us', k, hF, _, q⟩ := h
    obtain ⟨t, ht, hq⟩ := hb cv A outer s H Q E hr
    exact ⟨t, ht, body_ok hm hq k hF q⟩
theorem okXG {g : En → Option Out} (F : Fun X.K x qual st f fd) (S : FnScope N ps (defScope st)) (hm : ps.length ≤ N.length)
    (hb : ∀ (cv : Value) (A : Around) (outer : List Env) (s : Shared) (H : Hp) (Q : VK) (E : XK), (A.deeper (envOfC qual (defScope st) s.heap.objs.size f cv)).guards = some [] → Room k (A.deeper (envOfC qual (defScope st) s.heap.objs.size f cv)) →
      ∃ t, PSs (cxOf CX0 P w X.K mg base N qual (defScope st) f cv A outer s H E).nox (defBody st) t ∧ ∀ z, SV X z t g) : FnG P w X.K mg base CX0 (k + 1) f fd ps (SpX X (runF ps.length (N.length - ps.length) g)) := by
  refine okG F S (fun vs H Q E h => ?_) (fun cv A outer s H vs Q E hg hr h => ?_)
  · obtain ⟨T, B, I, us, r, us', k, hF, _, q⟩ := h
    have := k.len
    rw [← runF_len hF]
    simpa using this
  · obtain ⟨T, B, I, us, r, us', k, hF, _, q⟩ := h
    obtain ⟨t, ht, hq⟩ := hb cv A outer s H Q E hg hr
    exact ⟨t, ht, body_ok hm hq k hF q⟩
end
end
end PT
namespace DL
open PySem PySem.Spec PyProof.Rows L2
section
variable {K : Frg} {ws : List SD} {wi : TI} {g : TG} {tt : TT} {te : TE} {vs : List Nat} {PA : List PyData → List SD → Prop}
theorem ef_lcF (p : PyData → Bool) (f : PyData → PyData) (h : IW K ws wi fun ds w0 => ds.length ≤ sizeLine ∧ (∀ (i : Nat) d, ds[i]? = some d → Plain w0 vs ∧ GC K vs (wipeS w0 vs) g d fun w2 => TW K w2 tt fun b w3 =>
      b = p d ∧ if b = true then EW K w3 te fun e w5 => e = f d ∧ backS w0 w5 vs = w0 else backS w0 w3 vs = w0) ∧ PA ((ds.filter p).map f) w0) : EF K ws (tLc wi g tt te vs) PA := by
  refine ef_lc fun T B σ I H k R q => h T B σ I H k R fun J ds w0 I' H' hp => q J ds w0 I' H' ?_
  obtain ⟨hl, hs, pa⟩ := hp
  refine ⟨fun i acc w => w = w0 ∧ acc = ((ds.take i).filter p).map f, ⟨rfl, rfl⟩, ?_, ?_⟩
  · rintro i d acc w hi ⟨rfl, rfl⟩
    obtain ⟨h1, h2⟩ := hs i d hi
    have hlt : i < ds.length := (List.getElem?_eq_some_iff.mp hi).1
    have lt : (((ds.take i).filter p).map f).length < sizeLine := by
      rw [List.length_map]
      have e1 := List.length_filter_le p (ds.take i)
      rw [List.length_take] at e1
      omega
    have nx : (ds.take (i + 1)).filter p = (ds.take i).filter p ++ (if p d = true then [d] else []) := by
      rw [List.take_add_one, hi, List.filter_append]
      show _ ++ [d].filter p = _
      cases e : p d <;> simp [List.filter_cons, e]
    refine ⟨h1, fun T B σ I H v k a Q q => h2 T B σ I H v k a Q fun w2 σ2 hw => q w2 σ2 fun T B σ I H k Q q => hw T B σ I H k Q fun b w3 I' H' hb => q b w3 I' H' ?_⟩
    obtain ⟨rfl, hb⟩ := hb
    cases e : p d with
    | true =>
      rw [e] at hb nx
      rw [if_pos rfl] at hb nx ⊢
      exact hb.imp fun z w5 ⟨e1, e2⟩ => ⟨lt, e2, by rw [nx, e1, List.map_append]; rfl⟩
    | false =>
      rw [e] at hb nx
      rw [if_neg Bool.false_ne_true] at hb nx ⊢
      exact ⟨hb, by rw [nx, List.append_nil]⟩
  · rintro acc w ⟨rfl, rfl⟩
    rw [List.take_length]
    exact pa
theorem ef_lcM (f : PyData → PyData) (h : IW K ws wi fun ds w0 => ds.length ≤ sizeLine ∧ (∀ (i : Nat) d, ds[i]? = some d → Plain w0 vs ∧ GC K vs (wipeS w0 vs) g d fun w2 => EW K w2 te fun e w5 => e = f d ∧ backS w0 w5 vs = w0) ∧ PA (ds.map f) w0) : EF K ws (tLc wi g tYes te vs) PA := by
  refine ef_lcF (fun _ => true) f fun T B σ I H k R q => h T B σ I H k R fun J ds w0 I' H' hp => q J ds w0 I' H' ?_
  obtain ⟨hl, hs, pa⟩ := hp
  refine ⟨hl, fun i d hi => ?_, ?_⟩
  · obtain ⟨h1, h2⟩ := hs i d hi
    refine ⟨h1, fun T B σ I H v k a Q q => h2 T B σ I H v k a Q fun w2 σ2 hw => q w2 σ2 (tw_yes ⟨rfl, ?_⟩)⟩
    exact hw
  · have e : ds.filter (fun _ => true) = ds := List.filter_eq_self.mpr fun _ _ => rfl
    rw [e]
    exact pa
end
end DL
namespace DL
open PySem PySem.Spec PyProof.Rows L2
theorem pe_lcD {X : Cx} (s0 : Shared) (H0 : Hp) (C0 : Addr) (cl0 : List (Str × Addr)) (fp0 : List Addr) {elt tg iter : Expr} {ifs : List Expr} {scope : Scope} {own : List (Str × Nat)} {pos : Pos} {wi : TI} {g : Shared → Hp → Addr → List (Str × Addr) → List Addr → TG} {tt : Shared → Hp → Addr → List (Str × Addr) → List Addr → TT} {te : Shared → Hp → Addr → List (Str × Addr) → List Addr → TE}
    (hc : X.calm = true) (hN : X.N.Nodup) (hi : PI X tg iter wi) (ok : BlkOk X.N X.env.scope scope own)
    (hg : ∀ (s : Shared) (H : Hp) (C : Addr) (cl : List (Str × Addr)) (fp : List Addr), PG (X.blk s H scope (compEnvC scope cl C X.env) fp) tg (g s H C cl fp)) (ht : ∀ (s : Shared) (H : Hp) (C : Addr) (cl : List (Str × Addr)) (fp : List Addr), PTs (X.blk s H scope (compEnvC scope cl C X.env) fp) ifs (tt s H C cl fp))
    (he : ∀ (s : Shared) (H : Hp) (C : Addr) (cl : List (Str × Addr)) (fp : List Addr), PE (X.blk s H scope (compEnvC scope cl C X.env) fp) elt (te s H C cl fp)) (eg : ∀ s H C cl fp, g s H C cl fp = g s0 H0 C0 cl0 fp0 := by intros; rfl) (et : ∀ s H C cl fp, tt s H C cl fp = tt s0 H0 C0 cl0 fp0 := by intros; rfl) (ee : ∀ s H C cl fp, te s H C cl fp = te s0 H0 C0 cl0 fp0 := by intros; rfl)
    (hs : ∀ x, foldedSetIterable iter X.env x = pure x := by intro _; rfl) : PE X (.ListComp elt [⟨tg, iter, ifs, 0⟩] scope pos) (tLc wi (g s0 H0 C0 cl0 fp0) (tt s0 H0 C0 cl0 fp0) (te s0 H0 C0 cl0 fp0) (own.map (·.2))) :=
  pe_lc hc hN hi ok (fun s H C cl fp => by rw [← eg s H C cl fp]; exact hg s H C cl fp) (fun s H C cl fp => by rw [← et s H C cl fp]; exact ht s H C cl fp) (fun s H C cl fp => by rw [← ee s H C cl fp]; exact he s H C cl fp) hs
end DL
namespace DL
open PySem PySem.Spec PyProof.Rows L2
theorem plain_nil {w : List SD} : Plain w [] := fun _ h => by cases h
theorem plain_cons {w : List SD} {v : Nat} {vs : List Nat} (h : w.getD v .un = .un ∨ ∃ d, w.getD v .un = .dat d) (r : Plain w vs) : Plain w (v :: vs) := fun u hu => by
  rcases List.mem_cons.mp hu with z | z
  · rw [z]
    exact h
  · exact r u z
end DL
namespace DL
open PySem PySem.Spec PyProof.Rows L2
theorem sw_seqJ {K : Frg} {T B : Hp} {ws : List SD} {t u : TS} {D : Ends} (R : List SD → Prop) (h1 : ∀ N, (∀ w, R w → NX K T B w N) → SW K T B ws t { D with nx := N }) (h2 : ∀ w, R w → SW K T B w u D) : SW K T B ws (tSeq t u) D := h1 (u D) (fun w r => h2 w r)
end DL
namespace DL
open PySem PySem.Spec PyProof.Rows L2
theorem inV_str {x : Str} {xs : List Str} : inV (.str x) (xs.map V.str) = decide (x ∈ xs) := by
  unfold inV
  rw [List.any_map, Bool.eq_iff_iff]
  simp only [List.any_eq_true, Function.comp, decide_eq_true_eq]
  constructor
  · rintro ⟨y, hy, e⟩
    have e : y = x := by simpa [eqV] using e
    exact e ▸ hy
  · exact fun h => ⟨x, h, by simp [eqV]⟩
theorem flats_strs : ∀ {xs : List Str}, (xs.map V.str).all flatV = true
  | [] => rfl
  | x :: xs => by
    rw [List.map_cons, List.all_cons, flats_strs]
    rfl
theorem ew_inM {K : Frg} {ws : List SD} {te : TE} {P : PyData → List SD → Prop} {neg : Bool} {i : Nat} {xs : List Str} (h : ws[i]? = some (.mut (xs.map .str))) (he : EW K ws te fun d w => ∃ s : Str, d = .str s ∧ w = ws ∧ P (.bool (if neg then !decide (s ∈ xs) else decide (s ∈ xs))) ws) : EW K ws (tOp (rIn K neg) te (tVar i)) P := fun T B σ I H k Q q => by
  refine he T B σ I H k _ fun v d w1 I1 H1 p1 k1 s1 a1 => ?_
  obtain ⟨s, rfl, rfl, p⟩ := p1
  obtain ⟨b, us, e, hH, _, ha, _⟩ := k1.mutAt h
  obtain rfl := a1.str_inv
  obtain rfl := ha.strs
  refine ⟨_, e, b, _, rfl, .inl (.inl (.inl hH)), rfl, flats_strs, ?_⟩
  rw [inV_str]
  exact q _ _ _ _ _ p k1 s1 (.bl _)
end DL
namespace PT
open PySem PySem.Spec PyProof.Rows L2 DL
open Classical
noncomputable section
def sNever : En → Option Out := fun _ => none
def sDropR (f : En → Option (Rx × En)) : En → Option Out := fun e => (f e).map fun y => .nx y.2
def pick4 (a b c d : S) (s : S) (x1 x2 x3 x4 : PyData) : Option PyData := if s = d then some x4 else if s = c then some x3 else if s = b then some x2 else if s = a then some x1 else none
def gPick4 (a b c d : S) (f1 f2 f3 f4 f : En → Option (PyData × En)) : En → Option (PyData × En) := fun e => (f1 e).bind fun y1 => (f2 y1.2).bind fun y2 => (f3 y2.2).bind fun y3 => (f4 y3.2).bind fun y4 => (f y4.2).bind fun y => match y.1 with
  | .str s => (pick4 a b c d s y1.1 y2.1 y3.1 y4.1).map fun x => (x, y.2)
  | _ => none
def lSortSet (f : En → Option (Ad × En)) : En → Option (Ow × En) := fun e => (f e).bind fun y => (y.1.lst y.2).bind fun ds => (strsOf ds).bind fun xs => if xs.length + 1 < scanBound then some (.lst ((MM.srt xs).map .str), y.2) else none
abbrev le (a b : S) : Prop := ¬ MM.lt b a
theorem le_trans {a b c : S} (h1 : le a b) (h2 : le b c) : le a c := fun h => by
  rcases MM.lt_tri a b with q | q | q
  · exact h2 (MM.lt_trans h q)
  · exact h2 (q ▸ h)
  · exact h1 q
theorem rising_w : ∀ (p : S) (xs : List S), risingS p xs = true → xs.Pairwise le ∧ ∀ x ∈ xs, le p x
  | _, [], _ => ⟨.nil, fun _ h => nomatch h⟩
  | p, x :: r, h => by
    have h : (!ltCps x.cps.toList p.cps.toList && risingS x r) = true := h
    rw [Bool.and_eq_true] at h
    obtain ⟨h1, h2⟩ := h
    obtain ⟨u, hx⟩ := rising_w x r h2
    have px : le p x := fun z => by
      have z : x.cps.toList < p.cps.toList := z
      rw [ltCps_eq, decide_eq_true z] at h1
      cases h1
    exact ⟨List.pairwise_cons.mpr ⟨hx, u⟩, fun y hy => by
      rcases List.mem_cons.mp hy with z | z
      · rw [z]; exact px
      · exact le_trans px (hx y z)⟩
theorem w_rising : ∀ (p : S) (xs : List S), xs.Pairwise le → (∀ x ∈ xs, le p x) → risingS p xs = true
  | _, [], _, _ => rfl
  | p, x :: r, h, hp => by
    obtain ⟨h1, h2⟩ := List.pairwise_cons.mp h
    show (!ltCps x.cps.toList p.cps.toList && risingS x r) = true
    have e : decide (x.cps.toList < p.cps.toList) = false := decide_eq_false (hp x List.mem_cons_self)
    rw [w_rising x r h2 h1, ltCps_eq, e]
    rfl
theorem sorted_pw {xs : List S} (h : sortedS xs = true) : xs.Pairwise le := by
  cases xs with
  | nil => exact .nil
  | cons x r =>
    obtain ⟨u, hx⟩ := rising_w x r h
    exact List.pairwise_cons.mpr ⟨hx, u⟩
theorem pw_sorted {xs : List S} (h : xs.Pairwise le) : sortedS xs = true := by
  cases xs with
  | nil => rfl
  | cons x r =>
    obtain ⟨h1, h2⟩ := List.pairwise_cons.mp h
    exact w_rising x r h2 h1
theorem sorted_uq {xs ys : List S} (h1 : sortedS xs = true) (h2 : sortedS ys = true) (p : xs.Perm ys) : xs = ys :=
  p.eq_of_pairwise (le := le) (fun a b _ _ h1 h2 => by
    rcases MM.lt_tri a b with q | q | q
    · exact absurd q h2
    · exact q
    · exact absurd q h1) (sorted_pw h1) (sorted_pw h2)
def insW (x : S) : List S → List S
  | [] => [x]
  | y :: r => if MM.lt y x then y :: insW x r else x :: y :: r
theorem insW_perm (x : S) : ∀ ys, (insW x ys).Perm (x :: ys)
  | [] => .refl _
  | y :: r => by
    unfold insW
    split
    · exact ((insW_perm x r).cons y).trans (.swap x y r)
    · exact .refl _
theorem insW_pw (x : S) : ∀ ys, ys.Pairwise le → (insW x ys).Pairwise le
  | [], _ => List.pairwise_cons.mpr ⟨(fun _ h => nomatch h), List.Pairwise.nil⟩
  | y :: r, h => by
    obtain ⟨h1, h2⟩ := List.pairwise_cons.mp h
    unfold insW
    split
    · rename_i q
      refine List.pairwise_cons.mpr ⟨fun a ha => ?_, insW_pw x r h2⟩
      rcases List.mem_cons.mp ((insW_perm x r).mem_iff.mp ha) with z | z
      · rw [z]
        exact fun w => MM.lt_irr _ (MM.lt_trans q w)
      · exact h1 a z
    · rename_i q
      refine List.pairwise_cons.mpr ⟨fun a ha => ?_, h⟩
      rcases List.mem_cons.mp ha with z | z
      · rw [z]
        exact q
      · exact le_trans q (h1 a z)
def isort : List S → List S
  | [] => []
  | x :: r => insW x (isort r)
theorem isort_perm : ∀ xs, (isort xs).Perm xs
  | [] => .refl _
  | x :: r => (insW_perm x _).trans ((isort_perm r).cons x)
theorem isort_pw : ∀ xs, (isort xs).Pairwise le
  | [] => .nil
  | x :: r => insW_pw x _ (isort_pw r)
theorem isort_of {xs ys : List S} (hp : ys.Perm xs) (hs : sortedS ys = true) : ys = isort xs := sorted_uq hs (pw_sorted (isort_pw xs)) (hp.trans (isort_perm xs).symm)
def cSorted : En → List Ad → Option (List PyData) := fun e as => match as with | [a] => (a.lst e).bind fun ds => (strsOf ds).bind fun xs => if xs.length < 64 then some ((isort xs).map .str) else none | _ => none
section
variable {X : Ctx} {z : Nat → V} {t1 t2 t3 t4 te : TE} {f1 f2 f3 f4 f : En → Option (PyData × En)} {fx : En → Option (Ad × En)} {a b c d : S}
theorem un65 {X : Cx} {k : Nat} (h : Room k X.A) : X.A.units + 65 < cLine := by
  have := h.un
  omega
theorem ev_cst {d : PyData} : EV X z (tCst X.K d) (gC d) := fun T B e σ I H d' e' k hf Q q => by
  cases hf
  exact fun v a => q v I H k (Same.refl I) (a.mono fun _ _ e => by cases e)
theorem sv_never : SV X z tNever sNever := fun T B e σ I H o D k hg q => by cases hg
theorem ev_pick4 (h1 : EV X z t1 f1) (h2 : EV X z t2 f2) (h3 : EV X z t3 f3) (h4 : EV X z t4 f4) (h : EV X z te f) : EV X z (tDGet (tDisp [(tC (.str a), t1), (tC (.str b), t2), (tC (.str c), t3), (tC (.str d), t4)]) te) (gPick4 a b c d f1 f2 f3 f4 f) := EV.of fun e x e' hf => by
  obtain ⟨⟨x1, e1⟩, g1, hf⟩ := obind hf
  obtain ⟨⟨x2, e2⟩, g2, hf⟩ := obind hf
  obtain ⟨⟨x3, e3⟩, g3, hf⟩ := obind hf
  obtain ⟨⟨x4, e4⟩, g4, hf⟩ := obind hf
  obtain ⟨⟨y, e5⟩, g5, hf⟩ := obind hf
  cases y <;> try cases hf
  rename_i s
  obtain ⟨w, g6, g7⟩ := omap hf
  cases g7
  exact ew_pick4 (h1.ew g1 (h2.ew g2 (h3.ew g3 (h4.ew g4 (h.ew g5 ⟨s, rfl, x, g6, rfl, rfl⟩)))))
theorem gv_sortset {P : Program} {w : World} (ha : XV X z te fx) : GV X z (tCB (SS.rSortT P w) (tCons (tCB (SS.rSetT X.K P w) (tCons te tNil)) tNil)) (lSortSet fx) := fun T B e σ I H t e' k hf Q q => by
  obtain ⟨⟨a, e1⟩, h1, hf⟩ := obind hf
  obtain ⟨ds, h2, hf⟩ := obind hf
  obtain ⟨xs, h3, hf⟩ := obind hf
  split at hf
  · rename_i hz
    cases hf
    refine ha T B e σ I H a e1 k h1 _ fun v I1 H1 k1 s1 a1 => ?_
    obtain ⟨p, vs, rfl, hs, hd⟩ := ad_lst k1 a1 h2
    rw [strsOf_eq h3] at hd
    obtain rfl := hd.strs
    refine ⟨p, xs, rfl, hs, hz, fun p2 n hp2 hn => ?_⟩
    refine ⟨p2, _, n, rfl, upd_same, fun ys p3 so nd mem len hp3 => ?_⟩
    have e1 : ys = MM.srt xs := MM.srt_of so nd fun k => (mem k).trans (by simp)
    subst e1
    have k2 : Ok X.K T B (sds X z e1) σ I1 (upd H1 p2 (SS.SetSO P w p2 (fun k => decide (k ∈ xs)) n)) := by
      obtain ⟨ft, k1⟩ := k1
      exact ⟨ft, k1.step (Same.refl I1) (fun b y q => by
        rw [upd_ne (ne_of_none q (k1.sub.free hp2))]
        exact k1.sub b y q) (fun b y q => by
        rw [upd_ne (ne_of_none q (k1.oth.free hp2))]
        exact k1.oth b y q) k1.ti fun i a ha => ⟨by rw [upd_ne fun q => (k1.own i a ha).2.2 (by rw [q]; exact hp2)], (k1.own i a ha).1⟩⟩
    exact q _ I1 _ (handL k2 hp3 (DaL.ofStrs _)) s1
  · cases hf
theorem cg_sorted : CbG X z (rSortedS X.K) cSorted := fun T B e σ I H vs as ds k ha ho Q q => by
  unfold cSorted at ho
  split at ho
  · obtain ⟨es, h1, h2⟩ := obind ho
    obtain ⟨xs, h3, h4⟩ := obind h2
    split at h4
    · cases h4
      obtain ⟨v, rfl, h5⟩ := ads1 ha
      obtain ⟨p, vs, rfl, hs, hd⟩ := ad_lst k h5 h1
      rw [strsOf_eq h3] at hd
      obtain rfl := hd.strs
      refine ⟨p, xs, rfl, hs, ‹_›, fun ys p2 hp so hp2 => ?_⟩
      rw [isort_of hp so]
      exact q p2 _ hp2 (DaL.ofStrs _)
    · cases h4
  · cases ho
end
end
end PT
namespace PR
open PySem PySem.Spec PyProof.Rows L2 DL PT
noncomputable section
def PLAIN_d : PyData := .tuple [.str "reverse", .str "uniq", .str "sort"]
def SLICING_d : PyData := .tuple [.str "head", .str "tail", .str "skip", .str "chop"]
def g_is_command : En → Option Out :=
    (sSeq (sIf (bT (gBin oEq (xD (gCb cLen (aCons (xVar 0) aNil))) (xD (gC (.int 1))))) (sRet (gBin (oIn false) (xD (gBin oIx (xVar 0) (xD (gC (.int 0))))) (xD (gC PR.PLAIN_d)))) sNext)
    (sRet (gAnd (gBin (oIn false) (xD (gBin oIx (xVar 0) (xD (gC (.int 0))))) (xD (gC PR.SLICING_d))) (gBin (oB0 fun i j => decide (j ≤ i)) (xD (gBin oIx (xVar 0) (xD (gC (.int 1))))) (xD (gC (.int 0)))))))
def F_is_command : En → Option (Rx × En) := runF 1 0 g_is_command
def l0_check_pipeline : En → Option Out :=
    (sIf (bNot (bTru (xD (gR (rCall PR.F_is_command (aCons (xD (gX (xVar 2))) aNil)))))) sNever sNext)
def g_check_pipeline : En → Option Out :=
    (sFor (iEnumF (dCons (gX (xVar 0)) dNil)) (hTup 2 (hCons (hName 1) (hCons (hName 2) hNil))) l0_check_pipeline)
def F_check_pipeline : En → Option (Rx × En) := runF 1 2 g_check_pipeline
def g_kept_range : En → Option Out :=
    (sSeq (sAsg (gX (xVar 0)) (hTup 2 (hCons (hName 2) (hCons (hName 3) hNil))))
    (sSeq (sSet 3 (gCb cMin2 (aCons (xVar 3) (aCons (xVar 1) aNil))))
    (sSeq (sIf (bT (gBin oEq (xVar 2) (xD (gC (.str "head"))))) (sRet (gTup (dCons (gC (.int 0)) (dCons (gX (xVar 3)) dNil)))) sNext)
    (sSeq (sIf (bT (gBin oEq (xVar 2) (xD (gC (.str "tail"))))) (sRet (gTup (dCons (gBin (oI0 fun i j => i - j) (xVar 1) (xVar 3)) (dCons (gX (xVar 1)) dNil)))) sNext)
    (sSeq (sIf (bT (gBin oEq (xVar 2) (xD (gC (.str "skip"))))) (sRet (gTup (dCons (gX (xVar 3)) (dCons (gX (xVar 1)) dNil)))) sNext)
    (sRet (gTup (dCons (gC (.int 0)) (dCons (gBin (oI0 fun i j => i - j) (xVar 1) (xVar 3)) dNil)))))))))
def F_kept_range : En → Option (Rx × En) := runF 2 2 g_kept_range
def l0__merged : En → Option Out :=
    (sIf (bAnd (bTru (xVar 1)) (bT (gBin oEq (xD (gBin oIx (xD (gBin oIx (xVar 1) (xD (gUn uNeg (gC (.int 1)))))) (xD (gC (.int 0))))) (xVar 2)))) (sAsg (gTup (dCons (gX (xVar 2)) (dCons (gBin (oI0 fun i j => i + j) (xD (gBin oIx (xD (gBin oIx (xVar 1) (xD (gUn uNeg (gC (.int 1)))))) (xD (gC (.int 1))))) (xVar 3)) dNil))) (hSub 1 (gUn uNeg (gC (.int 1))))) (sDrop (gLm 1 mApp (dCons (gTup (dCons (gX (xVar 2)) (dCons (gX (xVar 3)) dNil))) dNil))))
def g__merged : En → Option Out :=
    (sSeq (sOwn 1 (lLst dNil))
    (sSeq (sFor (iLst (gX (xVar 0))) (hTup 2 (hCons (hName 2) (hCons (hName 3) hNil))) l0__merged)
    (sRetV 1)))
def F__merged : En → Option (Rx × En) := runF 1 3 g__merged
def e0__apply : En → Option (PyData × En) :=
    (gTup (dCons (gX (xVar 2)) (dCons (gC (.int 1)) dNil)))
def e1__apply : En → Option (PyData × En) :=
    (gX (xVar 2))
def g__apply : En → Option Out :=
    (sSeq (sIf (bT (gBin oEq (xVar 0) (xD (gTup (dCons (gC (.str "reverse")) dNil))))) (sRetG (lRev (xVar 1))) sNext)
    (sSeq (sIf (bT (gBin oEq (xVar 0) (xD (gTup (dCons (gC (.str "uniq")) dNil))))) (sRetG (lLc (iLst (gR (rCall PR.F__merged (aCons (xD (gG (lLc (iLst (gX (xVar 1))) (hName 2) bYes e0__apply [2]))) aNil)))) (hTup 2 (hCons (hName 2) (hCons (hName 3) hNil))) bYes e1__apply [2, 3])) sNext)
    (sSeq (sIf (bT (gBin oEq (xVar 0) (xD (gTup (dCons (gC (.str "sort")) dNil))))) (sRetG (lSortSet (xVar 1))) sNext)
    (sSeq (sAsg (gR (rCall PR.F_kept_range (aCons (xD (gX (xVar 0))) (aCons (xD (gCb cLen (aCons (xVar 1) aNil))) aNil)))) (hTup 2 (hCons (hName 4) (hCons (hName 5) hNil))))
    (sRetG (lSl (xVar 1) (oYes (gX (xVar 4))) (oYes (gX (xVar 5)))))))))
def F__apply : En → Option (Rx × En) := runF 2 4 g__apply
def l0_run : En → Option Out :=
    (sSetR 2 (rCall PR.F__apply (aCons (xD (gX (xVar 3))) (aCons (xD (gX (xVar 2))) aNil))))
def g_run : En → Option Out :=
    (sSeq (sDropR (rCall PR.F_check_pipeline (aCons (xD (gX (xVar 0))) aNil)))
    (sSeq (sOwn 2 (lCb cList (aCons (xVar 1) aNil)))
    (sSeq (sFor (iLst (gX (xVar 0))) (hName 3) l0_run)
    (sRetV 2))))
def F_run : En → Option (Rx × En) := runF 2 2 g_run
end
end PR
namespace MM
open PySem PySem.Spec PyProof.Rows L2 DL
theorem cutD_of {α : Type} (xs : List α) {a b : Int} (h0 : 0 ≤ a) (h1 : a ≤ b) (h2 : b ≤ xs.length) : DL.cutD xs (some a) (some b) = (xs.drop a.toNat).take (b.toNat - a.toNat) := by
  have e1 : HT.sIx xs.length 0 (some a) = a.toNat := by
    show (if a < 0 then (a + (xs.length : Int)).toNat else min a.toNat xs.length) = a.toNat
    rw [if_neg (by omega)]
    omega
  have e2 : HT.sIx xs.length xs.length (some b) = b.toNat := by
    show (if b < 0 then (b + (xs.length : Int)).toNat else min b.toNat xs.length) = b.toNat
    rw [if_neg (by omega)]
    omega
  unfold DL.cutD
  rw [e1, e2]
theorem slc_cut {c : Cm} (hs : c.slc) (ok : c.ok) (xs : List S) : DL.cutD (xs.map PyData.str) (some (c.rng xs.length).1) (some (c.rng xs.length).2) = (c.app xs).map PyData.str := by
  have lm : (xs.map PyData.str).length = xs.length := List.length_map _
  cases c with
  | head n =>
    have ok : 0 ≤ n := ok
    simp only [Cm.rng, Cm.app]
    rw [cutD_of _ (Int.le_refl 0) (by split <;> omega) (by rw [lm]; split <;> omega)]
    rw [List.map_take, Int.toNat_zero, List.drop_zero, List.take_eq_take_iff, lm]
    split <;> omega
  | tail n =>
    have ok : 0 ≤ n := ok
    simp only [Cm.rng, Cm.app]
    rw [cutD_of _ (by split <;> omega) (by split <;> omega) (by rw [lm]; omega)]
    rw [List.map_drop, List.take_of_length_le (by rw [List.length_drop, lm]; split <;> omega)]
    congr 1
    split <;> omega
  | skip n =>
    have ok : 0 ≤ n := ok
    simp only [Cm.rng, Cm.app]
    rw [cutD_of _ (by split <;> omega) (by split <;> omega) (by rw [lm]; omega)]
    rw [List.map_drop, List.take_of_length_le (by rw [List.length_drop, lm]; split <;> omega)]
    split
    · rename_i h
      rw [List.drop_of_length_le (by rw [lm]; omega), List.drop_of_length_le (by rw [lm]; omega)]
    · rfl
  | chop n =>
    have ok : 0 ≤ n := ok
    simp only [Cm.rng, Cm.app]
    rw [cutD_of _ (Int.le_refl 0) (by split <;> omega) (by rw [lm]; split <;> omega)]
    rw [List.map_take, Int.toNat_zero, List.drop_zero, List.take_eq_take_iff, lm]
    split <;> omega
  | rev => exact hs.elim
  | uniq => exact hs.elim
  | sort => exact hs.elim
end MM
namespace MM
theorem abs_pow {a : Int} {n : Nat} (h0 : 0 ≤ a) (h : a < 2 ^ n) : a.natAbs < 2 ^ n := by
  have e : ((2 ^ n : Nat) : Int) = (2 : Int) ^ n := Int.natCast_pow 2 n
  rw [← e] at h
  omega
theorem dig_step {a r : Int} {n : Nat} (h0 : 0 ≤ a) (h : a < 2 ^ n) (h2 : r < 10 ^ 60) : a * 10 ^ 60 + r < 2 ^ (200 + n) := by
  have h1 : a + 1 ≤ 2 ^ n := h
  have e1 : (a + 1) * 10 ^ 60 ≤ 2 ^ n * 10 ^ 60 := Int.mul_le_mul_of_nonneg_right h1 (by decide)
  have e2 : (2 : Int) ^ n * 10 ^ 60 ≤ 2 ^ n * 2 ^ 200 := Int.mul_le_mul_of_nonneg_left (by decide) (by omega)
  have e3 : (2 : Int) ^ (200 + n) = 2 ^ n * 2 ^ 200 := by rw [Nat.add_comm, Int.pow_add]
  rw [e3]
  have e4 : (a + 1) * 10 ^ 60 = a * 10 ^ 60 + 10 ^ 60 := by rw [Int.add_mul, Int.one_mul]
  omega
theorem pow_mono {a : Int} {n m : Nat} (h : a < 2 ^ n) (l : n ≤ m) : a < 2 ^ m := by
  have e : (2 : Int) ^ n ≤ 2 ^ m := by
    have e1 : ((2 ^ n : Nat) : Int) = (2 : Int) ^ n := Int.natCast_pow 2 n
    have e2 : ((2 ^ m : Nat) : Int) = (2 : Int) ^ m := Int.natCast_pow 2 m
    rw [← e1, ← e2]
    exact Int.ofNat_le.mpr (Nat.pow_le_pow_right (by decide) l)
  omega
end MM
namespace MM
open PySem PySem.Spec PyProof.Rows L2 DL
def preDraw : Cel → List PyData → Cel → (PyData → Prop) → Prop := fun c ds c' R => ∃ (v : V) (n : Nat) (lim : Int), c = rngC v n ∧ ds = [.int lim] ∧ 0 < lim ∧ lim < 2 ^ 200 ∧ n < 2 ^ 60 ∧ c' = rngC v (n + 1) ∧ R = fun d => ∃ r, d = .int r ∧ 0 ≤ r ∧ r < lim
theorem drawP : ∀ (v : V) (n : Nat) (lim : Int), 0 < lim → lim < 2 ^ 200 → n < 2 ^ 60 → preDraw (rngC v n) [.int lim] (rngC v (n + 1)) fun d => ∃ r, d = .int r ∧ 0 ≤ r ∧ r < lim := fun v n lim h1 h2 h3 => ⟨v, n, lim, rfl, rfl, h1, h2, h3, rfl, rfl⟩
end MM
namespace MM
open PySem PySem.Spec PyProof.Rows L2 DL
theorem pick_mem {α : Type} {ds : List α} {r : Int} (h0 : 0 ≤ r) (h1 : r < ds.length) : ∃ d, atI ds r = some d ∧ d ∈ ds := by
  obtain ⟨n, rfl⟩ : ∃ n : Nat, r = n := ⟨r.toNat, by omega⟩
  have h : n < ds.length := by omega
  exact ⟨ds[n], by rw [atI_nat']; exact List.getElem?_eq_getElem h, List.getElem_mem h⟩
end MM
namespace MM
theorem erase_map {α β : Type} (f : α → β) : ∀ (xs : List α) (i : Nat), (xs.map f).eraseIdx i = (xs.eraseIdx i).map f
  | [], _ => rfl
  | _ :: _, 0 => rfl
  | x :: xs, i + 1 => congrArg (f x :: ·) (erase_map f xs i)
end MM
namespace MM
open PySem PySem.Spec PyProof.Rows L2 DL
theorem canLay_lines : ∀ {xs : List S}, (∀ x ∈ xs, PyData.strOk x = true) → PyData.canLayAll0 (xs.map .str) = true
  | [], _ => by simp [PyData.canLayAll0]
  | x :: xs, h => by
    simp only [List.map_cons, PyData.canLayAll0, PyData.canLay0, Bool.and_eq_true]
    exact ⟨h x List.mem_cons_self, canLay_lines fun y hy => h y (List.mem_cons_of_mem _ hy)⟩
theorem depth_lines : ∀ {xs : List S}, PyData.depthAll (xs.map .str) = 0
  | [] => by simp [PyData.depthAll]
  | x :: xs => by
    simp only [List.map_cons, PyData.depthAll, PyData.depth, depth_lines (xs := xs)]
    rfl
theorem lines_shaped {xs : List S} (h : ∀ x ∈ xs, PyData.strOk x = true) : SeqAt.shaped (.list (xs.map .str)) = true := by
  simp [SeqAt.shaped, PyData.canLay0, PyData.depth, depth_lines, canLay_lines h]
theorem eqv_nil {xs : List S} : PyData.eqv (.list (xs.map .str)) (.list []) = xs.isEmpty := by
  cases xs <;> simp [PyData.eqv, PyData.eqvAll]
theorem nil_shaped : SeqAt.shaped (.list []) = true := by
  simp [SeqAt.shaped, PyData.canLay0, PyData.canLayAll0, PyData.depth, PyData.depthAll]
end MM
namespace MM
open PySem PySem.Spec PyProof.Rows L2 DL
theorem atI_strs {xs : List S} {i : Nat} {x : S} (h : xs[i]? = some x) : atI (xs.map PyData.str) (i : Int) = some (.str x) := by
  rw [atI_nat', List.getElem?_map, h]
  rfl
theorem rev_snoc {xs : List S} {i : Nat} (h : i < xs.length) : ∃ x, xs[xs.length - 1 - i]? = some x ∧ xs.reverse.take (i + 1) = xs.reverse.take i ++ [x] := by
  have h2 : xs.length - 1 - i < xs.length := by omega
  refine ⟨xs[xs.length - 1 - i], List.getElem?_eq_getElem h2, ?_⟩
  rw [List.take_add_one, List.getElem?_reverse h, List.getElem?_eq_getElem h2]
  rfl
theorem uq_take {xs : List S} {i : Nat} {x : S} (h : xs[i]? = some x) : uq (xs.take (i + 1)) = if i ≠ 0 ∧ xs[i - 1]? = some x then uq (xs.take i) else uq (xs.take i) ++ [x] := by
  rw [List.take_add_one, h]
  show uq (xs.take i ++ [x]) = _
  rw [uq_snoc]
  unfold stU
  rw [uq_last]
  have e : (xs.take i).getLast? = if i = 0 then none else xs[i - 1]? := by
    by_cases z : i = 0
    · subst z
      rfl
    · rw [if_neg z, List.getLast?_eq_getElem?, List.length_take]
      have hl := (List.getElem?_eq_some_iff.mp h).1
      rw [List.getElem?_take, if_pos (by omega)]
      congr 1
      omega
  rw [e]
  by_cases z : i = 0
  · rw [if_pos z, if_neg (by simp), if_neg (by simp [z])]
  · rw [if_neg z]
    by_cases y : xs[i - 1]? = some x
    · rw [if_pos y, if_pos ⟨z, y⟩]
    · rw [if_neg y, if_neg (fun q => y q.2)]
theorem cut_take {xs : List S} {i : Nat} {x : S} (h : xs[i]? = some x) (lo hi : Int) : cut (xs.take (i + 1)) lo hi = if lo ≤ (i : Int) ∧ (i : Int) < hi then cut (xs.take i) lo hi ++ [x] else cut (xs.take i) lo hi := by
  have hl := (List.getElem?_eq_some_iff.mp h).1
  have li : (xs.take i).length = i := by rw [List.length_take]; omega
  rw [List.take_add_one, h]
  show cut (xs.take i ++ [x]) lo hi = _
  unfold cut
  by_cases h2 : (i : Int) < hi
  · rw [List.take_of_length_le (l := xs.take i ++ [x]) (by rw [List.length_append, li]; simp; omega), List.take_of_length_le (l := xs.take i) (by rw [li]; omega)]
    by_cases h1 : lo ≤ (i : Int)
    · rw [if_pos ⟨h1, h2⟩, List.drop_append_of_le_length (by rw [li]; omega)]
    · rw [if_neg (fun q => h1 q.1), List.drop_of_length_le (by rw [List.length_append, li]; simp; omega), List.drop_of_length_le (by rw [li]; omega)]
  · rw [if_neg (fun q => h2 q.2), List.take_append_of_le_length (by rw [li]; omega)]
theorem cut_head {xs : List S} {n : Int} : cut xs 0 n = (Cm.head n).app xs := by
  unfold cut Cm.app
  simp
theorem cut_chop {xs : List S} {n : Int} (h : 0 ≤ n) : cut xs 0 ((xs.length : Int) - n) = (Cm.chop n).app xs := by
  unfold cut Cm.app
  have e : ((xs.length : Int) - n).toNat = xs.length - n.toNat := by omega
  simp [e]
theorem cut_skip {xs : List S} {n : Int} : cut xs n (xs.length : Int) = (Cm.skip n).app xs := by
  unfold cut Cm.app
  simp
theorem cut_tail {xs : List S} {n : Int} (h : 0 ≤ n) : cut xs ((xs.length : Int) - n) (xs.length : Int) = (Cm.tail n).app xs := by
  unfold cut Cm.app
  have e : ((xs.length : Int) - n).toNat = xs.length - n.toNat := by omega
  simp [e]
def stD (acc : List S) (x : S) : List S := if x ∈ acc then acc else acc ++ [x]
def dd (xs : List S) : List S := xs.foldl stD []
theorem dd_snoc (xs : List S) (x : S) : dd (xs ++ [x]) = stD (dd xs) x := by
  unfold dd
  rw [List.foldl_append]
  rfl
theorem dd_mem (xs : List S) : ∀ k, k ∈ dd xs ↔ k ∈ xs := by
  refine snoc_ind (P := fun xs => ∀ k, k ∈ dd xs ↔ k ∈ xs) (fun k => Iff.rfl) (fun xs x ih k => ?_) xs
  rw [dd_snoc]
  unfold stD
  split
  · rename_i h
    rw [ih, List.mem_append, List.mem_singleton]
    exact ⟨.inl, fun z => z.elim id fun e => e ▸ (ih x).1 h⟩
  · rw [List.mem_append, List.mem_append, ih]
theorem dd_nodup (xs : List S) : (dd xs).Nodup := by
  refine snoc_ind (P := fun xs => (dd xs).Nodup) .nil (fun xs x ih => ?_) xs
  rw [dd_snoc]
  unfold stD
  split
  · exact ih
  · rename_i h
    rw [List.nodup_append]
    refine ⟨ih, by simp, fun a ha b hb e => ?_⟩
    rw [List.mem_singleton] at hb
    exact h (hb ▸ e ▸ ha)
theorem dd_len (xs : List S) : (dd xs).length ≤ xs.length := nodup_len (dd_nodup xs) fun k hk => (dd_mem xs k).1 hk
theorem dd_srt {xs ys : List S} (h : ys.Perm (dd xs)) (s : sortedS ys = true) : ys = srt xs := srt_of s (h.nodup_iff.mpr (dd_nodup xs)) fun k => (h.mem_iff).trans (dd_mem xs k)
end MM
namespace MM
open PySem PySem.Spec PyProof.Rows L2 DL
theorem cw_repN {K : Frg} {d : PyData} {Pd : PyData → Prop} (h : Nice 2522 d) (p : Pd (.str d.shown)) : CW K (fun xs H Q => ∃ v d, xs = [v] ∧ Dp K H v d ∧ d.showable = true ∧ d.depth ≤ 60 ∧ d.shown.length ≤ sizeLine ∧ d.hasDict = false ∧ Q (.str d.shown) H) [d] Pd := cw_repr h.sho h.dep (h.fits (by decide)) h.hd p
theorem ew_repr2N {K : Frg} {ws : List SD} {i : Nat} {d1 d2 : List PyData} {P : PyData → List SD → Prop} (hi : ws[i]? = some (.cel (twoC K d1 d2))) (h : Nice 2522 (.list [.list d1, .list d2])) (p : P (.str (PyData.shown (.list [.list d1, .list d2]))) ws) :
    EW K ws (tCB (fun xs H Q => ∃ v d, xs = [v] ∧ Dp K H v d ∧ d.showable = true ∧ d.depth ≤ 60 ∧ d.shown.length ≤ sizeLine ∧ d.hasDict = false ∧ Q (.str d.shown) H) (tCons (tVar i) tNil)) P := ew_repr2 hi h.sho h.dep (h.fits (by decide)) h.hd p
theorem nice_two {a b : PyData} (h1 : Nice 1260 a ∧ a.depth ≤ 2) (h2 : Nice 1260 b ∧ b.depth ≤ 2) : Nice 2522 (.list [a, b]) :=
  (nice_list (xs := [a, b]) (n := 1260) (k := 2) (m := 2) (fun d hd => by
    rcases List.mem_cons.mp hd with rfl | hd
    · exact h1
    · rw [List.mem_singleton.mp hd]
      exact h2) (Nat.le_refl 2) (by decide)).1
theorem nice_cm {c : Cm} (ok : c.ok) (b : c.num < 2 ^ 150) : Nice 402 c.d ∧ c.d.depth ≤ 1 := by
  have p : ∀ {n : Int}, 0 ≤ n → n < 2 ^ 150 → Nice 200 (.int n) ∧ (PyData.int n).depth ≤ 0 := fun {n} h1 h2 => nice_int (abs_pow h1 (pow_mono h2 (by decide)))
  have st : ∀ {x : S}, PyData.strOk x = true → x.cps.size ≤ 20 → Nice 200 (.str x) ∧ (PyData.str x).depth ≤ 0 := fun h l => nice_str h (Nat.le_trans l (by decide))
  have two : ∀ {x : S} {n : Int}, PyData.strOk x = true → x.cps.size ≤ 20 → 0 ≤ n → n < 2 ^ 150 → Nice 402 (.tuple [.str x, .int n]) ∧ (PyData.tuple [.str x, .int n]).depth ≤ 1 := fun h1 h2 h3 h4 =>
    nice_tuple (n := 200) (k := 0) (m := 2) (fun d hd => by
      rcases List.mem_cons.mp hd with rfl | hd
      · exact st h1 h2
      · rw [List.mem_singleton.mp hd]
        exact p h3 h4) (Nat.le_refl 2) (by decide)
  have one : ∀ {x : S}, PyData.strOk x = true → x.cps.size ≤ 20 → Nice 402 (.tuple [.str x]) ∧ (PyData.tuple [.str x]).depth ≤ 1 := fun h1 h2 =>
    nice_tuple (n := 200) (k := 0) (m := 2) (fun d hd => by
      rw [List.mem_singleton.mp hd]
      exact st h1 h2) (Nat.le_succ 1) (by decide)
  cases c with
  | head n => exact two (by decide +kernel) (by decide +kernel) ok b
  | tail n => exact two (by decide +kernel) (by decide +kernel) ok b
  | skip n => exact two (by decide +kernel) (by decide +kernel) ok b
  | chop n => exact two (by decide +kernel) (by decide +kernel) ok b
  | rev => exact one (by decide +kernel) (by decide +kernel)
  | uniq => exact one (by decide +kernel) (by decide +kernel)
  | sort => exact one (by decide +kernel) (by decide +kernel)
theorem nice_plan {cs : List Cm} (h : ∀ c ∈ cs, c.ok ∧ c.num < 2 ^ 150) (l : cs.length ≤ 1) : Nice 1260 (planD cs) ∧ (planD cs).depth ≤ 2 := by
  obtain ⟨h1, h2⟩ := nice_list (xs := cs.map Cm.d) (n := 402) (k := 1) (m := 1) (fun d hd => by
    obtain ⟨c, hc, rfl⟩ := List.mem_map.mp hd
    exact nice_cm (h c hc).1 (h c hc).2) (by rw [List.length_map]; exact l) (by decide)
  exact ⟨h1.le (by decide), h2⟩
theorem eqv_refl_nil : PyData.eqv (.list []) (.list []) = true := by simp [PyData.eqv, PyData.eqvAll]
theorem eqv_one {x : S} : PyData.eqv (.list [.str x]) (.list [.str x]) = true := by simp [PyData.eqv, PyData.eqvAll]
end MM
namespace DL
open PySem PySem.Spec PyProof.Rows L2
theorem sw_forJ {K : Frg} {T B : Hp} {ws : List SD} {ts : TS} {g : TG} {D : Ends} {wi : TI} (h : IW K ws wi fun ds w0 => ∃ Iv : Nat → List SD → Prop, Iv 0 w0 ∧
      (∀ i d w B' D', ds[i]? = some d → Iv i w → Same B B' → (∀ w2, Iv (i + 1) w2 → NX K T B' w2 (Ends.nx D')) → (∀ w2, Iv (i + 1) w2 → NX K T B' w2 (Ends.ct D')) → Ends.rt D' = Ends.rt D → Ends.bk D' = Ends.nx D → GW K T B' w g d fun w2 => SW K T B' w2 ts D') ∧
      ∀ w, Iv ds.length w → NX K T B w D.nx) : SW K T B ws (tFor wi g ts) D := by
  refine sw_for fun T' B' σ I H k R q => h T' B' σ I H k R fun J ds w0 I' H' hp => q J ds w0 I' H' ?_
  obtain ⟨Iv, h0, hs, hd⟩ := hp
  exact ⟨Iv, h0, fun i d w B2 e iv sb => hs i d w B2 _ e iv sb (fun w2 h => nx_of h) (fun w2 h => nx_of h) rfl rfl, hd⟩
end DL
namespace DL
open PySem PySem.Spec PyProof.Rows L2
theorem of_rep {K : Frg} {xs : List PyData} {k : Int} {Pl : List PyData → Prop} (h1 : -(2 ^ 63) ≤ k) (h2 : k < 2 ^ 63) (hz : xs.length * k.toNat ≤ sizeLine) (p : Pl (List.replicate k.toNat xs).flatten) : OF K rRep (.list xs) (.int k) Pl := fun T B ws σ I H v u kk hv hu Q q => by
  obtain ⟨a, vs, rfl, hs, ha⟩ := hv.list_inv
  obtain rfl := hu.int_inv
  refine ⟨a, k, vs, rfl, rfl, kk.sub _ _ hs, h1, h2, by rw [ha.length]; exact hz, fun l hl => ?_⟩
  obtain ⟨k2, n2⟩ := kk.hand (o := .lst (List.replicate k.toNat vs).flatten) hl
  exact q _ _ _ _ _ p n2 k2 (Same.refl I) (daL_rep _ ha)
end DL
namespace MM
open PySem PySem.Spec PyProof.Rows L2 DL
theorem cut_from {α : Type} (xs : List α) {k : Int} (h0 : 0 ≤ k) (h : k ≤ xs.length) : DL.cutD xs (some k) none = xs.drop k.toNat := by
  have e1 : HT.sIx xs.length 0 (some k) = k.toNat := by
    show (if k < 0 then (k + (xs.length : Int)).toNat else min k.toNat xs.length) = k.toNat
    rw [if_neg (by omega)]
    omega
  have e2 : HT.sIx xs.length xs.length none = xs.length := rfl
  unfold DL.cutD
  rw [e1, e2]
  exact List.take_of_length_le (by rw [List.length_drop]; exact Nat.le_refl _)
theorem cut_to {α : Type} (xs : List α) {k : Int} (h0 : 0 ≤ k) (h : k ≤ xs.length) : DL.cutD xs none (some k) = xs.take k.toNat := by
  have e1 : HT.sIx xs.length xs.length (some k) = k.toNat := by
    show (if k < 0 then (k + (xs.length : Int)).toNat else min k.toNat xs.length) = k.toNat
    rw [if_neg (by omega)]
    omega
  have e2 : HT.sIx xs.length 0 none = 0 := rfl
  unfold DL.cutD
  rw [e1, e2, List.drop_zero, Nat.sub_zero]
theorem runP_cut (cs : List Cm) (xs : List S) (n : Nat) : runP (cs.drop n) (runP (cs.take n) xs) = runP cs xs := by
  rw [← runP_append, List.take_append_drop]
end MM
namespace DL
open PySem PySem.Spec PyProof.Rows L2
theorem cw_of_cf {K : Frg} {r : List V → Hp → VK → Prop} {xs : List PyData} {Pd : PyData → Prop} (h : CF K r xs fun ds => Pd (.list ds)) : CW K r xs Pd := fun T B ws σ I H vs k a Q q => h T B ws σ I H vs k a Q fun p ys ds I' H' pd n k' s a' => by
  obtain ⟨k2, e⟩ := k'.freeze n
  exact q _ _ _ _ pd k2 (s.trans e) (.lst upd_same (a'.mono e))
end DL
namespace PT
open PySem PySem.Spec PyProof.Rows L2 DL
open Classical
theorem obind_first {α β : Type} {o o' : Option α} {f : α → Option β} (h : o = o') : o.bind f = o'.bind f := by rw [h]
theorem nr {α : Type} {a b : α} (h : a = b) : a = b := h
theorem oEq_d {e : En} {x y : PyData} : oEq e (.d x) (.d y) = (eqD x y).map .bool := nr rfl
theorem oNe_d {e : En} {x y : PyData} : oNe e (.d x) (.d y) = (eqD x y).map (fun c => .bool (!c)) := nr rfl
theorem eqD_i {i j : Int} : eqD (.int i) (.int j) = some (decide (i = j)) := nr rfl
theorem eqD_s {i j : S} : eqD (.str i) (.str j) = some (decide (i = j)) := nr rfl
theorem oIx_t {e : En} {ds : List PyData} {j : Int} : oIx e (.d (.tuple ds)) (.d (.int j)) = atI ds j := nr rfl
theorem oIx_l {e : En} {ds : List PyData} {j : Int} : oIx e (.d (.list ds)) (.d (.int j)) = atI ds j := nr rfl
theorem oIx_s {e : En} {i : Nat} {j : Int} : oIx e (.s i) (.d (.int j)) = (Ad.lst e (.s i)).bind fun ds => atI ds j := nr rfl
theorem oIn_t {e : En} {n : Bool} {x : PyData} {ds : List PyData} : oIn n e (.d x) (.d (.tuple ds)) = (inD x ds false).map fun c => .bool (if n then !c else c) := nr rfl
theorem oIn_l {e : En} {n : Bool} {x : PyData} {ds : List PyData} : oIn n e (.d x) (.d (.list ds)) = (inD x ds true).map fun c => .bool (if n then !c else c) := nr rfl
theorem oIn_s {e : En} {n : Bool} {x : PyData} {i : Nat} : oIn n e (.d x) (.s i) = (Ad.lst e (.s i)).bind fun ds => (inD x ds ((Ad.lstH e (.s i)).isSome)).map fun c => .bool (if n then !c else c) := by
  show (Ad.lst e (.s i)).bind (fun ds => (inD x ds (true && (Ad.lstH e (.s i)).isSome)).map _) = _
  rw [Bool.true_and]
theorem lst_d {e : En} {ds : List PyData} : Ad.lst e (.d (.list ds)) = some ds := nr rfl
theorem lstH_d {e : En} {ds : List PyData} : Ad.lstH e (.d (.list ds)) = some ds := nr rfl
theorem seq_l {e : En} {ds : List PyData} : Ad.seq e (.d (.list ds)) = some ds := nr rfl
theorem seq_t {e : En} {ds : List PyData} : Ad.seq e (.d (.tuple ds)) = some ds := nr rfl
theorem seq_s {e : En} {i : Nat} : Ad.seq e (.s i) = Ad.lst e (.s i) := nr rfl
theorem val_d {e : En} {d : PyData} : Ad.val e (.d d) = some d := nr rfl
theorem lst_own {e : En} {i : Nat} {ds : List PyData} (h : e[i]? = some (.own (.lst ds))) : Ad.lst e (.s i) = some ds := by simp only [Ad.lst, h]
theorem lst_par {e : En} {i k : Nat} {ds : List PyData} (h : e[i]? = some (.par k (.lst ds))) : Ad.lst e (.s i) = some ds := by simp only [Ad.lst, h]
theorem lst_scr {e : En} {i : Nat} {ds : List Int} (h : e[i]? = some (.scr ds)) : Ad.lst e (.s i) = some (ds.map .int) := by simp only [Ad.lst, h]
theorem lstH_own {e : En} {i : Nat} {ds : List PyData} (h : e[i]? = some (.own (.lst ds))) : Ad.lstH e (.s i) = some ds := by simp only [Ad.lstH, h]
theorem lstH_par {e : En} {i k : Nat} {ds : List PyData} (h : e[i]? = some (.par k (.lst ds))) : Ad.lstH e (.s i) = some ds := by simp only [Ad.lstH, h]
theorem val_own {e : En} {i : Nat} {t : Ow} (h : e[i]? = some (.own t)) : Ad.val e (.s i) = t.toD := by simp only [Ad.val, h, Option.bind_some, Sx.tree]
theorem val_par {e : En} {i k : Nat} {t : Ow} (h : e[i]? = some (.par k t)) : Ad.val e (.s i) = t.toD := by simp only [Ad.val, h, Option.bind_some, Sx.tree]
theorem toD_lst {ds : List PyData} : (Ow.lst ds).toD = some (.list ds) := by simp only [Ow.toD]
theorem toD_leaf {d : PyData} : (Ow.leaf d).toD = some d := by simp only [Ow.toD]
theorem cLen_1 {e : En} {a : Ad} : cLen e [a] = (a.seq e).map fun ds => .int ds.length := nr rfl
theorem cAbs_1 {e : En} {i : Int} : cAbs e [.d (.int i)] = some (.int (if i < 0 then -i else i)) := nr rfl
theorem cMax_2 {e : En} {i j : Int} : cMax2 e [.d (.int i), .d (.int j)] = some (.int (if j > i then j else i)) := nr rfl
theorem cMin_2 {e : En} {i j : Int} : cMin2 e [.d (.int i), .d (.int j)] = some (.int (if j < i then j else i)) := nr rfl
theorem cInt_b {e : En} {b : Bool} : cInt1 e [.d (.bool b)] = some (.int (if b then 1 else 0)) := nr rfl
theorem cInt_i {e : En} {b : Int} : cInt1 e [.d (.int b)] = some (.int b) := nr rfl
theorem cList_1 {e : En} {a : Ad} : cList e [a] = a.seq e := nr rfl
theorem oI0_d {e : En} {f : Int → Int → Int} {i j : Int} : oI0 f e (.d (.int i)) (.d (.int j)) = some (.int (f i j)) := nr rfl
theorem oB0_d {e : En} {f : Int → Int → Bool} {i j : Int} : oB0 f e (.d (.int i)) (.d (.int j)) = some (.bool (f i j)) := nr rfl
theorem oInt_d {e : En} {C : Int → Int → Prop} {f : Int → Int → Int} {i j : Int} : oInt C f e (.d (.int i)) (.d (.int j)) = if C i j then some (.int (f i j)) else none := nr rfl
theorem oInt_ok {e : En} {C : Int → Int → Prop} {f : Int → Int → Int} {i j : Int} (h : C i j) : oInt C f e (.d (.int i)) (.d (.int j)) = some (.int (f i j)) := by rw [oInt_d, if_pos h]
theorem tru_b {e : En} {b : Bool} : Ad.tru e (.d (.bool b)) = some b := nr rfl
theorem tru_l {e : En} {ds : List PyData} : Ad.tru e (.d (.list ds)) = some (!ds.isEmpty) := nr rfl
theorem tru_s {e : En} {i : Nat} : Ad.tru e (.s i) = (Ad.lst e (.s i)).map fun ds => !ds.isEmpty := nr rfl
theorem oRep_k {e : En} {a : Ad} {k : Int} : oRep e a (.d (.int k)) = (a.lstH e).bind fun xs => if -(2 ^ 63) ≤ k ∧ k < 2 ^ 63 ∧ xs.length * k.toNat ≤ sizeLine then some (List.replicate k.toNat xs).flatten else none := nr rfl
theorem strsOf_map {xs : List S} : strsOf (xs.map .str) = some xs := by
  induction xs with
  | nil => rfl
  | cons x xs ih =>
    show (strsOf (xs.map .str)).map (x :: ·) = _
    rw [ih]
    rfl
theorem intsOf_map {xs : List Int} : intsOf (xs.map .int) = some xs := by
  induction xs with
  | nil => rfl
  | cons x xs ih =>
    show (intsOf (xs.map .int)).map (x :: ·) = _
    rw [ih]
    rfl
theorem flats_map : ∀ {xs : List S}, (xs.map PyData.str).mapM flatD = some (xs.map V.str)
  | [] => rfl
  | x :: xs => by
    rw [List.map_cons, List.mapM_cons, flats_map]
    rfl
theorem inD_strs {s : S} {xs : List S} {b : Bool} : inD (.str s) (xs.map .str) b = some (decide (s ∈ xs)) := by
  unfold inD
  rw [flats_map]
  show some (inV (.str s) (xs.map V.str)) = _
  rw [inV_str]
theorem inD_3 {s a b c : S} {f : Bool} : inD (.str s) [.str a, .str b, .str c] f = some (decide (s ∈ [a, b, c])) := inD_strs (xs := [a, b, c])
theorem inD_4 {s a b c d : S} {f : Bool} : inD (.str s) [.str a, .str b, .str c, .str d] f = some (decide (s ∈ [a, b, c, d])) := inD_strs (xs := [a, b, c, d])
theorem inD_2 {s a b : S} {f : Bool} : inD (.str s) [.str a, .str b] f = some (decide (s ∈ [a, b])) := inD_strs (xs := [a, b])
theorem atI_0 {d : PyData} {ds : List PyData} : atI (d :: ds) 0 = some d := by
  unfold atI ixN
  rw [if_pos (by decide), if_pos (by simp only [List.length_cons]; omega)]
  rfl
theorem atI_1 {d c : PyData} {ds : List PyData} : atI (c :: d :: ds) 1 = some d := by
  unfold atI ixN
  rw [if_pos (by decide), if_pos (by simp only [List.length_cons]; omega)]
  rfl
theorem atI_2 {d c b : PyData} {ds : List PyData} : atI (b :: c :: d :: ds) 2 = some d := by
  unfold atI ixN
  rw [if_pos (by decide), if_pos (by simp only [List.length_cons]; omega)]
  rfl
theorem atI_3 {d c b a : PyData} {ds : List PyData} : atI (a :: b :: c :: d :: ds) 3 = some d := by
  unfold atI ixN
  rw [if_pos (by decide), if_pos (by simp only [List.length_cons]; omega)]
  rfl
theorem forL_inv {h : PyData → En → Option En} {g : En → Option Out} (Iv : Nat → En → Prop) : ∀ {ds : List PyData} {e : En} (k : Nat), Iv k e →
    (∀ i d e, ds[i]? = some d → Iv (k + i) e → ∃ e1 e2, h d e = some e1 ∧ (g e1 = some (.nx e2) ∨ g e1 = some (.ct e2)) ∧ Iv (k + i + 1) e2) → ∃ e2, forL h g ds e = some (.nx e2) ∧ Iv (k + ds.length) e2
  | [], e, k, h0, _ => ⟨e, rfl, h0⟩
  | d :: ds, e, k, h0, hs => by
    obtain ⟨e1, e2, q1, q2, q3⟩ := hs 0 d e rfl h0
    obtain ⟨e3, q4, q5⟩ := forL_inv (ds := ds) Iv (k + 1) q3 fun i d e hd hi => by
      have e0 : k + (i + 1) = k + 1 + i := by omega
      have := hs (i + 1) d e (by simpa using hd)
      rw [e0] at this
      exact this hi
    have len : k + (d :: ds).length = k + 1 + ds.length := by simp only [List.length_cons]; omega
    refine ⟨e3, ?_, by rw [len]; exact q5⟩
    unfold forL
    rw [q1]
    show (g e1).bind _ = _
    rcases q2 with q2 | q2
    · rw [q2]
      exact q4
    · rw [q2]
      exact q4
theorem forL_by {h : PyData → En → Option En} {g : En → Option Out} {ds : List PyData} {e : En} (Iv : Nat → En → Prop) (h0 : Iv 0 e)
    (hs : ∀ i d e, ds[i]? = some d → Iv i e → ∃ e1, h d e = some e1 ∧ ∃ o, g e1 = some o ∧ ∃ e2, (o = .nx e2 ∨ o = .ct e2) ∧ Iv (i + 1) e2) : ∃ e2, forL h g ds e = some (.nx e2) ∧ Iv ds.length e2 := by
  have := forL_inv (h := h) (g := g) (ds := ds) (e := e) Iv 0 h0 fun i d e hd hi => by
    rw [Nat.zero_add] at *
    obtain ⟨e1, q1, o, q2, e2, q3, q4⟩ := hs i d e hd hi
    refine ⟨e1, e2, q1, ?_, q4⟩
    rcases q3 with rfl | rfl
    · exact .inl q2
    · exact .inr q2
  rwa [Nat.zero_add] at this
theorem lcL_inv {h : PyData → En → Option En} {c : En → Option (Bool × En)} {f : En → Option (PyData × En)} {vs : List Nat} (Iv : Nat → List PyData → En → Prop) : ∀ {ds acc : List PyData} {e : En} (k : Nat), Iv k acc e →
    (∀ i d acc e, ds[i]? = some d → Iv (k + i) acc e → plainE e vs = true ∧ ∃ e1, h d (wipeE e vs) = some e1 ∧ ∃ b e2, c e1 = some (b, e2) ∧ if b = true then ∃ x e3, f e2 = some (x, e3) ∧ acc.length < sizeLine ∧ Iv (k + i + 1) (acc ++ [x]) (backE e e3 vs) else Iv (k + i + 1) acc (backE e e2 vs)) →
    ∃ acc' e', lcL h c f vs ds acc e = some (acc', e') ∧ Iv (k + ds.length) acc' e'
  | [], acc, e, k, h0, _ => ⟨acc, e, rfl, h0⟩
  | d :: ds, acc, e, k, h0, hs => by
    obtain ⟨q0, e1, q1, b, e2, q2, q3⟩ := hs 0 d acc e rfl h0
    have hs' : ∀ i d' acc e, ds[i]? = some d' → Iv (k + 1 + i) acc e → plainE e vs = true ∧ ∃ e1, h d' (wipeE e vs) = some e1 ∧ ∃ b e2, c e1 = some (b, e2) ∧ if b = true then ∃ x e3, f e2 = some (x, e3) ∧ acc.length < sizeLine ∧ Iv (k + 1 + i + 1) (acc ++ [x]) (backE e e3 vs) else Iv (k + 1 + i + 1) acc (backE e e2 vs) := fun i d' acc e hd hi => by
      have e0 : k + (i + 1) = k + 1 + i := by omega
      have := hs (i + 1) d' acc e (by simpa using hd)
      rw [e0] at this
      exact this hi
    have len : k + (d :: ds).length = k + 1 + ds.length := by simp only [List.length_cons]; omega
    rw [len]
    unfold lcL
    rw [if_pos q0, q1]
    show ∃ acc' e', ((c e1).bind _) = _ ∧ _
    rw [q2]
    cases b with
    | true =>
      rw [if_pos rfl] at q3
      obtain ⟨x, e3, q4, q5, q6⟩ := q3
      obtain ⟨a, b, q7, q8⟩ := lcL_inv (ds := ds) Iv (k + 1) q6 hs'
      refine ⟨a, b, ?_, q8⟩
      show (f e2).bind _ = _
      rw [q4]
      show (if acc.length < sizeLine then _ else none) = _
      rw [if_pos q5]
      exact q7
    | false =>
      have q3 : Iv (k + 0 + 1) acc (backE e e2 vs) := q3
      exact lcL_inv (ds := ds) Iv (k + 1) q3 hs'
theorem lcL_by {h : PyData → En → Option En} {c : En → Option (Bool × En)} {f : En → Option (PyData × En)} {vs : List Nat} {e : En} {ds : List PyData} (Q : Nat → List PyData → Prop) (hp : plainE e vs = true) (h0 : Q 0 [])
    (hs : ∀ i d acc, ds[i]? = some d → Q i acc → ∃ e1 b e2, h d (wipeE e vs) = some e1 ∧ c e1 = some (b, e2) ∧ (b = true → ∃ x e3, f e2 = some (x, e3) ∧ acc.length < sizeLine ∧ backE e e3 vs = e ∧ Q (i + 1) (acc ++ [x])) ∧ (b = false → backE e e2 vs = e ∧ Q (i + 1) acc)) :
    ∃ acc, lcL h c f vs ds [] e = some (acc, e) ∧ Q ds.length acc := by
  obtain ⟨acc, e', h1, h2, h3⟩ := lcL_inv (h := h) (c := c) (f := f) (vs := vs) (ds := ds) (acc := []) (e := e) (fun i acc e' => e' = e ∧ Q i acc) 0 ⟨rfl, h0⟩ fun i d acc e' hd ⟨he, hq⟩ => by
    subst he
    rw [Nat.zero_add] at *
    obtain ⟨e1, b, e2, q1, q2, q3, q4⟩ := hs i d acc hd hq
    refine ⟨hp, e1, q1, b, e2, q2, ?_⟩
    cases b with
    | true =>
      obtain ⟨x, e3, q5, q6, q7, q8⟩ := q3 rfl
      exact ⟨x, e3, q5, q6, q7, q8⟩
    | false => exact q4 rfl
  rw [Nat.zero_add] at h3
  subst h2
  exact ⟨acc, h1, h3⟩
theorem lcL_map {h : PyData → En → Option En} {c : En → Option (Bool × En)} {f : En → Option (PyData × En)} {vs : List Nat} {e : En} {ds : List PyData} (p : PyData → Bool) (g : PyData → PyData) (hp : plainE e vs = true) (hl : ds.length ≤ sizeLine)
    (hs : ∀ d ∈ ds, ∃ e1, h d (wipeE e vs) = some e1 ∧ ∃ e2, c e1 = some (p d, e2) ∧ if p d = true then ∃ e3, f e2 = some (g d, e3) ∧ backE e e3 vs = e else backE e e2 vs = e) : lcL h c f vs ds [] e = some ((ds.filter p).map g, e) := by
  obtain ⟨acc, e', h1, h2, h3⟩ := lcL_inv (h := h) (c := c) (f := f) (vs := vs) (ds := ds) (acc := []) (e := e) (fun i acc e' => e' = e ∧ acc = ((ds.take i).filter p).map g) 0 ⟨rfl, by simp⟩ fun i d acc e' hd ⟨he, ha⟩ => by
    subst he
    subst ha
    have hm : d ∈ ds := List.mem_of_getElem? hd
    have hlt : i < ds.length := (List.getElem?_eq_some_iff.mp hd).1
    obtain ⟨e1, q1, e2, q2, q3⟩ := hs d hm
    rw [Nat.zero_add] at *
    have nx : (ds.take (i + 1)).filter p = (ds.take i).filter p ++ (if p d = true then [d] else []) := by
      rw [List.take_add_one, hd, List.filter_append]
      show _ ++ [d].filter p = _
      cases q : p d <;> simp [List.filter_cons, q]
    refine ⟨hp, e1, q1, p d, e2, q2, ?_⟩
    cases q : p d with
    | true =>
      rw [q] at q3 nx
      rw [if_pos rfl] at q3 nx ⊢
      obtain ⟨e3, q4, q5⟩ := q3
      refine ⟨g d, e3, q4, ?_, q5, ?_⟩
      · rw [List.length_map]
        have e1 := List.length_filter_le p (ds.take i)
        rw [List.length_take] at e1
        omega
      · rw [nx, List.map_append]
        rfl
    | false =>
      rw [q] at q3 nx
      have q3 : backE e' e2 vs = e' := q3
      show backE e' e2 vs = e' ∧ _
      rw [if_neg Bool.false_ne_true, List.append_nil] at nx
      exact ⟨q3, by rw [nx]⟩
  rw [h1, h2, h3, Nat.zero_add, List.take_length]
theorem law_end {F : En → Option (Rx × En)} (h : ∀ ns : List Int, ns.length ≤ 63 → ∃ us', F [.scr ns] = some (.dat (.bool true), us') ∧ us'.length = 1) {X : Ctx} {H : Hp} {a : Addr} {ns : List Int} (hl : ns.length ≤ 63) (hS : SqL X.K H a (ns.map V.int)) {E : XK} :
    SpX X F [.ref a] H (fun v _ => v = .bl true) E := by
  obtain ⟨us', h1, h2⟩ := h ns hl
  have k0 : Ok X.K (fun _ => none) H [] [] H H := ⟨fun _ => [], ⟨Same.refl H, (fun _ _ e => nomatch e), Same.refl H, (fun _ h => absurd rfl h), rfl, (fun _ _ _ h _ => nomatch h), (fun _ _ h => nomatch h), (fun i w h => nomatch h)⟩⟩
  have k1 := k0.beginS (n := 0) hS
  exact ⟨_, H, H, [.scr ns], .dat (.bool true), us', k1, h1, h2, fun v I' H' _ _ a => a.bl_inv⟩
end PT
namespace PT
open PySem PySem.Spec PyProof.Rows L2 DL
open Classical
noncomputable section
def kb {α β : Type} (k : α → Option β) (o : Option α) : Option β := o.bind k
theorem kb_some {α β : Type} {k : α → Option β} {x : α} : kb k (some x) = k x := nr rfl
theorem kb_none {α β : Type} {k : α → Option β} : kb k none = none := nr rfl
def km {α : Type} (e : En) (o : Option α) : Option (α × En) := o.map fun d => (d, e)
theorem km_some {α : Type} {e : En} {d : α} : km e (some d) = some (d, e) := nr rfl
def kml (e : En) (o : Option (List PyData)) : Option (Ow × En) := o.map fun d => (.lst d, e)
theorem kml_some {e : En} {d : List PyData} : kml e (some d) = some (.lst d, e) := nr rfl
abbrev FE := En → Option (PyData × En)
abbrev FX := En → Option (Ad × En)
abbrev FG := En → Option (Ow × En)
abbrev FB := En → Option (Bool × En)
abbrev FR := En → Option (Rx × En)
abbrev FD := En → Option (List PyData × En)
abbrev FA_ := En → Option (List Ad × En)
abbrev FO := En → Option (Option Int × En)
abbrev FS := En → Option Out
section
variable {e : En} {f g h : FE} {fx gx hx : FX} {fl gl : FG} {fb gb : FB} {fr : FR} {fd fi : FD} {fa : FA_} {fo go : FO} {s t : FS} {i j k n m : Nat} {x y : PyData} {ds xs : List PyData} {a b : Ad} {as : List Ad} {w : Ow} {us us' : En} {F : FR} {o o' : En → Ad → Ad → Option PyData} {om : List PyData → List PyData → Option (PyData × List PyData)} {hh : PyData → En → Option En} {cc : FB} {vs : List Nat} {n1 n2 n3 n4 sn : S} {f1 f2 f3 f4 : FE} {x1 x2 x3 x4 : PyData}
def kxD : PyData × En → Option (Ad × En) := fun y => some (.d y.1, y.2)
theorem v_xD : xD f e = kb kxD (f e) := by unfold xD kb; cases f e <;> rfl
theorem k_xD : kxD (x, e) = some (.d x, e) := nr rfl
def kgX : Ad × En → Option (PyData × En) := fun y => match y.1 with | .d x => some (x, y.2) | .s i => frzE y.2 i
theorem v_gX : gX fx e = kb kgX (fx e) := nr rfl
theorem k_gXd : kgX (.d x, e) = some (x, e) := nr rfl
theorem k_gXs : kgX (.s i, e) = frzE e i := nr rfl
def kgG : Ow × En → Option (PyData × En) := fun y => km y.2 y.1.toD
theorem v_gG : gG fl e = kb kgG (fl e) := nr rfl
theorem k_gG : kgG (w, e) = km e w.toD := nr rfl
def kgR : Rx × En → Option (PyData × En) := fun y => match y.1 with | .dat d => some (d, y.2) | .own t => km y.2 t.toD
theorem v_gR : gR fr e = kb kgR (fr e) := by unfold gR kb kgR; congr 1
theorem k_gRd : kgR (.dat x, e) = some (x, e) := nr rfl
theorem k_gRo : kgR (.own w, e) = km e w.toD := nr rfl
def klR : Rx × En → Option (Ow × En) := fun y => match y.1 with | .own t => some (t, y.2) | _ => none
theorem v_lR : lR fr e = kb klR (fr e) := nr rfl
theorem k_lRo : klR (.own w, e) = some (w, e) := nr rfl
def kBin2 (o : En → Ad → Ad → Option PyData) (a : Ad) : Ad × En → Option (PyData × En) := fun y => km y.2 (o y.2 a y.1)
def kBin1 (o : En → Ad → Ad → Option PyData) (g : FX) : Ad × En → Option (PyData × En) := fun y => kb (kBin2 o y.1) (g y.2)
theorem v_gBin {o : En → Ad → Ad → Option PyData} : gBin o fx gx e = kb (kBin1 o gx) (fx e) := nr rfl
theorem k_bin1 {o : En → Ad → Ad → Option PyData} : kBin1 o gx (a, e) = kb (kBin2 o a) (gx e) := nr rfl
theorem k_bin2 {o : En → Ad → Ad → Option PyData} : kBin2 o a (b, e) = km e (o e a b) := nr rfl
def klB2 (o : En → Ad → Ad → Option (List PyData)) (a : Ad) : Ad × En → Option (Ow × En) := fun y => kml y.2 (o y.2 a y.1)
def klB1 (o : En → Ad → Ad → Option (List PyData)) (g : FX) : Ad × En → Option (Ow × En) := fun y => kb (klB2 o y.1) (g y.2)
theorem v_lBin {o : En → Ad → Ad → Option (List PyData)} : lBin o fx gx e = kb (klB1 o gx) (fx e) := nr rfl
theorem k_lb1 {o : En → Ad → Ad → Option (List PyData)} : klB1 o gx (a, e) = kb (klB2 o a) (gx e) := nr rfl
theorem k_lb2 {o : En → Ad → Ad → Option (List PyData)} : klB2 o a (b, e) = kml e (o e a b) := nr rfl
def kUn (u : PyData → Option PyData) : PyData × En → Option (PyData × En) := fun y => km y.2 (u y.1)
theorem v_gUn {u : PyData → Option PyData} : gUn u f e = kb (kUn u) (f e) := nr rfl
theorem k_un {u : PyData → Option PyData} : kUn u (x, e) = km e (u x) := nr rfl
theorem u_negI {i : Int} : uNeg (.int i) = some (.int (-i)) := nr rfl
def kbT : PyData × En → Option (Bool × En) := fun y => match y.1 with | .bool b => some (b, y.2) | _ => none
theorem v_bT : bT f e = kb kbT (f e) := nr rfl
theorem k_bT {b : Bool} : kbT (.bool b, e) = some (b, e) := nr rfl
def kbNot : Bool × En → Option (Bool × En) := fun y => some (!y.1, y.2)
theorem v_bNot : bNot fb e = kb kbNot (fb e) := by unfold bNot kb; cases fb e <;> rfl
theorem k_bNot {b : Bool} : kbNot (b, e) = some (!b, e) := nr rfl
def kAnd (g : FB) : Bool × En → Option (Bool × En) := fun y => if y.1 = true then g y.2 else some (false, y.2)
theorem v_bAnd : bAnd fb gb e = kb (kAnd gb) (fb e) := nr rfl
theorem k_andT : kAnd gb (true, e) = gb e := nr rfl
theorem k_andF : kAnd gb (false, e) = some (false, e) := nr rfl
def kOr (g : FB) : Bool × En → Option (Bool × En) := fun y => if y.1 = true then some (true, y.2) else g y.2
theorem v_bOr : bOr fb gb e = kb (kOr gb) (fb e) := nr rfl
theorem k_orT : kOr gb (true, e) = some (true, e) := nr rfl
theorem k_orF : kOr gb (false, e) = gb e := nr rfl
def kTru : Ad × En → Option (Bool × En) := fun y => km y.2 (y.1.tru y.2)
theorem v_bTru : bTru fx e = kb kTru (fx e) := nr rfl
theorem k_tru : kTru (a, e) = km e (a.tru e) := nr rfl
def kIf (f g : FE) : Bool × En → Option (PyData × En) := fun y => if y.1 = true then f y.2 else g y.2
theorem v_gIf : gIf fb f g e = kb (kIf f g) (fb e) := nr rfl
theorem k_ifT : kIf f g (true, e) = f e := nr rfl
theorem k_ifF : kIf f g (false, e) = g e := nr rfl
def klIf (f g : FG) : Bool × En → Option (Ow × En) := fun y => if y.1 = true then f y.2 else g y.2
theorem v_lIf : lIf fb fl gl e = kb (klIf fl gl) (fb e) := nr rfl
theorem k_lifT : klIf fl gl (true, e) = fl e := nr rfl
theorem k_lifF : klIf fl gl (false, e) = gl e := nr rfl
def kgAnd (g : FE) : PyData × En → Option (PyData × En) := fun y => match y.1 with | .bool true => g y.2 | .bool false => some (.bool false, y.2) | _ => none
theorem v_gAnd : gAnd f g e = kb (kgAnd g) (f e) := nr rfl
theorem k_gAndT : kgAnd g (.bool true, e) = g e := nr rfl
theorem k_gAndF : kgAnd g (.bool false, e) = some (.bool false, e) := nr rfl
def kgOr (g : FE) : PyData × En → Option (PyData × En) := fun y => match y.1 with | .bool true => some (.bool true, y.2) | .bool false => g y.2 | _ => none
theorem v_gOr : gOr f g e = kb (kgOr g) (f e) := nr rfl
theorem k_gOrT : kgOr g (.bool true, e) = some (.bool true, e) := nr rfl
theorem k_gOrF : kgOr g (.bool false, e) = g e := nr rfl
def kgNot : PyData × En → Option (PyData × En) := fun y => match y.1 with | .bool b => some (.bool (!b), y.2) | _ => none
theorem v_gNot : gNot f e = kb kgNot (f e) := nr rfl
theorem k_gNot {b : Bool} : kgNot (.bool b, e) = some (.bool (!b), e) := nr rfl
def kCh4 (o : En → Ad → Ad → Option PyData) (b : Ad) : Ad × En → Option (PyData × En) := fun w => km w.2 (o w.2 b w.1)
def kCh3 (o : En → Ad → Ad → Option PyData) (h : FX) (b : Ad) (e : En) : PyData → Option (PyData × En) := fun x => match x with | .bool true => kb (kCh4 o b) (h e) | .bool false => some (.bool false, e) | _ => none
def kCh2 (o o' : En → Ad → Ad → Option PyData) (h : FX) (a : Ad) : Ad × En → Option (PyData × En) := fun y => kb (kCh3 o' h y.1 y.2) (o y.2 a y.1)
def kCh1 (o o' : En → Ad → Ad → Option PyData) (g h : FX) : Ad × En → Option (PyData × En) := fun y => kb (kCh2 o o' h y.1) (g y.2)
theorem v_gCh  : gChain o o' fx gx hx e = kb (kCh1 o o' gx hx) (fx e) := by
  unfold gChain kb kCh1 kCh2
  congr 1
theorem k_ch1  : kCh1 o o' gx hx (a, e) = kb (kCh2 o o' hx a) (gx e) := nr rfl
theorem k_ch2  : kCh2 o o' hx a (b, e) = kb (kCh3 o' hx b e) (o e a b) := nr rfl
theorem k_ch3T  : kCh3 o hx b e (.bool true) = kb (kCh4 o b) (hx e) := nr rfl
theorem k_ch3F  : kCh3 o hx b e (.bool false) = some (.bool false, e) := nr rfl
theorem k_ch4  : kCh4 o b (a, e) = km e (o e b a) := nr rfl
def kdC2 (x : PyData) : List PyData × En → Option (List PyData × En) := fun w => some (x :: w.1, w.2)
def kdC (g : FD) : PyData × En → Option (List PyData × En) := fun y => kb (kdC2 y.1) (g y.2)
theorem v_dN : dNil e = some ([], e) := nr rfl
theorem v_dC : dCons f fd e = kb (kdC fd) (f e) := by
  unfold dCons kb kdC
  congr 1
  funext y
  show Option.map _ _ = kb _ _
  unfold kb
  cases fd y.2 <;> rfl
theorem k_dC : kdC fd (x, e) = kb (kdC2 x) (fd e) := nr rfl
theorem k_dC2 : kdC2 x (ds, e) = some (x :: ds, e) := nr rfl
def kaC2 (x : Ad) : List Ad × En → Option (List Ad × En) := fun w => some (x :: w.1, w.2)
def kaC (g : FA_) : Ad × En → Option (List Ad × En) := fun y => kb (kaC2 y.1) (g y.2)
theorem v_aN : aNil e = some ([], e) := nr rfl
theorem v_aC : aCons fx fa e = kb (kaC fa) (fx e) := by
  unfold aCons kb kaC
  congr 1
  funext y
  show Option.map _ _ = kb _ _
  unfold kb
  cases fa y.2 <;> rfl
theorem k_aC : kaC fa (a, e) = kb (kaC2 a) (fa e) := nr rfl
theorem k_aC2 : kaC2 a (as, e) = some (a :: as, e) := nr rfl
def kSw : List Ad × En → Option (List Ad × En) := fun y => match y.1 with | [a, b] => some ([b, a], y.2) | _ => none
theorem v_aSw : aSw fa e = kb kSw (fa e) := nr rfl
theorem k_sw : kSw ([a, b], e) = some ([b, a], e) := nr rfl
def kOne : List Ad × En → Option (List Ad × En) := fun y => match y.1 with | [a] => some ([a], y.2) | _ => none
theorem v_aOne : aOne fa e = kb kOne (fa e) := nr rfl
theorem k_one : kOne ([a], e) = some ([a], e) := nr rfl
def kTup : List PyData × En → Option (PyData × En) := fun y => if y.1.length ≤ sizeLine then some (.tuple y.1, y.2) else none
theorem v_gTup : PT.gTup fd e = kb kTup (fd e) := nr rfl
theorem k_tup : kTup (ds, e) = if ds.length ≤ sizeLine then some (.tuple ds, e) else none := nr rfl
def kLst : List PyData × En → Option (Ow × En) := fun y => if y.1.length ≤ sizeLine then some (.lst y.1, y.2) else none
theorem v_lLst : lLst fd e = kb kLst (fd e) := nr rfl
theorem k_lst : kLst (ds, e) = if ds.length ≤ sizeLine then some (.lst ds, e) else none := nr rfl
def kCb (o : En → List Ad → Option PyData) : List Ad × En → Option (PyData × En) := fun y => km y.2 (o y.2 y.1)
theorem v_gCb {o : En → List Ad → Option PyData} : gCb o fa e = kb (kCb o) (fa e) := nr rfl
theorem k_cb {o : En → List Ad → Option PyData} : kCb o (as, e) = km e (o e as) := nr rfl
def klCb (o : En → List Ad → Option (List PyData)) : List Ad × En → Option (Ow × En) := fun y => kml y.2 (o y.2 y.1)
theorem v_lCb {o : En → List Ad → Option (List PyData)} : lCb o fa e = kb (klCb o) (fa e) := nr rfl
theorem k_lcb {o : En → List Ad → Option (List PyData)} : klCb o (as, e) = kml e (o e as) := nr rfl
def koY : PyData × En → Option (Option Int × En) := fun y => match y.1 with | .int i => some (some i, y.2) | _ => none
theorem v_oN : oNo e = some (none, e) := nr rfl
theorem v_oY : oYes f e = kb koY (f e) := nr rfl
theorem k_oY {i : Int} : koY (.int i, e) = some (some i, e) := nr rfl
def kSl3 (a : Ad) (lo : Option Int) : Option Int × En → Option (Ow × En) := fun w => (a.lst w.2).map fun ds => (.lst (DL.cutD ds lo w.1), w.2)
def kSl2 (a : Ad) (h : FO) : Option Int × En → Option (Ow × En) := fun w => kb (kSl3 a w.1) (h w.2)
def kSl1 (g h : FO) : Ad × En → Option (Ow × En) := fun w => kb (kSl2 w.1 h) (g w.2)
theorem v_lSl : lSl fx fo go e = kb (kSl1 fo go) (fx e) := nr rfl
theorem k_sl1 : kSl1 fo go (a, e) = kb (kSl2 a go) (fo e) := nr rfl
theorem k_sl2 {l : Option Int} : kSl2 a go (l, e) = kb (kSl3 a l) (go e) := nr rfl
theorem k_sl3 {l u : Option Int} : kSl3 a l (u, e) = (a.lst e).map fun ds => (.lst (DL.cutD ds l u), e) := nr rfl
def kRev : Ad × En → Option (Ow × En) := fun w => (w.1.lst w.2).map fun ds => (.lst ds.reverse, w.2)
theorem v_lRev : lRev fx e = kb kRev (fx e) := nr rfl
theorem k_rev : kRev (a, e) = (a.lst e).map fun ds => (.lst ds.reverse, e) := nr rfl
def kSeq (h : FS) : Out → Option Out := fun o => match o with | .nx e1 => h e1 | o => some o
theorem v_sSeq : sSeq s t e = kb (kSeq t) (s e) := nr rfl
theorem k_seqN : kSeq t (.nx e) = t e := nr rfl
theorem k_seqR {r : Rx} : kSeq t (.rt r e) = some (.rt r e) := nr rfl
theorem k_seqB : kSeq t (.bk e) = some (.bk e) := nr rfl
theorem k_seqC : kSeq t (.ct e) = some (.ct e) := nr rfl
theorem v_sN : sNext e = some (.nx e) := nr rfl
theorem v_sB : sBrk e = some (.bk e) := nr rfl
theorem v_sC : sCt e = some (.ct e) := nr rfl
theorem v_sV : sNever e = none := nr rfl
theorem v_sRN : sRetN e = some (.rt (.dat .none) e) := nr rfl
def kSet (i : Nat) : PyData × En → Option Out := fun y => some (.nx (y.2.set i (.dat y.1)))
theorem v_sSet : sSet i f e = kb (kSet i) (f e) := by unfold sSet kb; cases f e <;> rfl
theorem k_set : kSet i (x, e) = some (.nx (e.set i (.dat x))) := nr rfl
def kOwn (i : Nat) : Ow × En → Option Out := fun y => some (.nx (y.2.set i (.own y.1)))
theorem v_sOwn : sOwn i fl e = kb (kOwn i) (fl e) := by unfold sOwn kb; cases fl e <;> rfl
theorem k_own : kOwn i (w, e) = some (.nx (e.set i (.own w))) := nr rfl
def kSetR (i : Nat) : Rx × En → Option Out := fun y => match y.1 with | .dat d => some (.nx (y.2.set i (.dat d))) | .own t => some (.nx (y.2.set i (.own t)))
theorem v_sSetR : sSetR i fr e = kb (kSetR i) (fr e) := by
  unfold sSetR kb
  cases fr e with
  | none => rfl
  | some y =>
    obtain ⟨r, e⟩ := y
    cases r <;> rfl
theorem k_setRd : kSetR i (.dat x, e) = some (.nx (e.set i (.dat x))) := nr rfl
theorem k_setRo : kSetR i (.own w, e) = some (.nx (e.set i (.own w))) := nr rfl
def kNx : En → Option Out := fun e => some (.nx e)
def kAsg (h : PyData → En → Option En) : PyData × En → Option Out := fun y => kb kNx (h y.1 y.2)
theorem v_sAsg {hh : PyData → En → Option En} : sAsg f hh e = kb (kAsg hh) (f e) := by
  unfold sAsg kb kAsg
  congr 1
  funext y
  unfold kb
  cases hh y.1 y.2 <;> rfl
theorem k_asg {hh : PyData → En → Option En} : kAsg hh (x, e) = kb kNx (hh x e) := nr rfl
theorem k_nx : kNx e = some (.nx e) := nr rfl
def kDrop : PyData × En → Option Out := fun y => some (.nx y.2)
theorem v_sDrop : sDrop f e = kb kDrop (f e) := by unfold sDrop kb; cases f e <;> rfl
theorem k_drop : kDrop (x, e) = some (.nx e) := nr rfl
def kDropR : Rx × En → Option Out := fun y => some (.nx y.2)
theorem v_sDropR : sDropR fr e = kb kDropR (fr e) := by unfold sDropR kb; cases fr e <;> rfl
theorem k_dropR {r : Rx} : kDropR (r, e) = some (.nx e) := nr rfl
def kRet : PyData × En → Option Out := fun y => some (.rt (.dat y.1) y.2)
theorem v_sRet : sRet f e = kb kRet (f e) := by unfold sRet kb; cases f e <;> rfl
theorem k_ret : kRet (x, e) = some (.rt (.dat x) e) := nr rfl
def kRetG : Ow × En → Option Out := fun y => some (.rt (.own y.1) y.2)
theorem v_sRetG : sRetG fl e = kb kRetG (fl e) := by unfold sRetG kb; cases fl e <;> rfl
theorem k_retG : kRetG (w, e) = some (.rt (.own w) e) := nr rfl
def kRetR : Rx × En → Option Out := fun y => some (.rt y.1 y.2)
theorem v_sRetR : sRetR fr e = kb kRetR (fr e) := by unfold sRetR kb; cases fr e <;> rfl
theorem k_retR {r : Rx} : kRetR (r, e) = some (.rt r e) := nr rfl
def kRetV (i : Nat) (e : En) : Sx → Option Out := fun x => match x with | .dat d => some (.rt (.dat d) e) | .own t => some (.rt (.own t) (e.set i .un)) | _ => none
theorem v_sRetV : sRetV i e = kb (kRetV i e) e[i]? := by
  unfold sRetV kb
  cases e[i]? with
  | none => rfl
  | some x => cases x <;> rfl
theorem k_retVd : kRetV i e (.dat x) = some (.rt (.dat x) e) := nr rfl
theorem k_retVo : kRetV i e (.own w) = some (.rt (.own w) (e.set i .un)) := nr rfl
def ksIf (g h : FS) : Bool × En → Option Out := fun y => if y.1 = true then g y.2 else h y.2
theorem v_sIf : sIf fb s t e = kb (ksIf s t) (fb e) := nr rfl
theorem k_sifT : ksIf s t (true, e) = s e := nr rfl
theorem k_sifF : ksIf s t (false, e) = t e := nr rfl
def kAug2 (i : Nat) (f : Int → Int → Int) (a : Int) : PyData × En → Option Out := fun y => match y.1 with | .int b => some (.nx (y.2.set i (.dat (.int (f a b))))) | _ => none
def kAug1 (i : Nat) (f : Int → Int → Int) (g : FE) (e : En) : Sx → Option Out := fun x => match x with | .dat (.int a) => kb (kAug2 i f a) (g e) | _ => none
theorem v_sAug {ff : Int → Int → Int} : sAug i ff g e = kb (kAug1 i ff g e) e[i]? := by
  unfold sAug kb
  cases e[i]? with
  | none => rfl
  | some x =>
    cases x with
    | dat d => cases d <;> rfl
    | _ => rfl
theorem k_aug1 {ff : Int → Int → Int} {a : Int} : kAug1 i ff g e (.dat (.int a)) = kb (kAug2 i ff a) (g e) := nr rfl
theorem k_aug2 {ff : Int → Int → Int} {a b : Int} : kAug2 i ff a (.int b, e) = some (.nx (e.set i (.dat (.int (ff a b))))) := nr rfl
def kPar (i j : Nat) : List PyData × En → Option Out := fun y => match y.1 with | [a, b] => some (.nx ((y.2.set i (.dat a)).set j (.dat b))) | _ => none
theorem v_sPar : sPar i j fd e = kb (kPar i j) (fd e) := nr rfl
theorem k_par : kPar i j ([x, y], e) = some (.nx ((e.set i (.dat x)).set j (.dat y))) := nr rfl
theorem v_hName : hName i x e = some (e.set i (.dat x)) := nr rfl
theorem v_hNil : hNil [] e = some e := nr rfl
theorem v_hCons {hh : PyData → En → Option En} {hs : List PyData → En → Option En} : hCons hh hs (x :: ds) e = kb (hs ds) (hh x e) := nr rfl
theorem v_hTup {hs : List PyData → En → Option En} : hTup n hs (.tuple ds) e = if ds.length = n then hs ds e else none := nr rfl
def kSub3 (i : Nat) (x : PyData) (e : En) (j : Int) : List PyData → Option En := fun ds => (ixN ds.length j).map fun n => PT.putAt e i [] (.lst (ds.set n x))
def kSub2 (i : Nat) (x : PyData) : PyData × En → Option En := fun y => match y.1 with | .int j => kb (kSub3 i x y.2 j) (lstAt y.2 i []) | _ => none
def kSub1 (i : Nat) (f : FE) (x : PyData) (e : En) : List PyData → Option En := fun _ => kb (kSub2 i x) (f e)
theorem v_hSub : hSub i f x e = kb (kSub1 i f x e) (lstAt e i []) := nr rfl
theorem k_sub1 : kSub1 i f x e ds = kb (kSub2 i x) (f e) := nr rfl
theorem k_sub2 {j : Int} : kSub2 i x (.int j, e) = kb (kSub3 i x e j) (lstAt e i []) := nr rfl
theorem k_sub3 {j : Int} : kSub3 i x e j ds = (ixN ds.length j).map fun n => PT.putAt e i [] (.lst (ds.set n x)) := nr rfl
def kFor (h : PyData → En → Option En) (g : FS) : List PyData × En → Option Out := fun y => forL h g y.1 y.2
theorem v_sFor {hh : PyData → En → Option En} : sFor fi hh s e = kb (kFor hh s) (fi e) := nr rfl
theorem k_for {hh : PyData → En → Option En} : kFor hh s (ds, e) = forL hh s ds e := nr rfl
def kiL : PyData × En → Option (List PyData × En) := fun y => match y.1 with | .list ds => some (ds, y.2) | _ => none
theorem v_iLst : iLst f e = kb kiL (f e) := nr rfl
theorem k_iL : kiL (.list ds, e) = some (ds, e) := nr rfl
def kiT : PyData × En → Option (List PyData × En) := fun y => match y.1 with | .tuple ds => some (ds, y.2) | _ => none
theorem v_iTup : iTupF f e = kb kiT (f e) := nr rfl
theorem k_iT : kiT (.tuple ds, e) = some (ds, e) := nr rfl
def kiR1 : List PyData × En → Option (List PyData × En) := fun y => match y.1 with | [.int j] => if -(2 ^ 62) ≤ j ∧ j < 2 ^ 62 then some (rangeD 0 j.toNat, y.2) else none | _ => none
theorem v_iRg1 : iRg1 fd e = kb kiR1 (fd e) := nr rfl
theorem k_iR1 {j : Int} : kiR1 ([.int j], e) = if -(2 ^ 62) ≤ j ∧ j < 2 ^ 62 then some (rangeD 0 j.toNat, e) else none := nr rfl
def kiR2 : List PyData × En → Option (List PyData × En) := fun y => match y.1 with | [.int i, .int j] => if -(2 ^ 62) ≤ i ∧ i < 2 ^ 62 ∧ -(2 ^ 62) ≤ j ∧ j < 2 ^ 62 then some (rangeD i (j - i).toNat, y.2) else none | _ => none
theorem v_iRg2 : iRg2 fd e = kb kiR2 (fd e) := nr rfl
theorem k_iR2 {i j : Int} : kiR2 ([.int i, .int j], e) = if -(2 ^ 62) ≤ i ∧ i < 2 ^ 62 ∧ -(2 ^ 62) ≤ j ∧ j < 2 ^ 62 then some (rangeD i (j - i).toNat, e) else none := nr rfl
def kiE : List PyData × En → Option (List PyData × En) := fun y => match y.1 with | [.list ds] => some (enumD ds, y.2) | _ => none
theorem v_iEn : iEnumF fd e = kb kiE (fd e) := nr rfl
theorem k_iE : kiE ([.list ds], e) = some (enumD ds, e) := nr rfl
def kLc (h : PyData → En → Option En) (c : FB) (f : FE) (vs : List Nat) : List PyData × En → Option (Ow × En) := fun y => (lcL h c f vs y.1 [] y.2).map fun w => (.lst w.1, w.2)
theorem v_lLc  : lLc fi hh cc f vs e = kb (kLc hh cc f vs) (fi e) := nr rfl
theorem k_lc  : kLc hh cc f vs (ds, e) = (lcL hh cc f vs ds [] e).map fun w => (.lst w.1, w.2) := nr rfl
def kCl3 (as : List Ad) (e0 e2 : En) (n : Nat) : Rx × En → Option (Rx × En) := fun r => if r.2.length = n then some (r.1, homeE e0 as r.2 e2) else none
def kCl2 (F : FR) (as : List Ad) (e0 : En) : En × En → Option (Rx × En) := fun w => kb (kCl3 as e0 w.2 w.1.length) (F w.1)
def kCl1 (F : FR) : List Ad × En → Option (Rx × En) := fun y => kb (kCl2 F y.1 y.2) (lentE y.1 y.2)
theorem v_rCall : rCall F fa e = kb (kCl1 F) (fa e) := nr rfl
theorem k_cl1 : kCl1 F (as, e) = kb (kCl2 F as e) (lentE as e) := nr rfl
theorem k_cl2 {e2 : En} : kCl2 F as e (us, e2) = kb (kCl3 as e e2 us.length) (F us) := nr rfl
theorem k_cl3 {e2 : En} {r : Rx} : kCl3 as e e2 n (r, us') = if us'.length = n then some (r, homeE e as us' e2) else none := nr rfl
def kLm3 (i : Nat) (o : List PyData → List PyData → Option (PyData × List PyData)) (as : List PyData) (e : En) : List PyData → Option (PyData × En) := fun ds => (o ds as).map fun w => (w.1, PT.putAt e i [] (.lst w.2))
def kLm2 (i : Nat) (o : List PyData → List PyData → Option (PyData × List PyData)) : List PyData × En → Option (PyData × En) := fun y => kb (kLm3 i o y.1 y.2) (lstAt y.2 i [])
def kLm1 (i : Nat) (o : List PyData → List PyData → Option (PyData × List PyData)) (f : FD) (e : En) : List PyData → Option (PyData × En) := fun _ => kb (kLm2 i o) (f e)
theorem v_gLm  : gLm i om fd e = kb (kLm1 i om fd e) (lstAt e i []) := nr rfl
theorem k_lm1  : kLm1 i om fd e ds = kb (kLm2 i om) (fd e) := nr rfl
theorem k_lm2  : kLm2 i om (xs, e) = kb (kLm3 i om xs e) (lstAt e i []) := nr rfl
theorem k_lm3  : kLm3 i om xs e ds = (om ds xs).map fun w => (w.1, PT.putAt e i [] (.lst w.2)) := nr rfl
def kRun (m : Nat) : Out → Option (Rx × En) := fun o => match o with | .rt r e => some (r, postz 0 m e) | .nx e => some (.dat .none, postz 0 m e) | _ => none
theorem v_run : runF m n s us = if us.length = m then kb (kRun m) (s (parz 0 us ++ List.replicate n .un)) else none := nr rfl
theorem k_runR {r : Rx} : kRun m (.rt r e) = some (r, postz 0 m e) := nr rfl
theorem k_runN : kRun m (.nx e) = some (.dat .none, postz 0 m e) := nr rfl
def kLent (i : Nat) (as : List Ad) (e : En) : Sx → Option (En × En) := fun x => match x with | .own t => (lentE as (e.set i .un)).map fun y => (.own t :: y.1, y.2) | .par _ t => (lentE as (e.set i .un)).map fun y => (.own t :: y.1, y.2) | .scr ns => (lentE as e).map fun y => (.scr ns :: y.1, y.2) | _ => none
theorem v_len0 : lentE [] e = some ([], e) := nr rfl
theorem v_lenD : lentE (.d x :: as) e = (lentE as e).map fun y => (.dat x :: y.1, y.2) := nr rfl
theorem v_lenS : lentE (.s i :: as) e = kb (kLent i as e) e[i]? := by
  unfold kb
  show (match e[i]? with | some (.own t) => (lentE as (e.set i .un)).map (fun y : En × En => (Sx.own t :: y.1, y.2)) | some (.par _ t) => (lentE as (e.set i .un)).map (fun y : En × En => (Sx.own t :: y.1, y.2)) | some (.scr ns) => (lentE as e).map (fun y : En × En => (Sx.scr ns :: y.1, y.2)) | _ => none) = _
  cases e[i]? with
  | none => rfl
  | some x => cases x <;> rfl
theorem k_lenO : kLent i as e (.own w) = (lentE as (e.set i .un)).map fun y => (.own w :: y.1, y.2) := nr rfl
theorem k_lenP : kLent i as e (.par k w) = (lentE as (e.set i .un)).map fun y => (.own w :: y.1, y.2) := nr rfl
theorem k_lenC {ns : List Int} : kLent i as e (.scr ns) = (lentE as e).map fun y => (.scr ns :: y.1, y.2) := nr rfl
def kVar (i : Nat) (e : En) : Sx → Option (Ad × En) := fun x => match x with | .dat d => some (.d d, e) | .own (.leaf d) => some (.d d, e) | .par _ (.leaf d) => some (.d d, e) | .own _ => some (.s i, e) | .par _ _ => some (.s i, e) | .scr _ => some (.s i, e) | .un => none
theorem v_xVar : xVar i e = kb (kVar i e) e[i]? := by
  unfold xVar kb
  cases e[i]? with
  | none => rfl
  | some x =>
    cases x with
    | own t => cases t <;> rfl
    | par _ t => cases t <;> rfl
    | _ => rfl
theorem k_varD : kVar i e (.dat x) = some (.d x, e) := nr rfl
theorem k_varOf : kVar i e (.own (.leaf x)) = some (.d x, e) := nr rfl
theorem k_varPf : kVar i e (.par k (.leaf x)) = some (.d x, e) := nr rfl
theorem k_varOl : kVar i e (.own (.lst ds)) = some (.s i, e) := nr rfl
theorem k_varPl : kVar i e (.par k (.lst ds)) = some (.s i, e) := nr rfl
theorem k_varC {ns : List Int} : kVar i e (.scr ns) = some (.s i, e) := nr rfl
theorem k_varOi {ts : List Ow} : kVar i e (.own (.list ts)) = some (.s i, e) := nr rfl
theorem k_varPi {ts : List Ow} : kVar i e (.par k (.list ts)) = some (.s i, e) := nr rfl
theorem k_varOo {c : Nat} {ks : List S} {ts : List Ow} : kVar i e (.own (.obj c ks ts)) = some (.s i, e) := nr rfl
theorem k_varPo {c : Nat} {ks : List S} {ts : List Ow} : kVar i e (.par k (.obj c ks ts)) = some (.s i, e) := nr rfl
def kFrz (e : En) (i : Nat) : Sx → Option (PyData × En) := fun x => match x with | .own t => t.toD.map fun d => (d, e.set i (.dat d)) | .par k t => t.toD.map fun d => (d, e.set i (.par k (.leaf d))) | _ => none
theorem v_frz : frzE e i = kb (kFrz e i) e[i]? := by
  unfold frzE kb
  cases e[i]? with
  | none => rfl
  | some x => cases x <;> rfl
theorem k_frzO : kFrz e i (.own w) = w.toD.map fun d => (d, e.set i (.dat d)) := nr rfl
theorem k_frzP : kFrz e i (.par k w) = w.toD.map fun d => (d, e.set i (.par k (.leaf d))) := nr rfl
def kAt : Sx → Option (List PyData) := fun x => match x with | .own (.lst ds) => some ds | .par _ (.lst ds) => some ds | _ => none
theorem v_lstAt : lstAt e i [] = kb kAt e[i]? := by
  unfold lstAt kb
  cases e[i]? with
  | none => rfl
  | some x =>
    cases x with
    | own t => cases t <;> rfl
    | par _ t => cases t <;> rfl
    | _ => rfl
theorem k_atO : kAt (.own (.lst ds)) = some ds := nr rfl
theorem k_atP : kAt (.par k (.lst ds)) = some ds := nr rfl
def kPut (e : En) (i : Nat) (w : Ow) : Sx → Option En := fun x => match x with | .own _ => some (e.set i (.own w)) | .par k _ => some (e.set i (.par k w)) | _ => some e
theorem v_putAt : PT.putAt e i [] w = ((kb (kPut e i w) e[i]?).getD e) := by
  unfold PT.putAt kb
  cases e[i]? with
  | none => rfl
  | some x => cases x <;> rfl
theorem k_putO {w2 : Ow} : kPut e i w (.own w2) = some (e.set i (.own w)) := nr rfl
theorem k_putP {w2 : Ow} : kPut e i w (.par k w2) = some (e.set i (.par k w)) := nr rfl
def kLstX : Sx → Option (List PyData) := fun x => match x with | .own (.lst ds) => some ds | .par _ (.lst ds) => some ds | .scr ns => some (ns.map .int) | _ => none
theorem v_lstS : Ad.lst e (.s i) = kb kLstX e[i]? := by
  unfold kb
  show (match e[i]? with | some (.own (.lst ds)) => some ds | some (.par _ (.lst ds)) => some ds | some (.scr ns) => some (ns.map .int) | _ => none) = _
  cases e[i]? with
  | none => rfl
  | some x =>
    cases x with
    | own t => cases t <;> rfl
    | par _ t => cases t <;> rfl
    | _ => rfl
theorem k_lsO : kLstX (.own (.lst ds)) = some ds := nr rfl
theorem k_lsP : kLstX (.par k (.lst ds)) = some ds := nr rfl
theorem k_lsC {ns : List Int} : kLstX (.scr ns) = some (ns.map .int) := nr rfl
theorem v_lstHS : Ad.lstH e (.s i) = kb kAt e[i]? := by
  unfold kb
  show (match e[i]? with | some (.own (.lst ds)) => some ds | some (.par _ (.lst ds)) => some ds | _ => none) = _
  cases e[i]? with
  | none => rfl
  | some x =>
    cases x with
    | own t => cases t <;> rfl
    | par _ t => cases t <;> rfl
    | _ => rfl
def kVal : Sx → Option PyData := fun x => match x with | .own t => t.toD | .par _ t => t.toD | _ => none
theorem v_valS : Ad.val e (.s i) = kb kVal e[i]? := by
  unfold kb
  show (e[i]?).bind (fun x => x.tree.bind Ow.toD) = _
  cases e[i]? with
  | none => rfl
  | some x => cases x <;> rfl
theorem k_valO : kVal (.own w) = w.toD := nr rfl
theorem k_valP : kVal (.par k w) = w.toD := nr rfl
def kHome (i : Nat) (u : Sx) (e : En) : Sx → Option En := fun x => match x, u with | .own _, .own t => some (e.set i (.own t)) | .par k _, .own t => some (e.set i (.par k t)) | _, _ => some e
theorem v_homN {e0 : En} : homeE e0 [] us e = e := by cases us <;> rfl
theorem v_homD {e0 : En} {u : Sx} : homeE e0 (.d x :: as) (u :: us) e = homeE e0 as us e := nr rfl
theorem v_homS {e0 : En} {u : Sx} : homeE e0 (.s i :: as) (u :: us) e = homeE e0 as us ((kb (kHome i u e) e0[i]?).getD e) := by
  show homeE e0 as us _ = _
  congr 1
  unfold kb
  cases e0[i]? with
  | none => rfl
  | some x => cases x <;> cases u <;> rfl
theorem k_homO {t t2 : Ow} : kHome i (.own t) e (.own t2) = some (e.set i (.own t)) := nr rfl
theorem k_homP {t t2 : Ow} : kHome i (.own t) e (.par k t2) = some (e.set i (.par k t)) := nr rfl
theorem k_homC {u : Sx} {ns : List Int} : kHome i u e (.scr ns) = some e := nr rfl
theorem k_homU {x : Sx} : kHome i .un e x = some e := by cases x <;> rfl
def kP5 (a b c d : S) (x1 x2 x3 x4 : PyData) : PyData × En → Option (PyData × En) := fun y => match y.1 with | .str s => km y.2 (pick4 a b c d s x1 x2 x3 x4) | _ => none
def kP4 (a b c d : S) (x1 x2 x3 : PyData) (f : FE) : PyData × En → Option (PyData × En) := fun y => kb (kP5 a b c d x1 x2 x3 y.1) (f y.2)
def kP3 (a b c d : S) (x1 x2 : PyData) (f4 f : FE) : PyData × En → Option (PyData × En) := fun y => kb (kP4 a b c d x1 x2 y.1 f) (f4 y.2)
def kP2 (a b c d : S) (x1 : PyData) (f3 f4 f : FE) : PyData × En → Option (PyData × En) := fun y => kb (kP3 a b c d x1 y.1 f4 f) (f3 y.2)
def kP1 (a b c d : S) (f2 f3 f4 f : FE) : PyData × En → Option (PyData × En) := fun y => kb (kP2 a b c d y.1 f3 f4 f) (f2 y.2)
theorem v_p4  : gPick4 n1 n2 n3 n4 f1 f2 f3 f4 f e = kb (kP1 n1 n2 n3 n4 f2 f3 f4 f) (f1 e) := nr rfl
theorem k_p1  : kP1 n1 n2 n3 n4 f2 f3 f4 f (x1, e) = kb (kP2 n1 n2 n3 n4 x1 f3 f4 f) (f2 e) := nr rfl
theorem k_p2  : kP2 n1 n2 n3 n4 x1 f3 f4 f (x2, e) = kb (kP3 n1 n2 n3 n4 x1 x2 f4 f) (f3 e) := nr rfl
theorem k_p3  : kP3 n1 n2 n3 n4 x1 x2 f4 f (x3, e) = kb (kP4 n1 n2 n3 n4 x1 x2 x3 f) (f4 e) := nr rfl
theorem k_p4  : kP4 n1 n2 n3 n4 x1 x2 x3 f (x4, e) = kb (kP5 n1 n2 n3 n4 x1 x2 x3 x4) (f e) := nr rfl
theorem k_p5  : kP5 n1 n2 n3 n4 x1 x2 x3 x4 (.str sn, e) = km e (pick4 n1 n2 n3 n4 sn x1 x2 x3 x4) := nr rfl
def kEqs (y : PyData) : PyData → Option PyData := fun x => (eqD x y).map .bool
def kEqd (x : PyData) : PyData → Option PyData := fun y => (eqD x y).map .bool
def kEqb (e : En) (j : Nat) : PyData → Option PyData := fun x => kb (kEqd x) (Ad.val e (.s j))
theorem v_Eqs : oEq e (.s i) (.d y) = kb (kEqs y) (Ad.val e (.s i)) := nr rfl
theorem k_Eqs : kEqs y x = (eqD x y).map .bool := nr rfl
theorem v_Eqd : oEq e (.d x) (.s i) = kb (kEqd x) (Ad.val e (.s i)) := nr rfl
theorem k_Eqd : kEqd x y = (eqD x y).map .bool := nr rfl
theorem v_Eqb : oEq e (.s i) (.s j) = kb (kEqb e j) (Ad.val e (.s i)) := nr rfl
theorem k_Eqb : kEqb e j x = kb (kEqd x) (Ad.val e (.s j)) := nr rfl
def kNes (y : PyData) : PyData → Option PyData := fun x => (eqD x y).map (fun c => .bool (!c))
def kNed (x : PyData) : PyData → Option PyData := fun y => (eqD x y).map (fun c => .bool (!c))
def kNeb (e : En) (j : Nat) : PyData → Option PyData := fun x => kb (kNed x) (Ad.val e (.s j))
theorem v_Nes : oNe e (.s i) (.d y) = kb (kNes y) (Ad.val e (.s i)) := nr rfl
theorem k_Nes : kNes y x = (eqD x y).map (fun c => .bool (!c)) := nr rfl
theorem v_Ned : oNe e (.d x) (.s i) = kb (kNed x) (Ad.val e (.s i)) := nr rfl
theorem k_Ned : kNed x y = (eqD x y).map (fun c => .bool (!c)) := nr rfl
theorem v_Neb : oNe e (.s i) (.s j) = kb (kNeb e j) (Ad.val e (.s i)) := nr rfl
theorem k_Neb : kNeb e j x = kb (kNed x) (Ad.val e (.s j)) := nr rfl
def kSS2 (e : En) : List PyData → Option (Ow × En) := fun ds => (strsOf ds).bind fun xs => if xs.length + 1 < scanBound then some (.lst ((MM.srt xs).map .str), e) else none
def kSS : Ad × En → Option (Ow × En) := fun y => kb (kSS2 y.2) (y.1.lst y.2)
theorem v_ss : lSortSet fx e = kb kSS (fx e) := nr rfl
theorem k_ss : kSS (a, e) = kb (kSS2 e) (a.lst e) := nr rfl
theorem k_ss2 {zs : List S} (hz : zs.length + 1 < scanBound) : kSS2 e (zs.map .str) = some (.lst ((MM.srt zs).map .str), e) := by
  unfold kSS2
  rw [strsOf_map]
  exact if_pos hz
end
end
end PT
namespace PT
open PySem PySem.Spec PyProof.Rows L2 DL
theorem nm_head_tail : (("head" : PySem.Str) = "tail") = False := by simp only [eq_iff_iff, iff_false]; decide
theorem nm_head_skip : (("head" : PySem.Str) = "skip") = False := by simp only [eq_iff_iff, iff_false]; decide
theorem nm_head_chop : (("head" : PySem.Str) = "chop") = False := by simp only [eq_iff_iff, iff_false]; decide
theorem nm_head_reverse : (("head" : PySem.Str) = "reverse") = False := by simp only [eq_iff_iff, iff_false]; decide
theorem nm_head_uniq : (("head" : PySem.Str) = "uniq") = False := by simp only [eq_iff_iff, iff_false]; decide
theorem nm_head_sort : (("head" : PySem.Str) = "sort") = False := by simp only [eq_iff_iff, iff_false]; decide
theorem nmP_head : (("head" : PySem.Str) ∈ (["reverse", "uniq", "sort"] : List PySem.Str)) = False := by simp only [eq_iff_iff, iff_false]; decide
theorem nmS_head : (("head" : PySem.Str) ∈ (["head", "tail", "skip", "chop"] : List PySem.Str)) = True := by simp only [eq_iff_iff, iff_true]; decide
theorem nm_tail_head : (("tail" : PySem.Str) = "head") = False := by simp only [eq_iff_iff, iff_false]; decide
theorem nm_tail_skip : (("tail" : PySem.Str) = "skip") = False := by simp only [eq_iff_iff, iff_false]; decide
theorem nm_tail_chop : (("tail" : PySem.Str) = "chop") = False := by simp only [eq_iff_iff, iff_false]; decide
theorem nm_tail_reverse : (("tail" : PySem.Str) = "reverse") = False := by simp only [eq_iff_iff, iff_false]; decide
theorem nm_tail_uniq : (("tail" : PySem.Str) = "uniq") = False := by simp only [eq_iff_iff, iff_false]; decide
theorem nm_tail_sort : (("tail" : PySem.Str) = "sort") = False := by simp only [eq_iff_iff, iff_false]; decide
theorem nmP_tail : (("tail" : PySem.Str) ∈ (["reverse", "uniq", "sort"] : List PySem.Str)) = False := by simp only [eq_iff_iff, iff_false]; decide
theorem nmS_tail : (("tail" : PySem.Str) ∈ (["head", "tail", "skip", "chop"] : List PySem.Str)) = True := by simp only [eq_iff_iff, iff_true]; decide
theorem nm_skip_head : (("skip" : PySem.Str) = "head") = False := by simp only [eq_iff_iff, iff_false]; decide
theorem nm_skip_tail : (("skip" : PySem.Str) = "tail") = False := by simp only [eq_iff_iff, iff_false]; decide
theorem nm_skip_chop : (("skip" : PySem.Str) = "chop") = False := by simp only [eq_iff_iff, iff_false]; decide
theorem nm_skip_reverse : (("skip" : PySem.Str) = "reverse") = False := by simp only [eq_iff_iff, iff_false]; decide
theorem nm_skip_uniq : (("skip" : PySem.Str) = "uniq") = False := by simp only [eq_iff_iff, iff_false]; decide
theorem nm_skip_sort : (("skip" : PySem.Str) = "sort") = False := by simp only [eq_iff_iff, iff_false]; decide
theorem nmP_skip : (("skip" : PySem.Str) ∈ (["reverse", "uniq", "sort"] : List PySem.Str)) = False := by simp only [eq_iff_iff, iff_false]; decide
theorem nmS_skip : (("skip" : PySem.Str) ∈ (["head", "tail", "skip", "chop"] : List PySem.Str)) = True := by simp only [eq_iff_iff, iff_true]; decide
theorem nm_chop_head : (("chop" : PySem.Str) = "head") = False := by simp only [eq_iff_iff, iff_false]; decide
theorem nm_chop_tail : (("chop" : PySem.Str) = "tail") = False := by simp only [eq_iff_iff, iff_false]; decide
theorem nm_chop_skip : (("chop" : PySem.Str) = "skip") = False := by simp only [eq_iff_iff, iff_false]; decide
theorem nm_chop_reverse : (("chop" : PySem.Str) = "reverse") = False := by simp only [eq_iff_iff, iff_false]; decide
theorem nm_chop_uniq : (("chop" : PySem.Str) = "uniq") = False := by simp only [eq_iff_iff, iff_false]; decide
theorem nm_chop_sort : (("chop" : PySem.Str) = "sort") = False := by simp only [eq_iff_iff, iff_false]; decide
theorem nmP_chop : (("chop" : PySem.Str) ∈ (["reverse", "uniq", "sort"] : List PySem.Str)) = False := by simp only [eq_iff_iff, iff_false]; decide
theorem nmS_chop : (("chop" : PySem.Str) ∈ (["head", "tail", "skip", "chop"] : List PySem.Str)) = True := by simp only [eq_iff_iff, iff_true]; decide
theorem nm_reverse_head : (("reverse" : PySem.Str) = "head") = False := by simp only [eq_iff_iff, iff_false]; decide
theorem nm_reverse_tail : (("reverse" : PySem.Str) = "tail") = False := by simp only [eq_iff_iff, iff_false]; decide
theorem nm_reverse_skip : (("reverse" : PySem.Str) = "skip") = False := by simp only [eq_iff_iff, iff_false]; decide
theorem nm_reverse_chop : (("reverse" : PySem.Str) = "chop") = False := by simp only [eq_iff_iff, iff_false]; decide
theorem nm_reverse_uniq : (("reverse" : PySem.Str) = "uniq") = False := by simp only [eq_iff_iff, iff_false]; decide
theorem nm_reverse_sort : (("reverse" : PySem.Str) = "sort") = False := by simp only [eq_iff_iff, iff_false]; decide
theorem nmP_reverse : (("reverse" : PySem.Str) ∈ (["reverse", "uniq", "sort"] : List PySem.Str)) = True := by simp only [eq_iff_iff, iff_true]; decide
theorem nmS_reverse : (("reverse" : PySem.Str) ∈ (["head", "tail", "skip", "chop"] : List PySem.Str)) = False := by simp only [eq_iff_iff, iff_false]; decide
theorem nm_uniq_head : (("uniq" : PySem.Str) = "head") = False := by simp only [eq_iff_iff, iff_false]; decide
theorem nm_uniq_tail : (("uniq" : PySem.Str) = "tail") = False := by simp only [eq_iff_iff, iff_false]; decide
theorem nm_uniq_skip : (("uniq" : PySem.Str) = "skip") = False := by simp only [eq_iff_iff, iff_false]; decide
theorem nm_uniq_chop : (("uniq" : PySem.Str) = "chop") = False := by simp only [eq_iff_iff, iff_false]; decide
theorem nm_uniq_reverse : (("uniq" : PySem.Str) = "reverse") = False := by simp only [eq_iff_iff, iff_false]; decide
theorem nm_uniq_sort : (("uniq" : PySem.Str) = "sort") = False := by simp only [eq_iff_iff, iff_false]; decide
theorem nmP_uniq : (("uniq" : PySem.Str) ∈ (["reverse", "uniq", "sort"] : List PySem.Str)) = True := by simp only [eq_iff_iff, iff_true]; decide
theorem nmS_uniq : (("uniq" : PySem.Str) ∈ (["head", "tail", "skip", "chop"] : List PySem.Str)) = False := by simp only [eq_iff_iff, iff_false]; decide
theorem nm_sort_head : (("sort" : PySem.Str) = "head") = False := by simp only [eq_iff_iff, iff_false]; decide
theorem nm_sort_tail : (("sort" : PySem.Str) = "tail") = False := by simp only [eq_iff_iff, iff_false]; decide
theorem nm_sort_skip : (("sort" : PySem.Str) = "skip") = False := by simp only [eq_iff_iff, iff_false]; decide
theorem nm_sort_chop : (("sort" : PySem.Str) = "chop") = False := by simp only [eq_iff_iff, iff_false]; decide
theorem nm_sort_reverse : (("sort" : PySem.Str) = "reverse") = False := by simp only [eq_iff_iff, iff_false]; decide
theorem nm_sort_uniq : (("sort" : PySem.Str) = "uniq") = False := by simp only [eq_iff_iff, iff_false]; decide
theorem nmP_sort : (("sort" : PySem.Str) ∈ (["reverse", "uniq", "sort"] : List PySem.Str)) = True := by simp only [eq_iff_iff, iff_true]; decide
theorem nmS_sort : (("sort" : PySem.Str) ∈ (["head", "tail", "skip", "chop"] : List PySem.Str)) = False := by simp only [eq_iff_iff, iff_false]; decide
end PT
namespace PR
open PySem PySem.Spec PyProof.Rows L2 DL PT MM
theorem is_command_ok {c : Cm} (h : c.ok) : F_is_command [.dat c.d] = some (.dat (.bool true), [.un]) := by
  unfold F_is_command g_is_command
  cases c <;> dsimp only [Cm.d] <;> simp only [kb_some, kb_none, km_some, kml_some, v_xD, k_xD, v_gX, k_gXd, k_gXs, v_gG, k_gG, v_gR, k_gRd, k_gRo, v_lR, k_lRo, v_gBin, k_bin1, k_bin2, v_lBin, k_lb1, k_lb2, v_gUn, k_un, u_negI, v_bT, k_bT, v_bNot, k_bNot, v_bAnd, k_andT, k_andF, v_bOr, k_orT, k_orF, v_bTru, k_tru, v_gIf, k_ifT, k_ifF, v_lIf, k_lifT, k_lifF, v_gAnd, k_gAndT, k_gAndF, v_gOr, k_gOrT, k_gOrF, v_gNot, k_gNot, v_gCh, k_ch1, k_ch2, k_ch3T, k_ch3F, k_ch4, v_dN, v_dC, k_dC, k_dC2, v_aN, v_aC, k_aC, k_aC2, v_aSw, k_sw, v_aOne, k_one, v_gTup, k_tup, v_lLst, k_lst, v_gCb, k_cb, v_lCb, k_lcb, v_oN, v_oY, k_oY, v_lSl, k_sl1, k_sl2, k_sl3, v_lRev, k_rev, v_sSeq, k_seqN, k_seqR, k_seqB, k_seqC, v_sN, v_sB, v_sC, v_sV, v_sRN, v_sSet, k_set, v_sOwn, k_own, v_sSetR, k_setRd, k_setRo, v_sAsg, k_asg, k_nx, v_sDrop, k_drop, v_sDropR, k_dropR, v_sRet, k_ret, v_sRetG, k_retG, v_sRetR, k_retR, v_sRetV, k_retVd, k_retVo, v_sIf, k_sifT, k_sifF, v_sAug, k_aug1, k_aug2, v_sPar, k_par, v_hName, v_hNil, v_hCons, v_hTup, v_hSub, k_sub1, k_sub2, k_sub3, v_sFor, k_for, v_iLst, k_iL, v_iTup, k_iT, v_iRg1, k_iR1, v_iRg2, k_iR2, v_iEn, k_iE, v_lLc, k_lc, v_rCall, k_cl1, k_cl2, k_cl3, v_gLm, k_lm1, k_lm2, k_lm3, v_run, k_runR, k_runN, v_len0, v_lenD, v_lenS, k_lenO, k_lenP, k_lenC, v_xVar, k_varD, k_varOf, k_varPf, k_varOl, k_varPl, k_varC, k_varOi, k_varPi, k_varOo, k_varPo, v_frz, k_frzO, k_frzP, v_lstAt, k_atO, k_atP, v_putAt, k_putO, k_putP, v_lstS, k_lsO, k_lsP, k_lsC, v_lstHS, v_valS, k_valO, k_valP, v_homN, v_homD, v_homS, k_homO, k_homP, k_homC, k_homU, v_p4, k_p1, k_p2, k_p3, k_p4, k_p5, v_Eqs, k_Eqs, v_Eqd, k_Eqd, v_Eqb, k_Eqb, v_Nes, k_Nes, v_Ned, k_Ned, v_Neb, k_Neb, v_ss, k_ss,
  oEq_d, oNe_d, eqD_i, eqD_s, oIx_t, oIx_l, oIx_s, oIn_t, oIn_l, oIn_s, lst_d, lstH_d, seq_l, seq_t, seq_s, val_d, toD_lst, toD_leaf, cLen_1, cAbs_1, cMax_2, cMin_2, cInt_b, cInt_i, cList_1, oI0_d, oB0_d, tru_b, tru_l, tru_s, oRep_k, strsOf_map, intsOf_map, inD_strs, inD_2, inD_3, inD_4, atI_0, atI_1, atI_2, atI_3, mApp, gC, bYes, parz, postz,
  Option.bind_some, Option.map_some, Option.getD_some, List.getElem?_cons_zero, List.getElem?_cons_succ, List.set_cons_zero, List.set_cons_succ, List.length_cons, List.length_nil, List.length_set, List.cons_append, List.nil_append, List.replicate_succ, List.replicate_zero, List.length_map, Nat.reduceAdd, Nat.zero_add, Nat.reduceLeDiff, Nat.reduceLT, Nat.reduceEqDiff, sizeLine_eq, Int.cast_ofNat_Int, Int.reduceEq, Int.reduceLT, Int.reduceLE, Int.reduceAdd, Int.reduceSub, Int.reduceMul, Int.reduceNeg, Int.reducePow, Int.reduceToNat, ↓reduceIte, if_true, if_false, decide_true, decide_false, Bool.not_true, Bool.not_false, Bool.true_and, Bool.and_true, Bool.false_and, Bool.false_eq_true, reduceCtorEq, Option.isSome_some,
  nm_head_tail, nm_head_skip, nm_head_chop, nm_head_reverse, nm_head_uniq, nm_head_sort, nmP_head, nmS_head, nm_tail_head, nm_tail_skip, nm_tail_chop, nm_tail_reverse, nm_tail_uniq, nm_tail_sort, nmP_tail, nmS_tail, nm_skip_head, nm_skip_tail, nm_skip_chop, nm_skip_reverse, nm_skip_uniq, nm_skip_sort, nmP_skip, nmS_skip, nm_chop_head, nm_chop_tail, nm_chop_skip, nm_chop_reverse, nm_chop_uniq, nm_chop_sort, nmP_chop, nmS_chop, nm_reverse_head, nm_reverse_tail, nm_reverse_skip, nm_reverse_chop, nm_reverse_uniq, nm_reverse_sort, nmP_reverse, nmS_reverse, nm_uniq_head, nm_uniq_tail, nm_uniq_skip, nm_uniq_chop, nm_uniq_reverse, nm_uniq_sort, nmP_uniq, nmS_uniq, nm_sort_head, nm_sort_tail, nm_sort_skip, nm_sort_chop, nm_sort_reverse, nm_sort_uniq, nmP_sort, nmS_sort, PR.PLAIN_d, PR.SLICING_d] <;> rw [decide_eq_true (by exact h)]
theorem check_pipeline_ok {cs : List Cm} (h : ∀ c ∈ cs, c.ok) : F_check_pipeline [.dat (.list (cs.map Cm.d))] = some (.dat .none, [.un]) := by
  obtain ⟨e2, h1, a, b, rfl⟩ := forL_by (h := hTup 2 (hCons (hName 1) (hCons (hName 2) hNil))) (g := l0_check_pipeline) (ds := enumD (cs.map Cm.d)) (e := [.dat (.list (cs.map Cm.d)), .un, .un])
    (fun _ e => ∃ a b, e = [.dat (.list (cs.map Cm.d)), a, b]) ⟨_, _, rfl⟩ fun i d e hd ⟨a, b, he⟩ => by
      subst he
      obtain ⟨x, hx, rfl⟩ := enumD_get hd
      rw [List.getElem?_map] at hx
      cases hc : cs[i]? with
      | none => rw [hc] at hx; cases hx
      | some c =>
        rw [hc] at hx
        cases hx
        refine' ⟨_, ?h1, _, ?h2, _, Or.inl rfl, ?h3⟩
        case h1 =>
          simp only [kb_some, kb_none, km_some, kml_some, v_xD, k_xD, v_gX, k_gXd, k_gXs, v_gG, k_gG, v_gR, k_gRd, k_gRo, v_lR, k_lRo, v_gBin, k_bin1, k_bin2, v_lBin, k_lb1, k_lb2, v_gUn, k_un, u_negI, v_bT, k_bT, v_bNot, k_bNot, v_bAnd, k_andT, k_andF, v_bOr, k_orT, k_orF, v_bTru, k_tru, v_gIf, k_ifT, k_ifF, v_lIf, k_lifT, k_lifF, v_gAnd, k_gAndT, k_gAndF, v_gOr, k_gOrT, k_gOrF, v_gNot, k_gNot, v_gCh, k_ch1, k_ch2, k_ch3T, k_ch3F, k_ch4, v_dN, v_dC, k_dC, k_dC2, v_aN, v_aC, k_aC, k_aC2, v_aSw, k_sw, v_aOne, k_one, v_gTup, k_tup, v_lLst, k_lst, v_gCb, k_cb, v_lCb, k_lcb, v_oN, v_oY, k_oY, v_lSl, k_sl1, k_sl2, k_sl3, v_lRev, k_rev, v_sSeq, k_seqN, k_seqR, k_seqB, k_seqC, v_sN, v_sB, v_sC, v_sV, v_sRN, v_sSet, k_set, v_sOwn, k_own, v_sSetR, k_setRd, k_setRo, v_sAsg, k_asg, k_nx, v_sDrop, k_drop, v_sDropR, k_dropR, v_sRet, k_ret, v_sRetG, k_retG, v_sRetR, k_retR, v_sRetV, k_retVd, k_retVo, v_sIf, k_sifT, k_sifF, v_sAug, k_aug1, k_aug2, v_sPar, k_par, v_hName, v_hNil, v_hCons, v_hTup, v_hSub, k_sub1, k_sub2, k_sub3, v_sFor, k_for, v_iLst, k_iL, v_iTup, k_iT, v_iRg1, k_iR1, v_iRg2, k_iR2, v_iEn, k_iE, v_lLc, k_lc, v_rCall, k_cl1, k_cl2, k_cl3, v_gLm, k_lm1, k_lm2, k_lm3, v_run, k_runR, k_runN, v_len0, v_lenD, v_lenS, k_lenO, k_lenP, k_lenC, v_xVar, k_varD, k_varOf, k_varPf, k_varOl, k_varPl, k_varC, k_varOi, k_varPi, k_varOo, k_varPo, v_frz, k_frzO, k_frzP, v_lstAt, k_atO, k_atP, v_putAt, k_putO, k_putP, v_lstS, k_lsO, k_lsP, k_lsC, v_lstHS, v_valS, k_valO, k_valP, v_homN, v_homD, v_homS, k_homO, k_homP, k_homC, k_homU, v_p4, k_p1, k_p2, k_p3, k_p4, k_p5, v_Eqs, k_Eqs, v_Eqd, k_Eqd, v_Eqb, k_Eqb, v_Nes, k_Nes, v_Ned, k_Ned, v_Neb, k_Neb, v_ss, k_ss,
  oEq_d, oNe_d, eqD_i, eqD_s, oIx_t, oIx_l, oIx_s, oIn_t, oIn_l, oIn_s, lst_d, lstH_d, seq_l, seq_t, seq_s, val_d, toD_lst, toD_leaf, cLen_1, cAbs_1, cMax_2, cMin_2, cInt_b, cInt_i, cList_1, oI0_d, oB0_d, tru_b, tru_l, tru_s, oRep_k, strsOf_map, intsOf_map, inD_strs, inD_2, inD_3, inD_4, atI_0, atI_1, atI_2, atI_3, mApp, gC, bYes, parz, postz,
  Option.bind_some, Option.map_some, Option.getD_some, List.getElem?_cons_zero, List.getElem?_cons_succ, List.set_cons_zero, List.set_cons_succ, List.length_cons, List.length_nil, List.length_set, List.cons_append, List.nil_append, List.replicate_succ, List.replicate_zero, List.length_map, Nat.reduceAdd, Nat.zero_add, Nat.reduceLeDiff, Nat.reduceLT, Nat.reduceEqDiff, sizeLine_eq, Int.cast_ofNat_Int, Int.reduceEq, Int.reduceLT, Int.reduceLE, Int.reduceAdd, Int.reduceSub, Int.reduceMul, Int.reduceNeg, Int.reducePow, Int.reduceToNat, ↓reduceIte, if_true, if_false, decide_true, decide_false, Bool.not_true, Bool.not_false, Bool.true_and, Bool.and_true, Bool.false_and, Bool.false_eq_true, reduceCtorEq, Option.isSome_some,
  nm_head_tail, nm_head_skip, nm_head_chop, nm_head_reverse, nm_head_uniq, nm_head_sort, nmP_head, nmS_head, nm_tail_head, nm_tail_skip, nm_tail_chop, nm_tail_reverse, nm_tail_uniq, nm_tail_sort, nmP_tail, nmS_tail, nm_skip_head, nm_skip_tail, nm_skip_chop, nm_skip_reverse, nm_skip_uniq, nm_skip_sort, nmP_skip, nmS_skip, nm_chop_head, nm_chop_tail, nm_chop_skip, nm_chop_reverse, nm_chop_uniq, nm_chop_sort, nmP_chop, nmS_chop, nm_reverse_head, nm_reverse_tail, nm_reverse_skip, nm_reverse_chop, nm_reverse_uniq, nm_reverse_sort, nmP_reverse, nmS_reverse, nm_uniq_head, nm_uniq_tail, nm_uniq_skip, nm_uniq_chop, nm_uniq_reverse, nm_uniq_sort, nmP_uniq, nmS_uniq, nm_sort_head, nm_sort_tail, nm_sort_skip, nm_sort_chop, nm_sort_reverse, nm_sort_uniq, nmP_sort, nmS_sort, PR.PLAIN_d, PR.SLICING_d]
          exact rfl
        case h2 =>
          unfold l0_check_pipeline
          simp only [is_command_ok (h c (List.mem_of_getElem? hc)), kb_some, kb_none, km_some, kml_some, v_xD, k_xD, v_gX, k_gXd, k_gXs, v_gG, k_gG, v_gR, k_gRd, k_gRo, v_lR, k_lRo, v_gBin, k_bin1, k_bin2, v_lBin, k_lb1, k_lb2, v_gUn, k_un, u_negI, v_bT, k_bT, v_bNot, k_bNot, v_bAnd, k_andT, k_andF, v_bOr, k_orT, k_orF, v_bTru, k_tru, v_gIf, k_ifT, k_ifF, v_lIf, k_lifT, k_lifF, v_gAnd, k_gAndT, k_gAndF, v_gOr, k_gOrT, k_gOrF, v_gNot, k_gNot, v_gCh, k_ch1, k_ch2, k_ch3T, k_ch3F, k_ch4, v_dN, v_dC, k_dC, k_dC2, v_aN, v_aC, k_aC, k_aC2, v_aSw, k_sw, v_aOne, k_one, v_gTup, k_tup, v_lLst, k_lst, v_gCb, k_cb, v_lCb, k_lcb, v_oN, v_oY, k_oY, v_lSl, k_sl1, k_sl2, k_sl3, v_lRev, k_rev, v_sSeq, k_seqN, k_seqR, k_seqB, k_seqC, v_sN, v_sB, v_sC, v_sV, v_sRN, v_sSet, k_set, v_sOwn, k_own, v_sSetR, k_setRd, k_setRo, v_sAsg, k_asg, k_nx, v_sDrop, k_drop, v_sDropR, k_dropR, v_sRet, k_ret, v_sRetG, k_retG, v_sRetR, k_retR, v_sRetV, k_retVd, k_retVo, v_sIf, k_sifT, k_sifF, v_sAug, k_aug1, k_aug2, v_sPar, k_par, v_hName, v_hNil, v_hCons, v_hTup, v_hSub, k_sub1, k_sub2, k_sub3, v_sFor, k_for, v_iLst, k_iL, v_iTup, k_iT, v_iRg1, k_iR1, v_iRg2, k_iR2, v_iEn, k_iE, v_lLc, k_lc, v_rCall, k_cl1, k_cl2, k_cl3, v_gLm, k_lm1, k_lm2, k_lm3, v_run, k_runR, k_runN, v_len0, v_lenD, v_lenS, k_lenO, k_lenP, k_lenC, v_xVar, k_varD, k_varOf, k_varPf, k_varOl, k_varPl, k_varC, k_varOi, k_varPi, k_varOo, k_varPo, v_frz, k_frzO, k_frzP, v_lstAt, k_atO, k_atP, v_putAt, k_putO, k_putP, v_lstS, k_lsO, k_lsP, k_lsC, v_lstHS, v_valS, k_valO, k_valP, v_homN, v_homD, v_homS, k_homO, k_homP, k_homC, k_homU, v_p4, k_p1, k_p2, k_p3, k_p4, k_p5, v_Eqs, k_Eqs, v_Eqd, k_Eqd, v_Eqb, k_Eqb, v_Nes, k_Nes, v_Ned, k_Ned, v_Neb, k_Neb, v_ss, k_ss,
  oEq_d, oNe_d, eqD_i, eqD_s, oIx_t, oIx_l, oIx_s, oIn_t, oIn_l, oIn_s, lst_d, lstH_d, seq_l, seq_t, seq_s, val_d, toD_lst, toD_leaf, cLen_1, cAbs_1, cMax_2, cMin_2, cInt_b, cInt_i, cList_1, oI0_d, oB0_d, tru_b, tru_l, tru_s, oRep_k, strsOf_map, intsOf_map, inD_strs, inD_2, inD_3, inD_4, atI_0, atI_1, atI_2, atI_3, mApp, gC, bYes, parz, postz,
  Option.bind_some, Option.map_some, Option.getD_some, List.getElem?_cons_zero, List.getElem?_cons_succ, List.set_cons_zero, List.set_cons_succ, List.length_cons, List.length_nil, List.length_set, List.cons_append, List.nil_append, List.replicate_succ, List.replicate_zero, List.length_map, Nat.reduceAdd, Nat.zero_add, Nat.reduceLeDiff, Nat.reduceLT, Nat.reduceEqDiff, sizeLine_eq, Int.cast_ofNat_Int, Int.reduceEq, Int.reduceLT, Int.reduceLE, Int.reduceAdd, Int.reduceSub, Int.reduceMul, Int.reduceNeg, Int.reducePow, Int.reduceToNat, ↓reduceIte, if_true, if_false, decide_true, decide_false, Bool.not_true, Bool.not_false, Bool.true_and, Bool.and_true, Bool.false_and, Bool.false_eq_true, reduceCtorEq, Option.isSome_some,
  nm_head_tail, nm_head_skip, nm_head_chop, nm_head_reverse, nm_head_uniq, nm_head_sort, nmP_head, nmS_head, nm_tail_head, nm_tail_skip, nm_tail_chop, nm_tail_reverse, nm_tail_uniq, nm_tail_sort, nmP_tail, nmS_tail, nm_skip_head, nm_skip_tail, nm_skip_chop, nm_skip_reverse, nm_skip_uniq, nm_skip_sort, nmP_skip, nmS_skip, nm_chop_head, nm_chop_tail, nm_chop_skip, nm_chop_reverse, nm_chop_uniq, nm_chop_sort, nmP_chop, nmS_chop, nm_reverse_head, nm_reverse_tail, nm_reverse_skip, nm_reverse_chop, nm_reverse_uniq, nm_reverse_sort, nmP_reverse, nmS_reverse, nm_uniq_head, nm_uniq_tail, nm_uniq_skip, nm_uniq_chop, nm_uniq_reverse, nm_uniq_sort, nmP_uniq, nmS_uniq, nm_sort_head, nm_sort_tail, nm_sort_skip, nm_sort_chop, nm_sort_reverse, nm_sort_uniq, nmP_sort, nmS_sort, PR.PLAIN_d, PR.SLICING_d]
          exact rfl
        case h3 => exact ⟨_, _, rfl⟩
  unfold F_check_pipeline g_check_pipeline
  simp only [h1, kb_some, kb_none, km_some, kml_some, v_xD, k_xD, v_gX, k_gXd, k_gXs, v_gG, k_gG, v_gR, k_gRd, k_gRo, v_lR, k_lRo, v_gBin, k_bin1, k_bin2, v_lBin, k_lb1, k_lb2, v_gUn, k_un, u_negI, v_bT, k_bT, v_bNot, k_bNot, v_bAnd, k_andT, k_andF, v_bOr, k_orT, k_orF, v_bTru, k_tru, v_gIf, k_ifT, k_ifF, v_lIf, k_lifT, k_lifF, v_gAnd, k_gAndT, k_gAndF, v_gOr, k_gOrT, k_gOrF, v_gNot, k_gNot, v_gCh, k_ch1, k_ch2, k_ch3T, k_ch3F, k_ch4, v_dN, v_dC, k_dC, k_dC2, v_aN, v_aC, k_aC, k_aC2, v_aSw, k_sw, v_aOne, k_one, v_gTup, k_tup, v_lLst, k_lst, v_gCb, k_cb, v_lCb, k_lcb, v_oN, v_oY, k_oY, v_lSl, k_sl1, k_sl2, k_sl3, v_lRev, k_rev, v_sSeq, k_seqN, k_seqR, k_seqB, k_seqC, v_sN, v_sB, v_sC, v_sV, v_sRN, v_sSet, k_set, v_sOwn, k_own, v_sSetR, k_setRd, k_setRo, v_sAsg, k_asg, k_nx, v_sDrop, k_drop, v_sDropR, k_dropR, v_sRet, k_ret, v_sRetG, k_retG, v_sRetR, k_retR, v_sRetV, k_retVd, k_retVo, v_sIf, k_sifT, k_sifF, v_sAug, k_aug1, k_aug2, v_sPar, k_par, v_hName, v_hNil, v_hCons, v_hTup, v_hSub, k_sub1, k_sub2, k_sub3, v_sFor, k_for, v_iLst, k_iL, v_iTup, k_iT, v_iRg1, k_iR1, v_iRg2, k_iR2, v_iEn, k_iE, v_lLc, k_lc, v_rCall, k_cl1, k_cl2, k_cl3, v_gLm, k_lm1, k_lm2, k_lm3, v_run, k_runR, k_runN, v_len0, v_lenD, v_lenS, k_lenO, k_lenP, k_lenC, v_xVar, k_varD, k_varOf, k_varPf, k_varOl, k_varPl, k_varC, k_varOi, k_varPi, k_varOo, k_varPo, v_frz, k_frzO, k_frzP, v_lstAt, k_atO, k_atP, v_putAt, k_putO, k_putP, v_lstS, k_lsO, k_lsP, k_lsC, v_lstHS, v_valS, k_valO, k_valP, v_homN, v_homD, v_homS, k_homO, k_homP, k_homC, k_homU, v_p4, k_p1, k_p2, k_p3, k_p4, k_p5, v_Eqs, k_Eqs, v_Eqd, k_Eqd, v_Eqb, k_Eqb, v_Nes, k_Nes, v_Ned, k_Ned, v_Neb, k_Neb, v_ss, k_ss,
  oEq_d, oNe_d, eqD_i, eqD_s, oIx_t, oIx_l, oIx_s, oIn_t, oIn_l, oIn_s, lst_d, lstH_d, seq_l, seq_t, seq_s, val_d, toD_lst, toD_leaf, cLen_1, cAbs_1, cMax_2, cMin_2, cInt_b, cInt_i, cList_1, oI0_d, oB0_d, tru_b, tru_l, tru_s, oRep_k, strsOf_map, intsOf_map, inD_strs, inD_2, inD_3, inD_4, atI_0, atI_1, atI_2, atI_3, mApp, gC, bYes, parz, postz,
  Option.bind_some, Option.map_some, Option.getD_some, List.getElem?_cons_zero, List.getElem?_cons_succ, List.set_cons_zero, List.set_cons_succ, List.length_cons, List.length_nil, List.length_set, List.cons_append, List.nil_append, List.replicate_succ, List.replicate_zero, List.length_map, Nat.reduceAdd, Nat.zero_add, Nat.reduceLeDiff, Nat.reduceLT, Nat.reduceEqDiff, sizeLine_eq, Int.cast_ofNat_Int, Int.reduceEq, Int.reduceLT, Int.reduceLE, Int.reduceAdd, Int.reduceSub, Int.reduceMul, Int.reduceNeg, Int.reducePow, Int.reduceToNat, ↓reduceIte, if_true, if_false, decide_true, decide_false, Bool.not_true, Bool.not_false, Bool.true_and, Bool.and_true, Bool.false_and, Bool.false_eq_true, reduceCtorEq, Option.isSome_some,
  nm_head_tail, nm_head_skip, nm_head_chop, nm_head_reverse, nm_head_uniq, nm_head_sort, nmP_head, nmS_head, nm_tail_head, nm_tail_skip, nm_tail_chop, nm_tail_reverse, nm_tail_uniq, nm_tail_sort, nmP_tail, nmS_tail, nm_skip_head, nm_skip_tail, nm_skip_chop, nm_skip_reverse, nm_skip_uniq, nm_skip_sort, nmP_skip, nmS_skip, nm_chop_head, nm_chop_tail, nm_chop_skip, nm_chop_reverse, nm_chop_uniq, nm_chop_sort, nmP_chop, nmS_chop, nm_reverse_head, nm_reverse_tail, nm_reverse_skip, nm_reverse_chop, nm_reverse_uniq, nm_reverse_sort, nmP_reverse, nmS_reverse, nm_uniq_head, nm_uniq_tail, nm_uniq_skip, nm_uniq_chop, nm_uniq_reverse, nm_uniq_sort, nmP_uniq, nmS_uniq, nm_sort_head, nm_sort_tail, nm_sort_skip, nm_sort_chop, nm_sort_reverse, nm_sort_uniq, nmP_sort, nmS_sort, PR.PLAIN_d, PR.SLICING_d]
theorem kept_range_ok {c : Cm} (h : c.slc) (n : Int) : F_kept_range [.dat c.d, .dat (.int n)] = some (.dat (.tuple [.int (c.rng n).1, .int (c.rng n).2]), [.un, .un]) := by
  unfold F_kept_range g_kept_range
  cases c <;> first | exact h.elim | (dsimp only [Cm.d, Cm.rng]; simp only [kb_some, kb_none, km_some, kml_some, v_xD, k_xD, v_gX, k_gXd, k_gXs, v_gG, k_gG, v_gR, k_gRd, k_gRo, v_lR, k_lRo, v_gBin, k_bin1, k_bin2, v_lBin, k_lb1, k_lb2, v_gUn, k_un, u_negI, v_bT, k_bT, v_bNot, k_bNot, v_bAnd, k_andT, k_andF, v_bOr, k_orT, k_orF, v_bTru, k_tru, v_gIf, k_ifT, k_ifF, v_lIf, k_lifT, k_lifF, v_gAnd, k_gAndT, k_gAndF, v_gOr, k_gOrT, k_gOrF, v_gNot, k_gNot, v_gCh, k_ch1, k_ch2, k_ch3T, k_ch3F, k_ch4, v_dN, v_dC, k_dC, k_dC2, v_aN, v_aC, k_aC, k_aC2, v_aSw, k_sw, v_aOne, k_one, v_gTup, k_tup, v_lLst, k_lst, v_gCb, k_cb, v_lCb, k_lcb, v_oN, v_oY, k_oY, v_lSl, k_sl1, k_sl2, k_sl3, v_lRev, k_rev, v_sSeq, k_seqN, k_seqR, k_seqB, k_seqC, v_sN, v_sB, v_sC, v_sV, v_sRN, v_sSet, k_set, v_sOwn, k_own, v_sSetR, k_setRd, k_setRo, v_sAsg, k_asg, k_nx, v_sDrop, k_drop, v_sDropR, k_dropR, v_sRet, k_ret, v_sRetG, k_retG, v_sRetR, k_retR, v_sRetV, k_retVd, k_retVo, v_sIf, k_sifT, k_sifF, v_sAug, k_aug1, k_aug2, v_sPar, k_par, v_hName, v_hNil, v_hCons, v_hTup, v_hSub, k_sub1, k_sub2, k_sub3, v_sFor, k_for, v_iLst, k_iL, v_iTup, k_iT, v_iRg1, k_iR1, v_iRg2, k_iR2, v_iEn, k_iE, v_lLc, k_lc, v_rCall, k_cl1, k_cl2, k_cl3, v_gLm, k_lm1, k_lm2, k_lm3, v_run, k_runR, k_runN, v_len0, v_lenD, v_lenS, k_lenO, k_lenP, k_lenC, v_xVar, k_varD, k_varOf, k_varPf, k_varOl, k_varPl, k_varC, k_varOi, k_varPi, k_varOo, k_varPo, v_frz, k_frzO, k_frzP, v_lstAt, k_atO, k_atP, v_putAt, k_putO, k_putP, v_lstS, k_lsO, k_lsP, k_lsC, v_lstHS, v_valS, k_valO, k_valP, v_homN, v_homD, v_homS, k_homO, k_homP, k_homC, k_homU, v_p4, k_p1, k_p2, k_p3, k_p4, k_p5, v_Eqs, k_Eqs, v_Eqd, k_Eqd, v_Eqb, k_Eqb, v_Nes, k_Nes, v_Ned, k_Ned, v_Neb, k_Neb, v_ss, k_ss,
  oEq_d, oNe_d, eqD_i, eqD_s, oIx_t, oIx_l, oIx_s, oIn_t, oIn_l, oIn_s, lst_d, lstH_d, seq_l, seq_t, seq_s, val_d, toD_lst, toD_leaf, cLen_1, cAbs_1, cMax_2, cMin_2, cInt_b, cInt_i, cList_1, oI0_d, oB0_d, tru_b, tru_l, tru_s, oRep_k, strsOf_map, intsOf_map, inD_strs, inD_2, inD_3, inD_4, atI_0, atI_1, atI_2, atI_3, mApp, gC, bYes, parz, postz,
  Option.bind_some, Option.map_some, Option.getD_some, List.getElem?_cons_zero, List.getElem?_cons_succ, List.set_cons_zero, List.set_cons_succ, List.length_cons, List.length_nil, List.length_set, List.cons_append, List.nil_append, List.replicate_succ, List.replicate_zero, List.length_map, Nat.reduceAdd, Nat.zero_add, Nat.reduceLeDiff, Nat.reduceLT, Nat.reduceEqDiff, sizeLine_eq, Int.cast_ofNat_Int, Int.reduceEq, Int.reduceLT, Int.reduceLE, Int.reduceAdd, Int.reduceSub, Int.reduceMul, Int.reduceNeg, Int.reducePow, Int.reduceToNat, ↓reduceIte, if_true, if_false, decide_true, decide_false, Bool.not_true, Bool.not_false, Bool.true_and, Bool.and_true, Bool.false_and, Bool.false_eq_true, reduceCtorEq, Option.isSome_some,
  nm_head_tail, nm_head_skip, nm_head_chop, nm_head_reverse, nm_head_uniq, nm_head_sort, nmP_head, nmS_head, nm_tail_head, nm_tail_skip, nm_tail_chop, nm_tail_reverse, nm_tail_uniq, nm_tail_sort, nmP_tail, nmS_tail, nm_skip_head, nm_skip_tail, nm_skip_chop, nm_skip_reverse, nm_skip_uniq, nm_skip_sort, nmP_skip, nmS_skip, nm_chop_head, nm_chop_tail, nm_chop_skip, nm_chop_reverse, nm_chop_uniq, nm_chop_sort, nmP_chop, nmS_chop, nm_reverse_head, nm_reverse_tail, nm_reverse_skip, nm_reverse_chop, nm_reverse_uniq, nm_reverse_sort, nmP_reverse, nmS_reverse, nm_uniq_head, nm_uniq_tail, nm_uniq_skip, nm_uniq_chop, nm_uniq_reverse, nm_uniq_sort, nmP_uniq, nmS_uniq, nm_sort_head, nm_sort_tail, nm_sort_skip, nm_sort_chop, nm_sort_reverse, nm_sort_uniq, nmP_sort, nmS_sort, PR.PLAIN_d, PR.SLICING_d])
theorem merged_ok {rs : List Rn} (hl : rs.length < sizeLine) : F__merged [.dat (runsD rs)] = some (.own (.lst ((pack rs).map runD)), [.un]) := by
  obtain ⟨e2, h1, a, b, rfl⟩ := forL_by (h := hTup 2 (hCons (hName 2) (hCons (hName 3) hNil))) (g := l0__merged) (ds := rs.map runD) (e := [.dat (runsD rs), .own (.lst []), .un, .un])
    (fun i e => ∃ a b, e = [.dat (runsD rs), .own (.lst ((pack (rs.take i)).map runD)), a, b]) ⟨_, _, rfl⟩ fun i d e hd ⟨a, b, he⟩ => by
      subst he
      rw [List.getElem?_map] at hd
      cases hr : rs[i]? with
      | none => rw [hr] at hd; cases hd
      | some r =>
        rw [hr] at hd
        cases hd
        have ht : rs.take (i + 1) = rs.take i ++ [r] := by rw [List.take_add_one, hr]; rfl
        have pl : (pack (rs.take i)).length < sizeLine := Nat.lt_of_le_of_lt (pack_len _) (by rw [List.length_take]; omega)
        obtain ⟨x, n⟩ := r
        rw [ht, pack_snoc]
        generalize pack (rs.take i) = P at *
        rcases List.eq_nil_or_concat P with rfl | ⟨Q, ⟨y, m⟩, hQ⟩
        · refine' ⟨_, ?h1, _, ?h2, _, Or.inl rfl, ?h3⟩
          case h1 =>
            simp only [runD, kb_some, kb_none, km_some, kml_some, v_xD, k_xD, v_gX, k_gXd, k_gXs, v_gG, k_gG, v_gR, k_gRd, k_gRo, v_lR, k_lRo, v_gBin, k_bin1, k_bin2, v_lBin, k_lb1, k_lb2, v_gUn, k_un, u_negI, v_bT, k_bT, v_bNot, k_bNot, v_bAnd, k_andT, k_andF, v_bOr, k_orT, k_orF, v_bTru, k_tru, v_gIf, k_ifT, k_ifF, v_lIf, k_lifT, k_lifF, v_gAnd, k_gAndT, k_gAndF, v_gOr, k_gOrT, k_gOrF, v_gNot, k_gNot, v_gCh, k_ch1, k_ch2, k_ch3T, k_ch3F, k_ch4, v_dN, v_dC, k_dC, k_dC2, v_aN, v_aC, k_aC, k_aC2, v_aSw, k_sw, v_aOne, k_one, v_gTup, k_tup, v_lLst, k_lst, v_gCb, k_cb, v_lCb, k_lcb, v_oN, v_oY, k_oY, v_lSl, k_sl1, k_sl2, k_sl3, v_lRev, k_rev, v_sSeq, k_seqN, k_seqR, k_seqB, k_seqC, v_sN, v_sB, v_sC, v_sV, v_sRN, v_sSet, k_set, v_sOwn, k_own, v_sSetR, k_setRd, k_setRo, v_sAsg, k_asg, k_nx, v_sDrop, k_drop, v_sDropR, k_dropR, v_sRet, k_ret, v_sRetG, k_retG, v_sRetR, k_retR, v_sRetV, k_retVd, k_retVo, v_sIf, k_sifT, k_sifF, v_sAug, k_aug1, k_aug2, v_sPar, k_par, v_hName, v_hNil, v_hCons, v_hTup, v_hSub, k_sub1, k_sub2, k_sub3, v_sFor, k_for, v_iLst, k_iL, v_iTup, k_iT, v_iRg1, k_iR1, v_iRg2, k_iR2, v_iEn, k_iE, v_lLc, k_lc, v_rCall, k_cl1, k_cl2, k_cl3, v_gLm, k_lm1, k_lm2, k_lm3, v_run, k_runR, k_runN, v_len0, v_lenD, v_lenS, k_lenO, k_lenP, k_lenC, v_xVar, k_varD, k_varOf, k_varPf, k_varOl, k_varPl, k_varC, k_varOi, k_varPi, k_varOo, k_varPo, v_frz, k_frzO, k_frzP, v_lstAt, k_atO, k_atP, v_putAt, k_putO, k_putP, v_lstS, k_lsO, k_lsP, k_lsC, v_lstHS, v_valS, k_valO, k_valP, v_homN, v_homD, v_homS, k_homO, k_homP, k_homC, k_homU, v_p4, k_p1, k_p2, k_p3, k_p4, k_p5, v_Eqs, k_Eqs, v_Eqd, k_Eqd, v_Eqb, k_Eqb, v_Nes, k_Nes, v_Ned, k_Ned, v_Neb, k_Neb, v_ss, k_ss,
  oEq_d, oNe_d, eqD_i, eqD_s, oIx_t, oIx_l, oIx_s, oIn_t, oIn_l, oIn_s, lst_d, lstH_d, seq_l, seq_t, seq_s, val_d, toD_lst, toD_leaf, cLen_1, cAbs_1, cMax_2, cMin_2, cInt_b, cInt_i, cList_1, oI0_d, oB0_d, tru_b, tru_l, tru_s, oRep_k, strsOf_map, intsOf_map, inD_strs, inD_2, inD_3, inD_4, atI_0, atI_1, atI_2, atI_3, mApp, gC, bYes, parz, postz,
  Option.bind_some, Option.map_some, Option.getD_some, List.getElem?_cons_zero, List.getElem?_cons_succ, List.set_cons_zero, List.set_cons_succ, List.length_cons, List.length_nil, List.length_set, List.cons_append, List.nil_append, List.replicate_succ, List.replicate_zero, List.length_map, Nat.reduceAdd, Nat.zero_add, Nat.reduceLeDiff, Nat.reduceLT, Nat.reduceEqDiff, sizeLine_eq, Int.cast_ofNat_Int, Int.reduceEq, Int.reduceLT, Int.reduceLE, Int.reduceAdd, Int.reduceSub, Int.reduceMul, Int.reduceNeg, Int.reducePow, Int.reduceToNat, ↓reduceIte, if_true, if_false, decide_true, decide_false, Bool.not_true, Bool.not_false, Bool.true_and, Bool.and_true, Bool.false_and, Bool.false_eq_true, reduceCtorEq, Option.isSome_some,
  nm_head_tail, nm_head_skip, nm_head_chop, nm_head_reverse, nm_head_uniq, nm_head_sort, nmP_head, nmS_head, nm_tail_head, nm_tail_skip, nm_tail_chop, nm_tail_reverse, nm_tail_uniq, nm_tail_sort, nmP_tail, nmS_tail, nm_skip_head, nm_skip_tail, nm_skip_chop, nm_skip_reverse, nm_skip_uniq, nm_skip_sort, nmP_skip, nmS_skip, nm_chop_head, nm_chop_tail, nm_chop_skip, nm_chop_reverse, nm_chop_uniq, nm_chop_sort, nmP_chop, nmS_chop, nm_reverse_head, nm_reverse_tail, nm_reverse_skip, nm_reverse_chop, nm_reverse_uniq, nm_reverse_sort, nmP_reverse, nmS_reverse, nm_uniq_head, nm_uniq_tail, nm_uniq_skip, nm_uniq_chop, nm_uniq_reverse, nm_uniq_sort, nmP_uniq, nmS_uniq, nm_sort_head, nm_sort_tail, nm_sort_skip, nm_sort_chop, nm_sort_reverse, nm_sort_uniq, nmP_sort, nmS_sort, PR.PLAIN_d, PR.SLICING_d]
            exact rfl
          case h2 =>
            unfold l0__merged
            simp only [List.map_nil, List.isEmpty_nil, kb_some, kb_none, km_some, kml_some, v_xD, k_xD, v_gX, k_gXd, k_gXs, v_gG, k_gG, v_gR, k_gRd, k_gRo, v_lR, k_lRo, v_gBin, k_bin1, k_bin2, v_lBin, k_lb1, k_lb2, v_gUn, k_un, u_negI, v_bT, k_bT, v_bNot, k_bNot, v_bAnd, k_andT, k_andF, v_bOr, k_orT, k_orF, v_bTru, k_tru, v_gIf, k_ifT, k_ifF, v_lIf, k_lifT, k_lifF, v_gAnd, k_gAndT, k_gAndF, v_gOr, k_gOrT, k_gOrF, v_gNot, k_gNot, v_gCh, k_ch1, k_ch2, k_ch3T, k_ch3F, k_ch4, v_dN, v_dC, k_dC, k_dC2, v_aN, v_aC, k_aC, k_aC2, v_aSw, k_sw, v_aOne, k_one, v_gTup, k_tup, v_lLst, k_lst, v_gCb, k_cb, v_lCb, k_lcb, v_oN, v_oY, k_oY, v_lSl, k_sl1, k_sl2, k_sl3, v_lRev, k_rev, v_sSeq, k_seqN, k_seqR, k_seqB, k_seqC, v_sN, v_sB, v_sC, v_sV, v_sRN, v_sSet, k_set, v_sOwn, k_own, v_sSetR, k_setRd, k_setRo, v_sAsg, k_asg, k_nx, v_sDrop, k_drop, v_sDropR, k_dropR, v_sRet, k_ret, v_sRetG, k_retG, v_sRetR, k_retR, v_sRetV, k_retVd, k_retVo, v_sIf, k_sifT, k_sifF, v_sAug, k_aug1, k_aug2, v_sPar, k_par, v_hName, v_hNil, v_hCons, v_hTup, v_hSub, k_sub1, k_sub2, k_sub3, v_sFor, k_for, v_iLst, k_iL, v_iTup, k_iT, v_iRg1, k_iR1, v_iRg2, k_iR2, v_iEn, k_iE, v_lLc, k_lc, v_rCall, k_cl1, k_cl2, k_cl3, v_gLm, k_lm1, k_lm2, k_lm3, v_run, k_runR, k_runN, v_len0, v_lenD, v_lenS, k_lenO, k_lenP, k_lenC, v_xVar, k_varD, k_varOf, k_varPf, k_varOl, k_varPl, k_varC, k_varOi, k_varPi, k_varOo, k_varPo, v_frz, k_frzO, k_frzP, v_lstAt, k_atO, k_atP, v_putAt, k_putO, k_putP, v_lstS, k_lsO, k_lsP, k_lsC, v_lstHS, v_valS, k_valO, k_valP, v_homN, v_homD, v_homS, k_homO, k_homP, k_homC, k_homU, v_p4, k_p1, k_p2, k_p3, k_p4, k_p5, v_Eqs, k_Eqs, v_Eqd, k_Eqd, v_Eqb, k_Eqb, v_Nes, k_Nes, v_Ned, k_Ned, v_Neb, k_Neb, v_ss, k_ss,
  oEq_d, oNe_d, eqD_i, eqD_s, oIx_t, oIx_l, oIx_s, oIn_t, oIn_l, oIn_s, lst_d, lstH_d, seq_l, seq_t, seq_s, val_d, toD_lst, toD_leaf, cLen_1, cAbs_1, cMax_2, cMin_2, cInt_b, cInt_i, cList_1, oI0_d, oB0_d, tru_b, tru_l, tru_s, oRep_k, strsOf_map, intsOf_map, inD_strs, inD_2, inD_3, inD_4, atI_0, atI_1, atI_2, atI_3, mApp, gC, bYes, parz, postz,
  Option.bind_some, Option.map_some, Option.getD_some, List.getElem?_cons_zero, List.getElem?_cons_succ, List.set_cons_zero, List.set_cons_succ, List.length_cons, List.length_nil, List.length_set, List.cons_append, List.nil_append, List.replicate_succ, List.replicate_zero, List.length_map, Nat.reduceAdd, Nat.zero_add, Nat.reduceLeDiff, Nat.reduceLT, Nat.reduceEqDiff, sizeLine_eq, Int.cast_ofNat_Int, Int.reduceEq, Int.reduceLT, Int.reduceLE, Int.reduceAdd, Int.reduceSub, Int.reduceMul, Int.reduceNeg, Int.reducePow, Int.reduceToNat, ↓reduceIte, if_true, if_false, decide_true, decide_false, Bool.not_true, Bool.not_false, Bool.true_and, Bool.and_true, Bool.false_and, Bool.false_eq_true, reduceCtorEq, Option.isSome_some,
  nm_head_tail, nm_head_skip, nm_head_chop, nm_head_reverse, nm_head_uniq, nm_head_sort, nmP_head, nmS_head, nm_tail_head, nm_tail_skip, nm_tail_chop, nm_tail_reverse, nm_tail_uniq, nm_tail_sort, nmP_tail, nmS_tail, nm_skip_head, nm_skip_tail, nm_skip_chop, nm_skip_reverse, nm_skip_uniq, nm_skip_sort, nmP_skip, nmS_skip, nm_chop_head, nm_chop_tail, nm_chop_skip, nm_chop_reverse, nm_chop_uniq, nm_chop_sort, nmP_chop, nmS_chop, nm_reverse_head, nm_reverse_tail, nm_reverse_skip, nm_reverse_chop, nm_reverse_uniq, nm_reverse_sort, nmP_reverse, nmS_reverse, nm_uniq_head, nm_uniq_tail, nm_uniq_skip, nm_uniq_chop, nm_uniq_reverse, nm_uniq_sort, nmP_uniq, nmS_uniq, nm_sort_head, nm_sort_tail, nm_sort_skip, nm_sort_chop, nm_sort_reverse, nm_sort_uniq, nmP_sort, nmS_sort, PR.PLAIN_d, PR.SLICING_d]
            exact rfl
          case h3 => exact ⟨_, _, rfl⟩
        · rw [List.concat_eq_append] at hQ
          subst hQ
          have i1 : atI ((Q ++ [(y, m)]).map runD) (-1) = some (runD (y, m)) := by rw [List.map_append]; exact MM.atI_last _ _
          have i2 : ixN (Q ++ [(y, m)]).length (-1) = some Q.length := by rw [List.length_append, List.length_singleton]; exact ixN_last
          have ne : ((Q ++ [(y, m)]).map runD).isEmpty = false := by cases Q <;> rfl
          have set : ∀ d, ((Q ++ [(y, m)]).map runD).set Q.length d = Q.map runD ++ [d] := fun d => by
            rw [List.map_append, List.set_append_right _ _ (by rw [List.length_map]; exact Nat.le_refl _), List.length_map, Nat.sub_self]
            rfl
          have rd : runD (y, m) = .tuple [.str y, .int m] := rfl
          have gl : (Q ++ [(y, m)]).getLast? = some (y, m) := by simp
          have dl : (Q ++ [(y, m)]).dropLast = Q := by simp
          refine' ⟨_, ?h1, ?h2⟩
          case h1 =>
            simp only [runD, kb_some, kb_none, km_some, kml_some, v_xD, k_xD, v_gX, k_gXd, k_gXs, v_gG, k_gG, v_gR, k_gRd, k_gRo, v_lR, k_lRo, v_gBin, k_bin1, k_bin2, v_lBin, k_lb1, k_lb2, v_gUn, k_un, u_negI, v_bT, k_bT, v_bNot, k_bNot, v_bAnd, k_andT, k_andF, v_bOr, k_orT, k_orF, v_bTru, k_tru, v_gIf, k_ifT, k_ifF, v_lIf, k_lifT, k_lifF, v_gAnd, k_gAndT, k_gAndF, v_gOr, k_gOrT, k_gOrF, v_gNot, k_gNot, v_gCh, k_ch1, k_ch2, k_ch3T, k_ch3F, k_ch4, v_dN, v_dC, k_dC, k_dC2, v_aN, v_aC, k_aC, k_aC2, v_aSw, k_sw, v_aOne, k_one, v_gTup, k_tup, v_lLst, k_lst, v_gCb, k_cb, v_lCb, k_lcb, v_oN, v_oY, k_oY, v_lSl, k_sl1, k_sl2, k_sl3, v_lRev, k_rev, v_sSeq, k_seqN, k_seqR, k_seqB, k_seqC, v_sN, v_sB, v_sC, v_sV, v_sRN, v_sSet, k_set, v_sOwn, k_own, v_sSetR, k_setRd, k_setRo, v_sAsg, k_asg, k_nx, v_sDrop, k_drop, v_sDropR, k_dropR, v_sRet, k_ret, v_sRetG, k_retG, v_sRetR, k_retR, v_sRetV, k_retVd, k_retVo, v_sIf, k_sifT, k_sifF, v_sAug, k_aug1, k_aug2, v_sPar, k_par, v_hName, v_hNil, v_hCons, v_hTup, v_hSub, k_sub1, k_sub2, k_sub3, v_sFor, k_for, v_iLst, k_iL, v_iTup, k_iT, v_iRg1, k_iR1, v_iRg2, k_iR2, v_iEn, k_iE, v_lLc, k_lc, v_rCall, k_cl1, k_cl2, k_cl3, v_gLm, k_lm1, k_lm2, k_lm3, v_run, k_runR, k_runN, v_len0, v_lenD, v_lenS, k_lenO, k_lenP, k_lenC, v_xVar, k_varD, k_varOf, k_varPf, k_varOl, k_varPl, k_varC, k_varOi, k_varPi, k_varOo, k_varPo, v_frz, k_frzO, k_frzP, v_lstAt, k_atO, k_atP, v_putAt, k_putO, k_putP, v_lstS, k_lsO, k_lsP, k_lsC, v_lstHS, v_valS, k_valO, k_valP, v_homN, v_homD, v_homS, k_homO, k_homP, k_homC, k_homU, v_p4, k_p1, k_p2, k_p3, k_p4, k_p5, v_Eqs, k_Eqs, v_Eqd, k_Eqd, v_Eqb, k_Eqb, v_Nes, k_Nes, v_Ned, k_Ned, v_Neb, k_Neb, v_ss, k_ss,
  oEq_d, oNe_d, eqD_i, eqD_s, oIx_t, oIx_l, oIx_s, oIn_t, oIn_l, oIn_s, lst_d, lstH_d, seq_l, seq_t, seq_s, val_d, toD_lst, toD_leaf, cLen_1, cAbs_1, cMax_2, cMin_2, cInt_b, cInt_i, cList_1, oI0_d, oB0_d, tru_b, tru_l, tru_s, oRep_k, strsOf_map, intsOf_map, inD_strs, inD_2, inD_3, inD_4, atI_0, atI_1, atI_2, atI_3, mApp, gC, bYes, parz, postz,
  Option.bind_some, Option.map_some, Option.getD_some, List.getElem?_cons_zero, List.getElem?_cons_succ, List.set_cons_zero, List.set_cons_succ, List.length_cons, List.length_nil, List.length_set, List.cons_append, List.nil_append, List.replicate_succ, List.replicate_zero, List.length_map, Nat.reduceAdd, Nat.zero_add, Nat.reduceLeDiff, Nat.reduceLT, Nat.reduceEqDiff, sizeLine_eq, Int.cast_ofNat_Int, Int.reduceEq, Int.reduceLT, Int.reduceLE, Int.reduceAdd, Int.reduceSub, Int.reduceMul, Int.reduceNeg, Int.reducePow, Int.reduceToNat, ↓reduceIte, if_true, if_false, decide_true, decide_false, Bool.not_true, Bool.not_false, Bool.true_and, Bool.and_true, Bool.false_and, Bool.false_eq_true, reduceCtorEq, Option.isSome_some,
  nm_head_tail, nm_head_skip, nm_head_chop, nm_head_reverse, nm_head_uniq, nm_head_sort, nmP_head, nmS_head, nm_tail_head, nm_tail_skip, nm_tail_chop, nm_tail_reverse, nm_tail_uniq, nm_tail_sort, nmP_tail, nmS_tail, nm_skip_head, nm_skip_tail, nm_skip_chop, nm_skip_reverse, nm_skip_uniq, nm_skip_sort, nmP_skip, nmS_skip, nm_chop_head, nm_chop_tail, nm_chop_skip, nm_chop_reverse, nm_chop_uniq, nm_chop_sort, nmP_chop, nmS_chop, nm_reverse_head, nm_reverse_tail, nm_reverse_skip, nm_reverse_chop, nm_reverse_uniq, nm_reverse_sort, nmP_reverse, nmS_reverse, nm_uniq_head, nm_uniq_tail, nm_uniq_skip, nm_uniq_chop, nm_uniq_reverse, nm_uniq_sort, nmP_uniq, nmS_uniq, nm_sort_head, nm_sort_tail, nm_sort_skip, nm_sort_chop, nm_sort_reverse, nm_sort_uniq, nmP_sort, nmS_sort, PR.PLAIN_d, PR.SLICING_d]
            exact rfl
          unfold l0__merged
          by_cases h : y = x
          · subst h
            refine' ⟨_, ?g1, _, Or.inl rfl, ?g2⟩
            case g1 =>
              simp only [ne, i1, i2, rd, set, kb_some, kb_none, km_some, kml_some, v_xD, k_xD, v_gX, k_gXd, k_gXs, v_gG, k_gG, v_gR, k_gRd, k_gRo, v_lR, k_lRo, v_gBin, k_bin1, k_bin2, v_lBin, k_lb1, k_lb2, v_gUn, k_un, u_negI, v_bT, k_bT, v_bNot, k_bNot, v_bAnd, k_andT, k_andF, v_bOr, k_orT, k_orF, v_bTru, k_tru, v_gIf, k_ifT, k_ifF, v_lIf, k_lifT, k_lifF, v_gAnd, k_gAndT, k_gAndF, v_gOr, k_gOrT, k_gOrF, v_gNot, k_gNot, v_gCh, k_ch1, k_ch2, k_ch3T, k_ch3F, k_ch4, v_dN, v_dC, k_dC, k_dC2, v_aN, v_aC, k_aC, k_aC2, v_aSw, k_sw, v_aOne, k_one, v_gTup, k_tup, v_lLst, k_lst, v_gCb, k_cb, v_lCb, k_lcb, v_oN, v_oY, k_oY, v_lSl, k_sl1, k_sl2, k_sl3, v_lRev, k_rev, v_sSeq, k_seqN, k_seqR, k_seqB, k_seqC, v_sN, v_sB, v_sC, v_sV, v_sRN, v_sSet, k_set, v_sOwn, k_own, v_sSetR, k_setRd, k_setRo, v_sAsg, k_asg, k_nx, v_sDrop, k_drop, v_sDropR, k_dropR, v_sRet, k_ret, v_sRetG, k_retG, v_sRetR, k_retR, v_sRetV, k_retVd, k_retVo, v_sIf, k_sifT, k_sifF, v_sAug, k_aug1, k_aug2, v_sPar, k_par, v_hName, v_hNil, v_hCons, v_hTup, v_hSub, k_sub1, k_sub2, k_sub3, v_sFor, k_for, v_iLst, k_iL, v_iTup, k_iT, v_iRg1, k_iR1, v_iRg2, k_iR2, v_iEn, k_iE, v_lLc, k_lc, v_rCall, k_cl1, k_cl2, k_cl3, v_gLm, k_lm1, k_lm2, k_lm3, v_run, k_runR, k_runN, v_len0, v_lenD, v_lenS, k_lenO, k_lenP, k_lenC, v_xVar, k_varD, k_varOf, k_varPf, k_varOl, k_varPl, k_varC, k_varOi, k_varPi, k_varOo, k_varPo, v_frz, k_frzO, k_frzP, v_lstAt, k_atO, k_atP, v_putAt, k_putO, k_putP, v_lstS, k_lsO, k_lsP, k_lsC, v_lstHS, v_valS, k_valO, k_valP, v_homN, v_homD, v_homS, k_homO, k_homP, k_homC, k_homU, v_p4, k_p1, k_p2, k_p3, k_p4, k_p5, v_Eqs, k_Eqs, v_Eqd, k_Eqd, v_Eqb, k_Eqb, v_Nes, k_Nes, v_Ned, k_Ned, v_Neb, k_Neb, v_ss, k_ss,
  oEq_d, oNe_d, eqD_i, eqD_s, oIx_t, oIx_l, oIx_s, oIn_t, oIn_l, oIn_s, lst_d, lstH_d, seq_l, seq_t, seq_s, val_d, toD_lst, toD_leaf, cLen_1, cAbs_1, cMax_2, cMin_2, cInt_b, cInt_i, cList_1, oI0_d, oB0_d, tru_b, tru_l, tru_s, oRep_k, strsOf_map, intsOf_map, inD_strs, inD_2, inD_3, inD_4, atI_0, atI_1, atI_2, atI_3, mApp, gC, bYes, parz, postz,
  Option.bind_some, Option.map_some, Option.getD_some, List.getElem?_cons_zero, List.getElem?_cons_succ, List.set_cons_zero, List.set_cons_succ, List.length_cons, List.length_nil, List.length_set, List.cons_append, List.nil_append, List.replicate_succ, List.replicate_zero, List.length_map, Nat.reduceAdd, Nat.zero_add, Nat.reduceLeDiff, Nat.reduceLT, Nat.reduceEqDiff, sizeLine_eq, Int.cast_ofNat_Int, Int.reduceEq, Int.reduceLT, Int.reduceLE, Int.reduceAdd, Int.reduceSub, Int.reduceMul, Int.reduceNeg, Int.reducePow, Int.reduceToNat, ↓reduceIte, if_true, if_false, decide_true, decide_false, Bool.not_true, Bool.not_false, Bool.true_and, Bool.and_true, Bool.false_and, Bool.false_eq_true, reduceCtorEq, Option.isSome_some,
  nm_head_tail, nm_head_skip, nm_head_chop, nm_head_reverse, nm_head_uniq, nm_head_sort, nmP_head, nmS_head, nm_tail_head, nm_tail_skip, nm_tail_chop, nm_tail_reverse, nm_tail_uniq, nm_tail_sort, nmP_tail, nmS_tail, nm_skip_head, nm_skip_tail, nm_skip_chop, nm_skip_reverse, nm_skip_uniq, nm_skip_sort, nmP_skip, nmS_skip, nm_chop_head, nm_chop_tail, nm_chop_skip, nm_chop_reverse, nm_chop_uniq, nm_chop_sort, nmP_chop, nmS_chop, nm_reverse_head, nm_reverse_tail, nm_reverse_skip, nm_reverse_chop, nm_reverse_uniq, nm_reverse_sort, nmP_reverse, nmS_reverse, nm_uniq_head, nm_uniq_tail, nm_uniq_skip, nm_uniq_chop, nm_uniq_reverse, nm_uniq_sort, nmP_uniq, nmS_uniq, nm_sort_head, nm_sort_tail, nm_sort_skip, nm_sort_chop, nm_sort_reverse, nm_sort_uniq, nmP_sort, nmS_sort, PR.PLAIN_d, PR.SLICING_d]
              exact rfl
            case g2 =>
              exact ⟨_, _, by simp only [stP, gl, dl, if_true, List.map_append]; exact rfl⟩
          · have hlt : (Q ++ [(y, m)]).length < 16777216 := by rw [sizeLine_eq] at pl; exact pl
            refine' ⟨_, ?g1, _, Or.inl rfl, ?g2⟩
            case g1 =>
              simp only [ne, i1, i2, rd, set, h, hlt, kb_some, kb_none, km_some, kml_some, v_xD, k_xD, v_gX, k_gXd, k_gXs, v_gG, k_gG, v_gR, k_gRd, k_gRo, v_lR, k_lRo, v_gBin, k_bin1, k_bin2, v_lBin, k_lb1, k_lb2, v_gUn, k_un, u_negI, v_bT, k_bT, v_bNot, k_bNot, v_bAnd, k_andT, k_andF, v_bOr, k_orT, k_orF, v_bTru, k_tru, v_gIf, k_ifT, k_ifF, v_lIf, k_lifT, k_lifF, v_gAnd, k_gAndT, k_gAndF, v_gOr, k_gOrT, k_gOrF, v_gNot, k_gNot, v_gCh, k_ch1, k_ch2, k_ch3T, k_ch3F, k_ch4, v_dN, v_dC, k_dC, k_dC2, v_aN, v_aC, k_aC, k_aC2, v_aSw, k_sw, v_aOne, k_one, v_gTup, k_tup, v_lLst, k_lst, v_gCb, k_cb, v_lCb, k_lcb, v_oN, v_oY, k_oY, v_lSl, k_sl1, k_sl2, k_sl3, v_lRev, k_rev, v_sSeq, k_seqN, k_seqR, k_seqB, k_seqC, v_sN, v_sB, v_sC, v_sV, v_sRN, v_sSet, k_set, v_sOwn, k_own, v_sSetR, k_setRd, k_setRo, v_sAsg, k_asg, k_nx, v_sDrop, k_drop, v_sDropR, k_dropR, v_sRet, k_ret, v_sRetG, k_retG, v_sRetR, k_retR, v_sRetV, k_retVd, k_retVo, v_sIf, k_sifT, k_sifF, v_sAug, k_aug1, k_aug2, v_sPar, k_par, v_hName, v_hNil, v_hCons, v_hTup, v_hSub, k_sub1, k_sub2, k_sub3, v_sFor, k_for, v_iLst, k_iL, v_iTup, k_iT, v_iRg1, k_iR1, v_iRg2, k_iR2, v_iEn, k_iE, v_lLc, k_lc, v_rCall, k_cl1, k_cl2, k_cl3, v_gLm, k_lm1, k_lm2, k_lm3, v_run, k_runR, k_runN, v_len0, v_lenD, v_lenS, k_lenO, k_lenP, k_lenC, v_xVar, k_varD, k_varOf, k_varPf, k_varOl, k_varPl, k_varC, k_varOi, k_varPi, k_varOo, k_varPo, v_frz, k_frzO, k_frzP, v_lstAt, k_atO, k_atP, v_putAt, k_putO, k_putP, v_lstS, k_lsO, k_lsP, k_lsC, v_lstHS, v_valS, k_valO, k_valP, v_homN, v_homD, v_homS, k_homO, k_homP, k_homC, k_homU, v_p4, k_p1, k_p2, k_p3, k_p4, k_p5, v_Eqs, k_Eqs, v_Eqd, k_Eqd, v_Eqb, k_Eqb, v_Nes, k_Nes, v_Ned, k_Ned, v_Neb, k_Neb, v_ss, k_ss,
  oEq_d, oNe_d, eqD_i, eqD_s, oIx_t, oIx_l, oIx_s, oIn_t, oIn_l, oIn_s, lst_d, lstH_d, seq_l, seq_t, seq_s, val_d, toD_lst, toD_leaf, cLen_1, cAbs_1, cMax_2, cMin_2, cInt_b, cInt_i, cList_1, oI0_d, oB0_d, tru_b, tru_l, tru_s, oRep_k, strsOf_map, intsOf_map, inD_strs, inD_2, inD_3, inD_4, atI_0, atI_1, atI_2, atI_3, mApp, gC, bYes, parz, postz,
  Option.bind_some, Option.map_some, Option.getD_some, List.getElem?_cons_zero, List.getElem?_cons_succ, List.set_cons_zero, List.set_cons_succ, List.length_cons, List.length_nil, List.length_set, List.cons_append, List.nil_append, List.replicate_succ, List.replicate_zero, List.length_map, Nat.reduceAdd, Nat.zero_add, Nat.reduceLeDiff, Nat.reduceLT, Nat.reduceEqDiff, sizeLine_eq, Int.cast_ofNat_Int, Int.reduceEq, Int.reduceLT, Int.reduceLE, Int.reduceAdd, Int.reduceSub, Int.reduceMul, Int.reduceNeg, Int.reducePow, Int.reduceToNat, ↓reduceIte, if_true, if_false, decide_true, decide_false, Bool.not_true, Bool.not_false, Bool.true_and, Bool.and_true, Bool.false_and, Bool.false_eq_true, reduceCtorEq, Option.isSome_some,
  nm_head_tail, nm_head_skip, nm_head_chop, nm_head_reverse, nm_head_uniq, nm_head_sort, nmP_head, nmS_head, nm_tail_head, nm_tail_skip, nm_tail_chop, nm_tail_reverse, nm_tail_uniq, nm_tail_sort, nmP_tail, nmS_tail, nm_skip_head, nm_skip_tail, nm_skip_chop, nm_skip_reverse, nm_skip_uniq, nm_skip_sort, nmP_skip, nmS_skip, nm_chop_head, nm_chop_tail, nm_chop_skip, nm_chop_reverse, nm_chop_uniq, nm_chop_sort, nmP_chop, nmS_chop, nm_reverse_head, nm_reverse_tail, nm_reverse_skip, nm_reverse_chop, nm_reverse_uniq, nm_reverse_sort, nmP_reverse, nmS_reverse, nm_uniq_head, nm_uniq_tail, nm_uniq_skip, nm_uniq_chop, nm_uniq_reverse, nm_uniq_sort, nmP_uniq, nmS_uniq, nm_sort_head, nm_sort_tail, nm_sort_skip, nm_sort_chop, nm_sort_reverse, nm_sort_uniq, nmP_sort, nmS_sort, PR.PLAIN_d, PR.SLICING_d]
              exact rfl
            case g2 =>
              exact ⟨_, _, by simp only [stP, gl, h, if_false, List.map_append]; exact rfl⟩
  unfold F__merged g__merged
  have rr : runsD rs = .list (rs.map runD) := rfl
  rw [rr] at h1
  simp only [rr, h1, kb_some, kb_none, km_some, kml_some, v_xD, k_xD, v_gX, k_gXd, k_gXs, v_gG, k_gG, v_gR, k_gRd, k_gRo, v_lR, k_lRo, v_gBin, k_bin1, k_bin2, v_lBin, k_lb1, k_lb2, v_gUn, k_un, u_negI, v_bT, k_bT, v_bNot, k_bNot, v_bAnd, k_andT, k_andF, v_bOr, k_orT, k_orF, v_bTru, k_tru, v_gIf, k_ifT, k_ifF, v_lIf, k_lifT, k_lifF, v_gAnd, k_gAndT, k_gAndF, v_gOr, k_gOrT, k_gOrF, v_gNot, k_gNot, v_gCh, k_ch1, k_ch2, k_ch3T, k_ch3F, k_ch4, v_dN, v_dC, k_dC, k_dC2, v_aN, v_aC, k_aC, k_aC2, v_aSw, k_sw, v_aOne, k_one, v_gTup, k_tup, v_lLst, k_lst, v_gCb, k_cb, v_lCb, k_lcb, v_oN, v_oY, k_oY, v_lSl, k_sl1, k_sl2, k_sl3, v_lRev, k_rev, v_sSeq, k_seqN, k_seqR, k_seqB, k_seqC, v_sN, v_sB, v_sC, v_sV, v_sRN, v_sSet, k_set, v_sOwn, k_own, v_sSetR, k_setRd, k_setRo, v_sAsg, k_asg, k_nx, v_sDrop, k_drop, v_sDropR, k_dropR, v_sRet, k_ret, v_sRetG, k_retG, v_sRetR, k_retR, v_sRetV, k_retVd, k_retVo, v_sIf, k_sifT, k_sifF, v_sAug, k_aug1, k_aug2, v_sPar, k_par, v_hName, v_hNil, v_hCons, v_hTup, v_hSub, k_sub1, k_sub2, k_sub3, v_sFor, k_for, v_iLst, k_iL, v_iTup, k_iT, v_iRg1, k_iR1, v_iRg2, k_iR2, v_iEn, k_iE, v_lLc, k_lc, v_rCall, k_cl1, k_cl2, k_cl3, v_gLm, k_lm1, k_lm2, k_lm3, v_run, k_runR, k_runN, v_len0, v_lenD, v_lenS, k_lenO, k_lenP, k_lenC, v_xVar, k_varD, k_varOf, k_varPf, k_varOl, k_varPl, k_varC, k_varOi, k_varPi, k_varOo, k_varPo, v_frz, k_frzO, k_frzP, v_lstAt, k_atO, k_atP, v_putAt, k_putO, k_putP, v_lstS, k_lsO, k_lsP, k_lsC, v_lstHS, v_valS, k_valO, k_valP, v_homN, v_homD, v_homS, k_homO, k_homP, k_homC, k_homU, v_p4, k_p1, k_p2, k_p3, k_p4, k_p5, v_Eqs, k_Eqs, v_Eqd, k_Eqd, v_Eqb, k_Eqb, v_Nes, k_Nes, v_Ned, k_Ned, v_Neb, k_Neb, v_ss, k_ss,
  oEq_d, oNe_d, eqD_i, eqD_s, oIx_t, oIx_l, oIx_s, oIn_t, oIn_l, oIn_s, lst_d, lstH_d, seq_l, seq_t, seq_s, val_d, toD_lst, toD_leaf, cLen_1, cAbs_1, cMax_2, cMin_2, cInt_b, cInt_i, cList_1, oI0_d, oB0_d, tru_b, tru_l, tru_s, oRep_k, strsOf_map, intsOf_map, inD_strs, inD_2, inD_3, inD_4, atI_0, atI_1, atI_2, atI_3, mApp, gC, bYes, parz, postz,
  Option.bind_some, Option.map_some, Option.getD_some, List.getElem?_cons_zero, List.getElem?_cons_succ, List.set_cons_zero, List.set_cons_succ, List.length_cons, List.length_nil, List.length_set, List.cons_append, List.nil_append, List.replicate_succ, List.replicate_zero, List.length_map, Nat.reduceAdd, Nat.zero_add, Nat.reduceLeDiff, Nat.reduceLT, Nat.reduceEqDiff, sizeLine_eq, Int.cast_ofNat_Int, Int.reduceEq, Int.reduceLT, Int.reduceLE, Int.reduceAdd, Int.reduceSub, Int.reduceMul, Int.reduceNeg, Int.reducePow, Int.reduceToNat, ↓reduceIte, if_true, if_false, decide_true, decide_false, Bool.not_true, Bool.not_false, Bool.true_and, Bool.and_true, Bool.false_and, Bool.false_eq_true, reduceCtorEq, Option.isSome_some,
  nm_head_tail, nm_head_skip, nm_head_chop, nm_head_reverse, nm_head_uniq, nm_head_sort, nmP_head, nmS_head, nm_tail_head, nm_tail_skip, nm_tail_chop, nm_tail_reverse, nm_tail_uniq, nm_tail_sort, nmP_tail, nmS_tail, nm_skip_head, nm_skip_tail, nm_skip_chop, nm_skip_reverse, nm_skip_uniq, nm_skip_sort, nmP_skip, nmS_skip, nm_chop_head, nm_chop_tail, nm_chop_skip, nm_chop_reverse, nm_chop_uniq, nm_chop_sort, nmP_chop, nmS_chop, nm_reverse_head, nm_reverse_tail, nm_reverse_skip, nm_reverse_chop, nm_reverse_uniq, nm_reverse_sort, nmP_reverse, nmS_reverse, nm_uniq_head, nm_uniq_tail, nm_uniq_skip, nm_uniq_chop, nm_uniq_reverse, nm_uniq_sort, nmP_uniq, nmS_uniq, nm_sort_head, nm_sort_tail, nm_sort_skip, nm_sort_chop, nm_sort_reverse, nm_sort_uniq, nmP_sort, nmS_sort, PR.PLAIN_d, PR.SLICING_d]
  rw [List.take_length]
theorem c_shaped (c : Cm) : SeqAt.shaped c.d = true := by
  cases c <;> simp [Cm.d, SeqAt.shaped, PyData.canLay0, PyData.canLayAll0, PyData.depth, PyData.depthAll] <;> decide +kernel
theorem w_shaped {x : MM.S} (h : PyData.strOk x = true) : SeqAt.shaped (.tuple [.str x]) = true := by
  simp [SeqAt.shaped, PyData.canLay0, PyData.canLayAll0, PyData.depth, PyData.depthAll, h]
theorem eqv_rev (c : Cm) : PyData.eqv c.d (.tuple [.str "reverse"]) = decide (c = .rev) := by
  cases c <;> simp [Cm.d, PyData.eqv, PyData.eqvAll] <;> decide
theorem eqv_uniq (c : Cm) : PyData.eqv c.d (.tuple [.str "uniq"]) = decide (c = .uniq) := by
  cases c <;> simp [Cm.d, PyData.eqv, PyData.eqvAll] <;> decide
theorem eqv_sort (c : Cm) : PyData.eqv c.d (.tuple [.str "sort"]) = decide (c = .sort) := by
  cases c <;> simp [Cm.d, PyData.eqv, PyData.eqvAll] <;> decide
theorem eqD_c (c : Cm) {x : MM.S} (h : PyData.strOk x = true) : eqD c.d (.tuple [.str x]) = some (PyData.eqv c.d (.tuple [.str x])) := by
  have h1 := c_shaped c
  have h2 := w_shaped h
  have : eqD c.d (.tuple [.str x]) = if SeqAt.shaped c.d = true ∧ SeqAt.shaped (.tuple [.str x]) = true then some (PyData.eqv c.d (.tuple [.str x])) else none := by cases c <;> rfl
  rw [this, if_pos ⟨h1, h2⟩]
theorem apply_ok {c : Cm} (ok : c.ok) {xs : List MM.S} (sz : xs.length < 1000) : F__apply [.dat c.d, .dat (.list (xs.map .str))] = some (.own (.lst ((c.app xs).map .str)), [.un, .un]) := by
  have sl : xs.length < sizeLine := by rw [sizeLine_eq]; omega
  have er : eqD c.d (.tuple [.str "reverse"]) = some (decide (c = .rev)) := by rw [eqD_c c (by decide +kernel), eqv_rev]
  have eu : eqD c.d (.tuple [.str "uniq"]) = some (decide (c = .uniq)) := by rw [eqD_c c (by decide +kernel), eqv_uniq]
  have es : eqD c.d (.tuple [.str "sort"]) = some (decide (c = .sort)) := by rw [eqD_c c (by decide +kernel), eqv_sort]
  unfold F__apply g__apply
  by_cases h1 : c = .rev
  · subst h1
    simp only [er, kb_some, kb_none, km_some, kml_some, v_xD, k_xD, v_gX, k_gXd, k_gXs, v_gG, k_gG, v_gR, k_gRd, k_gRo, v_lR, k_lRo, v_gBin, k_bin1, k_bin2, v_lBin, k_lb1, k_lb2, v_gUn, k_un, u_negI, v_bT, k_bT, v_bNot, k_bNot, v_bAnd, k_andT, k_andF, v_bOr, k_orT, k_orF, v_bTru, k_tru, v_gIf, k_ifT, k_ifF, v_lIf, k_lifT, k_lifF, v_gAnd, k_gAndT, k_gAndF, v_gOr, k_gOrT, k_gOrF, v_gNot, k_gNot, v_gCh, k_ch1, k_ch2, k_ch3T, k_ch3F, k_ch4, v_dN, v_dC, k_dC, k_dC2, v_aN, v_aC, k_aC, k_aC2, v_aSw, k_sw, v_aOne, k_one, v_gTup, k_tup, v_lLst, k_lst, v_gCb, k_cb, v_lCb, k_lcb, v_oN, v_oY, k_oY, v_lSl, k_sl1, k_sl2, k_sl3, v_lRev, k_rev, v_sSeq, k_seqN, k_seqR, k_seqB, k_seqC, v_sN, v_sB, v_sC, v_sV, v_sRN, v_sSet, k_set, v_sOwn, k_own, v_sSetR, k_setRd, k_setRo, v_sAsg, k_asg, k_nx, v_sDrop, k_drop, v_sDropR, k_dropR, v_sRet, k_ret, v_sRetG, k_retG, v_sRetR, k_retR, v_sRetV, k_retVd, k_retVo, v_sIf, k_sifT, k_sifF, v_sAug, k_aug1, k_aug2, v_sPar, k_par, v_hName, v_hNil, v_hCons, v_hTup, v_hSub, k_sub1, k_sub2, k_sub3, v_sFor, k_for, v_iLst, k_iL, v_iTup, k_iT, v_iRg1, k_iR1, v_iRg2, k_iR2, v_iEn, k_iE, v_lLc, k_lc, v_rCall, k_cl1, k_cl2, k_cl3, v_gLm, k_lm1, k_lm2, k_lm3, v_run, k_runR, k_runN, v_len0, v_lenD, v_lenS, k_lenO, k_lenP, k_lenC, v_xVar, k_varD, k_varOf, k_varPf, k_varOl, k_varPl, k_varC, k_varOi, k_varPi, k_varOo, k_varPo, v_frz, k_frzO, k_frzP, v_lstAt, k_atO, k_atP, v_putAt, k_putO, k_putP, v_lstS, k_lsO, k_lsP, k_lsC, v_lstHS, v_valS, k_valO, k_valP, v_homN, v_homD, v_homS, k_homO, k_homP, k_homC, k_homU, v_p4, k_p1, k_p2, k_p3, k_p4, k_p5, v_Eqs, k_Eqs, v_Eqd, k_Eqd, v_Eqb, k_Eqb, v_Nes, k_Nes, v_Ned, k_Ned, v_Neb, k_Neb, v_ss, k_ss,
  oEq_d, oNe_d, eqD_i, eqD_s, oIx_t, oIx_l, oIx_s, oIn_t, oIn_l, oIn_s, lst_d, lstH_d, seq_l, seq_t, seq_s, val_d, toD_lst, toD_leaf, cLen_1, cAbs_1, cMax_2, cMin_2, cInt_b, cInt_i, cList_1, oI0_d, oB0_d, tru_b, tru_l, tru_s, oRep_k, strsOf_map, intsOf_map, inD_strs, inD_2, inD_3, inD_4, atI_0, atI_1, atI_2, atI_3, mApp, gC, bYes, parz, postz,
  Option.bind_some, Option.map_some, Option.getD_some, List.getElem?_cons_zero, List.getElem?_cons_succ, List.set_cons_zero, List.set_cons_succ, List.length_cons, List.length_nil, List.length_set, List.cons_append, List.nil_append, List.replicate_succ, List.replicate_zero, List.length_map, Nat.reduceAdd, Nat.zero_add, Nat.reduceLeDiff, Nat.reduceLT, Nat.reduceEqDiff, sizeLine_eq, Int.cast_ofNat_Int, Int.reduceEq, Int.reduceLT, Int.reduceLE, Int.reduceAdd, Int.reduceSub, Int.reduceMul, Int.reduceNeg, Int.reducePow, Int.reduceToNat, ↓reduceIte, if_true, if_false, decide_true, decide_false, Bool.not_true, Bool.not_false, Bool.true_and, Bool.and_true, Bool.false_and, Bool.false_eq_true, reduceCtorEq, Option.isSome_some,
  nm_head_tail, nm_head_skip, nm_head_chop, nm_head_reverse, nm_head_uniq, nm_head_sort, nmP_head, nmS_head, nm_tail_head, nm_tail_skip, nm_tail_chop, nm_tail_reverse, nm_tail_uniq, nm_tail_sort, nmP_tail, nmS_tail, nm_skip_head, nm_skip_tail, nm_skip_chop, nm_skip_reverse, nm_skip_uniq, nm_skip_sort, nmP_skip, nmS_skip, nm_chop_head, nm_chop_tail, nm_chop_skip, nm_chop_reverse, nm_chop_uniq, nm_chop_sort, nmP_chop, nmS_chop, nm_reverse_head, nm_reverse_tail, nm_reverse_skip, nm_reverse_chop, nm_reverse_uniq, nm_reverse_sort, nmP_reverse, nmS_reverse, nm_uniq_head, nm_uniq_tail, nm_uniq_skip, nm_uniq_chop, nm_uniq_reverse, nm_uniq_sort, nmP_uniq, nmS_uniq, nm_sort_head, nm_sort_tail, nm_sort_skip, nm_sort_chop, nm_sort_reverse, nm_sort_uniq, nmP_sort, nmS_sort, PR.PLAIN_d, PR.SLICING_d]
    rw [← List.map_reverse]
    rfl
  by_cases h2 : c = .uniq
  · subst h2
    have l1 : lcL (hName 2) bYes e0__apply [2] (xs.map .str) [] [.dat Cm.uniq.d, .dat (.list (xs.map .str)), .un, .un, .un, .un] = some (((xs.map .str).filter fun _ => true).map fun d => .tuple [d, .int 1], [.dat Cm.uniq.d, .dat (.list (xs.map .str)), .un, .un, .un, .un]) := by
      refine lcL_map (fun _ => true) _ rfl (by rw [List.length_map]; exact Nat.le_of_lt sl) fun d hd => ?_
      refine' ⟨_, rfl, _, rfl, ?_⟩
      rw [if_pos rfl]
      refine' ⟨_, ?h1, ?h2⟩
      case h1 =>
        unfold e0__apply
        simp only [wipeE, kb_some, kb_none, km_some, kml_some, v_xD, k_xD, v_gX, k_gXd, k_gXs, v_gG, k_gG, v_gR, k_gRd, k_gRo, v_lR, k_lRo, v_gBin, k_bin1, k_bin2, v_lBin, k_lb1, k_lb2, v_gUn, k_un, u_negI, v_bT, k_bT, v_bNot, k_bNot, v_bAnd, k_andT, k_andF, v_bOr, k_orT, k_orF, v_bTru, k_tru, v_gIf, k_ifT, k_ifF, v_lIf, k_lifT, k_lifF, v_gAnd, k_gAndT, k_gAndF, v_gOr, k_gOrT, k_gOrF, v_gNot, k_gNot, v_gCh, k_ch1, k_ch2, k_ch3T, k_ch3F, k_ch4, v_dN, v_dC, k_dC, k_dC2, v_aN, v_aC, k_aC, k_aC2, v_aSw, k_sw, v_aOne, k_one, v_gTup, k_tup, v_lLst, k_lst, v_gCb, k_cb, v_lCb, k_lcb, v_oN, v_oY, k_oY, v_lSl, k_sl1, k_sl2, k_sl3, v_lRev, k_rev, v_sSeq, k_seqN, k_seqR, k_seqB, k_seqC, v_sN, v_sB, v_sC, v_sV, v_sRN, v_sSet, k_set, v_sOwn, k_own, v_sSetR, k_setRd, k_setRo, v_sAsg, k_asg, k_nx, v_sDrop, k_drop, v_sDropR, k_dropR, v_sRet, k_ret, v_sRetG, k_retG, v_sRetR, k_retR, v_sRetV, k_retVd, k_retVo, v_sIf, k_sifT, k_sifF, v_sAug, k_aug1, k_aug2, v_sPar, k_par, v_hName, v_hNil, v_hCons, v_hTup, v_hSub, k_sub1, k_sub2, k_sub3, v_sFor, k_for, v_iLst, k_iL, v_iTup, k_iT, v_iRg1, k_iR1, v_iRg2, k_iR2, v_iEn, k_iE, v_lLc, k_lc, v_rCall, k_cl1, k_cl2, k_cl3, v_gLm, k_lm1, k_lm2, k_lm3, v_run, k_runR, k_runN, v_len0, v_lenD, v_lenS, k_lenO, k_lenP, k_lenC, v_xVar, k_varD, k_varOf, k_varPf, k_varOl, k_varPl, k_varC, k_varOi, k_varPi, k_varOo, k_varPo, v_frz, k_frzO, k_frzP, v_lstAt, k_atO, k_atP, v_putAt, k_putO, k_putP, v_lstS, k_lsO, k_lsP, k_lsC, v_lstHS, v_valS, k_valO, k_valP, v_homN, v_homD, v_homS, k_homO, k_homP, k_homC, k_homU, v_p4, k_p1, k_p2, k_p3, k_p4, k_p5, v_Eqs, k_Eqs, v_Eqd, k_Eqd, v_Eqb, k_Eqb, v_Nes, k_Nes, v_Ned, k_Ned, v_Neb, k_Neb, v_ss, k_ss,
  oEq_d, oNe_d, eqD_i, eqD_s, oIx_t, oIx_l, oIx_s, oIn_t, oIn_l, oIn_s, lst_d, lstH_d, seq_l, seq_t, seq_s, val_d, toD_lst, toD_leaf, cLen_1, cAbs_1, cMax_2, cMin_2, cInt_b, cInt_i, cList_1, oI0_d, oB0_d, tru_b, tru_l, tru_s, oRep_k, strsOf_map, intsOf_map, inD_strs, inD_2, inD_3, inD_4, atI_0, atI_1, atI_2, atI_3, mApp, gC, bYes, parz, postz,
  Option.bind_some, Option.map_some, Option.getD_some, List.getElem?_cons_zero, List.getElem?_cons_succ, List.set_cons_zero, List.set_cons_succ, List.length_cons, List.length_nil, List.length_set, List.cons_append, List.nil_append, List.replicate_succ, List.replicate_zero, List.length_map, Nat.reduceAdd, Nat.zero_add, Nat.reduceLeDiff, Nat.reduceLT, Nat.reduceEqDiff, sizeLine_eq, Int.cast_ofNat_Int, Int.reduceEq, Int.reduceLT, Int.reduceLE, Int.reduceAdd, Int.reduceSub, Int.reduceMul, Int.reduceNeg, Int.reducePow, Int.reduceToNat, ↓reduceIte, if_true, if_false, decide_true, decide_false, Bool.not_true, Bool.not_false, Bool.true_and, Bool.and_true, Bool.false_and, Bool.false_eq_true, reduceCtorEq, Option.isSome_some,
  nm_head_tail, nm_head_skip, nm_head_chop, nm_head_reverse, nm_head_uniq, nm_head_sort, nmP_head, nmS_head, nm_tail_head, nm_tail_skip, nm_tail_chop, nm_tail_reverse, nm_tail_uniq, nm_tail_sort, nmP_tail, nmS_tail, nm_skip_head, nm_skip_tail, nm_skip_chop, nm_skip_reverse, nm_skip_uniq, nm_skip_sort, nmP_skip, nmS_skip, nm_chop_head, nm_chop_tail, nm_chop_skip, nm_chop_reverse, nm_chop_uniq, nm_chop_sort, nmP_chop, nmS_chop, nm_reverse_head, nm_reverse_tail, nm_reverse_skip, nm_reverse_chop, nm_reverse_uniq, nm_reverse_sort, nmP_reverse, nmS_reverse, nm_uniq_head, nm_uniq_tail, nm_uniq_skip, nm_uniq_chop, nm_uniq_reverse, nm_uniq_sort, nmP_uniq, nmS_uniq, nm_sort_head, nm_sort_tail, nm_sort_skip, nm_sort_chop, nm_sort_reverse, nm_sort_uniq, nmP_sort, nmS_sort, PR.PLAIN_d, PR.SLICING_d]
        exact rfl
      case h2 => rfl
    have fe : ((xs.map PyData.str).filter fun _ => true).map (fun d => PyData.tuple [d, .int 1]) = (xs.map fun x => ((x, 1) : Rn)).map runD := by
      rw [List.filter_eq_self.mpr (fun _ _ => rfl), List.map_map, List.map_map]
      rfl
    have hm := merged_ok (rs := xs.map fun x => ((x, 1) : Rn)) (by rw [List.length_map]; exact sl)
    have rr : ∀ rs : List Rn, PyData.list (rs.map runD) = runsD rs := fun _ => rfl
    have pl : (pack (xs.map fun x => ((x, 1) : Rn))).length < sizeLine := Nat.lt_of_le_of_lt (pack_len _) (by rw [List.length_map]; exact sl)
    have l2 : lcL (hTup 2 (hCons (hName 2) (hCons (hName 3) hNil))) bYes e1__apply [2, 3] ((pack (xs.map fun x => ((x, 1) : Rn))).map runD) [] [.dat Cm.uniq.d, .dat (.list (xs.map .str)), .un, .un, .un, .un] = some ((((pack (xs.map fun x => ((x, 1) : Rn))).map runD).filter fun _ => true).map fun d => match d with | .tuple [x, _] => x | y => y, [.dat Cm.uniq.d, .dat (.list (xs.map .str)), .un, .un, .un, .un]) := by
      refine lcL_map (fun _ => true) _ rfl (by rw [List.length_map]; exact Nat.le_of_lt pl) fun d hd => ?_
      obtain ⟨r, _, rfl⟩ := List.mem_map.mp hd
      refine' ⟨_, rfl, _, rfl, ?_⟩
      rw [if_pos rfl]
      refine' ⟨_, ?h1, ?h2⟩
      case h1 =>
        unfold e1__apply
        simp only [wipeE, kb_some, kb_none, km_some, kml_some, v_xD, k_xD, v_gX, k_gXd, k_gXs, v_gG, k_gG, v_gR, k_gRd, k_gRo, v_lR, k_lRo, v_gBin, k_bin1, k_bin2, v_lBin, k_lb1, k_lb2, v_gUn, k_un, u_negI, v_bT, k_bT, v_bNot, k_bNot, v_bAnd, k_andT, k_andF, v_bOr, k_orT, k_orF, v_bTru, k_tru, v_gIf, k_ifT, k_ifF, v_lIf, k_lifT, k_lifF, v_gAnd, k_gAndT, k_gAndF, v_gOr, k_gOrT, k_gOrF, v_gNot, k_gNot, v_gCh, k_ch1, k_ch2, k_ch3T, k_ch3F, k_ch4, v_dN, v_dC, k_dC, k_dC2, v_aN, v_aC, k_aC, k_aC2, v_aSw, k_sw, v_aOne, k_one, v_gTup, k_tup, v_lLst, k_lst, v_gCb, k_cb, v_lCb, k_lcb, v_oN, v_oY, k_oY, v_lSl, k_sl1, k_sl2, k_sl3, v_lRev, k_rev, v_sSeq, k_seqN, k_seqR, k_seqB, k_seqC, v_sN, v_sB, v_sC, v_sV, v_sRN, v_sSet, k_set, v_sOwn, k_own, v_sSetR, k_setRd, k_setRo, v_sAsg, k_asg, k_nx, v_sDrop, k_drop, v_sDropR, k_dropR, v_sRet, k_ret, v_sRetG, k_retG, v_sRetR, k_retR, v_sRetV, k_retVd, k_retVo, v_sIf, k_sifT, k_sifF, v_sAug, k_aug1, k_aug2, v_sPar, k_par, v_hName, v_hNil, v_hCons, v_hTup, v_hSub, k_sub1, k_sub2, k_sub3, v_sFor, k_for, v_iLst, k_iL, v_iTup, k_iT, v_iRg1, k_iR1, v_iRg2, k_iR2, v_iEn, k_iE, v_lLc, k_lc, v_rCall, k_cl1, k_cl2, k_cl3, v_gLm, k_lm1, k_lm2, k_lm3, v_run, k_runR, k_runN, v_len0, v_lenD, v_lenS, k_lenO, k_lenP, k_lenC, v_xVar, k_varD, k_varOf, k_varPf, k_varOl, k_varPl, k_varC, k_varOi, k_varPi, k_varOo, k_varPo, v_frz, k_frzO, k_frzP, v_lstAt, k_atO, k_atP, v_putAt, k_putO, k_putP, v_lstS, k_lsO, k_lsP, k_lsC, v_lstHS, v_valS, k_valO, k_valP, v_homN, v_homD, v_homS, k_homO, k_homP, k_homC, k_homU, v_p4, k_p1, k_p2, k_p3, k_p4, k_p5, v_Eqs, k_Eqs, v_Eqd, k_Eqd, v_Eqb, k_Eqb, v_Nes, k_Nes, v_Ned, k_Ned, v_Neb, k_Neb, v_ss, k_ss,
  oEq_d, oNe_d, eqD_i, eqD_s, oIx_t, oIx_l, oIx_s, oIn_t, oIn_l, oIn_s, lst_d, lstH_d, seq_l, seq_t, seq_s, val_d, toD_lst, toD_leaf, cLen_1, cAbs_1, cMax_2, cMin_2, cInt_b, cInt_i, cList_1, oI0_d, oB0_d, tru_b, tru_l, tru_s, oRep_k, strsOf_map, intsOf_map, inD_strs, inD_2, inD_3, inD_4, atI_0, atI_1, atI_2, atI_3, mApp, gC, bYes, parz, postz,
  Option.bind_some, Option.map_some, Option.getD_some, List.getElem?_cons_zero, List.getElem?_cons_succ, List.set_cons_zero, List.set_cons_succ, List.length_cons, List.length_nil, List.length_set, List.cons_append, List.nil_append, List.replicate_succ, List.replicate_zero, List.length_map, Nat.reduceAdd, Nat.zero_add, Nat.reduceLeDiff, Nat.reduceLT, Nat.reduceEqDiff, sizeLine_eq, Int.cast_ofNat_Int, Int.reduceEq, Int.reduceLT, Int.reduceLE, Int.reduceAdd, Int.reduceSub, Int.reduceMul, Int.reduceNeg, Int.reducePow, Int.reduceToNat, ↓reduceIte, if_true, if_false, decide_true, decide_false, Bool.not_true, Bool.not_false, Bool.true_and, Bool.and_true, Bool.false_and, Bool.false_eq_true, reduceCtorEq, Option.isSome_some,
  nm_head_tail, nm_head_skip, nm_head_chop, nm_head_reverse, nm_head_uniq, nm_head_sort, nmP_head, nmS_head, nm_tail_head, nm_tail_skip, nm_tail_chop, nm_tail_reverse, nm_tail_uniq, nm_tail_sort, nmP_tail, nmS_tail, nm_skip_head, nm_skip_tail, nm_skip_chop, nm_skip_reverse, nm_skip_uniq, nm_skip_sort, nmP_skip, nmS_skip, nm_chop_head, nm_chop_tail, nm_chop_skip, nm_chop_reverse, nm_chop_uniq, nm_chop_sort, nmP_chop, nmS_chop, nm_reverse_head, nm_reverse_tail, nm_reverse_skip, nm_reverse_chop, nm_reverse_uniq, nm_reverse_sort, nmP_reverse, nmS_reverse, nm_uniq_head, nm_uniq_tail, nm_uniq_skip, nm_uniq_chop, nm_uniq_reverse, nm_uniq_sort, nmP_uniq, nmS_uniq, nm_sort_head, nm_sort_tail, nm_sort_skip, nm_sort_chop, nm_sort_reverse, nm_sort_uniq, nmP_sort, nmS_sort, PR.PLAIN_d, PR.SLICING_d]
        exact rfl
      case h2 => rfl
    simp only [er, eu, h1, l1, fe, rr, hm, kb_some, kb_none, km_some, kml_some, v_xD, k_xD, v_gX, k_gXd, k_gXs, v_gG, k_gG, v_gR, k_gRd, k_gRo, v_lR, k_lRo, v_gBin, k_bin1, k_bin2, v_lBin, k_lb1, k_lb2, v_gUn, k_un, u_negI, v_bT, k_bT, v_bNot, k_bNot, v_bAnd, k_andT, k_andF, v_bOr, k_orT, k_orF, v_bTru, k_tru, v_gIf, k_ifT, k_ifF, v_lIf, k_lifT, k_lifF, v_gAnd, k_gAndT, k_gAndF, v_gOr, k_gOrT, k_gOrF, v_gNot, k_gNot, v_gCh, k_ch1, k_ch2, k_ch3T, k_ch3F, k_ch4, v_dN, v_dC, k_dC, k_dC2, v_aN, v_aC, k_aC, k_aC2, v_aSw, k_sw, v_aOne, k_one, v_gTup, k_tup, v_lLst, k_lst, v_gCb, k_cb, v_lCb, k_lcb, v_oN, v_oY, k_oY, v_lSl, k_sl1, k_sl2, k_sl3, v_lRev, k_rev, v_sSeq, k_seqN, k_seqR, k_seqB, k_seqC, v_sN, v_sB, v_sC, v_sV, v_sRN, v_sSet, k_set, v_sOwn, k_own, v_sSetR, k_setRd, k_setRo, v_sAsg, k_asg, k_nx, v_sDrop, k_drop, v_sDropR, k_dropR, v_sRet, k_ret, v_sRetG, k_retG, v_sRetR, k_retR, v_sRetV, k_retVd, k_retVo, v_sIf, k_sifT, k_sifF, v_sAug, k_aug1, k_aug2, v_sPar, k_par, v_hName, v_hNil, v_hCons, v_hTup, v_hSub, k_sub1, k_sub2, k_sub3, v_sFor, k_for, v_iLst, k_iL, v_iTup, k_iT, v_iRg1, k_iR1, v_iRg2, k_iR2, v_iEn, k_iE, v_lLc, k_lc, v_rCall, k_cl1, k_cl2, k_cl3, v_gLm, k_lm1, k_lm2, k_lm3, v_run, k_runR, k_runN, v_len0, v_lenD, v_lenS, k_lenO, k_lenP, k_lenC, v_xVar, k_varD, k_varOf, k_varPf, k_varOl, k_varPl, k_varC, k_varOi, k_varPi, k_varOo, k_varPo, v_frz, k_frzO, k_frzP, v_lstAt, k_atO, k_atP, v_putAt, k_putO, k_putP, v_lstS, k_lsO, k_lsP, k_lsC, v_lstHS, v_valS, k_valO, k_valP, v_homN, v_homD, v_homS, k_homO, k_homP, k_homC, k_homU, v_p4, k_p1, k_p2, k_p3, k_p4, k_p5, v_Eqs, k_Eqs, v_Eqd, k_Eqd, v_Eqb, k_Eqb, v_Nes, k_Nes, v_Ned, k_Ned, v_Neb, k_Neb, v_ss, k_ss,
  oEq_d, oNe_d, eqD_i, eqD_s, oIx_t, oIx_l, oIx_s, oIn_t, oIn_l, oIn_s, lst_d, lstH_d, seq_l, seq_t, seq_s, val_d, toD_lst, toD_leaf, cLen_1, cAbs_1, cMax_2, cMin_2, cInt_b, cInt_i, cList_1, oI0_d, oB0_d, tru_b, tru_l, tru_s, oRep_k, strsOf_map, intsOf_map, inD_strs, inD_2, inD_3, inD_4, atI_0, atI_1, atI_2, atI_3, mApp, gC, bYes, parz, postz,
  Option.bind_some, Option.map_some, Option.getD_some, List.getElem?_cons_zero, List.getElem?_cons_succ, List.set_cons_zero, List.set_cons_succ, List.length_cons, List.length_nil, List.length_set, List.cons_append, List.nil_append, List.replicate_succ, List.replicate_zero, List.length_map, Nat.reduceAdd, Nat.zero_add, Nat.reduceLeDiff, Nat.reduceLT, Nat.reduceEqDiff, sizeLine_eq, Int.cast_ofNat_Int, Int.reduceEq, Int.reduceLT, Int.reduceLE, Int.reduceAdd, Int.reduceSub, Int.reduceMul, Int.reduceNeg, Int.reducePow, Int.reduceToNat, ↓reduceIte, if_true, if_false, decide_true, decide_false, Bool.not_true, Bool.not_false, Bool.true_and, Bool.and_true, Bool.false_and, Bool.false_eq_true, reduceCtorEq, Option.isSome_some,
  nm_head_tail, nm_head_skip, nm_head_chop, nm_head_reverse, nm_head_uniq, nm_head_sort, nmP_head, nmS_head, nm_tail_head, nm_tail_skip, nm_tail_chop, nm_tail_reverse, nm_tail_uniq, nm_tail_sort, nmP_tail, nmS_tail, nm_skip_head, nm_skip_tail, nm_skip_chop, nm_skip_reverse, nm_skip_uniq, nm_skip_sort, nmP_skip, nmS_skip, nm_chop_head, nm_chop_tail, nm_chop_skip, nm_chop_reverse, nm_chop_uniq, nm_chop_sort, nmP_chop, nmS_chop, nm_reverse_head, nm_reverse_tail, nm_reverse_skip, nm_reverse_chop, nm_reverse_uniq, nm_reverse_sort, nmP_reverse, nmS_reverse, nm_uniq_head, nm_uniq_tail, nm_uniq_skip, nm_uniq_chop, nm_uniq_reverse, nm_uniq_sort, nmP_uniq, nmS_uniq, nm_sort_head, nm_sort_tail, nm_sort_skip, nm_sort_chop, nm_sort_reverse, nm_sort_uniq, nmP_sort, nmS_sort, PR.PLAIN_d, PR.SLICING_d]
    simp only [← rr, l2, kb_some, kb_none, km_some, kml_some, v_xD, k_xD, v_gX, k_gXd, k_gXs, v_gG, k_gG, v_gR, k_gRd, k_gRo, v_lR, k_lRo, v_gBin, k_bin1, k_bin2, v_lBin, k_lb1, k_lb2, v_gUn, k_un, u_negI, v_bT, k_bT, v_bNot, k_bNot, v_bAnd, k_andT, k_andF, v_bOr, k_orT, k_orF, v_bTru, k_tru, v_gIf, k_ifT, k_ifF, v_lIf, k_lifT, k_lifF, v_gAnd, k_gAndT, k_gAndF, v_gOr, k_gOrT, k_gOrF, v_gNot, k_gNot, v_gCh, k_ch1, k_ch2, k_ch3T, k_ch3F, k_ch4, v_dN, v_dC, k_dC, k_dC2, v_aN, v_aC, k_aC, k_aC2, v_aSw, k_sw, v_aOne, k_one, v_gTup, k_tup, v_lLst, k_lst, v_gCb, k_cb, v_lCb, k_lcb, v_oN, v_oY, k_oY, v_lSl, k_sl1, k_sl2, k_sl3, v_lRev, k_rev, v_sSeq, k_seqN, k_seqR, k_seqB, k_seqC, v_sN, v_sB, v_sC, v_sV, v_sRN, v_sSet, k_set, v_sOwn, k_own, v_sSetR, k_setRd, k_setRo, v_sAsg, k_asg, k_nx, v_sDrop, k_drop, v_sDropR, k_dropR, v_sRet, k_ret, v_sRetG, k_retG, v_sRetR, k_retR, v_sRetV, k_retVd, k_retVo, v_sIf, k_sifT, k_sifF, v_sAug, k_aug1, k_aug2, v_sPar, k_par, v_hName, v_hNil, v_hCons, v_hTup, v_hSub, k_sub1, k_sub2, k_sub3, v_sFor, k_for, v_iLst, k_iL, v_iTup, k_iT, v_iRg1, k_iR1, v_iRg2, k_iR2, v_iEn, k_iE, v_lLc, k_lc, v_rCall, k_cl1, k_cl2, k_cl3, v_gLm, k_lm1, k_lm2, k_lm3, v_run, k_runR, k_runN, v_len0, v_lenD, v_lenS, k_lenO, k_lenP, k_lenC, v_xVar, k_varD, k_varOf, k_varPf, k_varOl, k_varPl, k_varC, k_varOi, k_varPi, k_varOo, k_varPo, v_frz, k_frzO, k_frzP, v_lstAt, k_atO, k_atP, v_putAt, k_putO, k_putP, v_lstS, k_lsO, k_lsP, k_lsC, v_lstHS, v_valS, k_valO, k_valP, v_homN, v_homD, v_homS, k_homO, k_homP, k_homC, k_homU, v_p4, k_p1, k_p2, k_p3, k_p4, k_p5, v_Eqs, k_Eqs, v_Eqd, k_Eqd, v_Eqb, k_Eqb, v_Nes, k_Nes, v_Ned, k_Ned, v_Neb, k_Neb, v_ss, k_ss,
  oEq_d, oNe_d, eqD_i, eqD_s, oIx_t, oIx_l, oIx_s, oIn_t, oIn_l, oIn_s, lst_d, lstH_d, seq_l, seq_t, seq_s, val_d, toD_lst, toD_leaf, cLen_1, cAbs_1, cMax_2, cMin_2, cInt_b, cInt_i, cList_1, oI0_d, oB0_d, tru_b, tru_l, tru_s, oRep_k, strsOf_map, intsOf_map, inD_strs, inD_2, inD_3, inD_4, atI_0, atI_1, atI_2, atI_3, mApp, gC, bYes, parz, postz,
  Option.bind_some, Option.map_some, Option.getD_some, List.getElem?_cons_zero, List.getElem?_cons_succ, List.set_cons_zero, List.set_cons_succ, List.length_cons, List.length_nil, List.length_set, List.cons_append, List.nil_append, List.replicate_succ, List.replicate_zero, List.length_map, Nat.reduceAdd, Nat.zero_add, Nat.reduceLeDiff, Nat.reduceLT, Nat.reduceEqDiff, sizeLine_eq, Int.cast_ofNat_Int, Int.reduceEq, Int.reduceLT, Int.reduceLE, Int.reduceAdd, Int.reduceSub, Int.reduceMul, Int.reduceNeg, Int.reducePow, Int.reduceToNat, ↓reduceIte, if_true, if_false, decide_true, decide_false, Bool.not_true, Bool.not_false, Bool.true_and, Bool.and_true, Bool.false_and, Bool.false_eq_true, reduceCtorEq, Option.isSome_some,
  nm_head_tail, nm_head_skip, nm_head_chop, nm_head_reverse, nm_head_uniq, nm_head_sort, nmP_head, nmS_head, nm_tail_head, nm_tail_skip, nm_tail_chop, nm_tail_reverse, nm_tail_uniq, nm_tail_sort, nmP_tail, nmS_tail, nm_skip_head, nm_skip_tail, nm_skip_chop, nm_skip_reverse, nm_skip_uniq, nm_skip_sort, nmP_skip, nmS_skip, nm_chop_head, nm_chop_tail, nm_chop_skip, nm_chop_reverse, nm_chop_uniq, nm_chop_sort, nmP_chop, nmS_chop, nm_reverse_head, nm_reverse_tail, nm_reverse_skip, nm_reverse_chop, nm_reverse_uniq, nm_reverse_sort, nmP_reverse, nmS_reverse, nm_uniq_head, nm_uniq_tail, nm_uniq_skip, nm_uniq_chop, nm_uniq_reverse, nm_uniq_sort, nmP_uniq, nmS_uniq, nm_sort_head, nm_sort_tail, nm_sort_skip, nm_sort_chop, nm_sort_reverse, nm_sort_uniq, nmP_sort, nmS_sort, PR.PLAIN_d, PR.SLICING_d]
    congr 3
    rw [List.filter_eq_self.mpr (fun _ _ => rfl), List.map_map]
    show Ow.lst ((pack (xs.map fun x => (x, 1))).map (fun r => PyData.str r.1)) = .lst ((uq xs).map .str)
    have e2 := congrArg (List.map PyData.str) (pack_fst (xs.map fun x => (x, 1)))
    rw [List.map_map, List.map_map] at e2
    have e3 : (fun r : Rn => PyData.str r.1) = PyData.str ∘ (fun x : Rn => x.1) := rfl
    rw [e3, e2]
    have e4 : xs.map ((fun x : Rn => x.1) ∘ fun x => ((x, 1) : Rn)) = xs.map id := rfl
    rw [e4, List.map_id]
  by_cases h3 : c = .sort
  · subst h3
    have hz : xs.length + 1 < scanBound := Nat.lt_trans (Nat.succ_lt_succ sz) (by decide)
    simp only [er, eu, es, h1, h2, k_ss2 hz, kb_some, kb_none, km_some, kml_some, v_xD, k_xD, v_gX, k_gXd, k_gXs, v_gG, k_gG, v_gR, k_gRd, k_gRo, v_lR, k_lRo, v_gBin, k_bin1, k_bin2, v_lBin, k_lb1, k_lb2, v_gUn, k_un, u_negI, v_bT, k_bT, v_bNot, k_bNot, v_bAnd, k_andT, k_andF, v_bOr, k_orT, k_orF, v_bTru, k_tru, v_gIf, k_ifT, k_ifF, v_lIf, k_lifT, k_lifF, v_gAnd, k_gAndT, k_gAndF, v_gOr, k_gOrT, k_gOrF, v_gNot, k_gNot, v_gCh, k_ch1, k_ch2, k_ch3T, k_ch3F, k_ch4, v_dN, v_dC, k_dC, k_dC2, v_aN, v_aC, k_aC, k_aC2, v_aSw, k_sw, v_aOne, k_one, v_gTup, k_tup, v_lLst, k_lst, v_gCb, k_cb, v_lCb, k_lcb, v_oN, v_oY, k_oY, v_lSl, k_sl1, k_sl2, k_sl3, v_lRev, k_rev, v_sSeq, k_seqN, k_seqR, k_seqB, k_seqC, v_sN, v_sB, v_sC, v_sV, v_sRN, v_sSet, k_set, v_sOwn, k_own, v_sSetR, k_setRd, k_setRo, v_sAsg, k_asg, k_nx, v_sDrop, k_drop, v_sDropR, k_dropR, v_sRet, k_ret, v_sRetG, k_retG, v_sRetR, k_retR, v_sRetV, k_retVd, k_retVo, v_sIf, k_sifT, k_sifF, v_sAug, k_aug1, k_aug2, v_sPar, k_par, v_hName, v_hNil, v_hCons, v_hTup, v_hSub, k_sub1, k_sub2, k_sub3, v_sFor, k_for, v_iLst, k_iL, v_iTup, k_iT, v_iRg1, k_iR1, v_iRg2, k_iR2, v_iEn, k_iE, v_lLc, k_lc, v_rCall, k_cl1, k_cl2, k_cl3, v_gLm, k_lm1, k_lm2, k_lm3, v_run, k_runR, k_runN, v_len0, v_lenD, v_lenS, k_lenO, k_lenP, k_lenC, v_xVar, k_varD, k_varOf, k_varPf, k_varOl, k_varPl, k_varC, k_varOi, k_varPi, k_varOo, k_varPo, v_frz, k_frzO, k_frzP, v_lstAt, k_atO, k_atP, v_putAt, k_putO, k_putP, v_lstS, k_lsO, k_lsP, k_lsC, v_lstHS, v_valS, k_valO, k_valP, v_homN, v_homD, v_homS, k_homO, k_homP, k_homC, k_homU, v_p4, k_p1, k_p2, k_p3, k_p4, k_p5, v_Eqs, k_Eqs, v_Eqd, k_Eqd, v_Eqb, k_Eqb, v_Nes, k_Nes, v_Ned, k_Ned, v_Neb, k_Neb, v_ss, k_ss,
  oEq_d, oNe_d, eqD_i, eqD_s, oIx_t, oIx_l, oIx_s, oIn_t, oIn_l, oIn_s, lst_d, lstH_d, seq_l, seq_t, seq_s, val_d, toD_lst, toD_leaf, cLen_1, cAbs_1, cMax_2, cMin_2, cInt_b, cInt_i, cList_1, oI0_d, oB0_d, tru_b, tru_l, tru_s, oRep_k, strsOf_map, intsOf_map, inD_strs, inD_2, inD_3, inD_4, atI_0, atI_1, atI_2, atI_3, mApp, gC, bYes, parz, postz,
  Option.bind_some, Option.map_some, Option.getD_some, List.getElem?_cons_zero, List.getElem?_cons_succ, List.set_cons_zero, List.set_cons_succ, List.length_cons, List.length_nil, List.length_set, List.cons_append, List.nil_append, List.replicate_succ, List.replicate_zero, List.length_map, Nat.reduceAdd, Nat.zero_add, Nat.reduceLeDiff, Nat.reduceLT, Nat.reduceEqDiff, sizeLine_eq, Int.cast_ofNat_Int, Int.reduceEq, Int.reduceLT, Int.reduceLE, Int.reduceAdd, Int.reduceSub, Int.reduceMul, Int.reduceNeg, Int.reducePow, Int.reduceToNat, ↓reduceIte, if_true, if_false, decide_true, decide_false, Bool.not_true, Bool.not_false, Bool.true_and, Bool.and_true, Bool.false_and, Bool.false_eq_true, reduceCtorEq, Option.isSome_some,
  nm_head_tail, nm_head_skip, nm_head_chop, nm_head_reverse, nm_head_uniq, nm_head_sort, nmP_head, nmS_head, nm_tail_head, nm_tail_skip, nm_tail_chop, nm_tail_reverse, nm_tail_uniq, nm_tail_sort, nmP_tail, nmS_tail, nm_skip_head, nm_skip_tail, nm_skip_chop, nm_skip_reverse, nm_skip_uniq, nm_skip_sort, nmP_skip, nmS_skip, nm_chop_head, nm_chop_tail, nm_chop_skip, nm_chop_reverse, nm_chop_uniq, nm_chop_sort, nmP_chop, nmS_chop, nm_reverse_head, nm_reverse_tail, nm_reverse_skip, nm_reverse_chop, nm_reverse_uniq, nm_reverse_sort, nmP_reverse, nmS_reverse, nm_uniq_head, nm_uniq_tail, nm_uniq_skip, nm_uniq_chop, nm_uniq_reverse, nm_uniq_sort, nmP_uniq, nmS_uniq, nm_sort_head, nm_sort_tail, nm_sort_skip, nm_sort_chop, nm_sort_reverse, nm_sort_uniq, nmP_sort, nmS_sort, PR.PLAIN_d, PR.SLICING_d]
    rfl
  · have hs : c.slc := by cases c <;> first | trivial | exact absurd rfl h1 | exact absurd rfl h2 | exact absurd rfl h3
    simp only [er, eu, es, h1, h2, h3, kept_range_ok hs, kb_some, kb_none, km_some, kml_some, v_xD, k_xD, v_gX, k_gXd, k_gXs, v_gG, k_gG, v_gR, k_gRd, k_gRo, v_lR, k_lRo, v_gBin, k_bin1, k_bin2, v_lBin, k_lb1, k_lb2, v_gUn, k_un, u_negI, v_bT, k_bT, v_bNot, k_bNot, v_bAnd, k_andT, k_andF, v_bOr, k_orT, k_orF, v_bTru, k_tru, v_gIf, k_ifT, k_ifF, v_lIf, k_lifT, k_lifF, v_gAnd, k_gAndT, k_gAndF, v_gOr, k_gOrT, k_gOrF, v_gNot, k_gNot, v_gCh, k_ch1, k_ch2, k_ch3T, k_ch3F, k_ch4, v_dN, v_dC, k_dC, k_dC2, v_aN, v_aC, k_aC, k_aC2, v_aSw, k_sw, v_aOne, k_one, v_gTup, k_tup, v_lLst, k_lst, v_gCb, k_cb, v_lCb, k_lcb, v_oN, v_oY, k_oY, v_lSl, k_sl1, k_sl2, k_sl3, v_lRev, k_rev, v_sSeq, k_seqN, k_seqR, k_seqB, k_seqC, v_sN, v_sB, v_sC, v_sV, v_sRN, v_sSet, k_set, v_sOwn, k_own, v_sSetR, k_setRd, k_setRo, v_sAsg, k_asg, k_nx, v_sDrop, k_drop, v_sDropR, k_dropR, v_sRet, k_ret, v_sRetG, k_retG, v_sRetR, k_retR, v_sRetV, k_retVd, k_retVo, v_sIf, k_sifT, k_sifF, v_sAug, k_aug1, k_aug2, v_sPar, k_par, v_hName, v_hNil, v_hCons, v_hTup, v_hSub, k_sub1, k_sub2, k_sub3, v_sFor, k_for, v_iLst, k_iL, v_iTup, k_iT, v_iRg1, k_iR1, v_iRg2, k_iR2, v_iEn, k_iE, v_lLc, k_lc, v_rCall, k_cl1, k_cl2, k_cl3, v_gLm, k_lm1, k_lm2, k_lm3, v_run, k_runR, k_runN, v_len0, v_lenD, v_lenS, k_lenO, k_lenP, k_lenC, v_xVar, k_varD, k_varOf, k_varPf, k_varOl, k_varPl, k_varC, k_varOi, k_varPi, k_varOo, k_varPo, v_frz, k_frzO, k_frzP, v_lstAt, k_atO, k_atP, v_putAt, k_putO, k_putP, v_lstS, k_lsO, k_lsP, k_lsC, v_lstHS, v_valS, k_valO, k_valP, v_homN, v_homD, v_homS, k_homO, k_homP, k_homC, k_homU, v_p4, k_p1, k_p2, k_p3, k_p4, k_p5, v_Eqs, k_Eqs, v_Eqd, k_Eqd, v_Eqb, k_Eqb, v_Nes, k_Nes, v_Ned, k_Ned, v_Neb, k_Neb, v_ss, k_ss,
  oEq_d, oNe_d, eqD_i, eqD_s, oIx_t, oIx_l, oIx_s, oIn_t, oIn_l, oIn_s, lst_d, lstH_d, seq_l, seq_t, seq_s, val_d, toD_lst, toD_leaf, cLen_1, cAbs_1, cMax_2, cMin_2, cInt_b, cInt_i, cList_1, oI0_d, oB0_d, tru_b, tru_l, tru_s, oRep_k, strsOf_map, intsOf_map, inD_strs, inD_2, inD_3, inD_4, atI_0, atI_1, atI_2, atI_3, mApp, gC, bYes, parz, postz,
  Option.bind_some, Option.map_some, Option.getD_some, List.getElem?_cons_zero, List.getElem?_cons_succ, List.set_cons_zero, List.set_cons_succ, List.length_cons, List.length_nil, List.length_set, List.cons_append, List.nil_append, List.replicate_succ, List.replicate_zero, List.length_map, Nat.reduceAdd, Nat.zero_add, Nat.reduceLeDiff, Nat.reduceLT, Nat.reduceEqDiff, sizeLine_eq, Int.cast_ofNat_Int, Int.reduceEq, Int.reduceLT, Int.reduceLE, Int.reduceAdd, Int.reduceSub, Int.reduceMul, Int.reduceNeg, Int.reducePow, Int.reduceToNat, ↓reduceIte, if_true, if_false, decide_true, decide_false, Bool.not_true, Bool.not_false, Bool.true_and, Bool.and_true, Bool.false_and, Bool.false_eq_true, reduceCtorEq, Option.isSome_some,
  nm_head_tail, nm_head_skip, nm_head_chop, nm_head_reverse, nm_head_uniq, nm_head_sort, nmP_head, nmS_head, nm_tail_head, nm_tail_skip, nm_tail_chop, nm_tail_reverse, nm_tail_uniq, nm_tail_sort, nmP_tail, nmS_tail, nm_skip_head, nm_skip_tail, nm_skip_chop, nm_skip_reverse, nm_skip_uniq, nm_skip_sort, nmP_skip, nmS_skip, nm_chop_head, nm_chop_tail, nm_chop_skip, nm_chop_reverse, nm_chop_uniq, nm_chop_sort, nmP_chop, nmS_chop, nm_reverse_head, nm_reverse_tail, nm_reverse_skip, nm_reverse_chop, nm_reverse_uniq, nm_reverse_sort, nmP_reverse, nmS_reverse, nm_uniq_head, nm_uniq_tail, nm_uniq_skip, nm_uniq_chop, nm_uniq_reverse, nm_uniq_sort, nmP_uniq, nmS_uniq, nm_sort_head, nm_sort_tail, nm_sort_skip, nm_sort_chop, nm_sort_reverse, nm_sort_uniq, nmP_sort, nmS_sort, PR.PLAIN_d, PR.SLICING_d]
    rw [slc_cut hs ok]
theorem run_ok {cs : List Cm} (ok : ∀ c ∈ cs, c.ok) {xs : List MM.S} (sz : xs.length < 1000) : F_run [.dat (.list (cs.map Cm.d)), .dat (.list (xs.map .str))] = some (.own (.lst ((runP cs xs).map .str)), [.un, .un]) := by
  obtain ⟨e2, h1, a, rfl⟩ := forL_by (h := hName 3) (g := l0_run) (ds := cs.map Cm.d) (e := [.dat (.list (cs.map Cm.d)), .dat (.list (xs.map .str)), .own (.lst (xs.map .str)), .un])
    (fun i e => ∃ a, e = [.dat (.list (cs.map Cm.d)), .dat (.list (xs.map .str)), .own (.lst ((runP (cs.take i) xs).map .str)), a]) ⟨_, rfl⟩ fun i d e hd ⟨a, he⟩ => by
      subst he
      rw [List.getElem?_map] at hd
      cases hc : cs[i]? with
      | none => rw [hc] at hd; cases hd
      | some c =>
        rw [hc] at hd
        cases hd
        have ht : cs.take (i + 1) = cs.take i ++ [c] := by rw [List.take_add_one, hc]; rfl
        have hl : (runP (cs.take i) xs).length < 1000 := Nat.lt_of_le_of_lt (run_len _ _) sz
        refine' ⟨_, rfl, _, ?h2, _, Or.inl rfl, ?h3⟩
        case h2 =>
          unfold l0_run
          simp only [apply_ok (ok c (List.mem_of_getElem? hc)) hl, kb_some, kb_none, km_some, kml_some, v_xD, k_xD, v_gX, k_gXd, k_gXs, v_gG, k_gG, v_gR, k_gRd, k_gRo, v_lR, k_lRo, v_gBin, k_bin1, k_bin2, v_lBin, k_lb1, k_lb2, v_gUn, k_un, u_negI, v_bT, k_bT, v_bNot, k_bNot, v_bAnd, k_andT, k_andF, v_bOr, k_orT, k_orF, v_bTru, k_tru, v_gIf, k_ifT, k_ifF, v_lIf, k_lifT, k_lifF, v_gAnd, k_gAndT, k_gAndF, v_gOr, k_gOrT, k_gOrF, v_gNot, k_gNot, v_gCh, k_ch1, k_ch2, k_ch3T, k_ch3F, k_ch4, v_dN, v_dC, k_dC, k_dC2, v_aN, v_aC, k_aC, k_aC2, v_aSw, k_sw, v_aOne, k_one, v_gTup, k_tup, v_lLst, k_lst, v_gCb, k_cb, v_lCb, k_lcb, v_oN, v_oY, k_oY, v_lSl, k_sl1, k_sl2, k_sl3, v_lRev, k_rev, v_sSeq, k_seqN, k_seqR, k_seqB, k_seqC, v_sN, v_sB, v_sC, v_sV, v_sRN, v_sSet, k_set, v_sOwn, k_own, v_sSetR, k_setRd, k_setRo, v_sAsg, k_asg, k_nx, v_sDrop, k_drop, v_sDropR, k_dropR, v_sRet, k_ret, v_sRetG, k_retG, v_sRetR, k_retR, v_sRetV, k_retVd, k_retVo, v_sIf, k_sifT, k_sifF, v_sAug, k_aug1, k_aug2, v_sPar, k_par, v_hName, v_hNil, v_hCons, v_hTup, v_hSub, k_sub1, k_sub2, k_sub3, v_sFor, k_for, v_iLst, k_iL, v_iTup, k_iT, v_iRg1, k_iR1, v_iRg2, k_iR2, v_iEn, k_iE, v_lLc, k_lc, v_rCall, k_cl1, k_cl2, k_cl3, v_gLm, k_lm1, k_lm2, k_lm3, v_run, k_runR, k_runN, v_len0, v_lenD, v_lenS, k_lenO, k_lenP, k_lenC, v_xVar, k_varD, k_varOf, k_varPf, k_varOl, k_varPl, k_varC, k_varOi, k_varPi, k_varOo, k_varPo, v_frz, k_frzO, k_frzP, v_lstAt, k_atO, k_atP, v_putAt, k_putO, k_putP, v_lstS, k_lsO, k_lsP, k_lsC, v_lstHS, v_valS, k_valO, k_valP, v_homN, v_homD, v_homS, k_homO, k_homP, k_homC, k_homU, v_p4, k_p1, k_p2, k_p3, k_p4, k_p5, v_Eqs, k_Eqs, v_Eqd, k_Eqd, v_Eqb, k_Eqb, v_Nes, k_Nes, v_Ned, k_Ned, v_Neb, k_Neb, v_ss, k_ss,
  oEq_d, oNe_d, eqD_i, eqD_s, oIx_t, oIx_l, oIx_s, oIn_t, oIn_l, oIn_s, lst_d, lstH_d, seq_l, seq_t, seq_s, val_d, toD_lst, toD_leaf, cLen_1, cAbs_1, cMax_2, cMin_2, cInt_b, cInt_i, cList_1, oI0_d, oB0_d, tru_b, tru_l, tru_s, oRep_k, strsOf_map, intsOf_map, inD_strs, inD_2, inD_3, inD_4, atI_0, atI_1, atI_2, atI_3, mApp, gC, bYes, parz, postz,
  Option.bind_some, Option.map_some, Option.getD_some, List.getElem?_cons_zero, List.getElem?_cons_succ, List.set_cons_zero, List.set_cons_succ, List.length_cons, List.length_nil, List.length_set, List.cons_append, List.nil_append, List.replicate_succ, List.replicate_zero, List.length_map, Nat.reduceAdd, Nat.zero_add, Nat.reduceLeDiff, Nat.reduceLT, Nat.reduceEqDiff, sizeLine_eq, Int.cast_ofNat_Int, Int.reduceEq, Int.reduceLT, Int.reduceLE, Int.reduceAdd, Int.reduceSub, Int.reduceMul, Int.reduceNeg, Int.reducePow, Int.reduceToNat, ↓reduceIte, if_true, if_false, decide_true, decide_false, Bool.not_true, Bool.not_false, Bool.true_and, Bool.and_true, Bool.false_and, Bool.false_eq_true, reduceCtorEq, Option.isSome_some,
  nm_head_tail, nm_head_skip, nm_head_chop, nm_head_reverse, nm_head_uniq, nm_head_sort, nmP_head, nmS_head, nm_tail_head, nm_tail_skip, nm_tail_chop, nm_tail_reverse, nm_tail_uniq, nm_tail_sort, nmP_tail, nmS_tail, nm_skip_head, nm_skip_tail, nm_skip_chop, nm_skip_reverse, nm_skip_uniq, nm_skip_sort, nmP_skip, nmS_skip, nm_chop_head, nm_chop_tail, nm_chop_skip, nm_chop_reverse, nm_chop_uniq, nm_chop_sort, nmP_chop, nmS_chop, nm_reverse_head, nm_reverse_tail, nm_reverse_skip, nm_reverse_chop, nm_reverse_uniq, nm_reverse_sort, nmP_reverse, nmS_reverse, nm_uniq_head, nm_uniq_tail, nm_uniq_skip, nm_uniq_chop, nm_uniq_reverse, nm_uniq_sort, nmP_uniq, nmS_uniq, nm_sort_head, nm_sort_tail, nm_sort_skip, nm_sort_chop, nm_sort_reverse, nm_sort_uniq, nmP_sort, nmS_sort, PR.PLAIN_d, PR.SLICING_d]
          exact rfl
        case h3 => exact ⟨_, by rw [ht, runP_snoc]⟩
  unfold F_run g_run
  simp only [check_pipeline_ok ok, h1, kb_some, kb_none, km_some, kml_some, v_xD, k_xD, v_gX, k_gXd, k_gXs, v_gG, k_gG, v_gR, k_gRd, k_gRo, v_lR, k_lRo, v_gBin, k_bin1, k_bin2, v_lBin, k_lb1, k_lb2, v_gUn, k_un, u_negI, v_bT, k_bT, v_bNot, k_bNot, v_bAnd, k_andT, k_andF, v_bOr, k_orT, k_orF, v_bTru, k_tru, v_gIf, k_ifT, k_ifF, v_lIf, k_lifT, k_lifF, v_gAnd, k_gAndT, k_gAndF, v_gOr, k_gOrT, k_gOrF, v_gNot, k_gNot, v_gCh, k_ch1, k_ch2, k_ch3T, k_ch3F, k_ch4, v_dN, v_dC, k_dC, k_dC2, v_aN, v_aC, k_aC, k_aC2, v_aSw, k_sw, v_aOne, k_one, v_gTup, k_tup, v_lLst, k_lst, v_gCb, k_cb, v_lCb, k_lcb, v_oN, v_oY, k_oY, v_lSl, k_sl1, k_sl2, k_sl3, v_lRev, k_rev, v_sSeq, k_seqN, k_seqR, k_seqB, k_seqC, v_sN, v_sB, v_sC, v_sV, v_sRN, v_sSet, k_set, v_sOwn, k_own, v_sSetR, k_setRd, k_setRo, v_sAsg, k_asg, k_nx, v_sDrop, k_drop, v_sDropR, k_dropR, v_sRet, k_ret, v_sRetG, k_retG, v_sRetR, k_retR, v_sRetV, k_retVd, k_retVo, v_sIf, k_sifT, k_sifF, v_sAug, k_aug1, k_aug2, v_sPar, k_par, v_hName, v_hNil, v_hCons, v_hTup, v_hSub, k_sub1, k_sub2, k_sub3, v_sFor, k_for, v_iLst, k_iL, v_iTup, k_iT, v_iRg1, k_iR1, v_iRg2, k_iR2, v_iEn, k_iE, v_lLc, k_lc, v_rCall, k_cl1, k_cl2, k_cl3, v_gLm, k_lm1, k_lm2, k_lm3, v_run, k_runR, k_runN, v_len0, v_lenD, v_lenS, k_lenO, k_lenP, k_lenC, v_xVar, k_varD, k_varOf, k_varPf, k_varOl, k_varPl, k_varC, k_varOi, k_varPi, k_varOo, k_varPo, v_frz, k_frzO, k_frzP, v_lstAt, k_atO, k_atP, v_putAt, k_putO, k_putP, v_lstS, k_lsO, k_lsP, k_lsC, v_lstHS, v_valS, k_valO, k_valP, v_homN, v_homD, v_homS, k_homO, k_homP, k_homC, k_homU, v_p4, k_p1, k_p2, k_p3, k_p4, k_p5, v_Eqs, k_Eqs, v_Eqd, k_Eqd, v_Eqb, k_Eqb, v_Nes, k_Nes, v_Ned, k_Ned, v_Neb, k_Neb, v_ss, k_ss,
  oEq_d, oNe_d, eqD_i, eqD_s, oIx_t, oIx_l, oIx_s, oIn_t, oIn_l, oIn_s, lst_d, lstH_d, seq_l, seq_t, seq_s, val_d, toD_lst, toD_leaf, cLen_1, cAbs_1, cMax_2, cMin_2, cInt_b, cInt_i, cList_1, oI0_d, oB0_d, tru_b, tru_l, tru_s, oRep_k, strsOf_map, intsOf_map, inD_strs, inD_2, inD_3, inD_4, atI_0, atI_1, atI_2, atI_3, mApp, gC, bYes, parz, postz,
  Option.bind_some, Option.map_some, Option.getD_some, List.getElem?_cons_zero, List.getElem?_cons_succ, List.set_cons_zero, List.set_cons_succ, List.length_cons, List.length_nil, List.length_set, List.cons_append, List.nil_append, List.replicate_succ, List.replicate_zero, List.length_map, Nat.reduceAdd, Nat.zero_add, Nat.reduceLeDiff, Nat.reduceLT, Nat.reduceEqDiff, sizeLine_eq, Int.cast_ofNat_Int, Int.reduceEq, Int.reduceLT, Int.reduceLE, Int.reduceAdd, Int.reduceSub, Int.reduceMul, Int.reduceNeg, Int.reducePow, Int.reduceToNat, ↓reduceIte, if_true, if_false, decide_true, decide_false, Bool.not_true, Bool.not_false, Bool.true_and, Bool.and_true, Bool.false_and, Bool.false_eq_true, reduceCtorEq, Option.isSome_some,
  nm_head_tail, nm_head_skip, nm_head_chop, nm_head_reverse, nm_head_uniq, nm_head_sort, nmP_head, nmS_head, nm_tail_head, nm_tail_skip, nm_tail_chop, nm_tail_reverse, nm_tail_uniq, nm_tail_sort, nmP_tail, nmS_tail, nm_skip_head, nm_skip_tail, nm_skip_chop, nm_skip_reverse, nm_skip_uniq, nm_skip_sort, nmP_skip, nmS_skip, nm_chop_head, nm_chop_tail, nm_chop_skip, nm_chop_reverse, nm_chop_uniq, nm_chop_sort, nmP_chop, nmS_chop, nm_reverse_head, nm_reverse_tail, nm_reverse_skip, nm_reverse_chop, nm_reverse_uniq, nm_reverse_sort, nmP_reverse, nmS_reverse, nm_uniq_head, nm_uniq_tail, nm_uniq_skip, nm_uniq_chop, nm_uniq_reverse, nm_uniq_sort, nmP_uniq, nmS_uniq, nm_sort_head, nm_sort_tail, nm_sort_skip, nm_sort_chop, nm_sort_reverse, nm_sort_uniq, nmP_sort, nmS_sort, PR.PLAIN_d, PR.SLICING_d]
  rw [List.take_length]
end PR
namespace FA
open PySem PySem.Spec PyProof.Rows L2 DL PT
noncomputable section
def l0__law_rng : En → Option Out :=
    (sSeq (sSet 4 (gCb cAbs (aCons (xVar 3) aNil)))
    (sSeq (sIf (bT (gBin (oB0 fun i j => decide (j ≤ i)) (xVar 4) (xD (gBin (oInt CPowW fun i j => i ^ j.toNat) (xD (gC (.int 10))) (xD (gC (.int 18))))))) (sSet 1 (gBin (oI0 fun i j => i + j) (xD (gBin (oInt CMulW fun i j => i * j) (xVar 1) (xD (gBin (oInt CPowW fun i j => i ^ j.toNat) (xD (gC (.int 10))) (xD (gC (.int 60))))))) (xD (gBin (oInt (fun _ j => 0 < j) fun i j => i % j) (xVar 4) (xD (gBin (oInt CPowW fun i j => i ^ j.toNat) (xD (gC (.int 10))) (xD (gC (.int 60))))))))) sNext)
    (sSet 2 (gBin (oInt (fun _ j => 0 < j) fun i j => i % j) (xD (gBin (oI0 fun i j => i + j) (xD (gBin (oI0 fun i j => i + j) (xD (gBin (oInt CMulW fun i j => i * j) (xVar 2) (xD (gC (.int 1000003))))) (xD (gBin (oInt (fun _ j => 0 < j) fun i j => i % j) (xVar 3) (xD (gC (.int 2305843009213693921))))))) (xD (gC (.int 7))))) (xD (gC (.int 2305843009213693951)))))))
def g__law_rng : En → Option Out :=
    (sSeq (sAsg (gTup (dCons (gC (.int 0)) (dCons (gC (.int 88675123)) dNil))) (hTup 2 (hCons (hName 1) (hCons (hName 2) hNil))))
    (sSeq (sFor (iLst (gG (lSl (xVar 0) oNo (oYes (gC (.int 63)))))) (hName 3) l0__law_rng)
    (sRetG (lLst (dCons (gX (xVar 1)) (dCons (gX (xVar 2)) (dCons (gC (.int 0)) dNil)))))))
def F__law_rng : En → Option (Rx × En) := runF 1 4 g__law_rng
def g__law_draw : En → Option Out :=
    (sSeq (sIf (bT (gBin (oB0 fun i j => decide (j < i)) (xD (gBin oIx (xVar 0) (xD (gC (.int 0))))) (xD (gC (.int 0))))) (sSeq (sSet 2 (gBin (oInt (fun _ j => 0 < j) fun i j => i % j) (xD (gBin oIx (xVar 0) (xD (gC (.int 0))))) (xVar 1)))
    (sSeq (sAsg (gBin (oInt CDivW fun i j => i / j) (xD (gBin oIx (xVar 0) (xD (gC (.int 0))))) (xVar 1)) (hSub 0 (gC (.int 0))))
    (sRetV 2))) sNext)
    (sSeq (sAsg (gBin (oI0 fun i j => i + j) (xD (gBin oIx (xVar 0) (xD (gC (.int 2))))) (xD (gC (.int 1)))) (hSub 0 (gC (.int 2))))
    (sSeq (sSet 3 (gBin (oInt (fun _ j => 0 < j) fun i j => i % j) (xD (gBin (oInt CPowW fun i j => i ^ j.toNat) (xD (gBin (oI0 fun i j => i + j) (xD (gBin oIx (xVar 0) (xD (gC (.int 1))))) (xD (gBin (oInt CMulW fun i j => i * j) (xD (gC (.int 998244353))) (xD (gBin oIx (xVar 0) (xD (gC (.int 2))))))))) (xD (gC (.int 3))))) (xD (gC (.int 162259276829213363391578010288127)))))
    (sSeq (sSet 3 (gBin (oInt (fun _ j => 0 < j) fun i j => i % j) (xD (gBin (oInt CPowW fun i j => i ^ j.toNat) (xD (gBin (oI0 fun i j => i + j) (xVar 3) (xD (gBin (oInt CMulW fun i j => i * j) (xD (gC (.int 32452843))) (xD (gBin oIx (xVar 0) (xD (gC (.int 2))))))))) (xD (gC (.int 3))))) (xD (gC (.int 170141183460469231731687303715884105727)))))
    (sRet (gBin (oInt (fun _ j => 0 < j) fun i j => i % j) (xD (gBin (oInt CDivW fun i j => i / j) (xVar 3) (xD (gC (.int 1048576))))) (xVar 1)))))))
def F__law_draw : En → Option (Rx × En) := runF 2 2 g__law_draw
def e0__law_kinds : En → Option (PyData × En) :=
    (gLm 1 mPopAt (dCons (gR (rCall FA.F__law_draw (aCons (xVar 0) (aCons (xD (gCb cLen (aCons (xVar 1) aNil))) aNil)))) dNil))
def g__law_kinds : En → Option Out :=
    (sSeq (sOwn 1 (lLst (dCons (gC (.str "a")) (dCons (gC (.str "b")) (dCons (gC (.str "ab")) (dCons (gC (.str "")) (dCons (gC (.str "B")) (dCons (gC (.str "z z")) (dCons (gC (.str "~")) (dCons (gC (.str "0")) (dCons (gC (.str "10")) (dCons (gC (.str "aaaaaaaaaaaaaaaaaaaa")) (dCons (gC (.str " ")) (dCons (gC (.str "|")) (dCons (gC (.str "-")) dNil)))))))))))))))
    (sSeq (sOwn 1 (lBin oCat (xVar 1) (xD (gG (lLst (dCons (gC (.str "9")) (dCons (gC (.str "2")) (dCons (gC (.str "02")) (dCons (gC (.str " a")) (dCons (gC (.str "_")) (dCons (gC (.str "^")) (dCons (gC (.str "100")) dNil))))))))))))
    (sRetG (lLc (iRg1 (dCons (gBin (oI0 fun i j => i + j) (xD (gC (.int 1))) (xD (gR (rCall FA.F__law_draw (aCons (xVar 0) (aCons (xD (gBin oIx (xD (gG (lLst (dCons (gC (.int 5)) (dCons (gC (.int 13)) dNil))))) (xD (gR (rCall FA.F__law_draw (aCons (xVar 0) (aCons (xD (gC (.int 2))) aNil))))))) aNil)))))) dNil)) (hName 2) bYes e0__law_kinds [2]))))
def F__law_kinds : En → Option (Rx × En) := runF 1 2 g__law_kinds
def l0__law_items : En → Option Out :=
    (sSeq (sSet 6 (gBin oIx (xVar 1) (xD (gR (rCall FA.F__law_draw (aCons (xVar 0) (aCons (xD (gCb cLen (aCons (xVar 1) aNil))) aNil)))))))
    (sSeq (sIf (bAnd (bT (gBin oEq (xVar 3) (xD (gC (.int 1))))) (bAnd (bT (gBin oNe (xVar 4) (xD (gG (lLst dNil))))) (bT (gBin (oB0 fun i j => decide (j < i)) (xD (gR (rCall FA.F__law_draw (aCons (xVar 0) (aCons (xD (gC (.int 4))) aNil))))) (xD (gC (.int 0))))))) (sSet 6 (gBin oIx (xVar 4) (xD (gUn uNeg (gC (.int 1)))))) sNext)
    (sSeq (sIf (bT (gBin oEq (xVar 3) (xD (gC (.int 2))))) (sSet 6 (gBin oIx (xVar 1) (xD (gBin (oInt (fun _ j => 0 < j) fun i j => i % j) (xVar 5) (xD (gCb cLen (aCons (xVar 1) aNil))))))) sNext)
    (sDrop (gLm 4 mApp (dCons (gX (xVar 6)) dNil))))))
def g__law_items : En → Option Out :=
    (sSeq (sSetR 3 (rCall FA.F__law_draw (aCons (xVar 0) (aCons (xD (gC (.int 3))) aNil))))
    (sSeq (sOwn 4 (lLst dNil))
    (sSeq (sFor (iRg1 (dCons (gR (rCall FA.F__law_draw (aCons (xVar 0) (aCons (xD (gBin (oI0 fun i j => i + j) (xVar 2) (xD (gC (.int 1))))) aNil)))) dNil)) (hName 5) l0__law_items)
    (sRetV 4))))
def F__law_items : En → Option (Rx × En) := runF 3 4 g__law_items
def g__law_command : En → Option Out :=
    (sSeq (sSet 2 (gBin oIx (xD (gG (lLst (dCons (gC (.str "head")) (dCons (gC (.str "tail")) (dCons (gC (.str "skip")) (dCons (gC (.str "chop")) (dCons (gC (.str "reverse")) (dCons (gC (.str "uniq")) (dCons (gC (.str "sort")) dNil)))))))))) (xD (gR (rCall FA.F__law_draw (aCons (xVar 0) (aCons (xD (gC (.int 7))) aNil)))))))
    (sSeq (sIf (bT (gBin (oIn false) (xVar 2) (xD (gTup (dCons (gC (.str "reverse")) (dCons (gC (.str "uniq")) (dCons (gC (.str "sort")) dNil))))))) (sRet (gTup (dCons (gX (xVar 2)) dNil))) sNext)
    (sSeq (sOwn 3 (lLst (dCons (gC (.int 0)) (dCons (gR (rCall FA.F__law_draw (aCons (xVar 0) (aCons (xD (gC (.int 4))) aNil)))) (dCons (gR (rCall FA.F__law_draw (aCons (xVar 0) (aCons (xD (gBin (oI0 fun i j => i + j) (xVar 1) (xD (gC (.int 3))))) aNil)))) (dCons (gCb cMax2 (aCons (xD (gC (.int 0))) (aCons (xD (gBin (oI0 fun i j => i - j) (xVar 1) (xD (gR (rCall FA.F__law_draw (aCons (xVar 0) (aCons (xD (gC (.int 4))) aNil))))))) aNil))) (dCons (gBin (oI0 fun i j => i - j) (xD (gBin (oInt CPowW fun i j => i ^ j.toNat) (xD (gC (.int 10))) (xD (gC (.int 30))))) (xD (gC (.int 1)))) dNil)))))))
    (sRet (gTup (dCons (gX (xVar 2)) (dCons (gBin oIx (xVar 3) (xD (gBin oIx (xD (gG (lLst (dCons (gC (.int 0)) (dCons (gC (.int 1)) (dCons (gC (.int 1)) (dCons (gC (.int 2)) (dCons (gC (.int 2)) (dCons (gC (.int 2)) (dCons (gC (.int 3)) (dCons (gC (.int 3)) (dCons (gC (.int 4)) dNil)))))))))))) (xD (gR (rCall FA.F__law_draw (aCons (xVar 0) (aCons (xD (gC (.int 9))) aNil)))))))) dNil)))))))
def F__law_command : En → Option (Rx × En) := runF 2 2 g__law_command
def e0__law_plan : En → Option (PyData × En) :=
    (gR (rCall FA.F__law_command (aCons (xVar 0) (aCons (xD (gX (xVar 2))) aNil))))
def g__law_plan : En → Option Out :=
    (sRetG (lLc (iRg1 (dCons (gR (rCall FA.F__law_draw (aCons (xVar 0) (aCons (xD (gBin (oI0 fun i j => i + j) (xVar 1) (xD (gC (.int 1))))) aNil)))) dNil)) (hName 3) bYes e0__law_plan [3]))
def F__law_plan : En → Option (Rx × En) := runF 3 1 g__law_plan
def e0__law_step : En → Option (PyData × En) :=
    (gBin oIx (xVar 1) (xD (gBin (oI0 fun i j => i - j) (xD (gBin (oI0 fun i j => i - j) (xVar 3) (xD (gC (.int 1))))) (xVar 5))))
def e1__law_step : En → Option (PyData × En) :=
    (gBin oIx (xVar 1) (xVar 5))
def c2__law_step : En → Option (Bool × En) :=
    (bOr (bT (gBin oEq (xVar 5) (xD (gC (.int 0))))) (bT (gBin oNe (xD (gBin oIx (xVar 1) (xVar 5))) (xD (gBin oIx (xVar 1) (xD (gBin (oI0 fun i j => i - j) (xVar 5) (xD (gC (.int 1))))))))))
def l3__law_step : En → Option Out :=
    (sIf (bT (gBin (oIn true) (xVar 7) (xVar 6))) (sDrop (gLm 6 mApp (dCons (gX (xVar 7)) dNil))) sNext)
def e4__law_step : En → Option (PyData × En) :=
    (gBin oIx (xVar 1) (xVar 5))
def c5__law_step : En → Option (Bool × En) :=
    (bT (gChain (oB0 fun i j => decide (i ≤ j)) (oB0 fun i j => decide (i < j)) (xVar 8) (xVar 5) (xVar 9)))
def g__law_step : En → Option Out :=
    (sSeq (sAsg (gTup (dCons (gBin oIx (xVar 0) (xD (gC (.int 0)))) (dCons (gCb cLen (aCons (xVar 1) aNil)) dNil))) (hTup 2 (hCons (hName 2) (hCons (hName 3) hNil))))
    (sSeq (sSet 4 (gIf (bT (gBin (oB0 fun i j => decide (j < i)) (xD (gCb cLen (aCons (xVar 0) aNil))) (xD (gC (.int 1))))) (gBin oIx (xVar 0) (xD (gC (.int 1)))) (gC (.int 0))))
    (sSeq (sIf (bT (gBin oEq (xVar 2) (xD (gC (.str "reverse"))))) (sRetG (lLc (iRg1 (dCons (gX (xVar 3)) dNil)) (hName 5) bYes e0__law_step [5])) sNext)
    (sSeq (sIf (bT (gBin oEq (xVar 2) (xD (gC (.str "uniq"))))) (sRetG (lLc (iRg1 (dCons (gX (xVar 3)) dNil)) (hName 5) c2__law_step e1__law_step [5])) sNext)
    (sSeq (sIf (bT (gBin oEq (xVar 2) (xD (gC (.str "sort"))))) (sSeq (sOwn 6 (lLst dNil))
    (sSeq (sFor (iLst (gX (xVar 1))) (hName 7) l3__law_step)
    (sRetG (lCb cSorted (aCons (xVar 6) aNil))))) sNext)
    (sSeq (sSet 8 (gPick4 "head" "chop" "skip" "tail" (gC (.int 0)) (gC (.int 0)) (gX (xVar 4)) (gBin (oI0 fun i j => i - j) (xVar 3) (xVar 4)) (gX (xVar 2))))
    (sSeq (sSet 9 (gPick4 "head" "chop" "skip" "tail" (gX (xVar 4)) (gBin (oI0 fun i j => i - j) (xVar 3) (xVar 4)) (gX (xVar 3)) (gX (xVar 3)) (gX (xVar 2))))
    (sRetG (lLc (iRg1 (dCons (gX (xVar 3)) dNil)) (hName 5) c5__law_step e4__law_step [5])))))))))
def F__law_step : En → Option (Rx × En) := runF 2 8 g__law_step
def l0__law_result : En → Option Out :=
    (sSetR 1 (rCall FA.F__law_step (aCons (xD (gX (xVar 2))) (aCons (xD (gX (xVar 1))) aNil))))
def g__law_result : En → Option Out :=
    (sSeq (sFor (iLst (gX (xVar 0))) (hName 2) l0__law_result)
    (sRetV 1))
def F__law_result : En → Option (Rx × En) := runF 2 1 g__law_result
end
end FA
namespace FA
open PySem PySem.Spec PyProof.Rows L2 DL PT MM
def Rg (n : Nat) (l : List PyData) : Prop := ∃ a b c : Int, l = [.int a, .int b, .int c] ∧ 0 ≤ a ∧ 0 ≤ b ∧ b < 2305843009213693951 ∧ 0 ≤ c ∧ c ≤ n
theorem Rg.le {n m : Nat} {l : List PyData} (h : Rg n l) (le : n ≤ m) : Rg m l := by
  obtain ⟨a, b, c, e, h1, h2, h3, h4, h5⟩ := h
  exact ⟨a, b, c, e, h1, h2, h3, h4, by omega⟩
theorem pow_ok {i : Int} {j : Int} (h0 : 0 ≤ j) (h1 : j ≤ 1000) (h : i.natAbs < 2 ^ 1000) : CPowW i j := ⟨h0, h1, h⟩
theorem mul_ok {i j : Int} (h1 : i.natAbs < 2 ^ 20000) (h2 : j.natAbs < 2 ^ 20000) : CMulW i j := wide_mul (a := 20000) (b := 20000) h1 h2 (by decide) (by decide) (by decide)
theorem div_ok {i j : Int} (h1 : 0 < j) (h2 : j.natAbs < 2 ^ 200) : CDivW i j := wide_div h1 h2 (by decide) (by decide)
theorem nab {i : Int} {n m : Nat} (h : i.natAbs < n) (l : n ≤ m) : i.natAbs < m := Nat.lt_of_lt_of_le h l
theorem p2 {n m : Nat} (h : n ≤ m) : 2 ^ n ≤ 2 ^ m := Nat.pow_le_pow_right (by decide) h
theorem cutD_map {α β : Type} {f : α → β} {xs : List α} {lo hi : Option Int} : DL.cutD (xs.map f) lo hi = (DL.cutD xs lo hi).map f := by
  unfold DL.cutD
  rw [List.length_map, List.map_take, List.map_drop]
theorem draw_ok {n : Nat} {l : List PyData} {lim : Int} (g : Rg n l) (l1 : 0 < lim) (l2 : lim < 2 ^ 200) (hn : n < 2 ^ 60) :
    ∃ r l', F__law_draw [.own (.lst l), .dat (.int lim)] = some (.dat (.int r), [.own (.lst l'), .un]) ∧ 0 ≤ r ∧ r < lim ∧ Rg (n + 1) l' := by
  obtain ⟨x, y, z, rfl, h1, h2, h3, h4, h5⟩ := g
  have nl : lim.natAbs < 2 ^ 200 := abs_pow (by omega) l2
  have ml : ∀ u : Int, 0 ≤ u % lim ∧ u % lim < lim := fun u => ⟨Int.emod_nonneg _ (by omega), Int.emod_lt_of_pos _ l1⟩
  have zb : z.natAbs < 2 ^ 61 := by omega
  have ix : ∀ {a b c : PyData}, ixN [a, b, c].length 0 = some 0 ∧ ixN [a, b, c].length 2 = some 2 := fun {a b c} => ⟨rfl, rfl⟩
  unfold F__law_draw g__law_draw
  by_cases hx : 0 < x
  · refine ⟨x % lim, [.int (x / lim), .int y, .int z], ?_, (ml x).1, (ml x).2, x / lim, y, z, rfl, Int.ediv_nonneg h1 (by omega), h2, h3, h4, by omega⟩
    simp only [hx, oInt_ok (C := fun _ j => 0 < j) l1, oInt_ok (div_ok l1 nl), ixN, Int.toNat_zero, kb_some, kb_none, km_some, kml_some, v_xD, k_xD, v_gX, k_gXd, k_gXs, v_gG, k_gG, v_gR, k_gRd, k_gRo, v_lR, k_lRo, v_gBin, k_bin1, k_bin2, v_lBin, k_lb1, k_lb2, v_gUn, k_un, u_negI, v_bT, k_bT, v_bNot, k_bNot, v_bAnd, k_andT, k_andF, v_bOr, k_orT, k_orF, v_bTru, k_tru, v_gIf, k_ifT, k_ifF, v_lIf, k_lifT, k_lifF, v_gAnd, k_gAndT, k_gAndF, v_gOr, k_gOrT, k_gOrF, v_gNot, k_gNot, v_gCh, k_ch1, k_ch2, k_ch3T, k_ch3F, k_ch4, v_dN, v_dC, k_dC, k_dC2, v_aN, v_aC, k_aC, k_aC2, v_aSw, k_sw, v_aOne, k_one, v_gTup, k_tup, v_lLst, k_lst, v_gCb, k_cb, v_lCb, k_lcb, v_oN, v_oY, k_oY, v_lSl, k_sl1, k_sl2, k_sl3, v_lRev, k_rev, v_sSeq, k_seqN, k_seqR, k_seqB, k_seqC, v_sN, v_sB, v_sC, v_sV, v_sRN, v_sSet, k_set, v_sOwn, k_own, v_sSetR, k_setRd, k_setRo, v_sAsg, k_asg, k_nx, v_sDrop, k_drop, v_sDropR, k_dropR, v_sRet, k_ret, v_sRetG, k_retG, v_sRetR, k_retR, v_sRetV, k_retVd, k_retVo, v_sIf, k_sifT, k_sifF, v_sAug, k_aug1, k_aug2, v_sPar, k_par, v_hName, v_hNil, v_hCons, v_hTup, v_hSub, k_sub1, k_sub2, k_sub3, v_sFor, k_for, v_iLst, k_iL, v_iTup, k_iT, v_iRg1, k_iR1, v_iRg2, k_iR2, v_iEn, k_iE, v_lLc, k_lc, v_rCall, k_cl1, k_cl2, k_cl3, v_gLm, k_lm1, k_lm2, k_lm3, v_run, k_runR, k_runN, v_len0, v_lenD, v_lenS, k_lenO, k_lenP, k_lenC, v_xVar, k_varD, k_varOf, k_varPf, k_varOl, k_varPl, k_varC, k_varOi, k_varPi, k_varOo, k_varPo, v_frz, k_frzO, k_frzP, v_lstAt, k_atO, k_atP, v_putAt, k_putO, k_putP, v_lstS, k_lsO, k_lsP, k_lsC, v_lstHS, v_valS, k_valO, k_valP, v_homN, v_homD, v_homS, k_homO, k_homP, k_homC, k_homU, v_p4, k_p1, k_p2, k_p3, k_p4, k_p5, v_Eqs, k_Eqs, v_Eqd, k_Eqd, v_Eqb, k_Eqb, v_Nes, k_Nes, v_Ned, k_Ned, v_Neb, k_Neb, v_ss, k_ss,
  oEq_d, oNe_d, eqD_i, eqD_s, oIx_t, oIx_l, oIx_s, oIn_t, oIn_l, oIn_s, lst_d, lstH_d, seq_l, seq_t, seq_s, val_d, toD_lst, toD_leaf, cLen_1, cAbs_1, cMax_2, cMin_2, cInt_b, cInt_i, cList_1, oI0_d, oB0_d, tru_b, tru_l, tru_s, oRep_k, strsOf_map, intsOf_map, inD_strs, inD_2, inD_3, inD_4, atI_0, atI_1, atI_2, atI_3, mApp, gC, bYes, parz, postz,
  Option.bind_some, Option.map_some, Option.getD_some, List.getElem?_cons_zero, List.getElem?_cons_succ, List.set_cons_zero, List.set_cons_succ, List.length_cons, List.length_nil, List.length_set, List.cons_append, List.nil_append, List.replicate_succ, List.replicate_zero, List.length_map, Nat.reduceAdd, Nat.zero_add, Nat.reduceLeDiff, Nat.reduceLT, Nat.reduceEqDiff, sizeLine_eq, Int.cast_ofNat_Int, Int.reduceEq, Int.reduceLT, Int.reduceLE, Int.reduceAdd, Int.reduceSub, Int.reduceMul, Int.reduceNeg, Int.reducePow, Int.reduceToNat, ↓reduceIte, if_true, if_false, decide_true, decide_false, Bool.not_true, Bool.not_false, Bool.true_and, Bool.and_true, Bool.false_and, Bool.false_eq_true, reduceCtorEq, Option.isSome_some,
  nm_head_tail, nm_head_skip, nm_head_chop, nm_head_reverse, nm_head_uniq, nm_head_sort, nmP_head, nmS_head, nm_tail_head, nm_tail_skip, nm_tail_chop, nm_tail_reverse, nm_tail_uniq, nm_tail_sort, nmP_tail, nmS_tail, nm_skip_head, nm_skip_tail, nm_skip_chop, nm_skip_reverse, nm_skip_uniq, nm_skip_sort, nmP_skip, nmS_skip, nm_chop_head, nm_chop_tail, nm_chop_skip, nm_chop_reverse, nm_chop_uniq, nm_chop_sort, nmP_chop, nmS_chop, nm_reverse_head, nm_reverse_tail, nm_reverse_skip, nm_reverse_chop, nm_reverse_uniq, nm_reverse_sort, nmP_reverse, nmS_reverse, nm_uniq_head, nm_uniq_tail, nm_uniq_skip, nm_uniq_chop, nm_uniq_reverse, nm_uniq_sort, nmP_uniq, nmS_uniq, nm_sort_head, nm_sort_tail, nm_sort_skip, nm_sort_chop, nm_sort_reverse, nm_sort_uniq, nmP_sort, nmS_sort, PR.PLAIN_d, PR.SLICING_d]
  · have c1 : CMulW 998244353 (z + 1) := mul_ok (nab (by decide : (998244353 : Int).natAbs < 2 ^ 60) (p2 (by decide))) (nab (by omega : (z + 1).natAbs < 2 ^ 62) (p2 (by decide)))
    have b1 : (y + 998244353 * (z + 1)).natAbs < 2 ^ 100 := by omega
    have c2 : CPowW (y + 998244353 * (z + 1)) 3 := pow_ok (by decide) (by decide) (nab b1 (p2 (by decide)))
    have p1 : (0 : Int) < 162259276829213363391578010288127 := by decide
    have p3 : (0 : Int) < 170141183460469231731687303715884105727 := by decide
    have c3 : CMulW 32452843 (z + 1) := mul_ok (nab (by decide : (32452843 : Int).natAbs < 2 ^ 60) (p2 (by decide))) (nab (by omega : (z + 1).natAbs < 2 ^ 62) (p2 (by decide)))
    have m1 : ∀ u : Int, 0 ≤ u % 162259276829213363391578010288127 ∧ u % 162259276829213363391578010288127 < 162259276829213363391578010288127 := fun u => ⟨Int.emod_nonneg _ (by decide), Int.emod_lt_of_pos _ (by decide)⟩
    have c4 : CPowW ((y + 998244353 * (z + 1)) ^ Int.toNat 3 % 162259276829213363391578010288127 + 32452843 * (z + 1)) 3 := by
      refine pow_ok (by decide) (by decide) (nab (n := 2 ^ 120) ?_ (p2 (by decide)))
      have := m1 ((y + 998244353 * (z + 1)) ^ Int.toNat 3)
      omega
    have c5 : CDivW (((y + 998244353 * (z + 1)) ^ Int.toNat 3 % 162259276829213363391578010288127 + 32452843 * (z + 1)) ^ Int.toNat 3 % 170141183460469231731687303715884105727) 1048576 := div_ok (by decide) (nab (by decide : (1048576 : Int).natAbs < 2 ^ 60) (p2 (by decide)))
    have t3 : Int.toNat 3 = 3 := rfl
    rw [t3] at c4 c5
    refine ⟨(((y + 998244353 * (z + 1)) ^ 3 % 162259276829213363391578010288127 + 32452843 * (z + 1)) ^ 3 % 170141183460469231731687303715884105727) / 1048576 % lim, [.int x, .int y, .int (z + 1)], ?_, (ml _).1, (ml _).2, x, y, z + 1, rfl, h1, h2, h3, by omega, by omega⟩
    simp only [hx, oInt_ok (C := fun _ j => 0 < j) l1, oInt_ok (C := fun _ j => 0 < j) p1, oInt_ok (C := fun _ j => 0 < j) p3, oInt_ok c1, oInt_ok c2, oInt_ok c3, oInt_ok c4, oInt_ok c5, ixN, Int.toNat_zero, kb_some, kb_none, km_some, kml_some, v_xD, k_xD, v_gX, k_gXd, k_gXs, v_gG, k_gG, v_gR, k_gRd, k_gRo, v_lR, k_lRo, v_gBin, k_bin1, k_bin2, v_lBin, k_lb1, k_lb2, v_gUn, k_un, u_negI, v_bT, k_bT, v_bNot, k_bNot, v_bAnd, k_andT, k_andF, v_bOr, k_orT, k_orF, v_bTru, k_tru, v_gIf, k_ifT, k_ifF, v_lIf, k_lifT, k_lifF, v_gAnd, k_gAndT, k_gAndF, v_gOr, k_gOrT, k_gOrF, v_gNot, k_gNot, v_gCh, k_ch1, k_ch2, k_ch3T, k_ch3F, k_ch4, v_dN, v_dC, k_dC, k_dC2, v_aN, v_aC, k_aC, k_aC2, v_aSw, k_sw, v_aOne, k_one, v_gTup, k_tup, v_lLst, k_lst, v_gCb, k_cb, v_lCb, k_lcb, v_oN, v_oY, k_oY, v_lSl, k_sl1, k_sl2, k_sl3, v_lRev, k_rev, v_sSeq, k_seqN, k_seqR, k_seqB, k_seqC, v_sN, v_sB, v_sC, v_sV, v_sRN, v_sSet, k_set, v_sOwn, k_own, v_sSetR, k_setRd, k_setRo, v_sAsg, k_asg, k_nx, v_sDrop, k_drop, v_sDropR, k_dropR, v_sRet, k_ret, v_sRetG, k_retG, v_sRetR, k_retR, v_sRetV, k_retVd, k_retVo, v_sIf, k_sifT, k_sifF, v_sAug, k_aug1, k_aug2, v_sPar, k_par, v_hName, v_hNil, v_hCons, v_hTup, v_hSub, k_sub1, k_sub2, k_sub3, v_sFor, k_for, v_iLst, k_iL, v_iTup, k_iT, v_iRg1, k_iR1, v_iRg2, k_iR2, v_iEn, k_iE, v_lLc, k_lc, v_rCall, k_cl1, k_cl2, k_cl3, v_gLm, k_lm1, k_lm2, k_lm3, v_run, k_runR, k_runN, v_len0, v_lenD, v_lenS, k_lenO, k_lenP, k_lenC, v_xVar, k_varD, k_varOf, k_varPf, k_varOl, k_varPl, k_varC, k_varOi, k_varPi, k_varOo, k_varPo, v_frz, k_frzO, k_frzP, v_lstAt, k_atO, k_atP, v_putAt, k_putO, k_putP, v_lstS, k_lsO, k_lsP, k_lsC, v_lstHS, v_valS, k_valO, k_valP, v_homN, v_homD, v_homS, k_homO, k_homP, k_homC, k_homU, v_p4, k_p1, k_p2, k_p3, k_p4, k_p5, v_Eqs, k_Eqs, v_Eqd, k_Eqd, v_Eqb, k_Eqb, v_Nes, k_Nes, v_Ned, k_Ned, v_Neb, k_Neb, v_ss, k_ss,
  oEq_d, oNe_d, eqD_i, eqD_s, oIx_t, oIx_l, oIx_s, oIn_t, oIn_l, oIn_s, lst_d, lstH_d, seq_l, seq_t, seq_s, val_d, toD_lst, toD_leaf, cLen_1, cAbs_1, cMax_2, cMin_2, cInt_b, cInt_i, cList_1, oI0_d, oB0_d, tru_b, tru_l, tru_s, oRep_k, strsOf_map, intsOf_map, inD_strs, inD_2, inD_3, inD_4, atI_0, atI_1, atI_2, atI_3, mApp, gC, bYes, parz, postz,
  Option.bind_some, Option.map_some, Option.getD_some, List.getElem?_cons_zero, List.getElem?_cons_succ, List.set_cons_zero, List.set_cons_succ, List.length_cons, List.length_nil, List.length_set, List.cons_append, List.nil_append, List.replicate_succ, List.replicate_zero, List.length_map, Nat.reduceAdd, Nat.zero_add, Nat.reduceLeDiff, Nat.reduceLT, Nat.reduceEqDiff, sizeLine_eq, Int.cast_ofNat_Int, Int.reduceEq, Int.reduceLT, Int.reduceLE, Int.reduceAdd, Int.reduceSub, Int.reduceMul, Int.reduceNeg, Int.reducePow, Int.reduceToNat, ↓reduceIte, if_true, if_false, decide_true, decide_false, Bool.not_true, Bool.not_false, Bool.true_and, Bool.and_true, Bool.false_and, Bool.false_eq_true, reduceCtorEq, Option.isSome_some,
  nm_head_tail, nm_head_skip, nm_head_chop, nm_head_reverse, nm_head_uniq, nm_head_sort, nmP_head, nmS_head, nm_tail_head, nm_tail_skip, nm_tail_chop, nm_tail_reverse, nm_tail_uniq, nm_tail_sort, nmP_tail, nmS_tail, nm_skip_head, nm_skip_tail, nm_skip_chop, nm_skip_reverse, nm_skip_uniq, nm_skip_sort, nmP_skip, nmS_skip, nm_chop_head, nm_chop_tail, nm_chop_skip, nm_chop_reverse, nm_chop_uniq, nm_chop_sort, nmP_chop, nmS_chop, nm_reverse_head, nm_reverse_tail, nm_reverse_skip, nm_reverse_chop, nm_reverse_uniq, nm_reverse_sort, nmP_reverse, nmS_reverse, nm_uniq_head, nm_uniq_tail, nm_uniq_skip, nm_uniq_chop, nm_uniq_reverse, nm_uniq_sort, nmP_uniq, nmS_uniq, nm_sort_head, nm_sort_tail, nm_sort_skip, nm_sort_chop, nm_sort_reverse, nm_sort_uniq, nmP_sort, nmS_sort, PR.PLAIN_d, PR.SLICING_d]
theorem rng_ok (ns : List Int) : ∃ l, F__law_rng [.scr ns] = some (.own (.lst l), [.un]) ∧ Rg 0 l := by
  have lt : (DL.cutD ns none (some 63)).length ≤ 63 := by
    have e : HT.sIx ns.length ns.length (some 63) ≤ 63 := by
      show (if (63 : Int) < 0 then ((63 : Int) + (ns.length : Int)).toNat else min (63 : Int).toNat ns.length) ≤ 63
      rw [if_neg (by decide)]
      exact Nat.min_le_left _ _
    unfold DL.cutD
    rw [List.length_take]
    omega
  obtain ⟨e2, h1, a, b, x, y, ⟨g1, g2, g3, g4⟩, rfl⟩ := forL_by (h := hName 3) (g := l0__law_rng) (ds := (DL.cutD ns none (some 63)).map .int) (e := [.scr ns, .dat (.int 0), .dat (.int 88675123), .un, .un])
    (fun i e => ∃ (a b : Int) (x y : Sx), (0 ≤ a ∧ a < 2 ^ (200 * i) ∧ 0 ≤ b ∧ b < 2305843009213693951) ∧ e = [.scr ns, .dat (.int a), .dat (.int b), x, y]) ⟨0, 88675123, _, _, ⟨by decide, by decide, by decide, by decide⟩, rfl⟩ fun i d e hd ⟨a, b, x, y, ⟨h1, h2, h3, h4⟩, he⟩ => by
      subst he
      rw [List.getElem?_map] at hd
      cases hc : (DL.cutD ns none (some 63))[i]? with
      | none => rw [hc] at hd; cases hd
      | some c =>
        rw [hc] at hd
        cases hd
        have hi63 : i < 63 := Nat.lt_of_lt_of_le (List.getElem?_eq_some_iff.mp hc).1 lt
        have m0 : ∀ z : Int, 0 ≤ z % 2305843009213693951 ∧ z % 2305843009213693951 < 2305843009213693951 := fun z => ⟨Int.emod_nonneg _ (by decide), Int.emod_lt_of_pos _ (by decide)⟩
        have q1 : CPowW 10 18 := pow_ok (by decide) (by decide) (nab (by decide : (10 : Int).natAbs < 2 ^ 60) (p2 (by decide)))
        have q2 : CPowW 10 60 := pow_ok (by decide) (by decide) (nab (by decide : (10 : Int).natAbs < 2 ^ 60) (p2 (by decide)))
        have e60 : (10 : Int) ^ 60 = 1000000000000000000000000000000000000000000000000000000000000 := by decide +kernel
        have q3 : CMulW a 1000000000000000000000000000000000000000000000000000000000000 := mul_ok (nab (abs_pow h1 h2) (p2 (by omega))) (nab (by decide +kernel : (1000000000000000000000000000000000000000000000000000000000000 : Int).natAbs < 2 ^ 200) (p2 (by decide)))
        have q4 : (0 : Int) < 1000000000000000000000000000000000000000000000000000000000000 := by decide
        have q5 : CMulW b 1000003 := mul_ok (nab (by omega : b.natAbs < 2 ^ 62) (p2 (by decide))) (nab (by decide : (1000003 : Int).natAbs < 2 ^ 60) (p2 (by decide)))
        have q6 : (0 : Int) < 2305843009213693951 := by decide
        have q7 : (0 : Int) < 2305843009213693921 := by decide
        have z0 : ∀ {z : Int}, 0 ≤ z % 1000000000000000000000000000000000000000000000000000000000000 ∧ z % 1000000000000000000000000000000000000000000000000000000000000 < 10 ^ 60 := fun {z} => ⟨Int.emod_nonneg _ (by decide), by rw [e60]; exact Int.emod_lt_of_pos _ (by decide)⟩
        by_cases hs : 1000000000000000000 ≤ (if c < 0 then -c else c)
        · refine' ⟨_, rfl, _, ?h2, _, Or.inl rfl, ?h3⟩
          case h2 =>
            unfold l0__law_rng
            simp only [oInt_ok q1, oInt_ok q2, oInt_ok q3, oInt_ok (C := fun _ j => 0 < j) q4, oInt_ok q5, oInt_ok (C := fun _ j => 0 < j) q6, oInt_ok (C := fun _ j => 0 < j) q7, hs, kb_some, kb_none, km_some, kml_some, v_xD, k_xD, v_gX, k_gXd, k_gXs, v_gG, k_gG, v_gR, k_gRd, k_gRo, v_lR, k_lRo, v_gBin, k_bin1, k_bin2, v_lBin, k_lb1, k_lb2, v_gUn, k_un, u_negI, v_bT, k_bT, v_bNot, k_bNot, v_bAnd, k_andT, k_andF, v_bOr, k_orT, k_orF, v_bTru, k_tru, v_gIf, k_ifT, k_ifF, v_lIf, k_lifT, k_lifF, v_gAnd, k_gAndT, k_gAndF, v_gOr, k_gOrT, k_gOrF, v_gNot, k_gNot, v_gCh, k_ch1, k_ch2, k_ch3T, k_ch3F, k_ch4, v_dN, v_dC, k_dC, k_dC2, v_aN, v_aC, k_aC, k_aC2, v_aSw, k_sw, v_aOne, k_one, v_gTup, k_tup, v_lLst, k_lst, v_gCb, k_cb, v_lCb, k_lcb, v_oN, v_oY, k_oY, v_lSl, k_sl1, k_sl2, k_sl3, v_lRev, k_rev, v_sSeq, k_seqN, k_seqR, k_seqB, k_seqC, v_sN, v_sB, v_sC, v_sV, v_sRN, v_sSet, k_set, v_sOwn, k_own, v_sSetR, k_setRd, k_setRo, v_sAsg, k_asg, k_nx, v_sDrop, k_drop, v_sDropR, k_dropR, v_sRet, k_ret, v_sRetG, k_retG, v_sRetR, k_retR, v_sRetV, k_retVd, k_retVo, v_sIf, k_sifT, k_sifF, v_sAug, k_aug1, k_aug2, v_sPar, k_par, v_hName, v_hNil, v_hCons, v_hTup, v_hSub, k_sub1, k_sub2, k_sub3, v_sFor, k_for, v_iLst, k_iL, v_iTup, k_iT, v_iRg1, k_iR1, v_iRg2, k_iR2, v_iEn, k_iE, v_lLc, k_lc, v_rCall, k_cl1, k_cl2, k_cl3, v_gLm, k_lm1, k_lm2, k_lm3, v_run, k_runR, k_runN, v_len0, v_lenD, v_lenS, k_lenO, k_lenP, k_lenC, v_xVar, k_varD, k_varOf, k_varPf, k_varOl, k_varPl, k_varC, k_varOi, k_varPi, k_varOo, k_varPo, v_frz, k_frzO, k_frzP, v_lstAt, k_atO, k_atP, v_putAt, k_putO, k_putP, v_lstS, k_lsO, k_lsP, k_lsC, v_lstHS, v_valS, k_valO, k_valP, v_homN, v_homD, v_homS, k_homO, k_homP, k_homC, k_homU, v_p4, k_p1, k_p2, k_p3, k_p4, k_p5, v_Eqs, k_Eqs, v_Eqd, k_Eqd, v_Eqb, k_Eqb, v_Nes, k_Nes, v_Ned, k_Ned, v_Neb, k_Neb, v_ss, k_ss,
  oEq_d, oNe_d, eqD_i, eqD_s, oIx_t, oIx_l, oIx_s, oIn_t, oIn_l, oIn_s, lst_d, lstH_d, seq_l, seq_t, seq_s, val_d, toD_lst, toD_leaf, cLen_1, cAbs_1, cMax_2, cMin_2, cInt_b, cInt_i, cList_1, oI0_d, oB0_d, tru_b, tru_l, tru_s, oRep_k, strsOf_map, intsOf_map, inD_strs, inD_2, inD_3, inD_4, atI_0, atI_1, atI_2, atI_3, mApp, gC, bYes, parz, postz,
  Option.bind_some, Option.map_some, Option.getD_some, List.getElem?_cons_zero, List.getElem?_cons_succ, List.set_cons_zero, List.set_cons_succ, List.length_cons, List.length_nil, List.length_set, List.cons_append, List.nil_append, List.replicate_succ, List.replicate_zero, List.length_map, Nat.reduceAdd, Nat.zero_add, Nat.reduceLeDiff, Nat.reduceLT, Nat.reduceEqDiff, sizeLine_eq, Int.cast_ofNat_Int, Int.reduceEq, Int.reduceLT, Int.reduceLE, Int.reduceAdd, Int.reduceSub, Int.reduceMul, Int.reduceNeg, Int.reducePow, Int.reduceToNat, ↓reduceIte, if_true, if_false, decide_true, decide_false, Bool.not_true, Bool.not_false, Bool.true_and, Bool.and_true, Bool.false_and, Bool.false_eq_true, reduceCtorEq, Option.isSome_some,
  nm_head_tail, nm_head_skip, nm_head_chop, nm_head_reverse, nm_head_uniq, nm_head_sort, nmP_head, nmS_head, nm_tail_head, nm_tail_skip, nm_tail_chop, nm_tail_reverse, nm_tail_uniq, nm_tail_sort, nmP_tail, nmS_tail, nm_skip_head, nm_skip_tail, nm_skip_chop, nm_skip_reverse, nm_skip_uniq, nm_skip_sort, nmP_skip, nmS_skip, nm_chop_head, nm_chop_tail, nm_chop_skip, nm_chop_reverse, nm_chop_uniq, nm_chop_sort, nmP_chop, nmS_chop, nm_reverse_head, nm_reverse_tail, nm_reverse_skip, nm_reverse_chop, nm_reverse_uniq, nm_reverse_sort, nmP_reverse, nmS_reverse, nm_uniq_head, nm_uniq_tail, nm_uniq_skip, nm_uniq_chop, nm_uniq_reverse, nm_uniq_sort, nmP_uniq, nmS_uniq, nm_sort_head, nm_sort_tail, nm_sort_skip, nm_sort_chop, nm_sort_reverse, nm_sort_uniq, nmP_sort, nmS_sort, PR.PLAIN_d, PR.SLICING_d]
            exact rfl
          case h3 =>
            refine ⟨_, _, _, _, ⟨?_, ?_, (m0 _).1, (m0 _).2⟩, rfl⟩
            · have := Int.mul_nonneg h1 (by decide : (0 : Int) ≤ 1000000000000000000000000000000000000000000000000000000000000)
              exact Int.add_nonneg this z0.1
            · have e : 200 * (i + 1) = 200 + 200 * i := by omega
              have := dig_step h1 h2 (z0 (z := if c < 0 then -c else c)).2
              rw [e60] at this
              rw [e]
              exact this
        · refine' ⟨_, rfl, _, ?h2, _, Or.inl rfl, ?h3⟩
          case h2 =>
            unfold l0__law_rng
            simp only [oInt_ok q1, oInt_ok q2, oInt_ok q3, oInt_ok (C := fun _ j => 0 < j) q4, oInt_ok q5, oInt_ok (C := fun _ j => 0 < j) q6, oInt_ok (C := fun _ j => 0 < j) q7, hs, kb_some, kb_none, km_some, kml_some, v_xD, k_xD, v_gX, k_gXd, k_gXs, v_gG, k_gG, v_gR, k_gRd, k_gRo, v_lR, k_lRo, v_gBin, k_bin1, k_bin2, v_lBin, k_lb1, k_lb2, v_gUn, k_un, u_negI, v_bT, k_bT, v_bNot, k_bNot, v_bAnd, k_andT, k_andF, v_bOr, k_orT, k_orF, v_bTru, k_tru, v_gIf, k_ifT, k_ifF, v_lIf, k_lifT, k_lifF, v_gAnd, k_gAndT, k_gAndF, v_gOr, k_gOrT, k_gOrF, v_gNot, k_gNot, v_gCh, k_ch1, k_ch2, k_ch3T, k_ch3F, k_ch4, v_dN, v_dC, k_dC, k_dC2, v_aN, v_aC, k_aC, k_aC2, v_aSw, k_sw, v_aOne, k_one, v_gTup, k_tup, v_lLst, k_lst, v_gCb, k_cb, v_lCb, k_lcb, v_oN, v_oY, k_oY, v_lSl, k_sl1, k_sl2, k_sl3, v_lRev, k_rev, v_sSeq, k_seqN, k_seqR, k_seqB, k_seqC, v_sN, v_sB, v_sC, v_sV, v_sRN, v_sSet, k_set, v_sOwn, k_own, v_sSetR, k_setRd, k_setRo, v_sAsg, k_asg, k_nx, v_sDrop, k_drop, v_sDropR, k_dropR, v_sRet, k_ret, v_sRetG, k_retG, v_sRetR, k_retR, v_sRetV, k_retVd, k_retVo, v_sIf, k_sifT, k_sifF, v_sAug, k_aug1, k_aug2, v_sPar, k_par, v_hName, v_hNil, v_hCons, v_hTup, v_hSub, k_sub1, k_sub2, k_sub3, v_sFor, k_for, v_iLst, k_iL, v_iTup, k_iT, v_iRg1, k_iR1, v_iRg2, k_iR2, v_iEn, k_iE, v_lLc, k_lc, v_rCall, k_cl1, k_cl2, k_cl3, v_gLm, k_lm1, k_lm2, k_lm3, v_run, k_runR, k_runN, v_len0, v_lenD, v_lenS, k_lenO, k_lenP, k_lenC, v_xVar, k_varD, k_varOf, k_varPf, k_varOl, k_varPl, k_varC, k_varOi, k_varPi, k_varOo, k_varPo, v_frz, k_frzO, k_frzP, v_lstAt, k_atO, k_atP, v_putAt, k_putO, k_putP, v_lstS, k_lsO, k_lsP, k_lsC, v_lstHS, v_valS, k_valO, k_valP, v_homN, v_homD, v_homS, k_homO, k_homP, k_homC, k_homU, v_p4, k_p1, k_p2, k_p3, k_p4, k_p5, v_Eqs, k_Eqs, v_Eqd, k_Eqd, v_Eqb, k_Eqb, v_Nes, k_Nes, v_Ned, k_Ned, v_Neb, k_Neb, v_ss, k_ss,
  oEq_d, oNe_d, eqD_i, eqD_s, oIx_t, oIx_l, oIx_s, oIn_t, oIn_l, oIn_s, lst_d, lstH_d, seq_l, seq_t, seq_s, val_d, toD_lst, toD_leaf, cLen_1, cAbs_1, cMax_2, cMin_2, cInt_b, cInt_i, cList_1, oI0_d, oB0_d, tru_b, tru_l, tru_s, oRep_k, strsOf_map, intsOf_map, inD_strs, inD_2, inD_3, inD_4, atI_0, atI_1, atI_2, atI_3, mApp, gC, bYes, parz, postz,
  Option.bind_some, Option.map_some, Option.getD_some, List.getElem?_cons_zero, List.getElem?_cons_succ, List.set_cons_zero, List.set_cons_succ, List.length_cons, List.length_nil, List.length_set, List.cons_append, List.nil_append, List.replicate_succ, List.replicate_zero, List.length_map, Nat.reduceAdd, Nat.zero_add, Nat.reduceLeDiff, Nat.reduceLT, Nat.reduceEqDiff, sizeLine_eq, Int.cast_ofNat_Int, Int.reduceEq, Int.reduceLT, Int.reduceLE, Int.reduceAdd, Int.reduceSub, Int.reduceMul, Int.reduceNeg, Int.reducePow, Int.reduceToNat, ↓reduceIte, if_true, if_false, decide_true, decide_false, Bool.not_true, Bool.not_false, Bool.true_and, Bool.and_true, Bool.false_and, Bool.false_eq_true, reduceCtorEq, Option.isSome_some,
  nm_head_tail, nm_head_skip, nm_head_chop, nm_head_reverse, nm_head_uniq, nm_head_sort, nmP_head, nmS_head, nm_tail_head, nm_tail_skip, nm_tail_chop, nm_tail_reverse, nm_tail_uniq, nm_tail_sort, nmP_tail, nmS_tail, nm_skip_head, nm_skip_tail, nm_skip_chop, nm_skip_reverse, nm_skip_uniq, nm_skip_sort, nmP_skip, nmS_skip, nm_chop_head, nm_chop_tail, nm_chop_skip, nm_chop_reverse, nm_chop_uniq, nm_chop_sort, nmP_chop, nmS_chop, nm_reverse_head, nm_reverse_tail, nm_reverse_skip, nm_reverse_chop, nm_reverse_uniq, nm_reverse_sort, nmP_reverse, nmS_reverse, nm_uniq_head, nm_uniq_tail, nm_uniq_skip, nm_uniq_chop, nm_uniq_reverse, nm_uniq_sort, nmP_uniq, nmS_uniq, nm_sort_head, nm_sort_tail, nm_sort_skip, nm_sort_chop, nm_sort_reverse, nm_sort_uniq, nmP_sort, nmS_sort, PR.PLAIN_d, PR.SLICING_d]
            exact rfl
          case h3 => exact ⟨_, _, _, _, ⟨h1, pow_mono h2 (by omega), (m0 _).1, (m0 _).2⟩, rfl⟩
  refine ⟨[.int a, .int b, .int 0], ?_, a, b, 0, rfl, g1, g3, g4, by decide, by decide⟩
  unfold F__law_rng g__law_rng
  simp only [cutD_map, h1, kb_some, kb_none, km_some, kml_some, v_xD, k_xD, v_gX, k_gXd, k_gXs, v_gG, k_gG, v_gR, k_gRd, k_gRo, v_lR, k_lRo, v_gBin, k_bin1, k_bin2, v_lBin, k_lb1, k_lb2, v_gUn, k_un, u_negI, v_bT, k_bT, v_bNot, k_bNot, v_bAnd, k_andT, k_andF, v_bOr, k_orT, k_orF, v_bTru, k_tru, v_gIf, k_ifT, k_ifF, v_lIf, k_lifT, k_lifF, v_gAnd, k_gAndT, k_gAndF, v_gOr, k_gOrT, k_gOrF, v_gNot, k_gNot, v_gCh, k_ch1, k_ch2, k_ch3T, k_ch3F, k_ch4, v_dN, v_dC, k_dC, k_dC2, v_aN, v_aC, k_aC, k_aC2, v_aSw, k_sw, v_aOne, k_one, v_gTup, k_tup, v_lLst, k_lst, v_gCb, k_cb, v_lCb, k_lcb, v_oN, v_oY, k_oY, v_lSl, k_sl1, k_sl2, k_sl3, v_lRev, k_rev, v_sSeq, k_seqN, k_seqR, k_seqB, k_seqC, v_sN, v_sB, v_sC, v_sV, v_sRN, v_sSet, k_set, v_sOwn, k_own, v_sSetR, k_setRd, k_setRo, v_sAsg, k_asg, k_nx, v_sDrop, k_drop, v_sDropR, k_dropR, v_sRet, k_ret, v_sRetG, k_retG, v_sRetR, k_retR, v_sRetV, k_retVd, k_retVo, v_sIf, k_sifT, k_sifF, v_sAug, k_aug1, k_aug2, v_sPar, k_par, v_hName, v_hNil, v_hCons, v_hTup, v_hSub, k_sub1, k_sub2, k_sub3, v_sFor, k_for, v_iLst, k_iL, v_iTup, k_iT, v_iRg1, k_iR1, v_iRg2, k_iR2, v_iEn, k_iE, v_lLc, k_lc, v_rCall, k_cl1, k_cl2, k_cl3, v_gLm, k_lm1, k_lm2, k_lm3, v_run, k_runR, k_runN, v_len0, v_lenD, v_lenS, k_lenO, k_lenP, k_lenC, v_xVar, k_varD, k_varOf, k_varPf, k_varOl, k_varPl, k_varC, k_varOi, k_varPi, k_varOo, k_varPo, v_frz, k_frzO, k_frzP, v_lstAt, k_atO, k_atP, v_putAt, k_putO, k_putP, v_lstS, k_lsO, k_lsP, k_lsC, v_lstHS, v_valS, k_valO, k_valP, v_homN, v_homD, v_homS, k_homO, k_homP, k_homC, k_homU, v_p4, k_p1, k_p2, k_p3, k_p4, k_p5, v_Eqs, k_Eqs, v_Eqd, k_Eqd, v_Eqb, k_Eqb, v_Nes, k_Nes, v_Ned, k_Ned, v_Neb, k_Neb, v_ss, k_ss,
  oEq_d, oNe_d, eqD_i, eqD_s, oIx_t, oIx_l, oIx_s, oIn_t, oIn_l, oIn_s, lst_d, lstH_d, seq_l, seq_t, seq_s, val_d, toD_lst, toD_leaf, cLen_1, cAbs_1, cMax_2, cMin_2, cInt_b, cInt_i, cList_1, oI0_d, oB0_d, tru_b, tru_l, tru_s, oRep_k, strsOf_map, intsOf_map, inD_strs, inD_2, inD_3, inD_4, atI_0, atI_1, atI_2, atI_3, mApp, gC, bYes, parz, postz,
  Option.bind_some, Option.map_some, Option.getD_some, List.getElem?_cons_zero, List.getElem?_cons_succ, List.set_cons_zero, List.set_cons_succ, List.length_cons, List.length_nil, List.length_set, List.cons_append, List.nil_append, List.replicate_succ, List.replicate_zero, List.length_map, Nat.reduceAdd, Nat.zero_add, Nat.reduceLeDiff, Nat.reduceLT, Nat.reduceEqDiff, sizeLine_eq, Int.cast_ofNat_Int, Int.reduceEq, Int.reduceLT, Int.reduceLE, Int.reduceAdd, Int.reduceSub, Int.reduceMul, Int.reduceNeg, Int.reducePow, Int.reduceToNat, ↓reduceIte, if_true, if_false, decide_true, decide_false, Bool.not_true, Bool.not_false, Bool.true_and, Bool.and_true, Bool.false_and, Bool.false_eq_true, reduceCtorEq, Option.isSome_some,
  nm_head_tail, nm_head_skip, nm_head_chop, nm_head_reverse, nm_head_uniq, nm_head_sort, nmP_head, nmS_head, nm_tail_head, nm_tail_skip, nm_tail_chop, nm_tail_reverse, nm_tail_uniq, nm_tail_sort, nmP_tail, nmS_tail, nm_skip_head, nm_skip_tail, nm_skip_chop, nm_skip_reverse, nm_skip_uniq, nm_skip_sort, nmP_skip, nmS_skip, nm_chop_head, nm_chop_tail, nm_chop_skip, nm_chop_reverse, nm_chop_uniq, nm_chop_sort, nmP_chop, nmS_chop, nm_reverse_head, nm_reverse_tail, nm_reverse_skip, nm_reverse_chop, nm_reverse_uniq, nm_reverse_sort, nmP_reverse, nmS_reverse, nm_uniq_head, nm_uniq_tail, nm_uniq_skip, nm_uniq_chop, nm_uniq_reverse, nm_uniq_sort, nmP_uniq, nmS_uniq, nm_sort_head, nm_sort_tail, nm_sort_skip, nm_sort_chop, nm_sort_reverse, nm_sort_uniq, nmP_sort, nmS_sort, PR.PLAIN_d, PR.SLICING_d]
def pool20 : List MM.S := ["a", "b", "ab", "", "B", "z z", "~", "0", "10", "aaaaaaaaaaaaaaaaaaaa", " ", "|", "-", "9", "2", "02", " a", "_", "^", "100"]
theorem pool_ok : ∀ x ∈ pool20, PyData.strOk x = true := by decide +kernel
theorem pool_small : ∀ x ∈ pool20, x.cps.size ≤ 20 := by decide +kernel
theorem kinds_ok {n : Nat} {l : List PyData} (g : Rg n l) (hn : n < 2 ^ 59) : ∃ (ks : List MM.S) (l' : List PyData), F__law_kinds [.own (.lst l)] = some (.own (.lst (ks.map .str)), [.own (.lst l')]) ∧ 0 < ks.length ∧ ks.length ≤ 13 ∧ (∀ x ∈ ks, x ∈ pool20) ∧ Rg (n + 15) l' := by
  obtain ⟨r, l1, d1, r0, r1, g1⟩ := draw_ok g (lim := 2) (by decide) (by decide) (by omega)
  obtain ⟨m, hm, m0, m1⟩ : ∃ m : Int, atI [PyData.int 5, .int 13] r = some (.int m) ∧ 0 < m ∧ m ≤ 13 := by
    rcases (by omega : r = 0 ∨ r = 1) with rfl | rfl
    · exact ⟨5, rfl, by decide, by decide⟩
    · exact ⟨13, rfl, by decide, by decide⟩
  obtain ⟨k, l2, d2, k0, k1, g2⟩ := draw_ok g1 (lim := m) m0 (by omega) (by omega)
  have rl : (rangeD 0 (1 + k).toNat).length = (1 + k).toNat := rangeD_len
  obtain ⟨acc, e', h1, l3, pl, ks, rfl, g3, rfl, i3, i4, i5, i6⟩ := lcL_inv (h := hName 2) (c := bYes) (f := e0__law_kinds) (vs := [2]) (ds := rangeD 0 (1 + k).toNat) (acc := []) (e := [.par 0 (.lst l2), .own (.lst (pool20.map .str)), .un])
    (fun i acc e => ∃ (l3 : List PyData) (pl ks : List MM.S), e = [.par 0 (.lst l3), .own (.lst (pl.map .str)), .un] ∧ Rg (n + 2 + i) l3 ∧ acc = ks.map .str ∧ ks.length = i ∧ pl.length + i = 20 ∧ (∀ x ∈ ks, x ∈ pool20) ∧ ∀ x ∈ pl, x ∈ pool20) 0 ⟨l2, pool20, [], rfl, g2, rfl, rfl, rfl, by simp, fun _ h => h⟩ fun i d acc e hd ⟨l3, pl, ks, he, g3, ha, i3, i4, i5, i6⟩ => by
      subst he
      subst ha
      rw [Nat.zero_add] at *
      have hlt := (rangeD_get hd).1
      obtain ⟨q, l4, d3, q0, q1, g4⟩ := draw_ok g3 (lim := (pl.length : Int)) (by omega) (by omega) (by omega)
      have r2 : q.toNat < pl.length := by omega
      have gq : pl[q.toNat]? = some pl[q.toNat] := List.getElem?_eq_getElem r2
      have sq : seqIndex? q pl.length = some q.toNat := by first | (simp [seqIndex?]; omega) | (unfold seqIndex?; simp; omega)
      have b1 : -9223372036854775808 ≤ q ∧ q < 9223372036854775808 := ⟨by omega, by omega⟩
      refine ⟨rfl, _, rfl, true, _, rfl, ?_⟩
      rw [if_pos rfl]
      refine' ⟨_, _, ?h1, ?h2, ?h3⟩
      case h1 =>
        unfold e0__law_kinds
        simp only [wipeE, d3, mPopAt, b1, sq, List.getElem?_map, gq, Option.map_some, and_self, kb_some, kb_none, km_some, kml_some, v_xD, k_xD, v_gX, k_gXd, k_gXs, v_gG, k_gG, v_gR, k_gRd, k_gRo, v_lR, k_lRo, v_gBin, k_bin1, k_bin2, v_lBin, k_lb1, k_lb2, v_gUn, k_un, u_negI, v_bT, k_bT, v_bNot, k_bNot, v_bAnd, k_andT, k_andF, v_bOr, k_orT, k_orF, v_bTru, k_tru, v_gIf, k_ifT, k_ifF, v_lIf, k_lifT, k_lifF, v_gAnd, k_gAndT, k_gAndF, v_gOr, k_gOrT, k_gOrF, v_gNot, k_gNot, v_gCh, k_ch1, k_ch2, k_ch3T, k_ch3F, k_ch4, v_dN, v_dC, k_dC, k_dC2, v_aN, v_aC, k_aC, k_aC2, v_aSw, k_sw, v_aOne, k_one, v_gTup, k_tup, v_lLst, k_lst, v_gCb, k_cb, v_lCb, k_lcb, v_oN, v_oY, k_oY, v_lSl, k_sl1, k_sl2, k_sl3, v_lRev, k_rev, v_sSeq, k_seqN, k_seqR, k_seqB, k_seqC, v_sN, v_sB, v_sC, v_sV, v_sRN, v_sSet, k_set, v_sOwn, k_own, v_sSetR, k_setRd, k_setRo, v_sAsg, k_asg, k_nx, v_sDrop, k_drop, v_sDropR, k_dropR, v_sRet, k_ret, v_sRetG, k_retG, v_sRetR, k_retR, v_sRetV, k_retVd, k_retVo, v_sIf, k_sifT, k_sifF, v_sAug, k_aug1, k_aug2, v_sPar, k_par, v_hName, v_hNil, v_hCons, v_hTup, v_hSub, k_sub1, k_sub2, k_sub3, v_sFor, k_for, v_iLst, k_iL, v_iTup, k_iT, v_iRg1, k_iR1, v_iRg2, k_iR2, v_iEn, k_iE, v_lLc, k_lc, v_rCall, k_cl1, k_cl2, k_cl3, v_gLm, k_lm1, k_lm2, k_lm3, v_run, k_runR, k_runN, v_len0, v_lenD, v_lenS, k_lenO, k_lenP, k_lenC, v_xVar, k_varD, k_varOf, k_varPf, k_varOl, k_varPl, k_varC, k_varOi, k_varPi, k_varOo, k_varPo, v_frz, k_frzO, k_frzP, v_lstAt, k_atO, k_atP, v_putAt, k_putO, k_putP, v_lstS, k_lsO, k_lsP, k_lsC, v_lstHS, v_valS, k_valO, k_valP, v_homN, v_homD, v_homS, k_homO, k_homP, k_homC, k_homU, v_p4, k_p1, k_p2, k_p3, k_p4, k_p5, v_Eqs, k_Eqs, v_Eqd, k_Eqd, v_Eqb, k_Eqb, v_Nes, k_Nes, v_Ned, k_Ned, v_Neb, k_Neb, v_ss, k_ss,
  oEq_d, oNe_d, eqD_i, eqD_s, oIx_t, oIx_l, oIx_s, oIn_t, oIn_l, oIn_s, lst_d, lstH_d, seq_l, seq_t, seq_s, val_d, toD_lst, toD_leaf, cLen_1, cAbs_1, cMax_2, cMin_2, cInt_b, cInt_i, cList_1, oI0_d, oB0_d, tru_b, tru_l, tru_s, oRep_k, strsOf_map, intsOf_map, inD_strs, inD_2, inD_3, inD_4, atI_0, atI_1, atI_2, atI_3, mApp, gC, bYes, parz, postz,
  Option.bind_some, Option.map_some, Option.getD_some, List.getElem?_cons_zero, List.getElem?_cons_succ, List.set_cons_zero, List.set_cons_succ, List.length_cons, List.length_nil, List.length_set, List.cons_append, List.nil_append, List.replicate_succ, List.replicate_zero, List.length_map, Nat.reduceAdd, Nat.zero_add, Nat.reduceLeDiff, Nat.reduceLT, Nat.reduceEqDiff, sizeLine_eq, Int.cast_ofNat_Int, Int.reduceEq, Int.reduceLT, Int.reduceLE, Int.reduceAdd, Int.reduceSub, Int.reduceMul, Int.reduceNeg, Int.reducePow, Int.reduceToNat, ↓reduceIte, if_true, if_false, decide_true, decide_false, Bool.not_true, Bool.not_false, Bool.true_and, Bool.and_true, Bool.false_and, Bool.false_eq_true, reduceCtorEq, Option.isSome_some,
  nm_head_tail, nm_head_skip, nm_head_chop, nm_head_reverse, nm_head_uniq, nm_head_sort, nmP_head, nmS_head, nm_tail_head, nm_tail_skip, nm_tail_chop, nm_tail_reverse, nm_tail_uniq, nm_tail_sort, nmP_tail, nmS_tail, nm_skip_head, nm_skip_tail, nm_skip_chop, nm_skip_reverse, nm_skip_uniq, nm_skip_sort, nmP_skip, nmS_skip, nm_chop_head, nm_chop_tail, nm_chop_skip, nm_chop_reverse, nm_chop_uniq, nm_chop_sort, nmP_chop, nmS_chop, nm_reverse_head, nm_reverse_tail, nm_reverse_skip, nm_reverse_chop, nm_reverse_uniq, nm_reverse_sort, nmP_reverse, nmS_reverse, nm_uniq_head, nm_uniq_tail, nm_uniq_skip, nm_uniq_chop, nm_uniq_reverse, nm_uniq_sort, nmP_uniq, nmS_uniq, nm_sort_head, nm_sort_tail, nm_sort_skip, nm_sort_chop, nm_sort_reverse, nm_sort_uniq, nmP_sort, nmS_sort, PR.PLAIN_d, PR.SLICING_d]
        exact rfl
      case h2 => rw [List.length_map, sizeLine_eq]; omega
      case h3 =>
        refine ⟨l4, pl.eraseIdx q.toNat, ks ++ [pl[q.toNat]], ?_, g4, by rw [List.map_append]; rfl, by rw [List.length_append, i3]; rfl, by rw [List.length_eraseIdx, if_pos r2]; omega, ?_, ?_⟩
        · rw [← erase_map]
          rfl
        · intro x hx
          rcases List.mem_append.mp hx with z | z
          · exact i5 x z
          · rw [List.mem_singleton.mp z]
            exact i6 _ (List.getElem_mem r2)
        · exact fun x hx => i6 x (List.mem_of_mem_eraseIdx hx)
  have b2 : -4611686018427387904 ≤ 1 + k ∧ 1 + k < 4611686018427387904 := ⟨by omega, by omega⟩
  rw [Nat.zero_add] at *
  refine ⟨ks, l3, ?_, by omega, by omega, i5, g3.le (by omega)⟩
  have pp : ([.str "a", .str "b", .str "ab", .str "", .str "B", .str "z z", .str "~", .str "0", .str "10", .str "aaaaaaaaaaaaaaaaaaaa", .str " ", .str "|", .str "-", .str "9", .str "2", .str "02", .str " a", .str "_", .str "^", .str "100"] : List PyData) = pool20.map .str := rfl
  unfold F__law_kinds g__law_kinds
  simp only [oCat, pp, d1, hm, d2, b2, and_self, h1, kb_some, kb_none, km_some, kml_some, v_xD, k_xD, v_gX, k_gXd, k_gXs, v_gG, k_gG, v_gR, k_gRd, k_gRo, v_lR, k_lRo, v_gBin, k_bin1, k_bin2, v_lBin, k_lb1, k_lb2, v_gUn, k_un, u_negI, v_bT, k_bT, v_bNot, k_bNot, v_bAnd, k_andT, k_andF, v_bOr, k_orT, k_orF, v_bTru, k_tru, v_gIf, k_ifT, k_ifF, v_lIf, k_lifT, k_lifF, v_gAnd, k_gAndT, k_gAndF, v_gOr, k_gOrT, k_gOrF, v_gNot, k_gNot, v_gCh, k_ch1, k_ch2, k_ch3T, k_ch3F, k_ch4, v_dN, v_dC, k_dC, k_dC2, v_aN, v_aC, k_aC, k_aC2, v_aSw, k_sw, v_aOne, k_one, v_gTup, k_tup, v_lLst, k_lst, v_gCb, k_cb, v_lCb, k_lcb, v_oN, v_oY, k_oY, v_lSl, k_sl1, k_sl2, k_sl3, v_lRev, k_rev, v_sSeq, k_seqN, k_seqR, k_seqB, k_seqC, v_sN, v_sB, v_sC, v_sV, v_sRN, v_sSet, k_set, v_sOwn, k_own, v_sSetR, k_setRd, k_setRo, v_sAsg, k_asg, k_nx, v_sDrop, k_drop, v_sDropR, k_dropR, v_sRet, k_ret, v_sRetG, k_retG, v_sRetR, k_retR, v_sRetV, k_retVd, k_retVo, v_sIf, k_sifT, k_sifF, v_sAug, k_aug1, k_aug2, v_sPar, k_par, v_hName, v_hNil, v_hCons, v_hTup, v_hSub, k_sub1, k_sub2, k_sub3, v_sFor, k_for, v_iLst, k_iL, v_iTup, k_iT, v_iRg1, k_iR1, v_iRg2, k_iR2, v_iEn, k_iE, v_lLc, k_lc, v_rCall, k_cl1, k_cl2, k_cl3, v_gLm, k_lm1, k_lm2, k_lm3, v_run, k_runR, k_runN, v_len0, v_lenD, v_lenS, k_lenO, k_lenP, k_lenC, v_xVar, k_varD, k_varOf, k_varPf, k_varOl, k_varPl, k_varC, k_varOi, k_varPi, k_varOo, k_varPo, v_frz, k_frzO, k_frzP, v_lstAt, k_atO, k_atP, v_putAt, k_putO, k_putP, v_lstS, k_lsO, k_lsP, k_lsC, v_lstHS, v_valS, k_valO, k_valP, v_homN, v_homD, v_homS, k_homO, k_homP, k_homC, k_homU, v_p4, k_p1, k_p2, k_p3, k_p4, k_p5, v_Eqs, k_Eqs, v_Eqd, k_Eqd, v_Eqb, k_Eqb, v_Nes, k_Nes, v_Ned, k_Ned, v_Neb, k_Neb, v_ss, k_ss,
  oEq_d, oNe_d, eqD_i, eqD_s, oIx_t, oIx_l, oIx_s, oIn_t, oIn_l, oIn_s, lst_d, lstH_d, seq_l, seq_t, seq_s, val_d, toD_lst, toD_leaf, cLen_1, cAbs_1, cMax_2, cMin_2, cInt_b, cInt_i, cList_1, oI0_d, oB0_d, tru_b, tru_l, tru_s, oRep_k, strsOf_map, intsOf_map, inD_strs, inD_2, inD_3, inD_4, atI_0, atI_1, atI_2, atI_3, mApp, gC, bYes, parz, postz,
  Option.bind_some, Option.map_some, Option.getD_some, List.getElem?_cons_zero, List.getElem?_cons_succ, List.set_cons_zero, List.set_cons_succ, List.length_cons, List.length_nil, List.length_set, List.cons_append, List.nil_append, List.replicate_succ, List.replicate_zero, List.length_map, Nat.reduceAdd, Nat.zero_add, Nat.reduceLeDiff, Nat.reduceLT, Nat.reduceEqDiff, sizeLine_eq, Int.cast_ofNat_Int, Int.reduceEq, Int.reduceLT, Int.reduceLE, Int.reduceAdd, Int.reduceSub, Int.reduceMul, Int.reduceNeg, Int.reducePow, Int.reduceToNat, ↓reduceIte, if_true, if_false, decide_true, decide_false, Bool.not_true, Bool.not_false, Bool.true_and, Bool.and_true, Bool.false_and, Bool.false_eq_true, reduceCtorEq, Option.isSome_some,
  nm_head_tail, nm_head_skip, nm_head_chop, nm_head_reverse, nm_head_uniq, nm_head_sort, nmP_head, nmS_head, nm_tail_head, nm_tail_skip, nm_tail_chop, nm_tail_reverse, nm_tail_uniq, nm_tail_sort, nmP_tail, nmS_tail, nm_skip_head, nm_skip_tail, nm_skip_chop, nm_skip_reverse, nm_skip_uniq, nm_skip_sort, nmP_skip, nmS_skip, nm_chop_head, nm_chop_tail, nm_chop_skip, nm_chop_reverse, nm_chop_uniq, nm_chop_sort, nmP_chop, nmS_chop, nm_reverse_head, nm_reverse_tail, nm_reverse_skip, nm_reverse_chop, nm_reverse_uniq, nm_reverse_sort, nmP_reverse, nmS_reverse, nm_uniq_head, nm_uniq_tail, nm_uniq_skip, nm_uniq_chop, nm_uniq_reverse, nm_uniq_sort, nmP_uniq, nmS_uniq, nm_sort_head, nm_sort_tail, nm_sort_skip, nm_sort_chop, nm_sort_reverse, nm_sort_uniq, nmP_sort, nmS_sort, PR.PLAIN_d, PR.SLICING_d]
theorem eqD_nil {xs : List MM.S} (h : ∀ x ∈ xs, x ∈ pool20) : eqD (.list (xs.map .str)) (.list []) = some xs.isEmpty := by
  have h1 : SeqAt.shaped (.list (xs.map PyData.str)) = true := lines_shaped fun x hx => pool_ok x (h x hx)
  show (if SeqAt.shaped (.list (xs.map PyData.str)) = true ∧ SeqAt.shaped (.list []) = true then some (PyData.eqv (.list (xs.map PyData.str)) (.list [])) else none) = _
  rw [if_pos ⟨h1, nil_shaped⟩, eqv_nil]
theorem items_ok {n : Nat} {l : List PyData} (g : Rg n l) (hn : n < 2 ^ 59) {ks : List MM.S} (k0 : 0 < ks.length) (k13 : ks.length ≤ 13) (kp : ∀ x ∈ ks, x ∈ pool20) {most : Int} (m0 : 0 ≤ most) (m60 : most ≤ 60) :
    ∃ (xs : List MM.S) (l' : List PyData), F__law_items [.own (.lst l), .dat (.list (ks.map .str)), .dat (.int most)] = some (.own (.lst (xs.map .str)), [.own (.lst l'), .un, .un]) ∧ xs.length ≤ 60 ∧ (∀ x ∈ xs, x ∈ pool20) ∧ Rg (n + 200) l' := by
  obtain ⟨way, l1, d1, w0, w1, g1⟩ := draw_ok g (lim := 3) (by decide) (by decide) (by omega)
  obtain ⟨k, l2, d2, kk0, kk1, g2⟩ := draw_ok g1 (lim := most + 1) (by omega) (by omega) (by omega)
  have inP : ∀ {z : Int}, 0 ≤ z → z < ks.length → ∃ x : MM.S, atI (ks.map PyData.str) z = some (.str x) ∧ x ∈ pool20 := fun {z} h0 h1 => by
    obtain ⟨d, e1, e2⟩ := pick_mem (ds := ks.map PyData.str) h0 (by rw [List.length_map]; exact h1)
    obtain ⟨x, e3, rfl⟩ := List.mem_map.mp e2
    exact ⟨x, e1, kp x e3⟩
  obtain ⟨e', h1, l3, xs, a, b, rfl, g3, i2, i3⟩ := forL_by (h := hName 5) (g := l0__law_items) (ds := rangeD 0 k.toNat) (e := [.par 0 (.lst l2), .dat (.list (ks.map .str)), .dat (.int most), .dat (.int way), .own (.lst []), .un, .un])
    (fun i e => ∃ (l3 : List PyData) (xs : List MM.S) (a b : Sx), e = [.par 0 (.lst l3), .dat (.list (ks.map .str)), .dat (.int most), .dat (.int way), .own (.lst (xs.map .str)), a, b] ∧ Rg (n + 2 + 2 * i) l3 ∧ xs.length = i ∧ ∀ x ∈ xs, x ∈ pool20) ⟨l2, [], _, _, rfl, g2, rfl, by simp⟩ fun i d e hd ⟨l3, xs, a, b, he, g3, i2, i3⟩ => by
      subst he
      obtain ⟨hlt, rfl⟩ := rangeD_get hd
      obtain ⟨r, l4, d3, r0, r1, g4⟩ := draw_ok g3 (lim := (ks.length : Int)) (by omega) (by omega) (by omega)
      obtain ⟨x, e1, hx⟩ := inP r0 r1
      have xl : xs.length < 16777216 := by omega
      have fin : ∀ {l5 : List PyData} {one : MM.S}, Rg (n + 2 + 2 * (i + 1)) l5 → one ∈ pool20 → ∃ (l3 : List PyData) (ys : List MM.S) (a b : Sx), ([.par 0 (.lst l5), .dat (.list (ks.map .str)), .dat (.int most), .dat (.int way), .own (.lst (xs.map .str ++ [.str one])), .dat (.int (0 + (i : Nat))), .dat (.str one)] : En) = [.par 0 (.lst l3), .dat (.list (ks.map .str)), .dat (.int most), .dat (.int way), .own (.lst (ys.map .str)), a, b] ∧ Rg (n + 2 + 2 * (i + 1)) l3 ∧ ys.length = i + 1 ∧ ∀ x ∈ ys, x ∈ pool20 := fun {l5 one} g5 ho =>
        ⟨l5, xs ++ [one], _, _, by rw [List.map_append]; rfl, g5, by rw [List.length_append, i2]; rfl, fun z hz => by
          rcases List.mem_append.mp hz with h | h
          · exact i3 z h
          · rw [List.mem_singleton.mp h]
            exact ho⟩
      have en := eqD_nil i3
      by_cases hw1 : way = 1
      · subst hw1
        cases hx0 : xs.isEmpty with
        | true =>
          refine' ⟨_, rfl, _, ?h2, _, Or.inl rfl, ?h3⟩
          case h2 =>
            unfold l0__law_items
            simp only [d3, e1, en, hx0, xl, kb_some, kb_none, km_some, kml_some, v_xD, k_xD, v_gX, k_gXd, k_gXs, v_gG, k_gG, v_gR, k_gRd, k_gRo, v_lR, k_lRo, v_gBin, k_bin1, k_bin2, v_lBin, k_lb1, k_lb2, v_gUn, k_un, u_negI, v_bT, k_bT, v_bNot, k_bNot, v_bAnd, k_andT, k_andF, v_bOr, k_orT, k_orF, v_bTru, k_tru, v_gIf, k_ifT, k_ifF, v_lIf, k_lifT, k_lifF, v_gAnd, k_gAndT, k_gAndF, v_gOr, k_gOrT, k_gOrF, v_gNot, k_gNot, v_gCh, k_ch1, k_ch2, k_ch3T, k_ch3F, k_ch4, v_dN, v_dC, k_dC, k_dC2, v_aN, v_aC, k_aC, k_aC2, v_aSw, k_sw, v_aOne, k_one, v_gTup, k_tup, v_lLst, k_lst, v_gCb, k_cb, v_lCb, k_lcb, v_oN, v_oY, k_oY, v_lSl, k_sl1, k_sl2, k_sl3, v_lRev, k_rev, v_sSeq, k_seqN, k_seqR, k_seqB, k_seqC, v_sN, v_sB, v_sC, v_sV, v_sRN, v_sSet, k_set, v_sOwn, k_own, v_sSetR, k_setRd, k_setRo, v_sAsg, k_asg, k_nx, v_sDrop, k_drop, v_sDropR, k_dropR, v_sRet, k_ret, v_sRetG, k_retG, v_sRetR, k_retR, v_sRetV, k_retVd, k_retVo, v_sIf, k_sifT, k_sifF, v_sAug, k_aug1, k_aug2, v_sPar, k_par, v_hName, v_hNil, v_hCons, v_hTup, v_hSub, k_sub1, k_sub2, k_sub3, v_sFor, k_for, v_iLst, k_iL, v_iTup, k_iT, v_iRg1, k_iR1, v_iRg2, k_iR2, v_iEn, k_iE, v_lLc, k_lc, v_rCall, k_cl1, k_cl2, k_cl3, v_gLm, k_lm1, k_lm2, k_lm3, v_run, k_runR, k_runN, v_len0, v_lenD, v_lenS, k_lenO, k_lenP, k_lenC, v_xVar, k_varD, k_varOf, k_varPf, k_varOl, k_varPl, k_varC, k_varOi, k_varPi, k_varOo, k_varPo, v_frz, k_frzO, k_frzP, v_lstAt, k_atO, k_atP, v_putAt, k_putO, k_putP, v_lstS, k_lsO, k_lsP, k_lsC, v_lstHS, v_valS, k_valO, k_valP, v_homN, v_homD, v_homS, k_homO, k_homP, k_homC, k_homU, v_p4, k_p1, k_p2, k_p3, k_p4, k_p5, v_Eqs, k_Eqs, v_Eqd, k_Eqd, v_Eqb, k_Eqb, v_Nes, k_Nes, v_Ned, k_Ned, v_Neb, k_Neb, v_ss, k_ss,
  oEq_d, oNe_d, eqD_i, eqD_s, oIx_t, oIx_l, oIx_s, oIn_t, oIn_l, oIn_s, lst_d, lstH_d, seq_l, seq_t, seq_s, val_d, toD_lst, toD_leaf, cLen_1, cAbs_1, cMax_2, cMin_2, cInt_b, cInt_i, cList_1, oI0_d, oB0_d, tru_b, tru_l, tru_s, oRep_k, strsOf_map, intsOf_map, inD_strs, inD_2, inD_3, inD_4, atI_0, atI_1, atI_2, atI_3, mApp, gC, bYes, parz, postz,
  Option.bind_some, Option.map_some, Option.getD_some, List.getElem?_cons_zero, List.getElem?_cons_succ, List.set_cons_zero, List.set_cons_succ, List.length_cons, List.length_nil, List.length_set, List.cons_append, List.nil_append, List.replicate_succ, List.replicate_zero, List.length_map, Nat.reduceAdd, Nat.zero_add, Nat.reduceLeDiff, Nat.reduceLT, Nat.reduceEqDiff, sizeLine_eq, Int.cast_ofNat_Int, Int.reduceEq, Int.reduceLT, Int.reduceLE, Int.reduceAdd, Int.reduceSub, Int.reduceMul, Int.reduceNeg, Int.reducePow, Int.reduceToNat, ↓reduceIte, if_true, if_false, decide_true, decide_false, Bool.not_true, Bool.not_false, Bool.true_and, Bool.and_true, Bool.false_and, Bool.false_eq_true, reduceCtorEq, Option.isSome_some,
  nm_head_tail, nm_head_skip, nm_head_chop, nm_head_reverse, nm_head_uniq, nm_head_sort, nmP_head, nmS_head, nm_tail_head, nm_tail_skip, nm_tail_chop, nm_tail_reverse, nm_tail_uniq, nm_tail_sort, nmP_tail, nmS_tail, nm_skip_head, nm_skip_tail, nm_skip_chop, nm_skip_reverse, nm_skip_uniq, nm_skip_sort, nmP_skip, nmS_skip, nm_chop_head, nm_chop_tail, nm_chop_skip, nm_chop_reverse, nm_chop_uniq, nm_chop_sort, nmP_chop, nmS_chop, nm_reverse_head, nm_reverse_tail, nm_reverse_skip, nm_reverse_chop, nm_reverse_uniq, nm_reverse_sort, nmP_reverse, nmS_reverse, nm_uniq_head, nm_uniq_tail, nm_uniq_skip, nm_uniq_chop, nm_uniq_reverse, nm_uniq_sort, nmP_uniq, nmS_uniq, nm_sort_head, nm_sort_tail, nm_sort_skip, nm_sort_chop, nm_sort_reverse, nm_sort_uniq, nmP_sort, nmS_sort, PR.PLAIN_d, PR.SLICING_d]
            exact rfl
          case h3 => exact fin (g4.le (by omega)) hx
        | false =>
          obtain ⟨r2, l5, d4, r20, r21, g5⟩ := draw_ok g4 (lim := 4) (by decide) (by decide) (by omega)
          by_cases hr : 0 < r2
          · obtain ⟨ys, y, rfl⟩ : ∃ ys y, xs = ys ++ [y] := by
              rcases List.eq_nil_or_concat xs with h | ⟨ys, y, h⟩
              · rw [h] at hx0
                cases hx0
              · exact ⟨ys, y, by rw [h, List.concat_eq_append]⟩
            have a1 : atI ((ys ++ [y]).map PyData.str) (-1) = some (.str y) := by
              rw [List.map_append]
              exact MM.atI_last _ _
            refine' ⟨_, rfl, _, ?h2, _, Or.inl rfl, ?h3⟩
            case h2 =>
              unfold l0__law_items
              simp only [d3, e1, en, hx0, xl, d4, hr, a1, kb_some, kb_none, km_some, kml_some, v_xD, k_xD, v_gX, k_gXd, k_gXs, v_gG, k_gG, v_gR, k_gRd, k_gRo, v_lR, k_lRo, v_gBin, k_bin1, k_bin2, v_lBin, k_lb1, k_lb2, v_gUn, k_un, u_negI, v_bT, k_bT, v_bNot, k_bNot, v_bAnd, k_andT, k_andF, v_bOr, k_orT, k_orF, v_bTru, k_tru, v_gIf, k_ifT, k_ifF, v_lIf, k_lifT, k_lifF, v_gAnd, k_gAndT, k_gAndF, v_gOr, k_gOrT, k_gOrF, v_gNot, k_gNot, v_gCh, k_ch1, k_ch2, k_ch3T, k_ch3F, k_ch4, v_dN, v_dC, k_dC, k_dC2, v_aN, v_aC, k_aC, k_aC2, v_aSw, k_sw, v_aOne, k_one, v_gTup, k_tup, v_lLst, k_lst, v_gCb, k_cb, v_lCb, k_lcb, v_oN, v_oY, k_oY, v_lSl, k_sl1, k_sl2, k_sl3, v_lRev, k_rev, v_sSeq, k_seqN, k_seqR, k_seqB, k_seqC, v_sN, v_sB, v_sC, v_sV, v_sRN, v_sSet, k_set, v_sOwn, k_own, v_sSetR, k_setRd, k_setRo, v_sAsg, k_asg, k_nx, v_sDrop, k_drop, v_sDropR, k_dropR, v_sRet, k_ret, v_sRetG, k_retG, v_sRetR, k_retR, v_sRetV, k_retVd, k_retVo, v_sIf, k_sifT, k_sifF, v_sAug, k_aug1, k_aug2, v_sPar, k_par, v_hName, v_hNil, v_hCons, v_hTup, v_hSub, k_sub1, k_sub2, k_sub3, v_sFor, k_for, v_iLst, k_iL, v_iTup, k_iT, v_iRg1, k_iR1, v_iRg2, k_iR2, v_iEn, k_iE, v_lLc, k_lc, v_rCall, k_cl1, k_cl2, k_cl3, v_gLm, k_lm1, k_lm2, k_lm3, v_run, k_runR, k_runN, v_len0, v_lenD, v_lenS, k_lenO, k_lenP, k_lenC, v_xVar, k_varD, k_varOf, k_varPf, k_varOl, k_varPl, k_varC, k_varOi, k_varPi, k_varOo, k_varPo, v_frz, k_frzO, k_frzP, v_lstAt, k_atO, k_atP, v_putAt, k_putO, k_putP, v_lstS, k_lsO, k_lsP, k_lsC, v_lstHS, v_valS, k_valO, k_valP, v_homN, v_homD, v_homS, k_homO, k_homP, k_homC, k_homU, v_p4, k_p1, k_p2, k_p3, k_p4, k_p5, v_Eqs, k_Eqs, v_Eqd, k_Eqd, v_Eqb, k_Eqb, v_Nes, k_Nes, v_Ned, k_Ned, v_Neb, k_Neb, v_ss, k_ss,
  oEq_d, oNe_d, eqD_i, eqD_s, oIx_t, oIx_l, oIx_s, oIn_t, oIn_l, oIn_s, lst_d, lstH_d, seq_l, seq_t, seq_s, val_d, toD_lst, toD_leaf, cLen_1, cAbs_1, cMax_2, cMin_2, cInt_b, cInt_i, cList_1, oI0_d, oB0_d, tru_b, tru_l, tru_s, oRep_k, strsOf_map, intsOf_map, inD_strs, inD_2, inD_3, inD_4, atI_0, atI_1, atI_2, atI_3, mApp, gC, bYes, parz, postz,
  Option.bind_some, Option.map_some, Option.getD_some, List.getElem?_cons_zero, List.getElem?_cons_succ, List.set_cons_zero, List.set_cons_succ, List.length_cons, List.length_nil, List.length_set, List.cons_append, List.nil_append, List.replicate_succ, List.replicate_zero, List.length_map, Nat.reduceAdd, Nat.zero_add, Nat.reduceLeDiff, Nat.reduceLT, Nat.reduceEqDiff, sizeLine_eq, Int.cast_ofNat_Int, Int.reduceEq, Int.reduceLT, Int.reduceLE, Int.reduceAdd, Int.reduceSub, Int.reduceMul, Int.reduceNeg, Int.reducePow, Int.reduceToNat, ↓reduceIte, if_true, if_false, decide_true, decide_false, Bool.not_true, Bool.not_false, Bool.true_and, Bool.and_true, Bool.false_and, Bool.false_eq_true, reduceCtorEq, Option.isSome_some,
  nm_head_tail, nm_head_skip, nm_head_chop, nm_head_reverse, nm_head_uniq, nm_head_sort, nmP_head, nmS_head, nm_tail_head, nm_tail_skip, nm_tail_chop, nm_tail_reverse, nm_tail_uniq, nm_tail_sort, nmP_tail, nmS_tail, nm_skip_head, nm_skip_tail, nm_skip_chop, nm_skip_reverse, nm_skip_uniq, nm_skip_sort, nmP_skip, nmS_skip, nm_chop_head, nm_chop_tail, nm_chop_skip, nm_chop_reverse, nm_chop_uniq, nm_chop_sort, nmP_chop, nmS_chop, nm_reverse_head, nm_reverse_tail, nm_reverse_skip, nm_reverse_chop, nm_reverse_uniq, nm_reverse_sort, nmP_reverse, nmS_reverse, nm_uniq_head, nm_uniq_tail, nm_uniq_skip, nm_uniq_chop, nm_uniq_reverse, nm_uniq_sort, nmP_uniq, nmS_uniq, nm_sort_head, nm_sort_tail, nm_sort_skip, nm_sort_chop, nm_sort_reverse, nm_sort_uniq, nmP_sort, nmS_sort, PR.PLAIN_d, PR.SLICING_d]
              exact rfl
            case h3 => exact fin (g5.le (by omega)) (i3 y (by simp))
          · refine' ⟨_, rfl, _, ?h2, _, Or.inl rfl, ?h3⟩
            case h2 =>
              unfold l0__law_items
              simp only [d3, e1, en, hx0, xl, d4, hr, kb_some, kb_none, km_some, kml_some, v_xD, k_xD, v_gX, k_gXd, k_gXs, v_gG, k_gG, v_gR, k_gRd, k_gRo, v_lR, k_lRo, v_gBin, k_bin1, k_bin2, v_lBin, k_lb1, k_lb2, v_gUn, k_un, u_negI, v_bT, k_bT, v_bNot, k_bNot, v_bAnd, k_andT, k_andF, v_bOr, k_orT, k_orF, v_bTru, k_tru, v_gIf, k_ifT, k_ifF, v_lIf, k_lifT, k_lifF, v_gAnd, k_gAndT, k_gAndF, v_gOr, k_gOrT, k_gOrF, v_gNot, k_gNot, v_gCh, k_ch1, k_ch2, k_ch3T, k_ch3F, k_ch4, v_dN, v_dC, k_dC, k_dC2, v_aN, v_aC, k_aC, k_aC2, v_aSw, k_sw, v_aOne, k_one, v_gTup, k_tup, v_lLst, k_lst, v_gCb, k_cb, v_lCb, k_lcb, v_oN, v_oY, k_oY, v_lSl, k_sl1, k_sl2, k_sl3, v_lRev, k_rev, v_sSeq, k_seqN, k_seqR, k_seqB, k_seqC, v_sN, v_sB, v_sC, v_sV, v_sRN, v_sSet, k_set, v_sOwn, k_own, v_sSetR, k_setRd, k_setRo, v_sAsg, k_asg, k_nx, v_sDrop, k_drop, v_sDropR, k_dropR, v_sRet, k_ret, v_sRetG, k_retG, v_sRetR, k_retR, v_sRetV, k_retVd, k_retVo, v_sIf, k_sifT, k_sifF, v_sAug, k_aug1, k_aug2, v_sPar, k_par, v_hName, v_hNil, v_hCons, v_hTup, v_hSub, k_sub1, k_sub2, k_sub3, v_sFor, k_for, v_iLst, k_iL, v_iTup, k_iT, v_iRg1, k_iR1, v_iRg2, k_iR2, v_iEn, k_iE, v_lLc, k_lc, v_rCall, k_cl1, k_cl2, k_cl3, v_gLm, k_lm1, k_lm2, k_lm3, v_run, k_runR, k_runN, v_len0, v_lenD, v_lenS, k_lenO, k_lenP, k_lenC, v_xVar, k_varD, k_varOf, k_varPf, k_varOl, k_varPl, k_varC, k_varOi, k_varPi, k_varOo, k_varPo, v_frz, k_frzO, k_frzP, v_lstAt, k_atO, k_atP, v_putAt, k_putO, k_putP, v_lstS, k_lsO, k_lsP, k_lsC, v_lstHS, v_valS, k_valO, k_valP, v_homN, v_homD, v_homS, k_homO, k_homP, k_homC, k_homU, v_p4, k_p1, k_p2, k_p3, k_p4, k_p5, v_Eqs, k_Eqs, v_Eqd, k_Eqd, v_Eqb, k_Eqb, v_Nes, k_Nes, v_Ned, k_Ned, v_Neb, k_Neb, v_ss, k_ss,
  oEq_d, oNe_d, eqD_i, eqD_s, oIx_t, oIx_l, oIx_s, oIn_t, oIn_l, oIn_s, lst_d, lstH_d, seq_l, seq_t, seq_s, val_d, toD_lst, toD_leaf, cLen_1, cAbs_1, cMax_2, cMin_2, cInt_b, cInt_i, cList_1, oI0_d, oB0_d, tru_b, tru_l, tru_s, oRep_k, strsOf_map, intsOf_map, inD_strs, inD_2, inD_3, inD_4, atI_0, atI_1, atI_2, atI_3, mApp, gC, bYes, parz, postz,
  Option.bind_some, Option.map_some, Option.getD_some, List.getElem?_cons_zero, List.getElem?_cons_succ, List.set_cons_zero, List.set_cons_succ, List.length_cons, List.length_nil, List.length_set, List.cons_append, List.nil_append, List.replicate_succ, List.replicate_zero, List.length_map, Nat.reduceAdd, Nat.zero_add, Nat.reduceLeDiff, Nat.reduceLT, Nat.reduceEqDiff, sizeLine_eq, Int.cast_ofNat_Int, Int.reduceEq, Int.reduceLT, Int.reduceLE, Int.reduceAdd, Int.reduceSub, Int.reduceMul, Int.reduceNeg, Int.reducePow, Int.reduceToNat, ↓reduceIte, if_true, if_false, decide_true, decide_false, Bool.not_true, Bool.not_false, Bool.true_and, Bool.and_true, Bool.false_and, Bool.false_eq_true, reduceCtorEq, Option.isSome_some,
  nm_head_tail, nm_head_skip, nm_head_chop, nm_head_reverse, nm_head_uniq, nm_head_sort, nmP_head, nmS_head, nm_tail_head, nm_tail_skip, nm_tail_chop, nm_tail_reverse, nm_tail_uniq, nm_tail_sort, nmP_tail, nmS_tail, nm_skip_head, nm_skip_tail, nm_skip_chop, nm_skip_reverse, nm_skip_uniq, nm_skip_sort, nmP_skip, nmS_skip, nm_chop_head, nm_chop_tail, nm_chop_skip, nm_chop_reverse, nm_chop_uniq, nm_chop_sort, nmP_chop, nmS_chop, nm_reverse_head, nm_reverse_tail, nm_reverse_skip, nm_reverse_chop, nm_reverse_uniq, nm_reverse_sort, nmP_reverse, nmS_reverse, nm_uniq_head, nm_uniq_tail, nm_uniq_skip, nm_uniq_chop, nm_uniq_reverse, nm_uniq_sort, nmP_uniq, nmS_uniq, nm_sort_head, nm_sort_tail, nm_sort_skip, nm_sort_chop, nm_sort_reverse, nm_sort_uniq, nmP_sort, nmS_sort, PR.PLAIN_d, PR.SLICING_d]
              exact rfl
            case h3 => exact fin (g5.le (by omega)) hx
      · by_cases hw2 : way = 2
        · subst hw2
          have kp0 : (0 : Int) < (ks.length : Int) := by omega
          obtain ⟨y, e2, hy⟩ := inP (z := (0 + ((i : Nat) : Int)) % (ks.length : Int)) (Int.emod_nonneg _ (by omega)) (Int.emod_lt_of_pos _ (by omega))
          refine' ⟨_, rfl, _, ?h2, _, Or.inl rfl, ?h3⟩
          case h2 =>
            unfold l0__law_items
            simp only [d3, e1, xl, oInt_ok (C := fun _ j => 0 < j) kp0, e2, kb_some, kb_none, km_some, kml_some, v_xD, k_xD, v_gX, k_gXd, k_gXs, v_gG, k_gG, v_gR, k_gRd, k_gRo, v_lR, k_lRo, v_gBin, k_bin1, k_bin2, v_lBin, k_lb1, k_lb2, v_gUn, k_un, u_negI, v_bT, k_bT, v_bNot, k_bNot, v_bAnd, k_andT, k_andF, v_bOr, k_orT, k_orF, v_bTru, k_tru, v_gIf, k_ifT, k_ifF, v_lIf, k_lifT, k_lifF, v_gAnd, k_gAndT, k_gAndF, v_gOr, k_gOrT, k_gOrF, v_gNot, k_gNot, v_gCh, k_ch1, k_ch2, k_ch3T, k_ch3F, k_ch4, v_dN, v_dC, k_dC, k_dC2, v_aN, v_aC, k_aC, k_aC2, v_aSw, k_sw, v_aOne, k_one, v_gTup, k_tup, v_lLst, k_lst, v_gCb, k_cb, v_lCb, k_lcb, v_oN, v_oY, k_oY, v_lSl, k_sl1, k_sl2, k_sl3, v_lRev, k_rev, v_sSeq, k_seqN, k_seqR, k_seqB, k_seqC, v_sN, v_sB, v_sC, v_sV, v_sRN, v_sSet, k_set, v_sOwn, k_own, v_sSetR, k_setRd, k_setRo, v_sAsg, k_asg, k_nx, v_sDrop, k_drop, v_sDropR, k_dropR, v_sRet, k_ret, v_sRetG, k_retG, v_sRetR, k_retR, v_sRetV, k_retVd, k_retVo, v_sIf, k_sifT, k_sifF, v_sAug, k_aug1, k_aug2, v_sPar, k_par, v_hName, v_hNil, v_hCons, v_hTup, v_hSub, k_sub1, k_sub2, k_sub3, v_sFor, k_for, v_iLst, k_iL, v_iTup, k_iT, v_iRg1, k_iR1, v_iRg2, k_iR2, v_iEn, k_iE, v_lLc, k_lc, v_rCall, k_cl1, k_cl2, k_cl3, v_gLm, k_lm1, k_lm2, k_lm3, v_run, k_runR, k_runN, v_len0, v_lenD, v_lenS, k_lenO, k_lenP, k_lenC, v_xVar, k_varD, k_varOf, k_varPf, k_varOl, k_varPl, k_varC, k_varOi, k_varPi, k_varOo, k_varPo, v_frz, k_frzO, k_frzP, v_lstAt, k_atO, k_atP, v_putAt, k_putO, k_putP, v_lstS, k_lsO, k_lsP, k_lsC, v_lstHS, v_valS, k_valO, k_valP, v_homN, v_homD, v_homS, k_homO, k_homP, k_homC, k_homU, v_p4, k_p1, k_p2, k_p3, k_p4, k_p5, v_Eqs, k_Eqs, v_Eqd, k_Eqd, v_Eqb, k_Eqb, v_Nes, k_Nes, v_Ned, k_Ned, v_Neb, k_Neb, v_ss, k_ss,
  oEq_d, oNe_d, eqD_i, eqD_s, oIx_t, oIx_l, oIx_s, oIn_t, oIn_l, oIn_s, lst_d, lstH_d, seq_l, seq_t, seq_s, val_d, toD_lst, toD_leaf, cLen_1, cAbs_1, cMax_2, cMin_2, cInt_b, cInt_i, cList_1, oI0_d, oB0_d, tru_b, tru_l, tru_s, oRep_k, strsOf_map, intsOf_map, inD_strs, inD_2, inD_3, inD_4, atI_0, atI_1, atI_2, atI_3, mApp, gC, bYes, parz, postz,
  Option.bind_some, Option.map_some, Option.getD_some, List.getElem?_cons_zero, List.getElem?_cons_succ, List.set_cons_zero, List.set_cons_succ, List.length_cons, List.length_nil, List.length_set, List.cons_append, List.nil_append, List.replicate_succ, List.replicate_zero, List.length_map, Nat.reduceAdd, Nat.zero_add, Nat.reduceLeDiff, Nat.reduceLT, Nat.reduceEqDiff, sizeLine_eq, Int.cast_ofNat_Int, Int.reduceEq, Int.reduceLT, Int.reduceLE, Int.reduceAdd, Int.reduceSub, Int.reduceMul, Int.reduceNeg, Int.reducePow, Int.reduceToNat, ↓reduceIte, if_true, if_false, decide_true, decide_false, Bool.not_true, Bool.not_false, Bool.true_and, Bool.and_true, Bool.false_and, Bool.false_eq_true, reduceCtorEq, Option.isSome_some,
  nm_head_tail, nm_head_skip, nm_head_chop, nm_head_reverse, nm_head_uniq, nm_head_sort, nmP_head, nmS_head, nm_tail_head, nm_tail_skip, nm_tail_chop, nm_tail_reverse, nm_tail_uniq, nm_tail_sort, nmP_tail, nmS_tail, nm_skip_head, nm_skip_tail, nm_skip_chop, nm_skip_reverse, nm_skip_uniq, nm_skip_sort, nmP_skip, nmS_skip, nm_chop_head, nm_chop_tail, nm_chop_skip, nm_chop_reverse, nm_chop_uniq, nm_chop_sort, nmP_chop, nmS_chop, nm_reverse_head, nm_reverse_tail, nm_reverse_skip, nm_reverse_chop, nm_reverse_uniq, nm_reverse_sort, nmP_reverse, nmS_reverse, nm_uniq_head, nm_uniq_tail, nm_uniq_skip, nm_uniq_chop, nm_uniq_reverse, nm_uniq_sort, nmP_uniq, nmS_uniq, nm_sort_head, nm_sort_tail, nm_sort_skip, nm_sort_chop, nm_sort_reverse, nm_sort_uniq, nmP_sort, nmS_sort, PR.PLAIN_d, PR.SLICING_d]
            exact rfl
          case h3 => exact fin (g4.le (by omega)) hy
        · refine' ⟨_, rfl, _, ?h2, _, Or.inl rfl, ?h3⟩
          case h2 =>
            unfold l0__law_items
            simp only [d3, e1, xl, hw1, hw2, kb_some, kb_none, km_some, kml_some, v_xD, k_xD, v_gX, k_gXd, k_gXs, v_gG, k_gG, v_gR, k_gRd, k_gRo, v_lR, k_lRo, v_gBin, k_bin1, k_bin2, v_lBin, k_lb1, k_lb2, v_gUn, k_un, u_negI, v_bT, k_bT, v_bNot, k_bNot, v_bAnd, k_andT, k_andF, v_bOr, k_orT, k_orF, v_bTru, k_tru, v_gIf, k_ifT, k_ifF, v_lIf, k_lifT, k_lifF, v_gAnd, k_gAndT, k_gAndF, v_gOr, k_gOrT, k_gOrF, v_gNot, k_gNot, v_gCh, k_ch1, k_ch2, k_ch3T, k_ch3F, k_ch4, v_dN, v_dC, k_dC, k_dC2, v_aN, v_aC, k_aC, k_aC2, v_aSw, k_sw, v_aOne, k_one, v_gTup, k_tup, v_lLst, k_lst, v_gCb, k_cb, v_lCb, k_lcb, v_oN, v_oY, k_oY, v_lSl, k_sl1, k_sl2, k_sl3, v_lRev, k_rev, v_sSeq, k_seqN, k_seqR, k_seqB, k_seqC, v_sN, v_sB, v_sC, v_sV, v_sRN, v_sSet, k_set, v_sOwn, k_own, v_sSetR, k_setRd, k_setRo, v_sAsg, k_asg, k_nx, v_sDrop, k_drop, v_sDropR, k_dropR, v_sRet, k_ret, v_sRetG, k_retG, v_sRetR, k_retR, v_sRetV, k_retVd, k_retVo, v_sIf, k_sifT, k_sifF, v_sAug, k_aug1, k_aug2, v_sPar, k_par, v_hName, v_hNil, v_hCons, v_hTup, v_hSub, k_sub1, k_sub2, k_sub3, v_sFor, k_for, v_iLst, k_iL, v_iTup, k_iT, v_iRg1, k_iR1, v_iRg2, k_iR2, v_iEn, k_iE, v_lLc, k_lc, v_rCall, k_cl1, k_cl2, k_cl3, v_gLm, k_lm1, k_lm2, k_lm3, v_run, k_runR, k_runN, v_len0, v_lenD, v_lenS, k_lenO, k_lenP, k_lenC, v_xVar, k_varD, k_varOf, k_varPf, k_varOl, k_varPl, k_varC, k_varOi, k_varPi, k_varOo, k_varPo, v_frz, k_frzO, k_frzP, v_lstAt, k_atO, k_atP, v_putAt, k_putO, k_putP, v_lstS, k_lsO, k_lsP, k_lsC, v_lstHS, v_valS, k_valO, k_valP, v_homN, v_homD, v_homS, k_homO, k_homP, k_homC, k_homU, v_p4, k_p1, k_p2, k_p3, k_p4, k_p5, v_Eqs, k_Eqs, v_Eqd, k_Eqd, v_Eqb, k_Eqb, v_Nes, k_Nes, v_Ned, k_Ned, v_Neb, k_Neb, v_ss, k_ss,
  oEq_d, oNe_d, eqD_i, eqD_s, oIx_t, oIx_l, oIx_s, oIn_t, oIn_l, oIn_s, lst_d, lstH_d, seq_l, seq_t, seq_s, val_d, toD_lst, toD_leaf, cLen_1, cAbs_1, cMax_2, cMin_2, cInt_b, cInt_i, cList_1, oI0_d, oB0_d, tru_b, tru_l, tru_s, oRep_k, strsOf_map, intsOf_map, inD_strs, inD_2, inD_3, inD_4, atI_0, atI_1, atI_2, atI_3, mApp, gC, bYes, parz, postz,
  Option.bind_some, Option.map_some, Option.getD_some, List.getElem?_cons_zero, List.getElem?_cons_succ, List.set_cons_zero, List.set_cons_succ, List.length_cons, List.length_nil, List.length_set, List.cons_append, List.nil_append, List.replicate_succ, List.replicate_zero, List.length_map, Nat.reduceAdd, Nat.zero_add, Nat.reduceLeDiff, Nat.reduceLT, Nat.reduceEqDiff, sizeLine_eq, Int.cast_ofNat_Int, Int.reduceEq, Int.reduceLT, Int.reduceLE, Int.reduceAdd, Int.reduceSub, Int.reduceMul, Int.reduceNeg, Int.reducePow, Int.reduceToNat, ↓reduceIte, if_true, if_false, decide_true, decide_false, Bool.not_true, Bool.not_false, Bool.true_and, Bool.and_true, Bool.false_and, Bool.false_eq_true, reduceCtorEq, Option.isSome_some,
  nm_head_tail, nm_head_skip, nm_head_chop, nm_head_reverse, nm_head_uniq, nm_head_sort, nmP_head, nmS_head, nm_tail_head, nm_tail_skip, nm_tail_chop, nm_tail_reverse, nm_tail_uniq, nm_tail_sort, nmP_tail, nmS_tail, nm_skip_head, nm_skip_tail, nm_skip_chop, nm_skip_reverse, nm_skip_uniq, nm_skip_sort, nmP_skip, nmS_skip, nm_chop_head, nm_chop_tail, nm_chop_skip, nm_chop_reverse, nm_chop_uniq, nm_chop_sort, nmP_chop, nmS_chop, nm_reverse_head, nm_reverse_tail, nm_reverse_skip, nm_reverse_chop, nm_reverse_uniq, nm_reverse_sort, nmP_reverse, nmS_reverse, nm_uniq_head, nm_uniq_tail, nm_uniq_skip, nm_uniq_chop, nm_uniq_reverse, nm_uniq_sort, nmP_uniq, nmS_uniq, nm_sort_head, nm_sort_tail, nm_sort_skip, nm_sort_chop, nm_sort_reverse, nm_sort_uniq, nmP_sort, nmS_sort, PR.PLAIN_d, PR.SLICING_d]
            exact rfl
          case h3 => exact fin (g4.le (by omega)) hx
  have rl : (rangeD 0 k.toNat).length = k.toNat := rangeD_len
  have b2 : -4611686018427387904 ≤ k ∧ k < 4611686018427387904 := ⟨by omega, by omega⟩
  refine ⟨xs, l3, ?_, by omega, i3, g3.le (by omega)⟩
  unfold F__law_items g__law_items
  simp only [d1, d2, b2, and_self, h1, kb_some, kb_none, km_some, kml_some, v_xD, k_xD, v_gX, k_gXd, k_gXs, v_gG, k_gG, v_gR, k_gRd, k_gRo, v_lR, k_lRo, v_gBin, k_bin1, k_bin2, v_lBin, k_lb1, k_lb2, v_gUn, k_un, u_negI, v_bT, k_bT, v_bNot, k_bNot, v_bAnd, k_andT, k_andF, v_bOr, k_orT, k_orF, v_bTru, k_tru, v_gIf, k_ifT, k_ifF, v_lIf, k_lifT, k_lifF, v_gAnd, k_gAndT, k_gAndF, v_gOr, k_gOrT, k_gOrF, v_gNot, k_gNot, v_gCh, k_ch1, k_ch2, k_ch3T, k_ch3F, k_ch4, v_dN, v_dC, k_dC, k_dC2, v_aN, v_aC, k_aC, k_aC2, v_aSw, k_sw, v_aOne, k_one, v_gTup, k_tup, v_lLst, k_lst, v_gCb, k_cb, v_lCb, k_lcb, v_oN, v_oY, k_oY, v_lSl, k_sl1, k_sl2, k_sl3, v_lRev, k_rev, v_sSeq, k_seqN, k_seqR, k_seqB, k_seqC, v_sN, v_sB, v_sC, v_sV, v_sRN, v_sSet, k_set, v_sOwn, k_own, v_sSetR, k_setRd, k_setRo, v_sAsg, k_asg, k_nx, v_sDrop, k_drop, v_sDropR, k_dropR, v_sRet, k_ret, v_sRetG, k_retG, v_sRetR, k_retR, v_sRetV, k_retVd, k_retVo, v_sIf, k_sifT, k_sifF, v_sAug, k_aug1, k_aug2, v_sPar, k_par, v_hName, v_hNil, v_hCons, v_hTup, v_hSub, k_sub1, k_sub2, k_sub3, v_sFor, k_for, v_iLst, k_iL, v_iTup, k_iT, v_iRg1, k_iR1, v_iRg2, k_iR2, v_iEn, k_iE, v_lLc, k_lc, v_rCall, k_cl1, k_cl2, k_cl3, v_gLm, k_lm1, k_lm2, k_lm3, v_run, k_runR, k_runN, v_len0, v_lenD, v_lenS, k_lenO, k_lenP, k_lenC, v_xVar, k_varD, k_varOf, k_varPf, k_varOl, k_varPl, k_varC, k_varOi, k_varPi, k_varOo, k_varPo, v_frz, k_frzO, k_frzP, v_lstAt, k_atO, k_atP, v_putAt, k_putO, k_putP, v_lstS, k_lsO, k_lsP, k_lsC, v_lstHS, v_valS, k_valO, k_valP, v_homN, v_homD, v_homS, k_homO, k_homP, k_homC, k_homU, v_p4, k_p1, k_p2, k_p3, k_p4, k_p5, v_Eqs, k_Eqs, v_Eqd, k_Eqd, v_Eqb, k_Eqb, v_Nes, k_Nes, v_Ned, k_Ned, v_Neb, k_Neb, v_ss, k_ss,
  oEq_d, oNe_d, eqD_i, eqD_s, oIx_t, oIx_l, oIx_s, oIn_t, oIn_l, oIn_s, lst_d, lstH_d, seq_l, seq_t, seq_s, val_d, toD_lst, toD_leaf, cLen_1, cAbs_1, cMax_2, cMin_2, cInt_b, cInt_i, cList_1, oI0_d, oB0_d, tru_b, tru_l, tru_s, oRep_k, strsOf_map, intsOf_map, inD_strs, inD_2, inD_3, inD_4, atI_0, atI_1, atI_2, atI_3, mApp, gC, bYes, parz, postz,
  Option.bind_some, Option.map_some, Option.getD_some, List.getElem?_cons_zero, List.getElem?_cons_succ, List.set_cons_zero, List.set_cons_succ, List.length_cons, List.length_nil, List.length_set, List.cons_append, List.nil_append, List.replicate_succ, List.replicate_zero, List.length_map, Nat.reduceAdd, Nat.zero_add, Nat.reduceLeDiff, Nat.reduceLT, Nat.reduceEqDiff, sizeLine_eq, Int.cast_ofNat_Int, Int.reduceEq, Int.reduceLT, Int.reduceLE, Int.reduceAdd, Int.reduceSub, Int.reduceMul, Int.reduceNeg, Int.reducePow, Int.reduceToNat, ↓reduceIte, if_true, if_false, decide_true, decide_false, Bool.not_true, Bool.not_false, Bool.true_and, Bool.and_true, Bool.false_and, Bool.false_eq_true, reduceCtorEq, Option.isSome_some,
  nm_head_tail, nm_head_skip, nm_head_chop, nm_head_reverse, nm_head_uniq, nm_head_sort, nmP_head, nmS_head, nm_tail_head, nm_tail_skip, nm_tail_chop, nm_tail_reverse, nm_tail_uniq, nm_tail_sort, nmP_tail, nmS_tail, nm_skip_head, nm_skip_tail, nm_skip_chop, nm_skip_reverse, nm_skip_uniq, nm_skip_sort, nmP_skip, nmS_skip, nm_chop_head, nm_chop_tail, nm_chop_skip, nm_chop_reverse, nm_chop_uniq, nm_chop_sort, nmP_chop, nmS_chop, nm_reverse_head, nm_reverse_tail, nm_reverse_skip, nm_reverse_chop, nm_reverse_uniq, nm_reverse_sort, nmP_reverse, nmS_reverse, nm_uniq_head, nm_uniq_tail, nm_uniq_skip, nm_uniq_chop, nm_uniq_reverse, nm_uniq_sort, nmP_uniq, nmS_uniq, nm_sort_head, nm_sort_tail, nm_sort_skip, nm_sort_chop, nm_sort_reverse, nm_sort_uniq, nmP_sort, nmS_sort, PR.PLAIN_d, PR.SLICING_d]
theorem command_ok {n : Nat} {l : List PyData} (g : Rg n l) (hn : n < 2 ^ 59) {z : Int} (z0 : 0 ≤ z) (z60 : z ≤ 1000) : ∃ (c : Cm) (l' : List PyData), F__law_command [.own (.lst l), .dat (.int z)] = some (.dat c.d, [.own (.lst l'), .un]) ∧ c.ok ∧ c.num < 2 ^ 150 ∧ Rg (n + 10) l' := by
  obtain ⟨r, l1, d1, r0, r1, g1⟩ := draw_ok g (lim := 7) (by decide) (by decide) (by omega)
  obtain ⟨a, l2, d2, a0, a1, g2⟩ := draw_ok g1 (lim := 4) (by decide) (by decide) (by omega)
  obtain ⟨b, l3, d3, b0, b1, g3⟩ := draw_ok g2 (lim := z + 3) (by omega) (by omega) (by omega)
  obtain ⟨e, l4, d4, e0, e1, g4⟩ := draw_ok g3 (lim := 4) (by decide) (by decide) (by omega)
  obtain ⟨q, l5, d5, q0, q1, g5⟩ := draw_ok g4 (lim := 9) (by decide) (by decide) (by omega)
  obtain ⟨kk, hk, kk0, kk1⟩ : ∃ kk : Int, atI [PyData.int 0, .int 1, .int 1, .int 2, .int 2, .int 2, .int 3, .int 3, .int 4] q = some (.int kk) ∧ 0 ≤ kk ∧ kk ≤ 4 := by
    rcases (by omega : q = 0 ∨ q = 1 ∨ q = 2 ∨ q = 3 ∨ q = 4 ∨ q = 5 ∨ q = 6 ∨ q = 7 ∨ q = 8) with rfl | rfl | rfl | rfl | rfl | rfl | rfl | rfl | rfl <;> exact ⟨_, rfl, by decide, by decide⟩
  have p150 : (2 : Int) ^ 150 = 1427247692705959881058285969449495136382746624 := by decide
  obtain ⟨num, hn, n0, n1⟩ : ∃ num : Int, atI [PyData.int 0, .int a, .int b, .int (if z - e > 0 then z - e else 0), .int 999999999999999999999999999999] kk = some (.int num) ∧ 0 ≤ num ∧ num < 2 ^ 150 := by
    rw [p150]
    rcases (by omega : kk = 0 ∨ kk = 1 ∨ kk = 2 ∨ kk = 3 ∨ kk = 4) with rfl | rfl | rfl | rfl | rfl <;> exact ⟨_, rfl, by first | omega | (split <;> omega), by first | omega | (split <;> omega)⟩
  have q1 : CPowW 10 30 := pow_ok (by decide) (by decide) (nab (by decide : (10 : Int).natAbs < 2 ^ 60) (p2 (by decide)))
  have i0 : ∀ x : Int, 0 ≤ x → x ≤ 6 → x = 0 ∨ x = 1 ∨ x = 2 ∨ x = 3 ∨ x = 4 ∨ x = 5 ∨ x = 6 := fun x h0 h1 => by omega
  have A : ∀ (i : Nat) (x : MM.S), (["head", "tail", "skip", "chop", "reverse", "uniq", "sort"] : List MM.S)[i]? = some x → atI [PyData.str "head", .str "tail", .str "skip", .str "chop", .str "reverse", .str "uniq", .str "sort"] (i : Int) = some (.str x) := fun i x h => atI_strs (xs := ["head", "tail", "skip", "chop", "reverse", "uniq", "sort"]) h
  unfold F__law_command g__law_command
  rcases i0 r r0 (by omega) with rfl | rfl | rfl | rfl | rfl | rfl | rfl
  · refine ⟨.head num, l5, ?_, n0, n1, g5.le (by omega)⟩
    have at7 := A 0 "head" rfl
    simp only [d1, d2, d3, d4, oInt_ok q1, d5, hk, hn, kb_some, kb_none, km_some, kml_some, v_xD, k_xD, v_gX, k_gXd, k_gXs, v_gG, k_gG, v_gR, k_gRd, k_gRo, v_lR, k_lRo, v_gBin, k_bin1, k_bin2, v_lBin, k_lb1, k_lb2, v_gUn, k_un, u_negI, v_bT, k_bT, v_bNot, k_bNot, v_bAnd, k_andT, k_andF, v_bOr, k_orT, k_orF, v_bTru, k_tru, v_gIf, k_ifT, k_ifF, v_lIf, k_lifT, k_lifF, v_gAnd, k_gAndT, k_gAndF, v_gOr, k_gOrT, k_gOrF, v_gNot, k_gNot, v_gCh, k_ch1, k_ch2, k_ch3T, k_ch3F, k_ch4, v_dN, v_dC, k_dC, k_dC2, v_aN, v_aC, k_aC, k_aC2, v_aSw, k_sw, v_aOne, k_one, v_gTup, k_tup, v_lLst, k_lst, v_gCb, k_cb, v_lCb, k_lcb, v_oN, v_oY, k_oY, v_lSl, k_sl1, k_sl2, k_sl3, v_lRev, k_rev, v_sSeq, k_seqN, k_seqR, k_seqB, k_seqC, v_sN, v_sB, v_sC, v_sV, v_sRN, v_sSet, k_set, v_sOwn, k_own, v_sSetR, k_setRd, k_setRo, v_sAsg, k_asg, k_nx, v_sDrop, k_drop, v_sDropR, k_dropR, v_sRet, k_ret, v_sRetG, k_retG, v_sRetR, k_retR, v_sRetV, k_retVd, k_retVo, v_sIf, k_sifT, k_sifF, v_sAug, k_aug1, k_aug2, v_sPar, k_par, v_hName, v_hNil, v_hCons, v_hTup, v_hSub, k_sub1, k_sub2, k_sub3, v_sFor, k_for, v_iLst, k_iL, v_iTup, k_iT, v_iRg1, k_iR1, v_iRg2, k_iR2, v_iEn, k_iE, v_lLc, k_lc, v_rCall, k_cl1, k_cl2, k_cl3, v_gLm, k_lm1, k_lm2, k_lm3, v_run, k_runR, k_runN, v_len0, v_lenD, v_lenS, k_lenO, k_lenP, k_lenC, v_xVar, k_varD, k_varOf, k_varPf, k_varOl, k_varPl, k_varC, k_varOi, k_varPi, k_varOo, k_varPo, v_frz, k_frzO, k_frzP, v_lstAt, k_atO, k_atP, v_putAt, k_putO, k_putP, v_lstS, k_lsO, k_lsP, k_lsC, v_lstHS, v_valS, k_valO, k_valP, v_homN, v_homD, v_homS, k_homO, k_homP, k_homC, k_homU, v_p4, k_p1, k_p2, k_p3, k_p4, k_p5, v_Eqs, k_Eqs, v_Eqd, k_Eqd, v_Eqb, k_Eqb, v_Nes, k_Nes, v_Ned, k_Ned, v_Neb, k_Neb, v_ss, k_ss,
  oEq_d, oNe_d, eqD_i, eqD_s, oIx_t, oIx_l, oIx_s, oIn_t, oIn_l, oIn_s, lst_d, lstH_d, seq_l, seq_t, seq_s, val_d, toD_lst, toD_leaf, cLen_1, cAbs_1, cMax_2, cMin_2, cInt_b, cInt_i, cList_1, oI0_d, oB0_d, tru_b, tru_l, tru_s, oRep_k, strsOf_map, intsOf_map, inD_strs, inD_2, inD_3, inD_4, atI_0, atI_1, atI_2, atI_3, mApp, gC, bYes, parz, postz,
  Option.bind_some, Option.map_some, Option.getD_some, List.getElem?_cons_zero, List.getElem?_cons_succ, List.set_cons_zero, List.set_cons_succ, List.length_cons, List.length_nil, List.length_set, List.cons_append, List.nil_append, List.replicate_succ, List.replicate_zero, List.length_map, Nat.reduceAdd, Nat.zero_add, Nat.reduceLeDiff, Nat.reduceLT, Nat.reduceEqDiff, sizeLine_eq, Int.cast_ofNat_Int, Int.reduceEq, Int.reduceLT, Int.reduceLE, Int.reduceAdd, Int.reduceSub, Int.reduceMul, Int.reduceNeg, Int.reducePow, Int.reduceToNat, ↓reduceIte, if_true, if_false, decide_true, decide_false, Bool.not_true, Bool.not_false, Bool.true_and, Bool.and_true, Bool.false_and, Bool.false_eq_true, reduceCtorEq, Option.isSome_some,
  nm_head_tail, nm_head_skip, nm_head_chop, nm_head_reverse, nm_head_uniq, nm_head_sort, nmP_head, nmS_head, nm_tail_head, nm_tail_skip, nm_tail_chop, nm_tail_reverse, nm_tail_uniq, nm_tail_sort, nmP_tail, nmS_tail, nm_skip_head, nm_skip_tail, nm_skip_chop, nm_skip_reverse, nm_skip_uniq, nm_skip_sort, nmP_skip, nmS_skip, nm_chop_head, nm_chop_tail, nm_chop_skip, nm_chop_reverse, nm_chop_uniq, nm_chop_sort, nmP_chop, nmS_chop, nm_reverse_head, nm_reverse_tail, nm_reverse_skip, nm_reverse_chop, nm_reverse_uniq, nm_reverse_sort, nmP_reverse, nmS_reverse, nm_uniq_head, nm_uniq_tail, nm_uniq_skip, nm_uniq_chop, nm_uniq_reverse, nm_uniq_sort, nmP_uniq, nmS_uniq, nm_sort_head, nm_sort_tail, nm_sort_skip, nm_sort_chop, nm_sort_reverse, nm_sort_uniq, nmP_sort, nmS_sort, PR.PLAIN_d, PR.SLICING_d]
    rfl
  · refine ⟨.tail num, l5, ?_, n0, n1, g5.le (by omega)⟩
    simp only [d1, d2, d3, d4, oInt_ok q1, d5, hk, hn, kb_some, kb_none, km_some, kml_some, v_xD, k_xD, v_gX, k_gXd, k_gXs, v_gG, k_gG, v_gR, k_gRd, k_gRo, v_lR, k_lRo, v_gBin, k_bin1, k_bin2, v_lBin, k_lb1, k_lb2, v_gUn, k_un, u_negI, v_bT, k_bT, v_bNot, k_bNot, v_bAnd, k_andT, k_andF, v_bOr, k_orT, k_orF, v_bTru, k_tru, v_gIf, k_ifT, k_ifF, v_lIf, k_lifT, k_lifF, v_gAnd, k_gAndT, k_gAndF, v_gOr, k_gOrT, k_gOrF, v_gNot, k_gNot, v_gCh, k_ch1, k_ch2, k_ch3T, k_ch3F, k_ch4, v_dN, v_dC, k_dC, k_dC2, v_aN, v_aC, k_aC, k_aC2, v_aSw, k_sw, v_aOne, k_one, v_gTup, k_tup, v_lLst, k_lst, v_gCb, k_cb, v_lCb, k_lcb, v_oN, v_oY, k_oY, v_lSl, k_sl1, k_sl2, k_sl3, v_lRev, k_rev, v_sSeq, k_seqN, k_seqR, k_seqB, k_seqC, v_sN, v_sB, v_sC, v_sV, v_sRN, v_sSet, k_set, v_sOwn, k_own, v_sSetR, k_setRd, k_setRo, v_sAsg, k_asg, k_nx, v_sDrop, k_drop, v_sDropR, k_dropR, v_sRet, k_ret, v_sRetG, k_retG, v_sRetR, k_retR, v_sRetV, k_retVd, k_retVo, v_sIf, k_sifT, k_sifF, v_sAug, k_aug1, k_aug2, v_sPar, k_par, v_hName, v_hNil, v_hCons, v_hTup, v_hSub, k_sub1, k_sub2, k_sub3, v_sFor, k_for, v_iLst, k_iL, v_iTup, k_iT, v_iRg1, k_iR1, v_iRg2, k_iR2, v_iEn, k_iE, v_lLc, k_lc, v_rCall, k_cl1, k_cl2, k_cl3, v_gLm, k_lm1, k_lm2, k_lm3, v_run, k_runR, k_runN, v_len0, v_lenD, v_lenS, k_lenO, k_lenP, k_lenC, v_xVar, k_varD, k_varOf, k_varPf, k_varOl, k_varPl, k_varC, k_varOi, k_varPi, k_varOo, k_varPo, v_frz, k_frzO, k_frzP, v_lstAt, k_atO, k_atP, v_putAt, k_putO, k_putP, v_lstS, k_lsO, k_lsP, k_lsC, v_lstHS, v_valS, k_valO, k_valP, v_homN, v_homD, v_homS, k_homO, k_homP, k_homC, k_homU, v_p4, k_p1, k_p2, k_p3, k_p4, k_p5, v_Eqs, k_Eqs, v_Eqd, k_Eqd, v_Eqb, k_Eqb, v_Nes, k_Nes, v_Ned, k_Ned, v_Neb, k_Neb, v_ss, k_ss,
  oEq_d, oNe_d, eqD_i, eqD_s, oIx_t, oIx_l, oIx_s, oIn_t, oIn_l, oIn_s, lst_d, lstH_d, seq_l, seq_t, seq_s, val_d, toD_lst, toD_leaf, cLen_1, cAbs_1, cMax_2, cMin_2, cInt_b, cInt_i, cList_1, oI0_d, oB0_d, tru_b, tru_l, tru_s, oRep_k, strsOf_map, intsOf_map, inD_strs, inD_2, inD_3, inD_4, atI_0, atI_1, atI_2, atI_3, mApp, gC, bYes, parz, postz,
  Option.bind_some, Option.map_some, Option.getD_some, List.getElem?_cons_zero, List.getElem?_cons_succ, List.set_cons_zero, List.set_cons_succ, List.length_cons, List.length_nil, List.length_set, List.cons_append, List.nil_append, List.replicate_succ, List.replicate_zero, List.length_map, Nat.reduceAdd, Nat.zero_add, Nat.reduceLeDiff, Nat.reduceLT, Nat.reduceEqDiff, sizeLine_eq, Int.cast_ofNat_Int, Int.reduceEq, Int.reduceLT, Int.reduceLE, Int.reduceAdd, Int.reduceSub, Int.reduceMul, Int.reduceNeg, Int.reducePow, Int.reduceToNat, ↓reduceIte, if_true, if_false, decide_true, decide_false, Bool.not_true, Bool.not_false, Bool.true_and, Bool.and_true, Bool.false_and, Bool.false_eq_true, reduceCtorEq, Option.isSome_some,
  nm_head_tail, nm_head_skip, nm_head_chop, nm_head_reverse, nm_head_uniq, nm_head_sort, nmP_head, nmS_head, nm_tail_head, nm_tail_skip, nm_tail_chop, nm_tail_reverse, nm_tail_uniq, nm_tail_sort, nmP_tail, nmS_tail, nm_skip_head, nm_skip_tail, nm_skip_chop, nm_skip_reverse, nm_skip_uniq, nm_skip_sort, nmP_skip, nmS_skip, nm_chop_head, nm_chop_tail, nm_chop_skip, nm_chop_reverse, nm_chop_uniq, nm_chop_sort, nmP_chop, nmS_chop, nm_reverse_head, nm_reverse_tail, nm_reverse_skip, nm_reverse_chop, nm_reverse_uniq, nm_reverse_sort, nmP_reverse, nmS_reverse, nm_uniq_head, nm_uniq_tail, nm_uniq_skip, nm_uniq_chop, nm_uniq_reverse, nm_uniq_sort, nmP_uniq, nmS_uniq, nm_sort_head, nm_sort_tail, nm_sort_skip, nm_sort_chop, nm_sort_reverse, nm_sort_uniq, nmP_sort, nmS_sort, PR.PLAIN_d, PR.SLICING_d]
    rfl
  · refine ⟨.skip num, l5, ?_, n0, n1, g5.le (by omega)⟩
    simp only [d1, d2, d3, d4, oInt_ok q1, d5, hk, hn, kb_some, kb_none, km_some, kml_some, v_xD, k_xD, v_gX, k_gXd, k_gXs, v_gG, k_gG, v_gR, k_gRd, k_gRo, v_lR, k_lRo, v_gBin, k_bin1, k_bin2, v_lBin, k_lb1, k_lb2, v_gUn, k_un, u_negI, v_bT, k_bT, v_bNot, k_bNot, v_bAnd, k_andT, k_andF, v_bOr, k_orT, k_orF, v_bTru, k_tru, v_gIf, k_ifT, k_ifF, v_lIf, k_lifT, k_lifF, v_gAnd, k_gAndT, k_gAndF, v_gOr, k_gOrT, k_gOrF, v_gNot, k_gNot, v_gCh, k_ch1, k_ch2, k_ch3T, k_ch3F, k_ch4, v_dN, v_dC, k_dC, k_dC2, v_aN, v_aC, k_aC, k_aC2, v_aSw, k_sw, v_aOne, k_one, v_gTup, k_tup, v_lLst, k_lst, v_gCb, k_cb, v_lCb, k_lcb, v_oN, v_oY, k_oY, v_lSl, k_sl1, k_sl2, k_sl3, v_lRev, k_rev, v_sSeq, k_seqN, k_seqR, k_seqB, k_seqC, v_sN, v_sB, v_sC, v_sV, v_sRN, v_sSet, k_set, v_sOwn, k_own, v_sSetR, k_setRd, k_setRo, v_sAsg, k_asg, k_nx, v_sDrop, k_drop, v_sDropR, k_dropR, v_sRet, k_ret, v_sRetG, k_retG, v_sRetR, k_retR, v_sRetV, k_retVd, k_retVo, v_sIf, k_sifT, k_sifF, v_sAug, k_aug1, k_aug2, v_sPar, k_par, v_hName, v_hNil, v_hCons, v_hTup, v_hSub, k_sub1, k_sub2, k_sub3, v_sFor, k_for, v_iLst, k_iL, v_iTup, k_iT, v_iRg1, k_iR1, v_iRg2, k_iR2, v_iEn, k_iE, v_lLc, k_lc, v_rCall, k_cl1, k_cl2, k_cl3, v_gLm, k_lm1, k_lm2, k_lm3, v_run, k_runR, k_runN, v_len0, v_lenD, v_lenS, k_lenO, k_lenP, k_lenC, v_xVar, k_varD, k_varOf, k_varPf, k_varOl, k_varPl, k_varC, k_varOi, k_varPi, k_varOo, k_varPo, v_frz, k_frzO, k_frzP, v_lstAt, k_atO, k_atP, v_putAt, k_putO, k_putP, v_lstS, k_lsO, k_lsP, k_lsC, v_lstHS, v_valS, k_valO, k_valP, v_homN, v_homD, v_homS, k_homO, k_homP, k_homC, k_homU, v_p4, k_p1, k_p2, k_p3, k_p4, k_p5, v_Eqs, k_Eqs, v_Eqd, k_Eqd, v_Eqb, k_Eqb, v_Nes, k_Nes, v_Ned, k_Ned, v_Neb, k_Neb, v_ss, k_ss,
  oEq_d, oNe_d, eqD_i, eqD_s, oIx_t, oIx_l, oIx_s, oIn_t, oIn_l, oIn_s, lst_d, lstH_d, seq_l, seq_t, seq_s, val_d, toD_lst, toD_leaf, cLen_1, cAbs_1, cMax_2, cMin_2, cInt_b, cInt_i, cList_1, oI0_d, oB0_d, tru_b, tru_l, tru_s, oRep_k, strsOf_map, intsOf_map, inD_strs, inD_2, inD_3, inD_4, atI_0, atI_1, atI_2, atI_3, mApp, gC, bYes, parz, postz,
  Option.bind_some, Option.map_some, Option.getD_some, List.getElem?_cons_zero, List.getElem?_cons_succ, List.set_cons_zero, List.set_cons_succ, List.length_cons, List.length_nil, List.length_set, List.cons_append, List.nil_append, List.replicate_succ, List.replicate_zero, List.length_map, Nat.reduceAdd, Nat.zero_add, Nat.reduceLeDiff, Nat.reduceLT, Nat.reduceEqDiff, sizeLine_eq, Int.cast_ofNat_Int, Int.reduceEq, Int.reduceLT, Int.reduceLE, Int.reduceAdd, Int.reduceSub, Int.reduceMul, Int.reduceNeg, Int.reducePow, Int.reduceToNat, ↓reduceIte, if_true, if_false, decide_true, decide_false, Bool.not_true, Bool.not_false, Bool.true_and, Bool.and_true, Bool.false_and, Bool.false_eq_true, reduceCtorEq, Option.isSome_some,
  nm_head_tail, nm_head_skip, nm_head_chop, nm_head_reverse, nm_head_uniq, nm_head_sort, nmP_head, nmS_head, nm_tail_head, nm_tail_skip, nm_tail_chop, nm_tail_reverse, nm_tail_uniq, nm_tail_sort, nmP_tail, nmS_tail, nm_skip_head, nm_skip_tail, nm_skip_chop, nm_skip_reverse, nm_skip_uniq, nm_skip_sort, nmP_skip, nmS_skip, nm_chop_head, nm_chop_tail, nm_chop_skip, nm_chop_reverse, nm_chop_uniq, nm_chop_sort, nmP_chop, nmS_chop, nm_reverse_head, nm_reverse_tail, nm_reverse_skip, nm_reverse_chop, nm_reverse_uniq, nm_reverse_sort, nmP_reverse, nmS_reverse, nm_uniq_head, nm_uniq_tail, nm_uniq_skip, nm_uniq_chop, nm_uniq_reverse, nm_uniq_sort, nmP_uniq, nmS_uniq, nm_sort_head, nm_sort_tail, nm_sort_skip, nm_sort_chop, nm_sort_reverse, nm_sort_uniq, nmP_sort, nmS_sort, PR.PLAIN_d, PR.SLICING_d]
    rfl
  · refine ⟨.chop num, l5, ?_, n0, n1, g5.le (by omega)⟩
    simp only [d1, d2, d3, d4, oInt_ok q1, d5, hk, hn, kb_some, kb_none, km_some, kml_some, v_xD, k_xD, v_gX, k_gXd, k_gXs, v_gG, k_gG, v_gR, k_gRd, k_gRo, v_lR, k_lRo, v_gBin, k_bin1, k_bin2, v_lBin, k_lb1, k_lb2, v_gUn, k_un, u_negI, v_bT, k_bT, v_bNot, k_bNot, v_bAnd, k_andT, k_andF, v_bOr, k_orT, k_orF, v_bTru, k_tru, v_gIf, k_ifT, k_ifF, v_lIf, k_lifT, k_lifF, v_gAnd, k_gAndT, k_gAndF, v_gOr, k_gOrT, k_gOrF, v_gNot, k_gNot, v_gCh, k_ch1, k_ch2, k_ch3T, k_ch3F, k_ch4, v_dN, v_dC, k_dC, k_dC2, v_aN, v_aC, k_aC, k_aC2, v_aSw, k_sw, v_aOne, k_one, v_gTup, k_tup, v_lLst, k_lst, v_gCb, k_cb, v_lCb, k_lcb, v_oN, v_oY, k_oY, v_lSl, k_sl1, k_sl2, k_sl3, v_lRev, k_rev, v_sSeq, k_seqN, k_seqR, k_seqB, k_seqC, v_sN, v_sB, v_sC, v_sV, v_sRN, v_sSet, k_set, v_sOwn, k_own, v_sSetR, k_setRd, k_setRo, v_sAsg, k_asg, k_nx, v_sDrop, k_drop, v_sDropR, k_dropR, v_sRet, k_ret, v_sRetG, k_retG, v_sRetR, k_retR, v_sRetV, k_retVd, k_retVo, v_sIf, k_sifT, k_sifF, v_sAug, k_aug1, k_aug2, v_sPar, k_par, v_hName, v_hNil, v_hCons, v_hTup, v_hSub, k_sub1, k_sub2, k_sub3, v_sFor, k_for, v_iLst, k_iL, v_iTup, k_iT, v_iRg1, k_iR1, v_iRg2, k_iR2, v_iEn, k_iE, v_lLc, k_lc, v_rCall, k_cl1, k_cl2, k_cl3, v_gLm, k_lm1, k_lm2, k_lm3, v_run, k_runR, k_runN, v_len0, v_lenD, v_lenS, k_lenO, k_lenP, k_lenC, v_xVar, k_varD, k_varOf, k_varPf, k_varOl, k_varPl, k_varC, k_varOi, k_varPi, k_varOo, k_varPo, v_frz, k_frzO, k_frzP, v_lstAt, k_atO, k_atP, v_putAt, k_putO, k_putP, v_lstS, k_lsO, k_lsP, k_lsC, v_lstHS, v_valS, k_valO, k_valP, v_homN, v_homD, v_homS, k_homO, k_homP, k_homC, k_homU, v_p4, k_p1, k_p2, k_p3, k_p4, k_p5, v_Eqs, k_Eqs, v_Eqd, k_Eqd, v_Eqb, k_Eqb, v_Nes, k_Nes, v_Ned, k_Ned, v_Neb, k_Neb, v_ss, k_ss,
  oEq_d, oNe_d, eqD_i, eqD_s, oIx_t, oIx_l, oIx_s, oIn_t, oIn_l, oIn_s, lst_d, lstH_d, seq_l, seq_t, seq_s, val_d, toD_lst, toD_leaf, cLen_1, cAbs_1, cMax_2, cMin_2, cInt_b, cInt_i, cList_1, oI0_d, oB0_d, tru_b, tru_l, tru_s, oRep_k, strsOf_map, intsOf_map, inD_strs, inD_2, inD_3, inD_4, atI_0, atI_1, atI_2, atI_3, mApp, gC, bYes, parz, postz,
  Option.bind_some, Option.map_some, Option.getD_some, List.getElem?_cons_zero, List.getElem?_cons_succ, List.set_cons_zero, List.set_cons_succ, List.length_cons, List.length_nil, List.length_set, List.cons_append, List.nil_append, List.replicate_succ, List.replicate_zero, List.length_map, Nat.reduceAdd, Nat.zero_add, Nat.reduceLeDiff, Nat.reduceLT, Nat.reduceEqDiff, sizeLine_eq, Int.cast_ofNat_Int, Int.reduceEq, Int.reduceLT, Int.reduceLE, Int.reduceAdd, Int.reduceSub, Int.reduceMul, Int.reduceNeg, Int.reducePow, Int.reduceToNat, ↓reduceIte, if_true, if_false, decide_true, decide_false, Bool.not_true, Bool.not_false, Bool.true_and, Bool.and_true, Bool.false_and, Bool.false_eq_true, reduceCtorEq, Option.isSome_some,
  nm_head_tail, nm_head_skip, nm_head_chop, nm_head_reverse, nm_head_uniq, nm_head_sort, nmP_head, nmS_head, nm_tail_head, nm_tail_skip, nm_tail_chop, nm_tail_reverse, nm_tail_uniq, nm_tail_sort, nmP_tail, nmS_tail, nm_skip_head, nm_skip_tail, nm_skip_chop, nm_skip_reverse, nm_skip_uniq, nm_skip_sort, nmP_skip, nmS_skip, nm_chop_head, nm_chop_tail, nm_chop_skip, nm_chop_reverse, nm_chop_uniq, nm_chop_sort, nmP_chop, nmS_chop, nm_reverse_head, nm_reverse_tail, nm_reverse_skip, nm_reverse_chop, nm_reverse_uniq, nm_reverse_sort, nmP_reverse, nmS_reverse, nm_uniq_head, nm_uniq_tail, nm_uniq_skip, nm_uniq_chop, nm_uniq_reverse, nm_uniq_sort, nmP_uniq, nmS_uniq, nm_sort_head, nm_sort_tail, nm_sort_skip, nm_sort_chop, nm_sort_reverse, nm_sort_uniq, nmP_sort, nmS_sort, PR.PLAIN_d, PR.SLICING_d]
    rfl
  · refine ⟨.rev, l1, ?_, Int.le_refl 0, by decide, g1.le (by omega)⟩
    have at7 : atI [PyData.str "head", .str "tail", .str "skip", .str "chop", .str "reverse", .str "uniq", .str "sort"] 4 = some (.str "reverse") := A 4 _ rfl
    simp only [d1, at7, kb_some, kb_none, km_some, kml_some, v_xD, k_xD, v_gX, k_gXd, k_gXs, v_gG, k_gG, v_gR, k_gRd, k_gRo, v_lR, k_lRo, v_gBin, k_bin1, k_bin2, v_lBin, k_lb1, k_lb2, v_gUn, k_un, u_negI, v_bT, k_bT, v_bNot, k_bNot, v_bAnd, k_andT, k_andF, v_bOr, k_orT, k_orF, v_bTru, k_tru, v_gIf, k_ifT, k_ifF, v_lIf, k_lifT, k_lifF, v_gAnd, k_gAndT, k_gAndF, v_gOr, k_gOrT, k_gOrF, v_gNot, k_gNot, v_gCh, k_ch1, k_ch2, k_ch3T, k_ch3F, k_ch4, v_dN, v_dC, k_dC, k_dC2, v_aN, v_aC, k_aC, k_aC2, v_aSw, k_sw, v_aOne, k_one, v_gTup, k_tup, v_lLst, k_lst, v_gCb, k_cb, v_lCb, k_lcb, v_oN, v_oY, k_oY, v_lSl, k_sl1, k_sl2, k_sl3, v_lRev, k_rev, v_sSeq, k_seqN, k_seqR, k_seqB, k_seqC, v_sN, v_sB, v_sC, v_sV, v_sRN, v_sSet, k_set, v_sOwn, k_own, v_sSetR, k_setRd, k_setRo, v_sAsg, k_asg, k_nx, v_sDrop, k_drop, v_sDropR, k_dropR, v_sRet, k_ret, v_sRetG, k_retG, v_sRetR, k_retR, v_sRetV, k_retVd, k_retVo, v_sIf, k_sifT, k_sifF, v_sAug, k_aug1, k_aug2, v_sPar, k_par, v_hName, v_hNil, v_hCons, v_hTup, v_hSub, k_sub1, k_sub2, k_sub3, v_sFor, k_for, v_iLst, k_iL, v_iTup, k_iT, v_iRg1, k_iR1, v_iRg2, k_iR2, v_iEn, k_iE, v_lLc, k_lc, v_rCall, k_cl1, k_cl2, k_cl3, v_gLm, k_lm1, k_lm2, k_lm3, v_run, k_runR, k_runN, v_len0, v_lenD, v_lenS, k_lenO, k_lenP, k_lenC, v_xVar, k_varD, k_varOf, k_varPf, k_varOl, k_varPl, k_varC, k_varOi, k_varPi, k_varOo, k_varPo, v_frz, k_frzO, k_frzP, v_lstAt, k_atO, k_atP, v_putAt, k_putO, k_putP, v_lstS, k_lsO, k_lsP, k_lsC, v_lstHS, v_valS, k_valO, k_valP, v_homN, v_homD, v_homS, k_homO, k_homP, k_homC, k_homU, v_p4, k_p1, k_p2, k_p3, k_p4, k_p5, v_Eqs, k_Eqs, v_Eqd, k_Eqd, v_Eqb, k_Eqb, v_Nes, k_Nes, v_Ned, k_Ned, v_Neb, k_Neb, v_ss, k_ss,
  oEq_d, oNe_d, eqD_i, eqD_s, oIx_t, oIx_l, oIx_s, oIn_t, oIn_l, oIn_s, lst_d, lstH_d, seq_l, seq_t, seq_s, val_d, toD_lst, toD_leaf, cLen_1, cAbs_1, cMax_2, cMin_2, cInt_b, cInt_i, cList_1, oI0_d, oB0_d, tru_b, tru_l, tru_s, oRep_k, strsOf_map, intsOf_map, inD_strs, inD_2, inD_3, inD_4, atI_0, atI_1, atI_2, atI_3, mApp, gC, bYes, parz, postz,
  Option.bind_some, Option.map_some, Option.getD_some, List.getElem?_cons_zero, List.getElem?_cons_succ, List.set_cons_zero, List.set_cons_succ, List.length_cons, List.length_nil, List.length_set, List.cons_append, List.nil_append, List.replicate_succ, List.replicate_zero, List.length_map, Nat.reduceAdd, Nat.zero_add, Nat.reduceLeDiff, Nat.reduceLT, Nat.reduceEqDiff, sizeLine_eq, Int.cast_ofNat_Int, Int.reduceEq, Int.reduceLT, Int.reduceLE, Int.reduceAdd, Int.reduceSub, Int.reduceMul, Int.reduceNeg, Int.reducePow, Int.reduceToNat, ↓reduceIte, if_true, if_false, decide_true, decide_false, Bool.not_true, Bool.not_false, Bool.true_and, Bool.and_true, Bool.false_and, Bool.false_eq_true, reduceCtorEq, Option.isSome_some,
  nm_head_tail, nm_head_skip, nm_head_chop, nm_head_reverse, nm_head_uniq, nm_head_sort, nmP_head, nmS_head, nm_tail_head, nm_tail_skip, nm_tail_chop, nm_tail_reverse, nm_tail_uniq, nm_tail_sort, nmP_tail, nmS_tail, nm_skip_head, nm_skip_tail, nm_skip_chop, nm_skip_reverse, nm_skip_uniq, nm_skip_sort, nmP_skip, nmS_skip, nm_chop_head, nm_chop_tail, nm_chop_skip, nm_chop_reverse, nm_chop_uniq, nm_chop_sort, nmP_chop, nmS_chop, nm_reverse_head, nm_reverse_tail, nm_reverse_skip, nm_reverse_chop, nm_reverse_uniq, nm_reverse_sort, nmP_reverse, nmS_reverse, nm_uniq_head, nm_uniq_tail, nm_uniq_skip, nm_uniq_chop, nm_uniq_reverse, nm_uniq_sort, nmP_uniq, nmS_uniq, nm_sort_head, nm_sort_tail, nm_sort_skip, nm_sort_chop, nm_sort_reverse, nm_sort_uniq, nmP_sort, nmS_sort, PR.PLAIN_d, PR.SLICING_d]
    rfl
  · refine ⟨.uniq, l1, ?_, Int.le_refl 0, by decide, g1.le (by omega)⟩
    have at7 : atI [PyData.str "head", .str "tail", .str "skip", .str "chop", .str "reverse", .str "uniq", .str "sort"] 5 = some (.str "uniq") := A 5 _ rfl
    simp only [d1, at7, kb_some, kb_none, km_some, kml_some, v_xD, k_xD, v_gX, k_gXd, k_gXs, v_gG, k_gG, v_gR, k_gRd, k_gRo, v_lR, k_lRo, v_gBin, k_bin1, k_bin2, v_lBin, k_lb1, k_lb2, v_gUn, k_un, u_negI, v_bT, k_bT, v_bNot, k_bNot, v_bAnd, k_andT, k_andF, v_bOr, k_orT, k_orF, v_bTru, k_tru, v_gIf, k_ifT, k_ifF, v_lIf, k_lifT, k_lifF, v_gAnd, k_gAndT, k_gAndF, v_gOr, k_gOrT, k_gOrF, v_gNot, k_gNot, v_gCh, k_ch1, k_ch2, k_ch3T, k_ch3F, k_ch4, v_dN, v_dC, k_dC, k_dC2, v_aN, v_aC, k_aC, k_aC2, v_aSw, k_sw, v_aOne, k_one, v_gTup, k_tup, v_lLst, k_lst, v_gCb, k_cb, v_lCb, k_lcb, v_oN, v_oY, k_oY, v_lSl, k_sl1, k_sl2, k_sl3, v_lRev, k_rev, v_sSeq, k_seqN, k_seqR, k_seqB, k_seqC, v_sN, v_sB, v_sC, v_sV, v_sRN, v_sSet, k_set, v_sOwn, k_own, v_sSetR, k_setRd, k_setRo, v_sAsg, k_asg, k_nx, v_sDrop, k_drop, v_sDropR, k_dropR, v_sRet, k_ret, v_sRetG, k_retG, v_sRetR, k_retR, v_sRetV, k_retVd, k_retVo, v_sIf, k_sifT, k_sifF, v_sAug, k_aug1, k_aug2, v_sPar, k_par, v_hName, v_hNil, v_hCons, v_hTup, v_hSub, k_sub1, k_sub2, k_sub3, v_sFor, k_for, v_iLst, k_iL, v_iTup, k_iT, v_iRg1, k_iR1, v_iRg2, k_iR2, v_iEn, k_iE, v_lLc, k_lc, v_rCall, k_cl1, k_cl2, k_cl3, v_gLm, k_lm1, k_lm2, k_lm3, v_run, k_runR, k_runN, v_len0, v_lenD, v_lenS, k_lenO, k_lenP, k_lenC, v_xVar, k_varD, k_varOf, k_varPf, k_varOl, k_varPl, k_varC, k_varOi, k_varPi, k_varOo, k_varPo, v_frz, k_frzO, k_frzP, v_lstAt, k_atO, k_atP, v_putAt, k_putO, k_putP, v_lstS, k_lsO, k_lsP, k_lsC, v_lstHS, v_valS, k_valO, k_valP, v_homN, v_homD, v_homS, k_homO, k_homP, k_homC, k_homU, v_p4, k_p1, k_p2, k_p3, k_p4, k_p5, v_Eqs, k_Eqs, v_Eqd, k_Eqd, v_Eqb, k_Eqb, v_Nes, k_Nes, v_Ned, k_Ned, v_Neb, k_Neb, v_ss, k_ss,
  oEq_d, oNe_d, eqD_i, eqD_s, oIx_t, oIx_l, oIx_s, oIn_t, oIn_l, oIn_s, lst_d, lstH_d, seq_l, seq_t, seq_s, val_d, toD_lst, toD_leaf, cLen_1, cAbs_1, cMax_2, cMin_2, cInt_b, cInt_i, cList_1, oI0_d, oB0_d, tru_b, tru_l, tru_s, oRep_k, strsOf_map, intsOf_map, inD_strs, inD_2, inD_3, inD_4, atI_0, atI_1, atI_2, atI_3, mApp, gC, bYes, parz, postz,
  Option.bind_some, Option.map_some, Option.getD_some, List.getElem?_cons_zero, List.getElem?_cons_succ, List.set_cons_zero, List.set_cons_succ, List.length_cons, List.length_nil, List.length_set, List.cons_append, List.nil_append, List.replicate_succ, List.replicate_zero, List.length_map, Nat.reduceAdd, Nat.zero_add, Nat.reduceLeDiff, Nat.reduceLT, Nat.reduceEqDiff, sizeLine_eq, Int.cast_ofNat_Int, Int.reduceEq, Int.reduceLT, Int.reduceLE, Int.reduceAdd, Int.reduceSub, Int.reduceMul, Int.reduceNeg, Int.reducePow, Int.reduceToNat, ↓reduceIte, if_true, if_false, decide_true, decide_false, Bool.not_true, Bool.not_false, Bool.true_and, Bool.and_true, Bool.false_and, Bool.false_eq_true, reduceCtorEq, Option.isSome_some,
  nm_head_tail, nm_head_skip, nm_head_chop, nm_head_reverse, nm_head_uniq, nm_head_sort, nmP_head, nmS_head, nm_tail_head, nm_tail_skip, nm_tail_chop, nm_tail_reverse, nm_tail_uniq, nm_tail_sort, nmP_tail, nmS_tail, nm_skip_head, nm_skip_tail, nm_skip_chop, nm_skip_reverse, nm_skip_uniq, nm_skip_sort, nmP_skip, nmS_skip, nm_chop_head, nm_chop_tail, nm_chop_skip, nm_chop_reverse, nm_chop_uniq, nm_chop_sort, nmP_chop, nmS_chop, nm_reverse_head, nm_reverse_tail, nm_reverse_skip, nm_reverse_chop, nm_reverse_uniq, nm_reverse_sort, nmP_reverse, nmS_reverse, nm_uniq_head, nm_uniq_tail, nm_uniq_skip, nm_uniq_chop, nm_uniq_reverse, nm_uniq_sort, nmP_uniq, nmS_uniq, nm_sort_head, nm_sort_tail, nm_sort_skip, nm_sort_chop, nm_sort_reverse, nm_sort_uniq, nmP_sort, nmS_sort, PR.PLAIN_d, PR.SLICING_d]
    rfl
  · refine ⟨.sort, l1, ?_, Int.le_refl 0, by decide, g1.le (by omega)⟩
    have at7 : atI [PyData.str "head", .str "tail", .str "skip", .str "chop", .str "reverse", .str "uniq", .str "sort"] 6 = some (.str "sort") := A 6 _ rfl
    simp only [d1, at7, kb_some, kb_none, km_some, kml_some, v_xD, k_xD, v_gX, k_gXd, k_gXs, v_gG, k_gG, v_gR, k_gRd, k_gRo, v_lR, k_lRo, v_gBin, k_bin1, k_bin2, v_lBin, k_lb1, k_lb2, v_gUn, k_un, u_negI, v_bT, k_bT, v_bNot, k_bNot, v_bAnd, k_andT, k_andF, v_bOr, k_orT, k_orF, v_bTru, k_tru, v_gIf, k_ifT, k_ifF, v_lIf, k_lifT, k_lifF, v_gAnd, k_gAndT, k_gAndF, v_gOr, k_gOrT, k_gOrF, v_gNot, k_gNot, v_gCh, k_ch1, k_ch2, k_ch3T, k_ch3F, k_ch4, v_dN, v_dC, k_dC, k_dC2, v_aN, v_aC, k_aC, k_aC2, v_aSw, k_sw, v_aOne, k_one, v_gTup, k_tup, v_lLst, k_lst, v_gCb, k_cb, v_lCb, k_lcb, v_oN, v_oY, k_oY, v_lSl, k_sl1, k_sl2, k_sl3, v_lRev, k_rev, v_sSeq, k_seqN, k_seqR, k_seqB, k_seqC, v_sN, v_sB, v_sC, v_sV, v_sRN, v_sSet, k_set, v_sOwn, k_own, v_sSetR, k_setRd, k_setRo, v_sAsg, k_asg, k_nx, v_sDrop, k_drop, v_sDropR, k_dropR, v_sRet, k_ret, v_sRetG, k_retG, v_sRetR, k_retR, v_sRetV, k_retVd, k_retVo, v_sIf, k_sifT, k_sifF, v_sAug, k_aug1, k_aug2, v_sPar, k_par, v_hName, v_hNil, v_hCons, v_hTup, v_hSub, k_sub1, k_sub2, k_sub3, v_sFor, k_for, v_iLst, k_iL, v_iTup, k_iT, v_iRg1, k_iR1, v_iRg2, k_iR2, v_iEn, k_iE, v_lLc, k_lc, v_rCall, k_cl1, k_cl2, k_cl3, v_gLm, k_lm1, k_lm2, k_lm3, v_run, k_runR, k_runN, v_len0, v_lenD, v_lenS, k_lenO, k_lenP, k_lenC, v_xVar, k_varD, k_varOf, k_varPf, k_varOl, k_varPl, k_varC, k_varOi, k_varPi, k_varOo, k_varPo, v_frz, k_frzO, k_frzP, v_lstAt, k_atO, k_atP, v_putAt, k_putO, k_putP, v_lstS, k_lsO, k_lsP, k_lsC, v_lstHS, v_valS, k_valO, k_valP, v_homN, v_homD, v_homS, k_homO, k_homP, k_homC, k_homU, v_p4, k_p1, k_p2, k_p3, k_p4, k_p5, v_Eqs, k_Eqs, v_Eqd, k_Eqd, v_Eqb, k_Eqb, v_Nes, k_Nes, v_Ned, k_Ned, v_Neb, k_Neb, v_ss, k_ss,
  oEq_d, oNe_d, eqD_i, eqD_s, oIx_t, oIx_l, oIx_s, oIn_t, oIn_l, oIn_s, lst_d, lstH_d, seq_l, seq_t, seq_s, val_d, toD_lst, toD_leaf, cLen_1, cAbs_1, cMax_2, cMin_2, cInt_b, cInt_i, cList_1, oI0_d, oB0_d, tru_b, tru_l, tru_s, oRep_k, strsOf_map, intsOf_map, inD_strs, inD_2, inD_3, inD_4, atI_0, atI_1, atI_2, atI_3, mApp, gC, bYes, parz, postz,
  Option.bind_some, Option.map_some, Option.getD_some, List.getElem?_cons_zero, List.getElem?_cons_succ, List.set_cons_zero, List.set_cons_succ, List.length_cons, List.length_nil, List.length_set, List.cons_append, List.nil_append, List.replicate_succ, List.replicate_zero, List.length_map, Nat.reduceAdd, Nat.zero_add, Nat.reduceLeDiff, Nat.reduceLT, Nat.reduceEqDiff, sizeLine_eq, Int.cast_ofNat_Int, Int.reduceEq, Int.reduceLT, Int.reduceLE, Int.reduceAdd, Int.reduceSub, Int.reduceMul, Int.reduceNeg, Int.reducePow, Int.reduceToNat, ↓reduceIte, if_true, if_false, decide_true, decide_false, Bool.not_true, Bool.not_false, Bool.true_and, Bool.and_true, Bool.false_and, Bool.false_eq_true, reduceCtorEq, Option.isSome_some,
  nm_head_tail, nm_head_skip, nm_head_chop, nm_head_reverse, nm_head_uniq, nm_head_sort, nmP_head, nmS_head, nm_tail_head, nm_tail_skip, nm_tail_chop, nm_tail_reverse, nm_tail_uniq, nm_tail_sort, nmP_tail, nmS_tail, nm_skip_head, nm_skip_tail, nm_skip_chop, nm_skip_reverse, nm_skip_uniq, nm_skip_sort, nmP_skip, nmS_skip, nm_chop_head, nm_chop_tail, nm_chop_skip, nm_chop_reverse, nm_chop_uniq, nm_chop_sort, nmP_chop, nmS_chop, nm_reverse_head, nm_reverse_tail, nm_reverse_skip, nm_reverse_chop, nm_reverse_uniq, nm_reverse_sort, nmP_reverse, nmS_reverse, nm_uniq_head, nm_uniq_tail, nm_uniq_skip, nm_uniq_chop, nm_uniq_reverse, nm_uniq_sort, nmP_uniq, nmS_uniq, nm_sort_head, nm_sort_tail, nm_sort_skip, nm_sort_chop, nm_sort_reverse, nm_sort_uniq, nmP_sort, nmS_sort, PR.PLAIN_d, PR.SLICING_d]
    rfl
theorem plan_ok {n : Nat} {l : List PyData} (g : Rg n l) (hn : n < 2 ^ 58) {most z : Int} (m0 : 0 ≤ most) (m1 : most ≤ 1000) (z0 : 0 ≤ z) (z60 : z ≤ 1000) : ∃ (cs : List Cm) (l' : List PyData), F__law_plan [.own (.lst l), .dat (.int most), .dat (.int z)] = some (.own (.lst (cs.map Cm.d)), [.own (.lst l'), .un, .un]) ∧ (cs.length : Int) ≤ most ∧ (∀ c ∈ cs, c.ok ∧ c.num < 2 ^ 150) ∧ Rg (n + 10001) l' := by
  obtain ⟨k, l1, d1, k0, k1, g1⟩ := draw_ok g (lim := most + 1) (by omega) (by omega) (by omega)
  obtain ⟨acc, e', h1, l3, cs, rfl, g3, rfl, i3, i4⟩ := lcL_inv (h := hName 3) (c := bYes) (f := e0__law_plan) (vs := [3]) (ds := rangeD 0 k.toNat) (acc := []) (e := [.par 0 (.lst l1), .dat (.int most), .dat (.int z), .un])
    (fun i acc e => ∃ (l3 : List PyData) (cs : List Cm), e = [.par 0 (.lst l3), .dat (.int most), .dat (.int z), .un] ∧ Rg (n + 1 + 10 * i) l3 ∧ acc = cs.map Cm.d ∧ cs.length = i ∧ ∀ c ∈ cs, c.ok ∧ c.num < 2 ^ 150) 0 ⟨l1, [], rfl, g1, rfl, rfl, by simp⟩ fun i d acc e hd ⟨l3, cs, he, g3, ha, i3, i4⟩ => by
      subst he
      subst ha
      rw [Nat.zero_add] at *
      have hlt := (rangeD_get hd).1
      obtain ⟨c, l4, d2, c1, c2, g4⟩ := command_ok g3 (z := z) (by omega) z0 z60
      refine ⟨rfl, _, rfl, true, _, rfl, ?_⟩
      rw [if_pos rfl]
      refine' ⟨_, _, ?h1, ?h2, ?h3⟩
      case h1 =>
        unfold e0__law_plan
        simp only [wipeE, d2, kb_some, kb_none, km_some, kml_some, v_xD, k_xD, v_gX, k_gXd, k_gXs, v_gG, k_gG, v_gR, k_gRd, k_gRo, v_lR, k_lRo, v_gBin, k_bin1, k_bin2, v_lBin, k_lb1, k_lb2, v_gUn, k_un, u_negI, v_bT, k_bT, v_bNot, k_bNot, v_bAnd, k_andT, k_andF, v_bOr, k_orT, k_orF, v_bTru, k_tru, v_gIf, k_ifT, k_ifF, v_lIf, k_lifT, k_lifF, v_gAnd, k_gAndT, k_gAndF, v_gOr, k_gOrT, k_gOrF, v_gNot, k_gNot, v_gCh, k_ch1, k_ch2, k_ch3T, k_ch3F, k_ch4, v_dN, v_dC, k_dC, k_dC2, v_aN, v_aC, k_aC, k_aC2, v_aSw, k_sw, v_aOne, k_one, v_gTup, k_tup, v_lLst, k_lst, v_gCb, k_cb, v_lCb, k_lcb, v_oN, v_oY, k_oY, v_lSl, k_sl1, k_sl2, k_sl3, v_lRev, k_rev, v_sSeq, k_seqN, k_seqR, k_seqB, k_seqC, v_sN, v_sB, v_sC, v_sV, v_sRN, v_sSet, k_set, v_sOwn, k_own, v_sSetR, k_setRd, k_setRo, v_sAsg, k_asg, k_nx, v_sDrop, k_drop, v_sDropR, k_dropR, v_sRet, k_ret, v_sRetG, k_retG, v_sRetR, k_retR, v_sRetV, k_retVd, k_retVo, v_sIf, k_sifT, k_sifF, v_sAug, k_aug1, k_aug2, v_sPar, k_par, v_hName, v_hNil, v_hCons, v_hTup, v_hSub, k_sub1, k_sub2, k_sub3, v_sFor, k_for, v_iLst, k_iL, v_iTup, k_iT, v_iRg1, k_iR1, v_iRg2, k_iR2, v_iEn, k_iE, v_lLc, k_lc, v_rCall, k_cl1, k_cl2, k_cl3, v_gLm, k_lm1, k_lm2, k_lm3, v_run, k_runR, k_runN, v_len0, v_lenD, v_lenS, k_lenO, k_lenP, k_lenC, v_xVar, k_varD, k_varOf, k_varPf, k_varOl, k_varPl, k_varC, k_varOi, k_varPi, k_varOo, k_varPo, v_frz, k_frzO, k_frzP, v_lstAt, k_atO, k_atP, v_putAt, k_putO, k_putP, v_lstS, k_lsO, k_lsP, k_lsC, v_lstHS, v_valS, k_valO, k_valP, v_homN, v_homD, v_homS, k_homO, k_homP, k_homC, k_homU, v_p4, k_p1, k_p2, k_p3, k_p4, k_p5, v_Eqs, k_Eqs, v_Eqd, k_Eqd, v_Eqb, k_Eqb, v_Nes, k_Nes, v_Ned, k_Ned, v_Neb, k_Neb, v_ss, k_ss,
  oEq_d, oNe_d, eqD_i, eqD_s, oIx_t, oIx_l, oIx_s, oIn_t, oIn_l, oIn_s, lst_d, lstH_d, seq_l, seq_t, seq_s, val_d, toD_lst, toD_leaf, cLen_1, cAbs_1, cMax_2, cMin_2, cInt_b, cInt_i, cList_1, oI0_d, oB0_d, tru_b, tru_l, tru_s, oRep_k, strsOf_map, intsOf_map, inD_strs, inD_2, inD_3, inD_4, atI_0, atI_1, atI_2, atI_3, mApp, gC, bYes, parz, postz,
  Option.bind_some, Option.map_some, Option.getD_some, List.getElem?_cons_zero, List.getElem?_cons_succ, List.set_cons_zero, List.set_cons_succ, List.length_cons, List.length_nil, List.length_set, List.cons_append, List.nil_append, List.replicate_succ, List.replicate_zero, List.length_map, Nat.reduceAdd, Nat.zero_add, Nat.reduceLeDiff, Nat.reduceLT, Nat.reduceEqDiff, sizeLine_eq, Int.cast_ofNat_Int, Int.reduceEq, Int.reduceLT, Int.reduceLE, Int.reduceAdd, Int.reduceSub, Int.reduceMul, Int.reduceNeg, Int.reducePow, Int.reduceToNat, ↓reduceIte, if_true, if_false, decide_true, decide_false, Bool.not_true, Bool.not_false, Bool.true_and, Bool.and_true, Bool.false_and, Bool.false_eq_true, reduceCtorEq, Option.isSome_some,
  nm_head_tail, nm_head_skip, nm_head_chop, nm_head_reverse, nm_head_uniq, nm_head_sort, nmP_head, nmS_head, nm_tail_head, nm_tail_skip, nm_tail_chop, nm_tail_reverse, nm_tail_uniq, nm_tail_sort, nmP_tail, nmS_tail, nm_skip_head, nm_skip_tail, nm_skip_chop, nm_skip_reverse, nm_skip_uniq, nm_skip_sort, nmP_skip, nmS_skip, nm_chop_head, nm_chop_tail, nm_chop_skip, nm_chop_reverse, nm_chop_uniq, nm_chop_sort, nmP_chop, nmS_chop, nm_reverse_head, nm_reverse_tail, nm_reverse_skip, nm_reverse_chop, nm_reverse_uniq, nm_reverse_sort, nmP_reverse, nmS_reverse, nm_uniq_head, nm_uniq_tail, nm_uniq_skip, nm_uniq_chop, nm_uniq_reverse, nm_uniq_sort, nmP_uniq, nmS_uniq, nm_sort_head, nm_sort_tail, nm_sort_skip, nm_sort_chop, nm_sort_reverse, nm_sort_uniq, nmP_sort, nmS_sort, PR.PLAIN_d, PR.SLICING_d]
        exact rfl
      case h2 => rw [List.length_map, sizeLine_eq]; omega
      case h3 =>
        refine ⟨l4, cs ++ [c], rfl, g4.le (by omega), by rw [List.map_append]; rfl, by rw [List.length_append, i3]; rfl, fun x hx => ?_⟩
        rcases List.mem_append.mp hx with z | z
        · exact i4 x z
        · rw [List.mem_singleton.mp z]
          exact ⟨c1, c2⟩
  have rl : (rangeD 0 k.toNat).length = k.toNat := rangeD_len
  have b2 : -4611686018427387904 ≤ k ∧ k < 4611686018427387904 := ⟨by omega, by omega⟩
  rw [Nat.zero_add] at *
  refine ⟨cs, l3, ?_, by omega, i4, g3.le (by omega)⟩
  unfold F__law_plan g__law_plan
  simp only [d1, b2, and_self, h1, kb_some, kb_none, km_some, kml_some, v_xD, k_xD, v_gX, k_gXd, k_gXs, v_gG, k_gG, v_gR, k_gRd, k_gRo, v_lR, k_lRo, v_gBin, k_bin1, k_bin2, v_lBin, k_lb1, k_lb2, v_gUn, k_un, u_negI, v_bT, k_bT, v_bNot, k_bNot, v_bAnd, k_andT, k_andF, v_bOr, k_orT, k_orF, v_bTru, k_tru, v_gIf, k_ifT, k_ifF, v_lIf, k_lifT, k_lifF, v_gAnd, k_gAndT, k_gAndF, v_gOr, k_gOrT, k_gOrF, v_gNot, k_gNot, v_gCh, k_ch1, k_ch2, k_ch3T, k_ch3F, k_ch4, v_dN, v_dC, k_dC, k_dC2, v_aN, v_aC, k_aC, k_aC2, v_aSw, k_sw, v_aOne, k_one, v_gTup, k_tup, v_lLst, k_lst, v_gCb, k_cb, v_lCb, k_lcb, v_oN, v_oY, k_oY, v_lSl, k_sl1, k_sl2, k_sl3, v_lRev, k_rev, v_sSeq, k_seqN, k_seqR, k_seqB, k_seqC, v_sN, v_sB, v_sC, v_sV, v_sRN, v_sSet, k_set, v_sOwn, k_own, v_sSetR, k_setRd, k_setRo, v_sAsg, k_asg, k_nx, v_sDrop, k_drop, v_sDropR, k_dropR, v_sRet, k_ret, v_sRetG, k_retG, v_sRetR, k_retR, v_sRetV, k_retVd, k_retVo, v_sIf, k_sifT, k_sifF, v_sAug, k_aug1, k_aug2, v_sPar, k_par, v_hName, v_hNil, v_hCons, v_hTup, v_hSub, k_sub1, k_sub2, k_sub3, v_sFor, k_for, v_iLst, k_iL, v_iTup, k_iT, v_iRg1, k_iR1, v_iRg2, k_iR2, v_iEn, k_iE, v_lLc, k_lc, v_rCall, k_cl1, k_cl2, k_cl3, v_gLm, k_lm1, k_lm2, k_lm3, v_run, k_runR, k_runN, v_len0, v_lenD, v_lenS, k_lenO, k_lenP, k_lenC, v_xVar, k_varD, k_varOf, k_varPf, k_varOl, k_varPl, k_varC, k_varOi, k_varPi, k_varOo, k_varPo, v_frz, k_frzO, k_frzP, v_lstAt, k_atO, k_atP, v_putAt, k_putO, k_putP, v_lstS, k_lsO, k_lsP, k_lsC, v_lstHS, v_valS, k_valO, k_valP, v_homN, v_homD, v_homS, k_homO, k_homP, k_homC, k_homU, v_p4, k_p1, k_p2, k_p3, k_p4, k_p5, v_Eqs, k_Eqs, v_Eqd, k_Eqd, v_Eqb, k_Eqb, v_Nes, k_Nes, v_Ned, k_Ned, v_Neb, k_Neb, v_ss, k_ss,
  oEq_d, oNe_d, eqD_i, eqD_s, oIx_t, oIx_l, oIx_s, oIn_t, oIn_l, oIn_s, lst_d, lstH_d, seq_l, seq_t, seq_s, val_d, toD_lst, toD_leaf, cLen_1, cAbs_1, cMax_2, cMin_2, cInt_b, cInt_i, cList_1, oI0_d, oB0_d, tru_b, tru_l, tru_s, oRep_k, strsOf_map, intsOf_map, inD_strs, inD_2, inD_3, inD_4, atI_0, atI_1, atI_2, atI_3, mApp, gC, bYes, parz, postz,
  Option.bind_some, Option.map_some, Option.getD_some, List.getElem?_cons_zero, List.getElem?_cons_succ, List.set_cons_zero, List.set_cons_succ, List.length_cons, List.length_nil, List.length_set, List.cons_append, List.nil_append, List.replicate_succ, List.replicate_zero, List.length_map, Nat.reduceAdd, Nat.zero_add, Nat.reduceLeDiff, Nat.reduceLT, Nat.reduceEqDiff, sizeLine_eq, Int.cast_ofNat_Int, Int.reduceEq, Int.reduceLT, Int.reduceLE, Int.reduceAdd, Int.reduceSub, Int.reduceMul, Int.reduceNeg, Int.reducePow, Int.reduceToNat, ↓reduceIte, if_true, if_false, decide_true, decide_false, Bool.not_true, Bool.not_false, Bool.true_and, Bool.and_true, Bool.false_and, Bool.false_eq_true, reduceCtorEq, Option.isSome_some,
  nm_head_tail, nm_head_skip, nm_head_chop, nm_head_reverse, nm_head_uniq, nm_head_sort, nmP_head, nmS_head, nm_tail_head, nm_tail_skip, nm_tail_chop, nm_tail_reverse, nm_tail_uniq, nm_tail_sort, nmP_tail, nmS_tail, nm_skip_head, nm_skip_tail, nm_skip_chop, nm_skip_reverse, nm_skip_uniq, nm_skip_sort, nmP_skip, nmS_skip, nm_chop_head, nm_chop_tail, nm_chop_skip, nm_chop_reverse, nm_chop_uniq, nm_chop_sort, nmP_chop, nmS_chop, nm_reverse_head, nm_reverse_tail, nm_reverse_skip, nm_reverse_chop, nm_reverse_uniq, nm_reverse_sort, nmP_reverse, nmS_reverse, nm_uniq_head, nm_uniq_tail, nm_uniq_skip, nm_uniq_chop, nm_uniq_reverse, nm_uniq_sort, nmP_uniq, nmS_uniq, nm_sort_head, nm_sort_tail, nm_sort_skip, nm_sort_chop, nm_sort_reverse, nm_sort_uniq, nmP_sort, nmS_sort, PR.PLAIN_d, PR.SLICING_d]
end FA
namespace FA
open PySem PySem.Spec PyProof.Rows L2 DL PT MM
theorem isort_dd (xs : List MM.S) : isort (dd xs) = srt xs := dd_srt (isort_perm _) (pw_sorted (isort_pw _))
theorem step_win {xs : List MM.S} (sz : xs.length < 16777216) {c : PyData} {nm : MM.S} {num lo hi : Int} {a b : Sx} :
    lcL (hName 5) c5__law_step e4__law_step [5] (rangeD 0 xs.length) [] [.dat c, .dat (.list (xs.map .str)), .dat (.str nm), .dat (.int xs.length), .dat (.int num), .un, a, b, .dat (.int lo), .dat (.int hi)] = some ((cut xs lo hi).map .str, [.dat c, .dat (.list (xs.map .str)), .dat (.str nm), .dat (.int xs.length), .dat (.int num), .un, a, b, .dat (.int lo), .dat (.int hi)]) := by
  obtain ⟨acc, h1, rfl⟩ := lcL_by (h := hName 5) (c := c5__law_step) (f := e4__law_step) (vs := [5]) (ds := rangeD 0 xs.length) (e := [.dat c, .dat (.list (xs.map .str)), .dat (.str nm), .dat (.int xs.length), .dat (.int num), .un, a, b, .dat (.int lo), .dat (.int hi)])
    (fun i acc => acc = (cut (xs.take i) lo hi).map .str) rfl (by simp [cut]) fun i d acc hd ha => by
      subst ha
      obtain ⟨hl, rfl⟩ := rangeD_get hd
      have hx := List.getElem?_eq_getElem hl
      have za : atI (xs.map PyData.str) (0 + (i : Int)) = some (.str xs[i]) := by
        rw [Int.zero_add]
        exact atI_strs hx
      have ul : ((cut (xs.take i) lo hi).map PyData.str).length < sizeLine := by
        rw [List.length_map, sizeLine_eq]
        unfold cut
        rw [List.length_drop, List.length_take, List.length_take]
        omega
      have ct := cut_take hx lo hi
      by_cases w1 : lo ≤ 0 + (i : Int)
      · by_cases w2 : 0 + (i : Int) < hi
        · refine' ⟨_, _, _, rfl, ?h1, fun _ => ⟨_, _, ?h2, ul, ?h4, ?h5⟩, fun h => ?h3⟩
          case h1 =>
            unfold c5__law_step
            simp only [wipeE, w1, w2, kb_some, kb_none, km_some, kml_some, v_xD, k_xD, v_gX, k_gXd, k_gXs, v_gG, k_gG, v_gR, k_gRd, k_gRo, v_lR, k_lRo, v_gBin, k_bin1, k_bin2, v_lBin, k_lb1, k_lb2, v_gUn, k_un, u_negI, v_bT, k_bT, v_bNot, k_bNot, v_bAnd, k_andT, k_andF, v_bOr, k_orT, k_orF, v_bTru, k_tru, v_gIf, k_ifT, k_ifF, v_lIf, k_lifT, k_lifF, v_gAnd, k_gAndT, k_gAndF, v_gOr, k_gOrT, k_gOrF, v_gNot, k_gNot, v_gCh, k_ch1, k_ch2, k_ch3T, k_ch3F, k_ch4, v_dN, v_dC, k_dC, k_dC2, v_aN, v_aC, k_aC, k_aC2, v_aSw, k_sw, v_aOne, k_one, v_gTup, k_tup, v_lLst, k_lst, v_gCb, k_cb, v_lCb, k_lcb, v_oN, v_oY, k_oY, v_lSl, k_sl1, k_sl2, k_sl3, v_lRev, k_rev, v_sSeq, k_seqN, k_seqR, k_seqB, k_seqC, v_sN, v_sB, v_sC, v_sV, v_sRN, v_sSet, k_set, v_sOwn, k_own, v_sSetR, k_setRd, k_setRo, v_sAsg, k_asg, k_nx, v_sDrop, k_drop, v_sDropR, k_dropR, v_sRet, k_ret, v_sRetG, k_retG, v_sRetR, k_retR, v_sRetV, k_retVd, k_retVo, v_sIf, k_sifT, k_sifF, v_sAug, k_aug1, k_aug2, v_sPar, k_par, v_hName, v_hNil, v_hCons, v_hTup, v_hSub, k_sub1, k_sub2, k_sub3, v_sFor, k_for, v_iLst, k_iL, v_iTup, k_iT, v_iRg1, k_iR1, v_iRg2, k_iR2, v_iEn, k_iE, v_lLc, k_lc, v_rCall, k_cl1, k_cl2, k_cl3, v_gLm, k_lm1, k_lm2, k_lm3, v_run, k_runR, k_runN, v_len0, v_lenD, v_lenS, k_lenO, k_lenP, k_lenC, v_xVar, k_varD, k_varOf, k_varPf, k_varOl, k_varPl, k_varC, k_varOi, k_varPi, k_varOo, k_varPo, v_frz, k_frzO, k_frzP, v_lstAt, k_atO, k_atP, v_putAt, k_putO, k_putP, v_lstS, k_lsO, k_lsP, k_lsC, v_lstHS, v_valS, k_valO, k_valP, v_homN, v_homD, v_homS, k_homO, k_homP, k_homC, k_homU, v_p4, k_p1, k_p2, k_p3, k_p4, k_p5, v_Eqs, k_Eqs, v_Eqd, k_Eqd, v_Eqb, k_Eqb, v_Nes, k_Nes, v_Ned, k_Ned, v_Neb, k_Neb, v_ss, k_ss,
  oEq_d, oNe_d, eqD_i, eqD_s, oIx_t, oIx_l, oIx_s, oIn_t, oIn_l, oIn_s, lst_d, lstH_d, seq_l, seq_t, seq_s, val_d, toD_lst, toD_leaf, cLen_1, cAbs_1, cMax_2, cMin_2, cInt_b, cInt_i, cList_1, oI0_d, oB0_d, tru_b, tru_l, tru_s, oRep_k, strsOf_map, intsOf_map, inD_strs, inD_2, inD_3, inD_4, atI_0, atI_1, atI_2, atI_3, mApp, gC, bYes, parz, postz,
  Option.bind_some, Option.map_some, Option.getD_some, List.getElem?_cons_zero, List.getElem?_cons_succ, List.set_cons_zero, List.set_cons_succ, List.length_cons, List.length_nil, List.length_set, List.cons_append, List.nil_append, List.replicate_succ, List.replicate_zero, List.length_map, Nat.reduceAdd, Nat.zero_add, Nat.reduceLeDiff, Nat.reduceLT, Nat.reduceEqDiff, sizeLine_eq, Int.cast_ofNat_Int, Int.reduceEq, Int.reduceLT, Int.reduceLE, Int.reduceAdd, Int.reduceSub, Int.reduceMul, Int.reduceNeg, Int.reducePow, Int.reduceToNat, ↓reduceIte, if_true, if_false, decide_true, decide_false, Bool.not_true, Bool.not_false, Bool.true_and, Bool.and_true, Bool.false_and, Bool.false_eq_true, reduceCtorEq, Option.isSome_some,
  nm_head_tail, nm_head_skip, nm_head_chop, nm_head_reverse, nm_head_uniq, nm_head_sort, nmP_head, nmS_head, nm_tail_head, nm_tail_skip, nm_tail_chop, nm_tail_reverse, nm_tail_uniq, nm_tail_sort, nmP_tail, nmS_tail, nm_skip_head, nm_skip_tail, nm_skip_chop, nm_skip_reverse, nm_skip_uniq, nm_skip_sort, nmP_skip, nmS_skip, nm_chop_head, nm_chop_tail, nm_chop_skip, nm_chop_reverse, nm_chop_uniq, nm_chop_sort, nmP_chop, nmS_chop, nm_reverse_head, nm_reverse_tail, nm_reverse_skip, nm_reverse_chop, nm_reverse_uniq, nm_reverse_sort, nmP_reverse, nmS_reverse, nm_uniq_head, nm_uniq_tail, nm_uniq_skip, nm_uniq_chop, nm_uniq_reverse, nm_uniq_sort, nmP_uniq, nmS_uniq, nm_sort_head, nm_sort_tail, nm_sort_skip, nm_sort_chop, nm_sort_reverse, nm_sort_uniq, nmP_sort, nmS_sort, PR.PLAIN_d, PR.SLICING_d]
            exact rfl
          case h2 =>
            unfold e4__law_step
            simp only [za, kb_some, kb_none, km_some, kml_some, v_xD, k_xD, v_gX, k_gXd, k_gXs, v_gG, k_gG, v_gR, k_gRd, k_gRo, v_lR, k_lRo, v_gBin, k_bin1, k_bin2, v_lBin, k_lb1, k_lb2, v_gUn, k_un, u_negI, v_bT, k_bT, v_bNot, k_bNot, v_bAnd, k_andT, k_andF, v_bOr, k_orT, k_orF, v_bTru, k_tru, v_gIf, k_ifT, k_ifF, v_lIf, k_lifT, k_lifF, v_gAnd, k_gAndT, k_gAndF, v_gOr, k_gOrT, k_gOrF, v_gNot, k_gNot, v_gCh, k_ch1, k_ch2, k_ch3T, k_ch3F, k_ch4, v_dN, v_dC, k_dC, k_dC2, v_aN, v_aC, k_aC, k_aC2, v_aSw, k_sw, v_aOne, k_one, v_gTup, k_tup, v_lLst, k_lst, v_gCb, k_cb, v_lCb, k_lcb, v_oN, v_oY, k_oY, v_lSl, k_sl1, k_sl2, k_sl3, v_lRev, k_rev, v_sSeq, k_seqN, k_seqR, k_seqB, k_seqC, v_sN, v_sB, v_sC, v_sV, v_sRN, v_sSet, k_set, v_sOwn, k_own, v_sSetR, k_setRd, k_setRo, v_sAsg, k_asg, k_nx, v_sDrop, k_drop, v_sDropR, k_dropR, v_sRet, k_ret, v_sRetG, k_retG, v_sRetR, k_retR, v_sRetV, k_retVd, k_retVo, v_sIf, k_sifT, k_sifF, v_sAug, k_aug1, k_aug2, v_sPar, k_par, v_hName, v_hNil, v_hCons, v_hTup, v_hSub, k_sub1, k_sub2, k_sub3, v_sFor, k_for, v_iLst, k_iL, v_iTup, k_iT, v_iRg1, k_iR1, v_iRg2, k_iR2, v_iEn, k_iE, v_lLc, k_lc, v_rCall, k_cl1, k_cl2, k_cl3, v_gLm, k_lm1, k_lm2, k_lm3, v_run, k_runR, k_runN, v_len0, v_lenD, v_lenS, k_lenO, k_lenP, k_lenC, v_xVar, k_varD, k_varOf, k_varPf, k_varOl, k_varPl, k_varC, k_varOi, k_varPi, k_varOo, k_varPo, v_frz, k_frzO, k_frzP, v_lstAt, k_atO, k_atP, v_putAt, k_putO, k_putP, v_lstS, k_lsO, k_lsP, k_lsC, v_lstHS, v_valS, k_valO, k_valP, v_homN, v_homD, v_homS, k_homO, k_homP, k_homC, k_homU, v_p4, k_p1, k_p2, k_p3, k_p4, k_p5, v_Eqs, k_Eqs, v_Eqd, k_Eqd, v_Eqb, k_Eqb, v_Nes, k_Nes, v_Ned, k_Ned, v_Neb, k_Neb, v_ss, k_ss,
  oEq_d, oNe_d, eqD_i, eqD_s, oIx_t, oIx_l, oIx_s, oIn_t, oIn_l, oIn_s, lst_d, lstH_d, seq_l, seq_t, seq_s, val_d, toD_lst, toD_leaf, cLen_1, cAbs_1, cMax_2, cMin_2, cInt_b, cInt_i, cList_1, oI0_d, oB0_d, tru_b, tru_l, tru_s, oRep_k, strsOf_map, intsOf_map, inD_strs, inD_2, inD_3, inD_4, atI_0, atI_1, atI_2, atI_3, mApp, gC, bYes, parz, postz,
  Option.bind_some, Option.map_some, Option.getD_some, List.getElem?_cons_zero, List.getElem?_cons_succ, List.set_cons_zero, List.set_cons_succ, List.length_cons, List.length_nil, List.length_set, List.cons_append, List.nil_append, List.replicate_succ, List.replicate_zero, List.length_map, Nat.reduceAdd, Nat.zero_add, Nat.reduceLeDiff, Nat.reduceLT, Nat.reduceEqDiff, sizeLine_eq, Int.cast_ofNat_Int, Int.reduceEq, Int.reduceLT, Int.reduceLE, Int.reduceAdd, Int.reduceSub, Int.reduceMul, Int.reduceNeg, Int.reducePow, Int.reduceToNat, ↓reduceIte, if_true, if_false, decide_true, decide_false, Bool.not_true, Bool.not_false, Bool.true_and, Bool.and_true, Bool.false_and, Bool.false_eq_true, reduceCtorEq, Option.isSome_some,
  nm_head_tail, nm_head_skip, nm_head_chop, nm_head_reverse, nm_head_uniq, nm_head_sort, nmP_head, nmS_head, nm_tail_head, nm_tail_skip, nm_tail_chop, nm_tail_reverse, nm_tail_uniq, nm_tail_sort, nmP_tail, nmS_tail, nm_skip_head, nm_skip_tail, nm_skip_chop, nm_skip_reverse, nm_skip_uniq, nm_skip_sort, nmP_skip, nmS_skip, nm_chop_head, nm_chop_tail, nm_chop_skip, nm_chop_reverse, nm_chop_uniq, nm_chop_sort, nmP_chop, nmS_chop, nm_reverse_head, nm_reverse_tail, nm_reverse_skip, nm_reverse_chop, nm_reverse_uniq, nm_reverse_sort, nmP_reverse, nmS_reverse, nm_uniq_head, nm_uniq_tail, nm_uniq_skip, nm_uniq_chop, nm_uniq_reverse, nm_uniq_sort, nmP_uniq, nmS_uniq, nm_sort_head, nm_sort_tail, nm_sort_skip, nm_sort_chop, nm_sort_reverse, nm_sort_uniq, nmP_sort, nmS_sort, PR.PLAIN_d, PR.SLICING_d]
            exact rfl
          case h3 => cases h
          case h4 => rfl
          case h5 =>
            rw [ct, if_pos ⟨by omega, by omega⟩, List.map_append]
            rfl
        · refine' ⟨_, _, _, rfl, ?h1, fun h => ?h3, fun _ => ⟨?h4, ?h5⟩⟩
          case h1 =>
            unfold c5__law_step
            simp only [wipeE, w1, w2, kb_some, kb_none, km_some, kml_some, v_xD, k_xD, v_gX, k_gXd, k_gXs, v_gG, k_gG, v_gR, k_gRd, k_gRo, v_lR, k_lRo, v_gBin, k_bin1, k_bin2, v_lBin, k_lb1, k_lb2, v_gUn, k_un, u_negI, v_bT, k_bT, v_bNot, k_bNot, v_bAnd, k_andT, k_andF, v_bOr, k_orT, k_orF, v_bTru, k_tru, v_gIf, k_ifT, k_ifF, v_lIf, k_lifT, k_lifF, v_gAnd, k_gAndT, k_gAndF, v_gOr, k_gOrT, k_gOrF, v_gNot, k_gNot, v_gCh, k_ch1, k_ch2, k_ch3T, k_ch3F, k_ch4, v_dN, v_dC, k_dC, k_dC2, v_aN, v_aC, k_aC, k_aC2, v_aSw, k_sw, v_aOne, k_one, v_gTup, k_tup, v_lLst, k_lst, v_gCb, k_cb, v_lCb, k_lcb, v_oN, v_oY, k_oY, v_lSl, k_sl1, k_sl2, k_sl3, v_lRev, k_rev, v_sSeq, k_seqN, k_seqR, k_seqB, k_seqC, v_sN, v_sB, v_sC, v_sV, v_sRN, v_sSet, k_set, v_sOwn, k_own, v_sSetR, k_setRd, k_setRo, v_sAsg, k_asg, k_nx, v_sDrop, k_drop, v_sDropR, k_dropR, v_sRet, k_ret, v_sRetG, k_retG, v_sRetR, k_retR, v_sRetV, k_retVd, k_retVo, v_sIf, k_sifT, k_sifF, v_sAug, k_aug1, k_aug2, v_sPar, k_par, v_hName, v_hNil, v_hCons, v_hTup, v_hSub, k_sub1, k_sub2, k_sub3, v_sFor, k_for, v_iLst, k_iL, v_iTup, k_iT, v_iRg1, k_iR1, v_iRg2, k_iR2, v_iEn, k_iE, v_lLc, k_lc, v_rCall, k_cl1, k_cl2, k_cl3, v_gLm, k_lm1, k_lm2, k_lm3, v_run, k_runR, k_runN, v_len0, v_lenD, v_lenS, k_lenO, k_lenP, k_lenC, v_xVar, k_varD, k_varOf, k_varPf, k_varOl, k_varPl, k_varC, k_varOi, k_varPi, k_varOo, k_varPo, v_frz, k_frzO, k_frzP, v_lstAt, k_atO, k_atP, v_putAt, k_putO, k_putP, v_lstS, k_lsO, k_lsP, k_lsC, v_lstHS, v_valS, k_valO, k_valP, v_homN, v_homD, v_homS, k_homO, k_homP, k_homC, k_homU, v_p4, k_p1, k_p2, k_p3, k_p4, k_p5, v_Eqs, k_Eqs, v_Eqd, k_Eqd, v_Eqb, k_Eqb, v_Nes, k_Nes, v_Ned, k_Ned, v_Neb, k_Neb, v_ss, k_ss,
  oEq_d, oNe_d, eqD_i, eqD_s, oIx_t, oIx_l, oIx_s, oIn_t, oIn_l, oIn_s, lst_d, lstH_d, seq_l, seq_t, seq_s, val_d, toD_lst, toD_leaf, cLen_1, cAbs_1, cMax_2, cMin_2, cInt_b, cInt_i, cList_1, oI0_d, oB0_d, tru_b, tru_l, tru_s, oRep_k, strsOf_map, intsOf_map, inD_strs, inD_2, inD_3, inD_4, atI_0, atI_1, atI_2, atI_3, mApp, gC, bYes, parz, postz,
  Option.bind_some, Option.map_some, Option.getD_some, List.getElem?_cons_zero, List.getElem?_cons_succ, List.set_cons_zero, List.set_cons_succ, List.length_cons, List.length_nil, List.length_set, List.cons_append, List.nil_append, List.replicate_succ, List.replicate_zero, List.length_map, Nat.reduceAdd, Nat.zero_add, Nat.reduceLeDiff, Nat.reduceLT, Nat.reduceEqDiff, sizeLine_eq, Int.cast_ofNat_Int, Int.reduceEq, Int.reduceLT, Int.reduceLE, Int.reduceAdd, Int.reduceSub, Int.reduceMul, Int.reduceNeg, Int.reducePow, Int.reduceToNat, ↓reduceIte, if_true, if_false, decide_true, decide_false, Bool.not_true, Bool.not_false, Bool.true_and, Bool.and_true, Bool.false_and, Bool.false_eq_true, reduceCtorEq, Option.isSome_some,
  nm_head_tail, nm_head_skip, nm_head_chop, nm_head_reverse, nm_head_uniq, nm_head_sort, nmP_head, nmS_head, nm_tail_head, nm_tail_skip, nm_tail_chop, nm_tail_reverse, nm_tail_uniq, nm_tail_sort, nmP_tail, nmS_tail, nm_skip_head, nm_skip_tail, nm_skip_chop, nm_skip_reverse, nm_skip_uniq, nm_skip_sort, nmP_skip, nmS_skip, nm_chop_head, nm_chop_tail, nm_chop_skip, nm_chop_reverse, nm_chop_uniq, nm_chop_sort, nmP_chop, nmS_chop, nm_reverse_head, nm_reverse_tail, nm_reverse_skip, nm_reverse_chop, nm_reverse_uniq, nm_reverse_sort, nmP_reverse, nmS_reverse, nm_uniq_head, nm_uniq_tail, nm_uniq_skip, nm_uniq_chop, nm_uniq_reverse, nm_uniq_sort, nmP_uniq, nmS_uniq, nm_sort_head, nm_sort_tail, nm_sort_skip, nm_sort_chop, nm_sort_reverse, nm_sort_uniq, nmP_sort, nmS_sort, PR.PLAIN_d, PR.SLICING_d]
            exact rfl
          case h3 => cases h
          case h4 => rfl
          case h5 => rw [ct, if_neg fun z => w2 (by omega)]
      · refine' ⟨_, _, _, rfl, ?h1, fun h => ?h3, fun _ => ⟨?h4, ?h5⟩⟩
        case h1 =>
          unfold c5__law_step
          simp only [wipeE, w1, kb_some, kb_none, km_some, kml_some, v_xD, k_xD, v_gX, k_gXd, k_gXs, v_gG, k_gG, v_gR, k_gRd, k_gRo, v_lR, k_lRo, v_gBin, k_bin1, k_bin2, v_lBin, k_lb1, k_lb2, v_gUn, k_un, u_negI, v_bT, k_bT, v_bNot, k_bNot, v_bAnd, k_andT, k_andF, v_bOr, k_orT, k_orF, v_bTru, k_tru, v_gIf, k_ifT, k_ifF, v_lIf, k_lifT, k_lifF, v_gAnd, k_gAndT, k_gAndF, v_gOr, k_gOrT, k_gOrF, v_gNot, k_gNot, v_gCh, k_ch1, k_ch2, k_ch3T, k_ch3F, k_ch4, v_dN, v_dC, k_dC, k_dC2, v_aN, v_aC, k_aC, k_aC2, v_aSw, k_sw, v_aOne, k_one, v_gTup, k_tup, v_lLst, k_lst, v_gCb, k_cb, v_lCb, k_lcb, v_oN, v_oY, k_oY, v_lSl, k_sl1, k_sl2, k_sl3, v_lRev, k_rev, v_sSeq, k_seqN, k_seqR, k_seqB, k_seqC, v_sN, v_sB, v_sC, v_sV, v_sRN, v_sSet, k_set, v_sOwn, k_own, v_sSetR, k_setRd, k_setRo, v_sAsg, k_asg, k_nx, v_sDrop, k_drop, v_sDropR, k_dropR, v_sRet, k_ret, v_sRetG, k_retG, v_sRetR, k_retR, v_sRetV, k_retVd, k_retVo, v_sIf, k_sifT, k_sifF, v_sAug, k_aug1, k_aug2, v_sPar, k_par, v_hName, v_hNil, v_hCons, v_hTup, v_hSub, k_sub1, k_sub2, k_sub3, v_sFor, k_for, v_iLst, k_iL, v_iTup, k_iT, v_iRg1, k_iR1, v_iRg2, k_iR2, v_iEn, k_iE, v_lLc, k_lc, v_rCall, k_cl1, k_cl2, k_cl3, v_gLm, k_lm1, k_lm2, k_lm3, v_run, k_runR, k_runN, v_len0, v_lenD, v_lenS, k_lenO, k_lenP, k_lenC, v_xVar, k_varD, k_varOf, k_varPf, k_varOl, k_varPl, k_varC, k_varOi, k_varPi, k_varOo, k_varPo, v_frz, k_frzO, k_frzP, v_lstAt, k_atO, k_atP, v_putAt, k_putO, k_putP, v_lstS, k_lsO, k_lsP, k_lsC, v_lstHS, v_valS, k_valO, k_valP, v_homN, v_homD, v_homS, k_homO, k_homP, k_homC, k_homU, v_p4, k_p1, k_p2, k_p3, k_p4, k_p5, v_Eqs, k_Eqs, v_Eqd, k_Eqd, v_Eqb, k_Eqb, v_Nes, k_Nes, v_Ned, k_Ned, v_Neb, k_Neb, v_ss, k_ss,
  oEq_d, oNe_d, eqD_i, eqD_s, oIx_t, oIx_l, oIx_s, oIn_t, oIn_l, oIn_s, lst_d, lstH_d, seq_l, seq_t, seq_s, val_d, toD_lst, toD_leaf, cLen_1, cAbs_1, cMax_2, cMin_2, cInt_b, cInt_i, cList_1, oI0_d, oB0_d, tru_b, tru_l, tru_s, oRep_k, strsOf_map, intsOf_map, inD_strs, inD_2, inD_3, inD_4, atI_0, atI_1, atI_2, atI_3, mApp, gC, bYes, parz, postz,
  Option.bind_some, Option.map_some, Option.getD_some, List.getElem?_cons_zero, List.getElem?_cons_succ, List.set_cons_zero, List.set_cons_succ, List.length_cons, List.length_nil, List.length_set, List.cons_append, List.nil_append, List.replicate_succ, List.replicate_zero, List.length_map, Nat.reduceAdd, Nat.zero_add, Nat.reduceLeDiff, Nat.reduceLT, Nat.reduceEqDiff, sizeLine_eq, Int.cast_ofNat_Int, Int.reduceEq, Int.reduceLT, Int.reduceLE, Int.reduceAdd, Int.reduceSub, Int.reduceMul, Int.reduceNeg, Int.reducePow, Int.reduceToNat, ↓reduceIte, if_true, if_false, decide_true, decide_false, Bool.not_true, Bool.not_false, Bool.true_and, Bool.and_true, Bool.false_and, Bool.false_eq_true, reduceCtorEq, Option.isSome_some,
  nm_head_tail, nm_head_skip, nm_head_chop, nm_head_reverse, nm_head_uniq, nm_head_sort, nmP_head, nmS_head, nm_tail_head, nm_tail_skip, nm_tail_chop, nm_tail_reverse, nm_tail_uniq, nm_tail_sort, nmP_tail, nmS_tail, nm_skip_head, nm_skip_tail, nm_skip_chop, nm_skip_reverse, nm_skip_uniq, nm_skip_sort, nmP_skip, nmS_skip, nm_chop_head, nm_chop_tail, nm_chop_skip, nm_chop_reverse, nm_chop_uniq, nm_chop_sort, nmP_chop, nmS_chop, nm_reverse_head, nm_reverse_tail, nm_reverse_skip, nm_reverse_chop, nm_reverse_uniq, nm_reverse_sort, nmP_reverse, nmS_reverse, nm_uniq_head, nm_uniq_tail, nm_uniq_skip, nm_uniq_chop, nm_uniq_reverse, nm_uniq_sort, nmP_uniq, nmS_uniq, nm_sort_head, nm_sort_tail, nm_sort_skip, nm_sort_chop, nm_sort_reverse, nm_sort_uniq, nmP_sort, nmS_sort, PR.PLAIN_d, PR.SLICING_d]
          exact rfl
        case h3 => cases h
        case h4 => rfl
        case h5 => rw [ct, if_neg fun z => w1 (by omega)]
  rw [h1, rangeD_len, List.take_length]
theorem step_rev {xs : List MM.S} (sz : xs.length < 64) : F__law_step [.dat (Cm.rev).d, .dat (.list (xs.map .str))] = some (.own (.lst (((Cm.rev).app xs).map .str)), [.un, .un]) := by
  have b2 : -4611686018427387904 ≤ (xs.length : Int) ∧ (xs.length : Int) < 4611686018427387904 := ⟨by omega, by omega⟩
  have sz2 : xs.length < 16777216 := by omega
  have tn : ((xs.length : Nat) : Int).toNat = xs.length := rfl
  have W := fun c nm num lo hi a b => step_win sz2 (c := c) (nm := nm) (num := num) (lo := lo) (hi := hi) (a := a) (b := b)
  unfold F__law_step g__law_step
  dsimp only [Cm.d]
  obtain ⟨acc, h1, rfl⟩ := lcL_by (h := hName 5) (c := bYes) (f := e0__law_step) (vs := [5]) (ds := rangeD 0 xs.length) (e := [.dat (.tuple [.str "reverse"]), .dat (.list (xs.map .str)), .dat (.str "reverse"), .dat (.int xs.length), .dat (.int 0), .un, .un, .un, .un, .un])
    (fun i acc => acc = (xs.reverse.take i).map .str) rfl rfl fun i d acc hd ha => by
      subst ha
      obtain ⟨hl, rfl⟩ := rangeD_get hd
      obtain ⟨x, e1, e2⟩ := rev_snoc (xs := xs) (i := i) (by omega)
      have za : atI (xs.map PyData.str) ((xs.length : Int) - 1 - (0 + (i : Int))) = some (.str x) := by
        have e3 : ((xs.length : Int) - 1 - (0 + (i : Int))) = ((xs.length - 1 - i : Nat) : Int) := by omega
        rw [e3]
        exact atI_strs e1
      refine' ⟨_, _, _, rfl, rfl, fun _ => ⟨_, _, ?h1, ?h2, ?h4, ?h5⟩, fun h => ?h3⟩
      case h1 =>
        unfold e0__law_step
        simp only [wipeE, za, kb_some, kb_none, km_some, kml_some, v_xD, k_xD, v_gX, k_gXd, k_gXs, v_gG, k_gG, v_gR, k_gRd, k_gRo, v_lR, k_lRo, v_gBin, k_bin1, k_bin2, v_lBin, k_lb1, k_lb2, v_gUn, k_un, u_negI, v_bT, k_bT, v_bNot, k_bNot, v_bAnd, k_andT, k_andF, v_bOr, k_orT, k_orF, v_bTru, k_tru, v_gIf, k_ifT, k_ifF, v_lIf, k_lifT, k_lifF, v_gAnd, k_gAndT, k_gAndF, v_gOr, k_gOrT, k_gOrF, v_gNot, k_gNot, v_gCh, k_ch1, k_ch2, k_ch3T, k_ch3F, k_ch4, v_dN, v_dC, k_dC, k_dC2, v_aN, v_aC, k_aC, k_aC2, v_aSw, k_sw, v_aOne, k_one, v_gTup, k_tup, v_lLst, k_lst, v_gCb, k_cb, v_lCb, k_lcb, v_oN, v_oY, k_oY, v_lSl, k_sl1, k_sl2, k_sl3, v_lRev, k_rev, v_sSeq, k_seqN, k_seqR, k_seqB, k_seqC, v_sN, v_sB, v_sC, v_sV, v_sRN, v_sSet, k_set, v_sOwn, k_own, v_sSetR, k_setRd, k_setRo, v_sAsg, k_asg, k_nx, v_sDrop, k_drop, v_sDropR, k_dropR, v_sRet, k_ret, v_sRetG, k_retG, v_sRetR, k_retR, v_sRetV, k_retVd, k_retVo, v_sIf, k_sifT, k_sifF, v_sAug, k_aug1, k_aug2, v_sPar, k_par, v_hName, v_hNil, v_hCons, v_hTup, v_hSub, k_sub1, k_sub2, k_sub3, v_sFor, k_for, v_iLst, k_iL, v_iTup, k_iT, v_iRg1, k_iR1, v_iRg2, k_iR2, v_iEn, k_iE, v_lLc, k_lc, v_rCall, k_cl1, k_cl2, k_cl3, v_gLm, k_lm1, k_lm2, k_lm3, v_run, k_runR, k_runN, v_len0, v_lenD, v_lenS, k_lenO, k_lenP, k_lenC, v_xVar, k_varD, k_varOf, k_varPf, k_varOl, k_varPl, k_varC, k_varOi, k_varPi, k_varOo, k_varPo, v_frz, k_frzO, k_frzP, v_lstAt, k_atO, k_atP, v_putAt, k_putO, k_putP, v_lstS, k_lsO, k_lsP, k_lsC, v_lstHS, v_valS, k_valO, k_valP, v_homN, v_homD, v_homS, k_homO, k_homP, k_homC, k_homU, v_p4, k_p1, k_p2, k_p3, k_p4, k_p5, v_Eqs, k_Eqs, v_Eqd, k_Eqd, v_Eqb, k_Eqb, v_Nes, k_Nes, v_Ned, k_Ned, v_Neb, k_Neb, v_ss, k_ss,
  oEq_d, oNe_d, eqD_i, eqD_s, oIx_t, oIx_l, oIx_s, oIn_t, oIn_l, oIn_s, lst_d, lstH_d, seq_l, seq_t, seq_s, val_d, toD_lst, toD_leaf, cLen_1, cAbs_1, cMax_2, cMin_2, cInt_b, cInt_i, cList_1, oI0_d, oB0_d, tru_b, tru_l, tru_s, oRep_k, strsOf_map, intsOf_map, inD_strs, inD_2, inD_3, inD_4, atI_0, atI_1, atI_2, atI_3, mApp, gC, bYes, parz, postz,
  Option.bind_some, Option.map_some, Option.getD_some, List.getElem?_cons_zero, List.getElem?_cons_succ, List.set_cons_zero, List.set_cons_succ, List.length_cons, List.length_nil, List.length_set, List.cons_append, List.nil_append, List.replicate_succ, List.replicate_zero, List.length_map, Nat.reduceAdd, Nat.zero_add, Nat.reduceLeDiff, Nat.reduceLT, Nat.reduceEqDiff, sizeLine_eq, Int.cast_ofNat_Int, Int.reduceEq, Int.reduceLT, Int.reduceLE, Int.reduceAdd, Int.reduceSub, Int.reduceMul, Int.reduceNeg, Int.reducePow, Int.reduceToNat, ↓reduceIte, if_true, if_false, decide_true, decide_false, Bool.not_true, Bool.not_false, Bool.true_and, Bool.and_true, Bool.false_and, Bool.false_eq_true, reduceCtorEq, Option.isSome_some,
  nm_head_tail, nm_head_skip, nm_head_chop, nm_head_reverse, nm_head_uniq, nm_head_sort, nmP_head, nmS_head, nm_tail_head, nm_tail_skip, nm_tail_chop, nm_tail_reverse, nm_tail_uniq, nm_tail_sort, nmP_tail, nmS_tail, nm_skip_head, nm_skip_tail, nm_skip_chop, nm_skip_reverse, nm_skip_uniq, nm_skip_sort, nmP_skip, nmS_skip, nm_chop_head, nm_chop_tail, nm_chop_skip, nm_chop_reverse, nm_chop_uniq, nm_chop_sort, nmP_chop, nmS_chop, nm_reverse_head, nm_reverse_tail, nm_reverse_skip, nm_reverse_chop, nm_reverse_uniq, nm_reverse_sort, nmP_reverse, nmS_reverse, nm_uniq_head, nm_uniq_tail, nm_uniq_skip, nm_uniq_chop, nm_uniq_reverse, nm_uniq_sort, nmP_uniq, nmS_uniq, nm_sort_head, nm_sort_tail, nm_sort_skip, nm_sort_chop, nm_sort_reverse, nm_sort_uniq, nmP_sort, nmS_sort, PR.PLAIN_d, PR.SLICING_d]
        exact rfl
      case h2 => rw [List.length_map, List.length_take, List.length_reverse, sizeLine_eq]; omega
      case h3 => cases h
      case h4 => rfl
      case h5 =>
        rw [e2, List.map_append]
        rfl
  simp only [b2, and_self, tn, h1, rangeD_len, kb_some, kb_none, km_some, kml_some, v_xD, k_xD, v_gX, k_gXd, k_gXs, v_gG, k_gG, v_gR, k_gRd, k_gRo, v_lR, k_lRo, v_gBin, k_bin1, k_bin2, v_lBin, k_lb1, k_lb2, v_gUn, k_un, u_negI, v_bT, k_bT, v_bNot, k_bNot, v_bAnd, k_andT, k_andF, v_bOr, k_orT, k_orF, v_bTru, k_tru, v_gIf, k_ifT, k_ifF, v_lIf, k_lifT, k_lifF, v_gAnd, k_gAndT, k_gAndF, v_gOr, k_gOrT, k_gOrF, v_gNot, k_gNot, v_gCh, k_ch1, k_ch2, k_ch3T, k_ch3F, k_ch4, v_dN, v_dC, k_dC, k_dC2, v_aN, v_aC, k_aC, k_aC2, v_aSw, k_sw, v_aOne, k_one, v_gTup, k_tup, v_lLst, k_lst, v_gCb, k_cb, v_lCb, k_lcb, v_oN, v_oY, k_oY, v_lSl, k_sl1, k_sl2, k_sl3, v_lRev, k_rev, v_sSeq, k_seqN, k_seqR, k_seqB, k_seqC, v_sN, v_sB, v_sC, v_sV, v_sRN, v_sSet, k_set, v_sOwn, k_own, v_sSetR, k_setRd, k_setRo, v_sAsg, k_asg, k_nx, v_sDrop, k_drop, v_sDropR, k_dropR, v_sRet, k_ret, v_sRetG, k_retG, v_sRetR, k_retR, v_sRetV, k_retVd, k_retVo, v_sIf, k_sifT, k_sifF, v_sAug, k_aug1, k_aug2, v_sPar, k_par, v_hName, v_hNil, v_hCons, v_hTup, v_hSub, k_sub1, k_sub2, k_sub3, v_sFor, k_for, v_iLst, k_iL, v_iTup, k_iT, v_iRg1, k_iR1, v_iRg2, k_iR2, v_iEn, k_iE, v_lLc, k_lc, v_rCall, k_cl1, k_cl2, k_cl3, v_gLm, k_lm1, k_lm2, k_lm3, v_run, k_runR, k_runN, v_len0, v_lenD, v_lenS, k_lenO, k_lenP, k_lenC, v_xVar, k_varD, k_varOf, k_varPf, k_varOl, k_varPl, k_varC, k_varOi, k_varPi, k_varOo, k_varPo, v_frz, k_frzO, k_frzP, v_lstAt, k_atO, k_atP, v_putAt, k_putO, k_putP, v_lstS, k_lsO, k_lsP, k_lsC, v_lstHS, v_valS, k_valO, k_valP, v_homN, v_homD, v_homS, k_homO, k_homP, k_homC, k_homU, v_p4, k_p1, k_p2, k_p3, k_p4, k_p5, v_Eqs, k_Eqs, v_Eqd, k_Eqd, v_Eqb, k_Eqb, v_Nes, k_Nes, v_Ned, k_Ned, v_Neb, k_Neb, v_ss, k_ss,
  oEq_d, oNe_d, eqD_i, eqD_s, oIx_t, oIx_l, oIx_s, oIn_t, oIn_l, oIn_s, lst_d, lstH_d, seq_l, seq_t, seq_s, val_d, toD_lst, toD_leaf, cLen_1, cAbs_1, cMax_2, cMin_2, cInt_b, cInt_i, cList_1, oI0_d, oB0_d, tru_b, tru_l, tru_s, oRep_k, strsOf_map, intsOf_map, inD_strs, inD_2, inD_3, inD_4, atI_0, atI_1, atI_2, atI_3, mApp, gC, bYes, parz, postz,
  Option.bind_some, Option.map_some, Option.getD_some, List.getElem?_cons_zero, List.getElem?_cons_succ, List.set_cons_zero, List.set_cons_succ, List.length_cons, List.length_nil, List.length_set, List.cons_append, List.nil_append, List.replicate_succ, List.replicate_zero, List.length_map, Nat.reduceAdd, Nat.zero_add, Nat.reduceLeDiff, Nat.reduceLT, Nat.reduceEqDiff, sizeLine_eq, Int.cast_ofNat_Int, Int.reduceEq, Int.reduceLT, Int.reduceLE, Int.reduceAdd, Int.reduceSub, Int.reduceMul, Int.reduceNeg, Int.reducePow, Int.reduceToNat, ↓reduceIte, if_true, if_false, decide_true, decide_false, Bool.not_true, Bool.not_false, Bool.true_and, Bool.and_true, Bool.false_and, Bool.false_eq_true, reduceCtorEq, Option.isSome_some,
  nm_head_tail, nm_head_skip, nm_head_chop, nm_head_reverse, nm_head_uniq, nm_head_sort, nmP_head, nmS_head, nm_tail_head, nm_tail_skip, nm_tail_chop, nm_tail_reverse, nm_tail_uniq, nm_tail_sort, nmP_tail, nmS_tail, nm_skip_head, nm_skip_tail, nm_skip_chop, nm_skip_reverse, nm_skip_uniq, nm_skip_sort, nmP_skip, nmS_skip, nm_chop_head, nm_chop_tail, nm_chop_skip, nm_chop_reverse, nm_chop_uniq, nm_chop_sort, nmP_chop, nmS_chop, nm_reverse_head, nm_reverse_tail, nm_reverse_skip, nm_reverse_chop, nm_reverse_uniq, nm_reverse_sort, nmP_reverse, nmS_reverse, nm_uniq_head, nm_uniq_tail, nm_uniq_skip, nm_uniq_chop, nm_uniq_reverse, nm_uniq_sort, nmP_uniq, nmS_uniq, nm_sort_head, nm_sort_tail, nm_sort_skip, nm_sort_chop, nm_sort_reverse, nm_sort_uniq, nmP_sort, nmS_sort, PR.PLAIN_d, PR.SLICING_d]
  rw [List.take_of_length_le (by rw [List.length_reverse]; exact Nat.le_refl _)]
  rfl
theorem step_uniq {xs : List MM.S} (sz : xs.length < 64) : F__law_step [.dat (Cm.uniq).d, .dat (.list (xs.map .str))] = some (.own (.lst (((Cm.uniq).app xs).map .str)), [.un, .un]) := by
  have b2 : -4611686018427387904 ≤ (xs.length : Int) ∧ (xs.length : Int) < 4611686018427387904 := ⟨by omega, by omega⟩
  have sz2 : xs.length < 16777216 := by omega
  have tn : ((xs.length : Nat) : Int).toNat = xs.length := rfl
  have W := fun c nm num lo hi a b => step_win sz2 (c := c) (nm := nm) (num := num) (lo := lo) (hi := hi) (a := a) (b := b)
  unfold F__law_step g__law_step
  dsimp only [Cm.d]
  obtain ⟨acc, h1, rfl⟩ := lcL_by (h := hName 5) (c := c2__law_step) (f := e1__law_step) (vs := [5]) (ds := rangeD 0 xs.length) (e := [.dat (.tuple [.str "uniq"]), .dat (.list (xs.map .str)), .dat (.str "uniq"), .dat (.int xs.length), .dat (.int 0), .un, .un, .un, .un, .un])
    (fun i acc => acc = (uq (xs.take i)).map .str) rfl rfl fun i d acc hd ha => by
      subst ha
      obtain ⟨hl, rfl⟩ := rangeD_get hd
      have hx := List.getElem?_eq_getElem hl
      have za : atI (xs.map PyData.str) (0 + (i : Int)) = some (.str xs[i]) := by
        rw [Int.zero_add]
        exact atI_strs hx
      have ul : ((uq (xs.take i)).map PyData.str).length < sizeLine := by
        rw [List.length_map, sizeLine_eq]
        have := uq_len (xs.take i)
        rw [List.length_take] at this
        omega
      by_cases h0 : (0 + (i : Int)) = 0
      · refine' ⟨_, _, _, rfl, ?h1, fun _ => ⟨_, _, ?h2, ul, ?h4, ?h5⟩, fun h => ?h3⟩
        case h1 =>
          unfold c2__law_step
          simp only [wipeE, h0, kb_some, kb_none, km_some, kml_some, v_xD, k_xD, v_gX, k_gXd, k_gXs, v_gG, k_gG, v_gR, k_gRd, k_gRo, v_lR, k_lRo, v_gBin, k_bin1, k_bin2, v_lBin, k_lb1, k_lb2, v_gUn, k_un, u_negI, v_bT, k_bT, v_bNot, k_bNot, v_bAnd, k_andT, k_andF, v_bOr, k_orT, k_orF, v_bTru, k_tru, v_gIf, k_ifT, k_ifF, v_lIf, k_lifT, k_lifF, v_gAnd, k_gAndT, k_gAndF, v_gOr, k_gOrT, k_gOrF, v_gNot, k_gNot, v_gCh, k_ch1, k_ch2, k_ch3T, k_ch3F, k_ch4, v_dN, v_dC, k_dC, k_dC2, v_aN, v_aC, k_aC, k_aC2, v_aSw, k_sw, v_aOne, k_one, v_gTup, k_tup, v_lLst, k_lst, v_gCb, k_cb, v_lCb, k_lcb, v_oN, v_oY, k_oY, v_lSl, k_sl1, k_sl2, k_sl3, v_lRev, k_rev, v_sSeq, k_seqN, k_seqR, k_seqB, k_seqC, v_sN, v_sB, v_sC, v_sV, v_sRN, v_sSet, k_set, v_sOwn, k_own, v_sSetR, k_setRd, k_setRo, v_sAsg, k_asg, k_nx, v_sDrop, k_drop, v_sDropR, k_dropR, v_sRet, k_ret, v_sRetG, k_retG, v_sRetR, k_retR, v_sRetV, k_retVd, k_retVo, v_sIf, k_sifT, k_sifF, v_sAug, k_aug1, k_aug2, v_sPar, k_par, v_hName, v_hNil, v_hCons, v_hTup, v_hSub, k_sub1, k_sub2, k_sub3, v_sFor, k_for, v_iLst, k_iL, v_iTup, k_iT, v_iRg1, k_iR1, v_iRg2, k_iR2, v_iEn, k_iE, v_lLc, k_lc, v_rCall, k_cl1, k_cl2, k_cl3, v_gLm, k_lm1, k_lm2, k_lm3, v_run, k_runR, k_runN, v_len0, v_lenD, v_lenS, k_lenO, k_lenP, k_lenC, v_xVar, k_varD, k_varOf, k_varPf, k_varOl, k_varPl, k_varC, k_varOi, k_varPi, k_varOo, k_varPo, v_frz, k_frzO, k_frzP, v_lstAt, k_atO, k_atP, v_putAt, k_putO, k_putP, v_lstS, k_lsO, k_lsP, k_lsC, v_lstHS, v_valS, k_valO, k_valP, v_homN, v_homD, v_homS, k_homO, k_homP, k_homC, k_homU, v_p4, k_p1, k_p2, k_p3, k_p4, k_p5, v_Eqs, k_Eqs, v_Eqd, k_Eqd, v_Eqb, k_Eqb, v_Nes, k_Nes, v_Ned, k_Ned, v_Neb, k_Neb, v_ss, k_ss,
  oEq_d, oNe_d, eqD_i, eqD_s, oIx_t, oIx_l, oIx_s, oIn_t, oIn_l, oIn_s, lst_d, lstH_d, seq_l, seq_t, seq_s, val_d, toD_lst, toD_leaf, cLen_1, cAbs_1, cMax_2, cMin_2, cInt_b, cInt_i, cList_1, oI0_d, oB0_d, tru_b, tru_l, tru_s, oRep_k, strsOf_map, intsOf_map, inD_strs, inD_2, inD_3, inD_4, atI_0, atI_1, atI_2, atI_3, mApp, gC, bYes, parz, postz,
  Option.bind_some, Option.map_some, Option.getD_some, List.getElem?_cons_zero, List.getElem?_cons_succ, List.set_cons_zero, List.set_cons_succ, List.length_cons, List.length_nil, List.length_set, List.cons_append, List.nil_append, List.replicate_succ, List.replicate_zero, List.length_map, Nat.reduceAdd, Nat.zero_add, Nat.reduceLeDiff, Nat.reduceLT, Nat.reduceEqDiff, sizeLine_eq, Int.cast_ofNat_Int, Int.reduceEq, Int.reduceLT, Int.reduceLE, Int.reduceAdd, Int.reduceSub, Int.reduceMul, Int.reduceNeg, Int.reducePow, Int.reduceToNat, ↓reduceIte, if_true, if_false, decide_true, decide_false, Bool.not_true, Bool.not_false, Bool.true_and, Bool.and_true, Bool.false_and, Bool.false_eq_true, reduceCtorEq, Option.isSome_some,
  nm_head_tail, nm_head_skip, nm_head_chop, nm_head_reverse, nm_head_uniq, nm_head_sort, nmP_head, nmS_head, nm_tail_head, nm_tail_skip, nm_tail_chop, nm_tail_reverse, nm_tail_uniq, nm_tail_sort, nmP_tail, nmS_tail, nm_skip_head, nm_skip_tail, nm_skip_chop, nm_skip_reverse, nm_skip_uniq, nm_skip_sort, nmP_skip, nmS_skip, nm_chop_head, nm_chop_tail, nm_chop_skip, nm_chop_reverse, nm_chop_uniq, nm_chop_sort, nmP_chop, nmS_chop, nm_reverse_head, nm_reverse_tail, nm_reverse_skip, nm_reverse_chop, nm_reverse_uniq, nm_reverse_sort, nmP_reverse, nmS_reverse, nm_uniq_head, nm_uniq_tail, nm_uniq_skip, nm_uniq_chop, nm_uniq_reverse, nm_uniq_sort, nmP_uniq, nmS_uniq, nm_sort_head, nm_sort_tail, nm_sort_skip, nm_sort_chop, nm_sort_reverse, nm_sort_uniq, nmP_sort, nmS_sort, PR.PLAIN_d, PR.SLICING_d]
          exact rfl
        case h2 =>
          unfold e1__law_step
          rw [h0] at za
          simp only [za, kb_some, kb_none, km_some, kml_some, v_xD, k_xD, v_gX, k_gXd, k_gXs, v_gG, k_gG, v_gR, k_gRd, k_gRo, v_lR, k_lRo, v_gBin, k_bin1, k_bin2, v_lBin, k_lb1, k_lb2, v_gUn, k_un, u_negI, v_bT, k_bT, v_bNot, k_bNot, v_bAnd, k_andT, k_andF, v_bOr, k_orT, k_orF, v_bTru, k_tru, v_gIf, k_ifT, k_ifF, v_lIf, k_lifT, k_lifF, v_gAnd, k_gAndT, k_gAndF, v_gOr, k_gOrT, k_gOrF, v_gNot, k_gNot, v_gCh, k_ch1, k_ch2, k_ch3T, k_ch3F, k_ch4, v_dN, v_dC, k_dC, k_dC2, v_aN, v_aC, k_aC, k_aC2, v_aSw, k_sw, v_aOne, k_one, v_gTup, k_tup, v_lLst, k_lst, v_gCb, k_cb, v_lCb, k_lcb, v_oN, v_oY, k_oY, v_lSl, k_sl1, k_sl2, k_sl3, v_lRev, k_rev, v_sSeq, k_seqN, k_seqR, k_seqB, k_seqC, v_sN, v_sB, v_sC, v_sV, v_sRN, v_sSet, k_set, v_sOwn, k_own, v_sSetR, k_setRd, k_setRo, v_sAsg, k_asg, k_nx, v_sDrop, k_drop, v_sDropR, k_dropR, v_sRet, k_ret, v_sRetG, k_retG, v_sRetR, k_retR, v_sRetV, k_retVd, k_retVo, v_sIf, k_sifT, k_sifF, v_sAug, k_aug1, k_aug2, v_sPar, k_par, v_hName, v_hNil, v_hCons, v_hTup, v_hSub, k_sub1, k_sub2, k_sub3, v_sFor, k_for, v_iLst, k_iL, v_iTup, k_iT, v_iRg1, k_iR1, v_iRg2, k_iR2, v_iEn, k_iE, v_lLc, k_lc, v_rCall, k_cl1, k_cl2, k_cl3, v_gLm, k_lm1, k_lm2, k_lm3, v_run, k_runR, k_runN, v_len0, v_lenD, v_lenS, k_lenO, k_lenP, k_lenC, v_xVar, k_varD, k_varOf, k_varPf, k_varOl, k_varPl, k_varC, k_varOi, k_varPi, k_varOo, k_varPo, v_frz, k_frzO, k_frzP, v_lstAt, k_atO, k_atP, v_putAt, k_putO, k_putP, v_lstS, k_lsO, k_lsP, k_lsC, v_lstHS, v_valS, k_valO, k_valP, v_homN, v_homD, v_homS, k_homO, k_homP, k_homC, k_homU, v_p4, k_p1, k_p2, k_p3, k_p4, k_p5, v_Eqs, k_Eqs, v_Eqd, k_Eqd, v_Eqb, k_Eqb, v_Nes, k_Nes, v_Ned, k_Ned, v_Neb, k_Neb, v_ss, k_ss,
  oEq_d, oNe_d, eqD_i, eqD_s, oIx_t, oIx_l, oIx_s, oIn_t, oIn_l, oIn_s, lst_d, lstH_d, seq_l, seq_t, seq_s, val_d, toD_lst, toD_leaf, cLen_1, cAbs_1, cMax_2, cMin_2, cInt_b, cInt_i, cList_1, oI0_d, oB0_d, tru_b, tru_l, tru_s, oRep_k, strsOf_map, intsOf_map, inD_strs, inD_2, inD_3, inD_4, atI_0, atI_1, atI_2, atI_3, mApp, gC, bYes, parz, postz,
  Option.bind_some, Option.map_some, Option.getD_some, List.getElem?_cons_zero, List.getElem?_cons_succ, List.set_cons_zero, List.set_cons_succ, List.length_cons, List.length_nil, List.length_set, List.cons_append, List.nil_append, List.replicate_succ, List.replicate_zero, List.length_map, Nat.reduceAdd, Nat.zero_add, Nat.reduceLeDiff, Nat.reduceLT, Nat.reduceEqDiff, sizeLine_eq, Int.cast_ofNat_Int, Int.reduceEq, Int.reduceLT, Int.reduceLE, Int.reduceAdd, Int.reduceSub, Int.reduceMul, Int.reduceNeg, Int.reducePow, Int.reduceToNat, ↓reduceIte, if_true, if_false, decide_true, decide_false, Bool.not_true, Bool.not_false, Bool.true_and, Bool.and_true, Bool.false_and, Bool.false_eq_true, reduceCtorEq, Option.isSome_some,
  nm_head_tail, nm_head_skip, nm_head_chop, nm_head_reverse, nm_head_uniq, nm_head_sort, nmP_head, nmS_head, nm_tail_head, nm_tail_skip, nm_tail_chop, nm_tail_reverse, nm_tail_uniq, nm_tail_sort, nmP_tail, nmS_tail, nm_skip_head, nm_skip_tail, nm_skip_chop, nm_skip_reverse, nm_skip_uniq, nm_skip_sort, nmP_skip, nmS_skip, nm_chop_head, nm_chop_tail, nm_chop_skip, nm_chop_reverse, nm_chop_uniq, nm_chop_sort, nmP_chop, nmS_chop, nm_reverse_head, nm_reverse_tail, nm_reverse_skip, nm_reverse_chop, nm_reverse_uniq, nm_reverse_sort, nmP_reverse, nmS_reverse, nm_uniq_head, nm_uniq_tail, nm_uniq_skip, nm_uniq_chop, nm_uniq_reverse, nm_uniq_sort, nmP_uniq, nmS_uniq, nm_sort_head, nm_sort_tail, nm_sort_skip, nm_sort_chop, nm_sort_reverse, nm_sort_uniq, nmP_sort, nmS_sort, PR.PLAIN_d, PR.SLICING_d]
          exact rfl
        case h3 => cases h
        case h4 => rfl
        case h5 =>
          rw [uq_take hx, if_neg (fun z => z.1 (by omega)), List.map_append]
          rfl
      · have hx1 := List.getElem?_eq_getElem (show i - 1 < xs.length by omega)
        have zb : atI (xs.map PyData.str) (0 + (i : Int) - 1) = some (.str xs[i - 1]) := by
          have e : (0 + (i : Int) - 1) = ((i - 1 : Nat) : Int) := by omega
          rw [e]
          exact atI_strs hx1
        by_cases hn : xs[i] = xs[i - 1]
        · refine' ⟨_, _, _, rfl, ?h1, fun h => ?h3, fun _ => ⟨?h4, ?h5⟩⟩
          case h1 =>
            unfold c2__law_step
            simp only [wipeE, h0, za, zb, hn, kb_some, kb_none, km_some, kml_some, v_xD, k_xD, v_gX, k_gXd, k_gXs, v_gG, k_gG, v_gR, k_gRd, k_gRo, v_lR, k_lRo, v_gBin, k_bin1, k_bin2, v_lBin, k_lb1, k_lb2, v_gUn, k_un, u_negI, v_bT, k_bT, v_bNot, k_bNot, v_bAnd, k_andT, k_andF, v_bOr, k_orT, k_orF, v_bTru, k_tru, v_gIf, k_ifT, k_ifF, v_lIf, k_lifT, k_lifF, v_gAnd, k_gAndT, k_gAndF, v_gOr, k_gOrT, k_gOrF, v_gNot, k_gNot, v_gCh, k_ch1, k_ch2, k_ch3T, k_ch3F, k_ch4, v_dN, v_dC, k_dC, k_dC2, v_aN, v_aC, k_aC, k_aC2, v_aSw, k_sw, v_aOne, k_one, v_gTup, k_tup, v_lLst, k_lst, v_gCb, k_cb, v_lCb, k_lcb, v_oN, v_oY, k_oY, v_lSl, k_sl1, k_sl2, k_sl3, v_lRev, k_rev, v_sSeq, k_seqN, k_seqR, k_seqB, k_seqC, v_sN, v_sB, v_sC, v_sV, v_sRN, v_sSet, k_set, v_sOwn, k_own, v_sSetR, k_setRd, k_setRo, v_sAsg, k_asg, k_nx, v_sDrop, k_drop, v_sDropR, k_dropR, v_sRet, k_ret, v_sRetG, k_retG, v_sRetR, k_retR, v_sRetV, k_retVd, k_retVo, v_sIf, k_sifT, k_sifF, v_sAug, k_aug1, k_aug2, v_sPar, k_par, v_hName, v_hNil, v_hCons, v_hTup, v_hSub, k_sub1, k_sub2, k_sub3, v_sFor, k_for, v_iLst, k_iL, v_iTup, k_iT, v_iRg1, k_iR1, v_iRg2, k_iR2, v_iEn, k_iE, v_lLc, k_lc, v_rCall, k_cl1, k_cl2, k_cl3, v_gLm, k_lm1, k_lm2, k_lm3, v_run, k_runR, k_runN, v_len0, v_lenD, v_lenS, k_lenO, k_lenP, k_lenC, v_xVar, k_varD, k_varOf, k_varPf, k_varOl, k_varPl, k_varC, k_varOi, k_varPi, k_varOo, k_varPo, v_frz, k_frzO, k_frzP, v_lstAt, k_atO, k_atP, v_putAt, k_putO, k_putP, v_lstS, k_lsO, k_lsP, k_lsC, v_lstHS, v_valS, k_valO, k_valP, v_homN, v_homD, v_homS, k_homO, k_homP, k_homC, k_homU, v_p4, k_p1, k_p2, k_p3, k_p4, k_p5, v_Eqs, k_Eqs, v_Eqd, k_Eqd, v_Eqb, k_Eqb, v_Nes, k_Nes, v_Ned, k_Ned, v_Neb, k_Neb, v_ss, k_ss,
  oEq_d, oNe_d, eqD_i, eqD_s, oIx_t, oIx_l, oIx_s, oIn_t, oIn_l, oIn_s, lst_d, lstH_d, seq_l, seq_t, seq_s, val_d, toD_lst, toD_leaf, cLen_1, cAbs_1, cMax_2, cMin_2, cInt_b, cInt_i, cList_1, oI0_d, oB0_d, tru_b, tru_l, tru_s, oRep_k, strsOf_map, intsOf_map, inD_strs, inD_2, inD_3, inD_4, atI_0, atI_1, atI_2, atI_3, mApp, gC, bYes, parz, postz,
  Option.bind_some, Option.map_some, Option.getD_some, List.getElem?_cons_zero, List.getElem?_cons_succ, List.set_cons_zero, List.set_cons_succ, List.length_cons, List.length_nil, List.length_set, List.cons_append, List.nil_append, List.replicate_succ, List.replicate_zero, List.length_map, Nat.reduceAdd, Nat.zero_add, Nat.reduceLeDiff, Nat.reduceLT, Nat.reduceEqDiff, sizeLine_eq, Int.cast_ofNat_Int, Int.reduceEq, Int.reduceLT, Int.reduceLE, Int.reduceAdd, Int.reduceSub, Int.reduceMul, Int.reduceNeg, Int.reducePow, Int.reduceToNat, ↓reduceIte, if_true, if_false, decide_true, decide_false, Bool.not_true, Bool.not_false, Bool.true_and, Bool.and_true, Bool.false_and, Bool.false_eq_true, reduceCtorEq, Option.isSome_some,
  nm_head_tail, nm_head_skip, nm_head_chop, nm_head_reverse, nm_head_uniq, nm_head_sort, nmP_head, nmS_head, nm_tail_head, nm_tail_skip, nm_tail_chop, nm_tail_reverse, nm_tail_uniq, nm_tail_sort, nmP_tail, nmS_tail, nm_skip_head, nm_skip_tail, nm_skip_chop, nm_skip_reverse, nm_skip_uniq, nm_skip_sort, nmP_skip, nmS_skip, nm_chop_head, nm_chop_tail, nm_chop_skip, nm_chop_reverse, nm_chop_uniq, nm_chop_sort, nmP_chop, nmS_chop, nm_reverse_head, nm_reverse_tail, nm_reverse_skip, nm_reverse_chop, nm_reverse_uniq, nm_reverse_sort, nmP_reverse, nmS_reverse, nm_uniq_head, nm_uniq_tail, nm_uniq_skip, nm_uniq_chop, nm_uniq_reverse, nm_uniq_sort, nmP_uniq, nmS_uniq, nm_sort_head, nm_sort_tail, nm_sort_skip, nm_sort_chop, nm_sort_reverse, nm_sort_uniq, nmP_sort, nmS_sort, PR.PLAIN_d, PR.SLICING_d]
            exact rfl
          case h3 => cases h
          case h4 => rfl
          case h5 => rw [uq_take hx, if_pos ⟨by omega, by rw [hx1, hn]⟩]
        · refine' ⟨_, _, _, rfl, ?h1, fun _ => ⟨_, _, ?h2, ul, ?h4, ?h5⟩, fun h => ?h3⟩
          case h1 =>
            unfold c2__law_step
            simp only [wipeE, h0, za, zb, hn, kb_some, kb_none, km_some, kml_some, v_xD, k_xD, v_gX, k_gXd, k_gXs, v_gG, k_gG, v_gR, k_gRd, k_gRo, v_lR, k_lRo, v_gBin, k_bin1, k_bin2, v_lBin, k_lb1, k_lb2, v_gUn, k_un, u_negI, v_bT, k_bT, v_bNot, k_bNot, v_bAnd, k_andT, k_andF, v_bOr, k_orT, k_orF, v_bTru, k_tru, v_gIf, k_ifT, k_ifF, v_lIf, k_lifT, k_lifF, v_gAnd, k_gAndT, k_gAndF, v_gOr, k_gOrT, k_gOrF, v_gNot, k_gNot, v_gCh, k_ch1, k_ch2, k_ch3T, k_ch3F, k_ch4, v_dN, v_dC, k_dC, k_dC2, v_aN, v_aC, k_aC, k_aC2, v_aSw, k_sw, v_aOne, k_one, v_gTup, k_tup, v_lLst, k_lst, v_gCb, k_cb, v_lCb, k_lcb, v_oN, v_oY, k_oY, v_lSl, k_sl1, k_sl2, k_sl3, v_lRev, k_rev, v_sSeq, k_seqN, k_seqR, k_seqB, k_seqC, v_sN, v_sB, v_sC, v_sV, v_sRN, v_sSet, k_set, v_sOwn, k_own, v_sSetR, k_setRd, k_setRo, v_sAsg, k_asg, k_nx, v_sDrop, k_drop, v_sDropR, k_dropR, v_sRet, k_ret, v_sRetG, k_retG, v_sRetR, k_retR, v_sRetV, k_retVd, k_retVo, v_sIf, k_sifT, k_sifF, v_sAug, k_aug1, k_aug2, v_sPar, k_par, v_hName, v_hNil, v_hCons, v_hTup, v_hSub, k_sub1, k_sub2, k_sub3, v_sFor, k_for, v_iLst, k_iL, v_iTup, k_iT, v_iRg1, k_iR1, v_iRg2, k_iR2, v_iEn, k_iE, v_lLc, k_lc, v_rCall, k_cl1, k_cl2, k_cl3, v_gLm, k_lm1, k_lm2, k_lm3, v_run, k_runR, k_runN, v_len0, v_lenD, v_lenS, k_lenO, k_lenP, k_lenC, v_xVar, k_varD, k_varOf, k_varPf, k_varOl, k_varPl, k_varC, k_varOi, k_varPi, k_varOo, k_varPo, v_frz, k_frzO, k_frzP, v_lstAt, k_atO, k_atP, v_putAt, k_putO, k_putP, v_lstS, k_lsO, k_lsP, k_lsC, v_lstHS, v_valS, k_valO, k_valP, v_homN, v_homD, v_homS, k_homO, k_homP, k_homC, k_homU, v_p4, k_p1, k_p2, k_p3, k_p4, k_p5, v_Eqs, k_Eqs, v_Eqd, k_Eqd, v_Eqb, k_Eqb, v_Nes, k_Nes, v_Ned, k_Ned, v_Neb, k_Neb, v_ss, k_ss,
  oEq_d, oNe_d, eqD_i, eqD_s, oIx_t, oIx_l, oIx_s, oIn_t, oIn_l, oIn_s, lst_d, lstH_d, seq_l, seq_t, seq_s, val_d, toD_lst, toD_leaf, cLen_1, cAbs_1, cMax_2, cMin_2, cInt_b, cInt_i, cList_1, oI0_d, oB0_d, tru_b, tru_l, tru_s, oRep_k, strsOf_map, intsOf_map, inD_strs, inD_2, inD_3, inD_4, atI_0, atI_1, atI_2, atI_3, mApp, gC, bYes, parz, postz,
  Option.bind_some, Option.map_some, Option.getD_some, List.getElem?_cons_zero, List.getElem?_cons_succ, List.set_cons_zero, List.set_cons_succ, List.length_cons, List.length_nil, List.length_set, List.cons_append, List.nil_append, List.replicate_succ, List.replicate_zero, List.length_map, Nat.reduceAdd, Nat.zero_add, Nat.reduceLeDiff, Nat.reduceLT, Nat.reduceEqDiff, sizeLine_eq, Int.cast_ofNat_Int, Int.reduceEq, Int.reduceLT, Int.reduceLE, Int.reduceAdd, Int.reduceSub, Int.reduceMul, Int.reduceNeg, Int.reducePow, Int.reduceToNat, ↓reduceIte, if_true, if_false, decide_true, decide_false, Bool.not_true, Bool.not_false, Bool.true_and, Bool.and_true, Bool.false_and, Bool.false_eq_true, reduceCtorEq, Option.isSome_some,
  nm_head_tail, nm_head_skip, nm_head_chop, nm_head_reverse, nm_head_uniq, nm_head_sort, nmP_head, nmS_head, nm_tail_head, nm_tail_skip, nm_tail_chop, nm_tail_reverse, nm_tail_uniq, nm_tail_sort, nmP_tail, nmS_tail, nm_skip_head, nm_skip_tail, nm_skip_chop, nm_skip_reverse, nm_skip_uniq, nm_skip_sort, nmP_skip, nmS_skip, nm_chop_head, nm_chop_tail, nm_chop_skip, nm_chop_reverse, nm_chop_uniq, nm_chop_sort, nmP_chop, nmS_chop, nm_reverse_head, nm_reverse_tail, nm_reverse_skip, nm_reverse_chop, nm_reverse_uniq, nm_reverse_sort, nmP_reverse, nmS_reverse, nm_uniq_head, nm_uniq_tail, nm_uniq_skip, nm_uniq_chop, nm_uniq_reverse, nm_uniq_sort, nmP_uniq, nmS_uniq, nm_sort_head, nm_sort_tail, nm_sort_skip, nm_sort_chop, nm_sort_reverse, nm_sort_uniq, nmP_sort, nmS_sort, PR.PLAIN_d, PR.SLICING_d]
            exact rfl
          case h2 =>
            unfold e1__law_step
            simp only [za, kb_some, kb_none, km_some, kml_some, v_xD, k_xD, v_gX, k_gXd, k_gXs, v_gG, k_gG, v_gR, k_gRd, k_gRo, v_lR, k_lRo, v_gBin, k_bin1, k_bin2, v_lBin, k_lb1, k_lb2, v_gUn, k_un, u_negI, v_bT, k_bT, v_bNot, k_bNot, v_bAnd, k_andT, k_andF, v_bOr, k_orT, k_orF, v_bTru, k_tru, v_gIf, k_ifT, k_ifF, v_lIf, k_lifT, k_lifF, v_gAnd, k_gAndT, k_gAndF, v_gOr, k_gOrT, k_gOrF, v_gNot, k_gNot, v_gCh, k_ch1, k_ch2, k_ch3T, k_ch3F, k_ch4, v_dN, v_dC, k_dC, k_dC2, v_aN, v_aC, k_aC, k_aC2, v_aSw, k_sw, v_aOne, k_one, v_gTup, k_tup, v_lLst, k_lst, v_gCb, k_cb, v_lCb, k_lcb, v_oN, v_oY, k_oY, v_lSl, k_sl1, k_sl2, k_sl3, v_lRev, k_rev, v_sSeq, k_seqN, k_seqR, k_seqB, k_seqC, v_sN, v_sB, v_sC, v_sV, v_sRN, v_sSet, k_set, v_sOwn, k_own, v_sSetR, k_setRd, k_setRo, v_sAsg, k_asg, k_nx, v_sDrop, k_drop, v_sDropR, k_dropR, v_sRet, k_ret, v_sRetG, k_retG, v_sRetR, k_retR, v_sRetV, k_retVd, k_retVo, v_sIf, k_sifT, k_sifF, v_sAug, k_aug1, k_aug2, v_sPar, k_par, v_hName, v_hNil, v_hCons, v_hTup, v_hSub, k_sub1, k_sub2, k_sub3, v_sFor, k_for, v_iLst, k_iL, v_iTup, k_iT, v_iRg1, k_iR1, v_iRg2, k_iR2, v_iEn, k_iE, v_lLc, k_lc, v_rCall, k_cl1, k_cl2, k_cl3, v_gLm, k_lm1, k_lm2, k_lm3, v_run, k_runR, k_runN, v_len0, v_lenD, v_lenS, k_lenO, k_lenP, k_lenC, v_xVar, k_varD, k_varOf, k_varPf, k_varOl, k_varPl, k_varC, k_varOi, k_varPi, k_varOo, k_varPo, v_frz, k_frzO, k_frzP, v_lstAt, k_atO, k_atP, v_putAt, k_putO, k_putP, v_lstS, k_lsO, k_lsP, k_lsC, v_lstHS, v_valS, k_valO, k_valP, v_homN, v_homD, v_homS, k_homO, k_homP, k_homC, k_homU, v_p4, k_p1, k_p2, k_p3, k_p4, k_p5, v_Eqs, k_Eqs, v_Eqd, k_Eqd, v_Eqb, k_Eqb, v_Nes, k_Nes, v_Ned, k_Ned, v_Neb, k_Neb, v_ss, k_ss,
  oEq_d, oNe_d, eqD_i, eqD_s, oIx_t, oIx_l, oIx_s, oIn_t, oIn_l, oIn_s, lst_d, lstH_d, seq_l, seq_t, seq_s, val_d, toD_lst, toD_leaf, cLen_1, cAbs_1, cMax_2, cMin_2, cInt_b, cInt_i, cList_1, oI0_d, oB0_d, tru_b, tru_l, tru_s, oRep_k, strsOf_map, intsOf_map, inD_strs, inD_2, inD_3, inD_4, atI_0, atI_1, atI_2, atI_3, mApp, gC, bYes, parz, postz,
  Option.bind_some, Option.map_some, Option.getD_some, List.getElem?_cons_zero, List.getElem?_cons_succ, List.set_cons_zero, List.set_cons_succ, List.length_cons, List.length_nil, List.length_set, List.cons_append, List.nil_append, List.replicate_succ, List.replicate_zero, List.length_map, Nat.reduceAdd, Nat.zero_add, Nat.reduceLeDiff, Nat.reduceLT, Nat.reduceEqDiff, sizeLine_eq, Int.cast_ofNat_Int, Int.reduceEq, Int.reduceLT, Int.reduceLE, Int.reduceAdd, Int.reduceSub, Int.reduceMul, Int.reduceNeg, Int.reducePow, Int.reduceToNat, ↓reduceIte, if_true, if_false, decide_true, decide_false, Bool.not_true, Bool.not_false, Bool.true_and, Bool.and_true, Bool.false_and, Bool.false_eq_true, reduceCtorEq, Option.isSome_some,
  nm_head_tail, nm_head_skip, nm_head_chop, nm_head_reverse, nm_head_uniq, nm_head_sort, nmP_head, nmS_head, nm_tail_head, nm_tail_skip, nm_tail_chop, nm_tail_reverse, nm_tail_uniq, nm_tail_sort, nmP_tail, nmS_tail, nm_skip_head, nm_skip_tail, nm_skip_chop, nm_skip_reverse, nm_skip_uniq, nm_skip_sort, nmP_skip, nmS_skip, nm_chop_head, nm_chop_tail, nm_chop_skip, nm_chop_reverse, nm_chop_uniq, nm_chop_sort, nmP_chop, nmS_chop, nm_reverse_head, nm_reverse_tail, nm_reverse_skip, nm_reverse_chop, nm_reverse_uniq, nm_reverse_sort, nmP_reverse, nmS_reverse, nm_uniq_head, nm_uniq_tail, nm_uniq_skip, nm_uniq_chop, nm_uniq_reverse, nm_uniq_sort, nmP_uniq, nmS_uniq, nm_sort_head, nm_sort_tail, nm_sort_skip, nm_sort_chop, nm_sort_reverse, nm_sort_uniq, nmP_sort, nmS_sort, PR.PLAIN_d, PR.SLICING_d]
            exact rfl
          case h3 => cases h
          case h4 => rfl
          case h5 =>
            rw [uq_take hx, if_neg (fun z => hn (by have := z.2; rw [hx1] at this; exact (Option.some.inj this).symm)), List.map_append]
            rfl
  simp only [b2, and_self, tn, h1, rangeD_len, kb_some, kb_none, km_some, kml_some, v_xD, k_xD, v_gX, k_gXd, k_gXs, v_gG, k_gG, v_gR, k_gRd, k_gRo, v_lR, k_lRo, v_gBin, k_bin1, k_bin2, v_lBin, k_lb1, k_lb2, v_gUn, k_un, u_negI, v_bT, k_bT, v_bNot, k_bNot, v_bAnd, k_andT, k_andF, v_bOr, k_orT, k_orF, v_bTru, k_tru, v_gIf, k_ifT, k_ifF, v_lIf, k_lifT, k_lifF, v_gAnd, k_gAndT, k_gAndF, v_gOr, k_gOrT, k_gOrF, v_gNot, k_gNot, v_gCh, k_ch1, k_ch2, k_ch3T, k_ch3F, k_ch4, v_dN, v_dC, k_dC, k_dC2, v_aN, v_aC, k_aC, k_aC2, v_aSw, k_sw, v_aOne, k_one, v_gTup, k_tup, v_lLst, k_lst, v_gCb, k_cb, v_lCb, k_lcb, v_oN, v_oY, k_oY, v_lSl, k_sl1, k_sl2, k_sl3, v_lRev, k_rev, v_sSeq, k_seqN, k_seqR, k_seqB, k_seqC, v_sN, v_sB, v_sC, v_sV, v_sRN, v_sSet, k_set, v_sOwn, k_own, v_sSetR, k_setRd, k_setRo, v_sAsg, k_asg, k_nx, v_sDrop, k_drop, v_sDropR, k_dropR, v_sRet, k_ret, v_sRetG, k_retG, v_sRetR, k_retR, v_sRetV, k_retVd, k_retVo, v_sIf, k_sifT, k_sifF, v_sAug, k_aug1, k_aug2, v_sPar, k_par, v_hName, v_hNil, v_hCons, v_hTup, v_hSub, k_sub1, k_sub2, k_sub3, v_sFor, k_for, v_iLst, k_iL, v_iTup, k_iT, v_iRg1, k_iR1, v_iRg2, k_iR2, v_iEn, k_iE, v_lLc, k_lc, v_rCall, k_cl1, k_cl2, k_cl3, v_gLm, k_lm1, k_lm2, k_lm3, v_run, k_runR, k_runN, v_len0, v_lenD, v_lenS, k_lenO, k_lenP, k_lenC, v_xVar, k_varD, k_varOf, k_varPf, k_varOl, k_varPl, k_varC, k_varOi, k_varPi, k_varOo, k_varPo, v_frz, k_frzO, k_frzP, v_lstAt, k_atO, k_atP, v_putAt, k_putO, k_putP, v_lstS, k_lsO, k_lsP, k_lsC, v_lstHS, v_valS, k_valO, k_valP, v_homN, v_homD, v_homS, k_homO, k_homP, k_homC, k_homU, v_p4, k_p1, k_p2, k_p3, k_p4, k_p5, v_Eqs, k_Eqs, v_Eqd, k_Eqd, v_Eqb, k_Eqb, v_Nes, k_Nes, v_Ned, k_Ned, v_Neb, k_Neb, v_ss, k_ss,
  oEq_d, oNe_d, eqD_i, eqD_s, oIx_t, oIx_l, oIx_s, oIn_t, oIn_l, oIn_s, lst_d, lstH_d, seq_l, seq_t, seq_s, val_d, toD_lst, toD_leaf, cLen_1, cAbs_1, cMax_2, cMin_2, cInt_b, cInt_i, cList_1, oI0_d, oB0_d, tru_b, tru_l, tru_s, oRep_k, strsOf_map, intsOf_map, inD_strs, inD_2, inD_3, inD_4, atI_0, atI_1, atI_2, atI_3, mApp, gC, bYes, parz, postz,
  Option.bind_some, Option.map_some, Option.getD_some, List.getElem?_cons_zero, List.getElem?_cons_succ, List.set_cons_zero, List.set_cons_succ, List.length_cons, List.length_nil, List.length_set, List.cons_append, List.nil_append, List.replicate_succ, List.replicate_zero, List.length_map, Nat.reduceAdd, Nat.zero_add, Nat.reduceLeDiff, Nat.reduceLT, Nat.reduceEqDiff, sizeLine_eq, Int.cast_ofNat_Int, Int.reduceEq, Int.reduceLT, Int.reduceLE, Int.reduceAdd, Int.reduceSub, Int.reduceMul, Int.reduceNeg, Int.reducePow, Int.reduceToNat, ↓reduceIte, if_true, if_false, decide_true, decide_false, Bool.not_true, Bool.not_false, Bool.true_and, Bool.and_true, Bool.false_and, Bool.false_eq_true, reduceCtorEq, Option.isSome_some,
  nm_head_tail, nm_head_skip, nm_head_chop, nm_head_reverse, nm_head_uniq, nm_head_sort, nmP_head, nmS_head, nm_tail_head, nm_tail_skip, nm_tail_chop, nm_tail_reverse, nm_tail_uniq, nm_tail_sort, nmP_tail, nmS_tail, nm_skip_head, nm_skip_tail, nm_skip_chop, nm_skip_reverse, nm_skip_uniq, nm_skip_sort, nmP_skip, nmS_skip, nm_chop_head, nm_chop_tail, nm_chop_skip, nm_chop_reverse, nm_chop_uniq, nm_chop_sort, nmP_chop, nmS_chop, nm_reverse_head, nm_reverse_tail, nm_reverse_skip, nm_reverse_chop, nm_reverse_uniq, nm_reverse_sort, nmP_reverse, nmS_reverse, nm_uniq_head, nm_uniq_tail, nm_uniq_skip, nm_uniq_chop, nm_uniq_reverse, nm_uniq_sort, nmP_uniq, nmS_uniq, nm_sort_head, nm_sort_tail, nm_sort_skip, nm_sort_chop, nm_sort_reverse, nm_sort_uniq, nmP_sort, nmS_sort, PR.PLAIN_d, PR.SLICING_d]
  rw [List.take_length]
  rfl
theorem step_sort {xs : List MM.S} (sz : xs.length < 64) : F__law_step [.dat (Cm.sort).d, .dat (.list (xs.map .str))] = some (.own (.lst (((Cm.sort).app xs).map .str)), [.un, .un]) := by
  have b2 : -4611686018427387904 ≤ (xs.length : Int) ∧ (xs.length : Int) < 4611686018427387904 := ⟨by omega, by omega⟩
  have sz2 : xs.length < 16777216 := by omega
  have tn : ((xs.length : Nat) : Int).toNat = xs.length := rfl
  have W := fun c nm num lo hi a b => step_win sz2 (c := c) (nm := nm) (num := num) (lo := lo) (hi := hi) (a := a) (b := b)
  unfold F__law_step g__law_step
  dsimp only [Cm.d]
  obtain ⟨e', h1, a, rfl⟩ := forL_by (h := hName 7) (g := l3__law_step) (ds := xs.map .str) (e := [.dat (.tuple [.str "sort"]), .dat (.list (xs.map .str)), .dat (.str "sort"), .dat (.int xs.length), .dat (.int 0), .un, .own (.lst []), .un, .un, .un])
    (fun i e => ∃ a, e = [.dat (.tuple [.str "sort"]), .dat (.list (xs.map .str)), .dat (.str "sort"), .dat (.int xs.length), .dat (.int 0), .un, .own (.lst ((dd (xs.take i)).map .str)), a, .un, .un]) ⟨_, rfl⟩ fun i d e hd ⟨a, he⟩ => by
      subst he
      rw [List.getElem?_map] at hd
      cases hc : xs[i]? with
      | none => rw [hc] at hd; cases hd
      | some x =>
        rw [hc] at hd
        cases hd
        have dl : (dd (xs.take i)).length < 16777216 := by
          have := dd_len (xs.take i)
          rw [List.length_take] at this
          omega
        have nx : dd (xs.take (i + 1)) = stD (dd (xs.take i)) x := by
          rw [List.take_add_one, hc]
          exact dd_snoc _ _
        by_cases hn : x ∈ dd (xs.take i)
        · refine' ⟨_, rfl, _, ?h2, _, Or.inl rfl, ?h3⟩
          case h2 =>
            unfold l3__law_step
            simp only [hn, kb_some, kb_none, km_some, kml_some, v_xD, k_xD, v_gX, k_gXd, k_gXs, v_gG, k_gG, v_gR, k_gRd, k_gRo, v_lR, k_lRo, v_gBin, k_bin1, k_bin2, v_lBin, k_lb1, k_lb2, v_gUn, k_un, u_negI, v_bT, k_bT, v_bNot, k_bNot, v_bAnd, k_andT, k_andF, v_bOr, k_orT, k_orF, v_bTru, k_tru, v_gIf, k_ifT, k_ifF, v_lIf, k_lifT, k_lifF, v_gAnd, k_gAndT, k_gAndF, v_gOr, k_gOrT, k_gOrF, v_gNot, k_gNot, v_gCh, k_ch1, k_ch2, k_ch3T, k_ch3F, k_ch4, v_dN, v_dC, k_dC, k_dC2, v_aN, v_aC, k_aC, k_aC2, v_aSw, k_sw, v_aOne, k_one, v_gTup, k_tup, v_lLst, k_lst, v_gCb, k_cb, v_lCb, k_lcb, v_oN, v_oY, k_oY, v_lSl, k_sl1, k_sl2, k_sl3, v_lRev, k_rev, v_sSeq, k_seqN, k_seqR, k_seqB, k_seqC, v_sN, v_sB, v_sC, v_sV, v_sRN, v_sSet, k_set, v_sOwn, k_own, v_sSetR, k_setRd, k_setRo, v_sAsg, k_asg, k_nx, v_sDrop, k_drop, v_sDropR, k_dropR, v_sRet, k_ret, v_sRetG, k_retG, v_sRetR, k_retR, v_sRetV, k_retVd, k_retVo, v_sIf, k_sifT, k_sifF, v_sAug, k_aug1, k_aug2, v_sPar, k_par, v_hName, v_hNil, v_hCons, v_hTup, v_hSub, k_sub1, k_sub2, k_sub3, v_sFor, k_for, v_iLst, k_iL, v_iTup, k_iT, v_iRg1, k_iR1, v_iRg2, k_iR2, v_iEn, k_iE, v_lLc, k_lc, v_rCall, k_cl1, k_cl2, k_cl3, v_gLm, k_lm1, k_lm2, k_lm3, v_run, k_runR, k_runN, v_len0, v_lenD, v_lenS, k_lenO, k_lenP, k_lenC, v_xVar, k_varD, k_varOf, k_varPf, k_varOl, k_varPl, k_varC, k_varOi, k_varPi, k_varOo, k_varPo, v_frz, k_frzO, k_frzP, v_lstAt, k_atO, k_atP, v_putAt, k_putO, k_putP, v_lstS, k_lsO, k_lsP, k_lsC, v_lstHS, v_valS, k_valO, k_valP, v_homN, v_homD, v_homS, k_homO, k_homP, k_homC, k_homU, v_p4, k_p1, k_p2, k_p3, k_p4, k_p5, v_Eqs, k_Eqs, v_Eqd, k_Eqd, v_Eqb, k_Eqb, v_Nes, k_Nes, v_Ned, k_Ned, v_Neb, k_Neb, v_ss, k_ss,
  oEq_d, oNe_d, eqD_i, eqD_s, oIx_t, oIx_l, oIx_s, oIn_t, oIn_l, oIn_s, lst_d, lstH_d, seq_l, seq_t, seq_s, val_d, toD_lst, toD_leaf, cLen_1, cAbs_1, cMax_2, cMin_2, cInt_b, cInt_i, cList_1, oI0_d, oB0_d, tru_b, tru_l, tru_s, oRep_k, strsOf_map, intsOf_map, inD_strs, inD_2, inD_3, inD_4, atI_0, atI_1, atI_2, atI_3, mApp, gC, bYes, parz, postz,
  Option.bind_some, Option.map_some, Option.getD_some, List.getElem?_cons_zero, List.getElem?_cons_succ, List.set_cons_zero, List.set_cons_succ, List.length_cons, List.length_nil, List.length_set, List.cons_append, List.nil_append, List.replicate_succ, List.replicate_zero, List.length_map, Nat.reduceAdd, Nat.zero_add, Nat.reduceLeDiff, Nat.reduceLT, Nat.reduceEqDiff, sizeLine_eq, Int.cast_ofNat_Int, Int.reduceEq, Int.reduceLT, Int.reduceLE, Int.reduceAdd, Int.reduceSub, Int.reduceMul, Int.reduceNeg, Int.reducePow, Int.reduceToNat, ↓reduceIte, if_true, if_false, decide_true, decide_false, Bool.not_true, Bool.not_false, Bool.true_and, Bool.and_true, Bool.false_and, Bool.false_eq_true, reduceCtorEq, Option.isSome_some,
  nm_head_tail, nm_head_skip, nm_head_chop, nm_head_reverse, nm_head_uniq, nm_head_sort, nmP_head, nmS_head, nm_tail_head, nm_tail_skip, nm_tail_chop, nm_tail_reverse, nm_tail_uniq, nm_tail_sort, nmP_tail, nmS_tail, nm_skip_head, nm_skip_tail, nm_skip_chop, nm_skip_reverse, nm_skip_uniq, nm_skip_sort, nmP_skip, nmS_skip, nm_chop_head, nm_chop_tail, nm_chop_skip, nm_chop_reverse, nm_chop_uniq, nm_chop_sort, nmP_chop, nmS_chop, nm_reverse_head, nm_reverse_tail, nm_reverse_skip, nm_reverse_chop, nm_reverse_uniq, nm_reverse_sort, nmP_reverse, nmS_reverse, nm_uniq_head, nm_uniq_tail, nm_uniq_skip, nm_uniq_chop, nm_uniq_reverse, nm_uniq_sort, nmP_uniq, nmS_uniq, nm_sort_head, nm_sort_tail, nm_sort_skip, nm_sort_chop, nm_sort_reverse, nm_sort_uniq, nmP_sort, nmS_sort, PR.PLAIN_d, PR.SLICING_d]
            exact rfl
          case h3 => exact ⟨_, by rw [nx, show stD (dd (xs.take i)) x = dd (xs.take i) from if_pos hn]⟩
        · refine' ⟨_, rfl, _, ?h2, _, Or.inl rfl, ?h3⟩
          case h2 =>
            unfold l3__law_step
            simp only [hn, dl, kb_some, kb_none, km_some, kml_some, v_xD, k_xD, v_gX, k_gXd, k_gXs, v_gG, k_gG, v_gR, k_gRd, k_gRo, v_lR, k_lRo, v_gBin, k_bin1, k_bin2, v_lBin, k_lb1, k_lb2, v_gUn, k_un, u_negI, v_bT, k_bT, v_bNot, k_bNot, v_bAnd, k_andT, k_andF, v_bOr, k_orT, k_orF, v_bTru, k_tru, v_gIf, k_ifT, k_ifF, v_lIf, k_lifT, k_lifF, v_gAnd, k_gAndT, k_gAndF, v_gOr, k_gOrT, k_gOrF, v_gNot, k_gNot, v_gCh, k_ch1, k_ch2, k_ch3T, k_ch3F, k_ch4, v_dN, v_dC, k_dC, k_dC2, v_aN, v_aC, k_aC, k_aC2, v_aSw, k_sw, v_aOne, k_one, v_gTup, k_tup, v_lLst, k_lst, v_gCb, k_cb, v_lCb, k_lcb, v_oN, v_oY, k_oY, v_lSl, k_sl1, k_sl2, k_sl3, v_lRev, k_rev, v_sSeq, k_seqN, k_seqR, k_seqB, k_seqC, v_sN, v_sB, v_sC, v_sV, v_sRN, v_sSet, k_set, v_sOwn, k_own, v_sSetR, k_setRd, k_setRo, v_sAsg, k_asg, k_nx, v_sDrop, k_drop, v_sDropR, k_dropR, v_sRet, k_ret, v_sRetG, k_retG, v_sRetR, k_retR, v_sRetV, k_retVd, k_retVo, v_sIf, k_sifT, k_sifF, v_sAug, k_aug1, k_aug2, v_sPar, k_par, v_hName, v_hNil, v_hCons, v_hTup, v_hSub, k_sub1, k_sub2, k_sub3, v_sFor, k_for, v_iLst, k_iL, v_iTup, k_iT, v_iRg1, k_iR1, v_iRg2, k_iR2, v_iEn, k_iE, v_lLc, k_lc, v_rCall, k_cl1, k_cl2, k_cl3, v_gLm, k_lm1, k_lm2, k_lm3, v_run, k_runR, k_runN, v_len0, v_lenD, v_lenS, k_lenO, k_lenP, k_lenC, v_xVar, k_varD, k_varOf, k_varPf, k_varOl, k_varPl, k_varC, k_varOi, k_varPi, k_varOo, k_varPo, v_frz, k_frzO, k_frzP, v_lstAt, k_atO, k_atP, v_putAt, k_putO, k_putP, v_lstS, k_lsO, k_lsP, k_lsC, v_lstHS, v_valS, k_valO, k_valP, v_homN, v_homD, v_homS, k_homO, k_homP, k_homC, k_homU, v_p4, k_p1, k_p2, k_p3, k_p4, k_p5, v_Eqs, k_Eqs, v_Eqd, k_Eqd, v_Eqb, k_Eqb, v_Nes, k_Nes, v_Ned, k_Ned, v_Neb, k_Neb, v_ss, k_ss,
  oEq_d, oNe_d, eqD_i, eqD_s, oIx_t, oIx_l, oIx_s, oIn_t, oIn_l, oIn_s, lst_d, lstH_d, seq_l, seq_t, seq_s, val_d, toD_lst, toD_leaf, cLen_1, cAbs_1, cMax_2, cMin_2, cInt_b, cInt_i, cList_1, oI0_d, oB0_d, tru_b, tru_l, tru_s, oRep_k, strsOf_map, intsOf_map, inD_strs, inD_2, inD_3, inD_4, atI_0, atI_1, atI_2, atI_3, mApp, gC, bYes, parz, postz,
  Option.bind_some, Option.map_some, Option.getD_some, List.getElem?_cons_zero, List.getElem?_cons_succ, List.set_cons_zero, List.set_cons_succ, List.length_cons, List.length_nil, List.length_set, List.cons_append, List.nil_append, List.replicate_succ, List.replicate_zero, List.length_map, Nat.reduceAdd, Nat.zero_add, Nat.reduceLeDiff, Nat.reduceLT, Nat.reduceEqDiff, sizeLine_eq, Int.cast_ofNat_Int, Int.reduceEq, Int.reduceLT, Int.reduceLE, Int.reduceAdd, Int.reduceSub, Int.reduceMul, Int.reduceNeg, Int.reducePow, Int.reduceToNat, ↓reduceIte, if_true, if_false, decide_true, decide_false, Bool.not_true, Bool.not_false, Bool.true_and, Bool.and_true, Bool.false_and, Bool.false_eq_true, reduceCtorEq, Option.isSome_some,
  nm_head_tail, nm_head_skip, nm_head_chop, nm_head_reverse, nm_head_uniq, nm_head_sort, nmP_head, nmS_head, nm_tail_head, nm_tail_skip, nm_tail_chop, nm_tail_reverse, nm_tail_uniq, nm_tail_sort, nmP_tail, nmS_tail, nm_skip_head, nm_skip_tail, nm_skip_chop, nm_skip_reverse, nm_skip_uniq, nm_skip_sort, nmP_skip, nmS_skip, nm_chop_head, nm_chop_tail, nm_chop_skip, nm_chop_reverse, nm_chop_uniq, nm_chop_sort, nmP_chop, nmS_chop, nm_reverse_head, nm_reverse_tail, nm_reverse_skip, nm_reverse_chop, nm_reverse_uniq, nm_reverse_sort, nmP_reverse, nmS_reverse, nm_uniq_head, nm_uniq_tail, nm_uniq_skip, nm_uniq_chop, nm_uniq_reverse, nm_uniq_sort, nmP_uniq, nmS_uniq, nm_sort_head, nm_sort_tail, nm_sort_skip, nm_sort_chop, nm_sort_reverse, nm_sort_uniq, nmP_sort, nmS_sort, PR.PLAIN_d, PR.SLICING_d]
            exact rfl
          case h3 => exact ⟨_, by rw [nx, show stD (dd (xs.take i)) x = dd (xs.take i) ++ [x] from if_neg hn, List.map_append]; exact rfl⟩
  have d64 : (dd xs).length < 64 := Nat.lt_of_le_of_lt (dd_len xs) sz
  simp only [h1, List.take_length, cSorted, isort_dd, d64, kb_some, kb_none, km_some, kml_some, v_xD, k_xD, v_gX, k_gXd, k_gXs, v_gG, k_gG, v_gR, k_gRd, k_gRo, v_lR, k_lRo, v_gBin, k_bin1, k_bin2, v_lBin, k_lb1, k_lb2, v_gUn, k_un, u_negI, v_bT, k_bT, v_bNot, k_bNot, v_bAnd, k_andT, k_andF, v_bOr, k_orT, k_orF, v_bTru, k_tru, v_gIf, k_ifT, k_ifF, v_lIf, k_lifT, k_lifF, v_gAnd, k_gAndT, k_gAndF, v_gOr, k_gOrT, k_gOrF, v_gNot, k_gNot, v_gCh, k_ch1, k_ch2, k_ch3T, k_ch3F, k_ch4, v_dN, v_dC, k_dC, k_dC2, v_aN, v_aC, k_aC, k_aC2, v_aSw, k_sw, v_aOne, k_one, v_gTup, k_tup, v_lLst, k_lst, v_gCb, k_cb, v_lCb, k_lcb, v_oN, v_oY, k_oY, v_lSl, k_sl1, k_sl2, k_sl3, v_lRev, k_rev, v_sSeq, k_seqN, k_seqR, k_seqB, k_seqC, v_sN, v_sB, v_sC, v_sV, v_sRN, v_sSet, k_set, v_sOwn, k_own, v_sSetR, k_setRd, k_setRo, v_sAsg, k_asg, k_nx, v_sDrop, k_drop, v_sDropR, k_dropR, v_sRet, k_ret, v_sRetG, k_retG, v_sRetR, k_retR, v_sRetV, k_retVd, k_retVo, v_sIf, k_sifT, k_sifF, v_sAug, k_aug1, k_aug2, v_sPar, k_par, v_hName, v_hNil, v_hCons, v_hTup, v_hSub, k_sub1, k_sub2, k_sub3, v_sFor, k_for, v_iLst, k_iL, v_iTup, k_iT, v_iRg1, k_iR1, v_iRg2, k_iR2, v_iEn, k_iE, v_lLc, k_lc, v_rCall, k_cl1, k_cl2, k_cl3, v_gLm, k_lm1, k_lm2, k_lm3, v_run, k_runR, k_runN, v_len0, v_lenD, v_lenS, k_lenO, k_lenP, k_lenC, v_xVar, k_varD, k_varOf, k_varPf, k_varOl, k_varPl, k_varC, k_varOi, k_varPi, k_varOo, k_varPo, v_frz, k_frzO, k_frzP, v_lstAt, k_atO, k_atP, v_putAt, k_putO, k_putP, v_lstS, k_lsO, k_lsP, k_lsC, v_lstHS, v_valS, k_valO, k_valP, v_homN, v_homD, v_homS, k_homO, k_homP, k_homC, k_homU, v_p4, k_p1, k_p2, k_p3, k_p4, k_p5, v_Eqs, k_Eqs, v_Eqd, k_Eqd, v_Eqb, k_Eqb, v_Nes, k_Nes, v_Ned, k_Ned, v_Neb, k_Neb, v_ss, k_ss,
  oEq_d, oNe_d, eqD_i, eqD_s, oIx_t, oIx_l, oIx_s, oIn_t, oIn_l, oIn_s, lst_d, lstH_d, seq_l, seq_t, seq_s, val_d, toD_lst, toD_leaf, cLen_1, cAbs_1, cMax_2, cMin_2, cInt_b, cInt_i, cList_1, oI0_d, oB0_d, tru_b, tru_l, tru_s, oRep_k, strsOf_map, intsOf_map, inD_strs, inD_2, inD_3, inD_4, atI_0, atI_1, atI_2, atI_3, mApp, gC, bYes, parz, postz,
  Option.bind_some, Option.map_some, Option.getD_some, List.getElem?_cons_zero, List.getElem?_cons_succ, List.set_cons_zero, List.set_cons_succ, List.length_cons, List.length_nil, List.length_set, List.cons_append, List.nil_append, List.replicate_succ, List.replicate_zero, List.length_map, Nat.reduceAdd, Nat.zero_add, Nat.reduceLeDiff, Nat.reduceLT, Nat.reduceEqDiff, sizeLine_eq, Int.cast_ofNat_Int, Int.reduceEq, Int.reduceLT, Int.reduceLE, Int.reduceAdd, Int.reduceSub, Int.reduceMul, Int.reduceNeg, Int.reducePow, Int.reduceToNat, ↓reduceIte, if_true, if_false, decide_true, decide_false, Bool.not_true, Bool.not_false, Bool.true_and, Bool.and_true, Bool.false_and, Bool.false_eq_true, reduceCtorEq, Option.isSome_some,
  nm_head_tail, nm_head_skip, nm_head_chop, nm_head_reverse, nm_head_uniq, nm_head_sort, nmP_head, nmS_head, nm_tail_head, nm_tail_skip, nm_tail_chop, nm_tail_reverse, nm_tail_uniq, nm_tail_sort, nmP_tail, nmS_tail, nm_skip_head, nm_skip_tail, nm_skip_chop, nm_skip_reverse, nm_skip_uniq, nm_skip_sort, nmP_skip, nmS_skip, nm_chop_head, nm_chop_tail, nm_chop_skip, nm_chop_reverse, nm_chop_uniq, nm_chop_sort, nmP_chop, nmS_chop, nm_reverse_head, nm_reverse_tail, nm_reverse_skip, nm_reverse_chop, nm_reverse_uniq, nm_reverse_sort, nmP_reverse, nmS_reverse, nm_uniq_head, nm_uniq_tail, nm_uniq_skip, nm_uniq_chop, nm_uniq_reverse, nm_uniq_sort, nmP_uniq, nmS_uniq, nm_sort_head, nm_sort_tail, nm_sort_skip, nm_sort_chop, nm_sort_reverse, nm_sort_uniq, nmP_sort, nmS_sort, PR.PLAIN_d, PR.SLICING_d]
  rfl
theorem step_head (n : Int) (ok : Cm.ok (Cm.head n)) {xs : List MM.S} (sz : xs.length < 64) : F__law_step [.dat ((Cm.head n)).d, .dat (.list (xs.map .str))] = some (.own (.lst ((((Cm.head n)).app xs).map .str)), [.un, .un]) := by
  have b2 : -4611686018427387904 ≤ (xs.length : Int) ∧ (xs.length : Int) < 4611686018427387904 := ⟨by omega, by omega⟩
  have sz2 : xs.length < 16777216 := by omega
  have tn : ((xs.length : Nat) : Int).toNat = xs.length := rfl
  have W := fun c nm num lo hi a b => step_win sz2 (c := c) (nm := nm) (num := num) (lo := lo) (hi := hi) (a := a) (b := b)
  unfold F__law_step g__law_step
  dsimp only [Cm.d]
  simp only [b2, and_self, tn, pick4, W, kb_some, kb_none, km_some, kml_some, v_xD, k_xD, v_gX, k_gXd, k_gXs, v_gG, k_gG, v_gR, k_gRd, k_gRo, v_lR, k_lRo, v_gBin, k_bin1, k_bin2, v_lBin, k_lb1, k_lb2, v_gUn, k_un, u_negI, v_bT, k_bT, v_bNot, k_bNot, v_bAnd, k_andT, k_andF, v_bOr, k_orT, k_orF, v_bTru, k_tru, v_gIf, k_ifT, k_ifF, v_lIf, k_lifT, k_lifF, v_gAnd, k_gAndT, k_gAndF, v_gOr, k_gOrT, k_gOrF, v_gNot, k_gNot, v_gCh, k_ch1, k_ch2, k_ch3T, k_ch3F, k_ch4, v_dN, v_dC, k_dC, k_dC2, v_aN, v_aC, k_aC, k_aC2, v_aSw, k_sw, v_aOne, k_one, v_gTup, k_tup, v_lLst, k_lst, v_gCb, k_cb, v_lCb, k_lcb, v_oN, v_oY, k_oY, v_lSl, k_sl1, k_sl2, k_sl3, v_lRev, k_rev, v_sSeq, k_seqN, k_seqR, k_seqB, k_seqC, v_sN, v_sB, v_sC, v_sV, v_sRN, v_sSet, k_set, v_sOwn, k_own, v_sSetR, k_setRd, k_setRo, v_sAsg, k_asg, k_nx, v_sDrop, k_drop, v_sDropR, k_dropR, v_sRet, k_ret, v_sRetG, k_retG, v_sRetR, k_retR, v_sRetV, k_retVd, k_retVo, v_sIf, k_sifT, k_sifF, v_sAug, k_aug1, k_aug2, v_sPar, k_par, v_hName, v_hNil, v_hCons, v_hTup, v_hSub, k_sub1, k_sub2, k_sub3, v_sFor, k_for, v_iLst, k_iL, v_iTup, k_iT, v_iRg1, k_iR1, v_iRg2, k_iR2, v_iEn, k_iE, v_lLc, k_lc, v_rCall, k_cl1, k_cl2, k_cl3, v_gLm, k_lm1, k_lm2, k_lm3, v_run, k_runR, k_runN, v_len0, v_lenD, v_lenS, k_lenO, k_lenP, k_lenC, v_xVar, k_varD, k_varOf, k_varPf, k_varOl, k_varPl, k_varC, k_varOi, k_varPi, k_varOo, k_varPo, v_frz, k_frzO, k_frzP, v_lstAt, k_atO, k_atP, v_putAt, k_putO, k_putP, v_lstS, k_lsO, k_lsP, k_lsC, v_lstHS, v_valS, k_valO, k_valP, v_homN, v_homD, v_homS, k_homO, k_homP, k_homC, k_homU, v_p4, k_p1, k_p2, k_p3, k_p4, k_p5, v_Eqs, k_Eqs, v_Eqd, k_Eqd, v_Eqb, k_Eqb, v_Nes, k_Nes, v_Ned, k_Ned, v_Neb, k_Neb, v_ss, k_ss,
  oEq_d, oNe_d, eqD_i, eqD_s, oIx_t, oIx_l, oIx_s, oIn_t, oIn_l, oIn_s, lst_d, lstH_d, seq_l, seq_t, seq_s, val_d, toD_lst, toD_leaf, cLen_1, cAbs_1, cMax_2, cMin_2, cInt_b, cInt_i, cList_1, oI0_d, oB0_d, tru_b, tru_l, tru_s, oRep_k, strsOf_map, intsOf_map, inD_strs, inD_2, inD_3, inD_4, atI_0, atI_1, atI_2, atI_3, mApp, gC, bYes, parz, postz,
  Option.bind_some, Option.map_some, Option.getD_some, List.getElem?_cons_zero, List.getElem?_cons_succ, List.set_cons_zero, List.set_cons_succ, List.length_cons, List.length_nil, List.length_set, List.cons_append, List.nil_append, List.replicate_succ, List.replicate_zero, List.length_map, Nat.reduceAdd, Nat.zero_add, Nat.reduceLeDiff, Nat.reduceLT, Nat.reduceEqDiff, sizeLine_eq, Int.cast_ofNat_Int, Int.reduceEq, Int.reduceLT, Int.reduceLE, Int.reduceAdd, Int.reduceSub, Int.reduceMul, Int.reduceNeg, Int.reducePow, Int.reduceToNat, ↓reduceIte, if_true, if_false, decide_true, decide_false, Bool.not_true, Bool.not_false, Bool.true_and, Bool.and_true, Bool.false_and, Bool.false_eq_true, reduceCtorEq, Option.isSome_some,
  nm_head_tail, nm_head_skip, nm_head_chop, nm_head_reverse, nm_head_uniq, nm_head_sort, nmP_head, nmS_head, nm_tail_head, nm_tail_skip, nm_tail_chop, nm_tail_reverse, nm_tail_uniq, nm_tail_sort, nmP_tail, nmS_tail, nm_skip_head, nm_skip_tail, nm_skip_chop, nm_skip_reverse, nm_skip_uniq, nm_skip_sort, nmP_skip, nmS_skip, nm_chop_head, nm_chop_tail, nm_chop_skip, nm_chop_reverse, nm_chop_uniq, nm_chop_sort, nmP_chop, nmS_chop, nm_reverse_head, nm_reverse_tail, nm_reverse_skip, nm_reverse_chop, nm_reverse_uniq, nm_reverse_sort, nmP_reverse, nmS_reverse, nm_uniq_head, nm_uniq_tail, nm_uniq_skip, nm_uniq_chop, nm_uniq_reverse, nm_uniq_sort, nmP_uniq, nmS_uniq, nm_sort_head, nm_sort_tail, nm_sort_skip, nm_sort_chop, nm_sort_reverse, nm_sort_uniq, nmP_sort, nmS_sort, PR.PLAIN_d, PR.SLICING_d]
  rw [cut_head]
theorem step_tail (n : Int) (ok : Cm.ok (Cm.tail n)) {xs : List MM.S} (sz : xs.length < 64) : F__law_step [.dat ((Cm.tail n)).d, .dat (.list (xs.map .str))] = some (.own (.lst ((((Cm.tail n)).app xs).map .str)), [.un, .un]) := by
  have b2 : -4611686018427387904 ≤ (xs.length : Int) ∧ (xs.length : Int) < 4611686018427387904 := ⟨by omega, by omega⟩
  have sz2 : xs.length < 16777216 := by omega
  have tn : ((xs.length : Nat) : Int).toNat = xs.length := rfl
  have W := fun c nm num lo hi a b => step_win sz2 (c := c) (nm := nm) (num := num) (lo := lo) (hi := hi) (a := a) (b := b)
  unfold F__law_step g__law_step
  have ok : 0 ≤ n := ok
  dsimp only [Cm.d]
  simp only [b2, and_self, tn, pick4, W, kb_some, kb_none, km_some, kml_some, v_xD, k_xD, v_gX, k_gXd, k_gXs, v_gG, k_gG, v_gR, k_gRd, k_gRo, v_lR, k_lRo, v_gBin, k_bin1, k_bin2, v_lBin, k_lb1, k_lb2, v_gUn, k_un, u_negI, v_bT, k_bT, v_bNot, k_bNot, v_bAnd, k_andT, k_andF, v_bOr, k_orT, k_orF, v_bTru, k_tru, v_gIf, k_ifT, k_ifF, v_lIf, k_lifT, k_lifF, v_gAnd, k_gAndT, k_gAndF, v_gOr, k_gOrT, k_gOrF, v_gNot, k_gNot, v_gCh, k_ch1, k_ch2, k_ch3T, k_ch3F, k_ch4, v_dN, v_dC, k_dC, k_dC2, v_aN, v_aC, k_aC, k_aC2, v_aSw, k_sw, v_aOne, k_one, v_gTup, k_tup, v_lLst, k_lst, v_gCb, k_cb, v_lCb, k_lcb, v_oN, v_oY, k_oY, v_lSl, k_sl1, k_sl2, k_sl3, v_lRev, k_rev, v_sSeq, k_seqN, k_seqR, k_seqB, k_seqC, v_sN, v_sB, v_sC, v_sV, v_sRN, v_sSet, k_set, v_sOwn, k_own, v_sSetR, k_setRd, k_setRo, v_sAsg, k_asg, k_nx, v_sDrop, k_drop, v_sDropR, k_dropR, v_sRet, k_ret, v_sRetG, k_retG, v_sRetR, k_retR, v_sRetV, k_retVd, k_retVo, v_sIf, k_sifT, k_sifF, v_sAug, k_aug1, k_aug2, v_sPar, k_par, v_hName, v_hNil, v_hCons, v_hTup, v_hSub, k_sub1, k_sub2, k_sub3, v_sFor, k_for, v_iLst, k_iL, v_iTup, k_iT, v_iRg1, k_iR1, v_iRg2, k_iR2, v_iEn, k_iE, v_lLc, k_lc, v_rCall, k_cl1, k_cl2, k_cl3, v_gLm, k_lm1, k_lm2, k_lm3, v_run, k_runR, k_runN, v_len0, v_lenD, v_lenS, k_lenO, k_lenP, k_lenC, v_xVar, k_varD, k_varOf, k_varPf, k_varOl, k_varPl, k_varC, k_varOi, k_varPi, k_varOo, k_varPo, v_frz, k_frzO, k_frzP, v_lstAt, k_atO, k_atP, v_putAt, k_putO, k_putP, v_lstS, k_lsO, k_lsP, k_lsC, v_lstHS, v_valS, k_valO, k_valP, v_homN, v_homD, v_homS, k_homO, k_homP, k_homC, k_homU, v_p4, k_p1, k_p2, k_p3, k_p4, k_p5, v_Eqs, k_Eqs, v_Eqd, k_Eqd, v_Eqb, k_Eqb, v_Nes, k_Nes, v_Ned, k_Ned, v_Neb, k_Neb, v_ss, k_ss,
  oEq_d, oNe_d, eqD_i, eqD_s, oIx_t, oIx_l, oIx_s, oIn_t, oIn_l, oIn_s, lst_d, lstH_d, seq_l, seq_t, seq_s, val_d, toD_lst, toD_leaf, cLen_1, cAbs_1, cMax_2, cMin_2, cInt_b, cInt_i, cList_1, oI0_d, oB0_d, tru_b, tru_l, tru_s, oRep_k, strsOf_map, intsOf_map, inD_strs, inD_2, inD_3, inD_4, atI_0, atI_1, atI_2, atI_3, mApp, gC, bYes, parz, postz,
  Option.bind_some, Option.map_some, Option.getD_some, List.getElem?_cons_zero, List.getElem?_cons_succ, List.set_cons_zero, List.set_cons_succ, List.length_cons, List.length_nil, List.length_set, List.cons_append, List.nil_append, List.replicate_succ, List.replicate_zero, List.length_map, Nat.reduceAdd, Nat.zero_add, Nat.reduceLeDiff, Nat.reduceLT, Nat.reduceEqDiff, sizeLine_eq, Int.cast_ofNat_Int, Int.reduceEq, Int.reduceLT, Int.reduceLE, Int.reduceAdd, Int.reduceSub, Int.reduceMul, Int.reduceNeg, Int.reducePow, Int.reduceToNat, ↓reduceIte, if_true, if_false, decide_true, decide_false, Bool.not_true, Bool.not_false, Bool.true_and, Bool.and_true, Bool.false_and, Bool.false_eq_true, reduceCtorEq, Option.isSome_some,
  nm_head_tail, nm_head_skip, nm_head_chop, nm_head_reverse, nm_head_uniq, nm_head_sort, nmP_head, nmS_head, nm_tail_head, nm_tail_skip, nm_tail_chop, nm_tail_reverse, nm_tail_uniq, nm_tail_sort, nmP_tail, nmS_tail, nm_skip_head, nm_skip_tail, nm_skip_chop, nm_skip_reverse, nm_skip_uniq, nm_skip_sort, nmP_skip, nmS_skip, nm_chop_head, nm_chop_tail, nm_chop_skip, nm_chop_reverse, nm_chop_uniq, nm_chop_sort, nmP_chop, nmS_chop, nm_reverse_head, nm_reverse_tail, nm_reverse_skip, nm_reverse_chop, nm_reverse_uniq, nm_reverse_sort, nmP_reverse, nmS_reverse, nm_uniq_head, nm_uniq_tail, nm_uniq_skip, nm_uniq_chop, nm_uniq_reverse, nm_uniq_sort, nmP_uniq, nmS_uniq, nm_sort_head, nm_sort_tail, nm_sort_skip, nm_sort_chop, nm_sort_reverse, nm_sort_uniq, nmP_sort, nmS_sort, PR.PLAIN_d, PR.SLICING_d]
  rw [cut_tail ok]
theorem step_skip (n : Int) (ok : Cm.ok (Cm.skip n)) {xs : List MM.S} (sz : xs.length < 64) : F__law_step [.dat ((Cm.skip n)).d, .dat (.list (xs.map .str))] = some (.own (.lst ((((Cm.skip n)).app xs).map .str)), [.un, .un]) := by
  have b2 : -4611686018427387904 ≤ (xs.length : Int) ∧ (xs.length : Int) < 4611686018427387904 := ⟨by omega, by omega⟩
  have sz2 : xs.length < 16777216 := by omega
  have tn : ((xs.length : Nat) : Int).toNat = xs.length := rfl
  have W := fun c nm num lo hi a b => step_win sz2 (c := c) (nm := nm) (num := num) (lo := lo) (hi := hi) (a := a) (b := b)
  unfold F__law_step g__law_step
  dsimp only [Cm.d]
  simp only [b2, and_self, tn, pick4, W, kb_some, kb_none, km_some, kml_some, v_xD, k_xD, v_gX, k_gXd, k_gXs, v_gG, k_gG, v_gR, k_gRd, k_gRo, v_lR, k_lRo, v_gBin, k_bin1, k_bin2, v_lBin, k_lb1, k_lb2, v_gUn, k_un, u_negI, v_bT, k_bT, v_bNot, k_bNot, v_bAnd, k_andT, k_andF, v_bOr, k_orT, k_orF, v_bTru, k_tru, v_gIf, k_ifT, k_ifF, v_lIf, k_lifT, k_lifF, v_gAnd, k_gAndT, k_gAndF, v_gOr, k_gOrT, k_gOrF, v_gNot, k_gNot, v_gCh, k_ch1, k_ch2, k_ch3T, k_ch3F, k_ch4, v_dN, v_dC, k_dC, k_dC2, v_aN, v_aC, k_aC, k_aC2, v_aSw, k_sw, v_aOne, k_one, v_gTup, k_tup, v_lLst, k_lst, v_gCb, k_cb, v_lCb, k_lcb, v_oN, v_oY, k_oY, v_lSl, k_sl1, k_sl2, k_sl3, v_lRev, k_rev, v_sSeq, k_seqN, k_seqR, k_seqB, k_seqC, v_sN, v_sB, v_sC, v_sV, v_sRN, v_sSet, k_set, v_sOwn, k_own, v_sSetR, k_setRd, k_setRo, v_sAsg, k_asg, k_nx, v_sDrop, k_drop, v_sDropR, k_dropR, v_sRet, k_ret, v_sRetG, k_retG, v_sRetR, k_retR, v_sRetV, k_retVd, k_retVo, v_sIf, k_sifT, k_sifF, v_sAug, k_aug1, k_aug2, v_sPar, k_par, v_hName, v_hNil, v_hCons, v_hTup, v_hSub, k_sub1, k_sub2, k_sub3, v_sFor, k_for, v_iLst, k_iL, v_iTup, k_iT, v_iRg1, k_iR1, v_iRg2, k_iR2, v_iEn, k_iE, v_lLc, k_lc, v_rCall, k_cl1, k_cl2, k_cl3, v_gLm, k_lm1, k_lm2, k_lm3, v_run, k_runR, k_runN, v_len0, v_lenD, v_lenS, k_lenO, k_lenP, k_lenC, v_xVar, k_varD, k_varOf, k_varPf, k_varOl, k_varPl, k_varC, k_varOi, k_varPi, k_varOo, k_varPo, v_frz, k_frzO, k_frzP, v_lstAt, k_atO, k_atP, v_putAt, k_putO, k_putP, v_lstS, k_lsO, k_lsP, k_lsC, v_lstHS, v_valS, k_valO, k_valP, v_homN, v_homD, v_homS, k_homO, k_homP, k_homC, k_homU, v_p4, k_p1, k_p2, k_p3, k_p4, k_p5, v_Eqs, k_Eqs, v_Eqd, k_Eqd, v_Eqb, k_Eqb, v_Nes, k_Nes, v_Ned, k_Ned, v_Neb, k_Neb, v_ss, k_ss,
  oEq_d, oNe_d, eqD_i, eqD_s, oIx_t, oIx_l, oIx_s, oIn_t, oIn_l, oIn_s, lst_d, lstH_d, seq_l, seq_t, seq_s, val_d, toD_lst, toD_leaf, cLen_1, cAbs_1, cMax_2, cMin_2, cInt_b, cInt_i, cList_1, oI0_d, oB0_d, tru_b, tru_l, tru_s, oRep_k, strsOf_map, intsOf_map, inD_strs, inD_2, inD_3, inD_4, atI_0, atI_1, atI_2, atI_3, mApp, gC, bYes, parz, postz,
  Option.bind_some, Option.map_some, Option.getD_some, List.getElem?_cons_zero, List.getElem?_cons_succ, List.set_cons_zero, List.set_cons_succ, List.length_cons, List.length_nil, List.length_set, List.cons_append, List.nil_append, List.replicate_succ, List.replicate_zero, List.length_map, Nat.reduceAdd, Nat.zero_add, Nat.reduceLeDiff, Nat.reduceLT, Nat.reduceEqDiff, sizeLine_eq, Int.cast_ofNat_Int, Int.reduceEq, Int.reduceLT, Int.reduceLE, Int.reduceAdd, Int.reduceSub, Int.reduceMul, Int.reduceNeg, Int.reducePow, Int.reduceToNat, ↓reduceIte, if_true, if_false, decide_true, decide_false, Bool.not_true, Bool.not_false, Bool.true_and, Bool.and_true, Bool.false_and, Bool.false_eq_true, reduceCtorEq, Option.isSome_some,
  nm_head_tail, nm_head_skip, nm_head_chop, nm_head_reverse, nm_head_uniq, nm_head_sort, nmP_head, nmS_head, nm_tail_head, nm_tail_skip, nm_tail_chop, nm_tail_reverse, nm_tail_uniq, nm_tail_sort, nmP_tail, nmS_tail, nm_skip_head, nm_skip_tail, nm_skip_chop, nm_skip_reverse, nm_skip_uniq, nm_skip_sort, nmP_skip, nmS_skip, nm_chop_head, nm_chop_tail, nm_chop_skip, nm_chop_reverse, nm_chop_uniq, nm_chop_sort, nmP_chop, nmS_chop, nm_reverse_head, nm_reverse_tail, nm_reverse_skip, nm_reverse_chop, nm_reverse_uniq, nm_reverse_sort, nmP_reverse, nmS_reverse, nm_uniq_head, nm_uniq_tail, nm_uniq_skip, nm_uniq_chop, nm_uniq_reverse, nm_uniq_sort, nmP_uniq, nmS_uniq, nm_sort_head, nm_sort_tail, nm_sort_skip, nm_sort_chop, nm_sort_reverse, nm_sort_uniq, nmP_sort, nmS_sort, PR.PLAIN_d, PR.SLICING_d]
  rw [cut_skip]
theorem step_chop (n : Int) (ok : Cm.ok (Cm.chop n)) {xs : List MM.S} (sz : xs.length < 64) : F__law_step [.dat ((Cm.chop n)).d, .dat (.list (xs.map .str))] = some (.own (.lst ((((Cm.chop n)).app xs).map .str)), [.un, .un]) := by
  have b2 : -4611686018427387904 ≤ (xs.length : Int) ∧ (xs.length : Int) < 4611686018427387904 := ⟨by omega, by omega⟩
  have sz2 : xs.length < 16777216 := by omega
  have tn : ((xs.length : Nat) : Int).toNat = xs.length := rfl
  have W := fun c nm num lo hi a b => step_win sz2 (c := c) (nm := nm) (num := num) (lo := lo) (hi := hi) (a := a) (b := b)
  unfold F__law_step g__law_step
  have ok : 0 ≤ n := ok
  dsimp only [Cm.d]
  simp only [b2, and_self, tn, pick4, W, kb_some, kb_none, km_some, kml_some, v_xD, k_xD, v_gX, k_gXd, k_gXs, v_gG, k_gG, v_gR, k_gRd, k_gRo, v_lR, k_lRo, v_gBin, k_bin1, k_bin2, v_lBin, k_lb1, k_lb2, v_gUn, k_un, u_negI, v_bT, k_bT, v_bNot, k_bNot, v_bAnd, k_andT, k_andF, v_bOr, k_orT, k_orF, v_bTru, k_tru, v_gIf, k_ifT, k_ifF, v_lIf, k_lifT, k_lifF, v_gAnd, k_gAndT, k_gAndF, v_gOr, k_gOrT, k_gOrF, v_gNot, k_gNot, v_gCh, k_ch1, k_ch2, k_ch3T, k_ch3F, k_ch4, v_dN, v_dC, k_dC, k_dC2, v_aN, v_aC, k_aC, k_aC2, v_aSw, k_sw, v_aOne, k_one, v_gTup, k_tup, v_lLst, k_lst, v_gCb, k_cb, v_lCb, k_lcb, v_oN, v_oY, k_oY, v_lSl, k_sl1, k_sl2, k_sl3, v_lRev, k_rev, v_sSeq, k_seqN, k_seqR, k_seqB, k_seqC, v_sN, v_sB, v_sC, v_sV, v_sRN, v_sSet, k_set, v_sOwn, k_own, v_sSetR, k_setRd, k_setRo, v_sAsg, k_asg, k_nx, v_sDrop, k_drop, v_sDropR, k_dropR, v_sRet, k_ret, v_sRetG, k_retG, v_sRetR, k_retR, v_sRetV, k_retVd, k_retVo, v_sIf, k_sifT, k_sifF, v_sAug, k_aug1, k_aug2, v_sPar, k_par, v_hName, v_hNil, v_hCons, v_hTup, v_hSub, k_sub1, k_sub2, k_sub3, v_sFor, k_for, v_iLst, k_iL, v_iTup, k_iT, v_iRg1, k_iR1, v_iRg2, k_iR2, v_iEn, k_iE, v_lLc, k_lc, v_rCall, k_cl1, k_cl2, k_cl3, v_gLm, k_lm1, k_lm2, k_lm3, v_run, k_runR, k_runN, v_len0, v_lenD, v_lenS, k_lenO, k_lenP, k_lenC, v_xVar, k_varD, k_varOf, k_varPf, k_varOl, k_varPl, k_varC, k_varOi, k_varPi, k_varOo, k_varPo, v_frz, k_frzO, k_frzP, v_lstAt, k_atO, k_atP, v_putAt, k_putO, k_putP, v_lstS, k_lsO, k_lsP, k_lsC, v_lstHS, v_valS, k_valO, k_valP, v_homN, v_homD, v_homS, k_homO, k_homP, k_homC, k_homU, v_p4, k_p1, k_p2, k_p3, k_p4, k_p5, v_Eqs, k_Eqs, v_Eqd, k_Eqd, v_Eqb, k_Eqb, v_Nes, k_Nes, v_Ned, k_Ned, v_Neb, k_Neb, v_ss, k_ss,
  oEq_d, oNe_d, eqD_i, eqD_s, oIx_t, oIx_l, oIx_s, oIn_t, oIn_l, oIn_s, lst_d, lstH_d, seq_l, seq_t, seq_s, val_d, toD_lst, toD_leaf, cLen_1, cAbs_1, cMax_2, cMin_2, cInt_b, cInt_i, cList_1, oI0_d, oB0_d, tru_b, tru_l, tru_s, oRep_k, strsOf_map, intsOf_map, inD_strs, inD_2, inD_3, inD_4, atI_0, atI_1, atI_2, atI_3, mApp, gC, bYes, parz, postz,
  Option.bind_some, Option.map_some, Option.getD_some, List.getElem?_cons_zero, List.getElem?_cons_succ, List.set_cons_zero, List.set_cons_succ, List.length_cons, List.length_nil, List.length_set, List.cons_append, List.nil_append, List.replicate_succ, List.replicate_zero, List.length_map, Nat.reduceAdd, Nat.zero_add, Nat.reduceLeDiff, Nat.reduceLT, Nat.reduceEqDiff, sizeLine_eq, Int.cast_ofNat_Int, Int.reduceEq, Int.reduceLT, Int.reduceLE, Int.reduceAdd, Int.reduceSub, Int.reduceMul, Int.reduceNeg, Int.reducePow, Int.reduceToNat, ↓reduceIte, if_true, if_false, decide_true, decide_false, Bool.not_true, Bool.not_false, Bool.true_and, Bool.and_true, Bool.false_and, Bool.false_eq_true, reduceCtorEq, Option.isSome_some,
  nm_head_tail, nm_head_skip, nm_head_chop, nm_head_reverse, nm_head_uniq, nm_head_sort, nmP_head, nmS_head, nm_tail_head, nm_tail_skip, nm_tail_chop, nm_tail_reverse, nm_tail_uniq, nm_tail_sort, nmP_tail, nmS_tail, nm_skip_head, nm_skip_tail, nm_skip_chop, nm_skip_reverse, nm_skip_uniq, nm_skip_sort, nmP_skip, nmS_skip, nm_chop_head, nm_chop_tail, nm_chop_skip, nm_chop_reverse, nm_chop_uniq, nm_chop_sort, nmP_chop, nmS_chop, nm_reverse_head, nm_reverse_tail, nm_reverse_skip, nm_reverse_chop, nm_reverse_uniq, nm_reverse_sort, nmP_reverse, nmS_reverse, nm_uniq_head, nm_uniq_tail, nm_uniq_skip, nm_uniq_chop, nm_uniq_reverse, nm_uniq_sort, nmP_uniq, nmS_uniq, nm_sort_head, nm_sort_tail, nm_sort_skip, nm_sort_chop, nm_sort_reverse, nm_sort_uniq, nmP_sort, nmS_sort, PR.PLAIN_d, PR.SLICING_d]
  rw [cut_chop ok]
theorem step_ok {c : Cm} (ok : c.ok) {xs : List MM.S} (sz : xs.length < 64) : F__law_step [.dat c.d, .dat (.list (xs.map .str))] = some (.own (.lst ((c.app xs).map .str)), [.un, .un]) := by
  cases c with
  | rev => exact step_rev sz
  | uniq => exact step_uniq sz
  | sort => exact step_sort sz
  | head n => exact step_head n ok sz
  | tail n => exact step_tail n ok sz
  | skip n => exact step_skip n ok sz
  | chop n => exact step_chop n ok sz
theorem result_ok {cs : List Cm} (ok : ∀ c ∈ cs, c.ok) {xs : List MM.S} (sz : xs.length < 64) : ∃ r : Rx, F__law_result [.dat (.list (cs.map Cm.d)), .dat (.list (xs.map .str))] = some (r, [.un, .un]) ∧ (r = .own (.lst ((runP cs xs).map .str)) ∨ r = .dat (.list ((runP cs xs).map .str))) := by
  obtain ⟨e', h1, a, y, rfl, hy⟩ := forL_by (h := hName 2) (g := l0__law_result) (ds := cs.map Cm.d) (e := [.dat (.list (cs.map Cm.d)), .dat (.list (xs.map .str)), .un])
    (fun i e => ∃ a y, e = [.dat (.list (cs.map Cm.d)), y, a] ∧ (y = .dat (.list ((runP (cs.take i) xs).map .str)) ∨ y = .own (.lst ((runP (cs.take i) xs).map .str)))) ⟨_, _, rfl, .inl rfl⟩ fun i d e hd ⟨a, y, he, hy⟩ => by
      subst he
      rw [List.getElem?_map] at hd
      cases hc : cs[i]? with
      | none => rw [hc] at hd; cases hd
      | some c =>
        rw [hc] at hd
        cases hd
        have ht : cs.take (i + 1) = cs.take i ++ [c] := by rw [List.take_add_one, hc]; rfl
        have hl : (runP (cs.take i) xs).length < 64 := Nat.lt_of_le_of_lt (run_len _ _) sz
        have st := step_ok (ok c (List.mem_of_getElem? hc)) hl
        rcases hy with rfl | rfl
        · refine' ⟨_, rfl, _, ?h2, _, Or.inl rfl, ?h3⟩
          case h2 =>
            unfold l0__law_result
            simp only [st, kb_some, kb_none, km_some, kml_some, v_xD, k_xD, v_gX, k_gXd, k_gXs, v_gG, k_gG, v_gR, k_gRd, k_gRo, v_lR, k_lRo, v_gBin, k_bin1, k_bin2, v_lBin, k_lb1, k_lb2, v_gUn, k_un, u_negI, v_bT, k_bT, v_bNot, k_bNot, v_bAnd, k_andT, k_andF, v_bOr, k_orT, k_orF, v_bTru, k_tru, v_gIf, k_ifT, k_ifF, v_lIf, k_lifT, k_lifF, v_gAnd, k_gAndT, k_gAndF, v_gOr, k_gOrT, k_gOrF, v_gNot, k_gNot, v_gCh, k_ch1, k_ch2, k_ch3T, k_ch3F, k_ch4, v_dN, v_dC, k_dC, k_dC2, v_aN, v_aC, k_aC, k_aC2, v_aSw, k_sw, v_aOne, k_one, v_gTup, k_tup, v_lLst, k_lst, v_gCb, k_cb, v_lCb, k_lcb, v_oN, v_oY, k_oY, v_lSl, k_sl1, k_sl2, k_sl3, v_lRev, k_rev, v_sSeq, k_seqN, k_seqR, k_seqB, k_seqC, v_sN, v_sB, v_sC, v_sV, v_sRN, v_sSet, k_set, v_sOwn, k_own, v_sSetR, k_setRd, k_setRo, v_sAsg, k_asg, k_nx, v_sDrop, k_drop, v_sDropR, k_dropR, v_sRet, k_ret, v_sRetG, k_retG, v_sRetR, k_retR, v_sRetV, k_retVd, k_retVo, v_sIf, k_sifT, k_sifF, v_sAug, k_aug1, k_aug2, v_sPar, k_par, v_hName, v_hNil, v_hCons, v_hTup, v_hSub, k_sub1, k_sub2, k_sub3, v_sFor, k_for, v_iLst, k_iL, v_iTup, k_iT, v_iRg1, k_iR1, v_iRg2, k_iR2, v_iEn, k_iE, v_lLc, k_lc, v_rCall, k_cl1, k_cl2, k_cl3, v_gLm, k_lm1, k_lm2, k_lm3, v_run, k_runR, k_runN, v_len0, v_lenD, v_lenS, k_lenO, k_lenP, k_lenC, v_xVar, k_varD, k_varOf, k_varPf, k_varOl, k_varPl, k_varC, k_varOi, k_varPi, k_varOo, k_varPo, v_frz, k_frzO, k_frzP, v_lstAt, k_atO, k_atP, v_putAt, k_putO, k_putP, v_lstS, k_lsO, k_lsP, k_lsC, v_lstHS, v_valS, k_valO, k_valP, v_homN, v_homD, v_homS, k_homO, k_homP, k_homC, k_homU, v_p4, k_p1, k_p2, k_p3, k_p4, k_p5, v_Eqs, k_Eqs, v_Eqd, k_Eqd, v_Eqb, k_Eqb, v_Nes, k_Nes, v_Ned, k_Ned, v_Neb, k_Neb, v_ss, k_ss,
  oEq_d, oNe_d, eqD_i, eqD_s, oIx_t, oIx_l, oIx_s, oIn_t, oIn_l, oIn_s, lst_d, lstH_d, seq_l, seq_t, seq_s, val_d, toD_lst, toD_leaf, cLen_1, cAbs_1, cMax_2, cMin_2, cInt_b, cInt_i, cList_1, oI0_d, oB0_d, tru_b, tru_l, tru_s, oRep_k, strsOf_map, intsOf_map, inD_strs, inD_2, inD_3, inD_4, atI_0, atI_1, atI_2, atI_3, mApp, gC, bYes, parz, postz,
  Option.bind_some, Option.map_some, Option.getD_some, List.getElem?_cons_zero, List.getElem?_cons_succ, List.set_cons_zero, List.set_cons_succ, List.length_cons, List.length_nil, List.length_set, List.cons_append, List.nil_append, List.replicate_succ, List.replicate_zero, List.length_map, Nat.reduceAdd, Nat.zero_add, Nat.reduceLeDiff, Nat.reduceLT, Nat.reduceEqDiff, sizeLine_eq, Int.cast_ofNat_Int, Int.reduceEq, Int.reduceLT, Int.reduceLE, Int.reduceAdd, Int.reduceSub, Int.reduceMul, Int.reduceNeg, Int.reducePow, Int.reduceToNat, ↓reduceIte, if_true, if_false, decide_true, decide_false, Bool.not_true, Bool.not_false, Bool.true_and, Bool.and_true, Bool.false_and, Bool.false_eq_true, reduceCtorEq, Option.isSome_some,
  nm_head_tail, nm_head_skip, nm_head_chop, nm_head_reverse, nm_head_uniq, nm_head_sort, nmP_head, nmS_head, nm_tail_head, nm_tail_skip, nm_tail_chop, nm_tail_reverse, nm_tail_uniq, nm_tail_sort, nmP_tail, nmS_tail, nm_skip_head, nm_skip_tail, nm_skip_chop, nm_skip_reverse, nm_skip_uniq, nm_skip_sort, nmP_skip, nmS_skip, nm_chop_head, nm_chop_tail, nm_chop_skip, nm_chop_reverse, nm_chop_uniq, nm_chop_sort, nmP_chop, nmS_chop, nm_reverse_head, nm_reverse_tail, nm_reverse_skip, nm_reverse_chop, nm_reverse_uniq, nm_reverse_sort, nmP_reverse, nmS_reverse, nm_uniq_head, nm_uniq_tail, nm_uniq_skip, nm_uniq_chop, nm_uniq_reverse, nm_uniq_sort, nmP_uniq, nmS_uniq, nm_sort_head, nm_sort_tail, nm_sort_skip, nm_sort_chop, nm_sort_reverse, nm_sort_uniq, nmP_sort, nmS_sort, PR.PLAIN_d, PR.SLICING_d]
            exact rfl
          case h3 => exact ⟨_, _, rfl, .inr (by rw [ht, runP_snoc])⟩
        · refine' ⟨_, rfl, _, ?h2, _, Or.inl rfl, ?h3⟩
          case h2 =>
            unfold l0__law_result
            simp only [st, kb_some, kb_none, km_some, kml_some, v_xD, k_xD, v_gX, k_gXd, k_gXs, v_gG, k_gG, v_gR, k_gRd, k_gRo, v_lR, k_lRo, v_gBin, k_bin1, k_bin2, v_lBin, k_lb1, k_lb2, v_gUn, k_un, u_negI, v_bT, k_bT, v_bNot, k_bNot, v_bAnd, k_andT, k_andF, v_bOr, k_orT, k_orF, v_bTru, k_tru, v_gIf, k_ifT, k_ifF, v_lIf, k_lifT, k_lifF, v_gAnd, k_gAndT, k_gAndF, v_gOr, k_gOrT, k_gOrF, v_gNot, k_gNot, v_gCh, k_ch1, k_ch2, k_ch3T, k_ch3F, k_ch4, v_dN, v_dC, k_dC, k_dC2, v_aN, v_aC, k_aC, k_aC2, v_aSw, k_sw, v_aOne, k_one, v_gTup, k_tup, v_lLst, k_lst, v_gCb, k_cb, v_lCb, k_lcb, v_oN, v_oY, k_oY, v_lSl, k_sl1, k_sl2, k_sl3, v_lRev, k_rev, v_sSeq, k_seqN, k_seqR, k_seqB, k_seqC, v_sN, v_sB, v_sC, v_sV, v_sRN, v_sSet, k_set, v_sOwn, k_own, v_sSetR, k_setRd, k_setRo, v_sAsg, k_asg, k_nx, v_sDrop, k_drop, v_sDropR, k_dropR, v_sRet, k_ret, v_sRetG, k_retG, v_sRetR, k_retR, v_sRetV, k_retVd, k_retVo, v_sIf, k_sifT, k_sifF, v_sAug, k_aug1, k_aug2, v_sPar, k_par, v_hName, v_hNil, v_hCons, v_hTup, v_hSub, k_sub1, k_sub2, k_sub3, v_sFor, k_for, v_iLst, k_iL, v_iTup, k_iT, v_iRg1, k_iR1, v_iRg2, k_iR2, v_iEn, k_iE, v_lLc, k_lc, v_rCall, k_cl1, k_cl2, k_cl3, v_gLm, k_lm1, k_lm2, k_lm3, v_run, k_runR, k_runN, v_len0, v_lenD, v_lenS, k_lenO, k_lenP, k_lenC, v_xVar, k_varD, k_varOf, k_varPf, k_varOl, k_varPl, k_varC, k_varOi, k_varPi, k_varOo, k_varPo, v_frz, k_frzO, k_frzP, v_lstAt, k_atO, k_atP, v_putAt, k_putO, k_putP, v_lstS, k_lsO, k_lsP, k_lsC, v_lstHS, v_valS, k_valO, k_valP, v_homN, v_homD, v_homS, k_homO, k_homP, k_homC, k_homU, v_p4, k_p1, k_p2, k_p3, k_p4, k_p5, v_Eqs, k_Eqs, v_Eqd, k_Eqd, v_Eqb, k_Eqb, v_Nes, k_Nes, v_Ned, k_Ned, v_Neb, k_Neb, v_ss, k_ss,
  oEq_d, oNe_d, eqD_i, eqD_s, oIx_t, oIx_l, oIx_s, oIn_t, oIn_l, oIn_s, lst_d, lstH_d, seq_l, seq_t, seq_s, val_d, toD_lst, toD_leaf, cLen_1, cAbs_1, cMax_2, cMin_2, cInt_b, cInt_i, cList_1, oI0_d, oB0_d, tru_b, tru_l, tru_s, oRep_k, strsOf_map, intsOf_map, inD_strs, inD_2, inD_3, inD_4, atI_0, atI_1, atI_2, atI_3, mApp, gC, bYes, parz, postz,
  Option.bind_some, Option.map_some, Option.getD_some, List.getElem?_cons_zero, List.getElem?_cons_succ, List.set_cons_zero, List.set_cons_succ, List.length_cons, List.length_nil, List.length_set, List.cons_append, List.nil_append, List.replicate_succ, List.replicate_zero, List.length_map, Nat.reduceAdd, Nat.zero_add, Nat.reduceLeDiff, Nat.reduceLT, Nat.reduceEqDiff, sizeLine_eq, Int.cast_ofNat_Int, Int.reduceEq, Int.reduceLT, Int.reduceLE, Int.reduceAdd, Int.reduceSub, Int.reduceMul, Int.reduceNeg, Int.reducePow, Int.reduceToNat, ↓reduceIte, if_true, if_false, decide_true, decide_false, Bool.not_true, Bool.not_false, Bool.true_and, Bool.and_true, Bool.false_and, Bool.false_eq_true, reduceCtorEq, Option.isSome_some,
  nm_head_tail, nm_head_skip, nm_head_chop, nm_head_reverse, nm_head_uniq, nm_head_sort, nmP_head, nmS_head, nm_tail_head, nm_tail_skip, nm_tail_chop, nm_tail_reverse, nm_tail_uniq, nm_tail_sort, nmP_tail, nmS_tail, nm_skip_head, nm_skip_tail, nm_skip_chop, nm_skip_reverse, nm_skip_uniq, nm_skip_sort, nmP_skip, nmS_skip, nm_chop_head, nm_chop_tail, nm_chop_skip, nm_chop_reverse, nm_chop_uniq, nm_chop_sort, nmP_chop, nmS_chop, nm_reverse_head, nm_reverse_tail, nm_reverse_skip, nm_reverse_chop, nm_reverse_uniq, nm_reverse_sort, nmP_reverse, nmS_reverse, nm_uniq_head, nm_uniq_tail, nm_uniq_skip, nm_uniq_chop, nm_uniq_reverse, nm_uniq_sort, nmP_uniq, nmS_uniq, nm_sort_head, nm_sort_tail, nm_sort_skip, nm_sort_chop, nm_sort_reverse, nm_sort_uniq, nmP_sort, nmS_sort, PR.PLAIN_d, PR.SLICING_d]
            exact rfl
          case h3 => exact ⟨_, _, rfl, .inr (by rw [ht, runP_snoc])⟩
  rw [List.length_map, List.take_length] at hy
  rcases hy with rfl | rfl
  · refine ⟨_, ?_, .inr rfl⟩
    unfold F__law_result g__law_result
    simp only [h1, kb_some, kb_none, km_some, kml_some, v_xD, k_xD, v_gX, k_gXd, k_gXs, v_gG, k_gG, v_gR, k_gRd, k_gRo, v_lR, k_lRo, v_gBin, k_bin1, k_bin2, v_lBin, k_lb1, k_lb2, v_gUn, k_un, u_negI, v_bT, k_bT, v_bNot, k_bNot, v_bAnd, k_andT, k_andF, v_bOr, k_orT, k_orF, v_bTru, k_tru, v_gIf, k_ifT, k_ifF, v_lIf, k_lifT, k_lifF, v_gAnd, k_gAndT, k_gAndF, v_gOr, k_gOrT, k_gOrF, v_gNot, k_gNot, v_gCh, k_ch1, k_ch2, k_ch3T, k_ch3F, k_ch4, v_dN, v_dC, k_dC, k_dC2, v_aN, v_aC, k_aC, k_aC2, v_aSw, k_sw, v_aOne, k_one, v_gTup, k_tup, v_lLst, k_lst, v_gCb, k_cb, v_lCb, k_lcb, v_oN, v_oY, k_oY, v_lSl, k_sl1, k_sl2, k_sl3, v_lRev, k_rev, v_sSeq, k_seqN, k_seqR, k_seqB, k_seqC, v_sN, v_sB, v_sC, v_sV, v_sRN, v_sSet, k_set, v_sOwn, k_own, v_sSetR, k_setRd, k_setRo, v_sAsg, k_asg, k_nx, v_sDrop, k_drop, v_sDropR, k_dropR, v_sRet, k_ret, v_sRetG, k_retG, v_sRetR, k_retR, v_sRetV, k_retVd, k_retVo, v_sIf, k_sifT, k_sifF, v_sAug, k_aug1, k_aug2, v_sPar, k_par, v_hName, v_hNil, v_hCons, v_hTup, v_hSub, k_sub1, k_sub2, k_sub3, v_sFor, k_for, v_iLst, k_iL, v_iTup, k_iT, v_iRg1, k_iR1, v_iRg2, k_iR2, v_iEn, k_iE, v_lLc, k_lc, v_rCall, k_cl1, k_cl2, k_cl3, v_gLm, k_lm1, k_lm2, k_lm3, v_run, k_runR, k_runN, v_len0, v_lenD, v_lenS, k_lenO, k_lenP, k_lenC, v_xVar, k_varD, k_varOf, k_varPf, k_varOl, k_varPl, k_varC, k_varOi, k_varPi, k_varOo, k_varPo, v_frz, k_frzO, k_frzP, v_lstAt, k_atO, k_atP, v_putAt, k_putO, k_putP, v_lstS, k_lsO, k_lsP, k_lsC, v_lstHS, v_valS, k_valO, k_valP, v_homN, v_homD, v_homS, k_homO, k_homP, k_homC, k_homU, v_p4, k_p1, k_p2, k_p3, k_p4, k_p5, v_Eqs, k_Eqs, v_Eqd, k_Eqd, v_Eqb, k_Eqb, v_Nes, k_Nes, v_Ned, k_Ned, v_Neb, k_Neb, v_ss, k_ss,
  oEq_d, oNe_d, eqD_i, eqD_s, oIx_t, oIx_l, oIx_s, oIn_t, oIn_l, oIn_s, lst_d, lstH_d, seq_l, seq_t, seq_s, val_d, toD_lst, toD_leaf, cLen_1, cAbs_1, cMax_2, cMin_2, cInt_b, cInt_i, cList_1, oI0_d, oB0_d, tru_b, tru_l, tru_s, oRep_k, strsOf_map, intsOf_map, inD_strs, inD_2, inD_3, inD_4, atI_0, atI_1, atI_2, atI_3, mApp, gC, bYes, parz, postz,
  Option.bind_some, Option.map_some, Option.getD_some, List.getElem?_cons_zero, List.getElem?_cons_succ, List.set_cons_zero, List.set_cons_succ, List.length_cons, List.length_nil, List.length_set, List.cons_append, List.nil_append, List.replicate_succ, List.replicate_zero, List.length_map, Nat.reduceAdd, Nat.zero_add, Nat.reduceLeDiff, Nat.reduceLT, Nat.reduceEqDiff, sizeLine_eq, Int.cast_ofNat_Int, Int.reduceEq, Int.reduceLT, Int.reduceLE, Int.reduceAdd, Int.reduceSub, Int.reduceMul, Int.reduceNeg, Int.reducePow, Int.reduceToNat, ↓reduceIte, if_true, if_false, decide_true, decide_false, Bool.not_true, Bool.not_false, Bool.true_and, Bool.and_true, Bool.false_and, Bool.false_eq_true, reduceCtorEq, Option.isSome_some,
  nm_head_tail, nm_head_skip, nm_head_chop, nm_head_reverse, nm_head_uniq, nm_head_sort, nmP_head, nmS_head, nm_tail_head, nm_tail_skip, nm_tail_chop, nm_tail_reverse, nm_tail_uniq, nm_tail_sort, nmP_tail, nmS_tail, nm_skip_head, nm_skip_tail, nm_skip_chop, nm_skip_reverse, nm_skip_uniq, nm_skip_sort, nmP_skip, nmS_skip, nm_chop_head, nm_chop_tail, nm_chop_skip, nm_chop_reverse, nm_chop_uniq, nm_chop_sort, nmP_chop, nmS_chop, nm_reverse_head, nm_reverse_tail, nm_reverse_skip, nm_reverse_chop, nm_reverse_uniq, nm_reverse_sort, nmP_reverse, nmS_reverse, nm_uniq_head, nm_uniq_tail, nm_uniq_skip, nm_uniq_chop, nm_uniq_reverse, nm_uniq_sort, nmP_uniq, nmS_uniq, nm_sort_head, nm_sort_tail, nm_sort_skip, nm_sort_chop, nm_sort_reverse, nm_sort_uniq, nmP_sort, nmS_sort, PR.PLAIN_d, PR.SLICING_d]
  · refine ⟨_, ?_, .inl rfl⟩
    unfold F__law_result g__law_result
    simp only [h1, kb_some, kb_none, km_some, kml_some, v_xD, k_xD, v_gX, k_gXd, k_gXs, v_gG, k_gG, v_gR, k_gRd, k_gRo, v_lR, k_lRo, v_gBin, k_bin1, k_bin2, v_lBin, k_lb1, k_lb2, v_gUn, k_un, u_negI, v_bT, k_bT, v_bNot, k_bNot, v_bAnd, k_andT, k_andF, v_bOr, k_orT, k_orF, v_bTru, k_tru, v_gIf, k_ifT, k_ifF, v_lIf, k_lifT, k_lifF, v_gAnd, k_gAndT, k_gAndF, v_gOr, k_gOrT, k_gOrF, v_gNot, k_gNot, v_gCh, k_ch1, k_ch2, k_ch3T, k_ch3F, k_ch4, v_dN, v_dC, k_dC, k_dC2, v_aN, v_aC, k_aC, k_aC2, v_aSw, k_sw, v_aOne, k_one, v_gTup, k_tup, v_lLst, k_lst, v_gCb, k_cb, v_lCb, k_lcb, v_oN, v_oY, k_oY, v_lSl, k_sl1, k_sl2, k_sl3, v_lRev, k_rev, v_sSeq, k_seqN, k_seqR, k_seqB, k_seqC, v_sN, v_sB, v_sC, v_sV, v_sRN, v_sSet, k_set, v_sOwn, k_own, v_sSetR, k_setRd, k_setRo, v_sAsg, k_asg, k_nx, v_sDrop, k_drop, v_sDropR, k_dropR, v_sRet, k_ret, v_sRetG, k_retG, v_sRetR, k_retR, v_sRetV, k_retVd, k_retVo, v_sIf, k_sifT, k_sifF, v_sAug, k_aug1, k_aug2, v_sPar, k_par, v_hName, v_hNil, v_hCons, v_hTup, v_hSub, k_sub1, k_sub2, k_sub3, v_sFor, k_for, v_iLst, k_iL, v_iTup, k_iT, v_iRg1, k_iR1, v_iRg2, k_iR2, v_iEn, k_iE, v_lLc, k_lc, v_rCall, k_cl1, k_cl2, k_cl3, v_gLm, k_lm1, k_lm2, k_lm3, v_run, k_runR, k_runN, v_len0, v_lenD, v_lenS, k_lenO, k_lenP, k_lenC, v_xVar, k_varD, k_varOf, k_varPf, k_varOl, k_varPl, k_varC, k_varOi, k_varPi, k_varOo, k_varPo, v_frz, k_frzO, k_frzP, v_lstAt, k_atO, k_atP, v_putAt, k_putO, k_putP, v_lstS, k_lsO, k_lsP, k_lsC, v_lstHS, v_valS, k_valO, k_valP, v_homN, v_homD, v_homS, k_homO, k_homP, k_homC, k_homU, v_p4, k_p1, k_p2, k_p3, k_p4, k_p5, v_Eqs, k_Eqs, v_Eqd, k_Eqd, v_Eqb, k_Eqb, v_Nes, k_Nes, v_Ned, k_Ned, v_Neb, k_Neb, v_ss, k_ss,
  oEq_d, oNe_d, eqD_i, eqD_s, oIx_t, oIx_l, oIx_s, oIn_t, oIn_l, oIn_s, lst_d, lstH_d, seq_l, seq_t, seq_s, val_d, toD_lst, toD_leaf, cLen_1, cAbs_1, cMax_2, cMin_2, cInt_b, cInt_i, cList_1, oI0_d, oB0_d, tru_b, tru_l, tru_s, oRep_k, strsOf_map, intsOf_map, inD_strs, inD_2, inD_3, inD_4, atI_0, atI_1, atI_2, atI_3, mApp, gC, bYes, parz, postz,
  Option.bind_some, Option.map_some, Option.getD_some, List.getElem?_cons_zero, List.getElem?_cons_succ, List.set_cons_zero, List.set_cons_succ, List.length_cons, List.length_nil, List.length_set, List.cons_append, List.nil_append, List.replicate_succ, List.replicate_zero, List.length_map, Nat.reduceAdd, Nat.zero_add, Nat.reduceLeDiff, Nat.reduceLT, Nat.reduceEqDiff, sizeLine_eq, Int.cast_ofNat_Int, Int.reduceEq, Int.reduceLT, Int.reduceLE, Int.reduceAdd, Int.reduceSub, Int.reduceMul, Int.reduceNeg, Int.reducePow, Int.reduceToNat, ↓reduceIte, if_true, if_false, decide_true, decide_false, Bool.not_true, Bool.not_false, Bool.true_and, Bool.and_true, Bool.false_and, Bool.false_eq_true, reduceCtorEq, Option.isSome_some,
  nm_head_tail, nm_head_skip, nm_head_chop, nm_head_reverse, nm_head_uniq, nm_head_sort, nmP_head, nmS_head, nm_tail_head, nm_tail_skip, nm_tail_chop, nm_tail_reverse, nm_tail_uniq, nm_tail_sort, nmP_tail, nmS_tail, nm_skip_head, nm_skip_tail, nm_skip_chop, nm_skip_reverse, nm_skip_uniq, nm_skip_sort, nmP_skip, nmS_skip, nm_chop_head, nm_chop_tail, nm_chop_skip, nm_chop_reverse, nm_chop_uniq, nm_chop_sort, nmP_chop, nmS_chop, nm_reverse_head, nm_reverse_tail, nm_reverse_skip, nm_reverse_chop, nm_reverse_uniq, nm_reverse_sort, nmP_reverse, nmS_reverse, nm_uniq_head, nm_uniq_tail, nm_uniq_skip, nm_uniq_chop, nm_uniq_reverse, nm_uniq_sort, nmP_uniq, nmS_uniq, nm_sort_head, nm_sort_tail, nm_sort_skip, nm_sort_chop, nm_sort_reverse, nm_sort_uniq, nmP_sort, nmS_sort, PR.PLAIN_d, PR.SLICING_d]
theorem nice_lines {xs : List MM.S} (h : ∀ x ∈ xs, x ∈ pool20) (l : xs.length ≤ 60) : Nice 1260 (.list (xs.map .str)) ∧ (PyData.list (xs.map .str)).depth ≤ 2 := by
  obtain ⟨h1, h2⟩ := nice_list (xs := xs.map .str) (n := 20) (k := 0) (m := 60) (fun d hd => by
    obtain ⟨x, hx, rfl⟩ := List.mem_map.mp hd
    exact nice_str (pool_ok x (h x hx)) (pool_small x (h x hx))) (by rw [List.length_map]; exact l) (by decide)
  exact ⟨h1, Nat.le_succ_of_le h2⟩
theorem repr_ok {e : En} {d : PyData} {n : Nat} (h : Nice n d) (hn : n ≤ 8000) : cRepr e [.d d] = some (.str d.shown) := by
  show (if d.showable = true ∧ d.depth ≤ 60 ∧ d.shown.length ≤ sizeLine ∧ d.hasDict = false then some (PyData.str d.shown) else none) = _
  rw [if_pos ⟨h.sho, h.dep, h.fits hn, h.hd⟩]
end FA
namespace L02
open PySem PySem.Spec PyProof.Rows L2 DL PT
noncomputable section
def l0_law : En → Option Out :=
    (sSeq (sSetR 3 (rCall FA.F__law_kinds (aCons (xVar 1) aNil)))
    (sSeq (sSetR 4 (rCall FA.F__law_items (aCons (xVar 1) (aCons (xD (gX (xVar 3))) (aCons (xD (gBin oIx (xD (gG (lLst (dCons (gC (.int 8)) (dCons (gC (.int 60)) dNil))))) (xD (gR (rCall FA.F__law_draw (aCons (xVar 1) (aCons (xD (gC (.int 2))) aNil))))))) aNil)))))
    (sSeq (sSetR 5 (rCall FA.F__law_plan (aCons (xVar 1) (aCons (xD (gC (.int 12))) (aCons (xD (gCb cLen (aCons (xVar 4) aNil))) aNil)))))
    (sSeq (sSetR 6 (rCall FA.F__law_result (aCons (xD (gX (xVar 5))) (aCons (xD (gX (xVar 4))) aNil))))
    (sSeq (sSetR 7 (rCall FA.F__law_draw (aCons (xVar 1) (aCons (xD (gBin (oI0 fun i j => i + j) (xD (gCb cLen (aCons (xVar 5) aNil))) (xD (gC (.int 1))))) aNil))))
    (sSeq (sSetR 8 (rCall PR.F_run (aCons (xD (gG (lSl (xVar 5) (oYes (gX (xVar 7))) oNo))) (aCons (xD (gR (rCall PR.F_run (aCons (xD (gG (lSl (xVar 5) oNo (oYes (gX (xVar 7)))))) (aCons (xD (gX (xVar 4))) aNil))))) aNil))))
    (sIf (bT (gBin oNe (xD (gCb cRepr (aCons (xD (gG (lLst (dCons (gR (rCall PR.F_run (aCons (xD (gX (xVar 5))) (aCons (xD (gX (xVar 4))) aNil)))) (dCons (gR (rCall PR.F_run (aCons (xD (gG (lCb cList (aCons (xVar 5) aNil)))) (aCons (xD (gG (lCb cList (aCons (xVar 4) aNil)))) aNil)))) (dCons (gX (xVar 8)) dNil)))))) aNil))) (xD (gCb cRepr (aCons (xD (gG (lBin oRep (xD (gG (lLst (dCons (gX (xVar 6)) dNil)))) (xD (gC (.int 3)))))) aNil))))) (sRet (gC (.bool false))) sNext)))))))
def g_law : En → Option Out :=
    (sSeq (sSetR 1 (rCall FA.F__law_rng (aCons (xVar 0) aNil)))
    (sSeq (sFor (iRg1 (dCons (gBin (oI0 fun i j => i + j) (xD (gC (.int 10))) (xD (gCb cMin2 (aCons (xD (gC (.int 10))) (aCons (xD (gCb cLen (aCons (xVar 0) aNil))) aNil))))) dNil)) (hName 2) l0_law)
    (sRet (gC (.bool true)))))
def F_law : En → Option (Rx × En) := runF 1 8 g_law
end
end L02
namespace L02
open PySem PySem.Spec PyProof.Rows L2 DL PT MM FA
theorem law_true : ∀ ns : List Int, ns.length ≤ 63 → ∃ us', F_law [.scr ns] = some (.dat (.bool true), us') ∧ us'.length = 1 := by
  intro ns hns
  obtain ⟨l0, d0, g0⟩ := rng_ok ns
  have b10 : ∃ m : Nat, (10 : Int) + (if (ns.length : Int) < 10 then (ns.length : Int) else 10) = m ∧ m ≤ 20 := by
    by_cases h : (ns.length : Int) < 10
    · exact ⟨10 + ns.length, by rw [if_pos h]; omega, by omega⟩
    · exact ⟨20, by rw [if_neg h]; rfl, by omega⟩
  obtain ⟨m, hm, m20⟩ := b10
  obtain ⟨e', h1, l', a2, a3, a4, a5, a6, a7, a8, rfl, _⟩ := forL_by (h := hName 2) (g := l0_law) (ds := rangeD 0 m) (e := [.scr ns, .own (.lst l0), .un, .un, .un, .un, .un, .un, .un])
    (fun i e => ∃ l a2 a3 a4 a5 a6 a7 a8, e = [.scr ns, .own (.lst l), a2, a3, a4, a5, a6, a7, a8] ∧ Rg (20000 * i) l) ⟨_, _, _, _, _, _, _, _, rfl, g0⟩ fun i d e hd ⟨l, a2, a3, a4, a5, a6, a7, a8, he, g⟩ => by
      subst he
      obtain ⟨hlt, rfl⟩ := rangeD_get hd
      obtain ⟨ks, l1, d1, k0, k13, kp, g1⟩ := kinds_ok g (by omega)
      obtain ⟨r, l2, d2, r0, r1, g2⟩ := draw_ok g1 (lim := 2) (by decide) (by decide) (by omega)
      obtain ⟨most, hmo, m0, m60⟩ : ∃ z : Int, atI [PyData.int 8, .int 60] r = some (.int z) ∧ 0 ≤ z ∧ z ≤ 60 := by
        rcases (by omega : r = 0 ∨ r = 1) with rfl | rfl
        · exact ⟨8, rfl, by decide, by decide⟩
        · exact ⟨60, rfl, by decide, by decide⟩
      obtain ⟨xs, l3, d3, xl, xp, g3⟩ := items_ok g2 (by omega) k0 k13 kp m0 m60
      obtain ⟨cs, l4, d4, cl, cok, g4⟩ := plan_ok g3 (by omega) (most := 12) (z := (xs.length : Int)) (by decide) (by decide) (by omega) (by omega)
      obtain ⟨x, hr, hx⟩ := result_ok (fun c h => (cok c h).1) (show xs.length < 64 by omega)
      obtain ⟨k, l5, d5, k0, k1, g5⟩ := draw_ok g4 (lim := (cs.length : Int) + 1) (by omega) (by omega) (by omega)
      have c1 : DL.cutD (cs.map Cm.d) (some k) none = (cs.drop k.toNat).map Cm.d := by rw [cut_from _ k0 (by rw [List.length_map]; omega), List.map_drop]
      have c2 : DL.cutD (cs.map Cm.d) none (some k) = (cs.take k.toNat).map Cm.d := by rw [cut_to _ k0 (by rw [List.length_map]; omega), List.map_take]
      have R1 := PR.run_ok (cs := cs) (fun c h => (cok c h).1) (show xs.length < 1000 by omega)
      have R2 := PR.run_ok (cs := cs.take k.toNat) (fun c h => (cok c (List.mem_of_mem_take h)).1) (show xs.length < 1000 by omega)
      have R3 := PR.run_ok (cs := cs.drop k.toNat) (fun c h => (cok c (List.mem_of_mem_drop h)).1) (xs := runP (cs.take k.toNat) xs) (Nat.lt_of_le_of_lt (run_len _ _) (show xs.length < 1000 by omega))
      rw [runP_cut] at R3
      have rp : ∀ x ∈ runP cs xs, x ∈ pool20 := fun x hx => xp x (run_mem cs xs x hx)
      have rle : (runP cs xs).length ≤ 60 := Nat.le_trans (run_len cs xs) xl
      have N1 := nice_lines rp rle
      have N3 : Nice 3783 (.list [.list ((runP cs xs).map .str), .list ((runP cs xs).map .str), .list ((runP cs xs).map .str)]) := (nice_list (n := 1260) (k := 2) (m := 3) (fun d hd => by
        simp only [List.mem_cons, List.mem_nil_iff, or_false, or_self] at hd
        rw [hd]
        exact N1) (by simp) (by decide)).1
      have rep : ∀ d : PyData, [[d], [d], [d]].flatten = [d, d, d] := fun d => rfl
      rcases hx with rfl | rfl
      · refine' ⟨_, rfl, _, ?h2, _, Or.inl rfl, ?h3⟩
        case h2 =>
          unfold l0_law
          simp only [d1, d2, hmo, d3, d4, hr, d5, c1, c2, R1, R2, R3, rep, repr_ok N3 (by decide), Nat.reduceMul, and_self, and_true, true_and, kb_some, kb_none, km_some, kml_some, v_xD, k_xD, v_gX, k_gXd, k_gXs, v_gG, k_gG, v_gR, k_gRd, k_gRo, v_lR, k_lRo, v_gBin, k_bin1, k_bin2, v_lBin, k_lb1, k_lb2, v_gUn, k_un, u_negI, v_bT, k_bT, v_bNot, k_bNot, v_bAnd, k_andT, k_andF, v_bOr, k_orT, k_orF, v_bTru, k_tru, v_gIf, k_ifT, k_ifF, v_lIf, k_lifT, k_lifF, v_gAnd, k_gAndT, k_gAndF, v_gOr, k_gOrT, k_gOrF, v_gNot, k_gNot, v_gCh, k_ch1, k_ch2, k_ch3T, k_ch3F, k_ch4, v_dN, v_dC, k_dC, k_dC2, v_aN, v_aC, k_aC, k_aC2, v_aSw, k_sw, v_aOne, k_one, v_gTup, k_tup, v_lLst, k_lst, v_gCb, k_cb, v_lCb, k_lcb, v_oN, v_oY, k_oY, v_lSl, k_sl1, k_sl2, k_sl3, v_lRev, k_rev, v_sSeq, k_seqN, k_seqR, k_seqB, k_seqC, v_sN, v_sB, v_sC, v_sV, v_sRN, v_sSet, k_set, v_sOwn, k_own, v_sSetR, k_setRd, k_setRo, v_sAsg, k_asg, k_nx, v_sDrop, k_drop, v_sDropR, k_dropR, v_sRet, k_ret, v_sRetG, k_retG, v_sRetR, k_retR, v_sRetV, k_retVd, k_retVo, v_sIf, k_sifT, k_sifF, v_sAug, k_aug1, k_aug2, v_sPar, k_par, v_hName, v_hNil, v_hCons, v_hTup, v_hSub, k_sub1, k_sub2, k_sub3, v_sFor, k_for, v_iLst, k_iL, v_iTup, k_iT, v_iRg1, k_iR1, v_iRg2, k_iR2, v_iEn, k_iE, v_lLc, k_lc, v_rCall, k_cl1, k_cl2, k_cl3, v_gLm, k_lm1, k_lm2, k_lm3, v_run, k_runR, k_runN, v_len0, v_lenD, v_lenS, k_lenO, k_lenP, k_lenC, v_xVar, k_varD, k_varOf, k_varPf, k_varOl, k_varPl, k_varC, k_varOi, k_varPi, k_varOo, k_varPo, v_frz, k_frzO, k_frzP, v_lstAt, k_atO, k_atP, v_putAt, k_putO, k_putP, v_lstS, k_lsO, k_lsP, k_lsC, v_lstHS, v_valS, k_valO, k_valP, v_homN, v_homD, v_homS, k_homO, k_homP, k_homC, k_homU, v_p4, k_p1, k_p2, k_p3, k_p4, k_p5, v_Eqs, k_Eqs, v_Eqd, k_Eqd, v_Eqb, k_Eqb, v_Nes, k_Nes, v_Ned, k_Ned, v_Neb, k_Neb, v_ss, k_ss,
  oEq_d, oNe_d, eqD_i, eqD_s, oIx_t, oIx_l, oIx_s, oIn_t, oIn_l, oIn_s, lst_d, lstH_d, seq_l, seq_t, seq_s, val_d, toD_lst, toD_leaf, cLen_1, cAbs_1, cMax_2, cMin_2, cInt_b, cInt_i, cList_1, oI0_d, oB0_d, tru_b, tru_l, tru_s, oRep_k, strsOf_map, intsOf_map, inD_strs, inD_2, inD_3, inD_4, atI_0, atI_1, atI_2, atI_3, mApp, gC, bYes, parz, postz,
  Option.bind_some, Option.map_some, Option.getD_some, List.getElem?_cons_zero, List.getElem?_cons_succ, List.set_cons_zero, List.set_cons_succ, List.length_cons, List.length_nil, List.length_set, List.cons_append, List.nil_append, List.replicate_succ, List.replicate_zero, List.length_map, Nat.reduceAdd, Nat.zero_add, Nat.reduceLeDiff, Nat.reduceLT, Nat.reduceEqDiff, sizeLine_eq, Int.cast_ofNat_Int, Int.reduceEq, Int.reduceLT, Int.reduceLE, Int.reduceAdd, Int.reduceSub, Int.reduceMul, Int.reduceNeg, Int.reducePow, Int.reduceToNat, ↓reduceIte, if_true, if_false, decide_true, decide_false, Bool.not_true, Bool.not_false, Bool.true_and, Bool.and_true, Bool.false_and, Bool.false_eq_true, reduceCtorEq, Option.isSome_some,
  nm_head_tail, nm_head_skip, nm_head_chop, nm_head_reverse, nm_head_uniq, nm_head_sort, nmP_head, nmS_head, nm_tail_head, nm_tail_skip, nm_tail_chop, nm_tail_reverse, nm_tail_uniq, nm_tail_sort, nmP_tail, nmS_tail, nm_skip_head, nm_skip_tail, nm_skip_chop, nm_skip_reverse, nm_skip_uniq, nm_skip_sort, nmP_skip, nmS_skip, nm_chop_head, nm_chop_tail, nm_chop_skip, nm_chop_reverse, nm_chop_uniq, nm_chop_sort, nmP_chop, nmS_chop, nm_reverse_head, nm_reverse_tail, nm_reverse_skip, nm_reverse_chop, nm_reverse_uniq, nm_reverse_sort, nmP_reverse, nmS_reverse, nm_uniq_head, nm_uniq_tail, nm_uniq_skip, nm_uniq_chop, nm_uniq_reverse, nm_uniq_sort, nmP_uniq, nmS_uniq, nm_sort_head, nm_sort_tail, nm_sort_skip, nm_sort_chop, nm_sort_reverse, nm_sort_uniq, nmP_sort, nmS_sort, PR.PLAIN_d, PR.SLICING_d]
          exact rfl
        case h3 => exact ⟨_, _, _, _, _, _, _, _, rfl, g5.le (by omega)⟩
      · refine' ⟨_, rfl, _, ?h2, _, Or.inl rfl, ?h3⟩
        case h2 =>
          unfold l0_law
          simp only [d1, d2, hmo, d3, d4, hr, d5, c1, c2, R1, R2, R3, rep, repr_ok N3 (by decide), Nat.reduceMul, and_self, and_true, true_and, kb_some, kb_none, km_some, kml_some, v_xD, k_xD, v_gX, k_gXd, k_gXs, v_gG, k_gG, v_gR, k_gRd, k_gRo, v_lR, k_lRo, v_gBin, k_bin1, k_bin2, v_lBin, k_lb1, k_lb2, v_gUn, k_un, u_negI, v_bT, k_bT, v_bNot, k_bNot, v_bAnd, k_andT, k_andF, v_bOr, k_orT, k_orF, v_bTru, k_tru, v_gIf, k_ifT, k_ifF, v_lIf, k_lifT, k_lifF, v_gAnd, k_gAndT, k_gAndF, v_gOr, k_gOrT, k_gOrF, v_gNot, k_gNot, v_gCh, k_ch1, k_ch2, k_ch3T, k_ch3F, k_ch4, v_dN, v_dC, k_dC, k_dC2, v_aN, v_aC, k_aC, k_aC2, v_aSw, k_sw, v_aOne, k_one, v_gTup, k_tup, v_lLst, k_lst, v_gCb, k_cb, v_lCb, k_lcb, v_oN, v_oY, k_oY, v_lSl, k_sl1, k_sl2, k_sl3, v_lRev, k_rev, v_sSeq, k_seqN, k_seqR, k_seqB, k_seqC, v_sN, v_sB, v_sC, v_sV, v_sRN, v_sSet, k_set, v_sOwn, k_own, v_sSetR, k_setRd, k_setRo, v_sAsg, k_asg, k_nx, v_sDrop, k_drop, v_sDropR, k_dropR, v_sRet, k_ret, v_sRetG, k_retG, v_sRetR, k_retR, v_sRetV, k_retVd, k_retVo, v_sIf, k_sifT, k_sifF, v_sAug, k_aug1, k_aug2, v_sPar, k_par, v_hName, v_hNil, v_hCons, v_hTup, v_hSub, k_sub1, k_sub2, k_sub3, v_sFor, k_for, v_iLst, k_iL, v_iTup, k_iT, v_iRg1, k_iR1, v_iRg2, k_iR2, v_iEn, k_iE, v_lLc, k_lc, v_rCall, k_cl1, k_cl2, k_cl3, v_gLm, k_lm1, k_lm2, k_lm3, v_run, k_runR, k_runN, v_len0, v_lenD, v_lenS, k_lenO, k_lenP, k_lenC, v_xVar, k_varD, k_varOf, k_varPf, k_varOl, k_varPl, k_varC, k_varOi, k_varPi, k_varOo, k_varPo, v_frz, k_frzO, k_frzP, v_lstAt, k_atO, k_atP, v_putAt, k_putO, k_putP, v_lstS, k_lsO, k_lsP, k_lsC, v_lstHS, v_valS, k_valO, k_valP, v_homN, v_homD, v_homS, k_homO, k_homP, k_homC, k_homU, v_p4, k_p1, k_p2, k_p3, k_p4, k_p5, v_Eqs, k_Eqs, v_Eqd, k_Eqd, v_Eqb, k_Eqb, v_Nes, k_Nes, v_Ned, k_Ned, v_Neb, k_Neb, v_ss, k_ss,
  oEq_d, oNe_d, eqD_i, eqD_s, oIx_t, oIx_l, oIx_s, oIn_t, oIn_l, oIn_s, lst_d, lstH_d, seq_l, seq_t, seq_s, val_d, toD_lst, toD_leaf, cLen_1, cAbs_1, cMax_2, cMin_2, cInt_b, cInt_i, cList_1, oI0_d, oB0_d, tru_b, tru_l, tru_s, oRep_k, strsOf_map, intsOf_map, inD_strs, inD_2, inD_3, inD_4, atI_0, atI_1, atI_2, atI_3, mApp, gC, bYes, parz, postz,
  Option.bind_some, Option.map_some, Option.getD_some, List.getElem?_cons_zero, List.getElem?_cons_succ, List.set_cons_zero, List.set_cons_succ, List.length_cons, List.length_nil, List.length_set, List.cons_append, List.nil_append, List.replicate_succ, List.replicate_zero, List.length_map, Nat.reduceAdd, Nat.zero_add, Nat.reduceLeDiff, Nat.reduceLT, Nat.reduceEqDiff, sizeLine_eq, Int.cast_ofNat_Int, Int.reduceEq, Int.reduceLT, Int.reduceLE, Int.reduceAdd, Int.reduceSub, Int.reduceMul, Int.reduceNeg, Int.reducePow, Int.reduceToNat, ↓reduceIte, if_true, if_false, decide_true, decide_false, Bool.not_true, Bool.not_false, Bool.true_and, Bool.and_true, Bool.false_and, Bool.false_eq_true, reduceCtorEq, Option.isSome_some,
  nm_head_tail, nm_head_skip, nm_head_chop, nm_head_reverse, nm_head_uniq, nm_head_sort, nmP_head, nmS_head, nm_tail_head, nm_tail_skip, nm_tail_chop, nm_tail_reverse, nm_tail_uniq, nm_tail_sort, nmP_tail, nmS_tail, nm_skip_head, nm_skip_tail, nm_skip_chop, nm_skip_reverse, nm_skip_uniq, nm_skip_sort, nmP_skip, nmS_skip, nm_chop_head, nm_chop_tail, nm_chop_skip, nm_chop_reverse, nm_chop_uniq, nm_chop_sort, nmP_chop, nmS_chop, nm_reverse_head, nm_reverse_tail, nm_reverse_skip, nm_reverse_chop, nm_reverse_uniq, nm_reverse_sort, nmP_reverse, nmS_reverse, nm_uniq_head, nm_uniq_tail, nm_uniq_skip, nm_uniq_chop, nm_uniq_reverse, nm_uniq_sort, nmP_uniq, nmS_uniq, nm_sort_head, nm_sort_tail, nm_sort_skip, nm_sort_chop, nm_sort_reverse, nm_sort_uniq, nmP_sort, nmS_sort, PR.PLAIN_d, PR.SLICING_d]
          exact rfl
        case h3 => exact ⟨_, _, _, _, _, _, _, _, rfl, g5.le (by omega)⟩
  have b2 : -4611686018427387904 ≤ (m : Int) ∧ (m : Int) < 4611686018427387904 := ⟨by omega, by omega⟩
  have tn : (m : Int).toNat = m := rfl
  refine ⟨[.un], ?_, rfl⟩
  unfold F_law g_law
  simp only [d0, hm, b2, and_self, tn, h1, kb_some, kb_none, km_some, kml_some, v_xD, k_xD, v_gX, k_gXd, k_gXs, v_gG, k_gG, v_gR, k_gRd, k_gRo, v_lR, k_lRo, v_gBin, k_bin1, k_bin2, v_lBin, k_lb1, k_lb2, v_gUn, k_un, u_negI, v_bT, k_bT, v_bNot, k_bNot, v_bAnd, k_andT, k_andF, v_bOr, k_orT, k_orF, v_bTru, k_tru, v_gIf, k_ifT, k_ifF, v_lIf, k_lifT, k_lifF, v_gAnd, k_gAndT, k_gAndF, v_gOr, k_gOrT, k_gOrF, v_gNot, k_gNot, v_gCh, k_ch1, k_ch2, k_ch3T, k_ch3F, k_ch4, v_dN, v_dC, k_dC, k_dC2, v_aN, v_aC, k_aC, k_aC2, v_aSw, k_sw, v_aOne, k_one, v_gTup, k_tup, v_lLst, k_lst, v_gCb, k_cb, v_lCb, k_lcb, v_oN, v_oY, k_oY, v_lSl, k_sl1, k_sl2, k_sl3, v_lRev, k_rev, v_sSeq, k_seqN, k_seqR, k_seqB, k_seqC, v_sN, v_sB, v_sC, v_sV, v_sRN, v_sSet, k_set, v_sOwn, k_own, v_sSetR, k_setRd, k_setRo, v_sAsg, k_asg, k_nx, v_sDrop, k_drop, v_sDropR, k_dropR, v_sRet, k_ret, v_sRetG, k_retG, v_sRetR, k_retR, v_sRetV, k_retVd, k_retVo, v_sIf, k_sifT, k_sifF, v_sAug, k_aug1, k_aug2, v_sPar, k_par, v_hName, v_hNil, v_hCons, v_hTup, v_hSub, k_sub1, k_sub2, k_sub3, v_sFor, k_for, v_iLst, k_iL, v_iTup, k_iT, v_iRg1, k_iR1, v_iRg2, k_iR2, v_iEn, k_iE, v_lLc, k_lc, v_rCall, k_cl1, k_cl2, k_cl3, v_gLm, k_lm1, k_lm2, k_lm3, v_run, k_runR, k_runN, v_len0, v_lenD, v_lenS, k_lenO, k_lenP, k_lenC, v_xVar, k_varD, k_varOf, k_varPf, k_varOl, k_varPl, k_varC, k_varOi, k_varPi, k_varOo, k_varPo, v_frz, k_frzO, k_frzP, v_lstAt, k_atO, k_atP, v_putAt, k_putO, k_putP, v_lstS, k_lsO, k_lsP, k_lsC, v_lstHS, v_valS, k_valO, k_valP, v_homN, v_homD, v_homS, k_homO, k_homP, k_homC, k_homU, v_p4, k_p1, k_p2, k_p3, k_p4, k_p5, v_Eqs, k_Eqs, v_Eqd, k_Eqd, v_Eqb, k_Eqb, v_Nes, k_Nes, v_Ned, k_Ned, v_Neb, k_Neb, v_ss, k_ss,
  oEq_d, oNe_d, eqD_i, eqD_s, oIx_t, oIx_l, oIx_s, oIn_t, oIn_l, oIn_s, lst_d, lstH_d, seq_l, seq_t, seq_s, val_d, toD_lst, toD_leaf, cLen_1, cAbs_1, cMax_2, cMin_2, cInt_b, cInt_i, cList_1, oI0_d, oB0_d, tru_b, tru_l, tru_s, oRep_k, strsOf_map, intsOf_map, inD_strs, inD_2, inD_3, inD_4, atI_0, atI_1, atI_2, atI_3, mApp, gC, bYes, parz, postz,
  Option.bind_some, Option.map_some, Option.getD_some, List.getElem?_cons_zero, List.getElem?_cons_succ, List.set_cons_zero, List.set_cons_succ, List.length_cons, List.length_nil, List.length_set, List.cons_append, List.nil_append, List.replicate_succ, List.replicate_zero, List.length_map, Nat.reduceAdd, Nat.zero_add, Nat.reduceLeDiff, Nat.reduceLT, Nat.reduceEqDiff, sizeLine_eq, Int.cast_ofNat_Int, Int.reduceEq, Int.reduceLT, Int.reduceLE, Int.reduceAdd, Int.reduceSub, Int.reduceMul, Int.reduceNeg, Int.reducePow, Int.reduceToNat, ↓reduceIte, if_true, if_false, decide_true, decide_false, Bool.not_true, Bool.not_false, Bool.true_and, Bool.and_true, Bool.false_and, Bool.false_eq_true, reduceCtorEq, Option.isSome_some,
  nm_head_tail, nm_head_skip, nm_head_chop, nm_head_reverse, nm_head_uniq, nm_head_sort, nmP_head, nmS_head, nm_tail_head, nm_tail_skip, nm_tail_chop, nm_tail_reverse, nm_tail_uniq, nm_tail_sort, nmP_tail, nmS_tail, nm_skip_head, nm_skip_tail, nm_skip_chop, nm_skip_reverse, nm_skip_uniq, nm_skip_sort, nmP_skip, nmS_skip, nm_chop_head, nm_chop_tail, nm_chop_skip, nm_chop_reverse, nm_chop_uniq, nm_chop_sort, nmP_chop, nmS_chop, nm_reverse_head, nm_reverse_tail, nm_reverse_skip, nm_reverse_chop, nm_reverse_uniq, nm_reverse_sort, nmP_reverse, nmS_reverse, nm_uniq_head, nm_uniq_tail, nm_uniq_skip, nm_uniq_chop, nm_uniq_reverse, nm_uniq_sort, nmP_uniq, nmS_uniq, nm_sort_head, nm_sort_tail, nm_sort_skip, nm_sort_chop, nm_sort_reverse, nm_sort_uniq, nmP_sort, nmS_sort, PR.PLAIN_d, PR.SLICING_d]
end L02
namespace RL02
open PySem PySem.Spec PyProof.Rows L2 DL PT
def topS (i : Nat) : Stmt := PySem.Challenge.pw_pipeform_k02_pipelines_run.main.body.getD i (.Pass ⟨0, 0, 0, 0⟩)
abbrev s_is_command : Stmt := topS 6
abbrev s_check_pipeline : Stmt := topS 7
abbrev s_kept_range : Stmt := topS 8
abbrev s_run : Stmt := topS 10
abbrev s__apply : Stmt := topS 11
abbrev s__merged : Stmt := topS 12
abbrev s__law_rng : Stmt := topS 14
abbrev s__law_draw : Stmt := topS 15
abbrev s__law_kinds : Stmt := topS 16
abbrev s__law_items : Stmt := topS 17
abbrev s__law_command : Stmt := topS 18
abbrev s__law_plan : Stmt := topS 19
abbrev s__law_step : Stmt := topS 20
abbrev s__law_result : Stmt := topS 21
abbrev s_law : Stmt := topS 22
structure Bt (mg : PySem.Str → Option Value) : Prop where
  abs : mg "abs" = none
  enumerate : mg "enumerate" = none
  len : mg "len" = none
  list : mg "list" = none
  max : mg "max" = none
  min : mg "min" = none
  range : mg "range" = none
  repr : mg "repr" = none
  set : mg "set" = none
  sorted : mg "sorted" = none
section
variable {P : Program} {w : World} {X : PT.Ctx} {mg : PySem.Str → Option Value} {base : Heap}
theorem sc_is_command : FnScope ["element"] ["element"] (defScope s_is_command) := ⟨rfl, rfl, rfl, by decide +kernel, rfl, by decide +kernel, by decide +kernel⟩
theorem ok_is_command {f : Addr} {fd : FuncData} (F : Fun X.K "is_command" "is_command" s_is_command f fd) (B : Bt mg) (c_PLAIN : DL.Cst X.K mg "PLAIN" PR.PLAIN_d) (c_SLICING : DL.Cst X.K mg "SLICING" PR.SLICING_d) : FnOk P w X.K mg base CX0 1 f fd ["element"] (SpX X PR.F_is_command) :=
  okX (k := 0) F sc_is_command (by decide) fun cv A outer s H Q E hr => ⟨_, (pss_cons (ps_if (pt_cmpR (op_eqX hr.units) (pe_callB call_len_seq (by rfl) B.len PySem.boot_len (pa_cons (pv 0) pa_nil)) pe_int (by rfl)) (pss_one (ps_ret (pe_cmpR (op_inX (un65 hr)) (pe_ix ix_seq (pv 0) pe_int (fun _ _ => rfl)) (DL.pe_cst (by rfl) c_PLAIN) (by rfl)))) pss_nil)
      (pss_one (ps_ret (pe_and (pe_cmpR (op_inX (un65 hr)) (pe_ix ix_seq (pv 0) pe_int (fun _ _ => rfl)) (DL.pe_cst (by rfl) c_SLICING) (by rfl)) (pe_one (pe_cmpR op_ge (pe_ix ix_seq (pv 0) pe_int (fun _ _ => rfl)) pe_int (by rfl))))))), fun z => (sv_seq (sv_if (tv_test (ev_bin be_eq (xv_d (ev_cb cb_len (av_cons xv_var av_nil))) (xv_d ev_int))) (sv_ret (ev_bin be_in (xv_d (ev_bin be_ix xv_var (xv_d ev_int))) (xv_d ev_cst))) sv_next)
      (sv_ret (ev_and (ev_bin be_in (xv_d (ev_bin be_ix xv_var (xv_d ev_int))) (xv_d ev_cst)) (ev_bin be_ib (xv_d (ev_bin be_ix xv_var (xv_d ev_int))) (xv_d ev_int)))))⟩
theorem sc_check_pipeline : FnScope ["pipeline", "index", "element"] ["pipeline"] (defScope s_check_pipeline) := ⟨rfl, rfl, rfl, by decide +kernel, rfl, by decide +kernel, by decide +kernel⟩
theorem ok_check_pipeline {f : Addr} {fd : FuncData} (F : Fun X.K "check_pipeline" "check_pipeline" s_check_pipeline f fd) (B : Bt mg) (G_is_command : DL.Df P w X.K mg base 1 "is_command" ["element"] (SpX X PR.F_is_command)) : FnOk P w X.K mg base CX0 2 f fd ["pipeline"] (SpX X PR.F_check_pipeline) :=
  okX (k := 1) F sc_check_pipeline (by decide) fun cv A outer s H Q E hr => ⟨_, (pss_one (ps_for PassesOwn.never rfl (pi_enum (by rfl) B.enumerate (pa_cons (pv 0) pa_nil)) (pg_tup rfl (pgs_cons (pg_name (i := 1) sc_check_pipeline.nd rfl (Or.inl rfl)) (pgs_cons (pg_name (i := 2) sc_check_pipeline.nd rfl (Or.inl rfl)) pgs_nil))) (pss_one (ps_if (pt_not (pt_truth (DL.pe_df G_is_command hr (by decide) (by rfl) (pa_cons (pv 2) pa_nil)) (by intro; rfl))) (pss_one ps_never) pss_nil)))), fun z => (sv_for (iv_enum (dv_cons (ev_x xv_var) dv_nil)) (gt_tup (gts_cons gt_name (gts_cons gt_name gts_nil))) (sv_if (tv_not (tv_tru (xv_d (ev_r (rv_call (av_cons (xv_d (ev_x xv_var)) av_nil)))))) sv_never sv_next))⟩
theorem sc_kept_range : FnScope ["command", "length", "name", "number"] ["command", "length"] (defScope s_kept_range) := ⟨rfl, rfl, rfl, by decide +kernel, rfl, by decide +kernel, by decide +kernel⟩
theorem ok_kept_range {f : Addr} {fd : FuncData} (F : Fun X.K "kept_range" "kept_range" s_kept_range f fd) (B : Bt mg) : FnOk P w X.K mg base CX0 1 f fd ["command", "length"] (SpX X PR.F_kept_range) :=
  okX (k := 0) F sc_kept_range (by decide) fun cv A outer s H Q E hr => ⟨_, (pss_cons (ps_asg (pv 0) (pg_tup rfl (pgs_cons (pg_name (i := 2) sc_kept_range.nd rfl (Or.inl rfl)) (pgs_cons (pg_name (i := 3) sc_kept_range.nd rfl (Or.inl rfl)) pgs_nil))))
      (pss_cons (ps_set (i := 3) sc_kept_range.nd rfl (Or.inl rfl) (pe_callB (call_min2 rfl) (by rfl) B.min (by decide +kernel) (pa_cons (pv 3) (pa_cons (pv 1) pa_nil))))
      (pss_cons (ps_if (pt_cmpR (op_eqX hr.units) (pv 2) pe_str (by rfl)) (pss_one (ps_ret (pe_tup (pa_cons pe_int (pa_cons (pv 3) pa_nil))))) pss_nil)
      (pss_cons (ps_if (pt_cmpR (op_eqX hr.units) (pv 2) pe_str (by rfl)) (pss_one (ps_ret (pe_tup (pa_cons (pe_op op_sub (pv 1) (pv 3)) (pa_cons (pv 1) pa_nil))))) pss_nil)
      (pss_cons (ps_if (pt_cmpR (op_eqX hr.units) (pv 2) pe_str (by rfl)) (pss_one (ps_ret (pe_tup (pa_cons (pv 3) (pa_cons (pv 1) pa_nil))))) pss_nil)
      (pss_one (ps_ret (pe_tup (pa_cons pe_int (pa_cons (pe_op op_sub (pv 1) (pv 3)) pa_nil)))))))))), fun z => (sv_seq (sv_asg (ev_x xv_var) (gt_tup (gts_cons gt_name (gts_cons gt_name gts_nil))))
      (sv_seq (sv_set (ev_cb cb_min2 (av_cons xv_var (av_cons xv_var av_nil))))
      (sv_seq (sv_if (tv_test (ev_bin be_eq xv_var (xv_d ev_str))) (sv_ret (ev_tup (dv_cons ev_int (dv_cons (ev_x xv_var) dv_nil)))) sv_next)
      (sv_seq (sv_if (tv_test (ev_bin be_eq xv_var (xv_d ev_str))) (sv_ret (ev_tup (dv_cons (ev_bin be_ii xv_var xv_var) (dv_cons (ev_x xv_var) dv_nil)))) sv_next)
      (sv_seq (sv_if (tv_test (ev_bin be_eq xv_var (xv_d ev_str))) (sv_ret (ev_tup (dv_cons (ev_x xv_var) (dv_cons (ev_x xv_var) dv_nil)))) sv_next)
      (sv_ret (ev_tup (dv_cons ev_int (dv_cons (ev_bin be_ii xv_var xv_var) dv_nil)))))))))⟩
theorem sc__merged : FnScope ["runs", "merged", "line", "count"] ["runs"] (defScope s__merged) := ⟨rfl, rfl, rfl, by decide +kernel, rfl, by decide +kernel, by decide +kernel⟩
theorem ok__merged {f : Addr} {fd : FuncData} (F : Fun X.K "_merged" "_merged" s__merged f fd) (B : Bt mg) : FnOk P w X.K mg base CX0 1 f fd ["runs"] (SpX X PR.F__merged) :=
  okX (k := 0) F sc__merged (by decide) fun cv A outer s H Q E hr => ⟨_, (pss_cons (ps_set (i := 1) sc__merged.nd rfl (Or.inl rfl) (pe_lst pa_nil))
      (pss_cons (ps_for PassesOwn.never rfl (pi_list (pv 0)) (pg_tup rfl (pgs_cons (pg_name (i := 2) sc__merged.nd rfl (Or.inl rfl)) (pgs_cons (pg_name (i := 3) sc__merged.nd rfl (Or.inl rfl)) pgs_nil))) (pss_one (ps_if (PW.pt (pw_and (pt_truth (pv 1) (by intro; rfl)) (pw_and1 (pt_cmpR (op_eqX hr.units) (pe_ix ix_seq (pe_ix ix_seq (pv 1) (pe_un un_neg pe_int) (fun _ _ => rfl)) pe_int (fun _ _ => rfl)) (pv 2) (by rfl))))) (pss_one (ps_asg (pe_tup (pa_cons (pv 2) (pa_cons (pe_op op_add (pe_ix ix_seq (pe_ix ix_seq (pv 1) (pe_un un_neg pe_int) (fun _ _ => rfl)) pe_int (fun _ _ => rfl)) (pv 3)) pa_nil))) (pg_sub (pv 1) (pe_un un_neg pe_int) set_list))) (pss_one (ps_expr (pe_bm PySem.F.plainAttrs_list PySem.F.slot_list_append PySem.F.type_list_append mt_append (pv 1) (pa_cons (pe_tup (pa_cons (pv 2) (pa_cons (pv 3) pa_nil))) pa_nil)))))))
      (pss_one (ps_ret (pv 1))))), fun z => (sv_seq (sv_own (gv_lst dv_nil))
      (sv_seq (sv_for (iv_list (ev_x xv_var)) (gt_tup (gts_cons gt_name (gts_cons gt_name gts_nil))) (sv_if (tv_and (tv_tru xv_var) (tv_test (ev_bin be_eq (xv_d (ev_bin be_ix (xv_d (ev_bin be_ix xv_var (xv_d (ev_un u_neg ev_int)))) (xv_d ev_int))) xv_var))) (sv_sub (ev_tup (dv_cons (ev_x xv_var) (dv_cons (ev_bin be_ii (xv_d (ev_bin be_ix (xv_d (ev_bin be_ix xv_var (xv_d (ev_un u_neg ev_int)))) (xv_d ev_int))) xv_var) dv_nil))) (ev_un u_neg ev_int)) (sv_drop (ev_lm lm_app (dv_cons (ev_tup (dv_cons (ev_x xv_var) (dv_cons (ev_x xv_var) dv_nil))) dv_nil)))))
      sv_retV))⟩
theorem sc__apply : FnScope ["command", "lines", "line", "count", "start", "end"] ["command", "lines"] (defScope s__apply) := ⟨rfl, rfl, rfl, by decide +kernel, rfl, by decide +kernel, by decide +kernel⟩
theorem ok__apply {f : Addr} {fd : FuncData} (F : Fun X.K "_apply" "_apply" s__apply f fd) (B : Bt mg) (G__merged : DL.Df P w X.K mg base 1 "_merged" ["runs"] (SpX X PR.F__merged)) (G_kept_range : DL.Df P w X.K mg base 1 "kept_range" ["command", "length"] (SpX X PR.F_kept_range)) : FnOk P w X.K mg base CX0 2 f fd ["command", "lines"] (SpX X PR.F__apply) :=
  okX (k := 1) F sc__apply (by decide) fun cv A outer s H Q E hr => ⟨_, (pss_cons (ps_if (pt_cmpR (op_eqX hr.units) (pv 0) (pe_tup (pa_cons pe_str pa_nil)) (by rfl)) (pss_one (ps_ret (pe_revL (pv 1)))) pss_nil)
      (pss_cons (ps_if (pt_cmpR (op_eqX hr.units) (pv 0) (pe_tup (pa_cons pe_str pa_nil)) (by rfl)) (pss_one (ps_ret (DL.pe_lcD s H f [] [] (own := [("line", 2), ("count", 3)]) rfl sc__apply.nd (pi_list (DL.pe_df G__merged hr (by decide) (by rfl) (pa_cons (DL.pe_lcD s H f [] [] (own := [("line", 2)]) rfl sc__apply.nd (pi_list (pv 1)) (blkOk_by (own := [("line", 2)]) (N := ["command", "lines", "line", "count", "start", "end"]) (sc := defScope s__apply) (by decide +kernel)) (fun _ _ _ _ _ => (pg_name (i := 2) sc__apply.nd rfl (Or.inl rfl))) (fun _ _ _ _ _ => pts_nil) (fun _ _ _ _ _ => (pe_tup (pa_cons (pv 2) (pa_cons pe_int pa_nil))))) pa_nil))) (blkOk_by (own := [("line", 2), ("count", 3)]) (N := ["command", "lines", "line", "count", "start", "end"]) (sc := defScope s__apply) (by decide +kernel)) (fun _ _ _ _ _ => (pg_tup rfl (pgs_cons (pg_name (i := 2) sc__apply.nd rfl (Or.inl rfl)) (pgs_cons (pg_name (i := 3) sc__apply.nd rfl (Or.inl rfl)) pgs_nil)))) (fun _ _ _ _ _ => pts_nil) (fun _ _ _ _ _ => (pv 2))))) pss_nil)
      (pss_cons (ps_if (pt_cmpR (op_eqX hr.units) (pv 0) (pe_tup (pa_cons pe_str pa_nil)) (by rfl)) (pss_one (ps_ret (pe_callB (SS.cr_sortT rfl) (by rfl) B.sorted (by decide +kernel) (pa_cons (pe_callTy (SS.cr_setT rfl) (by rfl) B.set (by decide +kernel) (pa_cons (pv 1) pa_nil)) pa_nil)))) pss_nil)
      (pss_cons (ps_asg (DL.pe_df G_kept_range hr (by decide) (by rfl) (pa_cons (pv 0) (pa_cons (pe_callB call_len_seq (by rfl) B.len PySem.boot_len (pa_cons (pv 1) pa_nil)) pa_nil))) (pg_tup rfl (pgs_cons (pg_name (i := 4) sc__apply.nd rfl (Or.inl rfl)) (pgs_cons (pg_name (i := 5) sc__apply.nd rfl (Or.inl rfl)) pgs_nil))))
      (pss_one (ps_ret (pe_slice sl_list (pv 1) (po_some (pv 4)) (po_some (pv 5))))))))), fun z => (sv_seq (sv_if (tv_test (ev_bin be_eq xv_var (xv_d (ev_tup (dv_cons ev_str dv_nil))))) (sv_retG (gv_rev xv_var)) sv_next)
      (sv_seq (sv_if (tv_test (ev_bin be_eq xv_var (xv_d (ev_tup (dv_cons ev_str dv_nil))))) (sv_retG (gv_lc (vs := [2, 3]) (iv_list (ev_r (rv_call (av_cons (xv_d (ev_g (gv_lc (vs := [2]) (iv_list (ev_x xv_var)) (gcv_name (by decide)) tv_yes (ev_tup (dv_cons (ev_x xv_var) (dv_cons ev_int dv_nil)))))) av_nil)))) (gcv_tup (gcvs_cons (gcv_name (by decide)) (gcvs_cons (gcv_name (by decide)) gcvs_nil))) tv_yes (ev_x xv_var))) sv_next)
      (sv_seq (sv_if (tv_test (ev_bin be_eq xv_var (xv_d (ev_tup (dv_cons ev_str dv_nil))))) (sv_retG (gv_sortset xv_var)) sv_next)
      (sv_seq (sv_asg (ev_r (rv_call (av_cons (xv_d (ev_x xv_var)) (av_cons (xv_d (ev_cb cb_len (av_cons xv_var av_nil))) av_nil)))) (gt_tup (gts_cons gt_name (gts_cons gt_name gts_nil))))
      (sv_retG (gv_slice xv_var (ov_yes (ev_x xv_var)) (ov_yes (ev_x xv_var))))))))⟩
theorem sc_run : FnScope ["pipeline", "lines", "result", "command"] ["pipeline", "lines"] (defScope s_run) := ⟨rfl, rfl, rfl, by decide +kernel, rfl, by decide +kernel, by decide +kernel⟩
theorem ok_run {f : Addr} {fd : FuncData} (F : Fun X.K "run" "run" s_run f fd) (B : Bt mg) (G_check_pipeline : DL.Df P w X.K mg base 2 "check_pipeline" ["pipeline"] (SpX X PR.F_check_pipeline)) (G__apply : DL.Df P w X.K mg base 2 "_apply" ["command", "lines"] (SpX X PR.F__apply)) : FnOk P w X.K mg base CX0 3 f fd ["pipeline", "lines"] (SpX X PR.F_run) :=
  okX (k := 2) F sc_run (by decide) fun cv A outer s H Q E hr => ⟨_, (pss_cons (ps_expr (DL.pe_df G_check_pipeline hr (by decide) (by rfl) (pa_cons (pv 0) pa_nil)))
      (pss_cons (ps_set (i := 2) sc_run.nd rfl (Or.inl rfl) (pe_callTy call_list_of (by rfl) B.list (by decide +kernel) (pa_cons (pv 1) pa_nil)))
      (pss_cons (ps_for PassesOwn.never rfl (pi_list (pv 0)) (pg_name (i := 3) sc_run.nd rfl (Or.inl rfl)) (pss_one (ps_set (i := 2) sc_run.nd rfl (Or.inl rfl) (DL.pe_df G__apply hr (by decide) (by rfl) (pa_cons (pv 3) (pa_cons (pv 2) pa_nil))))))
      (pss_one (ps_ret (pv 2)))))), fun z => (sv_seq (sv_dropR (rv_call (av_cons (xv_d (ev_x xv_var)) av_nil)))
      (sv_seq (sv_own (gv_cb cg_list (av_cons xv_var av_nil)))
      (sv_seq (sv_for (iv_list (ev_x xv_var)) gt_name (sv_setR (rv_call (av_cons (xv_d (ev_x xv_var)) (av_cons (xv_d (ev_x xv_var)) av_nil)))))
      sv_retV)))⟩
theorem sc__law_rng : FnScope ["script", "digits", "seed", "cell", "size"] ["script"] (defScope s__law_rng) := ⟨rfl, rfl, rfl, by decide +kernel, rfl, by decide +kernel, by decide +kernel⟩
theorem ok__law_rng {f : Addr} {fd : FuncData} (F : Fun X.K "_law_rng" "_law_rng" s__law_rng f fd) (B : Bt mg) : FnOk P w X.K mg base CX0 1 f fd ["script"] (SpX X FA.F__law_rng) :=
  okX (k := 0) F sc__law_rng (by decide) fun cv A outer s H Q E hr => ⟨_, (pss_cons (ps_asg (pe_tup (pa_cons pe_int (pa_cons pe_int pa_nil))) (pg_tup rfl (pgs_cons (pg_name (i := 1) sc__law_rng.nd rfl (Or.inl rfl)) (pgs_cons (pg_name (i := 2) sc__law_rng.nd rfl (Or.inl rfl)) pgs_nil))))
      (pss_cons (ps_for PassesOwn.never rfl (pi_list (pe_slice sl_list (pv 0) po_none (po_some pe_int))) (pg_name (i := 3) sc__law_rng.nd rfl (Or.inl rfl)) (pss_cons (ps_set (i := 4) sc__law_rng.nd rfl (Or.inl rfl) (pe_callB call_abs (by rfl) B.abs (by decide +kernel) (pa_cons (pv 3) pa_nil)))
      (pss_cons (ps_if (pt_cmpR op_ge (pv 4) (pe_op DL.op_powW pe_int pe_int) (by rfl)) (pss_one (ps_set (i := 1) sc__law_rng.nd rfl (Or.inl rfl) (pe_op op_add (pe_op op_mulW (pv 1) (pe_op DL.op_powW pe_int pe_int)) (pe_op op_mod (pv 4) (pe_op DL.op_powW pe_int pe_int))))) pss_nil)
      (pss_one (ps_set (i := 2) sc__law_rng.nd rfl (Or.inl rfl) (pe_op op_mod (pe_op op_add (pe_op op_add (pe_op op_mulW (pv 2) pe_int) (pe_op op_mod (pv 3) pe_int)) pe_int) pe_int))))))
      (pss_one (ps_ret (pe_lst (pa_cons (pv 1) (pa_cons (pv 2) (pa_cons pe_int pa_nil)))))))), fun z => (sv_seq (sv_asg (ev_tup (dv_cons ev_int (dv_cons ev_int dv_nil))) (gt_tup (gts_cons gt_name (gts_cons gt_name gts_nil))))
      (sv_seq (sv_for (iv_list (ev_g (gv_slice xv_var ov_no (ov_yes ev_int)))) gt_name (sv_seq (sv_set (ev_cb cb_abs (av_cons xv_var av_nil)))
      (sv_seq (sv_if (tv_test (ev_bin be_ib xv_var (xv_d (ev_bin be_ci (xv_d ev_int) (xv_d ev_int))))) (sv_set (ev_bin be_ii (xv_d (ev_bin be_ci xv_var (xv_d (ev_bin be_ci (xv_d ev_int) (xv_d ev_int))))) (xv_d (ev_bin be_ci xv_var (xv_d (ev_bin be_ci (xv_d ev_int) (xv_d ev_int))))))) sv_next)
      (sv_set (ev_bin be_ci (xv_d (ev_bin be_ii (xv_d (ev_bin be_ii (xv_d (ev_bin be_ci xv_var (xv_d ev_int))) (xv_d (ev_bin be_ci xv_var (xv_d ev_int))))) (xv_d ev_int))) (xv_d ev_int))))))
      (sv_retG (gv_lst (dv_cons (ev_x xv_var) (dv_cons (ev_x xv_var) (dv_cons ev_int dv_nil)))))))⟩
theorem sc__law_draw : FnScope ["rng", "limit", "found", "mixed"] ["rng", "limit"] (defScope s__law_draw) := ⟨rfl, rfl, rfl, by decide +kernel, rfl, by decide +kernel, by decide +kernel⟩
theorem ok__law_draw {f : Addr} {fd : FuncData} (F : Fun X.K "_law_draw" "_law_draw" s__law_draw f fd) (B : Bt mg) : FnOk P w X.K mg base CX0 1 f fd ["rng", "limit"] (SpX X FA.F__law_draw) :=
  okX (k := 0) F sc__law_draw (by decide) fun cv A outer s H Q E hr => ⟨_, (pss_cons (ps_if (pt_cmpR op_gt (pe_ix ix_seq (pv 0) pe_int (fun _ _ => rfl)) pe_int (by rfl)) (pss_cons (ps_set (i := 2) sc__law_draw.nd rfl (Or.inl rfl) (pe_op op_mod (pe_ix ix_seq (pv 0) pe_int (fun _ _ => rfl)) (pv 1)))
      (pss_cons (ps_asg (pe_op op_fdivW (pe_ix ix_seq (pv 0) pe_int (fun _ _ => rfl)) (pv 1)) (pg_sub (pv 0) pe_int set_list))
      (pss_one (ps_ret (pv 2))))) pss_nil)
      (pss_cons (ps_asg (pe_op op_add (pe_ix ix_seq (pv 0) pe_int (fun _ _ => rfl)) pe_int) (pg_sub (pv 0) pe_int set_list))
      (pss_cons (ps_set (i := 3) sc__law_draw.nd rfl (Or.inl rfl) (pe_op op_mod (pe_op DL.op_powW (pe_op op_add (pe_ix ix_seq (pv 0) pe_int (fun _ _ => rfl)) (pe_op op_mulW pe_int (pe_ix ix_seq (pv 0) pe_int (fun _ _ => rfl)))) pe_int) pe_int))
      (pss_cons (ps_set (i := 3) sc__law_draw.nd rfl (Or.inl rfl) (pe_op op_mod (pe_op DL.op_powW (pe_op op_add (pv 3) (pe_op op_mulW pe_int (pe_ix ix_seq (pv 0) pe_int (fun _ _ => rfl)))) pe_int) pe_int))
      (pss_one (ps_ret (pe_op op_mod (pe_op op_fdivW (pv 3) pe_int) (pv 1)))))))), fun z => (sv_seq (sv_if (tv_test (ev_bin be_ib (xv_d (ev_bin be_ix xv_var (xv_d ev_int))) (xv_d ev_int))) (sv_seq (sv_set (ev_bin be_ci (xv_d (ev_bin be_ix xv_var (xv_d ev_int))) xv_var))
      (sv_seq (sv_sub (ev_bin be_ci (xv_d (ev_bin be_ix xv_var (xv_d ev_int))) xv_var) ev_int)
      sv_retV)) sv_next)
      (sv_seq (sv_sub (ev_bin be_ii (xv_d (ev_bin be_ix xv_var (xv_d ev_int))) (xv_d ev_int)) ev_int)
      (sv_seq (sv_set (ev_bin be_ci (xv_d (ev_bin be_ci (xv_d (ev_bin be_ii (xv_d (ev_bin be_ix xv_var (xv_d ev_int))) (xv_d (ev_bin be_ci (xv_d ev_int) (xv_d (ev_bin be_ix xv_var (xv_d ev_int))))))) (xv_d ev_int))) (xv_d ev_int)))
      (sv_seq (sv_set (ev_bin be_ci (xv_d (ev_bin be_ci (xv_d (ev_bin be_ii xv_var (xv_d (ev_bin be_ci (xv_d ev_int) (xv_d (ev_bin be_ix xv_var (xv_d ev_int))))))) (xv_d ev_int))) (xv_d ev_int)))
      (sv_ret (ev_bin be_ci (xv_d (ev_bin be_ci xv_var (xv_d ev_int))) xv_var))))))⟩
theorem sc__law_kinds : FnScope ["rng", "pool", "turn"] ["rng"] (defScope s__law_kinds) := ⟨rfl, rfl, rfl, by decide +kernel, rfl, by decide +kernel, by decide +kernel⟩
theorem ok__law_kinds {f : Addr} {fd : FuncData} (F : Fun X.K "_law_kinds" "_law_kinds" s__law_kinds f fd) (B : Bt mg) (G__law_draw : DL.Df P w X.K mg base 1 "_law_draw" ["rng", "limit"] (SpX X FA.F__law_draw)) : FnOk P w X.K mg base CX0 2 f fd ["rng"] (SpX X FA.F__law_kinds) :=
  okX (k := 1) F sc__law_kinds (by decide) fun cv A outer s H Q E hr => ⟨_, (pss_cons (ps_set (i := 1) sc__law_kinds.nd rfl (Or.inr rfl) (pe_lst (pa_cons pe_str (pa_cons pe_str (pa_cons pe_str (pa_cons pe_str (pa_cons pe_str (pa_cons pe_str (pa_cons pe_str (pa_cons pe_str (pa_cons pe_str (pa_cons pe_str (pa_cons pe_str (pa_cons pe_str (pa_cons pe_str pa_nil)))))))))))))))
      (pss_cons (ps_set (i := 1) sc__law_kinds.nd rfl (Or.inr rfl) (pe_op op_cat (pv 1) (pe_lst (pa_cons pe_str (pa_cons pe_str (pa_cons pe_str (pa_cons pe_str (pa_cons pe_str (pa_cons pe_str (pa_cons pe_str pa_nil))))))))))
      (pss_one (ps_ret (DL.pe_lcD s H f [] [] (own := [("turn", 2)]) rfl sc__law_kinds.nd (pi_range1 (by rfl) B.range (pa_cons (pe_op op_add pe_int (DL.pe_df G__law_draw hr (by decide) (by rfl) (pa_cons (pv 0) (pa_cons (pe_ix ix_seq (pe_lst (pa_cons pe_int (pa_cons pe_int pa_nil))) (DL.pe_df G__law_draw hr (by decide) (by rfl) (pa_cons (pv 0) (pa_cons pe_int pa_nil))) (fun _ _ => rfl)) pa_nil)))) pa_nil)) (blkOk_by (own := [("turn", 2)]) (N := ["rng", "pool", "turn"]) (sc := defScope s__law_kinds) (by decide +kernel)) (fun _ _ _ _ _ => (pg_name (i := 2) sc__law_kinds.nd rfl (Or.inl rfl))) (fun _ _ _ _ _ => pts_nil) (fun _ _ _ _ _ => (pe_bm PySem.F.plainAttrs_list PySem.F.slot_list_pop PySem.F.type_list_pop mt_popAt (pv 1) (pa_cons (DL.pe_df G__law_draw hr (by decide) (by rfl) (pa_cons (pv 0) (pa_cons (pe_callB call_len_seq (by rfl) B.len PySem.boot_len (pa_cons (pv 1) pa_nil)) pa_nil))) pa_nil)))))))), fun z => (sv_seq (sv_own (gv_lst (dv_cons ev_str (dv_cons ev_str (dv_cons ev_str (dv_cons ev_str (dv_cons ev_str (dv_cons ev_str (dv_cons ev_str (dv_cons ev_str (dv_cons ev_str (dv_cons ev_str (dv_cons ev_str (dv_cons ev_str (dv_cons ev_str dv_nil)))))))))))))))
      (sv_seq (sv_own (gv_bin bg_cat xv_var (xv_d (ev_g (gv_lst (dv_cons ev_str (dv_cons ev_str (dv_cons ev_str (dv_cons ev_str (dv_cons ev_str (dv_cons ev_str (dv_cons ev_str dv_nil))))))))))))
      (sv_retG (gv_lc (vs := [2]) (iv_range1 (dv_cons (ev_bin be_ii (xv_d ev_int) (xv_d (ev_r (rv_call (av_cons xv_var (av_cons (xv_d (ev_bin be_ix (xv_d (ev_g (gv_lst (dv_cons ev_int (dv_cons ev_int dv_nil))))) (xv_d (ev_r (rv_call (av_cons xv_var (av_cons (xv_d ev_int) av_nil))))))) av_nil)))))) dv_nil)) (gcv_name (by decide)) tv_yes (ev_lm lm_popAt (dv_cons (ev_r (rv_call (av_cons xv_var (av_cons (xv_d (ev_cb cb_len (av_cons xv_var av_nil))) av_nil)))) dv_nil))))))⟩
theorem sc__law_items : FnScope ["rng", "kinds_here", "most", "way", "found", "turn", "one"] ["rng", "kinds_here", "most"] (defScope s__law_items) := ⟨rfl, rfl, rfl, by decide +kernel, rfl, by decide +kernel, by decide +kernel⟩
theorem ok__law_items {f : Addr} {fd : FuncData} (F : Fun X.K "_law_items" "_law_items" s__law_items f fd) (B : Bt mg) (G__law_draw : DL.Df P w X.K mg base 1 "_law_draw" ["rng", "limit"] (SpX X FA.F__law_draw)) : FnOk P w X.K mg base CX0 2 f fd ["rng", "kinds_here", "most"] (SpX X FA.F__law_items) :=
  okX (k := 1) F sc__law_items (by decide) fun cv A outer s H Q E hr => ⟨_, (pss_cons (ps_set (i := 3) sc__law_items.nd rfl (Or.inl rfl) (DL.pe_df G__law_draw hr (by decide) (by rfl) (pa_cons (pv 0) (pa_cons pe_int pa_nil))))
      (pss_cons (ps_set (i := 4) sc__law_items.nd rfl (Or.inl rfl) (pe_lst pa_nil))
      (pss_cons (ps_for PassesOwn.never rfl (pi_range1 (by rfl) B.range (pa_cons (DL.pe_df G__law_draw hr (by decide) (by rfl) (pa_cons (pv 0) (pa_cons (pe_op op_add (pv 2) pe_int) pa_nil))) pa_nil)) (pg_name (i := 5) sc__law_items.nd rfl (Or.inl rfl)) (pss_cons (ps_set (i := 6) sc__law_items.nd rfl (Or.inl rfl) (pe_ix ix_seq (pv 1) (DL.pe_df G__law_draw hr (by decide) (by rfl) (pa_cons (pv 0) (pa_cons (pe_callB call_len_seq (by rfl) B.len PySem.boot_len (pa_cons (pv 1) pa_nil)) pa_nil))) (fun _ _ => rfl)))
      (pss_cons (ps_if (PW.pt (pw_and (pt_cmpR (op_eqX hr.units) (pv 3) pe_int (by rfl)) (pw_and (pt_cmpR (op_neX hr.units) (pv 4) (pe_lst pa_nil) (by rfl)) (pw_and1 (pt_cmpR op_gt (DL.pe_df G__law_draw hr (by decide) (by rfl) (pa_cons (pv 0) (pa_cons pe_int pa_nil))) pe_int (by rfl)))))) (pss_one (ps_set (i := 6) sc__law_items.nd rfl (Or.inl rfl) (pe_ix ix_seq (pv 4) (pe_un un_neg pe_int) (fun _ _ => rfl)))) pss_nil)
      (pss_cons (ps_if (pt_cmpR (op_eqX hr.units) (pv 3) pe_int (by rfl)) (pss_one (ps_set (i := 6) sc__law_items.nd rfl (Or.inl rfl) (pe_ix ix_seq (pv 1) (pe_op op_mod (pv 5) (pe_callB call_len_seq (by rfl) B.len PySem.boot_len (pa_cons (pv 1) pa_nil))) (fun _ _ => rfl)))) pss_nil)
      (pss_one (ps_expr (pe_bm PySem.F.plainAttrs_list PySem.F.slot_list_append PySem.F.type_list_append mt_append (pv 4) (pa_cons (pv 6) pa_nil))))))))
      (pss_one (ps_ret (pv 4)))))), fun z => (sv_seq (sv_setR (rv_call (av_cons xv_var (av_cons (xv_d ev_int) av_nil))))
      (sv_seq (sv_own (gv_lst dv_nil))
      (sv_seq (sv_for (iv_range1 (dv_cons (ev_r (rv_call (av_cons xv_var (av_cons (xv_d (ev_bin be_ii xv_var (xv_d ev_int))) av_nil)))) dv_nil)) gt_name (sv_seq (sv_set (ev_bin be_ix xv_var (xv_d (ev_r (rv_call (av_cons xv_var (av_cons (xv_d (ev_cb cb_len (av_cons xv_var av_nil))) av_nil)))))))
      (sv_seq (sv_if (tv_and (tv_test (ev_bin be_eq xv_var (xv_d ev_int))) (tv_and (tv_test (ev_bin be_ne xv_var (xv_d (ev_g (gv_lst dv_nil))))) (tv_test (ev_bin be_ib (xv_d (ev_r (rv_call (av_cons xv_var (av_cons (xv_d ev_int) av_nil))))) (xv_d ev_int))))) (sv_set (ev_bin be_ix xv_var (xv_d (ev_un u_neg ev_int)))) sv_next)
      (sv_seq (sv_if (tv_test (ev_bin be_eq xv_var (xv_d ev_int))) (sv_set (ev_bin be_ix xv_var (xv_d (ev_bin be_ci xv_var (xv_d (ev_cb cb_len (av_cons xv_var av_nil))))))) sv_next)
      (sv_drop (ev_lm lm_app (dv_cons (ev_x xv_var) dv_nil)))))))
      sv_retV)))⟩
theorem sc__law_command : FnScope ["rng", "size", "name", "some"] ["rng", "size"] (defScope s__law_command) := ⟨rfl, rfl, rfl, by decide +kernel, rfl, by decide +kernel, by decide +kernel⟩
theorem ok__law_command {f : Addr} {fd : FuncData} (F : Fun X.K "_law_command" "_law_command" s__law_command f fd) (B : Bt mg) (G__law_draw : DL.Df P w X.K mg base 1 "_law_draw" ["rng", "limit"] (SpX X FA.F__law_draw)) : FnOk P w X.K mg base CX0 2 f fd ["rng", "size"] (SpX X FA.F__law_command) :=
  okX (k := 1) F sc__law_command (by decide) fun cv A outer s H Q E hr => ⟨_, (pss_cons (ps_set (i := 2) sc__law_command.nd rfl (Or.inl rfl) (pe_ix ix_seq (pe_lst (pa_cons pe_str (pa_cons pe_str (pa_cons pe_str (pa_cons pe_str (pa_cons pe_str (pa_cons pe_str (pa_cons pe_str pa_nil)))))))) (DL.pe_df G__law_draw hr (by decide) (by rfl) (pa_cons (pv 0) (pa_cons pe_int pa_nil))) (fun _ _ => rfl)))
      (pss_cons (ps_if (pt_cmpR (op_inX (un65 hr)) (pv 2) (pe_tup (pa_cons pe_str (pa_cons pe_str (pa_cons pe_str pa_nil)))) (by rfl)) (pss_one (ps_ret (pe_tup (pa_cons (pv 2) pa_nil)))) pss_nil)
      (pss_cons (ps_set (i := 3) sc__law_command.nd rfl (Or.inl rfl) (pe_lst (pa_cons pe_int (pa_cons (DL.pe_df G__law_draw hr (by decide) (by rfl) (pa_cons (pv 0) (pa_cons pe_int pa_nil))) (pa_cons (DL.pe_df G__law_draw hr (by decide) (by rfl) (pa_cons (pv 0) (pa_cons (pe_op op_add (pv 1) pe_int) pa_nil))) (pa_cons (pe_callB (call_max2 rfl) (by rfl) B.max (by decide +kernel) (pa_cons pe_int (pa_cons (pe_op op_sub (pv 1) (DL.pe_df G__law_draw hr (by decide) (by rfl) (pa_cons (pv 0) (pa_cons pe_int pa_nil)))) pa_nil))) (pa_cons (pe_op op_sub (pe_op DL.op_powW pe_int pe_int) pe_int) pa_nil)))))))
      (pss_one (ps_ret (pe_tup (pa_cons (pv 2) (pa_cons (pe_ix ix_seq (pv 3) (pe_ix ix_seq (pe_lst (pa_cons pe_int (pa_cons pe_int (pa_cons pe_int (pa_cons pe_int (pa_cons pe_int (pa_cons pe_int (pa_cons pe_int (pa_cons pe_int (pa_cons pe_int pa_nil)))))))))) (DL.pe_df G__law_draw hr (by decide) (by rfl) (pa_cons (pv 0) (pa_cons pe_int pa_nil))) (fun _ _ => rfl)) (fun _ _ => rfl)) pa_nil)))))))), fun z => (sv_seq (sv_set (ev_bin be_ix (xv_d (ev_g (gv_lst (dv_cons ev_str (dv_cons ev_str (dv_cons ev_str (dv_cons ev_str (dv_cons ev_str (dv_cons ev_str (dv_cons ev_str dv_nil)))))))))) (xv_d (ev_r (rv_call (av_cons xv_var (av_cons (xv_d ev_int) av_nil)))))))
      (sv_seq (sv_if (tv_test (ev_bin be_in xv_var (xv_d (ev_tup (dv_cons ev_str (dv_cons ev_str (dv_cons ev_str dv_nil))))))) (sv_ret (ev_tup (dv_cons (ev_x xv_var) dv_nil))) sv_next)
      (sv_seq (sv_own (gv_lst (dv_cons ev_int (dv_cons (ev_r (rv_call (av_cons xv_var (av_cons (xv_d ev_int) av_nil)))) (dv_cons (ev_r (rv_call (av_cons xv_var (av_cons (xv_d (ev_bin be_ii xv_var (xv_d ev_int))) av_nil)))) (dv_cons (ev_cb cb_max2 (av_cons (xv_d ev_int) (av_cons (xv_d (ev_bin be_ii xv_var (xv_d (ev_r (rv_call (av_cons xv_var (av_cons (xv_d ev_int) av_nil))))))) av_nil))) (dv_cons (ev_bin be_ii (xv_d (ev_bin be_ci (xv_d ev_int) (xv_d ev_int))) (xv_d ev_int)) dv_nil)))))))
      (sv_ret (ev_tup (dv_cons (ev_x xv_var) (dv_cons (ev_bin be_ix xv_var (xv_d (ev_bin be_ix (xv_d (ev_g (gv_lst (dv_cons ev_int (dv_cons ev_int (dv_cons ev_int (dv_cons ev_int (dv_cons ev_int (dv_cons ev_int (dv_cons ev_int (dv_cons ev_int (dv_cons ev_int dv_nil)))))))))))) (xv_d (ev_r (rv_call (av_cons xv_var (av_cons (xv_d ev_int) av_nil)))))))) dv_nil)))))))⟩
theorem sc__law_plan : FnScope ["rng", "most", "size", "turn"] ["rng", "most", "size"] (defScope s__law_plan) := ⟨rfl, rfl, rfl, by decide +kernel, rfl, by decide +kernel, by decide +kernel⟩
theorem ok__law_plan {f : Addr} {fd : FuncData} (F : Fun X.K "_law_plan" "_law_plan" s__law_plan f fd) (B : Bt mg) (G__law_draw : DL.Df P w X.K mg base 1 "_law_draw" ["rng", "limit"] (SpX X FA.F__law_draw)) (G__law_command : DL.Df P w X.K mg base 2 "_law_command" ["rng", "size"] (SpX X FA.F__law_command)) : FnOk P w X.K mg base CX0 3 f fd ["rng", "most", "size"] (SpX X FA.F__law_plan) :=
  okX (k := 2) F sc__law_plan (by decide) fun cv A outer s H Q E hr => ⟨_, (pss_one (ps_ret (DL.pe_lcD s H f [] [] (own := [("turn", 3)]) rfl sc__law_plan.nd (pi_range1 (by rfl) B.range (pa_cons (DL.pe_df G__law_draw hr (by decide) (by rfl) (pa_cons (pv 0) (pa_cons (pe_op op_add (pv 1) pe_int) pa_nil))) pa_nil)) (blkOk_by (own := [("turn", 3)]) (N := ["rng", "most", "size", "turn"]) (sc := defScope s__law_plan) (by decide +kernel)) (fun _ _ _ _ _ => (pg_name (i := 3) sc__law_plan.nd rfl (Or.inl rfl))) (fun _ _ _ _ _ => pts_nil) (fun _ _ _ _ _ => (DL.pe_df G__law_command hr (by decide) (by rfl) (pa_cons (pv 0) (pa_cons (pv 2) pa_nil))))))), fun z => (sv_retG (gv_lc (vs := [3]) (iv_range1 (dv_cons (ev_r (rv_call (av_cons xv_var (av_cons (xv_d (ev_bin be_ii xv_var (xv_d ev_int))) av_nil)))) dv_nil)) (gcv_name (by decide)) tv_yes (ev_r (rv_call (av_cons xv_var (av_cons (xv_d (ev_x xv_var)) av_nil))))))⟩
theorem sc__law_step : FnScope ["command", "items", "name", "amount", "number", "spot", "found", "item", "low", "high"] ["command", "items"] (defScope s__law_step) := ⟨rfl, rfl, rfl, by decide +kernel, rfl, by decide +kernel, by decide +kernel⟩
theorem ok__law_step {f : Addr} {fd : FuncData} (F : Fun X.K "_law_step" "_law_step" s__law_step f fd) (B : Bt mg) : FnOk P w X.K mg base CX0 1 f fd ["command", "items"] (SpX X FA.F__law_step) :=
  okX (k := 0) F sc__law_step (by decide) fun cv A outer s H Q E hr => ⟨_, (pss_cons (ps_asg (pe_tup (pa_cons (pe_ix ix_seq (pv 0) pe_int (fun _ _ => rfl)) (pa_cons (pe_callB call_len_seq (by rfl) B.len PySem.boot_len (pa_cons (pv 1) pa_nil)) pa_nil))) (pg_tup rfl (pgs_cons (pg_name (i := 2) sc__law_step.nd rfl (Or.inl rfl)) (pgs_cons (pg_name (i := 3) sc__law_step.nd rfl (Or.inr rfl)) pgs_nil))))
      (pss_cons (ps_set (i := 4) sc__law_step.nd rfl (Or.inl rfl) (pe_ifExp (pt_cmpR op_gt (pe_callB call_len_seq (by rfl) B.len PySem.boot_len (pa_cons (pv 0) pa_nil)) pe_int (by rfl)) (pe_ix ix_seq (pv 0) pe_int (fun _ _ => rfl)) pe_int))
      (pss_cons (ps_if (pt_cmpR (op_eqX hr.units) (pv 2) pe_str (by rfl)) (pss_one (ps_ret (DL.pe_lcD s H f [] [] (own := [("spot", 5)]) rfl sc__law_step.nd (pi_range1 (by rfl) B.range (pa_cons (pv 3) pa_nil)) (blkOk_by (own := [("spot", 5)]) (N := ["command", "items", "name", "amount", "number", "spot", "found", "item", "low", "high"]) (sc := defScope s__law_step) (by decide +kernel)) (fun _ _ _ _ _ => (pg_name (i := 5) sc__law_step.nd rfl (Or.inl rfl))) (fun _ _ _ _ _ => pts_nil) (fun _ _ _ _ _ => (pe_ix ix_seq (pv 1) (pe_op op_sub (pe_op op_sub (pv 3) pe_int) (pv 5)) (fun _ _ => rfl)))))) pss_nil)
      (pss_cons (ps_if (pt_cmpR (op_eqX hr.units) (pv 2) pe_str (by rfl)) (pss_one (ps_ret (DL.pe_lcD s H f [] [] (own := [("spot", 5)]) rfl sc__law_step.nd (pi_range1 (by rfl) B.range (pa_cons (pv 3) pa_nil)) (blkOk_by (own := [("spot", 5)]) (N := ["command", "items", "name", "amount", "number", "spot", "found", "item", "low", "high"]) (sc := defScope s__law_step) (by decide +kernel)) (fun _ _ _ _ _ => (pg_name (i := 5) sc__law_step.nd rfl (Or.inl rfl))) (fun _ _ _ _ _ => (pts_one (PW.pt (pw_or (pt_cmpR (op_eqX hr.units) (pv 5) pe_int (by rfl)) (pw_or1 (pt_cmpR (op_neX hr.units) (pe_ix ix_seq (pv 1) (pv 5) (fun _ _ => rfl)) (pe_ix ix_seq (pv 1) (pe_op op_sub (pv 5) pe_int) (fun _ _ => rfl)) (by rfl))))))) (fun _ _ _ _ _ => (pe_ix ix_seq (pv 1) (pv 5) (fun _ _ => rfl)))))) pss_nil)
      (pss_cons (ps_if (pt_cmpR (op_eqX hr.units) (pv 2) pe_str (by rfl)) (pss_cons (ps_set (i := 6) sc__law_step.nd rfl (Or.inl rfl) (pe_lst pa_nil))
      (pss_cons (ps_for PassesOwn.never rfl (pi_list (pv 1)) (pg_name (i := 7) sc__law_step.nd rfl (Or.inl rfl)) (pss_one (ps_if (pt_cmpR (op_notInX (un65 hr)) (pv 7) (pv 6) (by rfl)) (pss_one (ps_expr (pe_bm PySem.F.plainAttrs_list PySem.F.slot_list_append PySem.F.type_list_append mt_append (pv 6) (pa_cons (pv 7) pa_nil)))) pss_nil)))
      (pss_one (ps_ret (pe_callB cr_sortedS (by rfl) B.sorted (by decide +kernel) (pa_cons (pv 6) pa_nil)))))) pss_nil)
      (pss_cons (ps_set (i := 8) sc__law_step.nd rfl (Or.inr rfl) (pe_dget (Nat.lt_of_le_of_lt (Nat.add_le_add_left (by decide) _) hr.units) (pe_disp (pps_cons pe_str pe_int (pps_cons pe_str pe_int (pps_cons pe_str (pv 4) (pps_cons pe_str (pe_op op_sub (pv 3) (pv 4)) pps_nil)))) (by rfl) (by rfl) (List.cons_ne_nil _ _) (Nat.le_of_ble_eq_true rfl)) (pv 2) (fun _ _ => rfl)))
      (pss_cons (ps_set (i := 9) sc__law_step.nd rfl (Or.inr rfl) (pe_dget (Nat.lt_of_le_of_lt (Nat.add_le_add_left (by decide) _) hr.units) (pe_disp (pps_cons pe_str (pv 4) (pps_cons pe_str (pe_op op_sub (pv 3) (pv 4)) (pps_cons pe_str (pv 3) (pps_cons pe_str (pv 3) pps_nil)))) (by rfl) (by rfl) (List.cons_ne_nil _ _) (Nat.le_of_ble_eq_true rfl)) (pv 2) (fun _ _ => rfl)))
      (pss_one (ps_ret (DL.pe_lcD s H f [] [] (own := [("spot", 5)]) rfl sc__law_step.nd (pi_range1 (by rfl) B.range (pa_cons (pv 3) pa_nil)) (blkOk_by (own := [("spot", 5)]) (N := ["command", "items", "name", "amount", "number", "spot", "found", "item", "low", "high"]) (sc := defScope s__law_step) (by decide +kernel)) (fun _ _ _ _ _ => (pg_name (i := 5) sc__law_step.nd rfl (Or.inl rfl))) (fun _ _ _ _ _ => (pts_one (pt_chain op_le op_lt (pv 8) (pv 5) (pv 9)))) (fun _ _ _ _ _ => (pe_ix ix_seq (pv 1) (pv 5) (fun _ _ => rfl))))))))))))), fun z => (sv_seq (sv_asg (ev_tup (dv_cons (ev_bin be_ix xv_var (xv_d ev_int)) (dv_cons (ev_cb cb_len (av_cons xv_var av_nil)) dv_nil))) (gt_tup (gts_cons gt_name (gts_cons gt_name gts_nil))))
      (sv_seq (sv_set (ev_if (tv_test (ev_bin be_ib (xv_d (ev_cb cb_len (av_cons xv_var av_nil))) (xv_d ev_int))) (ev_bin be_ix xv_var (xv_d ev_int)) ev_int))
      (sv_seq (sv_if (tv_test (ev_bin be_eq xv_var (xv_d ev_str))) (sv_retG (gv_lc (vs := [5]) (iv_range1 (dv_cons (ev_x xv_var) dv_nil)) (gcv_name (by decide)) tv_yes (ev_bin be_ix xv_var (xv_d (ev_bin be_ii (xv_d (ev_bin be_ii xv_var (xv_d ev_int))) xv_var))))) sv_next)
      (sv_seq (sv_if (tv_test (ev_bin be_eq xv_var (xv_d ev_str))) (sv_retG (gv_lc (vs := [5]) (iv_range1 (dv_cons (ev_x xv_var) dv_nil)) (gcv_name (by decide)) (tv_or (tv_test (ev_bin be_eq xv_var (xv_d ev_int))) (tv_test (ev_bin be_ne (xv_d (ev_bin be_ix xv_var xv_var)) (xv_d (ev_bin be_ix xv_var (xv_d (ev_bin be_ii xv_var (xv_d ev_int)))))))) (ev_bin be_ix xv_var xv_var))) sv_next)
      (sv_seq (sv_if (tv_test (ev_bin be_eq xv_var (xv_d ev_str))) (sv_seq (sv_own (gv_lst dv_nil))
      (sv_seq (sv_for (iv_list (ev_x xv_var)) gt_name (sv_if (tv_test (ev_bin be_notIn xv_var xv_var)) (sv_drop (ev_lm lm_app (dv_cons (ev_x xv_var) dv_nil))) sv_next))
      (sv_retG (gv_cb cg_sorted (av_cons xv_var av_nil))))) sv_next)
      (sv_seq (sv_set (ev_pick4 ev_int ev_int (ev_x xv_var) (ev_bin be_ii xv_var xv_var) (ev_x xv_var)))
      (sv_seq (sv_set (ev_pick4 (ev_x xv_var) (ev_bin be_ii xv_var xv_var) (ev_x xv_var) (ev_x xv_var) (ev_x xv_var)))
      (sv_retG (gv_lc (vs := [5]) (iv_range1 (dv_cons (ev_x xv_var) dv_nil)) (gcv_name (by decide)) (tv_test (ev_chain be_ib be_ib xv_var xv_var xv_var)) (ev_bin be_ix xv_var xv_var))))))))))⟩
theorem sc__law_result : FnScope ["plan", "items", "command"] ["plan", "items"] (defScope s__law_result) := ⟨rfl, rfl, rfl, by decide +kernel, rfl, by decide +kernel, by decide +kernel⟩
theorem ok__law_result {f : Addr} {fd : FuncData} (F : Fun X.K "_law_result" "_law_result" s__law_result f fd) (B : Bt mg) (G__law_step : DL.Df P w X.K mg base 1 "_law_step" ["command", "items"] (SpX X FA.F__law_step)) : FnOk P w X.K mg base CX0 2 f fd ["plan", "items"] (SpX X FA.F__law_result) :=
  okX (k := 1) F sc__law_result (by decide) fun cv A outer s H Q E hr => ⟨_, (pss_cons (ps_for PassesOwn.never rfl (pi_list (pv 0)) (pg_name (i := 2) sc__law_result.nd rfl (Or.inl rfl)) (pss_one (ps_set (i := 1) sc__law_result.nd rfl (Or.inl rfl) (DL.pe_df G__law_step hr (by decide) (by rfl) (pa_cons (pv 2) (pa_cons (pv 1) pa_nil))))))
      (pss_one (ps_ret (pv 1)))), fun z => (sv_seq (sv_for (iv_list (ev_x xv_var)) gt_name (sv_setR (rv_call (av_cons (xv_d (ev_x xv_var)) (av_cons (xv_d (ev_x xv_var)) av_nil)))))
      sv_retV)⟩
theorem sc_law : FnScope ["script", "rng", "lap", "kinds_here", "items", "plan", "due", "cut", "parts"] ["script"] (defScope s_law) := ⟨rfl, rfl, rfl, by decide +kernel, rfl, by decide +kernel, by decide +kernel⟩
theorem ok_law {f : Addr} {fd : FuncData} (F : Fun X.K "law" "law" s_law f fd) (B : Bt mg) (G__law_rng : DL.Df P w X.K mg base 1 "_law_rng" ["script"] (SpX X FA.F__law_rng)) (G__law_kinds : DL.Df P w X.K mg base 2 "_law_kinds" ["rng"] (SpX X FA.F__law_kinds)) (G__law_items : DL.Df P w X.K mg base 2 "_law_items" ["rng", "kinds_here", "most"] (SpX X FA.F__law_items)) (G__law_draw : DL.Df P w X.K mg base 1 "_law_draw" ["rng", "limit"] (SpX X FA.F__law_draw)) (G__law_plan : DL.Df P w X.K mg base 3 "_law_plan" ["rng", "most", "size"] (SpX X FA.F__law_plan)) (G__law_result : DL.Df P w X.K mg base 2 "_law_result" ["plan", "items"] (SpX X FA.F__law_result)) (G_run : DL.Df P w X.K mg base 3 "run" ["pipeline", "lines"] (SpX X PR.F_run)) : DL.FnG P w X.K mg base CX0 4 f fd ["script"] (SpX X L02.F_law) :=
  okXG (k := 3) F sc_law (by decide) fun cv A outer s H Q E hg hr => ⟨_, (pss_cons (ps_set (i := 1) sc_law.nd rfl (Or.inl rfl) (DL.pe_df G__law_rng hr (by decide) (by rfl) (pa_cons (pv 0) pa_nil)))
      (pss_cons (ps_for PassesOwn.never rfl (pi_range1 (by rfl) B.range (pa_cons (pe_op op_add pe_int (pe_callB (call_min2 rfl) (by rfl) B.min (by decide +kernel) (pa_cons pe_int (pa_cons (pe_callB call_len_seq (by rfl) B.len PySem.boot_len (pa_cons (pv 0) pa_nil)) pa_nil)))) pa_nil)) (pg_name (i := 2) sc_law.nd rfl (Or.inl rfl)) (pss_cons (ps_set (i := 3) sc_law.nd rfl (Or.inl rfl) (DL.pe_df G__law_kinds hr (by decide) (by rfl) (pa_cons (pv 1) pa_nil)))
      (pss_cons (ps_set (i := 4) sc_law.nd rfl (Or.inl rfl) (DL.pe_df G__law_items hr (by decide) (by rfl) (pa_cons (pv 1) (pa_cons (pv 3) (pa_cons (pe_ix ix_seq (pe_lst (pa_cons pe_int (pa_cons pe_int pa_nil))) (DL.pe_df G__law_draw hr (by decide) (by rfl) (pa_cons (pv 1) (pa_cons pe_int pa_nil))) (fun _ _ => rfl)) pa_nil)))))
      (pss_cons (ps_set (i := 5) sc_law.nd rfl (Or.inl rfl) (DL.pe_df G__law_plan hr (by decide) (by rfl) (pa_cons (pv 1) (pa_cons pe_int (pa_cons (pe_callB call_len_seq (by rfl) B.len PySem.boot_len (pa_cons (pv 4) pa_nil)) pa_nil)))))
      (pss_cons (ps_set (i := 6) sc_law.nd rfl (Or.inl rfl) (DL.pe_df G__law_result hr (by decide) (by rfl) (pa_cons (pv 5) (pa_cons (pv 4) pa_nil))))
      (pss_cons (ps_set (i := 7) sc_law.nd rfl (Or.inl rfl) (DL.pe_df G__law_draw hr (by decide) (by rfl) (pa_cons (pv 1) (pa_cons (pe_op op_add (pe_callB call_len_seq (by rfl) B.len PySem.boot_len (pa_cons (pv 5) pa_nil)) pe_int) pa_nil))))
      (pss_cons (ps_set (i := 8) sc_law.nd rfl (Or.inl rfl) (DL.pe_df G_run hr (by decide) (by rfl) (pa_cons (pe_slice sl_list (pv 5) (po_some (pv 7)) po_none) (pa_cons (DL.pe_df G_run hr (by decide) (by rfl) (pa_cons (pe_slice sl_list (pv 5) po_none (po_some (pv 7))) (pa_cons (pv 4) pa_nil))) pa_nil))))
      (pss_one (ps_if (pt_cmpR (op_neX hr.units) (pe_callB (DL.cr_repr hg hr.units) (by rfl) B.repr (by decide +kernel) (pa_cons (pe_lst (pa_cons (DL.pe_df G_run hr (by decide) (by rfl) (pa_cons (pv 5) (pa_cons (pv 4) pa_nil))) (pa_cons (DL.pe_df G_run hr (by decide) (by rfl) (pa_cons (pe_callTy call_list_of (by rfl) B.list (by decide +kernel) (pa_cons (pv 5) pa_nil)) (pa_cons (pe_callTy call_list_of (by rfl) B.list (by decide +kernel) (pa_cons (pv 4) pa_nil)) pa_nil))) (pa_cons (pv 8) pa_nil)))) pa_nil)) (pe_callB (DL.cr_repr hg hr.units) (by rfl) B.repr (by decide +kernel) (pa_cons (pe_op op_rep (pe_lst (pa_cons (pv 6) pa_nil)) pe_int) pa_nil)) (by rfl)) (pss_one (ps_ret pe_bl)) pss_nil)))))))))
      (pss_one (ps_ret pe_bl)))), fun z => (sv_seq (sv_setR (rv_call (av_cons xv_var av_nil)))
      (sv_seq (sv_for (iv_range1 (dv_cons (ev_bin be_ii (xv_d ev_int) (xv_d (ev_cb cb_min2 (av_cons (xv_d ev_int) (av_cons (xv_d (ev_cb cb_len (av_cons xv_var av_nil))) av_nil))))) dv_nil)) gt_name (sv_seq (sv_setR (rv_call (av_cons xv_var av_nil)))
      (sv_seq (sv_setR (rv_call (av_cons xv_var (av_cons (xv_d (ev_x xv_var)) (av_cons (xv_d (ev_bin be_ix (xv_d (ev_g (gv_lst (dv_cons ev_int (dv_cons ev_int dv_nil))))) (xv_d (ev_r (rv_call (av_cons xv_var (av_cons (xv_d ev_int) av_nil))))))) av_nil)))))
      (sv_seq (sv_setR (rv_call (av_cons xv_var (av_cons (xv_d ev_int) (av_cons (xv_d (ev_cb cb_len (av_cons xv_var av_nil))) av_nil)))))
      (sv_seq (sv_setR (rv_call (av_cons (xv_d (ev_x xv_var)) (av_cons (xv_d (ev_x xv_var)) av_nil))))
      (sv_seq (sv_setR (rv_call (av_cons xv_var (av_cons (xv_d (ev_bin be_ii (xv_d (ev_cb cb_len (av_cons xv_var av_nil))) (xv_d ev_int))) av_nil))))
      (sv_seq (sv_setR (rv_call (av_cons (xv_d (ev_g (gv_slice xv_var (ov_yes (ev_x xv_var)) ov_no))) (av_cons (xv_d (ev_r (rv_call (av_cons (xv_d (ev_g (gv_slice xv_var ov_no (ov_yes (ev_x xv_var))))) (av_cons (xv_d (ev_x xv_var)) av_nil))))) av_nil))))
      (sv_if (tv_test (ev_bin be_ne (xv_d (ev_cb cb_repr (av_cons (xv_d (ev_g (gv_lst (dv_cons (ev_r (rv_call (av_cons (xv_d (ev_x xv_var)) (av_cons (xv_d (ev_x xv_var)) av_nil)))) (dv_cons (ev_r (rv_call (av_cons (xv_d (ev_g (gv_cb cg_list (av_cons xv_var av_nil)))) (av_cons (xv_d (ev_g (gv_cb cg_list (av_cons xv_var av_nil)))) av_nil)))) (dv_cons (ev_x xv_var) dv_nil)))))) av_nil))) (xv_d (ev_cb cb_repr (av_cons (xv_d (ev_g (gv_bin bg_rep (xv_d (ev_g (gv_lst (dv_cons (ev_x xv_var) dv_nil)))) (xv_d ev_int)))) av_nil))))) (sv_ret ev_bl) sv_next))))))))
      (sv_ret ev_bl)))⟩
end
def ca0 : Nat → Addr := fun _ => 0
theorem all_mk {l : PySem.W.OpenLaw} {w : World} {K : DL.Frg} {h : Heap} {mg : PySem.Str → Option Value} {fa : Addr} (KK : K.In h) (G : h.Ns mainGlobals mg) (hfa : mg "law" = some (.ref fa))
    {f_is_command : Addr} {od_is_command an_is_command : Option Addr} {sl_is_command : Array (Option Value)} {oc_is_command kV_is_command dc_is_command pm_is_command cd_is_command ct_is_command : Value} (a_is_command : PySem.W.nsIn K mainGlobals "is_command" = some (some (.ref f_is_command))) (l_is_command : K.lookup f_is_command = some ⟨oc_is_command, od_is_command, .func (PySem.W.fnOf "is_command" "is_command" (defArgs s_is_command) (defBody s_is_command) (defScope s_is_command) .none kV_is_command dc_is_command pm_is_command an_is_command cd_is_command ct_is_command), sl_is_command⟩) (c_is_command : PySem.W.codeIn K cd_is_command "is_command" = true) (k_is_command : PySem.W.keepIn K (.ref f_is_command) = true)
    {f_check_pipeline : Addr} {od_check_pipeline an_check_pipeline : Option Addr} {sl_check_pipeline : Array (Option Value)} {oc_check_pipeline kV_check_pipeline dc_check_pipeline pm_check_pipeline cd_check_pipeline ct_check_pipeline : Value} (a_check_pipeline : PySem.W.nsIn K mainGlobals "check_pipeline" = some (some (.ref f_check_pipeline))) (l_check_pipeline : K.lookup f_check_pipeline = some ⟨oc_check_pipeline, od_check_pipeline, .func (PySem.W.fnOf "check_pipeline" "check_pipeline" (defArgs s_check_pipeline) (defBody s_check_pipeline) (defScope s_check_pipeline) .none kV_check_pipeline dc_check_pipeline pm_check_pipeline an_check_pipeline cd_check_pipeline ct_check_pipeline), sl_check_pipeline⟩) (c_check_pipeline : PySem.W.codeIn K cd_check_pipeline "check_pipeline" = true) (k_check_pipeline : PySem.W.keepIn K (.ref f_check_pipeline) = true)
    {f_kept_range : Addr} {od_kept_range an_kept_range : Option Addr} {sl_kept_range : Array (Option Value)} {oc_kept_range kV_kept_range dc_kept_range pm_kept_range cd_kept_range ct_kept_range : Value} (a_kept_range : PySem.W.nsIn K mainGlobals "kept_range" = some (some (.ref f_kept_range))) (l_kept_range : K.lookup f_kept_range = some ⟨oc_kept_range, od_kept_range, .func (PySem.W.fnOf "kept_range" "kept_range" (defArgs s_kept_range) (defBody s_kept_range) (defScope s_kept_range) .none kV_kept_range dc_kept_range pm_kept_range an_kept_range cd_kept_range ct_kept_range), sl_kept_range⟩) (c_kept_range : PySem.W.codeIn K cd_kept_range "kept_range" = true) (k_kept_range : PySem.W.keepIn K (.ref f_kept_range) = true)
    {f__merged : Addr} {od__merged an__merged : Option Addr} {sl__merged : Array (Option Value)} {oc__merged kV__merged dc__merged pm__merged cd__merged ct__merged : Value} (a__merged : PySem.W.nsIn K mainGlobals "_merged" = some (some (.ref f__merged))) (l__merged : K.lookup f__merged = some ⟨oc__merged, od__merged, .func (PySem.W.fnOf "_merged" "_merged" (defArgs s__merged) (defBody s__merged) (defScope s__merged) .none kV__merged dc__merged pm__merged an__merged cd__merged ct__merged), sl__merged⟩) (c__merged : PySem.W.codeIn K cd__merged "_merged" = true) (k__merged : PySem.W.keepIn K (.ref f__merged) = true)
    {f__apply : Addr} {od__apply an__apply : Option Addr} {sl__apply : Array (Option Value)} {oc__apply kV__apply dc__apply pm__apply cd__apply ct__apply : Value} (a__apply : PySem.W.nsIn K mainGlobals "_apply" = some (some (.ref f__apply))) (l__apply : K.lookup f__apply = some ⟨oc__apply, od__apply, .func (PySem.W.fnOf "_apply" "_apply" (defArgs s__apply) (defBody s__apply) (defScope s__apply) .none kV__apply dc__apply pm__apply an__apply cd__apply ct__apply), sl__apply⟩) (c__apply : PySem.W.codeIn K cd__apply "_apply" = true) (k__apply : PySem.W.keepIn K (.ref f__apply) = true)
    {f_run : Addr} {od_run an_run : Option Addr} {sl_run : Array (Option Value)} {oc_run kV_run dc_run pm_run cd_run ct_run : Value} (a_run : PySem.W.nsIn K mainGlobals "run" = some (some (.ref f_run))) (l_run : K.lookup f_run = some ⟨oc_run, od_run, .func (PySem.W.fnOf "run" "run" (defArgs s_run) (defBody s_run) (defScope s_run) .none kV_run dc_run pm_run an_run cd_run ct_run), sl_run⟩) (c_run : PySem.W.codeIn K cd_run "run" = true) (k_run : PySem.W.keepIn K (.ref f_run) = true)
    {f__law_rng : Addr} {od__law_rng an__law_rng : Option Addr} {sl__law_rng : Array (Option Value)} {oc__law_rng kV__law_rng dc__law_rng pm__law_rng cd__law_rng ct__law_rng : Value} (a__law_rng : PySem.W.nsIn K mainGlobals "_law_rng" = some (some (.ref f__law_rng))) (l__law_rng : K.lookup f__law_rng = some ⟨oc__law_rng, od__law_rng, .func (PySem.W.fnOf "_law_rng" "_law_rng" (defArgs s__law_rng) (defBody s__law_rng) (defScope s__law_rng) .none kV__law_rng dc__law_rng pm__law_rng an__law_rng cd__law_rng ct__law_rng), sl__law_rng⟩) (c__law_rng : PySem.W.codeIn K cd__law_rng "_law_rng" = true) (k__law_rng : PySem.W.keepIn K (.ref f__law_rng) = true)
    {f__law_draw : Addr} {od__law_draw an__law_draw : Option Addr} {sl__law_draw : Array (Option Value)} {oc__law_draw kV__law_draw dc__law_draw pm__law_draw cd__law_draw ct__law_draw : Value} (a__law_draw : PySem.W.nsIn K mainGlobals "_law_draw" = some (some (.ref f__law_draw))) (l__law_draw : K.lookup f__law_draw = some ⟨oc__law_draw, od__law_draw, .func (PySem.W.fnOf "_law_draw" "_law_draw" (defArgs s__law_draw) (defBody s__law_draw) (defScope s__law_draw) .none kV__law_draw dc__law_draw pm__law_draw an__law_draw cd__law_draw ct__law_draw), sl__law_draw⟩) (c__law_draw : PySem.W.codeIn K cd__law_draw "_law_draw" = true) (k__law_draw : PySem.W.keepIn K (.ref f__law_draw) = true)
    {f__law_kinds : Addr} {od__law_kinds an__law_kinds : Option Addr} {sl__law_kinds : Array (Option Value)} {oc__law_kinds kV__law_kinds dc__law_kinds pm__law_kinds cd__law_kinds ct__law_kinds : Value} (a__law_kinds : PySem.W.nsIn K mainGlobals "_law_kinds" = some (some (.ref f__law_kinds))) (l__law_kinds : K.lookup f__law_kinds = some ⟨oc__law_kinds, od__law_kinds, .func (PySem.W.fnOf "_law_kinds" "_law_kinds" (defArgs s__law_kinds) (defBody s__law_kinds) (defScope s__law_kinds) .none kV__law_kinds dc__law_kinds pm__law_kinds an__law_kinds cd__law_kinds ct__law_kinds), sl__law_kinds⟩) (c__law_kinds : PySem.W.codeIn K cd__law_kinds "_law_kinds" = true) (k__law_kinds : PySem.W.keepIn K (.ref f__law_kinds) = true)
    {f__law_items : Addr} {od__law_items an__law_items : Option Addr} {sl__law_items : Array (Option Value)} {oc__law_items kV__law_items dc__law_items pm__law_items cd__law_items ct__law_items : Value} (a__law_items : PySem.W.nsIn K mainGlobals "_law_items" = some (some (.ref f__law_items))) (l__law_items : K.lookup f__law_items = some ⟨oc__law_items, od__law_items, .func (PySem.W.fnOf "_law_items" "_law_items" (defArgs s__law_items) (defBody s__law_items) (defScope s__law_items) .none kV__law_items dc__law_items pm__law_items an__law_items cd__law_items ct__law_items), sl__law_items⟩) (c__law_items : PySem.W.codeIn K cd__law_items "_law_items" = true) (k__law_items : PySem.W.keepIn K (.ref f__law_items) = true)
    {f__law_command : Addr} {od__law_command an__law_command : Option Addr} {sl__law_command : Array (Option Value)} {oc__law_command kV__law_command dc__law_command pm__law_command cd__law_command ct__law_command : Value} (a__law_command : PySem.W.nsIn K mainGlobals "_law_command" = some (some (.ref f__law_command))) (l__law_command : K.lookup f__law_command = some ⟨oc__law_command, od__law_command, .func (PySem.W.fnOf "_law_command" "_law_command" (defArgs s__law_command) (defBody s__law_command) (defScope s__law_command) .none kV__law_command dc__law_command pm__law_command an__law_command cd__law_command ct__law_command), sl__law_command⟩) (c__law_command : PySem.W.codeIn K cd__law_command "_law_command" = true) (k__law_command : PySem.W.keepIn K (.ref f__law_command) = true)
    {f__law_plan : Addr} {od__law_plan an__law_plan : Option Addr} {sl__law_plan : Array (Option Value)} {oc__law_plan kV__law_plan dc__law_plan pm__law_plan cd__law_plan ct__law_plan : Value} (a__law_plan : PySem.W.nsIn K mainGlobals "_law_plan" = some (some (.ref f__law_plan))) (l__law_plan : K.lookup f__law_plan = some ⟨oc__law_plan, od__law_plan, .func (PySem.W.fnOf "_law_plan" "_law_plan" (defArgs s__law_plan) (defBody s__law_plan) (defScope s__law_plan) .none kV__law_plan dc__law_plan pm__law_plan an__law_plan cd__law_plan ct__law_plan), sl__law_plan⟩) (c__law_plan : PySem.W.codeIn K cd__law_plan "_law_plan" = true) (k__law_plan : PySem.W.keepIn K (.ref f__law_plan) = true)
    {f__law_step : Addr} {od__law_step an__law_step : Option Addr} {sl__law_step : Array (Option Value)} {oc__law_step kV__law_step dc__law_step pm__law_step cd__law_step ct__law_step : Value} (a__law_step : PySem.W.nsIn K mainGlobals "_law_step" = some (some (.ref f__law_step))) (l__law_step : K.lookup f__law_step = some ⟨oc__law_step, od__law_step, .func (PySem.W.fnOf "_law_step" "_law_step" (defArgs s__law_step) (defBody s__law_step) (defScope s__law_step) .none kV__law_step dc__law_step pm__law_step an__law_step cd__law_step ct__law_step), sl__law_step⟩) (c__law_step : PySem.W.codeIn K cd__law_step "_law_step" = true) (k__law_step : PySem.W.keepIn K (.ref f__law_step) = true)
    {f__law_result : Addr} {od__law_result an__law_result : Option Addr} {sl__law_result : Array (Option Value)} {oc__law_result kV__law_result dc__law_result pm__law_result cd__law_result ct__law_result : Value} (a__law_result : PySem.W.nsIn K mainGlobals "_law_result" = some (some (.ref f__law_result))) (l__law_result : K.lookup f__law_result = some ⟨oc__law_result, od__law_result, .func (PySem.W.fnOf "_law_result" "_law_result" (defArgs s__law_result) (defBody s__law_result) (defScope s__law_result) .none kV__law_result dc__law_result pm__law_result an__law_result cd__law_result ct__law_result), sl__law_result⟩) (c__law_result : PySem.W.codeIn K cd__law_result "_law_result" = true) (k__law_result : PySem.W.keepIn K (.ref f__law_result) = true)
    {f_law : Addr} {od_law an_law : Option Addr} {sl_law : Array (Option Value)} {oc_law kV_law dc_law pm_law cd_law ct_law : Value} (a_law : PySem.W.nsIn K mainGlobals "law" = some (some (.ref f_law))) (l_law : K.lookup f_law = some ⟨oc_law, od_law, .func (PySem.W.fnOf "law" "law" (defArgs s_law) (defBody s_law) (defScope s_law) .none kV_law dc_law pm_law an_law cd_law ct_law), sl_law⟩) (c_law : PySem.W.codeIn K cd_law "law" = true) (k_law : PySem.W.keepIn K (.ref f_law) = true)
    {f_PLAIN : Addr} {od_PLAIN : Option Addr} {sl_PLAIN : Array (Option Value)} {n_PLAIN : Nat} {tPLAIN0 tPLAIN1 tPLAIN2 : Nat} (a_PLAIN : PySem.W.nsIn K mainGlobals "PLAIN" = some (some (.ref f_PLAIN))) (l_PLAIN : K.lookup f_PLAIN = some ⟨.type "tuple", od_PLAIN, .seq #[.str "reverse" tPLAIN0, .str "uniq" tPLAIN1, .str "sort" tPLAIN2] n_PLAIN, sl_PLAIN⟩)
    {f_SLICING : Addr} {od_SLICING : Option Addr} {sl_SLICING : Array (Option Value)} {n_SLICING : Nat} {tSLICING0 tSLICING1 tSLICING2 tSLICING3 : Nat} (a_SLICING : PySem.W.nsIn K mainGlobals "SLICING" = some (some (.ref f_SLICING))) (l_SLICING : K.lookup f_SLICING = some ⟨.type "tuple", od_SLICING, .seq #[.str "head" tSLICING0, .str "tail" tSLICING1, .str "skip" tSLICING2, .str "chop" tSLICING3] n_SLICING, sl_SLICING⟩)
    (z_abs : PySem.W.nsIn K mainGlobals "abs" = some none)
    (z_enumerate : PySem.W.nsIn K mainGlobals "enumerate" = some none)
    (z_len : PySem.W.nsIn K mainGlobals "len" = some none)
    (z_list : PySem.W.nsIn K mainGlobals "list" = some none)
    (z_max : PySem.W.nsIn K mainGlobals "max" = some none)
    (z_min : PySem.W.nsIn K mainGlobals "min" = some none)
    (z_range : PySem.W.nsIn K mainGlobals "range" = some none)
    (z_repr : PySem.W.nsIn K mainGlobals "repr" = some none)
    (z_set : PySem.W.nsIn K mainGlobals "set" = some none)
    (z_sorted : PySem.W.nsIn K mainGlobals "sorted" = some none)
    : ∃ fd : FuncData, (∀ (s : Shared) (v : Value), BindsTo s fd ⟨[v], []⟩ [("script", v)]) ∧ ∀ base : Heap, K.In base → base.Ns mainGlobals mg → DL.FnG l.prog w K mg base CX0 4 fa fd ["script"] (SpX ⟨K, ca0⟩ L02.F_law) := by
  have e := hfa.symm.trans (PySem.W.mg_of KK G a_law)
  cases e
  have B : Bt mg := ⟨PySem.W.mg_none_of KK G z_abs, PySem.W.mg_none_of KK G z_enumerate, PySem.W.mg_none_of KK G z_len, PySem.W.mg_none_of KK G z_list, PySem.W.mg_none_of KK G z_max, PySem.W.mg_none_of KK G z_min, PySem.W.mg_none_of KK G z_range, PySem.W.mg_none_of KK G z_repr, PySem.W.mg_none_of KK G z_set, PySem.W.mg_none_of KK G z_sorted⟩
  have F_is_command := fun_mk (st := s_is_command) l_is_command c_is_command k_is_command
  have m_is_command := PySem.W.mg_of KK G a_is_command
  have b_is_command := F_is_command.binds (ps := ["element"]) fun _ _ _ _ _ _ us hl => match us, hl with | [_], _ => rfl
  have F_check_pipeline := fun_mk (st := s_check_pipeline) l_check_pipeline c_check_pipeline k_check_pipeline
  have m_check_pipeline := PySem.W.mg_of KK G a_check_pipeline
  have b_check_pipeline := F_check_pipeline.binds (ps := ["pipeline"]) fun _ _ _ _ _ _ us hl => match us, hl with | [_], _ => rfl
  have F_kept_range := fun_mk (st := s_kept_range) l_kept_range c_kept_range k_kept_range
  have m_kept_range := PySem.W.mg_of KK G a_kept_range
  have b_kept_range := F_kept_range.binds (ps := ["command", "length"]) fun _ _ _ _ _ _ us hl => match us, hl with | [_, _], _ => rfl
  have F__merged := fun_mk (st := s__merged) l__merged c__merged k__merged
  have m__merged := PySem.W.mg_of KK G a__merged
  have b__merged := F__merged.binds (ps := ["runs"]) fun _ _ _ _ _ _ us hl => match us, hl with | [_], _ => rfl
  have F__apply := fun_mk (st := s__apply) l__apply c__apply k__apply
  have m__apply := PySem.W.mg_of KK G a__apply
  have b__apply := F__apply.binds (ps := ["command", "lines"]) fun _ _ _ _ _ _ us hl => match us, hl with | [_, _], _ => rfl
  have F_run := fun_mk (st := s_run) l_run c_run k_run
  have m_run := PySem.W.mg_of KK G a_run
  have b_run := F_run.binds (ps := ["pipeline", "lines"]) fun _ _ _ _ _ _ us hl => match us, hl with | [_, _], _ => rfl
  have F__law_rng := fun_mk (st := s__law_rng) l__law_rng c__law_rng k__law_rng
  have m__law_rng := PySem.W.mg_of KK G a__law_rng
  have b__law_rng := F__law_rng.binds (ps := ["script"]) fun _ _ _ _ _ _ us hl => match us, hl with | [_], _ => rfl
  have F__law_draw := fun_mk (st := s__law_draw) l__law_draw c__law_draw k__law_draw
  have m__law_draw := PySem.W.mg_of KK G a__law_draw
  have b__law_draw := F__law_draw.binds (ps := ["rng", "limit"]) fun _ _ _ _ _ _ us hl => match us, hl with | [_, _], _ => rfl
  have F__law_kinds := fun_mk (st := s__law_kinds) l__law_kinds c__law_kinds k__law_kinds
  have m__law_kinds := PySem.W.mg_of KK G a__law_kinds
  have b__law_kinds := F__law_kinds.binds (ps := ["rng"]) fun _ _ _ _ _ _ us hl => match us, hl with | [_], _ => rfl
  have F__law_items := fun_mk (st := s__law_items) l__law_items c__law_items k__law_items
  have m__law_items := PySem.W.mg_of KK G a__law_items
  have b__law_items := F__law_items.binds (ps := ["rng", "kinds_here", "most"]) fun _ _ _ _ _ _ us hl => match us, hl with | [_, _, _], _ => rfl
  have F__law_command := fun_mk (st := s__law_command) l__law_command c__law_command k__law_command
  have m__law_command := PySem.W.mg_of KK G a__law_command
  have b__law_command := F__law_command.binds (ps := ["rng", "size"]) fun _ _ _ _ _ _ us hl => match us, hl with | [_, _], _ => rfl
  have F__law_plan := fun_mk (st := s__law_plan) l__law_plan c__law_plan k__law_plan
  have m__law_plan := PySem.W.mg_of KK G a__law_plan
  have b__law_plan := F__law_plan.binds (ps := ["rng", "most", "size"]) fun _ _ _ _ _ _ us hl => match us, hl with | [_, _, _], _ => rfl
  have F__law_step := fun_mk (st := s__law_step) l__law_step c__law_step k__law_step
  have m__law_step := PySem.W.mg_of KK G a__law_step
  have b__law_step := F__law_step.binds (ps := ["command", "items"]) fun _ _ _ _ _ _ us hl => match us, hl with | [_, _], _ => rfl
  have F__law_result := fun_mk (st := s__law_result) l__law_result c__law_result k__law_result
  have m__law_result := PySem.W.mg_of KK G a__law_result
  have b__law_result := F__law_result.binds (ps := ["plan", "items"]) fun _ _ _ _ _ _ us hl => match us, hl with | [_, _], _ => rfl
  have F_law := fun_mk (st := s_law) l_law c_law k_law
  have C_PLAIN : DL.Cst K mg "PLAIN" PR.PLAIN_d := ⟨.ref f_PLAIN, .ref f_PLAIN, PySem.W.mg_of KK G a_PLAIN, rfl, .tup (xs := [V.str "reverse", V.str "uniq", V.str "sort"]) (.inr ⟨_, _, _, l_PLAIN, rfl, rfl, Nat.le_of_ble_eq_true rfl, .cons ⟨_, rfl⟩ (.cons ⟨_, rfl⟩ (.cons ⟨_, rfl⟩ (.nil)))⟩) (.cons (.str _) (.cons (.str _) (.cons (.str _) (.nil))))⟩
  have C_SLICING : DL.Cst K mg "SLICING" PR.SLICING_d := ⟨.ref f_SLICING, .ref f_SLICING, PySem.W.mg_of KK G a_SLICING, rfl, .tup (xs := [V.str "head", V.str "tail", V.str "skip", V.str "chop"]) (.inr ⟨_, _, _, l_SLICING, rfl, rfl, Nat.le_of_ble_eq_true rfl, .cons ⟨_, rfl⟩ (.cons ⟨_, rfl⟩ (.cons ⟨_, rfl⟩ (.cons ⟨_, rfl⟩ (.nil))))⟩) (.cons (.str _) (.cons (.str _) (.cons (.str _) (.cons (.str _) (.nil)))))⟩
  refine ⟨PySem.W.fnOf "law" "law" (defArgs s_law) (defBody s_law) (defScope s_law) .none kV_law dc_law pm_law an_law cd_law ct_law, fun s v => .of_eq rfl, fun base _ _ => ?_⟩
  have O_is_command := ok_is_command (P := l.prog) (w := w) (base := base) (X := ⟨K, ca0⟩) F_is_command B C_PLAIN C_SLICING
  have D_is_command : DL.Df l.prog w K mg base 1 "is_command" ["element"] _ := ⟨_, _, O_is_command, m_is_command, k_is_command, b_is_command⟩
  have O_check_pipeline := ok_check_pipeline (P := l.prog) (w := w) (base := base) (X := ⟨K, ca0⟩) F_check_pipeline B D_is_command
  have D_check_pipeline : DL.Df l.prog w K mg base 2 "check_pipeline" ["pipeline"] _ := ⟨_, _, O_check_pipeline, m_check_pipeline, k_check_pipeline, b_check_pipeline⟩
  have O_kept_range := ok_kept_range (P := l.prog) (w := w) (base := base) (X := ⟨K, ca0⟩) F_kept_range B
  have D_kept_range : DL.Df l.prog w K mg base 1 "kept_range" ["command", "length"] _ := ⟨_, _, O_kept_range, m_kept_range, k_kept_range, b_kept_range⟩
  have O__merged := ok__merged (P := l.prog) (w := w) (base := base) (X := ⟨K, ca0⟩) F__merged B
  have D__merged : DL.Df l.prog w K mg base 1 "_merged" ["runs"] _ := ⟨_, _, O__merged, m__merged, k__merged, b__merged⟩
  have O__apply := ok__apply (P := l.prog) (w := w) (base := base) (X := ⟨K, ca0⟩) F__apply B D__merged D_kept_range
  have D__apply : DL.Df l.prog w K mg base 2 "_apply" ["command", "lines"] _ := ⟨_, _, O__apply, m__apply, k__apply, b__apply⟩
  have O_run := ok_run (P := l.prog) (w := w) (base := base) (X := ⟨K, ca0⟩) F_run B D_check_pipeline D__apply
  have D_run : DL.Df l.prog w K mg base 3 "run" ["pipeline", "lines"] _ := ⟨_, _, O_run, m_run, k_run, b_run⟩
  have O__law_rng := ok__law_rng (P := l.prog) (w := w) (base := base) (X := ⟨K, ca0⟩) F__law_rng B
  have D__law_rng : DL.Df l.prog w K mg base 1 "_law_rng" ["script"] _ := ⟨_, _, O__law_rng, m__law_rng, k__law_rng, b__law_rng⟩
  have O__law_draw := ok__law_draw (P := l.prog) (w := w) (base := base) (X := ⟨K, ca0⟩) F__law_draw B
  have D__law_draw : DL.Df l.prog w K mg base 1 "_law_draw" ["rng", "limit"] _ := ⟨_, _, O__law_draw, m__law_draw, k__law_draw, b__law_draw⟩
  have O__law_kinds := ok__law_kinds (P := l.prog) (w := w) (base := base) (X := ⟨K, ca0⟩) F__law_kinds B D__law_draw
  have D__law_kinds : DL.Df l.prog w K mg base 2 "_law_kinds" ["rng"] _ := ⟨_, _, O__law_kinds, m__law_kinds, k__law_kinds, b__law_kinds⟩
  have O__law_items := ok__law_items (P := l.prog) (w := w) (base := base) (X := ⟨K, ca0⟩) F__law_items B D__law_draw
  have D__law_items : DL.Df l.prog w K mg base 2 "_law_items" ["rng", "kinds_here", "most"] _ := ⟨_, _, O__law_items, m__law_items, k__law_items, b__law_items⟩
  have O__law_command := ok__law_command (P := l.prog) (w := w) (base := base) (X := ⟨K, ca0⟩) F__law_command B D__law_draw
  have D__law_command : DL.Df l.prog w K mg base 2 "_law_command" ["rng", "size"] _ := ⟨_, _, O__law_command, m__law_command, k__law_command, b__law_command⟩
  have O__law_plan := ok__law_plan (P := l.prog) (w := w) (base := base) (X := ⟨K, ca0⟩) F__law_plan B D__law_draw D__law_command
  have D__law_plan : DL.Df l.prog w K mg base 3 "_law_plan" ["rng", "most", "size"] _ := ⟨_, _, O__law_plan, m__law_plan, k__law_plan, b__law_plan⟩
  have O__law_step := ok__law_step (P := l.prog) (w := w) (base := base) (X := ⟨K, ca0⟩) F__law_step B
  have D__law_step : DL.Df l.prog w K mg base 1 "_law_step" ["command", "items"] _ := ⟨_, _, O__law_step, m__law_step, k__law_step, b__law_step⟩
  have O__law_result := ok__law_result (P := l.prog) (w := w) (base := base) (X := ⟨K, ca0⟩) F__law_result B D__law_step
  have D__law_result : DL.Df l.prog w K mg base 2 "_law_result" ["plan", "items"] _ := ⟨_, _, O__law_result, m__law_result, k__law_result, b__law_result⟩
  exact ok_law (X := ⟨K, ca0⟩) F_law B D__law_rng D__law_kinds D__law_items D__law_draw D__law_plan D__law_result D_run
end RL02
open PySem PySem.W PyProof.Rows in
set_option maxRecDepth 100000 in
set_option maxHeartbeats 0 in
theorem PySem.Challenge.cw_pipeform_k02_pipelines_run_holds : PySem.Challenge.rw_pipeform_k02_pipelines_run.Holds := by
  w_on; o_law; k_head; (case hw => w_witness2)
  k_fill
  refine DL.walk_goes (l := PySem.Challenge.rw_pipeform_k02_pipelines_run) (n := 63) (k := 4) (x := "script") (sp := fun K => PT.SpX ⟨K, RL02.ca0⟩ L02.F_law) rfl (by decide) rfl ⟨rfl, by decide, by decide⟩ (fun w h Y => PySem.W.kIn_of Y) ?F (fun K H a ns hl _ hS => PT.law_end L02.law_true hl hS)
  case F =>
    intro w mg fa h KX G hmg
    refine' RL02.all_mk KX G hmg ?a_is_command ?l_is_command ?c_is_command ?k_is_command ?a_check_pipeline ?l_check_pipeline ?c_check_pipeline ?k_check_pipeline ?a_kept_range ?l_kept_range ?c_kept_range ?k_kept_range ?a__merged ?l__merged ?c__merged ?k__merged ?a__apply ?l__apply ?c__apply ?k__apply ?a_run ?l_run ?c_run ?k_run ?a__law_rng ?l__law_rng ?c__law_rng ?k__law_rng ?a__law_draw ?l__law_draw ?c__law_draw ?k__law_draw ?a__law_kinds ?l__law_kinds ?c__law_kinds ?k__law_kinds ?a__law_items ?l__law_items ?c__law_items ?k__law_items ?a__law_command ?l__law_command ?c__law_command ?k__law_command ?a__law_plan ?l__law_plan ?c__law_plan ?k__law_plan ?a__law_step ?l__law_step ?c__law_step ?k__law_step ?a__law_result ?l__law_result ?c__law_result ?k__law_result ?a_law ?l_law ?c_law ?k_law ?a_PLAIN ?l_PLAIN ?a_SLICING ?l_SLICING ?z_abs ?z_enumerate ?z_len ?z_list ?z_max ?z_min ?z_range ?z_repr ?z_set ?z_sorted
    (case a_is_command => k_is)
    (case l_is_command => k_is)
    (case c_is_command => k_is)
    (case k_is_command => k_is)
    (case a_check_pipeline => k_is)
    (case l_check_pipeline => k_is)
    (case c_check_pipeline => k_is)
    (case k_check_pipeline => k_is)
    (case a_kept_range => k_is)
    (case l_kept_range => k_is)
    (case c_kept_range => k_is)
    (case k_kept_range => k_is)
    (case a__merged => k_is)
    (case l__merged => k_is)
    (case c__merged => k_is)
    (case k__merged => k_is)
    (case a__apply => k_is)
    (case l__apply => k_is)
    (case c__apply => k_is)
    (case k__apply => k_is)
    (case a_run => k_is)
    (case l_run => k_is)
    (case c_run => k_is)
    (case k_run => k_is)
    (case a__law_rng => k_is)
    (case l__law_rng => k_is)
    (case c__law_rng => k_is)
    (case k__law_rng => k_is)
    (case a__law_draw => k_is)
    (case l__law_draw => k_is)
    (case c__law_draw => k_is)
    (case k__law_draw => k_is)
    (case a__law_kinds => k_is)
    (case l__law_kinds => k_is)
    (case c__law_kinds => k_is)
    (case k__law_kinds => k_is)
    (case a__law_items => k_is)
    (case l__law_items => k_is)
    (case c__law_items => k_is)
    (case k__law_items => k_is)
    (case a__law_command => k_is)
    (case l__law_command => k_is)
    (case c__law_command => k_is)
    (case k__law_command => k_is)
    (case a__law_plan => k_is)
    (case l__law_plan => k_is)
    (case c__law_plan => k_is)
    (case k__law_plan => k_is)
    (case a__law_step => k_is)
    (case l__law_step => k_is)
    (case c__law_step => k_is)
    (case k__law_step => k_is)
    (case a__law_result => k_is)
    (case l__law_result => k_is)
    (case c__law_result => k_is)
    (case k__law_result => k_is)
    (case a_law => k_is)
    (case l_law => k_is)
    (case c_law => k_is)
    (case k_law => k_is)
    (case a_PLAIN => k_is)
    (case l_PLAIN => k_is)
    (case a_SLICING => k_is)
    (case l_SLICING => k_is)
    (case z_abs => k_is)
    (case z_enumerate => k_is)
    (case z_len => k_is)
    (case z_list => k_is)
    (case z_max => k_is)
    (case z_min => k_is)
    (case z_range => k_is)
    (case z_repr => k_is)
    (case z_set => k_is)
    (case z_sorted => k_is)
