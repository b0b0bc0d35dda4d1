import PyProof.Rows.All
import Wide.FinOn
import OpenK.AllK
import Wide.All
import HandS.ForMost
import HandS.Evl
import HandS.Wide
import HandS.Deep
import HandS.Flow
import HandS.Style
import HandS.IsInst
import HandS.Set
import HandS.SetBool
import PyProof.Rows.SetFrom
import PyProof.Rows.SortStr
import PyProof.Rows.SortShellAny
import HandS.SetFor
import HandS.Ends
import PySem.Challenge.RW_pipeform_k01_single_commands
set_option Elab.async false
set_option linter.all false
set_option maxRecDepth 100000
set_option maxHeartbeats 4000000
namespace DL
open PySem PySem.Spec PyProof.Rows L2
abbrev Frg := PySem.W.Frag
mutual
inductive Da (K : Frg) (I : Hp) : V → PyData → Prop
  | non : Da K I .non .none
  | bl (b : Bool) : Da K I (.bl b) (.bool b)
  | int (i : Int) : Da K I (.int i) (.int i)
  | str (x : Str) : Da K I (.str x) (.str x)
  | lst {a : Addr} {xs : List V} {ds : List PyData} : I a = some (.lst xs) → DaL K I xs ds → Da K I (.ref a) (.list ds)
  | tup {a : Addr} {xs : List V} {ds : List PyData} : SqT K I a xs → DaL K I xs ds → Da K I (.ref a) (.tuple ds)
inductive DaL (K : Frg) (I : Hp) : List V → List PyData → Prop
  | nil : DaL K I [] []
  | cons {v : V} {vs : List V} {d : PyData} {ds : List PyData} : Da K I v d → DaL K I vs ds → DaL K I (v :: vs) (d :: ds)
end
theorem sqT_mono {K : Frg} {H H' : Hp} {a : Addr} {xs : List V} (e : Same H H') (h : SqT K H a xs) : SqT K H' a xs := by
  rcases h with (h | ⟨o, h⟩) | h
  · exact .inl (.inl (e _ _ h))
  · exact .inl (.inr ⟨o, e _ _ h⟩)
  · exact .inr h
section
variable {K : Frg} {I I' H H' T : Hp}
mutual
theorem Da.mono (e : Same I I') : ∀ {v : V} {d : PyData}, Da K I v d → Da K I' v d
  | _, _, .non => .non
  | _, _, .bl b => .bl b
  | _, _, .int i => .int i
  | _, _, .str x => .str x
  | _, _, .lst h r => .lst (e _ _ h) (DaL.mono e r)
  | _, _, .tup h r => .tup (sqT_mono e h) (DaL.mono e r)
theorem DaL.mono (e : Same I I') : ∀ {vs : List V} {ds : List PyData}, DaL K I vs ds → DaL K I' vs ds
  | _, _, .nil => .nil
  | _, _, .cons h r => .cons (Da.mono e h) (DaL.mono e r)
end
mutual
theorem Da.dp : ∀ {v : V} {d : PyData}, Da K H v d → Dp K H v d
  | _, _, .non => .non
  | _, _, .bl b => .bl b
  | _, _, .int i => .int i
  | _, _, .str x => .str x
  | _, _, .lst h r => .lst (.inl (.inl h)) (DaL.dp r)
  | _, _, .tup h r => .tup h (DaL.dp r)
theorem DaL.dp : ∀ {vs : List V} {ds : List PyData}, DaL K H vs ds → DpAll K H vs ds
  | _, _, .nil => .nil
  | _, _, .cons h r => .cons (Da.dp h) (DaL.dp r)
end
theorem DaL.length : ∀ {vs : List V} {ds : List PyData}, DaL K I vs ds → vs.length = ds.length
  | _, _, .nil => rfl
  | _, _, .cons _ r => congrArg (· + 1) (DaL.length r)
theorem DaL.get : ∀ {vs : List V} {ds : List PyData} {i : Nat} {d : PyData}, DaL K I vs ds → ds[i]? = some d → ∃ v, vs[i]? = some v ∧ Da K I v d
  | _, _, 0, _, .cons h _, e => by
    cases e
    exact ⟨_, rfl, h⟩
  | _, _, i + 1, _, .cons _ r, e => DaL.get (i := i) r (by simpa using e)
theorem DaL.getV : ∀ {vs : List V} {ds : List PyData} {i : Nat} {v : V}, DaL K I vs ds → vs[i]? = some v → ∃ d, ds[i]? = some d ∧ Da K I v d
  | _, _, 0, _, .cons h _, e => by
    cases e
    exact ⟨_, rfl, h⟩
  | _, _, i + 1, _, .cons _ r, e => DaL.getV (i := i) r (by simpa using e)
theorem DaL.append : ∀ {vs ws : List V} {ds es : List PyData}, DaL K I vs ds → DaL K I ws es → DaL K I (vs ++ ws) (ds ++ es)
  | _, _, _, _, .nil, r => r
  | _, _, _, _, .cons h t, r => .cons h (DaL.append t r)
theorem DaL.one {v : V} {d : PyData} (h : Da K I v d) : DaL K I [v] [d] := .cons h .nil
theorem DaL.take : ∀ {vs : List V} {ds : List PyData} (n : Nat), DaL K I vs ds → DaL K I (vs.take n) (ds.take n)
  | _, _, 0, _ => by simpa using DaL.nil
  | _, _, n + 1, .nil => by simpa using DaL.nil
  | _, _, n + 1, .cons h r => by simpa using DaL.cons h (DaL.take n r)
theorem DaL.drop : ∀ {vs : List V} {ds : List PyData} (n : Nat), DaL K I vs ds → DaL K I (vs.drop n) (ds.drop n)
  | _, _, 0, h => by simpa using h
  | _, _, n + 1, .nil => by simpa using DaL.nil
  | _, _, n + 1, .cons _ r => by simpa using DaL.drop n r
theorem DaL.reverse : ∀ {vs : List V} {ds : List PyData}, DaL K I vs ds → DaL K I vs.reverse ds.reverse
  | _, _, .nil => .nil
  | _, _, .cons h r => by simpa using (DaL.reverse r).append (.one h)
theorem DaL.set : ∀ {vs : List V} {ds : List PyData} {i : Nat} {v : V} {d : PyData}, DaL K I vs ds → Da K I v d → DaL K I (vs.set i v) (ds.set i d)
  | _, _, _, _, _, .nil, _ => .nil
  | _, _, 0, _, _, .cons _ r, h => .cons h r
  | _, _, i + 1, _, _, .cons h0 r, h => .cons h0 (DaL.set r h)
theorem DaL.eraseIdx : ∀ {vs : List V} {ds : List PyData} (i : Nat), DaL K I vs ds → DaL K I (vs.eraseIdx i) (ds.eraseIdx i)
  | _, _, _, .nil => .nil
  | _, _, 0, .cons _ r => r
  | _, _, i + 1, .cons h r => by simpa using DaL.cons h (DaL.eraseIdx i r)
theorem DaL.dropLast : ∀ {vs : List V} {ds : List PyData}, DaL K I vs ds → DaL K I vs.dropLast ds.dropLast := fun h => by
  rw [List.dropLast_eq_take, List.dropLast_eq_take, h.length]
  exact h.take _
theorem DaL.ints : ∀ {vs : List V} {ns : List Int}, DaL K I vs (ns.map .int) → vs = ns.map V.int
  | _, [], .nil => rfl
  | _, n :: ns, .cons (.int _) r => congrArg (V.int n :: ·) (DaL.ints r)
theorem DaL.strs : ∀ {vs : List V} {ns : List Str}, DaL K I vs (ns.map .str) → vs = ns.map V.str
  | _, [], .nil => rfl
  | _, n :: ns, .cons (.str _) r => congrArg (V.str n :: ·) (DaL.strs r)
theorem DaL.ofInts : ∀ (ns : List Int), DaL K I (ns.map V.int) (ns.map .int)
  | [] => .nil
  | n :: ns => .cons (.int n) (DaL.ofInts ns)
theorem DaL.ofStrs : ∀ (ns : List Str), DaL K I (ns.map V.str) (ns.map .str)
  | [] => .nil
  | n :: ns => .cons (.str n) (DaL.ofStrs ns)
theorem Da.list_inv {v : V} {ds : List PyData} (h : Da K I v (.list ds)) : ∃ a xs, v = .ref a ∧ I a = some (.lst xs) ∧ DaL K I xs ds := by
  cases h with
  | lst h r => exact ⟨_, _, rfl, h, r⟩
theorem Da.tup_inv {v : V} {ds : List PyData} (h : Da K I v (.tuple ds)) : ∃ a xs, v = .ref a ∧ SqT K I a xs ∧ DaL K I xs ds := by
  cases h with
  | tup h r => exact ⟨_, _, rfl, h, r⟩
theorem Da.int_inv {v : V} {i : Int} (h : Da K I v (.int i)) : v = .int i := by
  cases h
  rfl
theorem Da.str_inv {v : V} {i : Str} (h : Da K I v (.str i)) : v = .str i := by
  cases h
  rfl
theorem Da.bl_inv {v : V} {i : Bool} (h : Da K I v (.bool i)) : v = .bl i := by
  cases h
  rfl
theorem Da.non_inv {v : V} (h : Da K I v .none) : v = .non := by
  cases h
  rfl
end
structure Cel where
  ok : List Addr → V → Hp → Hp → Prop
  loc : ∀ F v I I' H H', Same I I' → (∀ a ∈ F, H' a = H a) → ok F v I H → ok F v I' H'
inductive SD where
  | un
  | dat (d : PyData)
  | mut (ds : List PyData)
  | cel (c : Cel)
  | scr (ns : List Int)
def Sl (K : Frg) (I H : Hp) (F : List Addr) (o : Option V) : SD → Prop
  | .un => True
  | .dat d => ∃ v, o = some v ∧ Da K I v d
  | .mut ds => ∃ p xs, o = some (.ref p) ∧ p ∈ F ∧ H p = some (.lst xs) ∧ DaL K I xs ds
  | .cel c => ∃ v, o = some v ∧ c.ok F v I H
  | .scr ns => ∃ a, o = some (.ref a) ∧ SqL K I a (ns.map V.int)
structure Ok1 (K : Frg) (T B : Hp) (ft : Nat → List Addr) (ws : List SD) (σ : L2.St) (I H : Hp) : Prop where
  sub : Same I H
  oth : Same T H
  bse : Same B I
  ti : ∀ b, T b ≠ none → I b = none
  len : σ.length = ws.length
  ap : ∀ i j a, a ∈ ft i → a ∈ ft j → i = j
  own : ∀ i a, a ∈ ft i → I a = none ∧ T a = none ∧ H a ≠ none
  sl : ∀ i w, ws[i]? = some w → Sl K I H (ft i) (σ[i]?.join) w
def Ok (K : Frg) (T B : Hp) (ws : List SD) (σ : L2.St) (I H : Hp) : Prop := ∃ ft, Ok1 K T B ft ws σ I H
section
variable {K : Frg} {T B I I' H H' : Hp} {ws : List SD} {σ : L2.St} {F : List Addr} {o : Option V} {w : SD} {ft : Nat → List Addr}
theorem Sl.keep (e : Same I I') (h : ∀ a ∈ F, H' a = H a) : ∀ {w : SD}, Sl K I H F o w → Sl K I' H' F o w
  | .un, _ => trivial
  | .dat _, ⟨v, h1, h2⟩ => ⟨v, h1, h2.mono e⟩
  | .mut _, ⟨p, xs, h1, h2, h3, h4⟩ => ⟨p, xs, h1, h2, (h p h2).trans h3, h4.mono e⟩
  | .cel c, ⟨v, h1, h2⟩ => ⟨v, h1, c.loc F v _ _ H H' e h h2⟩
  | .scr _, ⟨a, h1, h2⟩ => ⟨a, h1, e.seq h2⟩
theorem Ok1.step (k : Ok1 K T B ft ws σ I H) (e : Same I I') (s : Same I' H') (t : Same T H') (ti : ∀ b, T b ≠ none → I' b = none) (own : ∀ i a, a ∈ ft i → H' a = H a ∧ I' a = none) : Ok1 K T B ft ws σ I' H' :=
  ⟨s, t, fun b o h => e b o (k.bse b o h), ti, k.len, k.ap, fun i a h => ⟨(own i a h).2, (k.own i a h).2.1, by rw [(own i a h).1]; exact (k.own i a h).2.2⟩, fun i w h => (k.sl i w h).keep e fun a ha => (own i a ha).1⟩
theorem none_of (k : Same I H) {p : Addr} (h : H p = none) : I p = none := k.free h
theorem Ok1.new (k : Ok1 K T B ft ws σ I H) {p : Addr} (h : H p = none) (o : HO) : Ok1 K T B ft ws σ (upd I p o) (upd H p o) := by
  have hI := none_of k.sub h
  have hT := none_of k.oth h
  refine k.step (fun b x e => ?_) (fun b x e => ?_) (fun b x e => ?_) (fun b hb => ?_) fun i a ha => ?_
  · rw [upd_ne (ne_of_none e hI)]
    exact e
  · by_cases q : b = p
    · subst q
      rw [upd_same] at e ⊢
      exact e
    · rw [upd_ne q] at e ⊢
      exact k.sub _ _ e
  · rw [upd_ne (ne_of_none e hT)]
    exact k.oth _ _ e
  · have q : b ≠ p := fun q => hb (by rw [q]; exact hT)
    rw [upd_ne q]
    exact k.ti b hb
  · have q : a ≠ p := fun q => (k.own i a ha).2.2 (by rw [q]; exact h)
    rw [upd_ne q, upd_ne q]
    exact ⟨rfl, (k.own i a ha).1⟩
theorem Ok.new (k : Ok K T B ws σ I H) {p : Addr} (h : H p = none) (o : HO) : Ok K T B ws σ (upd I p o) (upd H p o) := k.elim fun ft k => ⟨ft, k.new h o⟩
theorem Ok.sub (k : Ok K T B ws σ I H) : Same I H := k.elim fun _ k => k.sub
theorem Ok.oth (k : Ok K T B ws σ I H) : Same T H := k.elim fun _ k => k.oth
theorem Ok.len (k : Ok K T B ws σ I H) : σ.length = ws.length := k.elim fun _ k => k.len
theorem Ok.ti (k : Ok K T B ws σ I H) : ∀ b, T b ≠ none → I b = none := k.elim fun _ k => k.ti
theorem same_new {p : Addr} (h : I p = none) (o : HO) : Same I (upd I p o) := fun b x e => by
  rw [upd_ne (ne_of_none e h)]
  exact e
theorem Ok.dat {i : Nat} {d : PyData} (k : Ok K T B ws σ I H) (h : ws[i]? = some (.dat d)) : ∃ v, σ[i]? = some (some v) ∧ Da K I v d := by
  obtain ⟨ft, k⟩ := k
  obtain ⟨v, h1, h2⟩ := k.sl i _ h
  refine ⟨v, ?_, h2⟩
  cases e : σ[i]? with
  | none => rw [e] at h1; cases h1
  | some x => rw [e] at h1; exact congrArg some h1
theorem join_set {σ : L2.St} {i : Nat} {v : V} {j : Nat} (hj : i < σ.length) : ((σ.set i (some v))[j]?).join = if i = j then some v else (σ[j]?).join := by
  by_cases h : i = j
  · subst h
    rw [if_pos rfl, List.getElem?_set, if_pos rfl, if_pos hj]
    rfl
  · rw [if_neg h, List.getElem?_set, if_neg h]
theorem set_get {ws : List SD} {i j : Nat} {w x : SD} (h : (ws.set i x)[j]? = some w) : (i = j ∧ w = x) ∨ (i ≠ j ∧ ws[j]? = some w) := by
  rw [List.getElem?_set] at h
  by_cases q : i = j
  · rw [if_pos q] at h
    split at h
    · exact .inl ⟨q, (Option.some.inj h).symm⟩
    · cases h
  · rw [if_neg q] at h
    exact .inr ⟨q, h⟩
theorem Ok1.set {i : Nat} {v : V} {d : PyData} (k : Ok1 K T B ft ws σ I H) (h : Da K I v d) : Ok1 K T B (fun j => if i = j then [] else ft j) (ws.set i (.dat d)) (σ.set i (some v)) I H := by
  refine ⟨k.sub, k.oth, k.bse, k.ti, by rw [List.length_set, List.length_set]; exact k.len, fun a b c ha hb => ?_, fun a c ha => ?_, fun j w hw => ?_⟩
  · have ha : c ∈ if i = a then [] else ft a := ha
    have hb : c ∈ if i = b then [] else ft b := hb
    split at ha
    · cases ha
    · split at hb
      · cases hb
      · exact k.ap a b c ha hb
  · have ha : c ∈ if i = a then [] else ft a := ha
    split at ha
    · cases ha
    · exact k.own a c ha
  · rcases set_get hw with ⟨q, rfl⟩ | ⟨q, hw⟩
    · subst q
      have hi : i < ws.length := by
        have := (List.getElem?_eq_some_iff.mp hw).1
        rw [List.length_set] at this
        exact this
      refine ⟨v, ?_, h⟩
      rw [join_set (by rw [k.len]; exact hi), if_pos rfl]
    · show Sl K I H (if i = j then [] else ft j) _ w
      rw [if_neg q]
      have e : ((σ.set i (some v))[j]?).join = (σ[j]?).join := by rw [List.getElem?_set, if_neg q]
      rw [e]
      exact k.sl j w hw
theorem Ok.set {i : Nat} {v : V} {d : PyData} (k : Ok K T B ws σ I H) (h : Da K I v d) : Ok K T B (ws.set i (.dat d)) (σ.set i (some v)) I H := k.elim fun _ k => ⟨_, k.set h⟩
end
def EW (K : Frg) (ws : List SD) (te : TE) (P : PyData → List SD → Prop) : Prop :=
  ∀ T B σ I H, Ok K T B ws σ I H → ∀ Q : VK, (∀ v d ws' I' H', P d ws' → Ok K T B ws' σ I' H' → Same I I' → Da K I' v d → Q v H') → te σ H Q
def EF (K : Frg) (ws : List SD) (te : TE) (P : List PyData → List SD → Prop) : Prop :=
  ∀ T B σ I H, Ok K T B ws σ I H → ∀ Q : VK, (∀ p xs ds ws' I' H', P ds ws' → T p = none → Ok K (upd T p (.lst xs)) B ws' σ I' H' → Same I I' → DaL K I' xs ds → Q (.ref p) H') → te σ H Q
def AW (K : Frg) (ws : List SD) (ta : TA) (P : List PyData → List SD → Prop) : Prop :=
  ∀ T B σ I H, Ok K T B ws σ I H → ∀ Q : List V → Hp → Prop, (∀ vs ds ws' I' H', P ds ws' → Ok K T B ws' σ I' H' → Same I I' → DaL K I' vs ds → Q vs H') → ta σ H Q
def TW (K : Frg) (ws : List SD) (tt : TT) (P : Bool → List SD → Prop) : Prop :=
  ∀ T B σ I H, Ok K T B ws σ I H → ∀ Q : Bool → Hp → Prop, (∀ b ws' I' H', P b ws' → Ok K T B ws' σ I' H' → Same I I' → Q b H') → tt σ H Q
def GW (K : Frg) (T B : Hp) (ws : List SD) (g : TG) (d : PyData) (R : List SD → Prop) : Prop :=
  ∀ σ I H v, Ok K T B ws σ I H → Da K I v d → ∀ Q : L2.St → Hp → Prop, (∀ ws' σ', R ws' → Ok K T B ws' σ' I H → Q σ' H) → g v σ H Q
def GWs (K : Frg) (T B : Hp) (ws : List SD) (g : TGs) (ds : List PyData) (R : List SD → Prop) : Prop :=
  ∀ σ I H vs, Ok K T B ws σ I H → DaL K I vs ds → ∀ Q : L2.St → Hp → Prop, (∀ ws' σ', R ws' → Ok K T B ws' σ' I H → Q σ' H) → g vs σ H Q
def SW (K : Frg) (T B : Hp) (ws : List SD) (ts : TS) (D : Ends) : Prop := ∀ σ I H, Ok K T B ws σ I H → ts D σ H
def NX (K : Frg) (T B : Hp) (ws : List SD) (N : L2.St → Hp → Prop) : Prop := ∀ σ I H, Ok K T B ws σ I H → N σ H
def RT (K : Frg) (T B : Hp) (ws : List SD) (d : PyData) (N : V → Hp → Prop) : Prop := ∀ σ I H v, Ok K T B ws σ I H → Da K I v d → N v H
def Nx (K : Frg) (T B : Hp) (R : List SD → Prop) : L2.St → Hp → Prop := fun σ H => ∃ ws I, R ws ∧ Ok K T B ws σ I H
section
variable {K : Frg} {T B B' I I' H H' : Hp} {ws ws' : List SD} {σ : L2.St}
theorem Same.trans' {I I' J : Hp} (a : Same I I') (b : Same I' J) : Same I J := L2.Same.trans a b
theorem Ok.base (k : Ok K T B ws σ I H) (e : Same B' I) : Ok K T B' ws σ I H := k.elim fun ft k => ⟨ft, { k with bse := e }⟩
theorem Ok.bse (k : Ok K T B ws σ I H) : Same B I := k.elim fun _ k => k.bse
theorem Ok.self (k : Ok K T B ws σ I H) : Ok K T I ws σ I H := k.base (Same.refl I)
theorem Ok.less (k : Ok K T B' ws σ I H) (e : Same B B') : Ok K T B ws σ I H := k.base (e.trans k.bse)
theorem NX.up {N : L2.St → Hp → Prop} (h : NX K T B ws N) (e : Same B B') : NX K T B' ws N := fun σ I H k => h σ I H (k.less e)
theorem RT.up {N : V → Hp → Prop} {d : PyData} (h : RT K T B ws d N) (e : Same B B') : RT K T B' ws d N := fun σ I H v k => h σ I H v (k.less e)
theorem SW.up {ts : TS} {D : Ends} (h : SW K T B ws ts D) (e : Same B B') : SW K T B' ws ts D := fun σ I H k => h σ I H (k.less e)
theorem nx_of {R : List SD → Prop} (h : R ws) : NX K T B ws (Nx K T B R) := fun _ I _ k => ⟨ws, I, h, k⟩
theorem NX.of_nx {R : List SD → Prop} {N : L2.St → Hp → Prop} (h : ∀ ws, R ws → NX K T B ws N) : ∀ σ H, Nx K T B R σ H → N σ H := fun σ H ⟨ws, I, r, k⟩ => h ws r σ I H k
theorem Ok.freeze {p : Addr} {o : HO} (k : Ok K (upd T p o) B ws σ I H) (hT : T p = none) : Ok K T B ws σ (upd I p o) H ∧ Same I (upd I p o) := by
  obtain ⟨ft, k⟩ := k
  have hp : (upd T p o) p = some o := upd_same
  have hI : I p = none := k.ti p (by rw [hp]; simp)
  have hH : H p = some o := k.oth _ _ hp
  have e : Same I (upd I p o) := same_new hI o
  refine ⟨⟨ft, fun b x q => ?_, fun b x q => k.oth b x ?_, k.bse.trans e, fun b hb => ?_, k.len, k.ap, fun i a ha => ?_, fun i w hw => (k.sl i w hw).keep e fun _ _ => rfl⟩, e⟩
  · by_cases z : b = p
    · subst z
      rw [upd_same] at q
      cases q
      exact hH
    · rw [upd_ne z] at q
      exact k.sub _ _ q
  · rw [upd_ne (ne_of_none q hT)]
    exact q
  · have z : b ≠ p := fun z => hb (by rw [z]; exact hT)
    rw [upd_ne z]
    exact k.ti b (by rw [upd_ne z]; exact hb)
  · obtain ⟨h1, h2, h3⟩ := k.own i a ha
    have z : a ≠ p := fun z => by
      rw [z, upd_same] at h2
      cases h2
    rw [upd_ne z] at h2
    rw [upd_ne z]
    exact ⟨h1, h2, h3⟩
theorem Ok.hand {p : Addr} {o : HO} (k : Ok K T B ws σ I H) (h : H p = none) : Ok K (upd T p o) B ws σ I (upd H p o) ∧ T p = none := by
  obtain ⟨ft, k⟩ := k
  have hI := none_of k.sub h
  have hT := none_of k.oth h
  refine ⟨⟨ft, fun b x q => ?_, fun b x q => ?_, k.bse, fun b hb => ?_, k.len, k.ap, fun i a ha => ?_, fun i w hw => (k.sl i w hw).keep (Same.refl I) fun a ha => ?_⟩, hT⟩
  · rw [upd_ne (ne_of_none q hI)]
    exact k.sub _ _ q
  · by_cases z : b = p
    · subst z
      rw [upd_same] at q ⊢
      exact q
    · rw [upd_ne z] at q ⊢
      exact k.oth _ _ q
  · by_cases z : b = p
    · subst z
      exact hI
    · rw [upd_ne z] at hb
      exact k.ti b hb
  · obtain ⟨h1, h2, h3⟩ := k.own i a ha
    have z : a ≠ p := fun z => h3 (by rw [z]; exact h)
    rw [upd_ne z, upd_ne z]
    exact ⟨h1, h2, h3⟩
  · have z : a ≠ p := fun z => (k.own i a ha).2.2 (by rw [z]; exact h)
    rw [upd_ne z]
theorem Ok.keepIt {p : Addr} {xs : List V} {ds : List PyData} {i : Nat} (k : Ok K (upd T p (.lst xs)) B ws σ I H) (hT : T p = none) (hd : DaL K I xs ds) : Ok K T B (ws.set i (.mut ds)) (σ.set i (some (.ref p))) I H := by
  obtain ⟨ft, k⟩ := k
  have hp : (upd T p (HO.lst xs)) p = some (.lst xs) := upd_same
  have hI : I p = none := k.ti p (by rw [hp]; simp)
  have hH : H p = some (.lst xs) := k.oth _ _ hp
  have out : ∀ j, p ∉ ft j := fun j hj => by
    have h2 := (k.own j p hj).2.1
    rw [hp] at h2
    cases h2
  refine ⟨fun j => if i = j then [p] else ft j, k.sub, fun b x q => k.oth b x ?_, k.bse, fun b hb => ?_, by rw [List.length_set, List.length_set]; exact k.len, fun a b c ha hb => ?_, fun j a ha => ?_, fun j w hw => ?_⟩
  · rw [upd_ne (ne_of_none q hT)]
    exact q
  · have z : b ≠ p := fun z => hb (by rw [z]; exact hT)
    exact k.ti b (by rw [upd_ne z]; exact hb)
  · have ha : c ∈ if i = a then [p] else ft a := ha
    have hb : c ∈ if i = b then [p] else ft b := hb
    split at ha
    · split at hb
      · rename_i h1 h2
        exact h1.symm.trans h2
      · rw [List.mem_singleton] at ha
        exact absurd (ha ▸ hb) (out b)
    · split at hb
      · rw [List.mem_singleton] at hb
        exact absurd (hb ▸ ha) (out a)
      · exact k.ap a b c ha hb
  · have ha : a ∈ if i = j then [p] else ft j := ha
    split at ha
    · rw [List.mem_singleton] at ha
      subst ha
      exact ⟨hI, hT, by rw [hH]; simp⟩
    · obtain ⟨h1, h2, h3⟩ := k.own j a ha
      have z : a ≠ p := fun z => out j (by rw [← z]; exact ha)
      rw [upd_ne z] at h2
      exact ⟨h1, h2, h3⟩
  · rcases set_get hw with ⟨q, rfl⟩ | ⟨q, hw⟩
    · subst q
      have hi : i < ws.length := by
        have := (List.getElem?_eq_some_iff.mp hw).1
        rw [List.length_set] at this
        exact this
      refine ⟨p, xs, ?_, ?_, hH, hd⟩
      · rw [join_set (by rw [k.len]; exact hi), if_pos rfl]
      · show p ∈ if i = i then [p] else ft i
        rw [if_pos rfl]
        exact List.mem_singleton.mpr rfl
    · show Sl K I H (if i = j then [p] else ft j) _ w
      rw [if_neg q]
      have e : ((σ.set i (some (V.ref p)))[j]?).join = (σ[j]?).join := by rw [List.getElem?_set, if_neg q]
      rw [e]
      exact k.sl j w hw
theorem Ok.mutAt {i : Nat} {ds : List PyData} (k : Ok K T B ws σ I H) (h : ws[i]? = some (.mut ds)) : ∃ p xs, σ[i]? = some (some (.ref p)) ∧ H p = some (.lst xs) ∧ I p = none ∧ DaL K I xs ds ∧
    (∀ xs' ds', DaL K I xs' ds' → Ok K T B (ws.set i (.mut ds')) σ I (upd H p (.lst xs'))) := by
  obtain ⟨ft, k⟩ := k
  obtain ⟨p, xs, h1, h2, h3, h4⟩ := k.sl i _ h
  have hi : i < ws.length := (List.getElem?_eq_some_iff.mp h).1
  obtain ⟨hI, hT, hH⟩ := k.own i p h2
  refine ⟨p, xs, ?_, h3, hI, h4, fun xs' ds' hd => ⟨ft, fun b x q => ?_, fun b x q => ?_, k.bse, k.ti, by rw [List.length_set]; exact k.len, k.ap, fun j a ha => ?_, fun j w hw => ?_⟩⟩
  · cases e : σ[i]? with
    | none => rw [e] at h1; cases h1
    | some x => rw [e] at h1; exact congrArg some h1
  · rw [upd_ne (ne_of_none q hI)]
    exact k.sub _ _ q
  · rw [upd_ne (ne_of_none q hT)]
    exact k.oth _ _ q
  · obtain ⟨e1, e2, e3⟩ := k.own j a ha
    refine ⟨e1, e2, ?_⟩
    by_cases z : a = p
    · rw [z, upd_same]
      simp
    · rw [upd_ne z]
      exact e3
  · rcases set_get hw with ⟨q, rfl⟩ | ⟨q, hw⟩
    · subst q
      exact ⟨p, xs', h1, h2, upd_same, hd⟩
    · refine (k.sl j w hw).keep (Same.refl I) fun a ha => ?_
      have z : a ≠ p := fun z => q (k.ap i j p h2 (z ▸ ha))
      rw [upd_ne z]
theorem Ok.done {i : Nat} {ds : List PyData} (k : Ok K T B ws σ I H) (h : ws[i]? = some (.mut ds)) : ∃ I', Ok K T B (ws.set i (.dat (.list ds))) σ I' H ∧ Same I I' := by
  obtain ⟨ft, k⟩ := k
  obtain ⟨p, xs, h1, h2, h3, h4⟩ := k.sl i _ h
  obtain ⟨hI, hT, hH⟩ := k.own i p h2
  have e : Same I (upd I p (.lst xs)) := same_new hI _
  refine ⟨upd I p (.lst xs), ⟨fun j => if i = j then [] else ft j, fun b x q => ?_, k.oth, k.bse.trans e, fun b hb => ?_, by rw [List.length_set]; exact k.len, fun a b c ha hb => ?_, fun j a ha => ?_, fun j w hw => ?_⟩, e⟩
  · by_cases z : b = p
    · subst z
      rw [upd_same] at q
      cases q
      exact h3
    · rw [upd_ne z] at q
      exact k.sub _ _ q
  · have z : b ≠ p := fun z => hb (by rw [z]; exact hT)
    rw [upd_ne z]
    exact k.ti b hb
  · have ha : c ∈ if i = a then [] else ft a := ha
    have hb : c ∈ if i = b then [] else ft b := hb
    split at ha
    · cases ha
    · split at hb
      · cases hb
      · exact k.ap a b c ha hb
  · have ha : a ∈ if i = j then [] else ft j := ha
    split at ha
    · cases ha
    · rename_i q
      obtain ⟨e1, e2, e3⟩ := k.own j a ha
      have z : a ≠ p := fun z => q (k.ap i j p h2 (z ▸ ha))
      rw [upd_ne z]
      exact ⟨e1, e2, e3⟩
  · rcases set_get hw with ⟨q, rfl⟩ | ⟨q, hw⟩
    · subst q
      exact ⟨.ref p, h1, .lst upd_same (h4.mono e)⟩
    · show Sl K _ H (if i = j then [] else ft j) _ w
      rw [if_neg q]
      exact (k.sl j w hw).keep e fun _ _ => rfl
theorem Ok.bare (k : Ok K T B ws σ I H) : Ok K T B [] [] I H := k.elim fun ft k => ⟨fun _ => [], k.sub, k.oth, k.bse, k.ti, rfl, fun _ _ _ h _ => (nomatch h), fun _ _ h => (nomatch h), fun _ _ h => (by simp at h)⟩
def rest (I H : Hp) : Hp := fun b => match I b with
  | none => H b
  | some _ => none
theorem rest_eq {b : Addr} (h : I b = none) : rest I H b = H b := by unfold rest; rw [h]
theorem rest_none {b : Addr} (h : I b ≠ none) : rest I H b = none := by
  unfold rest
  cases e : I b with
  | none => exact absurd e h
  | some x => rfl
theorem Ok.give (k : Ok K T B ws σ I H) : Ok K (rest I H) I [] [] I H := by
  refine ⟨fun _ => [], k.sub, fun b x q => ?_, Same.refl I, fun b hb => ?_, rfl, fun _ _ _ h _ => (nomatch h), fun _ _ h => (nomatch h), fun _ _ h => (by simp at h)⟩
  · by_cases z : I b = none
    · rw [rest_eq z] at q
      exact q
    · rw [rest_none z] at q
      cases q
  · by_cases z : I b = none
    · exact z
    · rw [rest_none z] at hb
      exact absurd rfl hb
theorem Ok.take (k : Ok K T B ws σ I H) (k' : Ok K (rest I H) I [] [] I' H') : Ok K T B ws σ I' H' := by
  obtain ⟨ft, k⟩ := k
  have e := k'.bse
  refine ⟨ft, k.step e k'.sub (fun b x q => k'.oth b x ?_) (fun b hb => k'.ti b ?_) fun i a ha => ?_⟩
  · rw [rest_eq (k.ti b (by rw [q]; simp))]
    exact k.oth _ _ q
  · rw [rest_eq (k.ti b hb)]
    cases q : T b with
    | none => exact absurd q hb
    | some x =>
      rw [k.oth _ _ q]
      simp
  · obtain ⟨h1, h2, h3⟩ := k.own i a ha
    have z : rest I H a = H a := rest_eq h1
    refine ⟨?_, k'.ti a (by rw [z]; exact h3)⟩
    cases q : H a with
    | none => exact absurd q h3
    | some x => exact k'.oth a x (by rw [z, q])
end
end DL
namespace DL
open PySem PySem.Spec PyProof.Rows L2
def OW (K : Frg) (r : R2) (x y : PyData) (P : PyData → Prop) : Prop :=
  ∀ T B ws σ I H v u, Ok K T B ws σ I H → Da K I v x → Da K I u y → ∀ Q : VK, (∀ z d I' H', P d → Ok K T B ws σ I' H' → Same I I' → Da K I' z d → Q z H') → r v u H Q
def UW (K : Frg) (r : V → Hp → VK → Prop) (x : PyData) (P : PyData → Prop) : Prop :=
  ∀ T B ws σ I H v, Ok K T B ws σ I H → Da K I v x → ∀ Q : VK, (∀ z d I' H', P d → Ok K T B ws σ I' H' → Same I I' → Da K I' z d → Q z H') → r v H Q
def CW (K : Frg) (r : List V → Hp → VK → Prop) (xs : List PyData) (P : PyData → Prop) : Prop :=
  ∀ T B ws σ I H vs, Ok K T B ws σ I H → DaL K I vs xs → ∀ Q : VK, (∀ z d I' H', P d → Ok K T B ws σ I' H' → Same I I' → Da K I' z d → Q z H') → r vs H Q
def OF (K : Frg) (r : R2) (x y : PyData) (P : List PyData → Prop) : Prop :=
  ∀ T B ws σ I H v u, Ok K T B ws σ I H → Da K I v x → Da K I u y → ∀ Q : VK, (∀ p xs ds I' H', P ds → T p = none → Ok K (upd T p (.lst xs)) B ws σ I' H' → Same I I' → DaL K I' xs ds → Q (.ref p) H') → r v u H Q
def CF (K : Frg) (r : List V → Hp → VK → Prop) (zs : List PyData) (P : List PyData → Prop) : Prop :=
  ∀ T B ws σ I H vs, Ok K T B ws σ I H → DaL K I vs zs → ∀ Q : VK, (∀ p xs ds I' H', P ds → T p = none → Ok K (upd T p (.lst xs)) B ws σ I' H' → Same I I' → DaL K I' xs ds → Q (.ref p) H') → r vs H Q
section
variable {K : Frg} {ws : List SD} {ta tb te : TE} {ts : TA} {tt tu : TT} {r r' : R2} {x y z : PyData} {P : PyData → List SD → Prop} {PA : List PyData → List SD → Prop} {PB : Bool → List SD → Prop} {Pd : PyData → Prop} {Pl : List PyData → Prop}
theorem EW.imp {P' : PyData → List SD → Prop} (h : EW K ws te P) (f : ∀ d w, P d w → P' d w) : EW K ws te P' := fun T B σ I H k Q q => h T B σ I H k Q fun v d ws' I' H' p => q v d ws' I' H' (f _ _ p)
theorem ew_var {i : Nat} {d : PyData} (h : ws[i]? = some (.dat d)) (p : P d ws) : EW K ws (tVar i) P := fun T B σ I H k Q q => by
  obtain ⟨v, e, a⟩ := k.dat h
  exact ⟨v, e, q v d ws I H p k (Same.refl I) a⟩
theorem ew_int {i : Int} (p : P (.int i) ws) : EW K ws (tC (.int i)) P := fun T B σ I H k Q q => q _ _ _ _ _ p k (Same.refl I) (.int i)
theorem ew_str {i : Str} (p : P (.str i) ws) : EW K ws (tC (.str i)) P := fun T B σ I H k Q q => q _ _ _ _ _ p k (Same.refl I) (.str i)
theorem ew_bl {i : Bool} (p : P (.bool i) ws) : EW K ws (tC (.bl i)) P := fun T B σ I H k Q q => q _ _ _ _ _ p k (Same.refl I) (.bl i)
theorem ew_non (p : P .none ws) : EW K ws (tC .non) P := fun T B σ I H k Q q => q _ _ _ _ _ p k (Same.refl I) .non
theorem ew_con {v : V} {d : PyData} (h : Da K (fun _ => none) v d) (p : P d ws) : EW K ws (tC v) P := fun T B σ I H k Q q => q _ _ _ _ _ p k (Same.refl I) (h.mono fun _ _ e => by cases e)
theorem ew_op (h : EW K ws ta fun x w1 => EW K w1 tb fun y w2 => OW K r x y fun d => P d w2) : EW K ws (tOp r ta tb) P := fun T B σ I H k Q q => by
  refine h T B σ I H k _ fun v x w1 I1 H1 p1 k1 s1 a1 => ?_
  refine p1 T B σ I1 H1 k1 _ fun u y w2 I2 H2 p2 k2 s2 a2 => ?_
  exact p2 T B w2 σ I2 H2 v u k2 (a1.mono s2) a2 Q fun z d I3 H3 p3 k3 s3 a3 => q z d w2 I3 H3 p3 k3 ((s1.trans s2).trans s3) a3
theorem ef_op {PL : List PyData → List SD → Prop} (h : EW K ws ta fun x w1 => EW K w1 tb fun y w2 => OF K r x y fun d => PL d w2) : EF K ws (tOp r ta tb) PL := fun T B σ I H k Q q => by
  refine h T B σ I H k _ fun v x w1 I1 H1 p1 k1 s1 a1 => ?_
  refine p1 T B σ I1 H1 k1 _ fun u y w2 I2 H2 p2 k2 s2 a2 => ?_
  exact p2 T B w2 σ I2 H2 v u k2 (a1.mono s2) a2 Q fun p xs ds I3 H3 p3 n3 k3 s3 a3 => q p xs ds w2 I3 H3 p3 n3 k3 ((s1.trans s2).trans s3) a3
theorem ew_un {r : V → Hp → VK → Prop} (h : EW K ws ta fun x w1 => UW K r x fun d => P d w1) : EW K ws (tUn r ta) P := fun T B σ I H k Q q => by
  refine h T B σ I H k _ fun v x w1 I1 H1 p1 k1 s1 a1 => ?_
  exact p1 T B w1 σ I1 H1 v k1 a1 Q fun z d I3 H3 p3 k3 s3 a3 => q z d w1 I3 H3 p3 k3 (s1.trans s3) a3
theorem ew_ef (h : EF K ws te fun ds w => P (.list ds) w) : EW K ws te P := fun T B σ I H k Q q => by
  refine h T B σ I H k _ fun p xs ds w1 I1 H1 p1 n1 k1 s1 a1 => ?_
  obtain ⟨k2, e⟩ := k1.freeze n1
  exact q _ _ _ _ _ p1 k2 (s1.trans e) (.lst upd_same (a1.mono e))
theorem ow_ii {f : Int → Int → Int} {a b : Int} (p : Pd (.int (f a b))) : OW K (rI0 fun i j => .int (f i j)) (.int a) (.int b) Pd := fun T B ws σ I H v u k hv hu Q q => by
  cases hv
  cases hu
  exact ⟨a, b, rfl, rfl, q _ _ _ _ p k (Same.refl I) (.int _)⟩
theorem ow_ib {f : Int → Int → Bool} {a b : Int} (p : Pd (.bool (f a b))) : OW K (rI0 fun i j => .bl (f i j)) (.int a) (.int b) Pd := fun T B ws σ I H v u k hv hu Q q => by
  cases hv
  cases hu
  exact ⟨a, b, rfl, rfl, q _ _ _ _ p k (Same.refl I) (.bl _)⟩
theorem ow_ci {C : Int → Int → Prop} {f : Int → Int → Int} {a b : Int} (c : C a b) (p : Pd (.int (f a b))) : OW K (rI C fun i j => .int (f i j)) (.int a) (.int b) Pd := fun T B ws σ I H v u k hv hu Q q => by
  cases hv
  cases hu
  exact ⟨a, b, rfl, rfl, c, q _ _ _ _ p k (Same.refl I) (.int _)⟩
theorem ow_eqI {a b : Int} (p : Pd (.bool (decide (a = b)))) : OW K rEq (.int a) (.int b) Pd := fun T B ws σ I H v u k hv hu Q q => by
  cases hv
  cases hu
  have e : decide (V.int a = V.int b) = decide (a = b) := by by_cases h : a = b <;> simp [h]
  exact ⟨rfl, by rw [e]; exact q _ _ _ _ p k (Same.refl I) (.bl _)⟩
theorem ow_neI {a b : Int} (p : Pd (.bool (!decide (a = b)))) : OW K rNe (.int a) (.int b) Pd := fun T B ws σ I H v u k hv hu Q q => by
  cases hv
  cases hu
  have e : decide (V.int a = V.int b) = decide (a = b) := by by_cases h : a = b <;> simp [h]
  exact ⟨rfl, by rw [e]; exact q _ _ _ _ p k (Same.refl I) (.bl _)⟩
theorem ow_eqS {a b : Str} (p : Pd (.bool (decide (a = b)))) : OW K rEq (.str a) (.str b) Pd := fun T B ws σ I H v u k hv hu Q q => by
  cases hv
  cases hu
  have e : decide (V.str a = V.str b) = decide (a = b) := by by_cases h : a = b <;> simp [h]
  exact ⟨rfl, by rw [e]; exact q _ _ _ _ p k (Same.refl I) (.bl _)⟩
theorem ow_neS {a b : Str} (p : Pd (.bool (!decide (a = b)))) : OW K rNe (.str a) (.str b) Pd := fun T B ws σ I H v u k hv hu Q q => by
  cases hv
  cases hu
  have e : decide (V.str a = V.str b) = decide (a = b) := by by_cases h : a = b <;> simp [h]
  exact ⟨rfl, by rw [e]; exact q _ _ _ _ p k (Same.refl I) (.bl _)⟩
theorem dp_of {T B : Hp} {I H : Hp} {σ : L2.St} {v : V} {d : PyData} (k : Ok K T B ws σ I H) (a : Da K I v d) : Dp K H v d := (a.mono k.sub).dp
theorem ow_eqD {a b : PyData} (h1 : SeqAt.shaped a = true) (h2 : SeqAt.shaped b = true) (p : Pd (.bool (PyData.eqv a b))) : OW K (rEqD K) a b Pd := fun T B ws σ I H v u k hv hu Q q =>
  ⟨a, b, dp_of k hv, dp_of k hu, h1, h2, q _ _ _ _ p k (Same.refl I) (.bl _)⟩
theorem ow_neD {a b : PyData} (h1 : SeqAt.shaped a = true) (h2 : SeqAt.shaped b = true) (p : Pd (.bool (!PyData.eqv a b))) : OW K (rNeD K) a b Pd := fun T B ws σ I H v u k hv hu Q q =>
  ⟨a, b, dp_of k hv, dp_of k hu, h1, h2, q _ _ _ _ p k (Same.refl I) (.bl _)⟩
theorem ow_inD {a : PyData} {ds : List PyData} (h1 : SeqAt.shaped a = true) (h2 : SeqAt.shaped (.list ds) = true) (p : Pd (.bool (ds.any fun z => PyData.eqv z a))) : OW K (rInD K) a (.list ds) Pd := fun T B ws σ I H v u k hv hu Q q =>
  ⟨a, ds, dp_of k hv, dp_of k hu, h1, h2, q _ _ _ _ p k (Same.refl I) (.bl _)⟩
theorem ow_notInD {a : PyData} {ds : List PyData} (h1 : SeqAt.shaped a = true) (h2 : SeqAt.shaped (.list ds) = true) (p : Pd (.bool (!ds.any fun z => PyData.eqv z a))) : OW K (rNotInD K) a (.list ds) Pd := fun T B ws σ I H v u k hv hu Q q =>
  ⟨a, ds, dp_of k hv, dp_of k hu, h1, h2, q _ _ _ _ p k (Same.refl I) (.bl _)⟩
def flatD : PyData → Option V
  | .none => some .non
  | .bool b => some (.bl b)
  | .int i => some (.int i)
  | .str x => some (.str x)
  | _ => none
theorem flat_val {I : Hp} {v w : V} {d : PyData} (h : Da K I v d) (e : flatD d = some w) : v = w ∧ flatV v = true := by
  cases h <;> cases e <;> exact ⟨rfl, rfl⟩
theorem flats_val {I : Hp} : ∀ {vs ws : List V} {ds : List PyData}, DaL K I vs ds → ds.mapM flatD = some ws → vs = ws ∧ vs.all flatV = true
  | _, _, _, .nil, e => by
    cases e
    exact ⟨rfl, rfl⟩
  | _, _, d :: ds, .cons h r, e => by
    rw [List.mapM_cons] at e
    cases e1 : flatD d with
    | none => rw [e1] at e; cases e
    | some w =>
      cases e2 : ds.mapM flatD with
      | none => rw [e1, e2] at e; cases e
      | some us =>
        rw [e1, e2] at e
        cases e
        obtain ⟨rfl, h1⟩ := flat_val h e1
        obtain ⟨rfl, h2⟩ := flats_val r e2
        exact ⟨rfl, by rw [List.all_cons, h1, h2]; rfl⟩
theorem ow_in {neg : Bool} {a : PyData} {ds : List PyData} {w : V} {us : List V} (t : y = .tuple ds ∨ y = .list ds) (h1 : flatD a = some w) (h2 : ds.mapM flatD = some us) (p : Pd (.bool (if neg then !inV w us else inV w us))) : OW K (rIn K neg) a y Pd := fun T B ws σ I H v u k hv hu Q q => by
  obtain ⟨rfl, f1⟩ := flat_val hv h1
  rcases t with rfl | rfl
  · obtain ⟨p0, xs, rfl, hs, ha⟩ := hu.tup_inv
    obtain ⟨rfl, f2⟩ := flats_val ha h2
    exact ⟨p0, xs, rfl, .inr (sqT_mono k.sub hs), f1, f2, q _ _ _ _ p k (Same.refl I) (.bl _)⟩
  · obtain ⟨p0, xs, rfl, hs, ha⟩ := hu.list_inv
    obtain ⟨rfl, f2⟩ := flats_val ha h2
    exact ⟨p0, xs, rfl, .inl (.inl (.inl (k.sub _ _ hs))), f1, f2, q _ _ _ _ p k (Same.refl I) (.bl _)⟩
theorem atI_da {I : Hp} {vs : List V} {ds : List PyData} {i : Int} {d : PyData} (h : DaL K I vs ds) (e : atI ds i = some d) : ∃ v, atI vs i = some v ∧ Da K I v d := by
  unfold atI at e ⊢
  rw [h.length]
  cases n : ixN ds.length i with
  | none => rw [n] at e; cases e
  | some j =>
    rw [n] at e
    exact h.get e
theorem ow_ixL {ds : List PyData} {i : Int} {d : PyData} (e : atI ds i = some d) (p : Pd d) : OW K (rIxL K) (.list ds) (.int i) Pd := fun T B ws σ I H v u k hv hu Q q => by
  obtain ⟨a, xs, rfl, hs, ha⟩ := hv.list_inv
  obtain rfl := hu.int_inv
  obtain ⟨w, e2, hw⟩ := atI_da ha e
  exact ⟨a, xs, i, w, rfl, rfl, .inl (.inl (k.sub _ _ hs)), e2, q _ _ _ _ p k (Same.refl I) hw⟩
theorem ow_ixT {ds : List PyData} {i : Int} {d : PyData} (e : atI ds i = some d) (p : Pd d) : OW K (rIxT K) (.tuple ds) (.int i) Pd := fun T B ws σ I H v u k hv hu Q q => by
  obtain ⟨a, xs, rfl, hs, ha⟩ := hv.tup_inv
  obtain rfl := hu.int_inv
  obtain ⟨w, e2, hw⟩ := atI_da ha e
  exact ⟨a, xs, i, w, rfl, rfl, sqT_mono k.sub hs, e2, q _ _ _ _ p k (Same.refl I) hw⟩
theorem ow_ixT' {ds : List PyData} {i : Int} {d : PyData} (e : atI ds i = some d) (p : Pd d) : OW K (rIx K) (.tuple ds) (.int i) Pd := fun T B ws σ I H v u k hv hu Q q => .inr (.inl (ow_ixT e p T B ws σ I H v u k hv hu Q q))
theorem ow_ixL' {ds : List PyData} {i : Int} {d : PyData} (e : atI ds i = some d) (p : Pd d) : OW K (rIx K) (.list ds) (.int i) Pd := fun T B ws σ I H v u k hv hu Q q => .inl (ow_ixL e p T B ws σ I H v u k hv hu Q q)
theorem of_cat {xs ys : List PyData} (hz : xs.length + ys.length ≤ sizeLine) (p : Pl (xs ++ ys)) : OF K rCat (.list xs) (.list ys) Pl := fun T B ws σ I H v u k hv hu Q q => by
  obtain ⟨a, vs, rfl, hs, ha⟩ := hv.list_inv
  obtain ⟨b, us, rfl, hs2, hb⟩ := hu.list_inv
  refine ⟨a, b, vs, us, rfl, rfl, k.sub _ _ hs, k.sub _ _ hs2, by rw [ha.length, hb.length]; exact hz, fun l hl => ?_⟩
  obtain ⟨k2, n2⟩ := k.hand (o := .lst (vs ++ us)) hl
  exact q _ _ _ _ _ p n2 k2 (Same.refl I) (ha.append hb)
theorem daL_rep {I : Hp} : ∀ {vs : List V} {ds : List PyData} (n : Nat), DaL K I vs ds → DaL K I (List.replicate n vs).flatten (List.replicate n ds).flatten
  | _, _, 0, _ => .nil
  | _, _, n + 1, h => by
    rw [List.replicate_succ, List.replicate_succ, List.flatten_cons, List.flatten_cons]
    exact h.append (daL_rep n h)
theorem tw_test (h : EW K ws te fun d w => ∃ b, d = .bool b ∧ PB b w) : TW K ws (tTest te) PB := fun T B σ I H k Q q => by
  refine h T B σ I H k _ fun v d w1 I1 H1 p1 k1 s1 a1 => ?_
  obtain ⟨b, rfl, pb⟩ := p1
  exact ⟨b, a1.bl_inv, q _ _ _ _ pb k1 s1⟩
theorem tw_B (h : EW K ws te fun d w => ∃ b, d = .bool b ∧ PB b w) : TW K ws (tB te) PB := fun T B σ I H k Q q => by
  refine h T B σ I H k _ fun v d w1 I1 H1 p1 k1 s1 a1 => ?_
  obtain ⟨b, rfl, pb⟩ := p1
  exact ⟨b, a1.bl_inv, q _ _ _ _ pb k1 s1⟩
theorem tw_not (h : TW K ws tt fun b w => PB (!b) w) : TW K ws (tNot tt) PB := fun T B σ I H k Q q => h T B σ I H k _ fun b w1 I1 H1 p1 k1 s1 => q _ _ _ _ p1 k1 s1
theorem tw_and (h : TW K ws tt fun b w => if b = true then TW K w tu PB else PB false w) : TW K ws (tAnd tt tu) PB := fun T B σ I H k Q q => by
  refine h T B σ I H k _ fun b w1 I1 H1 p1 k1 s1 => ?_
  cases b with
  | true => exact p1 T B σ I1 H1 k1 Q fun b w2 I2 H2 p2 k2 s2 => q _ _ _ _ p2 k2 (s1.trans s2)
  | false => exact q _ _ _ _ p1 k1 s1
theorem tw_or (h : TW K ws tt fun b w => if b = true then PB true w else TW K w tu PB) : TW K ws (tOr tt tu) PB := fun T B σ I H k Q q => by
  refine h T B σ I H k _ fun b w1 I1 H1 p1 k1 s1 => ?_
  cases b with
  | false => exact p1 T B σ I1 H1 k1 Q fun b w2 I2 H2 p2 k2 s2 => q _ _ _ _ p2 k2 (s1.trans s2)
  | true => exact q _ _ _ _ p1 k1 s1
theorem tw_yes (p : PB true ws) : TW K ws tYes PB := fun T B σ I H k Q q => q _ _ _ _ p k (Same.refl I)
theorem ew_if (h : TW K ws tt fun b w => if b = true then EW K w ta P else EW K w tb P) : EW K ws (tIf tt ta tb) P := fun T B σ I H k Q q => by
  refine h T B σ I H k _ fun b w1 I1 H1 p1 k1 s1 => ?_
  cases b with
  | true => exact p1 T B σ I1 H1 k1 Q fun z d w2 I2 H2 p2 k2 s2 a2 => q _ _ _ _ _ p2 k2 (s1.trans s2) a2
  | false => exact p1 T B σ I1 H1 k1 Q fun z d w2 I2 H2 p2 k2 s2 a2 => q _ _ _ _ _ p2 k2 (s1.trans s2) a2
theorem ew_andV (h : EW K ws ta fun x w => ∃ b, x = .bool b ∧ if b = true then EW K w tb P else P (.bool false) w) : EW K ws (tAndV ta tb) P := fun T B σ I H k Q q => by
  refine h T B σ I H k _ fun v d w1 I1 H1 p1 k1 s1 a1 => ?_
  obtain ⟨b, rfl, p1⟩ := p1
  refine ⟨b, a1.bl_inv, ?_⟩
  cases b with
  | true => exact p1 T B σ I1 H1 k1 Q fun z d w2 I2 H2 p2 k2 s2 a2 => q _ _ _ _ _ p2 k2 (s1.trans s2) a2
  | false => exact q _ _ _ _ _ p1 k1 s1 (.bl false)
theorem ew_orV (h : EW K ws ta fun x w => ∃ b, x = .bool b ∧ if b = true then P (.bool true) w else EW K w tb P) : EW K ws (tOrV ta tb) P := fun T B σ I H k Q q => by
  refine h T B σ I H k _ fun v d w1 I1 H1 p1 k1 s1 a1 => ?_
  obtain ⟨b, rfl, p1⟩ := p1
  refine ⟨b, a1.bl_inv, ?_⟩
  cases b with
  | false => exact p1 T B σ I1 H1 k1 Q fun z d w2 I2 H2 p2 k2 s2 a2 => q _ _ _ _ _ p2 k2 (s1.trans s2) a2
  | true => exact q _ _ _ _ _ p1 k1 s1 (.bl true)
theorem ew_notV (h : EW K ws ta fun x w => ∃ b, x = .bool b ∧ P (.bool (!b)) w) : EW K ws (tNotV ta) P := fun T B σ I H k Q q => by
  refine h T B σ I H k _ fun v d w1 I1 H1 p1 k1 s1 a1 => ?_
  obtain ⟨b, rfl, p1⟩ := p1
  exact ⟨b, a1.bl_inv, q _ _ _ _ _ p1 k1 s1 (.bl _)⟩
theorem ew_chain {tc : TE} (h : EW K ws ta fun x w1 => EW K w1 tb fun y w2 => OW K r x y fun d => ∃ b, d = .bool b ∧ if b = true then EW K w2 tc fun z w3 => OW K r' y z fun d => P d w3 else P (.bool false) w2) : EW K ws (tChain r r' ta tb tc) P := fun T B σ I H k Q q => by
  refine h T B σ I H k _ fun v x w1 I1 H1 p1 k1 s1 a1 => ?_
  refine p1 T B σ I1 H1 k1 _ fun u y w2 I2 H2 p2 k2 s2 a2 => ?_
  refine p2 T B w2 σ I2 H2 v u k2 (a1.mono s2) a2 _ fun z d I3 H3 p3 k3 s3 a3 => ?_
  obtain ⟨b, rfl, p3⟩ := p3
  refine ⟨b, a3.bl_inv, ?_⟩
  cases b with
  | true => exact p3 T B σ I3 H3 k3 _ fun t d w4 I4 H4 p4 k4 s4 a4 => p4 T B w4 σ I4 H4 u t k4 (a2.mono (s3.trans s4)) a4 Q fun z d I5 H5 p5 k5 s5 a5 => q _ _ _ _ _ p5 k5 ((((s1.trans s2).trans s3).trans s4).trans s5) a5
  | false => exact q _ _ _ _ _ p3 k3 ((s1.trans s2).trans s3) (.bl false)
theorem aw_nil (p : PA [] ws) : AW K ws tNil PA := fun T B σ I H k Q q => q _ _ _ _ _ p k (Same.refl I) .nil
theorem aw_cons (h : EW K ws ta fun x w => AW K w ts fun xs w' => PA (x :: xs) w') : AW K ws (tCons ta ts) PA := fun T B σ I H k Q q => by
  refine h T B σ I H k _ fun v x w1 I1 H1 p1 k1 s1 a1 => ?_
  exact p1 T B σ I1 H1 k1 _ fun vs xs w2 I2 H2 p2 k2 s2 a2 => q _ _ _ _ _ p2 k2 (s1.trans s2) (.cons (a1.mono s2) a2)
theorem ew_tup (h : AW K ws ts fun xs w => xs.length ≤ sizeLine ∧ P (.tuple xs) w) : EW K ws (tTup ts) P := fun T B σ I H k Q q => by
  refine h T B σ I H k _ fun vs xs w1 I1 H1 p1 k1 s1 a1 => ?_
  refine ⟨by rw [a1.length]; exact p1.1, fun p hp => ?_⟩
  have e := same_new (none_of k1.sub hp) (HO.tup vs)
  exact q _ _ _ _ _ p1.2 (k1.new hp _) (s1.trans e) (.tup (.inl (.inl upd_same)) (a1.mono e))
theorem ef_lst (h : AW K ws ts fun xs w => xs.length ≤ sizeLine ∧ PA xs w) : EF K ws (tLst ts) PA := fun T B σ I H k Q q => by
  refine h T B σ I H k _ fun vs xs w1 I1 H1 p1 k1 s1 a1 => ?_
  refine ⟨by rw [a1.length]; exact p1.1, fun p hp => ?_⟩
  obtain ⟨k2, n2⟩ := k1.hand (o := .lst vs) hp
  exact q _ _ _ _ _ _ p1.2 n2 k2 s1 a1
theorem ew_cb {r : List V → Hp → VK → Prop} (h : AW K ws ts fun xs w => CW K r xs fun d => P d w) : EW K ws (tCB r ts) P := fun T B σ I H k Q q => by
  refine h T B σ I H k _ fun vs xs w1 I1 H1 p1 k1 s1 a1 => ?_
  exact p1 T B w1 σ I1 H1 vs k1 a1 Q fun z d I2 H2 p2 k2 s2 a2 => q _ _ _ _ _ p2 k2 (s1.trans s2) a2
theorem ef_cb {r : List V → Hp → VK → Prop} (h : AW K ws ts fun xs w => CF K r xs fun d => PA d w) : EF K ws (tCB r ts) PA := fun T B σ I H k Q q => by
  refine h T B σ I H k _ fun vs xs w1 I1 H1 p1 k1 s1 a1 => ?_
  exact p1 T B w1 σ I1 H1 vs k1 a1 Q fun p ys ds I2 H2 p2 n2 k2 s2 a2 => q _ _ _ _ _ _ p2 n2 k2 (s1.trans s2) a2
theorem cw_len {ds : List PyData} (t : x = .list ds ∨ x = .tuple ds) (p : Pd (.int ds.length)) : CW K (fun xs H Q => ∃ p ys, xs = [.ref p] ∧ (SqL K H p ys ∨ SqT K H p ys) ∧ Q (.int ys.length) H) [x] Pd := fun T B ws σ I H vs k a Q q => by
  cases a with
  | cons h r =>
    cases r
    rcases t with rfl | rfl
    · obtain ⟨b, xs, rfl, hs, ha⟩ := h.list_inv
      refine ⟨b, xs, rfl, .inl (.inl (.inl (k.sub _ _ hs))), ?_⟩
      rw [ha.length]
      exact q _ _ _ _ p k (Same.refl I) (.int _)
    · obtain ⟨b, xs, rfl, hs, ha⟩ := h.tup_inv
      refine ⟨b, xs, rfl, .inr (sqT_mono k.sub hs), ?_⟩
      rw [ha.length]
      exact q _ _ _ _ p k (Same.refl I) (.int _)
theorem cf_list {ds : List PyData} (t : x = .list ds ∨ x = .tuple ds) (p : Pl ds) : CF K (fun xs H Q => ∃ p ys, xs = [.ref p] ∧ (SqL K H p ys ∨ SqT K H p ys) ∧ ∀ l, H l = none → Q (.ref l) (upd H l (.lst ys))) [x] Pl := fun T B ws σ I H vs k a Q q => by
  cases a with
  | cons h r =>
    cases r
    rcases t with rfl | rfl
    · obtain ⟨b, xs, rfl, hs, ha⟩ := h.list_inv
      refine ⟨b, xs, rfl, .inl (.inl (.inl (k.sub _ _ hs))), fun l hl => ?_⟩
      obtain ⟨k2, n2⟩ := k.hand (o := .lst xs) hl
      exact q _ _ _ _ _ p n2 k2 (Same.refl I) ha
    · obtain ⟨b, xs, rfl, hs, ha⟩ := h.tup_inv
      refine ⟨b, xs, rfl, .inr (sqT_mono k.sub hs), fun l hl => ?_⟩
      obtain ⟨k2, n2⟩ := k.hand (o := .lst xs) hl
      exact q _ _ _ _ _ p n2 k2 (Same.refl I) ha
theorem cw_abs {i : Int} (p : Pd (.int (if i < 0 then -i else i))) : CW K (fun xs H Q => ∃ i, xs = [.int i] ∧ Q (.int (if i < 0 then -i else i)) H) [.int i] Pd := fun T B ws σ I H vs k a Q q => by
  cases a with
  | cons h r =>
    cases r
    cases h
    exact ⟨i, rfl, q _ _ _ _ p k (Same.refl I) (.int _)⟩
theorem cw_max2 {i j : Int} (p : Pd (.int (if j > i then j else i))) : CW K (fun xs H Q => ∃ i j, xs = [.int i, .int j] ∧ Q (.int (if j > i then j else i)) H) [.int i, .int j] Pd := fun T B ws σ I H vs k a Q q => by
  cases a with
  | cons h r =>
    cases h
    cases r with
    | cons h r =>
      cases r
      cases h
      exact ⟨i, j, rfl, q _ _ _ _ p k (Same.refl I) (.int _)⟩
theorem cw_min2 {i j : Int} (p : Pd (.int (if j < i then j else i))) : CW K (fun xs H Q => ∃ i j, xs = [.int i, .int j] ∧ Q (.int (if j < i then j else i)) H) [.int i, .int j] Pd := fun T B ws σ I H vs k a Q q => by
  cases a with
  | cons h r =>
    cases h
    cases r with
    | cons h r =>
      cases r
      cases h
      exact ⟨i, j, rfl, q _ _ _ _ p k (Same.refl I) (.int _)⟩
theorem cw_int1 {b : Bool} (p : Pd (.int (if b then 1 else 0))) : CW K (fun xs H Q => (∃ i, xs = [.int i] ∧ Q (.int i) H) ∨ ∃ k, xs = [.bl k] ∧ Q (.int (if k then 1 else 0)) H) [.bool b] Pd := fun T B ws σ I H vs k a Q q => by
  cases a with
  | cons h r =>
    cases h
    cases r
    exact .inr ⟨b, rfl, q _ _ _ _ p k (Same.refl I) (.int _)⟩
theorem cw_sum {ns : List Int} (p : Pd (.int ns.sum)) : CW K (rSum K) [.list (ns.map .int)] Pd := fun T B ws σ I H vs k a Q q => by
  cases a with
  | cons h r =>
    cases r
    obtain ⟨b, xs, rfl, hs, ha⟩ := h.list_inv
    obtain rfl := ha.ints
    exact ⟨b, ns, rfl, .inl (.inl (k.sub _ _ hs)), q _ _ _ _ p k (Same.refl I) (.int _)⟩
theorem cf_sortS {xs : List Str} (h64 : xs.length < 64) (p : ∀ ys : List Str, ys.Perm xs → sortedS ys = true → Pl (ys.map .str)) : CF K (rSortedS K) [.list (xs.map .str)] Pl := fun T B ws σ I H vs k a Q q => by
  cases a with
  | cons h r =>
    cases r
    obtain ⟨b, us, rfl, hs, ha⟩ := h.list_inv
    obtain rfl := ha.strs
    refine ⟨b, xs, rfl, .inl (.inl (k.sub _ _ hs)), h64, fun ys l hp hso hl => ?_⟩
    obtain ⟨k2, n2⟩ := k.hand (o := .lst (ys.map V.str)) hl
    exact q _ _ _ _ _ (p ys hp hso) n2 k2 (Same.refl I) (DaL.ofStrs ys)
def OptE (K : Frg) (ws : List SD) (to : TO) (P : Option Int → List SD → Prop) : Prop :=
  ∀ T B σ I H, Ok K T B ws σ I H → ∀ Q : Option Int → Hp → Prop, (∀ o ws' I' H', P o ws' → Ok K T B ws' σ I' H' → Same I I' → Q o H') → to σ H Q
theorem oe_no {PO : Option Int → List SD → Prop} (p : PO none ws) : OptE K ws tNoPart PO := fun T B σ I H k Q q => q _ _ _ _ p k (Same.refl I)
theorem oe_part {PO : Option Int → List SD → Prop} (h : EW K ws te fun x w => ∃ i, x = .int i ∧ PO (some i) w) : OptE K ws (tPart te) PO := fun T B σ I H k Q q => by
  refine h T B σ I H k _ fun v x w1 I1 H1 p1 k1 s1 a1 => ?_
  obtain ⟨i, rfl, p1⟩ := p1
  exact ⟨i, a1.int_inv, q _ _ _ _ p1 k1 s1⟩
def cutD {α : Type} (xs : List α) (lo hi : Option Int) : List α := (xs.drop (HT.sIx xs.length 0 lo)).take (HT.sIx xs.length xs.length hi - HT.sIx xs.length 0 lo)
theorem ef_slice {tl th : TO} (h : EW K ws te fun x w1 => ∃ ds, x = .list ds ∧ OptE K w1 tl fun lo w2 => OptE K w2 th fun hi w3 => PA (cutD ds lo hi) w3) : EF K ws (tSl (rSlL K) te tl th) PA := fun T B σ I H k Q q => by
  refine h T B σ I H k _ fun v x w1 I1 H1 p1 k1 s1 a1 => ?_
  obtain ⟨ds, rfl, p1⟩ := p1
  refine p1 T B σ I1 H1 k1 _ fun lo w2 I2 H2 p2 k2 s2 => ?_
  refine p2 T B σ I2 H2 k2 _ fun hi w3 I3 H3 p3 k3 s3 => ?_
  obtain ⟨b, us, rfl, hs, ha⟩ := (a1.mono (s2.trans s3)).list_inv
  refine ⟨b, us, rfl, .inl (.inl (k3.sub _ _ hs)), fun l hl => ?_⟩
  obtain ⟨k4, n4⟩ := k3.hand (o := .lst (cutV us lo hi)) hl
  refine q _ _ _ _ _ _ p3 n4 k4 ((s1.trans s2).trans s3) ?_
  unfold cutV cutD
  rw [ha.length]
  exact (ha.drop _).take _
theorem ef_rev (h : EW K ws te fun x w1 => ∃ ds, x = .list ds ∧ PA ds.reverse w1) : EF K ws (tRevL K te) PA := fun T B σ I H k Q q => by
  refine h T B σ I H k _ fun v x w1 I1 H1 p1 k1 s1 a1 => ?_
  obtain ⟨ds, rfl, p1⟩ := p1
  obtain ⟨b, us, rfl, hs, ha⟩ := a1.list_inv
  refine ⟨b, us, rfl, .inl (.inl (k1.sub _ _ hs)), fun l hl => ?_⟩
  obtain ⟨k4, n4⟩ := k1.hand (o := .lst us.reverse) hl
  exact q _ _ _ _ _ _ p1 n4 k4 s1 ha.reverse
theorem ew_lenM {i : Nat} {ds : List PyData} (h : ws[i]? = some (.mut ds)) (p : P (.int ds.length) ws) : EW K ws (tCB (fun xs H Q => ∃ p ys, xs = [.ref p] ∧ (SqL K H p ys ∨ SqT K H p ys) ∧ Q (.int ys.length) H) (tCons (tVar i) tNil)) P := fun T B σ I H k Q q => by
  obtain ⟨b, xs, e, hH, _, ha, _⟩ := k.mutAt h
  refine ⟨.ref b, e, b, xs, rfl, .inl (.inl (.inl hH)), ?_⟩
  rw [ha.length]
  exact q _ _ _ _ _ p k (Same.refl I) (.int _)
theorem ew_ixM {i : Nat} {ds : List PyData} (h : ws[i]? = some (.mut ds)) (hb : EW K ws tb fun y w => ∃ j, y = .int j ∧ w = ws ∧ ∃ d, atI ds j = some d ∧ P d ws) : EW K ws (tOp (rIxL K) (tVar i) tb) P := fun T B σ I H k Q q => by
  obtain ⟨b, xs, e, hH, hI, ha, _⟩ := k.mutAt h
  refine ⟨.ref b, e, ?_⟩
  refine hb T B σ I H k _ fun u y w1 I1 H1 p1 k1 s1 a1 => ?_
  obtain ⟨j, rfl, rfl, d, at_, p⟩ := p1
  obtain ⟨b', xs', e', hH', _, ha', _⟩ := k1.mutAt h
  rw [e] at e'
  cases e'
  obtain ⟨w, e2, hw⟩ := atI_da ha' at_
  exact ⟨b, xs', j, w, rfl, a1.int_inv, .inl (.inl hH'), e2, q _ _ _ _ _ p k1 s1 hw⟩
theorem ew_neM {i : Nat} {ds : List PyData} (h : ws[i]? = some (.mut ds)) (hb : EW K ws tb fun y w => w = ws ∧ SeqAt.shaped (.list ds) = true ∧ SeqAt.shaped y = true ∧ P (.bool (!PyData.eqv (.list ds) y)) ws) : EW K ws (tOp (rNeD K) (tVar i) tb) P := fun T B σ I H k Q q => by
  obtain ⟨b, xs, e, hH, hI, ha, _⟩ := k.mutAt h
  refine ⟨.ref b, e, ?_⟩
  refine hb T B σ I H k _ fun u y w1 I1 H1 p1 k1 s1 a1 => ?_
  obtain ⟨rfl, h1, h2, p⟩ := p1
  obtain ⟨b', xs', e', hH', _, ha', _⟩ := k1.mutAt h
  rw [e] at e'
  cases e'
  exact ⟨_, _, .lst (.inl (.inl hH')) (ha'.mono k1.sub).dp, dp_of k1 a1, h1, h2, q _ _ _ _ _ p k1 s1 (.bl _)⟩
theorem ew_eqM {i : Nat} {ds : List PyData} (h : ws[i]? = some (.mut ds)) (hb : EW K ws tb fun y w => w = ws ∧ SeqAt.shaped (.list ds) = true ∧ SeqAt.shaped y = true ∧ P (.bool (PyData.eqv (.list ds) y)) ws) : EW K ws (tOp (rEqD K) (tVar i) tb) P := fun T B σ I H k Q q => by
  obtain ⟨b, xs, e, hH, hI, ha, _⟩ := k.mutAt h
  refine ⟨.ref b, e, ?_⟩
  refine hb T B σ I H k _ fun u y w1 I1 H1 p1 k1 s1 a1 => ?_
  obtain ⟨rfl, h1, h2, p⟩ := p1
  obtain ⟨b', xs', e', hH', _, ha', _⟩ := k1.mutAt h
  rw [e] at e'
  cases e'
  exact ⟨_, _, .lst (.inl (.inl hH')) (ha'.mono k1.sub).dp, dp_of k1 a1, h1, h2, q _ _ _ _ _ p k1 s1 (.bl _)⟩
theorem ew_popAt {i : Nat} {ds : List PyData} (h : ws[i]? = some (.mut ds)) (hz : ds.length < 2 ^ 62)
    (hb : EW K ws tb fun y w => ∃ j : Int, y = .int j ∧ w = ws ∧ 0 ≤ j ∧ ∃ d, ds[j.toNat]? = some d ∧ P d (ws.set i (.mut (ds.eraseIdx j.toNat)))) : EW K ws (tBM K "list" rPopAt (tVar i) (tCons tb tNil)) P := fun T B σ I H k Q q => by
  obtain ⟨b, xs, e, hH, hI, ha, _⟩ := k.mutAt h
  refine ⟨.ref b, e, .inl ⟨rfl, _, .inl (.inl hH)⟩, ?_⟩
  refine hb T B σ I H k _ fun u y w1 I1 H1 p1 k1 s1 a1 => ?_
  obtain ⟨j, rfl, rfl, h0, d, at_, p⟩ := p1
  obtain ⟨b', xs', e', hH', _, ha', up⟩ := k1.mutAt h
  rw [e] at e'
  cases e'
  obtain ⟨w, e2, hw⟩ := ha'.get at_
  have hj : j.toNat < xs'.length := (List.getElem?_eq_some_iff.mp e2).1
  have hl := ha'.length
  refine ⟨b, xs', j, j.toNat, w, rfl, by rw [a1.int_inv], hH', by omega, by omega, ?_, e2, q _ _ _ _ _ p (up _ _ (ha'.eraseIdx j.toNat)) s1 hw⟩
  first | (simp [seqIndex?]; omega) | (unfold seqIndex?; simp; omega)
theorem ew_pop {i : Nat} {ds : List PyData} {d : PyData} (h : ws[i]? = some (.mut ds)) (hd : ds[ds.length - 1]? = some d) (p : P d (ws.set i (.mut ds.dropLast))) : EW K ws (tBM0 K "list" rPop (tVar i)) P := fun T B σ I H k Q q => by
  obtain ⟨b, xs, e, hH, hI, ha, up⟩ := k.mutAt h
  obtain ⟨w, e2, hw⟩ := ha.get hd
  refine ⟨.ref b, e, .inl ⟨rfl, _, .inl (.inl hH)⟩, b, xs, w, rfl, rfl, hH, by rw [ha.length]; exact e2, q _ _ _ _ _ p (up _ _ ha.dropLast) (Same.refl I) hw⟩
end
end DL
namespace DL
open PySem PySem.Spec PyProof.Rows L2
section
variable {K : Frg} {T B : Hp} {ws : List SD} {ta tb te tv ti : TE} {tt : TT} {t u ts : TS} {g : TG} {tg : TGs} {D : Ends}
theorem sw_seq (h : SW K T B ws t { D with nx := u D }) : SW K T B ws (tSeq t u) D := h
theorem sw_next (h : NX K T B ws D.nx) : SW K T B ws tNext D := h
theorem sw_brk (h : NX K T B ws D.bk) : SW K T B ws tBreak D := h
theorem sw_ct (h : NX K T B ws D.ct) : SW K T B ws tCont D := h
theorem nx_sw (h : SW K T B ws u D) : NX K T B ws (u D) := h
theorem gw_name {i : Nat} {d : PyData} {R : List SD → Prop} (h : R (ws.set i (.dat d))) : GW K T B ws (gName i) d R := fun σ I H v k a Q q => q _ _ h (k.set a)
theorem gws_nil {R : List SD → Prop} (h : R ws) : GWs K T B ws gNil [] R := fun σ I H vs k a Q q => by
  cases a
  exact ⟨rfl, q _ _ h k⟩
theorem gws_cons {d : PyData} {ds : List PyData} {R : List SD → Prop} (h : GW K T B ws g d fun w => GWs K T B w tg ds R) : GWs K T B ws (gCons g tg) (d :: ds) R := fun σ I H vs k a Q q => by
  cases a with
  | cons a r => exact ⟨_, _, rfl, h σ I H _ k a _ fun w σ' hw k' => hw σ' I H _ k' r Q q⟩
theorem gw_tup {n : Nat} {ds : List PyData} {R : List SD → Prop} (hn : ds.length = n) (h : GWs K T B ws tg ds R) : GW K T B ws (gTup K n tg) (.tuple ds) R := fun σ I H v k a Q q => by
  obtain ⟨p, xs, rfl, hs, ha⟩ := a.tup_inv
  exact ⟨p, xs, rfl, sqT_mono k.sub hs, by rw [ha.length]; exact hn, h σ I H xs k ha Q q⟩
theorem sw_asg (h : EW K ws te fun d w => GW K T B w g d fun w2 => NX K T B w2 D.nx) : SW K T B ws (tAsg te g) D := fun σ I H k =>
  h T B σ I H k _ fun v d w I1 H1 p k1 s1 a1 => p σ I1 H1 v k1 a1 _ fun w2 σ2 n k2 => n σ2 I1 H1 k2
theorem sw_set {i : Nat} (h : EW K ws te fun d w => NX K T B (w.set i (.dat d)) D.nx) : SW K T B ws (tAsg te (gName i)) D := sw_asg (h.imp fun d w p => gw_name p)
theorem sw_own {i : Nat} (h : EF K ws te fun ds w => NX K T B (w.set i (.mut ds)) D.nx) : SW K T B ws (tAsg te (gName i)) D := fun σ I H k =>
  h T B σ I H k _ fun p xs ds w I1 H1 p1 n1 k1 s1 a1 => p1 _ _ _ (k1.keepIt n1 a1)
theorem sw_drop (h : EW K ws te fun _ w => NX K T B w D.nx) : SW K T B ws (tDrop te) D := fun σ I H k => h T B σ I H k _ fun v d w I1 H1 p k1 s1 a1 => p σ I1 H1 k1
theorem sw_ret (h : EW K ws te fun d w => RT K T B w d D.rt) : SW K T B ws (tRet te) D := fun σ I H k => h T B σ I H k _ fun v d w I1 H1 p k1 s1 a1 => p σ I1 H1 v k1 a1
theorem sw_retN (h : RT K T B ws .none D.rt) : SW K T B ws tRetN D := fun σ I H k => h σ I H _ k .non
theorem sw_retM {i : Nat} {ds : List PyData} (hi : ws[i]? = some (.mut ds)) (h : RT K T B (ws.set i (.dat (.list ds))) (.list ds) D.rt) : SW K T B ws (tRet (tVar i)) D := fun σ I H k => by
  obtain ⟨I', k', e⟩ := k.done hi
  have hl : i < ws.length := (List.getElem?_eq_some_iff.mp hi).1
  obtain ⟨v, e2, a⟩ := k'.dat (i := i) (d := .list ds) (by rw [List.getElem?_set, if_pos rfl, if_pos hl])
  exact ⟨v, e2, h σ I' H v k' a⟩
theorem sw_if (h : TW K ws tt fun b w => if b = true then SW K T B w t D else SW K T B w u D) : SW K T B ws (tIfS tt t u) D := fun σ I H k => by
  refine h T B σ I H k _ fun b w I1 H1 p k1 s1 => ?_
  cases b with
  | true => exact p σ I1 H1 k1
  | false => exact p σ I1 H1 k1
theorem sw_done {i : Nat} {ds : List PyData} (hi : ws[i]? = some (.mut ds)) (h : SW K T B (ws.set i (.dat (.list ds))) ts D) : SW K T B ws ts D := fun σ I H k => by
  obtain ⟨I', k', e⟩ := k.done hi
  exact h σ I' H k'
theorem sw_append {i : Nat} {ds : List PyData} (hi : ws[i]? = some (.mut ds)) (h : EW K ws te fun d w => ∃ ds', w[i]? = some (.mut ds') ∧ ds'.length < sizeLine ∧ NX K T B (w.set i (.mut (ds' ++ [d]))) D.nx) :
    SW K T B ws (tDrop (tBM K "list" rAppend (tVar i) (tCons te tNil))) D := fun σ I H k => by
  obtain ⟨b, xs, e, hH, hI, ha, _⟩ := k.mutAt hi
  refine ⟨.ref b, e, .inl ⟨rfl, _, .inl (.inl hH)⟩, ?_⟩
  refine h T B σ I H k _ fun v d w I1 H1 p k1 s1 a1 => ?_
  obtain ⟨ds', hi', hz, p⟩ := p
  obtain ⟨b', xs', e', hH', _, ha', up⟩ := k1.mutAt hi'
  rw [e] at e'
  cases e'
  exact ⟨b, xs', v, rfl, rfl, hH', by rw [ha'.length]; exact hz, p σ I1 _ (up _ _ (ha'.append (.one a1)))⟩
theorem sw_setM {i : Nat} {ds : List PyData} (hi : ws[i]? = some (.mut ds)) (h : EW K ws te fun d w => ∃ ds', w[i]? = some (.mut ds') ∧ EW K w ti fun y w2 => w2 = w ∧ ∃ (j : Int) (n : Nat), y = .int j ∧ ixN ds'.length j = some n ∧ NX K T B (w.set i (.mut (ds'.set n d))) D.nx) :
    SW K T B ws (tAsg te (gSub (tVar i) ti rSetL)) D := fun σ I H k => by
  refine h T B σ I H k _ fun v d w I1 H1 p k1 s1 a1 => ?_
  obtain ⟨ds', hi', p⟩ := p
  obtain ⟨b, xs, e, hH, hI, ha, _⟩ := k1.mutAt hi'
  refine ⟨.ref b, e, ?_⟩
  refine p T B σ I1 H1 k1 _ fun y dy w2 I2 H2 p2 k2 s2 a2 => ?_
  obtain ⟨rfl, j, n, rfl, hn, p⟩ := p2
  obtain ⟨b', xs', e', hH', _, ha', up⟩ := k2.mutAt hi'
  rw [e] at e'
  cases e'
  exact ⟨b, xs', j, n, rfl, a2.int_inv, hH', by rw [ha'.length]; exact hn, p σ I2 _ (up _ _ (ha'.set (a1.mono s2)))⟩
theorem sw_augI {i : Nat} {f : Int → Int → Int} {a : Int} (hi : ws[i]? = some (.dat (.int a))) (h : EW K ws te fun d w => ∃ b, d = .int b ∧ NX K T B (w.set i (.dat (.int (f a b)))) D.nx) : SW K T B ws (tAug i te (ipI f)) D := fun σ I H k => by
  obtain ⟨v, e, hv⟩ := k.dat hi
  obtain rfl := hv.int_inv
  refine ⟨_, e, ?_⟩
  refine h T B σ I H k _ fun v d w I1 H1 p k1 s1 a1 => ?_
  obtain ⟨b, rfl, p⟩ := p
  exact ⟨a, b, rfl, a1.int_inv, p _ I1 H1 (k1.set (.int _))⟩
theorem sw_par {i j : Nat} {ta : TA} (h : AW K ws ta fun ds w => ∃ x y, ds = [x, y] ∧ NX K T B ((w.set i (.dat x)).set j (.dat y)) D.nx) : SW K T B ws (tPar i j ta) D := fun σ I H k => by
  refine h T B σ I H k _ fun vs ds w I1 H1 p k1 s1 a1 => ?_
  obtain ⟨x, y, rfl, p⟩ := p
  cases a1 with
  | cons h1 r =>
    cases r with
    | cons h2 r =>
      cases r
      exact ⟨_, _, rfl, p _ I1 H1 ((k1.set h1).set h2)⟩
structure Runs (K : Frg) (I1 : Hp) (J : It) (ds : List PyData) : Prop where
  go : ∀ i H I, i < ds.length → Same I1 I → Same I H → J.go i H
  stop : ∀ H I, Same I1 I → Same I H → J.stop ds.length H
  yld : ∀ i x H H' T B ws σ I, Ok K T B ws σ I H → Same I1 I → J.yld i H x H' → i < ds.length → ∃ d I', ds[i]? = some d ∧ Ok K T B ws σ I' H' ∧ Same I I' ∧ Da K I' x d
def IW (K : Frg) (ws : List SD) (wi : TI) (P : List PyData → List SD → Prop) : Prop :=
  ∀ T B σ I H, Ok K T B ws σ I H → ∀ R : It → Hp → Prop, (∀ J ds ws' I' H', P ds ws' → Ok K T B ws' σ I' H' → Same I I' → Runs K I' J ds → R J H') → wi σ H R
theorem runs_list {I1 : Hp} {a : Addr} {xs : List V} {ds : List PyData} (h : I1 a = some (.lst xs)) (d : DaL K I1 xs ds) : Runs K I1 (Itl K a) ds := by
  have sq : ∀ {H I : Hp}, Same I1 I → Same I H → SqL K H a xs := fun e s => .inl (.inl (s _ _ (e _ _ h)))
  refine ⟨fun i H I hi e s => ?_, fun H I e s => ⟨xs, sq e s, by rw [d.length]; exact Nat.le_refl _⟩, fun i x H H' T B ws σ I k e y hi => ?_⟩
  · have hi' : i < xs.length := by rw [d.length]; exact hi
    exact ⟨xs, xs[i], sq e s, List.getElem?_eq_getElem hi'⟩
  · obtain ⟨rfl, y⟩ := y
    obtain ⟨dd, e1, e2⟩ := d.getV (y xs (sq e k.sub))
    exact ⟨dd, I, e1, k, Same.refl I, e2.mono e⟩
theorem runs_tup {I1 : Hp} {a : Addr} {xs : List V} {ds : List PyData} (h : SqT K I1 a xs) (d : DaL K I1 xs ds) : Runs K I1 (Itt K a) ds := by
  have sq : ∀ {H I : Hp}, Same I1 I → Same I H → SqT K H a xs := fun e s => sqT_mono (e.trans s) h
  refine ⟨fun i H I hi e s => ?_, fun H I e s => ⟨xs, sq e s, by rw [d.length]; exact Nat.le_refl _⟩, fun i x H H' T B ws σ I k e y hi => ?_⟩
  · have hi' : i < xs.length := by rw [d.length]; exact hi
    exact ⟨xs, xs[i], sq e s, List.getElem?_eq_getElem hi'⟩
  · obtain ⟨rfl, y⟩ := y
    obtain ⟨dd, e1, e2⟩ := d.getV (y xs (sq e k.sub))
    exact ⟨dd, I, e1, k, Same.refl I, e2.mono e⟩
def rangeD (lo : Int) (n : Nat) : List PyData := (List.range n).map fun i => .int (lo + (i : Nat))
theorem rangeD_len {lo : Int} {n : Nat} : (rangeD lo n).length = n := by unfold rangeD; simp
theorem rangeD_get {lo : Int} {n i : Nat} {d : PyData} (h : (rangeD lo n)[i]? = some d) : i < n ∧ d = .int (lo + (i : Nat)) := by
  unfold rangeD at h
  rw [List.getElem?_map] at h
  cases e : (List.range n)[i]? with
  | none => rw [e] at h; cases h
  | some j =>
    rw [e] at h
    obtain ⟨h1, h2⟩ := List.getElem?_eq_some_iff.mp e
    rw [List.getElem_range] at h2
    subst h2
    exact ⟨by simpa using h1, (Option.some.inj h).symm⟩
theorem runs_range {I1 : Hp} {lo : Int} {n : Nat} : Runs K I1 (Itr lo n) (rangeD lo n) := by
  refine ⟨fun i H I hi e s => by rw [rangeD_len] at hi; exact hi, fun H I e s => by rw [rangeD_len]; exact Nat.le_refl _, fun i x H H' T B ws σ I k e y hi => ?_⟩
  obtain ⟨rfl, rfl⟩ := y
  rw [rangeD_len] at hi
  refine ⟨_, I, ?_, k, Same.refl I, .int _⟩
  unfold rangeD
  rw [List.getElem?_map, List.getElem?_range hi]
  rfl
def enumD (ds : List PyData) : List PyData := ds.mapIdx fun i d => .tuple [.int (i : Nat), d]
theorem enumD_len {ds : List PyData} : (enumD ds).length = ds.length := by unfold enumD; simp
theorem enumD_get {ds : List PyData} {i : Nat} {d : PyData} (h : (enumD ds)[i]? = some d) : ∃ x, ds[i]? = some x ∧ d = .tuple [.int (i : Nat), x] := by
  unfold enumD at h
  rw [List.getElem?_mapIdx] at h
  cases e : ds[i]? with
  | none => rw [e] at h; cases h
  | some x =>
    rw [e] at h
    exact ⟨x, rfl, (Option.some.inj h).symm⟩
theorem runs_enum {I1 : Hp} {a : Addr} {xs : List V} {ds : List PyData} (h : I1 a = some (.lst xs)) (d : DaL K I1 xs ds) : Runs K I1 (Ite K a) (enumD ds) := by
  have sq : ∀ {H I : Hp}, Same I1 I → Same I H → SqL K H a xs := fun e s => .inl (.inl (s _ _ (e _ _ h)))
  refine ⟨fun i H I hi e s => ?_, fun H I e s => ⟨xs, sq e s, by rw [d.length, enumD_len]; exact Nat.le_refl _⟩, fun i x H H' T B ws σ I k e y hi => ?_⟩
  · rw [enumD_len] at hi
    have hi' : i < xs.length := by rw [d.length]; exact hi
    exact ⟨xs, xs[i], sq e s, List.getElem?_eq_getElem hi'⟩
  · obtain ⟨p, z, rfl, hp, rfl, y⟩ := y
    obtain ⟨dd, e1, e2⟩ := d.getV (y xs (sq e k.sub))
    have n := same_new (none_of k.sub hp) (HO.tup [.int (i : Nat), z])
    refine ⟨.tuple [.int (i : Nat), dd], _, ?_, k.new hp _, n, .tup (.inl (.inl upd_same)) (.cons (.int _) (.one ((e2.mono e).mono n)))⟩
    unfold enumD
    rw [List.getElem?_mapIdx, e1]
    rfl
def zipD (xs ys : List PyData) : List PyData := List.zipWith (fun x y => .tuple [x, y]) xs ys
theorem iw_list {P : List PyData → List SD → Prop} (h : EW K ws te fun x w => ∃ ds, x = .list ds ∧ P ds w) : IW K ws (iList K te) P := fun T B σ I H k R q => by
  refine h T B σ I H k _ fun v x w I1 H1 p k1 s1 a1 => ?_
  obtain ⟨ds, rfl, p⟩ := p
  obtain ⟨a, xs, rfl, hs, ha⟩ := a1.list_inv
  exact ⟨a, rfl, ⟨xs, .inl (.inl (k1.sub _ _ hs))⟩, q _ _ _ _ _ p k1 s1 (runs_list hs ha)⟩
theorem iw_tup {P : List PyData → List SD → Prop} (h : EW K ws te fun x w => ∃ ds, x = .tuple ds ∧ P ds w) : IW K ws (iTup K te) P := fun T B σ I H k R q => by
  refine h T B σ I H k _ fun v x w I1 H1 p k1 s1 a1 => ?_
  obtain ⟨ds, rfl, p⟩ := p
  obtain ⟨a, xs, rfl, hs, ha⟩ := a1.tup_inv
  exact ⟨a, rfl, ⟨xs, sqT_mono k1.sub hs⟩, q _ _ _ _ _ p k1 s1 (runs_tup hs ha)⟩
theorem iw_range1 {P : List PyData → List SD → Prop} {ta : TA} (h : AW K ws ta fun ds w => ∃ j : Int, ds = [.int j] ∧ -(2 ^ 62) ≤ j ∧ j < 2 ^ 62 ∧ P (rangeD 0 j.toNat) w) : IW K ws (iRng1 ta) P := fun T B σ I H k R q => by
  refine h T B σ I H k _ fun vs ds w I1 H1 p k1 s1 a1 => ?_
  obtain ⟨j, rfl, h1, h2, p⟩ := p
  cases a1 with
  | cons a r =>
    cases r
    cases a
    exact ⟨j, rfl, h1, h2, q _ _ _ _ _ p k1 s1 runs_range⟩
theorem iw_range2 {P : List PyData → List SD → Prop} {ta : TA} (h : AW K ws ta fun ds w => ∃ i j : Int, ds = [.int i, .int j] ∧ (-(2 ^ 62) ≤ i ∧ i < 2 ^ 62 ∧ -(2 ^ 62) ≤ j ∧ j < 2 ^ 62) ∧ P (rangeD i (j - i).toNat) w) : IW K ws (iRng2 ta) P := fun T B σ I H k R q => by
  refine h T B σ I H k _ fun vs ds w I1 H1 p k1 s1 a1 => ?_
  obtain ⟨i, j, rfl, h1, p⟩ := p
  cases a1 with
  | cons a r =>
    cases a
    cases r with
    | cons a r =>
      cases a
      cases r
      exact ⟨i, j, rfl, h1, q _ _ _ _ _ p k1 s1 runs_range⟩
theorem iw_enum {P : List PyData → List SD → Prop} {ta : TA} (h : AW K ws ta fun zs w => ∃ ds, zs = [.list ds] ∧ P (enumD ds) w) : IW K ws (iEnum K ta) P := fun T B σ I H k R q => by
  refine h T B σ I H k _ fun vs ds w I1 H1 p k1 s1 a1 => ?_
  obtain ⟨ds, rfl, p⟩ := p
  cases a1 with
  | cons a r =>
    cases r
    obtain ⟨b, xs, rfl, hs, ha⟩ := a.list_inv
    exact ⟨b, xs, rfl, .inl (.inl (k1.sub _ _ hs)), q _ _ _ _ _ p k1 s1 (runs_enum hs ha)⟩
theorem sw_for {wi : TI} (h : IW K ws wi fun ds w0 => ∃ Iv : Nat → List SD → Prop, Iv 0 w0 ∧
      (∀ i d w B', ds[i]? = some d → Iv i w → Same B B' → GW K T B' w g d fun w2 => SW K T B' w2 ts { D with nx := Nx K T B' (Iv (i + 1)), ct := Nx K T B' (Iv (i + 1)), bk := D.nx }) ∧
      ∀ w, Iv ds.length w → NX K T B w D.nx) : SW K T B ws (tFor wi g ts) D := fun σ I H k => by
  refine h T B σ I H k _ fun J ds w0 I1 H1 p k1 s1 r => ?_
  obtain ⟨Iv, h0, hs, hd⟩ := p
  refine ⟨fun i m σ H => m = ds.length - i ∧ i ≤ ds.length ∧ ∃ w I, Iv i w ∧ Ok K T I1 w σ I H, ⟨_, rfl, Nat.zero_le _, w0, I1, h0, k1.self⟩, ?_⟩
  rintro i m σ H ⟨rfl, hi, w, I2, iv, k2⟩
  by_cases hlt : i < ds.length
  · refine .inr ⟨r.go i H I2 hlt k2.bse k2.sub, Nx K T I1 (Iv (i + 1)), fun σ' H' ⟨w', I', iv', k'⟩ => ⟨ds.length - (i + 1), by omega, rfl, hlt, w', I', iv', k'⟩, fun x H' y => ?_⟩
    obtain ⟨d, I3, e, k3, s3, a3⟩ := r.yld i x H H' T I1 w σ I2 k2 k2.bse y hlt
    exact hs i d w I1 e iv k1.bse σ I3 H' x k3 a3 _ fun w2 σ2 hw k4 => hw σ2 I3 H' k4
  · have e : i = ds.length := by omega
    subst e
    exact .inl ⟨r.stop H I2 k2.bse k2.sub, hd w iv σ I2 H (k2.less k1.bse)⟩
end
def wipeS (w : List SD) : List Nat → List SD
  | [] => w
  | v :: vs => (wipeS w vs).set v .un
def backS (w w4 : List SD) : List Nat → List SD
  | [] => w4
  | v :: vs => (backS w w4 vs).set v (w.getD v .un)
theorem wipeS_len (w : List SD) : ∀ vs, (wipeS w vs).length = w.length
  | [] => rfl
  | v :: vs => by unfold wipeS; rw [List.length_set, wipeS_len w vs]
theorem backS_len (w w4 : List SD) : ∀ vs, (backS w w4 vs).length = w4.length
  | [] => rfl
  | v :: vs => by unfold backS; rw [List.length_set, backS_len w w4 vs]
theorem wipeS_get {w : List SD} {j : Nat} {x : SD} : ∀ {vs : List Nat}, (wipeS w vs)[j]? = some x → x = .un ∨ (j ∉ vs ∧ w[j]? = some x)
  | [], h => .inr ⟨by simp, h⟩
  | v :: vs, h => by
    unfold wipeS at h
    rcases set_get h with ⟨_, e⟩ | ⟨e, h⟩
    · exact .inl e
    · rcases wipeS_get h with e2 | ⟨e2, e3⟩
      · exact .inl e2
      · exact .inr ⟨by simp only [List.mem_cons, not_or]; exact ⟨fun z => e z.symm, e2⟩, e3⟩
theorem backS_get {w w4 : List SD} {j : Nat} {x : SD} : ∀ {vs : List Nat}, (backS w w4 vs)[j]? = some x → (j ∈ vs ∧ x = w.getD j .un) ∨ (j ∉ vs ∧ w4[j]? = some x)
  | [], h => .inr ⟨by simp, h⟩
  | v :: vs, h => by
    unfold backS at h
    rcases set_get h with ⟨rfl, e⟩ | ⟨e, h⟩
    · exact .inl ⟨by simp, e⟩
    · rcases backS_get h with ⟨e2, e3⟩ | ⟨e2, e3⟩
      · exact .inl ⟨by simp [e2], e3⟩
      · exact .inr ⟨by simp only [List.mem_cons, not_or]; exact ⟨fun z => e z.symm, e2⟩, e3⟩
theorem wipe_get_out {σ : L2.St} {j : Nat} : ∀ {vs : List Nat}, j ∉ vs → (wipe σ vs)[j]? = σ[j]?
  | [], _ => rfl
  | v :: vs, h => by
    simp only [List.mem_cons, not_or] at h
    show ((wipe σ vs).set v none)[j]? = _
    rw [List.getElem?_set_ne (fun z => h.1 z.symm)]
    exact wipe_get_out h.2
theorem wipe_set_in {σ : L2.St} {j : Nat} {o : Option V} : ∀ {vs : List Nat}, j ∈ vs → wipe (σ.set j o) vs = wipe σ vs
  | [], h => by cases h
  | v :: vs, h => by
    show (wipe (σ.set j o) vs).set v none = (wipe σ vs).set v none
    by_cases e : j ∈ vs
    · rw [wipe_set_in e]
    · have e2 : j = v := by
        rcases List.mem_cons.mp h with z | z
        · exact z
        · exact absurd z e
      subst e2
      have gen : ∀ us : List Nat, j ∉ us → wipe (σ.set j o) us = (wipe σ us).set j o := fun us => by
        induction us with
        | nil => intro _; rfl
        | cons u us ih =>
          intro hu
          simp only [List.mem_cons, not_or] at hu
          show (wipe (σ.set j o) us).set u none = ((wipe σ us).set u none).set j o
          rw [ih hu.2, List.set_comm _ _ hu.1]
      rw [gen vs e, List.set_set]
theorem wipe_idem {σ : L2.St} : ∀ {vs : List Nat}, wipe (wipe σ vs) vs = wipe σ vs := fun {vs} => by
  have gen : ∀ (us : List Nat) (ρ : L2.St), (∀ u ∈ us, ρ[u]? = some none ∨ ρ[u]? = none) → wipe ρ us = ρ := fun us => by
    induction us with
    | nil => intro ρ _; rfl
    | cons u us ih =>
      intro ρ h
      show (wipe ρ us).set u none = ρ
      rw [ih ρ fun v hv => h v (List.mem_cons_of_mem _ hv)]
      apply List.ext_getElem?
      intro i
      rw [List.getElem?_set]
      split
      · rename_i e
        subst e
        rcases h u List.mem_cons_self with z | z
        · rw [z]
          have := (List.getElem?_eq_some_iff.mp z).1
          rw [if_pos this]
        · rw [z]
          have : ¬ u < ρ.length := by
            have := List.getElem?_eq_none_iff.mp z
            omega
          rw [if_neg this]
      · rfl
  refine gen vs _ fun u hu => ?_
  have main : ∀ vs : List Nat, u ∈ vs → (wipe σ vs)[u]? = some none ∨ (wipe σ vs)[u]? = none := fun vs => by
    induction vs with
    | nil => intro h; cases h
    | cons v vs ih =>
      intro h
      show ((wipe σ vs).set v none)[u]? = _ ∨ ((wipe σ vs).set v none)[u]? = _
      rw [List.getElem?_set]
      by_cases e : v = u
      · rw [if_pos e]
        split
        · exact .inl rfl
        · exact .inr rfl
      · rw [if_neg e]
        rcases List.mem_cons.mp h with z | z
        · exact absurd z.symm e
        · exact ih z
  exact main vs hu
section
variable {K : Frg} {T B I I' H H' : Hp} {ws w w4 : List SD} {σ σ2 : L2.St} {vs : List Nat}
theorem Ok.wipe (k : Ok K T B w σ I H) : Ok K T B (wipeS w vs) (L2.wipe σ vs) I H := by
  obtain ⟨ft, k⟩ := k
  refine ⟨ft, k.sub, k.oth, k.bse, k.ti, by rw [wipe_length, wipeS_len]; exact k.len, k.ap, k.own, fun j x hx => ?_⟩
  rcases wipeS_get hx with rfl | ⟨h1, h2⟩
  · trivial
  · rw [wipe_get_out h1]
    exact k.sl j x h2
def Plain (w : List SD) (vs : List Nat) : Prop := ∀ v ∈ vs, w.getD v .un = .un ∨ ∃ d, w.getD v .un = .dat d
theorem Ok.back (k : Ok K T B w σ I H) (k4 : Ok K T B w4 σ2 I' H') (e : L2.wipe σ2 vs = L2.wipe σ vs) (s : Same I I') (pl : Plain w vs) : Ok K T B (backS w w4 vs) σ I' H' := by
  obtain ⟨ft0, k⟩ := k
  obtain ⟨ft, k4⟩ := k4
  have hl : σ.length = σ2.length := by
    have := congrArg List.length e
    rw [wipe_length, wipe_length] at this
    exact this.symm
  refine ⟨fun j => if j ∈ vs then [] else ft j, k4.sub, k4.oth, k4.bse, k4.ti, by rw [backS_len, hl]; exact k4.len, fun a b c ha hb => ?_, fun j a ha => ?_, fun j x hx => ?_⟩
  · have ha : c ∈ if a ∈ vs then [] else ft a := ha
    have hb : c ∈ if b ∈ vs then [] else ft b := hb
    split at ha
    · cases ha
    · split at hb
      · cases hb
      · exact k4.ap a b c ha hb
  · have ha : a ∈ if j ∈ vs then [] else ft j := ha
    split at ha
    · cases ha
    · exact k4.own j a ha
  · rcases backS_get hx with ⟨h1, rfl⟩ | ⟨h1, h2⟩
    · have hj : w[j]? = some (w.getD j .un) := by
        have := (List.getElem?_eq_some_iff.mp hx).1
        rw [backS_len, ← k4.len, ← hl, k.len] at this
        rw [List.getD_eq_getElem?_getD, List.getElem?_eq_getElem this]
        rfl
      have q := k.sl j _ hj
      rcases pl j h1 with z | ⟨d, z⟩
      · rw [z]
        trivial
      · rw [z] at q ⊢
        obtain ⟨v, q1, q2⟩ := q
        exact ⟨v, q1, q2.mono s⟩
    · show Sl K I' H' (if j ∈ vs then [] else ft j) _ x
      rw [if_neg h1]
      have z : σ[j]? = σ2[j]? := by rw [← wipe_get_out (σ := σ) h1, ← wipe_get_out (σ := σ2) h1, e]
      rw [z]
      exact k4.sl j x h2
def GC (K : Frg) (vs : List Nat) (ws : List SD) (g : TG) (d : PyData) (R : List SD → Prop) : Prop :=
  ∀ T B σ I H v, Ok K T B ws σ I H → Da K I v d → ∀ Q : L2.St → Hp → Prop, (∀ ws' σ', R ws' → Ok K T B ws' σ' I H → L2.wipe σ' vs = L2.wipe σ vs → Q σ' H) → g v σ H Q
def GCs (K : Frg) (vs : List Nat) (ws : List SD) (g : TGs) (ds : List PyData) (R : List SD → Prop) : Prop :=
  ∀ T B σ I H us, Ok K T B ws σ I H → DaL K I us ds → ∀ Q : L2.St → Hp → Prop, (∀ ws' σ', R ws' → Ok K T B ws' σ' I H → L2.wipe σ' vs = L2.wipe σ vs → Q σ' H) → g us σ H Q
theorem gc_name {i : Nat} {d : PyData} {R : List SD → Prop} (hi : i ∈ vs) (h : R (ws.set i (.dat d))) : GC K vs ws (gName i) d R := fun T B σ I H v k a Q q => q _ _ h (k.set a) (wipe_set_in hi)
theorem gcs_nil {R : List SD → Prop} (h : R ws) : GCs K vs ws gNil [] R := fun T B σ I H us k a Q q => by
  cases a
  exact ⟨rfl, q _ _ h k rfl⟩
theorem gcs_cons {g : TG} {tg : TGs} {d : PyData} {ds : List PyData} {R : List SD → Prop} (h : GC K vs ws g d fun w => GCs K vs w tg ds R) : GCs K vs ws (gCons g tg) (d :: ds) R := fun T B σ I H us k a Q q => by
  cases a with
  | cons a r => exact ⟨_, _, rfl, h T B σ I H _ k a _ fun w σ' hw k' e => hw T B σ' I H _ k' r Q fun w2 σ2 r2 k2 e2 => q w2 σ2 r2 k2 (e2.trans e)⟩
theorem gc_tup {n : Nat} {tg : TGs} {ds : List PyData} {R : List SD → Prop} (hn : ds.length = n) (h : GCs K vs ws tg ds R) : GC K vs ws (gTup K n tg) (.tuple ds) R := fun T B σ I H v k a Q q => by
  obtain ⟨p, xs, rfl, hs, ha⟩ := a.tup_inv
  exact ⟨p, xs, rfl, sqT_mono k.sub hs, by rw [ha.length]; exact hn, h T B σ I H xs k ha Q q⟩
theorem Ok.more {D : Addr} {xs : List V} {y : V} (k : Ok K (upd T D (.lst xs)) B w σ I H) : H D = some (.lst xs) ∧ ∀ zs : List V, Ok K (upd T D (.lst zs)) B w σ I (upd H D (.lst zs)) := by
  obtain ⟨ft, k⟩ := k
  have hp : (upd T D (HO.lst xs)) D = some (.lst xs) := upd_same
  have hI : I D = none := k.ti D (by rw [hp]; simp)
  have hH : H D = some (.lst xs) := k.oth _ _ hp
  have out : ∀ j a, a ∈ ft j → a ≠ D := fun j a ha z => by
    have h2 := (k.own j a ha).2.1
    rw [z, hp] at h2
    cases h2
  refine ⟨hH, fun zs => ⟨ft, fun b x q => ?_, fun b x q => ?_, k.bse, fun b hb => ?_, k.len, k.ap, fun j a ha => ?_, fun j x hx => (k.sl j x hx).keep (Same.refl I) fun a ha => by rw [upd_ne (out j a ha)]⟩⟩
  · rw [upd_ne (ne_of_none q hI)]
    exact k.sub _ _ q
  · by_cases z : b = D
    · subst z
      rw [upd_same] at q ⊢
      exact q
    · rw [upd_ne z] at q ⊢
      exact k.oth b x (by rw [upd_ne z]; exact q)
  · by_cases z : b = D
    · subst z
      exact hI
    · rw [upd_ne z] at hb
      exact k.ti b (by rw [upd_ne z]; exact hb)
  · obtain ⟨h1, h2, h3⟩ := k.own j a ha
    have z := out j a ha
    rw [upd_ne z] at h2
    rw [upd_ne z, upd_ne z]
    exact ⟨h1, h2, h3⟩
theorem ef_lc {wi : TI} {g : TG} {tt : TT} {te : TE} {PA : List PyData → List SD → Prop} (h : IW K ws wi fun ds w0 => ∃ Iv : Nat → List PyData → List SD → Prop, Iv 0 [] w0 ∧
      (∀ i d acc w, ds[i]? = some d → Iv i acc w → Plain w vs ∧ GC K vs (wipeS w vs) g d fun w2 => TW K w2 tt fun b w3 =>
        if b = true then EW K w3 te fun e w5 => acc.length < sizeLine ∧ Iv (i + 1) (acc ++ [e]) (backS w w5 vs) else Iv (i + 1) acc (backS w w3 vs)) ∧
      ∀ acc w, Iv ds.length acc w → PA acc w) : EF K ws (tLc wi g tt te vs) PA := fun T B σ I H k Q q => by
  refine h T B σ I H k _ fun J ds w0 I1 H1 p k1 s1 r => ?_
  obtain ⟨Iv, h0, hs, hd⟩ := p
  intro D hD
  obtain ⟨kD, nD⟩ := k1.hand (o := .lst []) hD
  refine ⟨fun i m H => m = ds.length - i ∧ i ≤ ds.length ∧ ∃ w acc us I2, Iv i acc w ∧ Ok K (upd T D (.lst us)) I1 w σ I2 H ∧ DaL K I2 us acc, ⟨_, rfl, Nat.zero_le _, w0, [], [], I1, h0, kD.self, .nil⟩, ?_⟩
  rintro i m H2 ⟨rfl, hi, w, acc, us, I2, iv, k2, da⟩
  by_cases hlt : i < ds.length
  · refine .inr ⟨r.go i H2 I2 hlt k2.bse k2.sub, fun H' => ∃ w acc us I2, Iv (i + 1) acc w ∧ Ok K (upd T D (.lst us)) I1 w σ I2 H' ∧ DaL K I2 us acc, fun H' z => ⟨ds.length - (i + 1), by omega, rfl, hlt, z⟩, fun x H3 y => ?_⟩
    obtain ⟨d, I3, e, k3, s3, a3⟩ := r.yld i x H2 H3 _ I1 w σ I2 k2 k2.bse y hlt
    obtain ⟨pl, hg⟩ := hs i d acc w e iv
    refine hg _ I1 _ I3 H3 x (k3.wipe (vs := vs)) a3 _ fun w2 σ2 hw k4 ew => ?_
    have ew : L2.wipe σ2 vs = L2.wipe σ vs := ew.trans wipe_idem
    refine ⟨ew, ?_⟩
    refine hw _ I1 σ2 I3 H3 k4 _ fun b w3 I4 H4 pb k5 s5 => ?_
    cases b with
    | true =>
      refine pb _ I1 σ2 I4 H4 k5 _ fun v e5 w5 I5 H5 pe k6 s6 a6 => ?_
      have kk := k3.back k6 ew (s5.trans s6) pl
      obtain ⟨hH, up⟩ := kk.more (y := v)
      exact ⟨us, hH, by rw [da.length]; exact pe.1, _, _, us ++ [v], I5, pe.2, up _, (da.mono (s3.trans (s5.trans s6))).append (.one a6)⟩
    | false =>
      exact ⟨_, _, us, I4, pb, k3.back k5 ew s5 pl, da.mono (s3.trans s5)⟩
  · have e : i = ds.length := by omega
    subst e
    exact .inl ⟨r.stop H2 I2 k2.bse k2.sub, q D us acc w I2 H2 (hd acc w iv) nD (k2.less k1.bse) (s1.trans k2.bse) da⟩
end
def SpP (K : Frg) (pre : List PyData → (PyData → Prop) → Prop) : Sp := fun vs H Q _ => ∃ T B I ds R, Ok K T B [] [] I H ∧ DaL K I vs ds ∧ pre ds R ∧
  ∀ v d I' H', R d → Ok K T B [] [] I' H' → Same I I' → Da K I' v d → Q v H'
def SpR (K : Frg) (pre : Cel → List PyData → Cel → (PyData → Prop) → Prop) : Sp := fun vs H Q _ => ∃ T B I v0 us c c' ds R, vs = v0 :: us ∧ Ok K T B [.cel c] [some v0] I H ∧ DaL K I us ds ∧ pre c ds c' R ∧
  ∀ v d I' H', R d → Ok K T B [.cel c'] [some v0] I' H' → Same I I' → Da K I' v d → Q v H'
section
variable {K : Frg} {T B I I' H H' : Hp} {ws : List SD} {σ : L2.St}
theorem ew_callP {pre : List PyData → (PyData → Prop) → Prop} {E : XK} {ts : TA} {P : PyData → List SD → Prop} (h : AW K ws ts fun ds w => ∃ R, pre ds R ∧ ∀ d, R d → P d w) : EW K ws (tCall (SpP K pre) [] E ts) P := fun T B σ I H k Q q => by
  refine h T B σ I H k _ fun vs ds w I1 H1 p k1 s1 a1 => ?_
  obtain ⟨R, hp, hr⟩ := p
  rw [List.append_nil]
  exact ⟨rest I1 H1, I1, I1, ds, R, k1.give, a1, hp, fun v d I' H' rd k' e a => q v d w I' H' (hr d rd) (k1.take k') (s1.trans e) a⟩
def restF (F : List Addr) (I H : Hp) : Hp := fun b => if b ∈ F then none else rest I H b
theorem Ok.giveC {j : Nat} {c : Cel} (k : Ok K T B ws σ I H) (h : ws[j]? = some (.cel c)) : ∃ v F, σ[j]? = some (some v) ∧ Ok K (restF F I H) I [.cel c] [some v] I H ∧
    ∀ c' I' H', Ok K (restF F I H) I [.cel c'] [some v] I' H' → Ok K T B (ws.set j (.cel c')) σ I' H' := by
  obtain ⟨ft, k⟩ := k
  obtain ⟨v, h1, h2⟩ := k.sl j _ h
  have hj : σ[j]? = some (some v) := by
    cases e : σ[j]? with
    | none => rw [e] at h1; cases h1
    | some x => rw [e] at h1; exact congrArg some h1
  refine ⟨v, ft j, hj, ⟨fun i => if i = 0 then ft j else [], k.sub, fun b x q => ?_, Same.refl I, fun b hb => ?_, rfl, fun a b x ha hb => ?_, fun i a ha => ?_, fun i w hw => ?_⟩, fun c' I' H' k' => ?_⟩
  · unfold restF at q
    split at q
    · cases q
    · by_cases z : I b = none
      · rw [rest_eq z] at q
        exact q
      · rw [rest_none z] at q
        cases q
  · unfold restF at hb
    split at hb
    · exact absurd rfl hb
    · by_cases z : I b = none
      · exact z
      · rw [rest_none z] at hb
        exact absurd rfl hb
  · have ha : x ∈ if a = 0 then ft j else [] := ha
    have hb : x ∈ if b = 0 then ft j else [] := hb
    split at ha
    · split at hb
      · omega
      · cases hb
    · cases ha
  · have ha : a ∈ if i = 0 then ft j else [] := ha
    split at ha
    · obtain ⟨e1, e2, e3⟩ := k.own j a ha
      exact ⟨e1, by unfold restF; rw [if_pos ha], e3⟩
    · cases ha
  · cases i with
    | zero =>
      cases hw
      exact ⟨v, rfl, h2⟩
    | succ i => cases hw
  · obtain ⟨ft', k'⟩ := k'
    have e := k'.bse
    have rs : ∀ a, a ∉ ft j → I a = none → restF (ft j) I H a = H a := fun a h1 h2 => by
      unfold restF
      rw [if_neg h1, rest_eq h2]
    have keep : ∀ a, a ∉ ft j → I a = none → H a ≠ none → H' a = H a ∧ I' a = none ∧ restF (ft j) I H a ≠ none := fun a h1 h2 h3 => by
      have z := rs a h1 h2
      refine ⟨?_, k'.ti a (by rw [z]; exact h3), by rw [z]; exact h3⟩
      cases q : H a with
      | none => exact absurd q h3
      | some x => exact k'.oth a x (by rw [z, q])
    have tn : ∀ b, T b ≠ none → b ∉ ft j := fun b hb hj => hb (k.own j b hj).2.1
    have new0 : ∀ a, a ∈ ft' 0 → I' a = none ∧ T a = none ∧ H' a ≠ none ∧ ∀ i, i ≠ j → a ∉ ft i := fun a ha => by
      obtain ⟨e1, e2, e3⟩ := k'.own 0 a ha
      refine ⟨e1, ?_, e3, fun i hi hm => ?_⟩
      · cases q : T a with
        | none => rfl
        | some x =>
          have hb : T a ≠ none := by rw [q]; simp
          have := (keep a (tn a hb) (k.ti a hb) (by rw [k.oth _ _ q]; simp)).2.2
          exact absurd e2 this
      · obtain ⟨f1, f2, f3⟩ := k.own i a hm
        exact absurd e2 (keep a (fun z => hi (k.ap i j a hm z)) f1 f3).2.2
    refine ⟨fun i => if i = j then ft' 0 else ft i, k'.sub, fun b x q => ?_, fun b x q => e b x (k.bse b x q), fun b hb => ?_, by rw [List.length_set]; exact k.len, fun a b x ha hb => ?_, fun i a ha => ?_, fun i w hw => ?_⟩
    · have hb : T b ≠ none := by rw [q]; simp
      have q2 := k.oth b x q
      rw [(keep b (tn b hb) (k.ti b hb) (by rw [q2]; simp)).1]
      exact q2
    · refine (keep b (tn b hb) (k.ti b hb) ?_).2.1
      cases q : T b with
      | none => exact absurd q hb
      | some x => rw [k.oth b x q]; simp
    · have ha : x ∈ if a = j then ft' 0 else ft a := ha
      have hb : x ∈ if b = j then ft' 0 else ft b := hb
      split at ha
      · split at hb
        · rename_i z1 z2
          rw [z1, z2]
        · rename_i z1 z2
          exact absurd hb ((new0 x ha).2.2.2 b z2)
      · split at hb
        · rename_i z1 z2
          exact absurd ha ((new0 x hb).2.2.2 a z1)
        · exact k.ap a b x ha hb
    · have ha : a ∈ if i = j then ft' 0 else ft i := ha
      split at ha
      · obtain ⟨e1, e2, e3, _⟩ := new0 a ha
        exact ⟨e1, e2, e3⟩
      · rename_i z
        obtain ⟨f1, f2, f3⟩ := k.own i a ha
        obtain ⟨g1, g2, _⟩ := keep a (fun y => z (k.ap i j a ha y)) f1 f3
        exact ⟨g2, f2, by rw [g1]; exact f3⟩
    · rcases set_get hw with ⟨q, rfl⟩ | ⟨q, hw⟩
      · subst q
        show Sl K I' H' (if j = j then ft' 0 else ft j) _ _
        rw [if_pos rfl]
        obtain ⟨v', e1, e2⟩ := k'.sl 0 _ rfl
        cases e1
        exact ⟨v, h1, e2⟩
      · show Sl K I' H' (if i = j then ft' 0 else ft i) _ w
        rw [if_neg fun z => q z.symm]
        refine (k.sl i w hw).keep e fun a ha => ?_
        obtain ⟨f1, f2, f3⟩ := k.own i a ha
        exact (keep a (fun y => q (k.ap i j a ha y).symm) f1 f3).1
theorem ew_callR {pre : Cel → List PyData → Cel → (PyData → Prop) → Prop} {E : XK} {ts : TA} {P : PyData → List SD → Prop} {j : Nat} {c0 : Cel} (hj : ws[j]? = some (.cel c0))
    (h : AW K ws ts fun ds w => ∃ c c' R, w[j]? = some (.cel c) ∧ pre c ds c' R ∧ ∀ d, R d → P d (w.set j (.cel c'))) : EW K ws (tCall (SpR K pre) [] E (tCons (tVar j) ts)) P := fun T B σ I H k Q q => by
  obtain ⟨v, F, e, _, _⟩ := k.giveC hj
  refine ⟨v, e, ?_⟩
  refine h T B σ I H k _ fun vs ds w I1 H1 p k1 s1 a1 => ?_
  obtain ⟨c, c', R, hc, hp, hr⟩ := p
  obtain ⟨v', F', e', kc, up⟩ := k1.giveC hc
  rw [e] at e'
  cases e'
  rw [List.append_nil]
  exact ⟨restF F' I1 H1, I1, I1, v, vs, c, c', ds, R, rfl, kc, a1, hp, fun z d I' H' rd k' s a => q z d _ I' H' (hr d rd) (up c' I' H' k') (s1.trans s) a⟩
theorem Ok.begin {vs : List V} {ds : List PyData} {n : Nat} (k : Ok K T B [] [] I H) (a : DaL K I vs ds) : Ok K T I (ds.map .dat ++ List.replicate n .un) (vs.map some ++ List.replicate n none) I H := by
  refine ⟨fun _ => [], k.sub, k.oth, Same.refl I, k.ti, by simp [a.length], fun _ _ _ h _ => (nomatch h), fun _ _ h => (nomatch h), fun i w hw => ?_⟩
  by_cases hi : i < ds.length
  · have hi' : i < vs.length := by rw [a.length]; exact hi
    rw [List.getElem?_append_left (by simpa using hi), List.getElem?_map, List.getElem?_eq_getElem hi] at hw
    cases hw
    obtain ⟨v, e, d⟩ := a.get (List.getElem?_eq_getElem hi)
    refine ⟨v, ?_, d⟩
    rw [List.getElem?_append_left (by simpa using hi'), List.getElem?_map, e]
    rfl
  · rw [List.getElem?_append_right (by simpa using hi), List.getElem?_replicate] at hw
    split at hw
    · cases hw
      trivial
    · cases hw
theorem body_P {N : List Str} {vs : List V} {ds : List PyData} {ts : TS} {D : Ends} (k : Ok K T B [] [] I H) (a : DaL K I vs ds) (h : SW K T I (ds.map .dat ++ List.replicate (N.length - ds.length) .un) ts D) : ts D (L2.start N vs) H := by
  have q := h _ I H (k.begin (n := N.length - ds.length) a)
  unfold L2.start
  rw [a.length]
  exact q
theorem rt_P {pre : Prop} {Q : V → Hp → Prop} {R : PyData → Prop} {d : PyData} (k : Ok K T B [] [] I H) (q : ∀ v d I' H', R d → Ok K T B [] [] I' H' → Same I I' → Da K I' v d → Q v H') (hd : R d) {B' : Hp} (e : Same I B') : RT K T B' ws d Q := fun σ I' H' v k' a =>
  q v d I' H' hd (k'.bare.less (k.bse.trans e)) (e.trans k'.bse) a
theorem Ok.beginC {c : Cel} {v0 : V} {vs : List V} {ds : List PyData} {n : Nat} (k : Ok K T B [.cel c] [some v0] I H) (a : DaL K I vs ds) : Ok K T I (.cel c :: (ds.map .dat ++ List.replicate n .un)) (some v0 :: (vs.map some ++ List.replicate n none)) I H := by
  have k2 := k.bare.begin (n := n) a
  obtain ⟨ft, k⟩ := k
  obtain ⟨ft2, k2⟩ := k2
  refine ⟨fun i => if i = 0 then ft 0 else [], k.sub, k.oth, Same.refl I, k.ti, by simp [a.length], fun x y b hx hy => ?_, fun i b hb => ?_, fun i w hw => ?_⟩
  · have hx : b ∈ if x = 0 then ft 0 else [] := hx
    have hy : b ∈ if y = 0 then ft 0 else [] := hy
    split at hx
    · split at hy
      · omega
      · cases hy
    · cases hx
  · have hb : b ∈ if i = 0 then ft 0 else [] := hb
    split at hb
    · exact k.own 0 b hb
    · cases hb
  · cases i with
    | zero =>
      cases hw
      exact k.sl 0 _ rfl
    | succ i =>
      have hw' : (ds.map SD.dat ++ List.replicate n .un)[i]? = some w := hw
      have q := k2.sl i w hw'
      show Sl K I H (if i + 1 = 0 then ft 0 else []) _ w
      rw [if_neg (by omega)]
      by_cases hi : i < ds.length
      · rw [List.getElem?_append_left (by simpa using hi), List.getElem?_map, List.getElem?_eq_getElem hi] at hw'
        cases hw'
        exact q
      · rw [List.getElem?_append_right (by simpa using hi), List.getElem?_replicate] at hw'
        split at hw'
        · cases hw'
          trivial
        · cases hw'
theorem body_R {N : List Str} {c : Cel} {v0 : V} {vs : List V} {ds : List PyData} {ts : TS} {D : Ends} (k : Ok K T B [.cel c] [some v0] I H) (a : DaL K I vs ds) (h : SW K T I (.cel c :: (ds.map .dat ++ List.replicate (N.length - (ds.length + 1)) .un)) ts D) : ts D (L2.start N (v0 :: vs)) H := by
  have q := h _ I H (k.beginC (n := N.length - (ds.length + 1)) a)
  unfold L2.start
  rw [List.length_cons, a.length]
  exact q
theorem Ok.celAt {j : Nat} {c : Cel} (k : Ok K T B ws σ I H) (h : ws[j]? = some (.cel c)) {v0 : V} (hv : ∀ F v I H, c.ok F v I H → v = v0) : Ok K T B [.cel c] [some v0] I H := by
  obtain ⟨ft, k⟩ := k
  obtain ⟨v, h1, h2⟩ := k.sl j _ h
  have hv := hv _ _ _ _ h2
  subst hv
  refine ⟨fun i => if i = 0 then ft j else [], k.sub, k.oth, k.bse, k.ti, rfl, fun x y b hx hy => ?_, fun i b hb => ?_, fun i w hw => ?_⟩
  · have hx : b ∈ if x = 0 then ft j else [] := hx
    have hy : b ∈ if y = 0 then ft j else [] := hy
    split at hx
    · split at hy
      · omega
      · cases hy
    · cases hx
  · have hb : b ∈ if i = 0 then ft j else [] := hb
    split at hb
    · exact k.own j b hb
    · cases hb
  · cases i with
    | zero =>
      cases hw
      exact ⟨v, rfl, h2⟩
    | succ i => cases hw
theorem rt_R {Q : V → Hp → Prop} {R : PyData → Prop} {d : PyData} {c c' : Cel} {v0 : V} (k : Ok K T B [.cel c] [some v0] I H) (q : ∀ v d I' H', R d → Ok K T B [.cel c'] [some v0] I' H' → Same I I' → Da K I' v d → Q v H') (hd : R d) (hv : ∀ F v I H, c'.ok F v I H → v = v0) {j : Nat} (hw : ws[j]? = some (.cel c')) {B' : Hp} (e : Same I B') : RT K T B' ws d Q := fun σ I' H' v k' a =>
  q v d I' H' hd ((k'.celAt hw hv).less (k.bse.trans e)) (e.trans k'.bse) a
end
end DL
namespace DL
open PySem PySem.Spec PyProof.Rows L2
def CPowW (i j : Int) : Prop := 0 ≤ j ∧ j ≤ 1000 ∧ i.natAbs < 2 ^ 1000
theorem CPowW.ok {i j : Int} (h : CPowW i j) : (Builtin.Int.intBits i : Int) * j ≤ 2 ^ 27 := by
  obtain ⟨h1, h2, h3⟩ := h
  have b : Builtin.Int.intBits i ≤ i.natAbs.log2 + 1 := by
    unfold Builtin.Int.intBits
    split <;> omega
  have l := PySem.Flt.log2_lt_of (by decide : 0 < 1000) h3
  have c : (Builtin.Int.intBits i : Int) ≤ 1001 := by omega
  have d := Int.mul_le_mul c h2 h1 (by decide)
  exact Int.le_trans d (by decide)
theorem op_powW {X : Cx} : OpR X (binaryOp .Pow) (rI CPowW fun i j => .int (i ^ j.toNat)) := opI fun _ _ _ _ _ _ _ hc q => pow_int hc.1 hc.ok q
def Df (P : Program) (w : World) (K : Frg) (mg : Str → Option Value) (base : Heap) (k : Nat) (x : Str) (ps : List Str) (sp : Sp) : Prop :=
  ∃ f fd, FnOk P w K mg base CX0 k f fd ps sp ∧ mg x = some (.ref f) ∧ PySem.W.keepIn K (.ref f) = true ∧ Binds K fd ps []
def At (K : Frg) (mg : Str → Option Value) (x : Str) (st : Stmt) (ps : List Str) : Prop :=
  ∃ f fd, Fun K x x.toString st f fd ∧ mg x = some (.ref f) ∧ Binds K fd ps []
section
variable {P : Program} {w : World} {K : Frg} {mg : Str → Option Value} {base : Heap} {X : Cx} {k j : Nat} {x : Str} {ps : List Str} {sp : Sp} {p pos : Pos} {e : Expr} {es : List Expr} {t : TA}
theorem pe_df (G : Df X.prog X.w X.K X.mg X.base k x ps sp) (hr : Room j X.A) (hk : k ≤ j) (hg : Gl X x) (ha : PA X (e :: es) t) (hdb : (x == ("__debug__" : Str)) = false := by decide)
    (he : starEach (e :: es) X.env = (false, eval e X.env) :: starEach es X.env := by rfl) (hpl : (backTo pos (starEach es X.env)).any (·.1) = false := by rfl) : PE X (.Call (.Name x p) (e :: es) [] pos) (tCall sp [] E0 t) := by
  obtain ⟨f, fd, G, m, kp, b⟩ := G
  exact pe_call G (hr.mono hk) hg m kp b .nil pass0 ha hdb he hpl
theorem pe_df0 (G : Df X.prog X.w X.K X.mg X.base k x ps sp) (hr : Room j X.A) (hk : k ≤ j) (hg : Gl X x) (hdb : (x == ("__debug__" : Str)) = false := by decide) : PE X (.Call (.Name x p) [] [] pos) (tCall sp [] E0 tNil) := by
  obtain ⟨f, fd, G, m, kp, b⟩ := G
  exact pe_call0 G (hr.mono hk) hg m kp b .nil pass0 hdb
end
def flC (v : V) (xs : List V) : Cel := ⟨fun F u _ H => u = v ∧ ∃ p, v = .ref p ∧ F = [p] ∧ H p = some (.lst xs), fun F u I I' H H' _ e ⟨h1, p, h2, h3, h4⟩ => ⟨h1, p, h2, h3, by rw [e p (by rw [h3]; exact List.mem_singleton.mpr rfl)]; exact h4⟩⟩
section
variable {K : Frg} {T B I H : Hp} {ws : List SD} {σ : L2.St} {te ti tb : TE} {D : Ends} {P : PyData → List SD → Prop}
theorem Ok.celEx {α : Type} {j : Nat} {c : Cel} {C : α → Cel} (k : Ok K T B ws σ I H) (h : ws[j]? = some (.cel c)) (e : ∀ F v I H, c.ok F v I H → ∃ x, (C x).ok F v I H) : ∃ x, Ok K T B (ws.set j (.cel (C x))) σ I H := by
  obtain ⟨ft, k⟩ := k
  obtain ⟨v, h1, h2⟩ := k.sl j _ h
  obtain ⟨x, hx⟩ := e _ _ _ _ h2
  refine ⟨x, ft, k.sub, k.oth, k.bse, k.ti, by rw [List.length_set]; exact k.len, k.ap, k.own, fun i w hw => ?_⟩
  rcases set_get hw with ⟨q, rfl⟩ | ⟨q, hw⟩
  · subst q
    exact ⟨v, h1, hx⟩
  · exact k.sl i w hw
theorem Ok.celTo {j : Nat} {c c' : Cel} (k : Ok K T B ws σ I H) (h : ws[j]? = some (.cel c)) (e : ∀ F v I H, c.ok F v I H → c'.ok F v I H) : Ok K T B (ws.set j (.cel c')) σ I H := by
  obtain ⟨_, k⟩ := k.celEx (C := fun _ : Unit => c') h fun F v I H q => ⟨(), e F v I H q⟩
  exact k
theorem sw_open {α : Type} {j : Nat} {c : Cel} {C : α → Cel} {ts : TS} (h : ws[j]? = some (.cel c)) (e : ∀ F v I H, c.ok F v I H → ∃ x, (C x).ok F v I H) (q : ∀ x, SW K T B (ws.set j (.cel (C x))) ts D) : SW K T B ws ts D := fun σ I H k => by
  obtain ⟨x, k⟩ := k.celEx h e
  exact q x σ I H k
theorem sw_cel {j : Nat} {c c' : Cel} {ts : TS} (h : ws[j]? = some (.cel c)) (e : ∀ F v I H, c.ok F v I H → c'.ok F v I H) (q : SW K T B (ws.set j (.cel c')) ts D) : SW K T B ws ts D := fun σ I H k => q σ I H (k.celTo h e)
theorem rt_cel {j : Nat} {c c' : Cel} {N : V → Hp → Prop} {d : PyData} (h : ws[j]? = some (.cel c)) (e : ∀ F v I H, c.ok F v I H → c'.ok F v I H) (q : RT K T B (ws.set j (.cel c')) d N) : RT K T B ws d N := fun σ I H v k => q σ I H v (k.celTo h e)
theorem nx_cel {j : Nat} {c c' : Cel} {N : L2.St → Hp → Prop} (h : ws[j]? = some (.cel c)) (e : ∀ F v I H, c.ok F v I H → c'.ok F v I H) (q : NX K T B (ws.set j (.cel c')) N) : NX K T B ws N := fun σ I H k => q σ I H (k.celTo h e)
theorem Ok.flAt {j : Nat} {v : V} {xs : List V} (k : Ok K T B ws σ I H) (h : ws[j]? = some (.cel (flC v xs))) : ∃ p, v = .ref p ∧ σ[j]? = some (some (.ref p)) ∧ H p = some (.lst xs) ∧ ∀ ys, Ok K T B (ws.set j (.cel (flC v ys))) σ I (upd H p (.lst ys)) := by
  obtain ⟨ft, k⟩ := k
  obtain ⟨u, h1, rfl, p, rfl, hF, hH⟩ := k.sl j _ h
  have hp : p ∈ ft j := by rw [hF]; exact List.mem_singleton.mpr rfl
  obtain ⟨hI, hT, hn⟩ := k.own j p hp
  refine ⟨p, rfl, ?_, hH, fun ys => ⟨ft, fun b x q => ?_, fun b x q => ?_, k.bse, k.ti, by rw [List.length_set]; exact k.len, k.ap, fun i a ha => ?_, fun i w hw => ?_⟩⟩
  · cases e : σ[j]? with
    | none => rw [e] at h1; cases h1
    | some x => rw [e] at h1; exact congrArg some h1
  · rw [upd_ne (ne_of_none q hI)]
    exact k.sub _ _ q
  · rw [upd_ne (ne_of_none q hT)]
    exact k.oth _ _ q
  · obtain ⟨e1, e2, e3⟩ := k.own i a ha
    refine ⟨e1, e2, ?_⟩
    by_cases z : a = p
    · rw [z, upd_same]
      simp
    · rw [upd_ne z]
      exact e3
  · rcases set_get hw with ⟨q, rfl⟩ | ⟨q, hw⟩
    · subst q
      exact ⟨.ref p, h1, rfl, p, rfl, hF, upd_same⟩
    · refine (k.sl i w hw).keep (Same.refl I) fun a ha => ?_
      have z : a ≠ p := fun z => q (k.ap j i p hp (z ▸ ha))
      rw [upd_ne z]
theorem da_flat {d : PyData} {v : V} (h : flatD d = some v) : Da K I v d := by
  cases d <;> cases h <;> constructor
theorem ew_ixC {j : Nat} {v : V} {xs : List V} (h : ws[j]? = some (.cel (flC v xs))) (hb : EW K ws tb fun y w => ∃ i, y = .int i ∧ w = ws ∧ ∃ z, atI xs i = some (.int z) ∧ P (.int z) ws) : EW K ws (tOp (rIxL K) (tVar j) tb) P := fun T B σ I H k Q q => by
  obtain ⟨p, rfl, e, hH, _⟩ := k.flAt h
  refine ⟨_, e, ?_⟩
  refine hb T B σ I H k _ fun u y w1 I1 H1 p1 k1 s1 a1 => ?_
  obtain ⟨i, rfl, rfl, z, at_, pp⟩ := p1
  obtain ⟨p', e1, e', hH', _⟩ := k1.flAt h
  cases e1
  exact ⟨p, xs, i, .int z, rfl, a1.int_inv, .inl (.inl hH'), at_, q _ _ _ _ _ pp k1 s1 (.int z)⟩
theorem sw_setC {j : Nat} {v : V} {xs : List V} (h : ws[j]? = some (.cel (flC v xs))) (he : EW K ws te fun d w => ∃ z, d = .int z ∧ w = ws ∧ EW K ws ti fun y w2 => ∃ i, y = .int i ∧ w2 = ws ∧ ∃ n, ixN xs.length i = some n ∧ NX K T B (ws.set j (.cel (flC v (xs.set n (.int z))))) D.nx) :
    SW K T B ws (tAsg te (gSub (tVar j) ti rSetL)) D := fun σ I H k => by
  refine he T B σ I H k _ fun x d w I1 H1 p k1 s1 a1 => ?_
  obtain ⟨z, rfl, rfl, p⟩ := p
  obtain ⟨b, rfl, e, hH, _⟩ := k1.flAt h
  refine ⟨_, e, ?_⟩
  refine p T B σ I1 H1 k1 _ fun y dy w2 I2 H2 p2 k2 s2 a2 => ?_
  obtain ⟨i, rfl, rfl, n, hn, p⟩ := p2
  obtain ⟨b', e1, e', hH', up⟩ := k2.flAt h
  cases e1
  obtain rfl := a1.int_inv
  exact ⟨b, xs, i, n, rfl, a2.int_inv, hH', hn, p σ I2 _ (up _)⟩
end
def rngC (v : V) (n : Nat) : Cel := ⟨fun F u I H => ∃ a b c : Int, (0 ≤ a ∧ 0 ≤ b ∧ b < 2305843009213693951 ∧ 0 ≤ c ∧ c ≤ n) ∧ (flC v [.int a, .int b, .int c]).ok F u I H,
  fun F u I I' H H' s e ⟨a, b, c, h, q⟩ => ⟨a, b, c, h, (flC v [.int a, .int b, .int c]).loc F u I I' H H' s e q⟩⟩
theorem rngC_fix {v : V} {n : Nat} : ∀ F u I H, (rngC v n).ok F u I H → u = v := fun _ _ _ _ ⟨_, _, _, _, h, _⟩ => h
theorem rngC_le {v : V} {n m : Nat} (h : n ≤ m) : ∀ F u I H, (rngC v n).ok F u I H → (rngC v m).ok F u I H := fun _ _ _ _ ⟨a, b, c, ⟨h1, h2, h3, h4, h5⟩, q⟩ => ⟨a, b, c, ⟨h1, h2, h3, h4, by omega⟩, q⟩
end DL
namespace DL
open PySem PySem.Spec PyProof.Rows L2
section
variable {K : Frg} {T B : Hp} {ws : List SD} {ta tb te : TE} {ts : TA} {P : PyData → List SD → Prop} {PA : List PyData → List SD → Prop} {D : Ends}
theorem ifd {c A B : Prop} [Decidable c] (h1 : c → A) (h2 : ¬ c → B) : if decide c = true then A else B := by
  by_cases h : c
  · rw [decide_eq_true h, if_pos rfl]
    exact h1 h
  · rw [decide_eq_false h, if_neg Bool.false_ne_true]
    exact h2 h
theorem ifn {c A B : Prop} [Decidable c] (h1 : ¬ c → A) (h2 : c → B) : if (!decide c) = true then A else B := by
  by_cases h : c
  · rw [decide_eq_true h]
    exact h2 h
  · rw [decide_eq_false h]
    exact h1 h
theorem if_yes {c A B : Prop} [Decidable c] (h : c) (a : A) : if decide c = true then A else B := ifd (fun _ => a) fun z => absurd h z
theorem if_no {c A B : Prop} [Decidable c] (h : ¬ c) (a : B) : if decide c = true then A else B := ifd (fun z => absurd z h) fun _ => a
theorem ifn_yes {c A B : Prop} [Decidable c] (h : ¬ c) (a : A) : if (!decide c) = true then A else B := ifn (fun _ => a) fun z => absurd z h
theorem ifn_no {c A B : Prop} [Decidable c] (h : c) (a : B) : if (!decide c) = true then A else B := ifn (fun z => absurd h z) fun _ => a
theorem ifbT {b : Bool} {A B : Prop} (h : b = true) (a : A) : if b = true then A else B := by
  rw [if_pos h]
  exact a
theorem ifbF {b : Bool} {A B : Prop} (h : b = false) (a : B) : if b = true then A else B := by
  rw [h]
  exact a
theorem ifb {b : Bool} {A B : Prop} (h1 : b = true → A) (h2 : b = false → B) : if b = true then A else B := by
  cases b with
  | true => exact h1 rfl
  | false => exact h2 rfl
theorem ifT {A B : Prop} (h : A) : if true = true then A else B := h
theorem ifF {A B : Prop} (h : B) : if false = true then A else B := h
theorem ew_cat (h : EW K ws ta fun x w1 => EW K w1 tb fun y w2 => OF K rCat x y fun d => P (.list d) w2) : EW K ws (tOp rCat ta tb) P := ew_ef (ef_op h)
theorem ew_rep (h : EW K ws ta fun x w1 => EW K w1 tb fun y w2 => OF K rRep x y fun d => P (.list d) w2) : EW K ws (tOp rRep ta tb) P := ew_ef (ef_op h)
theorem ew_lst (h : AW K ws ts fun xs w => xs.length ≤ sizeLine ∧ P (.list xs) w) : EW K ws (tLst ts) P := ew_ef (ef_lst h)
theorem nx_mk {u : TS} {a : V → Hp → Prop} {b c : L2.St → Hp → Prop} (h : SW K T B ws u D) : NX K T B ws (Ends.nx (Ends.mk (u D) a b c)) := h
theorem nx_tn {a : V → Hp → Prop} {b c : L2.St → Hp → Prop} {R : List SD → Prop} (h : R ws) : NX K T B ws (Ends.nx (Ends.mk (Nx K T B R) a b c)) := nx_of h
theorem ct_tn {n : L2.St → Hp → Prop} {a : V → Hp → Prop} {b : L2.St → Hp → Prop} {R : List SD → Prop} (h : R ws) : NX K T B ws (Ends.ct (Ends.mk n a b (Nx K T B R))) := nx_of h
theorem nx_e {n : L2.St → Hp → Prop} {a : V → Hp → Prop} {b c : L2.St → Hp → Prop} (h : NX K T B ws n) : NX K T B ws (Ends.nx (Ends.mk n a b c)) := h
theorem rt_mk {n : L2.St → Hp → Prop} {a : V → Hp → Prop} {b c : L2.St → Hp → Prop} {d : PyData} (h : RT K T B ws d a) : RT K T B ws d (Ends.rt (Ends.mk n a b c)) := h
theorem Ok.vfix {I H : Hp} {c : Cel} {v0 v : V} (k : Ok K T B [.cel c] [some v0] I H) (hv : ∀ F u I H, c.ok F u I H → u = v) : v0 = v := by
  obtain ⟨ft, k⟩ := k
  obtain ⟨u, h1, h2⟩ := k.sl 0 _ rfl
  cases h1
  exact hv _ _ _ _ h2
theorem Ok.drop {I H : Hp} {σ : L2.St} {p p2 : Addr} {o o2 : HO} (k : Ok K (upd (upd T p o) p2 o2) B ws σ I H) (ne : p ≠ p2) (h2 : T p2 = none) (h : T p = none) : Ok K (upd T p2 o2) B ws σ I H := by
  obtain ⟨ft, k⟩ := k
  have le : ∀ b x, (upd T p2 o2) b = some x → (upd (upd T p o) p2 o2) b = some x := fun b x e => by
    by_cases z : b = p2
    · subst z
      rw [upd_same] at e ⊢
      exact e
    · rw [upd_ne z] at e ⊢
      rw [upd_ne (ne_of_none e h)]
      exact e
  refine ⟨ft, k.sub, fun b x e => k.oth b x (le b x e), k.bse, fun b hb => k.ti b ?_, k.len, k.ap, fun i a ha => ?_, k.sl⟩
  · cases e : (upd T p2 o2) b with
    | none => exact absurd e hb
    | some x =>
      rw [le b x e]
      simp
  · obtain ⟨e1, e2, e3⟩ := k.own i a ha
    refine ⟨e1, ?_, e3⟩
    cases e : (upd T p2 o2) a with
    | none => rfl
    | some x =>
      rw [le a x e] at e2
      cases e2
theorem tw_truM {i : Nat} {ds : List PyData} {PB : Bool → List SD → Prop} (hi : ws[i]? = some (.mut ds)) (p : PB (!ds.isEmpty) ws) : TW K ws (fun σ H Q => tVar i σ H fun x H' => ∃ k, TruV K x H' k ∧ Q k H') PB := fun T B σ I H k Q q => by
  obtain ⟨b, xs, e, hH, hI, ha, _⟩ := k.mutAt hi
  refine ⟨.ref b, e, !ds.isEmpty, .inl ⟨xs, .inl (.inl hH), ?_⟩, q _ _ _ _ p k (Same.refl I)⟩
  cases ha <;> rfl
theorem ew_draw {j : Nat} {v : V} {n0 : Nat} {pre : Cel → List PyData → Cel → (PyData → Prop) → Prop} {E : XK}
    (hp : ∀ v n lim, 0 < lim → lim < 2 ^ 200 → n < 2 ^ 60 → pre (rngC v n) [.int lim] (rngC v (n + 1)) fun d => ∃ r, d = .int r ∧ 0 ≤ r ∧ r < lim) (hj : ws[j]? = some (.cel (rngC v n0)))
    (h : AW K ws ts fun ds w => ∃ lim n, ds = [.int lim] ∧ w[j]? = some (.cel (rngC v n)) ∧ 0 < lim ∧ lim < 2 ^ 200 ∧ n < 2 ^ 60 ∧ ∀ r, 0 ≤ r → r < lim → P (.int r) (w.set j (.cel (rngC v (n + 1))))) :
    EW K ws (tCall (SpR K pre) [] E (tCons (tVar j) ts)) P := ew_callR hj (fun T B σ I H k Q q => h T B σ I H k Q fun vs ds w I' H' p => q vs ds w I' H' (by
      obtain ⟨lim, n, rfl, h1, h2, h3, h4, h5⟩ := p
      exact ⟨_, _, _, h1, hp v n lim h2 h3 h4, fun d ⟨r, e, h6, h7⟩ => by rw [e]; exact h5 r h6 h7⟩))
end
end DL
namespace SS
open PySem PySem.Spec PyProof.Rows L2
def tkey (e : Int × Value) : PySem.Str := match e.2 with | .str x _ => x | _ => Str.empty
def GoodT (P : Program) (w : World) (e : Int × Value) : Prop := ∃ x tk, e.2 = Value.str x tk ∧ e.1 = (PySem.strKind P w).hash x
structure SetT (P : Program) (w : World) (h : Heap) (a : Addr) (S : PySem.Str → Bool) (n : Nat) (ob : Obj) (rows : Array (Int × Value)) (ep : Nat) (tb : SetTable) : Prop where
  at_ : h.get? a = some ob
  ex : ob.ExactSet
  dt : ob.data = .set rows ep tb
  good : ∀ e ∈ rows.toList, GoodT P w e
  nd : (rows.toList.map tkey).Nodup
  mem : ∀ k, S k = true ↔ k ∈ rows.toList.map tkey
  bd : rows.size < scanBound
  fit : tb.fits rows.size = true
  num : rows.size = n
  ris : Ris tb.place.toList
  led : w.params.followText "set-order" = true ∨ tb.led = true
def SetS (P : Program) (w : World) (h : Heap) (a : Addr) (S : PySem.Str → Bool) (n : Nat) : Prop := ∃ ob rows ep tb, SetT P w h a S n ob rows ep tb
section
variable {P : Program} {w : World} {h h' : Heap} {a : Addr} {S : PySem.Str → Bool} {n : Nat}
theorem SetS.keep (R : SetS P w h a S n) (k : ∀ o, h.get? a = some o → h'.get? a = some o) : SetS P w h' a S n := by
  obtain ⟨ob, rows, ep, tb, r⟩ := R
  exact ⟨ob, rows, ep, tb, { r with at_ := k _ r.at_ }⟩
theorem SetS.some (R : SetS P w h a S n) : ∃ o, h.get? a = some o := let ⟨ob, _, _, _, r⟩ := R; ⟨ob, r.at_⟩
theorem SetS.is {S' : PySem.Str → Bool} {n' : Nat} (R : SetS P w h a S n) (e : ∀ k, S' k = S k) (en : n' = n) : SetS P w h a S' n' := by
  have q : S' = S := funext e
  rw [q, en]
  exact R
theorem goodT_elems {l : List (Int × Value)} (g : ∀ e ∈ l, GoodT P w e) : ElemsOf (PySem.strKind P w) l := fun e he => by
  obtain ⟨x, tk, e1, e2⟩ := g e he
  exact ⟨⟨x, by rw [e1]; exact strKind_is P w x tk, e2⟩, by rw [e1]; rfl⟩
theorem goodT_is {e : Int × Value} (g : GoodT P w e) (k : PySem.Str) : (PySem.strKind P w).is k e.2 = true ↔ tkey e = k := by
  obtain ⟨x, tk, e1, _⟩ := g
  unfold tkey
  rw [e1]
  show (Value.isStrOf k (.str x tk) = true) ↔ x = k
  constructor
  · intro z
    obtain ⟨t, e⟩ := Value.isStrOf_shape z
    injection e
  · intro z
    subst z
    exact strKind_is P w x tk
theorem goodT_mem {l : List (Int × Value)} (g : ∀ e ∈ l, GoodT P w e) (k : PySem.Str) : k ∈ l.map tkey ↔ ∃ e ∈ l, (PySem.strKind P w).is k e.2 = true := by
  rw [List.mem_map]
  exact ⟨fun ⟨e, he, q⟩ => ⟨e, he, (goodT_is (g e he) k).2 q⟩, fun ⟨e, he, q⟩ => ⟨e, he, (goodT_is (g e he) k).1 q⟩⟩
theorem SetS.setOf (R : SetS P w h a S n) : h.SetOf (PySem.strKind P w) a S n := by
  obtain ⟨ob, rows, ep, tb, r⟩ := R
  exact ⟨ob, rows, ep, tb, r.at_, r.ex, r.dt, goodT_elems r.good, fun k => (r.mem k).trans (goodT_mem r.good k), r.bd, r.fit, r.num⟩
theorem setS_fresh {a : Addr} (e : h.get? a = .some { cls := .type "set", dict := none, data := .set #[] 0 (.fresh 0 0 (!w.params.followText "set-order")) }) : SetS P w h a (fun _ => false) 0 := by
  refine ⟨_, #[], 0, _, ⟨e, ⟨rfl, rfl, rfl⟩, rfl, fun e he => by simp at he, by simp, fun k => by simp, by decide, by rfl, rfl, List.Pairwise.nil, ?_⟩⟩
  show _ ∨ (!w.params.followText "set-order") = true
  cases w.params.followText "set-order" <;> simp
end
section
variable {P : Program} {w : World} {A : Around} {E : Value → Shared → Prop} {s : Shared} {a : Addr} {S : PySem.Str → Bool} {n : Nat}
theorem add_tail {g : Bool → Sem Unit} (hg : ∀ (b : Bool) (s1 : Shared) (Q' : Unit → Shared → Prop), Q' () s1 → wpAny (model P w) A (g b) Q' E s1)
    {ob : Obj} {rows : Array (Int × Value)} {ep : Nat} {tb : SetTable} (e0 : s.heap.get? a = .some ob) (ex : ob.ExactSet) (dt : ob.data = .set rows ep tb)
    {rows1 : Array (Int × Value)} {tb2 : SetTable} {S' : PySem.Str → Bool} (g1 : ∀ e ∈ rows1.toList, GoodT P w e) (nd1 : (rows1.toList.map tkey).Nodup) (m1 : ∀ k, S' k = true ↔ k ∈ rows1.toList.map tkey)
    (b1 : rows1.size < scanBound) (f2 : tb2.fits rows1.size = true) (r2 : Ris tb2.place.toList) (l2 : w.params.followText "set-order" = true ∨ tb2.led = true) {dummy : Bool} {R : Option Bool → Shared → Prop}
    (hR : ∀ h', Heap.SameBut a s.heap h' → SetS P w h' a S' rows1.size → R (.some true) { s with heap := h' }) :
    wpAny (model P w) A (do
        storeSet a rows1 tb2
        if (!dummy && tb2.tooFull) = true then do
            g (relayAll tb2 rows1 (SetTable.grown rows1.size)).2.2
            storeSet a (relayAll tb2 rows1 (SetTable.grown rows1.size)).1 (relayAll tb2 rows1 (SetTable.grown rows1.size)).2.1
            pure (.some true)
          else pure (.some true)) R E s := by
  apply wpAny_bind (wpAny_storeSet_of e0 dt ?_ (fits_of_scanBound b1))
  have e1 := store_at (es' := rows1) (t' := tb2) e0 dt
  have sb := Heap.SameBut.update s.heap a (Obj.putSet rows1 tb2)
  split
  · have pm := relayAll_perm tb2 rows1 (SetTable.grown rows1.size)
    have f3 := relayAll_fits tb2 rows1 (SetTable.grown rows1.size)
    have r3 := relayAll_ris tb2 rows1 (SetTable.grown rows1.size)
    have l3 := relayAll_led tb2 rows1 (SetTable.grown rows1.size)
    generalize relayAll tb2 rows1 (SetTable.grown rows1.size) = Z at pm f3 r3 l3 ⊢
    obtain ⟨rows2, tb3, gave⟩ := Z
    dsimp only at pm f3 r3 l3 ⊢
    have sz : rows2.size = rows1.size := by rw [← Array.length_toList, pm.length_eq, Array.length_toList]
    have b2 : rows2.size < scanBound := sz ▸ b1
    apply wpAny_bind (hg _ _ _ ?_)
    apply wpAny_bind (wpAny_storeSet_of e1 rfl ?_ (fits_of_scanBound b2))
    have e2 := store_at (es' := rows2) (t' := tb3) e1 rfl
    apply wpAny_pure (hR _ (sb.trans (Heap.SameBut.update _ a _)) ?_)
    exact ⟨_, rows2, _, tb3, ⟨e2, ex, rfl, fun e he => g1 e (pm.mem_iff.mp he), (pm.map tkey).nodup_iff.mpr nd1, fun k => (m1 k).trans (pm.map tkey).mem_iff.symm, b2, f3, sz, r3, l2.imp id fun z => l3.trans z⟩⟩
  · exact wpAny_pure (hR _ sb ⟨_, rows1, _, tb2, ⟨e1, ex, rfl, g1, nd1, m1, b1, f2, rfl, r2, l2⟩⟩)
theorem add_hashed {k : PySem.Str} {tk : Tok} {Q : Bool → Shared → Prop} (R : SetS P w s.heap a S n) (room : n + 1 < scanBound)
    (hQ : ∀ h', Heap.SameBut a s.heap h' → SetS P w h' a (fun j => S j || decide (j = k)) (if S k = true then n else n + 1) → Q (!S k) { s with heap := h' }) :
    wpAny (model P w) A (setAddHashed a (.str k tk) ((PySem.strKind P w).hash k)) Q E s := by
  obtain ⟨ob, rows, ep, tb, r⟩ := R
  have ik : (PySem.strKind P w).is k (.str k tk) = true := strKind_is P w k tk
  have sc : (Value.str k tk).scannable = true := rfl
  have el : ElemsOf (PySem.strKind P w) rows.toList := goodT_elems r.good
  unfold setAddHashed setAddHashedIn
  apply wpAny_holding
  apply wpAny_bind (wpAny_setState_of r.at_ r.dt r.fit ?_)
  dsimp only
  rw [byScan_of sc r.bd el]
  simp only [↓reduceIte]
  unfold setAddByScan
  apply wpAny_bind
  apply wpAny_bind
  apply wpAny_rule
  apply wpAny_bind (wpAny_setScan_of ik r.at_ r.dt r.fit el ?_)
  cases hf : List.findIdx? (fun e => (PySem.strKind P w).is k e.2) rows.toList with
  | some j =>
    dsimp only
    obtain ⟨hj, pj, _⟩ := List.findIdx?_eq_some_iff_getElem.mp hf
    have sk : S k = true := (r.mem k).2 ((goodT_mem r.good k).2 ⟨rows.toList[j], List.getElem_mem hj, pj⟩)
    apply wpAny_pure
    apply wpAny_pure
    have q := hQ s.heap (Heap.SameBut.refl a s.heap) ⟨ob, rows, ep, tb, { r with
      mem := fun i => by
        rw [Bool.or_eq_true, decide_eq_true_eq, ← r.mem i]
        exact ⟨fun z => z.elim id fun e => e ▸ sk, .inl⟩
      num := by
        rw [if_pos sk]
        exact r.num }⟩
    rw [sk] at q
    exact q
  | none =>
    dsimp only
    have nk : k ∉ rows.toList.map tkey := fun z => by
      obtain ⟨e, he, q⟩ := (goodT_mem r.good k).1 z
      have c := List.findIdx?_eq_none_iff.mp hf e he
      rw [q] at c
      cases c
    have sk : S k = false := by
      cases q : S k
      · rfl
      · exact absurd ((r.mem k).1 q) nk
    have gw : ∀ (b : Bool) {s1 : Shared} {Q' : Unit → Shared → Prop}, Q' () s1 → wpAny (model P w) A (match b with | true => rule "set.scan.the-table-gave-way" | false => pure ()) Q' E s1 := by
      intro b s1 Q' q
      cases b
      · exact wpAny_pure q
      · exact wpAny_rule q
    have pm := layNew_perm tb rows ((PySem.strKind P w).hash k) (.str k tk)
    have f1 := layNew_fits tb rows ((PySem.strKind P w).hash k) (.str k tk)
    have r1 := layNew_ris tb rows ((PySem.strKind P w).hash k) (.str k tk) r.ris
    have l1 := layNew_led tb rows ((PySem.strKind P w).hash k) (.str k tk)
    generalize layNew tb rows ((PySem.strKind P w).hash k) (.str k tk) = Z at pm f1 r1 l1 ⊢
    obtain ⟨rows1, tb1, dummy, gave⟩ := Z
    dsimp only at pm f1 r1 l1 ⊢
    rw [Array.toList_push] at pm
    have pc : rows1.toList.Perm (((PySem.strKind P w).hash k, Value.str k tk) :: rows.toList) := pm.trans (List.perm_append_singleton _ _)
    have pk : (rows1.toList.map tkey).Perm (k :: rows.toList.map tkey) := pc.map tkey
    have g1 : ∀ e ∈ rows1.toList, GoodT P w e := by
      intro e he
      rcases List.mem_cons.mp (pc.mem_iff.mp he) with z | z
      · rw [z]
        exact ⟨k, tk, rfl, rfl⟩
      · exact r.good e z
    have nd1 : (rows1.toList.map tkey).Nodup := pk.nodup_iff.mpr (List.nodup_cons.mpr ⟨nk, r.nd⟩)
    have m1 : ∀ i, (S i || decide (i = k)) = true ↔ i ∈ rows1.toList.map tkey := by
      intro i
      rw [Bool.or_eq_true, decide_eq_true_eq, r.mem i, pk.mem_iff, List.mem_cons]
      exact Or.comm
    have sz : rows1.size = n + 1 := by rw [← Array.length_toList, pc.length_eq, List.length_cons, Array.length_toList, r.num]
    have b1 : rows1.size < scanBound := sz ▸ room
    have ld : w.params.followText "set-order" = true ∨ tb1.led = true := r.led.imp id fun z => l1.trans z
    have fin : ∀ h', Heap.SameBut a s.heap h' → SetS P w h' a (fun j => S j || decide (j = k)) rows1.size → Q true { s with heap := h' } := by
      intro h' sb x
      have q := hQ h' sb
      rw [sk] at q
      rw [sz] at x
      exact q x
    apply wpAny_bind (gw _ ?_)
    split
    · apply wpAny_bind
      rw [hashByValue_scannable 8 sc]
      apply wpAny_pure
      apply add_tail ?_ r.at_ r.ex r.dt g1 nd1 m1 b1 ?_ ?_ ?_ ?_
      · intro b s1 Q' q
        cases b
        · exact wpAny_pure q
        · exact wpAny_rule q
      · first | (split <;> first | exact f1 | exact SetTable.fits_plain_off f1) | exact f1
      · first | (split <;> exact r1) | exact r1
      · first | (split <;> exact ld) | exact ld
      · intro h' sb x
        dsimp only
        exact wpAny_pure (fin h' sb x)
    · apply wpAny_bind
      apply wpAny_pure
      simp only [↓reduceIte]
      apply add_tail ?_ r.at_ r.ex r.dt g1 nd1 m1 b1 f1 r1 ld ?_
      · intro b s1 Q' q
        cases b
        · exact wpAny_pure q
        · exact wpAny_rule q
      · intro h' sb x
        dsimp only
        exact wpAny_pure (fin h' sb x)
theorem set_add {k : PySem.Str} {tk : Tok} {Q : Value → Shared → Prop} (R : SetS P w s.heap a S n) (room : n + 1 < scanBound)
    (hQ : ∀ h', Heap.SameBut a s.heap h' → SetS P w h' a (fun j => S j || decide (j = k)) (if S k = true then n else n + 1) → Q .none { s with heap := h', toks := s.toks + 1 }) :
    wpAny (model P w) A (call (.builtin "set.add") [.ref a, .str k tk]) Q E s := by
  apply wpAny_call_entry PySem.F.slot_set_add R.setOf.typeIs PySem.F.entry_set_add ?_ (PySem.F.args_set_add_2 _ _)
  unfold Builtin.«set.add» Builtin.Frozenset.oneOther
  simp only [List.isEmpty_nil, bind_assoc]
  unfold Builtin.Frozenset.addrOf setAdd
  apply wpAny_bind (wpAny_pure ?_)
  try dsimp only
  apply wpAny_bind (wpAny_pure ?_)
  try dsimp only
  apply wpAny_bind
  apply wpAny_holding
  apply wpAny_bind ((PySem.strKind P w).pyHash (strKind_is P w k tk) ?_)
  apply add_hashed (s := { s with toks := s.toks + 1 }) R room
  intro h' sb x
  show wpAny _ _ (ret Value.none) _ _ _
  exact wpAny_pure ⟨_, rfl, hQ h' sb x⟩
end
end SS
namespace SS
open PySem PySem.Spec PyProof.Rows L2
def TextAt (xs : List PySem.Str) (i : Nat) (v : Value) : Prop := ∃ x t, xs[i]? = some x ∧ v = .str x t
def Just (P : Program) (w : World) (h : Heap) (a : Addr) (l : List PySem.Str) : Prop := ∃ n, n ≤ l.length ∧ SetS P w h a (fun k => decide (k ∈ l)) n
theorem Just.keep {P : Program} {w : World} {h h' : Heap} {a : Addr} {l : List PySem.Str} (R : Just P w h a l) (k : ∀ o, h.get? a = some o → h'.get? a = some o) : Just P w h' a l := let ⟨n, hn, r⟩ := R; ⟨n, hn, r.keep k⟩
theorem take_more {xs : List PySem.Str} {i : Nat} {x : PySem.Str} (h : xs[i]? = some x) : xs.take (i + 1) = xs.take i ++ [x] := by
  rw [List.take_add_one, h]
  rfl
theorem Just.more {P : Program} {w : World} {h : Heap} {a : Addr} {l : List PySem.Str} {x : PySem.Str} {n : Nat} (hn : n ≤ l.length) (r : SetS P w h a (fun j => decide (j ∈ l) || decide (j = x)) (if decide (x ∈ l) = true then n else n + 1)) : Just P w h a (l ++ [x]) := by
  refine ⟨if decide (x ∈ l) = true then n else n + 1, ?_, r.is (fun k => ?_) rfl⟩
  · rw [List.length_append, List.length_singleton]
    split <;> omega
  · by_cases h1 : k ∈ l <;> by_cases h2 : k = x <;> simp [h1, h2]
def emptySet (w : World) : Obj := { cls := .type "set", dict := none, data := .set #[] 0 (.fresh 0 0 (!w.params.followText "set-order")) }
section
variable {prog : Program} {w : World} {A : Around} {E : Value → Shared → Prop} {s : Shared}
theorem update_loop {R : Result → Shared → Prop} {I : Addr} {fp wr : List Addr} {G : Array GenState → Array GenState → Prop} {St : Nat → Shared → Prop} {xs : List PySem.Str} {Pv : Nat → Value → Prop} {m : Nat} (em : m = xs.length) (W : WalksS prog w A.in1 I fp wr G m Pv St) (tx : ∀ i v, Pv i v → TextAt xs i v) (D : Addr) (nfp : D ∉ fp) (hb : xs.length + 1 < scanBound) :
    ∀ (k i : Nat) (s : Shared), xs.length - i = k → i ≤ xs.length → St i s → Just prog w s.heap D (xs.take i) →
      (∀ s', Moved (D :: wr) G s s' → Just prog w s'.heap D xs → R (.ok (.ret .none)) s') → codeAny (model prog w) A (.builtin "set.update.loop" ⟨[.ref D, .ref I], []⟩) R s := by
  subst em
  have nwr : D ∉ wr := fun z => nfp (W.sub _ z)
  have sub : ∀ b ∈ wr, b ∈ D :: wr := fun b hb => List.mem_cons_of_mem _ hb
  intro k
  induction k with
  | zero =>
    intro i s hk hi st js hR
    have e : i = xs.length := by omega
    subst e
    apply codeAny_builtin PyProof.Rows.F.entry_set_update_loop
    rw [Around.under_plainId PyProof.Rows.F.plain_set_update_loop _]
    show wpAny _ A.in1 (pyNext (.ref I) >>= _) _ _ s
    apply wpAny_bind (W.done s _ _ st ?_)
    intro s' hm
    show wpAny _ A.in1 (ret Value.none) _ _ s'
    apply wpAny_pure
    apply hR s' (hm.mono sub)
    rw [List.take_length] at js
    exact js.keep fun o e => hm.heap D o nwr e
  | succ k ih =>
    intro i s hk hi st js hR
    have lt : i < xs.length := by omega
    apply codeAny_builtin PyProof.Rows.F.entry_set_update_loop
    rw [Around.under_plainId PyProof.Rows.F.plain_set_update_loop _]
    show wpAny _ A.in1 (pyNext (.ref I) >>= _) _ _ s
    apply wpAny_bind (W.item i s _ _ lt st ?_)
    intro v s' pv st' hm
    obtain ⟨x, t, hx, rfl⟩ := tx i v pv
    obtain ⟨n, hn, js'⟩ := js.keep (h' := s'.heap) fun o e => hm.heap D o nwr e
    show wpAny _ A.in1 (holding [Value.str x t] (setAdd D (.str x t)) >>= _) _ _ s'
    apply wpAny_bind
    apply wpAny_holding
    unfold setAdd
    apply wpAny_holding
    apply wpAny_bind ((PySem.strKind prog w).pyHash (strKind_is prog w x t) ?_)
    have hl : (xs.take i).length ≤ i := by rw [List.length_take]; omega
    apply add_hashed (s := { s' with toks := s'.toks + 1 }) js' (by omega)
    intro h' sb js2
    have js3 : Just prog w h' D (xs.take (i + 1)) := by
      rw [take_more hx]
      exact .more hn js2
    apply wpAny_pure
    refine ⟨plainId_quiet PyProof.Rows.F.plain_set_update_loop _, ih (i + 1) _ (by omega) lt (W.frame _ s' _ _ st' (Nat.le_succ _) ?_) js3 ?_⟩
    · intro b hb o e
      rw [sb.2 b fun z => nfp (z ▸ hb)]
      exact e
    · intro s'' hm2 js4
      refine hR s'' (Moved.trans W.gtrans ((hm.mono sub).then_heap (Nat.le_succ _) ?_) hm2) js4
      intro b o hb e
      rw [sb.2 b fun z => hb (z ▸ List.mem_cons_self)]
      exact e
set_option maxHeartbeats 8000000 in
theorem call_set {l : Addr} {items : Array Value} {xs : List PySem.Str} {Q : Value → Shared → Prop} (hh : A.handled = none) (hl : s.heap.IsList l items) (hi : StrsAre items.toList xs) (hb : xs.length + 1 < scanBound)
    (h : ∀ (h' : Heap) (tk : Nat), Just prog w h' s.heap.objs.size xs → (∀ b o, b < s.heap.objs.size → s.heap.get? b = some o → h'.get? b = some o) → Q (.ref s.heap.objs.size) { s with heap := h', toks := tk }) :
    wpAny (model prog w) A (call (.type "set") [.ref l]) Q E s := by
  have text : ∀ (vs : List Value) (xs : List PySem.Str), StrsAre vs xs → vs.length = xs.length ∧ ∀ (i : Nat) (v : Value), vs[i]? = some v → TextAt xs i v := by
    intro vs xs q
    induction q with
    | nil => exact ⟨rfl, fun i v e => by simp at e⟩
    | cons x t _ ih =>
      refine ⟨congrArg (· + 1) ih.1, fun i v e => ?_⟩
      cases i with
      | zero =>
        cases e
        exact ⟨x, t, rfl, rfl⟩
      | succ i => exact ih.2 i v e
  obtain ⟨len, at_⟩ := text _ _ hi
  have hsz : items.size = xs.length := by rw [← Array.length_toList]; exact len
  obtain ⟨c, tl, mro⟩ := PySem.F.called_set.mro
  have made := PySem.F.called_set.made
  have sub := PySem.F.called_set.sub
  apply wpAny_call (codeAny_of_tree ?_)
  show wpAny _ _ (callAny (.type "set") _) _ _ _
  apply wpAny_pure
  refine ⟨Code.quiet_builtin _ (by decide +kernel), codeAny_builtin PySem.F.entry_type_call ?_⟩
  rw [Around.under_plain (weight_type_call_type "set" [.ref l] []) rfl]
  have n1 := PySem.F.called_set.notType
  have n2 := PySem.F.called_set.canCreate
  have n3 := PySem.F.typeCall_set_1 (.ref l)
  repeat (any_goals (first | assumption | wp_step))
  apply codeAny_mono (code_set_led1 (.ref l) (E := E) (Q₁ := fun ob s1 => ob = .ref s.heap.objs.size ∧ s1 = { s with heap := s.heap.push (emptySet w) }) ⟨rfl, rfl⟩)
  rintro (e | f) s1 hr
  · exact hr
  · cases f with
    | ret ob =>
      obtain ⟨rfl, rfl⟩ := hr
      have here : (s.heap.push (emptySet w)).get? s.heap.objs.size = some (emptySet w) := Heap.get?_push_size _ rfl
      have ty : Shared.TypeIs { s with heap := s.heap.push (emptySet w) } (.ref s.heap.objs.size) "set" := ⟨_, here, rfl⟩
      have i1 := PySem.F.called_set.init.lookup
      have i2 := PySem.F.called_set.init.bind (.ref s.heap.objs.size)
      repeat (any_goals (first | assumption | wp_step))
      apply codeAny_mono (codeAny_call_builtin (R := wants (fun r s2 => r = .none ∧ ∃ h' tk, s2 = { s with heap := h', toks := tk } ∧ Just prog w h' s.heap.objs.size xs ∧ ∀ b o, b < s.heap.objs.size → s.heap.get? b = some o → h'.get? b = some o) E) PySem.F.called_set.init.plain PySem.F.entry_set_init (check_set_init_1 ty ?_))
      · rintro (e | f) s2 h2
        · exact h2
        · cases f with
          | ret r =>
            obtain ⟨rfl, h', tk, rfl, js, kp⟩ := h2
            repeat (any_goals (first | assumption | wp_step))
            exact h _ _ js kp
          | _ => exact h2.elim
      · obtain ⟨⟨k1, k2, k3, k4⟩, at1, k5, nl, k6⟩ := hl
        simp only at k5 k6
        subst k5
        subst k6
        have at2 : (s.heap.push (emptySet w)).get? l = some { cls := .type "list", dict := k2, data := .seq items nl, slots := k4 } := Heap.get?_push_of_some _ at1
        have u1 := PySem.F.sub_list_set
        have u2 := PySem.F.sub_list_frozenset
        have u3 : (Value.type "list" == Value.type "dict") = false := by decide
        have isl : (s.heap.push (emptySet w)).IsList l items := ⟨_, at2, rfl, nl, rfl⟩
        have lt : @LT.lt Nat _ l s.heap.objs.size := Heap.lt_size at1
        have z1 : (s.heap.push (emptySet w)).objs.size = s.heap.objs.size + 1 := Heap.size_push ..
        have nl1 : l ≠ (s.heap.push (emptySet w)).objs.size := fun z => by
          have z2 : @Eq Nat l _ := z
          omega
        have nD : s.heap.objs.size ∉ [(s.heap.push (emptySet w)).objs.size, l] := by
          intro z
          rcases List.mem_cons.mp z with z | z
          · have z2 : @Eq Nat _ _ := z
            omega
          · have z2 : @Eq Nat _ _ := List.mem_singleton.mp z
            omega
        unfold Builtin.«set.__init__» noKeywords Builtin.Frozenset.updateFrom
        generalize hPI : pyIter = PI
        wp_walk
        subst hPI
        apply wpAny_pyIter_list isl
        apply wpAny_bind (wpAny_runValue ?_)
        apply update_loop (xs := xs) hsz ((Walks.list (A := A.in1.in1.in1) (by simp [hh]) _ l nl1 items).toS) (fun i v e => at_ i v (by rw [Array.getElem?_toList]; exact e)) s.heap.objs.size nD hb (xs.length - 0) 0 _ rfl (Nat.zero_le _)
          ⟨⟨_, Heap.get?_push_size _ rfl, rfl, rfl⟩, isl.push _⟩
        · exact ⟨0, Nat.zero_le _, (setS_fresh (Heap.get?_push_of_some _ here)).is (fun k => by simp) rfl⟩
        · rintro ⟨h', g', d', tk', os'⟩ hm js
          have e1 : g' = s.gens := hm.gens
          have e2 : d' = s.drawn := hm.drawn
          have e3 : os' = s.os := hm.os
          subst e1
          subst e2
          subst e3
          show wpAny _ _ _ _ _ _
          apply wpAny_pure
          show wpAny _ _ (ret Value.none) _ _ _
          apply wpAny_pure
          refine ⟨rfl, h', tk', rfl, js, fun b o hb e => hm.heap b o ?_ (Heap.get?_push_of_some _ (Heap.get?_push_of_some _ e))⟩
          intro z
          rcases List.mem_cons.mp z with z | z
          · have z2 : @Eq Nat _ _ := z
            have hb : @LT.lt Nat _ b s.heap.objs.size := hb
            omega
          · have z2 : @Eq Nat _ _ := List.mem_singleton.mp z
            have hb : @LT.lt Nat _ b s.heap.objs.size := hb
            omega
    | _ => exact hr.elim
theorem strs_of : ∀ (l : List Value), (∀ v ∈ l, ∃ x t, v = Value.str x t) → ∃ xs, StrsAre l xs ∧ xs = l.map strOf
  | [], _ => ⟨[], .nil, rfl⟩
  | v :: l, h => by
    obtain ⟨x, t, rfl⟩ := h v List.mem_cons_self
    obtain ⟨xs, q, rfl⟩ := strs_of l fun u hu => h u (List.mem_cons_of_mem _ hu)
    exact ⟨_, .cons x t q, rfl⟩
theorem sorted_texts {S : PySem.Str → Bool} {n : Nat} {a : Addr} {Q : Value → Shared → Prop} (R : SetS prog w s.heap a S n) (hh : A.handled = none)
    (hQ : ∀ s' p (out : Array Value) (c : Nat) (xs : List PySem.Str), (∀ b o, s.heap.get? b = some o → s'.heap.get? b = some o) → s'.gens = s.gens → s'.os = s.os → s.heap.objs.size ≤ p → s'.heap.get? p = some (seqObj "list" out c) →
      StrsAre out.toList xs → sortedS xs = true → xs.Nodup → (∀ k, k ∈ xs ↔ S k = true) → xs.length = n → Q (.ref p) s') : wpAny (model prog w) A (call (.builtin "sorted") [.ref a]) Q E s := by
  obtain ⟨ob, rows, ep, tb, r⟩ := R
  refine Calls.call_function_entry kind_sorted plain_sorted entry_sorted (args_sorted1 _) (?_)
  unfold Builtin.«sorted»
  refine (wpAny_bind (m := checkCount "sorted" 1 1 _) (wpAny_pure ?_))
  refine (wpAny_bind (collect_set (A := A.in1) hh ⟨ob, r.at_, r.ex.1, r.dt⟩ r.fit r.bd r.ris r.led ?_))
  intro s1 vs k1 z1 g1 o1 pm
  have lv : vs.length = n := by rw [pm.length_eq, List.length_map, Array.length_toList, r.num]
  have bd := r.bd
  have hn := r.num
  obtain ⟨xs, hx, ex⟩ := strs_of vs fun v hv => by
    obtain ⟨e, he, q⟩ := List.mem_map.mp (pm.mem_iff.mp hv)
    obtain ⟨x, tk, e1, _⟩ := r.good e he
    exact ⟨x, tk, by rw [← q]; exact e1⟩
  have px : xs.Perm (rows.toList.map tkey) := by
    have q := pm.map strOf
    rw [List.map_map] at q
    rw [ex]
    exact q
  have few : vs.length ≤ sizeLine := Nat.le_trans (Nat.le_of_lt (by rw [lv, ← hn]; exact bd)) (by decide)
  apply wpAny_bind (wpAny_newList ?_ few)
  have hL : (s1.heap.push (seqObj "list" vs.toArray 0)).get? s1.heap.objs.size = some (seqObj "list" vs.toArray 0) := Heap.get?_push_size _ rfl
  refine wpAny_bind (wpAny_holding (wpAny_call_entry slot_list_sort ⟨_, hL, rfl⟩ entry_list_sort (list_sort_treeKAny strKind_oneLt hL hx.keysOf (fun v1 v2 rest e => keyKind_strs (by rw [← e]; exact hx)) few fun st a1 a2 => ⟨_, rfl, ?_⟩) (args_list_sort _)))
  obtain ⟨ys, b1, b2, b3⟩ := sorted_out_str hx a1 a2
  obtain ⟨c, hc⟩ := sortedHeap_at (vs := vs) (out := (arrOf st).map (·.2)) hL
  have py : ys.Perm (rows.toList.map tkey) := b2.trans px
  refine wpAny_pure ⟨_, rfl, hQ _ s1.heap.objs.size _ c ys ?_ g1 o1 z1 hc b1 b3 (py.nodup_iff.mpr r.nd) (fun k => by rw [py.mem_iff, ← r.mem k]) (by rw [py.length_eq, List.length_map, Array.length_toList, r.num])⟩
  intro b u e
  have q := k1 b u e
  have lt := Heap.lt_size q
  show (sortedHeap (s1.heap.push (seqObj "list" vs.toArray 0)) s1.heap.objs.size vs ((arrOf st).map (·.2))).get? b = some u
  rw [sortedHeap_old (Nat.ne_of_lt lt) (by rw [size_push']; exact Nat.lt_succ_of_lt lt)]
  exact Heap.get?_push_of_some _ q
end
end SS
namespace SS
open PySem PySem.Spec PyProof.Rows L2 DL
def SetSO (P : Program) (w : World) (a : Addr) (S : PySem.Str → Bool) (n : Nat) : HO := .ext fun h => SetS P w h a S n
theorem setSO_new {w : World} {P : Program} {H : Hp} {h : Heap} {a : Addr} {S : PySem.Str → Bool} {n : Nat} (R : SetS P w h a S n) : ObjOk P w H h a (SetSO P w a S n) := ⟨R, R.some, fun h1 h2 p k => SetS.keep p k⟩
theorem strs_vals : ∀ {xs : List PySem.Str} {us : List Value}, Vals (xs.map V.str) us → StrsAre us xs
  | [], _, .nil => .nil
  | x :: xs, _, .cons r t => by
    obtain ⟨tk, rfl⟩ := r
    exact .cons x tk (strs_vals t)
theorem vals_strs : ∀ {us : List Value} {xs : List PySem.Str}, StrsAre us xs → Vals (xs.map V.str) us
  | _, _, .nil => .nil
  | _, _, .cons x t h => .cons ⟨t, rfl⟩ (vals_strs h)
section
variable {X : Cx}
def rSetT (K : Frg) (P : Program) (w : World) : List V → Hp → VK → Prop := fun vs H Q => ∃ (l : Addr) (xs : List PySem.Str), vs = [V.ref l] ∧ SqL K H l (xs.map V.str) ∧ xs.length + 1 < scanBound ∧ ∀ p n, H p = none → n ≤ xs.length → Q (.ref p) (upd H p (SetSO P w p (fun k => decide (k ∈ xs)) n))
theorem cr_setT (hc : X.calm = true) : CallR X (.type "set") (rSetT X.K X.prog X.w) := by
  intro pins s σ H vs us Q I r h
  obtain ⟨l, xs, rfl, hl, hb, q⟩ := h
  rw [Vals.ref1 r]
  obtain ⟨its, rv, pl, hz⟩ := I.list hl
  apply call_set (I.ok.hd hc) pl.isList (by simpa using strs_vals rv) hb
  rintro h' tk ⟨n, hn, js⟩ kp
  have fr : H s.heap.objs.size = none := I.hok.fresh (Nat.le_refl _)
  exact ⟨.ref s.heap.objs.size, upd H s.heap.objs.size (SetSO X.prog X.w s.heap.objs.size (fun k => decide (k ∈ xs)) n), I.laid (t' := tk) (fun b o e => kp b o (Heap.lt_size e) e) (Nat.le_refl _) (setSO_new js), rfl, q _ n fr hn⟩
def rSortT (P : Program) (w : World) : List V → Hp → VK → Prop := fun vs H Q => ∃ (a : Addr) (S : PySem.Str → Bool) (n : Nat), vs = [V.ref a] ∧ H a = some (SetSO P w a S n) ∧
  ∀ (ys : List PySem.Str) (p : Addr), sortedS ys = true → ys.Nodup → (∀ k, k ∈ ys ↔ S k = true) → ys.length = n → H p = none → Q (.ref p) (upd H p (.lst (ys.map V.str)))
theorem cr_sortT (hc : X.calm = true) : CallR X (.builtin "sorted") (rSortT X.prog X.w) := by
  intro pins s σ H vs us Q I r h
  obtain ⟨a, S, n, rfl, ha, q⟩ := h
  have R : SetS X.prog X.w s.heap a S n := (I.hok a _ ha).1
  have hn : n < scanBound := by
    obtain ⟨ob, rows, ep, tb, x⟩ := R
    rw [← x.num]
    exact x.bd
  rw [Vals.ref1 r]
  apply sorted_texts R (I.ok.hd hc)
  intro s' p out c ys k g o hp hg hs so nd mem len
  have fr : H p = none := I.hok.fresh hp
  have few : (ys.map V.str).length ≤ sizeLine := by
    rw [List.length_map, len]
    exact Nat.le_trans (Nat.le_of_lt hn) (by decide)
  have J : Inv X pins σ (upd H p (.lst (ys.map V.str))) { s with heap := s'.heap, gens := s'.gens, drawn := s'.drawn, toks := s'.toks } :=
    I.call (ch := []) (Un.laid k hp fr) (I.hok.laid k hp ⟨few, out.toList, c, vals_strs hs, hg⟩) (by rw [g]; exact I.bare) (fun _ z => nomatch z)
  have e : s' = { s with heap := s'.heap, gens := s'.gens, drawn := s'.drawn, toks := s'.toks } := by
    obtain ⟨_, _, _, _, _⟩ := s'
    obtain ⟨_, _, _, _, _⟩ := s
    cases o
    rfl
  rw [e]
  exact ⟨.ref p, _, J, rfl, q ys p so nd mem len fr⟩
end
theorem ef_sortset {K : Frg} {P : Program} {w : World} {ws : List SD} {te : TE} {PA : List PyData → List SD → Prop}
    (h : EW K ws te fun x w1 => ∃ xs : List PySem.Str, x = .list (xs.map .str) ∧ xs.length + 1 < scanBound ∧ ∀ ys : List PySem.Str, sortedS ys = true → ys.Nodup → (∀ k, k ∈ ys ↔ k ∈ xs) → PA (ys.map .str) w1) :
    EF K ws (tCB (rSortT P w) (tCons (tCB (rSetT K P w) (tCons te tNil)) tNil)) PA := fun T B σ I H k Q q => by
  refine h T B σ I H k _ fun v d w1 I1 H1 p1 k1 s1 a1 => ?_
  obtain ⟨xs, rfl, hb, p1⟩ := p1
  obtain ⟨l, us, rfl, hs, ha⟩ := a1.list_inv
  obtain rfl := ha.strs
  refine ⟨l, xs, rfl, .inl (.inl (k1.sub _ _ hs)), hb, fun p n hp hn => ?_⟩
  obtain ⟨k2, n2⟩ := k1.hand (o := SetSO P w p (fun k => decide (k ∈ xs)) n) hp
  refine ⟨p, _, n, rfl, upd_same, fun ys p2 so nd mem len hp2 => ?_⟩
  obtain ⟨k3, n3⟩ := k2.hand (o := .lst (ys.map V.str)) hp2
  have ne : p ≠ p2 := fun z => by
    rw [← z, upd_same] at hp2
    cases hp2
  have n3' : T p2 = none := by
    rw [upd_ne ne.symm] at n3
    exact n3
  refine q p2 _ _ w1 I1 _ (p1 ys so nd fun k => (mem k).trans decide_eq_true_iff) n3' (k3.drop ?_ n3' n2) s1 (DaL.ofStrs ys)
  exact ne
end SS
namespace DL
open PySem PySem.Spec PyProof.Rows L2
def Cst (K : Frg) (mg : Str → Option Value) (x : Str) (d : PyData) : Prop := ∃ u v, mg x = some u ∧ RelV v u ∧ Da K (fun _ => none) v d
def tCst (K : Frg) (d : PyData) : TE := fun σ H Q => ∀ v, Da K (fun _ => none) v d → Q v H
theorem pe_cst {X : Cx} {x : Str} {d : PyData} {p : Pos} (hg : Gl X x) (c : Cst X.K X.mg x d) (hdb : (x == ("__debug__" : Str)) = false := by decide) : PE X (.Name x p) (tCst X.K d) := by
  obtain ⟨u, v, m, r, a⟩ := c
  exact ⟨fun pins s σ H Q I h => (pe_glob hg m r hdb).run pins s σ H Q I (h v a)⟩
theorem ew_cst {K : Frg} {ws : List SD} {d : PyData} {P : PyData → List SD → Prop} (p : P d ws) : EW K ws (tCst K d) P := fun T B σ I H k Q q v a => q _ _ _ _ _ p k (Same.refl I) (a.mono fun _ _ e => by cases e)
def gOne {α : Type} (us ws : List α) : List α := match us, ws with | [], [a] => [a] | _, _ => []
def gSw {α : Type} (us ws : List α) : List α := match us, ws with | [], [a, b] => [b, a] | _, _ => []
def DfK (P : Program) (w : World) (K : Frg) (mg : Str → Option Value) (base : Heap) (k : Nat) (x : Str) (ps ks : List Str) (g : List Value → List Value → List Value) (gV : List V → List V → List V) (sp : Sp) : Prop :=
  ∃ f fd, FnOk P w K mg base CX0 k f fd ps sp ∧ mg x = some (.ref f) ∧ PySem.W.keepIn K (.ref f) = true ∧ KBinds K fd ps ks g gV
section
variable {X : Cx} {k j : Nat} {x : Str} {ps ks : List Str} {sp : Sp} {p pos : Pos} {kws : List Keyword} {tk : TA} {g : List Value → List Value → List Value} {gV : List V → List V → List V}
theorem pe_dfK (G : DfK X.prog X.w X.K X.mg X.base k x ps ks g gV sp) (hr : Room j X.A) (hj : k ≤ j) (hg : Gl X x) (hkw : PK X kws tk)
    (hall : (backToKw pos (keywordEach kws X.env)).all (·.1.isSome) = true := by rfl) (hks : (backToKw pos (keywordEach kws X.env)).filterMap (·.1) = ks := by rfl) (hdb : (x == ("__debug__" : Str)) = false := by decide)
    (hpl : ((backTo pos (starEach [] X.env)).any (·.1) || (backToKw pos (keywordEach kws X.env)).any (·.1.isNone)) = false := by rfl) : PE X (.Call (.Name x p) [] kws pos) (tCallK sp gV E0 tNil tk) := by
  obtain ⟨f, fd, F, m, kp, b⟩ := G
  constructor
  intro pins s σ H Q I h
  apply wpAny_Call_Name_kw
  apply ld_glob I hg m ?_ hdb
  apply PySem.W.callWith_KW0 (h₀ := X.base) I.ok.mod.kin kp hall ?_ hpl
  apply thn (hkw.run pos pins s σ H _ I h)
  rintro ws s2 ⟨zs, H2, I2, rz, q2⟩
  refine ⟨I2.kIn, ?_⟩
  rw [hks]
  exact run_fnk F (hr.mono hj) b pass0 I2 .nil rz q2
end
theorem gSw_rel {vs : List V} {us : List Value} {zs : List V} {ws : List Value} (r : Vals vs us) (q : Vals zs ws) : Vals (gSw vs zs) (gSw us ws) := by
  cases r with
  | cons _ _ => exact .nil
  | nil =>
    cases q with
    | nil => exact .nil
    | cons a q =>
      cases q with
      | nil => exact .nil
      | cons b q =>
        cases q with
        | nil => exact .cons b (.cons a .nil)
        | cons _ _ => exact .nil
theorem gOne_rel {vs : List V} {us : List Value} {zs : List V} {ws : List Value} (r : Vals vs us) (q : Vals zs ws) : Vals (gOne vs zs) (gOne us ws) := by
  cases r with
  | cons _ _ => exact .nil
  | nil =>
    cases q with
    | nil => exact .nil
    | cons a q =>
      cases q with
      | nil => exact .cons a .nil
      | cons _ _ => exact .nil
theorem kb_sw {K : Frg} {fd : FuncData} {a b : Str} (h : ∀ u v : Value, bindArgs fd ⟨[], [(b, u), (a, v)]⟩ = pure [(a, v), (b, u)]) : KBinds K fd [a, b] [b, a] gSw gSw := by
  refine ⟨fun s us ws _ hl => ?_, gSw_rel⟩
  match us, ws, hl with
  | [], [u, v], _ => exact .of_eq (h u v)
theorem kb_one {K : Frg} {fd : FuncData} {a : Str} (h : ∀ u : Value, bindArgs fd ⟨[], [(a, u)]⟩ = pure [(a, u)]) : KBinds K fd [a] [a] gOne gOne := by
  refine ⟨fun s us ws _ hl => ?_, gOne_rel⟩
  match us, ws, hl with
  | [], [u], _ => exact .of_eq (h u)
section
variable {K : Frg} {ws : List SD} {tk : TA} {pre : List PyData → (PyData → Prop) → Prop} {E : XK} {P : PyData → List SD → Prop}
theorem ew_callSw (h : AW K ws tk fun ds w => ∃ x y, ds = [x, y] ∧ ∃ R, pre [y, x] R ∧ ∀ d, R d → P d w) : EW K ws (tCallK (SpP K pre) gSw E tNil tk) P := fun T B σ I H k Q q => by
  refine h T B σ I H k _ fun vs ds w I1 H1 p k1 s1 a1 => ?_
  obtain ⟨x, y, rfl, R, hp, hr⟩ := p
  cases a1 with
  | cons h1 r =>
    cases r with
    | cons h2 r =>
      cases r
      exact ⟨rest I1 H1, I1, I1, _, R, k1.give, .cons h2 (.cons h1 .nil), hp, fun v d I' H' rd k' e a => q v d w I' H' (hr d rd) (k1.take k') (s1.trans e) a⟩
theorem ew_callOne (h : AW K ws tk fun ds w => ∃ x, ds = [x] ∧ ∃ R, pre [x] R ∧ ∀ d, R d → P d w) : EW K ws (tCallK (SpP K pre) gOne E tNil tk) P := fun T B σ I H k Q q => by
  refine h T B σ I H k _ fun vs ds w I1 H1 p k1 s1 a1 => ?_
  obtain ⟨x, rfl, R, hp, hr⟩ := p
  cases a1 with
  | cons h1 r =>
    cases r
    exact ⟨rest I1 H1, I1, I1, _, R, k1.give, .cons h1 .nil, hp, fun v d I' H' rd k' e a => q v d w I' H' (hr d rd) (k1.take k') (s1.trans e) a⟩
end
section
variable {P : Program} {w : World} {K : Frg} {mg : Str → Option Value} {base : Heap} {k : Nat} {f : Addr} {fd : FuncData} {ps : List Str} {x qual : Str} {st : Stmt} {N : List Str}
theorem okP {pre : List PyData → (PyData → Prop) → Prop} (F : Fun K x qual st f fd) (S : FnScope N ps (defScope st)) (many : ∀ ds R, pre ds R → ds.length = ps.length)
    (hb : ∀ (cv : Value) (A : Around) (outer : List Env) (s : Shared) (H : Hp) (Q : VK) (E : XK) (ds : List PyData) (R : PyData → Prop), Room k (A.deeper (envOfC qual (defScope st) s.heap.objs.size f cv)) → pre ds R →
      ∃ t, PSs (cxOf CX0 P w K mg base N qual (defScope st) f cv A outer s H E).nox (defBody st) t ∧
        ∀ T I, (∀ ws d B', R d → Same I B' → RT K T B' ws d Q) → SW K T I (ds.map .dat ++ List.replicate (N.length - ds.length) .un) t { nx := fun _ H' => Q .non H', rt := Q }) : FnOk P w K mg base CX0 (k + 1) f fd ps (SpP K pre) := by
  refine F.ok S (fun vs H Q E h => ?_) (fun cv A outer s H vs Q E hr h => ?_)
  · obtain ⟨T, B, I, ds, R, k, a, p, q⟩ := h
    exact a.length.trans (many ds R p)
  · obtain ⟨T, B, I, ds, R, k, a, p, q⟩ := h
    obtain ⟨t, ht, hq⟩ := hb cv A outer s H Q E ds R hr p
    exact ⟨t, ht, body_P k a (hq T I fun ws d B' hd e => rt_P (pre := True) k q hd e)⟩
theorem okR {pre : Cel → List PyData → Cel → (PyData → Prop) → Prop} (F : Fun K x qual st f fd) (S : FnScope N ps (defScope st)) (many : ∀ c ds c' R, pre c ds c' R → ds.length + 1 = ps.length)
    (fix : ∀ c ds c' R, pre c ds c' R → ∃ v, (∀ F u I H, c.ok F u I H → u = v) ∧ ∀ F u I H, c'.ok F u I H → u = v)
    (hb : ∀ (cv : Value) (A : Around) (outer : List Env) (s : Shared) (H : Hp) (Q : VK) (E : XK) (c c' : Cel) (ds : List PyData) (R : PyData → Prop), Room k (A.deeper (envOfC qual (defScope st) s.heap.objs.size f cv)) → pre c ds c' R →
      ∃ t, PSs (cxOf CX0 P w K mg base N qual (defScope st) f cv A outer s H E).nox (defBody st) t ∧
        ∀ T I, (∀ ws d B', R d → Same I B' → ws[0]? = some (.cel c') → RT K T B' ws d Q) → SW K T I (.cel c :: (ds.map .dat ++ List.replicate (N.length - (ds.length + 1)) .un)) t { nx := fun _ H' => Q .non H', rt := Q }) : FnOk P w K mg base CX0 (k + 1) f fd ps (SpR K pre) := by
  refine F.ok S (fun vs H Q E h => ?_) (fun cv A outer s H vs Q E hr h => ?_)
  · obtain ⟨T, B, I, v0, us, c, c', ds, R, rfl, k, a, p, q⟩ := h
    rw [List.length_cons, a.length]
    exact many c ds c' R p
  · obtain ⟨T, B, I, v0, us, c, c', ds, R, rfl, k, a, p, q⟩ := h
    obtain ⟨v, f1, f2⟩ := fix c ds c' R p
    obtain rfl := k.vfix f1
    obtain ⟨t, ht, hq⟩ := hb cv A outer s H Q E c c' ds R hr p
    exact ⟨t, ht, body_R k a (hq T I fun ws d B' hd e hw => rt_R k q hd f2 hw e)⟩
end
end DL
namespace DL
open PySem PySem.Spec PyProof.Rows L2
def SpF (K : Frg) (pre : List PyData → (List PyData → Prop) → Prop) : Sp := fun vs H Q _ => ∃ T B I ds R, Ok K T B [] [] I H ∧ DaL K I vs ds ∧ pre ds R ∧
  ∀ p xs es I' H', R es → T p = none → Ok K (upd T p (.lst xs)) B [] [] I' H' → Same I I' → DaL K I' xs es → Q (.ref p) H'
def RF (K : Frg) (T B : Hp) (ws : List SD) (ds : List PyData) (N : V → Hp → Prop) : Prop := ∀ σ I H p xs, T p = none → Ok K (upd T p (.lst xs)) B ws σ I H → DaL K I xs ds → N (.ref p) H
section
variable {K : Frg} {T B I I' H H' : Hp} {ws : List SD} {σ : L2.St} {te : TE} {D : Ends}
theorem RF.up {B' : Hp} {N : V → Hp → Prop} {ds : List PyData} (h : RF K T B ws ds N) (e : Same B B') : RF K T B' ws ds N := fun σ I H p xs n k a => h σ I H p xs n (k.less e) a
theorem sw_retE (h : EF K ws te fun ds w => RF K T B w ds D.rt) : SW K T B ws (tRet te) D := fun σ I H k => h T B σ I H k _ fun p xs ds w I1 H1 p1 n1 k1 s1 a1 => p1 σ I1 H1 p xs n1 k1 a1
theorem Ok.handOver {i : Nat} {ds : List PyData} (k : Ok K T B ws σ I H) (h : ws[i]? = some (.mut ds)) : ∃ p xs, σ[i]? = some (some (.ref p)) ∧ T p = none ∧ DaL K I xs ds ∧ Ok K (upd T p (.lst xs)) B (ws.set i .un) σ I H := by
  obtain ⟨ft, k⟩ := k
  obtain ⟨p, xs, h1, h2, h3, h4⟩ := k.sl i _ h
  obtain ⟨hI, hT, hH⟩ := k.own i p h2
  refine ⟨p, xs, ?_, hT, h4, fun j => if i = j then [] else ft j, k.sub, fun b x q => ?_, k.bse, fun b hb => ?_, by rw [List.length_set]; exact k.len, fun a b c ha hb => ?_, fun j a ha => ?_, fun j w hw => ?_⟩
  · cases e : σ[i]? with
    | none => rw [e] at h1; cases h1
    | some x => rw [e] at h1; exact congrArg some h1
  · by_cases z : b = p
    · subst z
      rw [upd_same] at q
      cases q
      exact h3
    · rw [upd_ne z] at q
      exact k.oth b x q
  · by_cases z : b = p
    · subst z
      exact hI
    · rw [upd_ne z] at hb
      exact k.ti b hb
  · have ha : c ∈ if i = a then [] else ft a := ha
    have hb : c ∈ if i = b then [] else ft b := hb
    split at ha
    · cases ha
    · split at hb
      · cases hb
      · exact k.ap a b c ha hb
  · have ha : a ∈ if i = j then [] else ft j := ha
    split at ha
    · cases ha
    · rename_i q
      obtain ⟨e1, e2, e3⟩ := k.own j a ha
      have z : a ≠ p := fun z => q (k.ap i j p h2 (z ▸ ha))
      rw [upd_ne z]
      exact ⟨e1, e2, e3⟩
  · rcases set_get hw with ⟨q, rfl⟩ | ⟨q, hw⟩
    · trivial
    · show Sl K I H (if i = j then [] else ft j) _ w
      rw [if_neg q]
      exact k.sl j w hw
theorem sw_retH {i : Nat} {ds : List PyData} (hi : ws[i]? = some (.mut ds)) (h : RF K T B (ws.set i .un) ds D.rt) : SW K T B ws (tRet (tVar i)) D := fun σ I H k => by
  obtain ⟨p, xs, e, n, a, k'⟩ := k.handOver hi
  exact ⟨_, e, h σ I H p xs n k' a⟩
theorem rf_mk {n : L2.St → Hp → Prop} {a : V → Hp → Prop} {b c : L2.St → Hp → Prop} {ds : List PyData} (h : RF K T B ws ds a) : RF K T B ws ds (Ends.rt (Ends.mk n a b c)) := h
theorem Ok.takeF {p : Addr} {xs : List V} (k : Ok K T B ws σ I H) (n : rest I H p = none) (k' : Ok K (upd (rest I H) p (.lst xs)) I [] [] I' H') : T p = none ∧ Ok K (upd T p (.lst xs)) B ws σ I' H' := by
  obtain ⟨ft, k⟩ := k
  have e := k'.bse
  have hp : (upd (rest I H) p (HO.lst xs)) p = some (.lst xs) := upd_same
  have nI' : I' p = none := k'.ti p (by rw [hp]; simp)
  have nI : I p = none := e.free nI'
  have nH : H p = none := by rw [← rest_eq (H := H) nI]; exact n
  have nT : T p = none := none_of k.oth nH
  have old : ∀ a, I a = none → H a ≠ none → H' a = H a ∧ I' a = none := fun a h1 h3 => by
    have z : rest I H a = H a := rest_eq h1
    have ne : a ≠ p := fun q => h3 (by rw [q]; exact nH)
    refine ⟨?_, k'.ti a (by rw [upd_ne ne, z]; exact h3)⟩
    cases q : H a with
    | none => exact absurd q h3
    | some x => exact k'.oth a x (by rw [upd_ne ne, z, q])
  refine ⟨nT, ft, k'.sub, fun b x q => ?_, fun b x q => e b x (k.bse b x q), fun b hb => ?_, k.len, k.ap, fun i a ha => ?_, fun i w hw => (k.sl i w hw).keep e fun a ha => ?_⟩
  · by_cases z : b = p
    · subst z
      rw [upd_same] at q
      exact k'.oth b x (by rw [upd_same]; exact q)
    · rw [upd_ne z] at q
      have hb : T b ≠ none := by rw [q]; simp
      rw [(old b (k.ti b hb) (by rw [k.oth _ _ q]; simp)).1]
      exact k.oth _ _ q
  · by_cases z : b = p
    · subst z
      exact nI'
    · rw [upd_ne z] at hb
      refine (old b (k.ti b hb) ?_).2
      cases q : T b with
      | none => exact absurd q hb
      | some x => rw [k.oth _ _ q]; simp
  · obtain ⟨h1, h2, h3⟩ := k.own i a ha
    have ne : a ≠ p := fun q => h3 (by rw [q]; exact nH)
    obtain ⟨g1, g2⟩ := old a h1 h3
    exact ⟨g2, by rw [upd_ne ne]; exact h2, by rw [g1]; exact h3⟩
  · obtain ⟨h1, h2, h3⟩ := k.own i a ha
    exact (old a h1 h3).1
theorem ef_callF {pre : List PyData → (List PyData → Prop) → Prop} {E : XK} {ts : TA} {PA : List PyData → List SD → Prop} (h : AW K ws ts fun ds w => ∃ R, pre ds R ∧ ∀ es, R es → PA es w) : EF K ws (tCall (SpF K pre) [] E ts) PA := fun T B σ I H k Q q => by
  refine h T B σ I H k _ fun vs ds w I1 H1 p k1 s1 a1 => ?_
  obtain ⟨R, hp, hr⟩ := p
  rw [List.append_nil]
  refine ⟨rest I1 H1, I1, I1, ds, R, k1.give, a1, hp, fun p xs es I' H' re n k' e a => ?_⟩
  obtain ⟨n2, k2⟩ := k1.takeF n k'
  exact q p xs es w I' H' (hr es re) n2 k2 (s1.trans e) a
theorem ef_callSwF {pre : List PyData → (List PyData → Prop) → Prop} {E : XK} {ts : TA} {PA : List PyData → List SD → Prop} (h : AW K ws ts fun ds w => ∃ x y, ds = [x, y] ∧ ∃ R, pre [y, x] R ∧ ∀ es, R es → PA es w) : EF K ws (tCallK (SpF K pre) gSw E tNil ts) PA := fun T B σ I H k Q q => by
  refine h T B σ I H k _ fun vs ds w I1 H1 p k1 s1 a1 => ?_
  obtain ⟨x, y, rfl, R, hp, hr⟩ := p
  cases a1 with
  | cons h1 r =>
    cases r with
    | cons h2 r =>
      cases r
      refine ⟨rest I1 H1, I1, I1, _, R, k1.give, .cons h2 (.cons h1 .nil), hp, fun p xs es I' H' re n k' e a => ?_⟩
      obtain ⟨n2, k2⟩ := k1.takeF n k'
      exact q p xs es w I' H' (hr es re) n2 k2 (s1.trans e) a
theorem ef_callOneF {pre : List PyData → (List PyData → Prop) → Prop} {E : XK} {ts : TA} {PA : List PyData → List SD → Prop} (h : AW K ws ts fun ds w => ∃ x, ds = [x] ∧ ∃ R, pre [x] R ∧ ∀ es, R es → PA es w) : EF K ws (tCallK (SpF K pre) gOne E tNil ts) PA := fun T B σ I H k Q q => by
  refine h T B σ I H k _ fun vs ds w I1 H1 p k1 s1 a1 => ?_
  obtain ⟨x, rfl, R, hp, hr⟩ := p
  cases a1 with
  | cons h1 r =>
    cases r
    refine ⟨rest I1 H1, I1, I1, _, R, k1.give, .cons h1 .nil, hp, fun p xs es I' H' re n k' e a => ?_⟩
    obtain ⟨n2, k2⟩ := k1.takeF n k'
    exact q p xs es w I' H' (hr es re) n2 k2 (s1.trans e) a
end
section
variable {P : Program} {w : World} {K : Frg} {mg : Str → Option Value} {base : Heap} {k : Nat} {f : Addr} {fd : FuncData} {ps : List Str} {x qual : Str} {st : Stmt} {N : List Str}
theorem okF {pre : List PyData → (List PyData → Prop) → Prop} (F : Fun K x qual st f fd) (S : FnScope N ps (defScope st)) (many : ∀ ds R, pre ds R → ds.length = ps.length)
    (hb : ∀ (cv : Value) (A : Around) (outer : List Env) (s : Shared) (H : Hp) (Q : VK) (E : XK) (ds : List PyData) (R : List PyData → Prop), Room k (A.deeper (envOfC qual (defScope st) s.heap.objs.size f cv)) → pre ds R →
      ∃ t, PSs (cxOf CX0 P w K mg base N qual (defScope st) f cv A outer s H E).nox (defBody st) t ∧
        ∀ T I, (∀ ws es B', R es → Same I B' → RF K T B' ws es Q) → SW K T I (ds.map .dat ++ List.replicate (N.length - ds.length) .un) t { nx := fun _ H' => Q .non H', rt := Q }) : FnOk P w K mg base CX0 (k + 1) f fd ps (SpF K pre) := by
  refine F.ok S (fun vs H Q E h => ?_) (fun cv A outer s H vs Q E hr h => ?_)
  · obtain ⟨T, B, I, ds, R, k, a, p, q⟩ := h
    exact a.length.trans (many ds R p)
  · obtain ⟨T, B, I, ds, R, k, a, p, q⟩ := h
    obtain ⟨t, ht, hq⟩ := hb cv A outer s H Q E ds R hr p
    refine ⟨t, ht, body_P k a (hq T I fun ws es B' re e σ I' H' p xs n k' a' => q p xs es I' H' re n ?_ (e.trans k'.bse) a')⟩
    exact k'.bare.less (k.bse.trans e)
end
def twoC (K : Frg) (d1 d2 : List PyData) : Cel := ⟨fun F v I H => ∃ p p1 p2 x1 x2, v = .ref p ∧ F = [p, p1, p2] ∧ p ≠ p1 ∧ p ≠ p2 ∧ p1 ≠ p2 ∧ H p = some (.lst [.ref p1, .ref p2]) ∧ H p1 = some (.lst x1) ∧ H p2 = some (.lst x2) ∧ DaL K I x1 d1 ∧ DaL K I x2 d2,
  fun F v I I' H H' s e ⟨p, p1, p2, x1, x2, h1, h2, n1, n2, n3, h3, h4, h5, h6, h7⟩ => ⟨p, p1, p2, x1, x2, h1, h2, n1, n2, n3, by rw [e p (by rw [h2]; simp)]; exact h3, by rw [e p1 (by rw [h2]; simp)]; exact h4, by rw [e p2 (by rw [h2]; simp)]; exact h5, h6.mono s, h7.mono s⟩⟩
section
variable {K : Frg} {T B I I' H H' : Hp} {ws : List SD} {σ : L2.St} {ta tb te : TE} {D : Ends}
theorem Ok.keepC {T' : Hp} {c : Cel} {v : V} {F : List Addr} {i : Nat} (k : Ok K T' B ws σ I H) (h1 : ∀ b x, T b = some x → T' b = some x) (h2 : ∀ a ∈ F, T a = none ∧ T' a ≠ none) (hc : c.ok F v I H) : Ok K T B (ws.set i (.cel c)) (σ.set i (some v)) I H := by
  obtain ⟨ft, k⟩ := k
  have out : ∀ j a, a ∈ ft j → a ∉ F := fun j a ha hF => (h2 a hF).2 (k.own j a ha).2.1
  refine ⟨fun j => if i = j then F else ft j, k.sub, fun b x q => k.oth b x (h1 b x q), k.bse, fun b hb => k.ti b ?_, by rw [List.length_set, List.length_set]; exact k.len, fun a b c ha hb => ?_, fun j a ha => ?_, fun j w hw => ?_⟩
  · cases q : T b with
    | none => exact absurd q hb
    | some x => rw [h1 b x q]; simp
  · have ha : c ∈ if i = a then F else ft a := ha
    have hb : c ∈ if i = b then F else ft b := hb
    split at ha
    · split at hb
      · rename_i z1 z2
        exact z1.symm.trans z2
      · exact absurd ha (out b c hb)
    · split at hb
      · exact absurd hb (out a c ha)
      · exact k.ap a b c ha hb
  · have ha : a ∈ if i = j then F else ft j := ha
    split at ha
    · obtain ⟨e1, e2⟩ := h2 a ha
      refine ⟨k.ti a e2, e1, ?_⟩
      cases q : T' a with
      | none => exact absurd q e2
      | some x => rw [k.oth a x q]; simp
    · obtain ⟨e1, e2, e3⟩ := k.own j a ha
      refine ⟨e1, ?_, e3⟩
      cases q : T a with
      | none => rfl
      | some x =>
        rw [h1 a x q] at e2
        cases e2
  · rcases set_get hw with ⟨q, rfl⟩ | ⟨q, hw⟩
    · subst q
      have hi : i < ws.length := by
        have := (List.getElem?_eq_some_iff.mp hw).1
        rw [List.length_set] at this
        exact this
      refine ⟨v, ?_, ?_⟩
      · rw [join_set (by rw [k.len]; exact hi), if_pos rfl]
      · show c.ok (if i = i then F else ft i) v I H
        rw [if_pos rfl]
        exact hc
    · show Sl K I H (if i = j then F else ft j) _ w
      rw [if_neg q]
      have e : ((σ.set i (some v))[j]?).join = (σ[j]?).join := by rw [List.getElem?_set, if_neg q]
      rw [e]
      exact k.sl j w hw
theorem sw_two {i : Nat} (h : EF K ws ta fun d1 w1 => EF K w1 tb fun d2 w2 => NX K T B (w2.set i (.cel (twoC K d1 d2))) D.nx) : SW K T B ws (tAsg (tLst (tCons ta (tCons tb tNil))) (gName i)) D := fun σ I H k => by
  refine h T B σ I H k _ fun p1 x1 d1 w1 I1 H1 q1 n1 k1 s1 a1 => ?_
  refine q1 _ B σ I1 H1 k1 _ fun p2 x2 d2 w2 I2 H2 q2 n2 k2 s2 a2 => ?_
  refine ⟨by show 2 ≤ sizeLine; decide, fun p hp => ?_⟩
  obtain ⟨k3, n3⟩ := k2.hand (o := .lst [.ref p1, .ref p2]) hp
  have ne12 : p1 ≠ p2 := fun z => by
    rw [← z, upd_same] at n2
    cases n2
  have ne3 : p ≠ p2 := fun z => by
    rw [z, upd_same] at n3
    cases n3
  have n3b := n3
  rw [upd_ne ne3] at n3b
  have ne1 : p ≠ p1 := fun z => by
    rw [z, upd_same] at n3b
    cases n3b
  rw [upd_ne ne1] at n3b
  have n2b := n2
  rw [upd_ne ne12.symm] at n2b
  have g : ∀ b x, (upd (upd (upd T p1 (.lst x1)) p2 (.lst x2)) p (.lst [.ref p1, .ref p2])) b = some x → (upd H2 p (.lst [.ref p1, .ref p2])) b = some x := fun b x e => k3.oth b x e
  refine q2 _ _ _ (k3.keepC (T := T) (F := [p, p1, p2]) (v := .ref p) (fun b x q => ?_) (fun a ha => ?_) ⟨p, p1, p2, x1, x2, rfl, rfl, ne1, ne3, ne12, upd_same, ?_, ?_, a1.mono s2, a2⟩)
  · rw [upd_ne (ne_of_none q n3b), upd_ne (ne_of_none q n2b), upd_ne (ne_of_none q n1)]
    exact q
  · rcases List.mem_cons.mp ha with z | ha
    · subst z
      exact ⟨n3b, by rw [upd_same]; simp⟩
    · rcases List.mem_cons.mp ha with z | ha
      · subst z
        exact ⟨n1, by rw [upd_ne ne1.symm, upd_ne ne12, upd_same]; simp⟩
      · obtain z := List.mem_singleton.mp ha
        subst z
        exact ⟨n2b, by rw [upd_ne ne3.symm, upd_same]; simp⟩
  · exact g _ _ (by rw [upd_ne ne1.symm, upd_ne ne12, upd_same])
  · exact g _ _ (by rw [upd_ne ne3.symm, upd_same])
theorem Ok.twoAt {i : Nat} {d1 d2 : List PyData} (k : Ok K T B ws σ I H) (h : ws[i]? = some (.cel (twoC K d1 d2))) : ∃ p p1 p2 x1 x2, σ[i]? = some (some (.ref p)) ∧ p ≠ p1 ∧ p ≠ p2 ∧ p1 ≠ p2 ∧ H p = some (.lst [.ref p1, .ref p2]) ∧ H p1 = some (.lst x1) ∧ H p2 = some (.lst x2) ∧ DaL K I x1 d1 ∧ DaL K I x2 d2 ∧
    ∀ y1 y2, Ok K T B (ws.set i .un) σ I (upd (upd H p1 (.lst y1)) p2 (.lst y2)) := by
  obtain ⟨ft, k⟩ := k
  obtain ⟨v, h1, p, p1, p2, x1, x2, rfl, hF, n1, n2, n3, e0, e1, e2, a1, a2⟩ := k.sl i _ h
  have o1 := k.own i p1 (by rw [hF]; simp)
  have o2 := k.own i p2 (by rw [hF]; simp)
  have safe : ∀ (G : Hp) (b : Addr) (x : HO), G b = some x → G p1 = none → G p2 = none → b ≠ p1 ∧ b ≠ p2 := fun G b x e z1 z2 => ⟨ne_of_none e z1, ne_of_none e z2⟩
  refine ⟨p, p1, p2, x1, x2, ?_, n1, n2, n3, e0, e1, e2, a1, a2, fun y1 y2 => ⟨fun j => if i = j then [] else ft j, fun b x q => ?_, fun b x q => ?_, k.bse, k.ti, by rw [List.length_set]; exact k.len, fun a b c ha hb => ?_, fun j a ha => ?_, fun j w hw => ?_⟩⟩
  · cases e : σ[i]? with
    | none => rw [e] at h1; cases h1
    | some x => rw [e] at h1; exact congrArg some h1
  · obtain ⟨z1, z2⟩ := safe I b x q o1.1 o2.1
    rw [upd_ne z2, upd_ne z1]
    exact k.sub _ _ q
  · obtain ⟨z1, z2⟩ := safe T b x q o1.2.1 o2.2.1
    rw [upd_ne z2, upd_ne z1]
    exact k.oth _ _ q
  · have ha : c ∈ if i = a then [] else ft a := ha
    have hb : c ∈ if i = b then [] else ft b := hb
    split at ha
    · cases ha
    · split at hb
      · cases hb
      · exact k.ap a b c ha hb
  · have ha : a ∈ if i = j then [] else ft j := ha
    split at ha
    · cases ha
    · rename_i q
      obtain ⟨f1, f2, f3⟩ := k.own j a ha
      have z1 : a ≠ p1 := fun z => q (k.ap i j p1 (by rw [hF]; simp) (z ▸ ha))
      have z2 : a ≠ p2 := fun z => q (k.ap i j p2 (by rw [hF]; simp) (z ▸ ha))
      exact ⟨f1, f2, by rw [upd_ne z2, upd_ne z1]; exact f3⟩
  · rcases set_get hw with ⟨q, rfl⟩ | ⟨q, hw⟩
    · trivial
    · show Sl K I _ (if i = j then [] else ft j) _ w
      rw [if_neg q]
      refine (k.sl j w hw).keep (Same.refl I) fun a ha => ?_
      have z1 : a ≠ p1 := fun z => q (k.ap i j p1 (by rw [hF]; simp) (z ▸ ha))
      have z2 : a ≠ p2 := fun z => q (k.ap i j p2 (by rw [hF]; simp) (z ▸ ha))
      rw [upd_ne z2, upd_ne z1]
theorem ew_repr2 {i : Nat} {d1 d2 : List PyData} {P : PyData → List SD → Prop} (hi : ws[i]? = some (.cel (twoC K d1 d2))) (h1 : PyData.showable (.list [.list d1, .list d2]) = true) (h2 : PyData.depth (.list [.list d1, .list d2]) ≤ 60) (h3 : (PyData.shown (.list [.list d1, .list d2])).length ≤ sizeLine) (h4 : PyData.hasDict (.list [.list d1, .list d2]) = false)
    (p : P (.str (PyData.shown (.list [.list d1, .list d2]))) ws) : EW K ws (tCB (fun xs H Q => ∃ v d, xs = [v] ∧ Dp K H v d ∧ d.showable = true ∧ d.depth ≤ 60 ∧ d.shown.length ≤ sizeLine ∧ d.hasDict = false ∧ Q (.str d.shown) H) (tCons (tVar i) tNil)) P := fun T B σ I H k Q q => by
  obtain ⟨a, p1, p2, x1, x2, e, _, _, _, e0, e1, e2, a1, a2, _⟩ := k.twoAt hi
  refine ⟨_, e, _, _, rfl, .lst (.inl (.inl e0)) (.cons (.lst (.inl (.inl e1)) (a1.mono k.sub).dp) (.cons (.lst (.inl (.inl e2)) (a2.mono k.sub).dp) .nil)), h1, h2, h3, h4, q _ _ _ _ _ p k (Same.refl I) (.str _)⟩
end
end DL
namespace MM
open PySem PySem.Spec PyProof.Rows L2 DL
abbrev S := PySem.Str
inductive Cm where
  | head (n : Int) | tail (n : Int) | skip (n : Int) | chop (n : Int) | rev | uniq | sort
  deriving DecidableEq
def Cm.d : Cm → PyData
  | .head n => .tuple [.str "head", .int n]
  | .tail n => .tuple [.str "tail", .int n]
  | .skip n => .tuple [.str "skip", .int n]
  | .chop n => .tuple [.str "chop", .int n]
  | .rev => .tuple [.str "reverse"]
  | .uniq => .tuple [.str "uniq"]
  | .sort => .tuple [.str "sort"]
def Cm.num : Cm → Int
  | .head n | .tail n | .skip n | .chop n => n
  | _ => 0
def Cm.ok (c : Cm) : Prop := 0 ≤ c.num
def planD (cs : List Cm) : PyData := .list (cs.map Cm.d)
def linesD (xs : List S) : PyData := .list (xs.map .str)
def stU (acc : List S) (x : S) : List S := if acc.getLast? = some x then acc else acc ++ [x]
def uq (xs : List S) : List S := xs.foldl stU []
theorem stU_last (acc : List S) (x : S) : (stU acc x).getLast? = some x := by
  unfold stU
  split
  · assumption
  · simp
theorem uq_snoc (xs : List S) (x : S) : uq (xs ++ [x]) = stU (uq xs) x := by
  unfold uq
  rw [List.foldl_append]
  rfl
theorem snoc_ind {α : Type} {P : List α → Prop} (h0 : P []) (h1 : ∀ xs x, P xs → P (xs ++ [x])) (xs : List α) : P xs := by
  have h : ∀ ys : List α, P ys.reverse := fun ys => by
    induction ys with
    | nil => exact h0
    | cons y ys ih =>
      rw [List.reverse_cons]
      exact h1 _ _ ih
  have := h xs.reverse
  rwa [List.reverse_reverse] at this
theorem uq_last (xs : List S) : (uq xs).getLast? = xs.getLast? := by
  refine snoc_ind (P := fun xs => (uq xs).getLast? = xs.getLast?) rfl (fun xs x _ => ?_) xs
  rw [uq_snoc, stU_last]
  simp
theorem uq_len (xs : List S) : (uq xs).length ≤ xs.length := by
  refine snoc_ind (P := fun xs => (uq xs).length ≤ xs.length) (Nat.le_refl _) (fun xs x ih => ?_) xs
  rw [uq_snoc]
  unfold stU
  split
  · simp; omega
  · simp; omega
theorem uq_mem (xs : List S) : ∀ x, x ∈ uq xs ↔ x ∈ xs := by
  refine snoc_ind (P := fun xs => ∀ x, x ∈ uq xs ↔ x ∈ xs) (fun x => Iff.rfl) (fun xs y ih x => ?_) xs
  rw [uq_snoc]
  unfold stU
  split
  · rename_i h
    have hy : y ∈ uq xs := List.mem_of_getLast? h
    simp only [List.mem_append, List.mem_singleton]
    constructor
    · intro z; exact .inl ((ih x).1 z)
    · rintro (z | rfl)
      · exact (ih x).2 z
      · exact hy
  · simp [ih]
def lt (a b : S) : Prop := a.cps.toList < b.cps.toList
theorem cps_inj {a b : S} (h : a.cps.toList = b.cps.toList) : a = b := by
  obtain ⟨x⟩ := a
  obtain ⟨y⟩ := b
  exact congrArg PySem.Str.mk (Array.toList_inj.mp h)
theorem lt_trans {a b c : S} (h1 : lt a b) (h2 : lt b c) : lt a c := List.lt_trans h1 h2
theorem lt_irr (a : S) : ¬ lt a a := List.lt_irrefl _
theorem lt_tri (a b : S) : lt a b ∨ a = b ∨ lt b a := by
  by_cases h1 : lt a b
  · exact .inl h1
  · by_cases h2 : lt b a
    · exact .inr (.inr h2)
    · exact .inr (.inl (cps_inj (List.le_antisymm (List.not_lt.mp h2) (List.not_lt.mp h1))))
instance (a b : S) : Decidable (lt a b) := inferInstanceAs (Decidable (_ < _))
def Up (xs : List S) : Prop := xs.Pairwise lt
theorem rising_pw : ∀ (p : S) (xs : List S), risingS p xs = true → xs.Nodup → p ∉ xs → Up xs ∧ ∀ x ∈ xs, lt p x
  | _, [], _, _, _ => ⟨.nil, fun _ h => by cases h⟩
  | p, x :: r, h, nd, np => by
    have h : (!ltCps x.cps.toList p.cps.toList && risingS x r) = true := h
    rw [Bool.and_eq_true] at h
    obtain ⟨h1, h2⟩ := h
    obtain ⟨n1, n2⟩ := List.nodup_cons.mp nd
    obtain ⟨u, hx⟩ := rising_pw x r h2 n2 n1
    have px : lt p x := by
      rcases lt_tri p x with z | z | z
      · exact z
      · exact absurd (z ▸ List.mem_cons_self) np
      · have z : x.cps.toList < p.cps.toList := z
        rw [ltCps_eq, decide_eq_true z] at h1
        cases h1
    exact ⟨List.pairwise_cons.mpr ⟨hx, u⟩, fun y hy => by
      rcases List.mem_cons.mp hy with z | z
      · rw [z]; exact px
      · exact lt_trans px (hx y z)⟩
theorem sorted_up {xs : List S} (h : sortedS xs = true) (nd : xs.Nodup) : Up xs := by
  cases xs with
  | nil => exact .nil
  | cons x r =>
    obtain ⟨n1, n2⟩ := List.nodup_cons.mp nd
    obtain ⟨u, hx⟩ := rising_pw x r h n2 n1
    exact List.pairwise_cons.mpr ⟨hx, u⟩
theorem up_eq : ∀ {xs ys : List S}, Up xs → Up ys → (∀ k, k ∈ xs ↔ k ∈ ys) → xs = ys
  | [], [], _, _, _ => rfl
  | [], y :: ys, _, _, h => absurd ((h y).2 List.mem_cons_self) (by simp)
  | x :: xs, [], _, _, h => absurd ((h x).1 List.mem_cons_self) (by simp)
  | x :: xs, y :: ys, u, v, h => by
    obtain ⟨u1, u2⟩ := List.pairwise_cons.mp u
    obtain ⟨v1, v2⟩ := List.pairwise_cons.mp v
    have e : x = y := by
      rcases List.mem_cons.mp ((h x).1 List.mem_cons_self) with z | z
      · exact z
      · rcases List.mem_cons.mp ((h y).2 List.mem_cons_self) with w | w
        · exact w.symm
        · exact absurd (lt_trans (u1 y w) (v1 x z)) (lt_irr x)
    subst e
    refine congrArg (x :: ·) (up_eq u2 v2 fun k => ⟨fun hk => ?_, fun hk => ?_⟩)
    · rcases List.mem_cons.mp ((h k).1 (List.mem_cons_of_mem _ hk)) with z | z
      · exact absurd (z ▸ u1 k hk) (lt_irr _)
      · exact z
    · rcases List.mem_cons.mp ((h k).2 (List.mem_cons_of_mem _ hk)) with z | z
      · exact absurd (z ▸ v1 k hk) (lt_irr _)
      · exact z
def ins (x : S) : List S → List S
  | [] => [x]
  | y :: r => if lt x y then x :: y :: r else if x = y then y :: r else y :: ins x r
def srt : List S → List S
  | [] => []
  | x :: r => ins x (srt r)
theorem ins_mem (x : S) : ∀ (r : List S) (k : S), k ∈ ins x r ↔ k = x ∨ k ∈ r
  | [], k => by simp [ins]
  | y :: r, k => by
    unfold ins
    split
    · simp
    · split
      · rename_i e
        subst e
        simp
      · simp only [List.mem_cons, ins_mem x r k]
        constructor
        · rintro (h | h | h) <;> simp [h]
        · rintro (h | h | h) <;> simp [h]
theorem ins_up (x : S) : ∀ (r : List S), Up r → Up (ins x r)
  | [], _ => by simp [ins, Up]
  | y :: r, u => by
    obtain ⟨u1, u2⟩ := List.pairwise_cons.mp u
    unfold ins
    split
    · rename_i h
      exact List.pairwise_cons.mpr ⟨fun z hz => by
        rcases List.mem_cons.mp hz with e | e
        · rw [e]; exact h
        · exact lt_trans h (u1 z e), u⟩
    · split
      · exact u
      · rename_i h1 h2
        refine List.pairwise_cons.mpr ⟨fun z hz => ?_, ins_up x r u2⟩
        rcases (ins_mem x r z).1 hz with e | e
        · subst e
          rcases lt_tri z y with w | w | w
          · exact absurd w h1
          · exact absurd w h2
          · exact w
        · exact u1 z e
theorem srt_mem : ∀ (xs : List S) (k : S), k ∈ srt xs ↔ k ∈ xs
  | [], _ => Iff.rfl
  | x :: r, k => by
    unfold srt
    rw [ins_mem, srt_mem r k, List.mem_cons]
theorem srt_up : ∀ (xs : List S), Up (srt xs)
  | [] => .nil
  | x :: r => ins_up x _ (srt_up r)
theorem srt_of {xs ys : List S} (h : sortedS ys = true) (nd : ys.Nodup) (m : ∀ k, k ∈ ys ↔ k ∈ xs) : ys = srt xs := up_eq (sorted_up h nd) (srt_up xs) fun k => (m k).trans (srt_mem xs k).symm
theorem srt_congr {xs ys : List S} (m : ∀ k, k ∈ xs ↔ k ∈ ys) : srt xs = srt ys := up_eq (srt_up xs) (srt_up ys) fun k => (srt_mem xs k).trans ((m k).trans (srt_mem ys k).symm)
theorem up_nodup {xs : List S} (u : Up xs) : xs.Nodup := by
  refine List.Pairwise.imp (R := lt) (S := (· ≠ ·)) ?_ u
  intro a b h e
  rw [e] at h
  exact lt_irr b h
theorem nodup_len : ∀ {xs ys : List S}, xs.Nodup → (∀ k ∈ xs, k ∈ ys) → xs.length ≤ ys.length
  | [], _, _, _ => Nat.zero_le _
  | x :: xs, ys, nd, h => by
    obtain ⟨n1, n2⟩ := List.nodup_cons.mp nd
    have hx : x ∈ ys := h x List.mem_cons_self
    have := nodup_len (xs := xs) (ys := ys.erase x) n2 fun k hk => by
      have ne : k ≠ x := fun e => n1 (e ▸ hk)
      exact (List.mem_erase_of_ne ne).2 (h k (List.mem_cons_of_mem _ hk))
    rw [List.length_erase_of_mem hx] at this
    have : 0 < ys.length := List.length_pos_of_mem hx
    simp only [List.length_cons]
    omega
theorem srt_len (xs : List S) : (srt xs).length ≤ xs.length := nodup_len (up_nodup (srt_up xs)) fun k hk => (srt_mem xs k).1 hk
def cut {α : Type} (xs : List α) (lo hi : Int) : List α := (xs.take hi.toNat).drop lo.toNat
def Cm.app (c : Cm) (xs : List S) : List S := match c with
  | .head n => xs.take n.toNat
  | .tail n => xs.drop (xs.length - n.toNat)
  | .skip n => xs.drop n.toNat
  | .chop n => xs.take (xs.length - n.toNat)
  | .rev => xs.reverse
  | .uniq => uq xs
  | .sort => srt xs
def runP (cs : List Cm) (xs : List S) : List S := cs.foldl (fun xs c => c.app xs) xs
theorem runP_snoc (cs : List Cm) (c : Cm) (xs : List S) : runP (cs ++ [c]) xs = c.app (runP cs xs) := by
  unfold runP
  rw [List.foldl_append]
  rfl
theorem runP_append (cs ds : List Cm) (xs : List S) : runP (cs ++ ds) xs = runP ds (runP cs xs) := by
  unfold runP
  rw [List.foldl_append]
theorem app_len (c : Cm) (xs : List S) : (c.app xs).length ≤ xs.length := by
  cases c
  · simp only [Cm.app, List.length_take]; omega
  · simp only [Cm.app, List.length_drop]; omega
  · simp only [Cm.app, List.length_drop]; omega
  · simp only [Cm.app, List.length_take]; omega
  · simp only [Cm.app, List.length_reverse]; omega
  · exact uq_len xs
  · exact srt_len xs
theorem app_mem (c : Cm) (xs : List S) : ∀ x ∈ c.app xs, x ∈ xs := by
  intro x h
  cases c
  · exact List.mem_of_mem_take h
  · exact List.mem_of_mem_drop h
  · exact List.mem_of_mem_drop h
  · exact List.mem_of_mem_take h
  · exact List.mem_reverse.mp h
  · exact (uq_mem xs x).1 h
  · exact (srt_mem xs x).1 h
theorem run_len (cs : List Cm) (xs : List S) : (runP cs xs).length ≤ xs.length := by
  refine snoc_ind (P := fun cs => (runP cs xs).length ≤ xs.length) (Nat.le_refl _) (fun cs c ih => ?_) cs
  rw [runP_snoc]
  exact Nat.le_trans (app_len c _) ih
theorem run_mem (cs : List Cm) (xs : List S) : ∀ x ∈ runP cs xs, x ∈ xs := by
  refine snoc_ind (P := fun cs => ∀ x ∈ runP cs xs, x ∈ xs) (fun _ h => h) (fun cs c ih => ?_) cs
  rw [runP_snoc]
  exact fun x h => ih x (app_mem c _ x h)
def Cm.rng (c : Cm) (len : Int) : Int × Int := match c with
  | .head n => (0, if len < n then len else n)
  | .tail n => (len - (if len < n then len else n), len)
  | .skip n => ((if len < n then len else n), len)
  | .chop n => (0, len - (if len < n then len else n))
  | _ => (0, len)
def Cm.slc : Cm → Prop
  | .head _ | .tail _ | .skip _ | .chop _ => True
  | _ => False
abbrev Rn := S × Int
def runD (r : Rn) : PyData := .tuple [.str r.1, .int r.2]
def runsD (rs : List Rn) : PyData := .list (rs.map runD)
def stP (acc : List Rn) (r : Rn) : List Rn := match acc.getLast? with
  | some l => if l.1 = r.1 then acc.dropLast ++ [(r.1, l.2 + r.2)] else acc ++ [r]
  | none => acc ++ [r]
def pack (rs : List Rn) : List Rn := rs.foldl stP []
theorem pack_snoc (rs : List Rn) (r : Rn) : pack (rs ++ [r]) = stP (pack rs) r := by
  unfold pack
  rw [List.foldl_append]
  rfl
theorem snoc_of {α : Type} {xs : List α} {x : α} (h : xs.getLast? = some x) : xs = xs.dropLast ++ [x] := by
  have ne : xs ≠ [] := fun e => by
    rw [e] at h
    cases h
  rw [List.getLast?_eq_some_getLast ne] at h
  cases h
  exact (List.dropLast_concat_getLast ne).symm
theorem stP_len (acc : List Rn) (r : Rn) : (stP acc r).length ≤ acc.length + 1 := by
  unfold stP
  split
  · split
    · simp only [List.length_append, List.length_dropLast, List.length_singleton]; omega
    · simp
  · simp
theorem pack_len (rs : List Rn) : (pack rs).length ≤ rs.length := by
  refine snoc_ind (P := fun rs => (pack rs).length ≤ rs.length) (Nat.le_refl _) (fun rs r ih => ?_) rs
  rw [pack_snoc, List.length_append, List.length_singleton]
  exact Nat.le_trans (stP_len _ _) (by omega)
theorem stP_fst (acc : List Rn) (r : Rn) : (stP acc r).map (·.1) = stU (acc.map (·.1)) r.1 := by
  unfold stP stU
  rw [List.getLast?_map]
  cases h : acc.getLast? with
  | none => simp
  | some l =>
    simp only [Option.map_some, Option.some.injEq]
    have e := snoc_of h
    by_cases q : l.1 = r.1
    · rw [if_pos q, if_pos q]
      have e2 := congrArg (List.map (·.1)) e
      rw [List.map_append, List.map_singleton] at e2
      rw [List.map_append, List.map_singleton, e2, q]
    · rw [if_neg q, if_neg q, List.map_append, List.map_singleton]
theorem pack_fst (rs : List Rn) : (pack rs).map (·.1) = uq (rs.map (·.1)) := by
  refine snoc_ind (P := fun rs => (pack rs).map (·.1) = uq (rs.map (·.1))) rfl (fun rs r ih => ?_) rs
  rw [pack_snoc, stP_fst, ih, List.map_append, List.map_singleton, uq_snoc]
theorem atI_last {α : Type} (xs : List α) (x : α) : atI (xs ++ [x]) (-1) = some x := by
  unfold atI ixN
  rw [if_neg (by decide), List.length_append, List.length_singleton, if_pos (by omega)]
  have e : (-1 + ((xs.length + 1 : Nat) : Int)).toNat = xs.length := by omega
  show (xs ++ [x])[(-1 + ((xs.length + 1 : Nat) : Int)).toNat]? = some x
  rw [e]
  simp
theorem ixN_last {n : Nat} : ixN (n + 1) (-1) = some n := by
  unfold ixN
  rw [if_neg (by decide), if_pos (by omega)]
  have e : (-1 + ((n + 1 : Nat) : Int)).toNat = n := by omega
  rw [e]
theorem atI_nat' {α : Type} (xs : List α) (i : Nat) : atI xs (i : Int) = xs[i]? := by
  unfold atI ixN
  rw [if_pos (by omega)]
  by_cases h : i < xs.length
  · rw [if_pos (by omega)]
    show xs[((i : Nat) : Int).toNat]? = xs[i]?
    rfl
  · rw [if_neg (by omega), List.getElem?_eq_none (by omega)]
    rfl
structure Nice (n : Nat) (d : PyData) : Prop where
  lay : d.canLay0 = true
  sho : d.showable = true
  dep : d.depth ≤ 60
  wei : d.weight ≤ n
theorem Nice.le {n m : Nat} {d : PyData} (h : Nice n d) (l : n ≤ m) : Nice m d := ⟨h.lay, h.sho, h.dep, Nat.le_trans h.wei l⟩
theorem Nice.shaped {n : Nat} {d : PyData} (h : Nice n d) : SeqAt.shaped d = true := by
  unfold SeqAt.shaped
  rw [h.lay, decide_eq_true (Nat.le_trans h.dep (by decide))]
  rfl
theorem Nice.hd {n : Nat} {d : PyData} (h : Nice n d) : d.hasDict = false := PyData.hasDict_of_canLay d h.lay
mutual
theorem short_of : ∀ d : PyData, d.canLay0 = true → d.showable = true → d.leavesShort 1921 = true
  | .none, _, _ => by simp [PyData.leavesShort]
  | .bool _, _, _ => by simp [PyData.leavesShort]
  | .int i, _, h => by
    have h : i.natAbs.log2 < 1920 := by simpa [PyData.showable] using h
    have := int_text_len_1921 h
    simp only [PyData.leavesShort, PyData.shown]
    exact decide_eq_true this
  | .str x, h, _ => by
    have h : PyData.strOk x = true := by simpa [PyData.canLay0] using h
    simp only [PyData.leavesShort, List.all_eq_true, decide_eq_true_eq]
    intro c hc
    unfold PyData.strOk at h
    rw [← Array.all_toList, List.all_eq_true] at h
    have := of_decide_eq_true (h c hc)
    exact Nat.lt_trans this (by decide)
  | .list xs, h, g => by
    simp only [PyData.leavesShort]
    exact short_all xs (by simpa [PyData.canLay0] using h) (by simpa [PyData.showable] using g)
  | .tuple xs, h, g => by
    simp only [PyData.leavesShort]
    exact short_all xs (by simpa [PyData.canLay0] using h) (by simpa [PyData.showable] using g)
  | .dict _, h, _ => by simp [PyData.canLay0] at h
theorem short_all : ∀ xs : List PyData, PyData.canLayAll0 xs = true → PyData.showableAll xs = true → PyData.leavesShortAll 1921 xs = true
  | [], _, _ => by simp [PyData.leavesShortAll]
  | x :: xs, h, g => by
    simp only [PyData.canLayAll0, Bool.and_eq_true] at h
    simp only [PyData.showableAll, Bool.and_eq_true] at g
    simp only [PyData.leavesShortAll, Bool.and_eq_true]
    exact ⟨short_of x h.1 g.1, short_all xs h.2 g.2⟩
end
theorem Nice.fits {n : Nat} {d : PyData} (h : Nice n d) (l : n ≤ 8000) : d.shown.length ≤ sizeLine := by
  have := PyData.shown_le 1921 (by decide) d (short_of d h.lay h.sho)
  have w := h.wei
  have e : sizeLine = 16777216 := by decide
  rw [e]
  have : (1921 + 2) * d.weight ≤ 1923 * 8000 := Nat.mul_le_mul_left _ (by omega)
  omega
theorem nice_all : ∀ {xs : List PyData} {n : Nat} {k : Nat}, (∀ x ∈ xs, Nice n x ∧ x.depth ≤ k) → PyData.canLayAll0 xs = true ∧ PyData.showableAll xs = true ∧ PyData.depthAll xs ≤ k ∧ PyData.weightAll xs ≤ (n + 1) * xs.length
  | [], n, k, _ => by simp [PyData.canLayAll0, PyData.showableAll, PyData.depthAll, PyData.weightAll]
  | x :: xs, n, k, h => by
    obtain ⟨h1, h0⟩ := h x List.mem_cons_self
    obtain ⟨a, b, c, d⟩ := nice_all (xs := xs) (n := n) (k := k) fun y hy => h y (List.mem_cons_of_mem _ hy)
    have w := h1.wei
    simp only [PyData.canLayAll0, PyData.showableAll, PyData.depthAll, PyData.weightAll, Bool.and_eq_true, List.length_cons]
    refine ⟨⟨h1.lay, a⟩, ⟨h1.sho, b⟩, ?_, ?_⟩
    · exact Nat.max_le.mpr ⟨h0, c⟩
    · rw [Nat.mul_add, Nat.mul_one]
      omega
theorem nice_list {xs : List PyData} {n k m : Nat} (h : ∀ x ∈ xs, Nice n x ∧ x.depth ≤ k) (hl : xs.length ≤ m) (hk : k ≤ 50) : Nice ((n + 1) * m) (.list xs) ∧ (PyData.list xs).depth ≤ k + 1 := by
  obtain ⟨a, b, c, d⟩ := nice_all h
  have e : (n + 1) * xs.length ≤ (n + 1) * m := Nat.mul_le_mul_left _ hl
  refine ⟨⟨by simpa [PyData.canLay0] using a, by simpa [PyData.showable] using b, ?_, ?_⟩, ?_⟩
  · simp only [PyData.depth]; omega
  · simp only [PyData.weight]; omega
  · simp only [PyData.depth]; omega
theorem nice_tuple {xs : List PyData} {n k m : Nat} (h : ∀ x ∈ xs, Nice n x ∧ x.depth ≤ k) (hl : xs.length ≤ m) (hk : k ≤ 50) : Nice ((n + 1) * m) (.tuple xs) ∧ (PyData.tuple xs).depth ≤ k + 1 := by
  obtain ⟨a, b, c, d⟩ := nice_all h
  have e : (n + 1) * xs.length ≤ (n + 1) * m := Nat.mul_le_mul_left _ hl
  refine ⟨⟨by simpa [PyData.canLay0] using a, by simpa [PyData.showable] using b, ?_, ?_⟩, ?_⟩
  · simp only [PyData.depth]; omega
  · simp only [PyData.weight]; omega
  · simp only [PyData.depth]; omega
theorem nice_int {i : Int} (h : i.natAbs < 2 ^ 200) : Nice 200 (.int i) ∧ (PyData.int i).depth ≤ 0 := by
  have l : i.natAbs.log2 < 200 := PySem.Flt.log2_lt_of (by decide) h
  refine ⟨⟨by simp [PyData.canLay0], by simp [PyData.showable]; omega, by simp [PyData.depth], ?_⟩, by simp [PyData.depth]⟩
  simp only [PyData.weight]
  split <;> omega
theorem nice_str {x : S} {n : Nat} (h : PyData.strOk x = true) (l : x.cps.size ≤ n) : Nice n (.str x) ∧ (PyData.str x).depth ≤ 0 :=
  ⟨⟨by simpa [PyData.canLay0] using h, by simp [PyData.showable], by simp [PyData.depth], by simp only [PyData.weight]; exact l⟩, by simp [PyData.depth]⟩
end MM
namespace DL
open PySem PySem.Spec PyProof.Rows L2
section
variable {K : Frg} {T B I H I' H' : Hp} {ws : List SD} {σ : L2.St} {ta tb te ti : TE} {P : PyData → List SD → Prop} {PA : List PyData → List SD → Prop} {Pd : PyData → Prop} {D : Ends}
theorem uw_i {f : Int → Int} {a : Int} (p : Pd (.int (f a))) : UW K (rU fun i => .int (f i)) (.int a) Pd := fun T B ws σ I H v k hv Q q => by
  cases hv
  exact ⟨a, rfl, q _ _ _ _ p k (Same.refl I) (.int _)⟩
theorem Ok.scrAt {i : Nat} {ns : List Int} (k : Ok K T B ws σ I H) (h : ws[i]? = some (.scr ns)) : ∃ a, σ[i]? = some (some (.ref a)) ∧ SqL K I a (ns.map V.int) := by
  obtain ⟨ft, k⟩ := k
  obtain ⟨a, h1, h2⟩ := k.sl i _ h
  refine ⟨a, ?_, h2⟩
  cases e : σ[i]? with
  | none => rw [e] at h1; cases h1
  | some x => rw [e] at h1; exact congrArg some h1
theorem ew_lenS {i : Nat} {ns : List Int} (h : ws[i]? = some (.scr ns)) (p : P (.int ns.length) ws) : EW K ws (tCB (fun xs H Q => ∃ p ys, xs = [.ref p] ∧ (SqL K H p ys ∨ SqT K H p ys) ∧ Q (.int ys.length) H) (tCons (tVar i) tNil)) P := fun T B σ I H k Q q => by
  obtain ⟨a, e, s⟩ := k.scrAt h
  refine ⟨_, e, a, _, rfl, .inl (k.sub.seq s), ?_⟩
  rw [List.length_map]
  exact q _ _ _ _ _ p k (Same.refl I) (.int _)
theorem ef_sliceS {i : Nat} {ns : List Int} {tl th : TO} (h : ws[i]? = some (.scr ns)) (hp : OptE K ws tl fun lo w2 => OptE K w2 th fun hi w3 => PA ((cutD ns lo hi).map .int) w3) : EF K ws (tSl (rSlL K) (tVar i) tl th) PA := fun T B σ I H k Q q => by
  obtain ⟨a, e, s⟩ := k.scrAt h
  refine ⟨_, e, ?_⟩
  refine hp T B σ I H k _ fun lo w2 I2 H2 p2 k2 s2 => ?_
  refine p2 T B σ I2 H2 k2 _ fun hi w3 I3 H3 p3 k3 s3 => ?_
  refine ⟨a, _, rfl, k3.sub.seq ((s2.trans s3).seq s), fun l hl => ?_⟩
  obtain ⟨k4, n4⟩ := k3.hand (o := .lst (cutV (ns.map V.int) lo hi)) hl
  refine q _ _ _ _ _ _ p3 n4 k4 (s2.trans s3) ?_
  have e2 : cutV (ns.map V.int) lo hi = (cutD ns lo hi).map V.int := by
    unfold cutV cutD
    rw [List.length_map, List.map_take, List.map_drop]
  rw [e2]
  exact DaL.ofInts _
theorem Ok.wr {p : Addr} {o o' : HO} (k : Ok K (upd T p o) B ws σ I H) : Ok K (upd T p o') B ws σ I (upd H p o') := by
  obtain ⟨ft, k⟩ := k
  have hp : (upd T p o) p = some o := upd_same
  have hI : I p = none := k.ti p (by rw [hp]; simp)
  have out : ∀ j a, a ∈ ft j → a ≠ p := fun j a ha z => by
    have h2 := (k.own j a ha).2.1
    rw [z, hp] at h2
    cases h2
  refine ⟨ft, fun b x q => ?_, fun b x q => ?_, k.bse, fun b hb => ?_, k.len, k.ap, fun j a ha => ?_, fun j x hx => (k.sl j x hx).keep (Same.refl I) fun a ha => by rw [upd_ne (out j a ha)]⟩
  · rw [upd_ne (ne_of_none q hI)]
    exact k.sub _ _ q
  · by_cases z : b = p
    · subst z
      rw [upd_same] at q ⊢
      exact q
    · rw [upd_ne z] at q ⊢
      exact k.oth b x (by rw [upd_ne z]; exact q)
  · by_cases z : b = p
    · subst z
      exact hI
    · rw [upd_ne z] at hb
      exact k.ti b (by rw [upd_ne z]; exact hb)
  · obtain ⟨h1, h2, h3⟩ := k.own j a ha
    have z := out j a ha
    rw [upd_ne z] at h2
    rw [upd_ne z, upd_ne z]
    exact ⟨h1, h2, h3⟩
theorem Ok.toss {p : Addr} {o : HO} (k : Ok K (upd T p o) B ws σ I H) (hT : T p = none) : Ok K T B ws σ I H := by
  obtain ⟨ft, k⟩ := k
  have le : ∀ b x, T b = some x → (upd T p o) b = some x := fun b x e => by
    rw [upd_ne (ne_of_none e hT)]
    exact e
  refine ⟨ft, k.sub, fun b x e => k.oth b x (le b x e), k.bse, fun b hb => k.ti b ?_, k.len, k.ap, fun i a ha => ?_, k.sl⟩
  · cases e : T b with
    | none => exact absurd e hb
    | some x =>
      rw [le b x e]
      simp
  · obtain ⟨e1, e2, e3⟩ := k.own i a ha
    refine ⟨e1, ?_, e3⟩
    cases e : T a with
    | none => rfl
    | some x =>
      rw [le a x e] at e2
      cases e2
theorem ew_pick4 {a b c d : Str} {t1 t2 t3 t4 ty : TE} (h : EW K ws t1 fun d1 w1 => EW K w1 t2 fun d2 w2 => EW K w2 t3 fun d3 w3 => EW K w3 t4 fun d4 w4 => EW K w4 ty fun y w5 => ∃ s : Str, y = .str s ∧
      ∃ z, (if s = d then some d4 else if s = c then some d3 else if s = b then some d2 else if s = a then some d1 else none) = some z ∧ P z w5) :
    EW K ws (tDGet (tDisp [(tC (.str a), t1), (tC (.str b), t2), (tC (.str c), t3), (tC (.str d), t4)]) ty) P := fun T B σ I H k Q q => by
  intro p hp
  obtain ⟨k0, nT⟩ := k.hand (o := .dK []) hp
  refine h _ B σ I _ k0 _ fun v1 d1 w1 I1 H1 p1 k1 s1 a1 => ?_
  refine p1 _ B σ I1 H1 k1 _ fun v2 d2 w2 I2 H2 p2 k2 s2 a2 => ?_
  refine p2 _ B σ I2 H2 k2 _ fun v3 d3 w3 I3 H3 p3 k3 s3 a3 => ?_
  refine p3 _ B σ I3 H3 k3 _ fun v4 d4 w4 I4 H4 p4 k4 s4 a4 => ?_
  refine ⟨k4.oth _ _ upd_same, [(.inr a, v1), (.inr b, v2), (.inr c, v3), (.inr d, v4)], rfl, (by show 4 ≤ 15; decide), ?_⟩
  refine p4 _ B σ I4 _ (k4.wr (o' := .dK (mergeK [] [(.inr a, v1), (.inr b, v2), (.inr c, v3), (.inr d, v4)]))) _ fun y dy w5 I5 H5 p5 k5 s5 a5 => ?_
  obtain ⟨s, rfl, z, hz, pz⟩ := p5
  obtain rfl := a5.str_inv
  have hH : H5 p = some (.dK (mergeK [] [(.inr a, v1), (.inr b, v2), (.inr c, v3), (.inr d, v4)])) := k5.oth _ _ upd_same
  have key : ∃ v, valV (mergeK [] [(.inr a, v1), (.inr b, v2), (.inr c, v3), (.inr d, v4)]) (.inr s : Key) = some v ∧ Da K I5 v z := by
    show ∃ v, valV (putK (putK (putK (putK [] (.inr a) v1) (.inr b) v2) (.inr c) v3) (.inr d) v4) (.inr s : Key) = some v ∧ Da K I5 v z
    rw [valV_put, valV_put, valV_put, valV_put]
    have inj : ∀ x : Str, ((.inr s : Key) = .inr x) = (s = x) := fun x => by simp
    simp only [inj]
    by_cases e4 : s = d
    · rw [if_pos e4] at hz ⊢
      cases hz
      exact ⟨_, rfl, a4.mono s5⟩
    · rw [if_neg e4] at hz ⊢
      by_cases e3 : s = c
      · rw [if_pos e3] at hz ⊢
        cases hz
        exact ⟨_, rfl, a3.mono (s4.trans s5)⟩
      · rw [if_neg e3] at hz ⊢
        by_cases e2 : s = b
        · rw [if_pos e2] at hz ⊢
          cases hz
          exact ⟨_, rfl, a2.mono (s3.trans (s4.trans s5))⟩
        · rw [if_neg e2] at hz ⊢
          by_cases e1 : s = a
          · rw [if_pos e1] at hz ⊢
            cases hz
            exact ⟨_, rfl, a1.mono (s2.trans (s3.trans (s4.trans s5)))⟩
          · rw [if_neg e1] at hz
            cases hz
  obtain ⟨v, hv, av⟩ := key
  refine ⟨p, v, rfl, .inl ⟨_, .inr s, .inl hH, rfl, hv.symm⟩, ?_⟩
  exact q _ _ _ _ _ pz (k5.toss nT) ((s1.trans s2).trans (s3.trans (s4.trans s5))) av
theorem ew_popW {i : Nat} {ds0 : List PyData} (h : ws[i]? = some (.mut ds0))
    (hb : EW K ws tb fun y w => ∃ (j : Int) (ds : List PyData), y = .int j ∧ w[i]? = some (.mut ds) ∧ ds.length < 2 ^ 62 ∧ 0 ≤ j ∧ ∃ d, ds[j.toNat]? = some d ∧ P d (w.set i (.mut (ds.eraseIdx j.toNat)))) : EW K ws (tBM K "list" rPopAt (tVar i) (tCons tb tNil)) P := fun T B σ I H k Q q => by
  obtain ⟨b, xs, e, hH, hI, ha, _⟩ := k.mutAt h
  refine ⟨.ref b, e, .inl ⟨rfl, _, .inl (.inl hH)⟩, ?_⟩
  refine hb T B σ I H k _ fun u y w1 I1 H1 p1 k1 s1 a1 => ?_
  obtain ⟨j, ds, rfl, hw1, hz, h0, d, at_, p⟩ := p1
  obtain ⟨b', xs', e', hH', _, ha', up⟩ := k1.mutAt hw1
  rw [e] at e'
  cases e'
  obtain ⟨w, e2, hw⟩ := ha'.get at_
  have hj : j.toNat < xs'.length := (List.getElem?_eq_some_iff.mp e2).1
  have hl := ha'.length
  refine ⟨b, xs', j, j.toNat, w, rfl, by rw [a1.int_inv], hH', by omega, by omega, ?_, e2, q _ _ _ _ _ p (up _ _ (ha'.eraseIdx j.toNat)) s1 hw⟩
  first | (simp [seqIndex?]; omega) | (unfold seqIndex?; simp; omega)
theorem Ok.scrap {j : Nat} {o : Option V} (k : Ok K T B ws σ I H) : Ok K T B (ws.set j .un) (σ.set j o) I H := by
  obtain ⟨ft, k⟩ := k
  refine ⟨fun i => if j = i then [] else ft i, k.sub, k.oth, k.bse, k.ti, by rw [List.length_set, List.length_set]; exact k.len, fun a b c ha hb => ?_, fun a c ha => ?_, fun i w hw => ?_⟩
  · have ha : c ∈ if j = a then [] else ft a := ha
    have hb : c ∈ if j = b then [] else ft b := hb
    split at ha
    · cases ha
    · split at hb
      · cases hb
      · exact k.ap a b c ha hb
  · have ha : c ∈ if j = a then [] else ft a := ha
    split at ha
    · cases ha
    · exact k.own a c ha
  · rcases set_get hw with ⟨q, rfl⟩ | ⟨q, hw⟩
    · trivial
    · show Sl K I H (if j = i then [] else ft i) _ w
      rw [if_neg q]
      have e : ((σ.set j o)[i]?).join = (σ[i]?).join := by rw [List.getElem?_set, if_neg q]
      rw [e]
      exact k.sl i w hw
theorem sw_turn2 {i j : Nat} {d1 d2 : List PyData} {t : Str} (hi : ws[i]? = some (.cel (twoC K d1 d2))) (hij : i ≠ j) (hj : j < ws.length) (z1 : d1.length < sizeLine) (z2 : d2.length < sizeLine) (h : NX K T B ((ws.set i .un).set j .un) D.nx) :
    SW K T B ws (tFor (iList K (tVar i)) (gName j) (tSeq (tDrop (tBM K "list" rAppend (tVar j) (tCons (tC (.str t)) tNil))) (tDrop (tBM0 K "list" rReverse (tVar j))))) D := fun σ I H k => by
  obtain ⟨p, p1, p2, x1, x2, e, n1, n2, n3, e0, e1, e2, a1, a2, up⟩ := k.twoAt hi
  have hjl : j < σ.length := by
    rw [k.len]
    exact hj
  have sq : ∀ {H' : Hp}, H' p = some (.lst [.ref p1, .ref p2]) → SqL K H' p [.ref p1, .ref p2] := fun e => .inl (.inl e)
  have at0 : ∀ y1 y2, (upd (upd H p1 (HO.lst y1)) p2 (.lst y2)) p = some (.lst [.ref p1, .ref p2]) := fun y1 y2 => by
    rw [upd_ne n2, upd_ne n1]
    exact e0
  have at1 : ∀ y1 y2, (upd (upd H p1 (HO.lst y1)) p2 (.lst y2)) p1 = some (.lst y1) := fun y1 y2 => by
    rw [upd_ne n3, upd_same]
  have at2 : ∀ y1 y2, (upd (upd H p1 (HO.lst y1)) p2 (.lst y2)) p2 = some (.lst y2) := fun y1 y2 => upd_same
  have st1 : ∀ y1 y2 z, upd (upd (upd H p1 (HO.lst y1)) p2 (.lst y2)) p1 (.lst z) = upd (upd H p1 (HO.lst z)) p2 (.lst y2) := fun y1 y2 z => by
    funext b
    by_cases q2 : b = p2
    · rw [q2, upd_ne n3.symm, upd_same, upd_same]
    · by_cases q1 : b = p1
      · rw [q1, upd_same, upd_ne n3, upd_same]
      · rw [upd_ne q1, upd_ne q2, upd_ne q1, upd_ne q2, upd_ne q1]
  have st2 : ∀ y1 y2 z, upd (upd (upd H p1 (HO.lst y1)) p2 (.lst y2)) p2 (.lst z) = upd (upd H p1 (HO.lst y1)) p2 (.lst z) := fun y1 y2 z => by
    funext b
    by_cases q2 : b = p2
    · rw [q2, upd_same, upd_same]
    · rw [upd_ne q2, upd_ne q2, upd_ne q2]
  have st0 : upd (upd H p1 (HO.lst x1)) p2 (.lst x2) = H := by
    funext b
    by_cases q2 : b = p2
    · rw [q2, upd_same, e2]
    · by_cases q1 : b = p1
      · rw [q1, upd_ne n3, upd_same, e1]
      · rw [upd_ne q2, upd_ne q1]
  refine ⟨_, e, p, rfl, ⟨_, sq e0⟩, ?_⟩
  refine ⟨fun n m σ' H' => m = 2 - n ∧ n ≤ 2 ∧ ∃ o y1 y2, σ' = σ.set j o ∧ H' = upd (upd H p1 (HO.lst y1)) p2 (.lst y2) ∧ (n = 0 → y1 = x1) ∧ (n ≤ 1 → y2 = x2), ⟨2, rfl, Nat.zero_le _, (σ[j]?).join, x1, x2, ?_, st0.symm, fun _ => rfl, fun _ => rfl⟩, ?_⟩
  · apply List.ext_getElem?
    intro n
    by_cases q : j = n
    · subst q
      rw [List.getElem?_set, if_pos rfl, if_pos hjl, List.getElem?_eq_getElem hjl]
      rfl
    · rw [List.getElem?_set, if_neg q]
  · rintro n m σ' H' ⟨rfl, hn, o, y1, y2, rfl, rfl, c1, c2⟩
    have li : (σ.set j o)[i]? = some (some (.ref p)) := by
      rw [List.getElem?_set, if_neg fun z => hij z.symm]
      exact e
    rcases (by omega : n = 0 ∨ n = 1 ∨ n = 2) with rfl | rfl | rfl
    · obtain rfl := c1 rfl
      obtain rfl := c2 (by decide)
      refine .inr ⟨⟨_, _, sq (at0 _ _), rfl⟩, fun σ' H' => ∃ o y1, σ' = σ.set j o ∧ H' = upd (upd H p1 (HO.lst y1)) p2 (.lst y2), fun σ' H' ⟨o, y1, h1, h2⟩ => ⟨1, by decide, rfl, by decide, o, y1, y2, h1, h2, fun z => absurd z (by decide), fun _ => rfl⟩, ?_⟩
      rintro x H' ⟨rfl, hx⟩
      have hx := hx _ (sq (at0 _ _))
      cases hx
      have lj : ((σ.set j o).set j (some (V.ref p1)))[j]? = some (some (.ref p1)) := by
        rw [List.getElem?_set, if_pos rfl, if_pos (by rw [List.length_set]; exact hjl)]
      refine ⟨_, lj, .inl ⟨rfl, _, .inl (.inl (at1 _ _))⟩, p1, y1, _, rfl, rfl, at1 _ _, by rw [a1.length]; exact z1, ?_⟩
      rw [st1]
      refine ⟨_, lj, .inl ⟨rfl, _, .inl (.inl (at1 _ _))⟩, p1, _, rfl, rfl, at1 _ _, ?_⟩
      rw [st1]
      exact ⟨_, _, List.set_set _, rfl⟩
    · obtain rfl := c2 (by decide)
      refine .inr ⟨⟨_, _, sq (at0 _ _), rfl⟩, fun σ' H' => ∃ o y2, σ' = σ.set j o ∧ H' = upd (upd H p1 (HO.lst y1)) p2 (.lst y2), fun σ' H' ⟨o, y2, h1, h2⟩ => ⟨0, by decide, rfl, by decide, o, y1, y2, h1, h2, fun z => absurd z (by decide), fun z => absurd z (by decide)⟩, ?_⟩
      rintro x H' ⟨rfl, hx⟩
      have hx := hx _ (sq (at0 _ _))
      cases hx
      have lj : ((σ.set j o).set j (some (V.ref p2)))[j]? = some (some (.ref p2)) := by
        rw [List.getElem?_set, if_pos rfl, if_pos (by rw [List.length_set]; exact hjl)]
      refine ⟨_, lj, .inl ⟨rfl, _, .inl (.inl (at2 _ _))⟩, p2, y2, _, rfl, rfl, at2 _ _, by rw [a2.length]; exact z2, ?_⟩
      rw [st2]
      refine ⟨_, lj, .inl ⟨rfl, _, .inl (.inl (at2 _ _))⟩, p2, _, rfl, rfl, at2 _ _, ?_⟩
      rw [st2]
      exact ⟨_, _, List.set_set _, rfl⟩
    · exact .inl ⟨⟨_, sq (at0 _ _), Nat.le_refl 2⟩, h _ I _ (up y1 y2).scrap⟩
def SpG (K : Frg) : Sp := fun vs H Q _ => ∃ (T B I : Hp) (a : Addr) (ns : List Int), vs = [.ref a] ∧ Ok K T B [] [] I H ∧ SqL K I a (ns.map V.int) ∧ ns.length ≤ 63 ∧ ∀ v I' H', Ok K T B [.cel (rngC v 0)] [some v] I' H' → Same I I' → Q v H'
theorem Ok.takeC {c : Cel} {v : V} {j : Nat} (k : Ok K T B ws σ I H) (k' : Ok K (rest I H) I [.cel c] [some v] I' H') : Ok K T B (ws.set j (.cel c)) (σ.set j (some v)) I' H' := by
  obtain ⟨ft, k⟩ := k
  obtain ⟨ft', k'⟩ := k'
  have e := k'.bse
  obtain ⟨v', e1, hc⟩ := k'.sl 0 _ rfl
  cases e1
  have hF : ∀ a ∈ ft' 0, I' a = none ∧ rest I H a = none ∧ H' a ≠ none := fun a ha => k'.own 0 a ha
  have old : ∀ a, I a = none → H a ≠ none → H' a = H a ∧ I' a = none ∧ a ∉ ft' 0 := fun a h1 h3 => by
    have z : rest I H a = H a := rest_eq h1
    refine ⟨?_, k'.ti a (by rw [z]; exact h3), fun q => ?_⟩
    · cases q : H a with
      | none => exact absurd q h3
      | some x => exact k'.oth a x (by rw [z, q])
    · have := (hF a q).2.1
      rw [z] at this
      exact h3 this
  have hT : ∀ b, T b ≠ none → I b = none ∧ H b ≠ none := fun b hb => ⟨k.ti b hb, by
    cases q : T b with
    | none => exact absurd q hb
    | some x => rw [k.oth b x q]; simp⟩
  have k2 : Ok K (fun b => if b ∈ ft' 0 then H' b else T b) B ws σ I' H' := by
    refine ⟨ft, k'.sub, fun b x q => ?_, fun b x q => e b x (k.bse b x q), fun b hb => ?_, k.len, k.ap, fun i a ha => ?_, fun i w hw => (k.sl i w hw).keep e fun a ha => ?_⟩
    · have q : (if b ∈ ft' 0 then H' b else T b) = some x := q
      split at q
      · exact q
      · have hb : T b ≠ none := by rw [q]; simp
        obtain ⟨g1, g2⟩ := hT b hb
        rw [(old b g1 g2).1]
        exact k.oth _ _ q
    · have hb : (if b ∈ ft' 0 then H' b else T b) ≠ none := hb
      split at hb
      · rename_i z
        exact (hF b z).1
      · obtain ⟨g1, g2⟩ := hT b hb
        exact (old b g1 g2).2.1
    · obtain ⟨h1, h2, h3⟩ := k.own i a ha
      obtain ⟨g1, g2, g3⟩ := old a h1 h3
      refine ⟨g2, ?_, by rw [g1]; exact h3⟩
      show (if a ∈ ft' 0 then H' a else T a) = none
      rw [if_neg g3]
      exact h2
    · obtain ⟨h1, h2, h3⟩ := k.own i a ha
      exact (old a h1 h3).1
  refine k2.keepC (T := T) (F := ft' 0) (fun b x q => ?_) (fun a ha => ?_) hc
  · show (if b ∈ ft' 0 then H' b else T b) = some x
    have hb : T b ≠ none := by rw [q]; simp
    obtain ⟨g1, g2⟩ := hT b hb
    rw [if_neg (old b g1 g2).2.2]
    exact q
  · refine ⟨?_, ?_⟩
    · cases q : T a with
      | none => rfl
      | some x =>
        obtain ⟨g1, g2⟩ := hT a (by rw [q]; simp)
        exact absurd ha (old a g1 g2).2.2
    · show (if a ∈ ft' 0 then H' a else T a) ≠ none
      rw [if_pos ha]
      exact (hF a ha).2.2
theorem sw_rng {i j : Nat} {ns : List Int} {E : XK} (hi : ws[i]? = some (.scr ns)) (hl : ns.length ≤ 63) (h : ∀ v, NX K T B (ws.set j (.cel (rngC v 0))) D.nx) : SW K T B ws (tAsg (tCall (SpG K) [] E (tCons (tVar i) tNil)) (gName j)) D := fun σ I H k => by
  obtain ⟨a, e, s⟩ := k.scrAt hi
  refine ⟨_, e, ?_⟩
  exact ⟨rest I H, I, I, a, ns, rfl, k.give, s, hl, fun v I' H' k' _ => h v _ I' H' (k.takeC k')⟩
theorem Ok.beginS {a : Addr} {ns : List Int} {n : Nat} (k : Ok K T B [] [] I H) (s : SqL K I a (ns.map V.int)) : Ok K T I (.scr ns :: List.replicate n .un) (some (.ref a) :: List.replicate n none) I H := by
  refine ⟨fun _ => [], k.sub, k.oth, Same.refl I, k.ti, by simp, fun _ _ _ h _ => (nomatch h), fun _ _ h => (nomatch h), fun i w hw => ?_⟩
  cases i with
  | zero =>
    cases hw
    exact ⟨a, rfl, s⟩
  | succ i =>
    have hw' : (List.replicate n SD.un)[i]? = some w := hw
    rw [List.getElem?_replicate] at hw'
    split at hw'
    · cases hw'
      trivial
    · cases hw'
theorem rf_rng {Q : V → Hp → Prop} {a b c : Int} (h : 0 ≤ a ∧ 0 ≤ b ∧ b < 2305843009213693951 ∧ 0 ≤ c ∧ c ≤ 0) (k0 : Same B I) (q : ∀ v I' H', Ok K T B [.cel (rngC v 0)] [some v] I' H' → Same I I' → Q v H') {B' : Hp} (e : Same I B') : RF K T B' ws [.int a, .int b, .int c] Q := fun σ I' H' p xs n k' a' => by
  obtain rfl : xs = [.int a, .int b, .int c] := by
    have := DaL.ints (ns := [a, b, c]) a'
    exact this
  have hp : (upd T p (HO.lst [.int a, .int b, .int c])) p = some (.lst [.int a, .int b, .int c]) := upd_same
  refine q _ I' H' ?_ (e.trans k'.bse)
  have k1 : Ok K (upd T p (.lst [.int a, .int b, .int c])) B [.un] [none] I' H' := by
    obtain ⟨ft, k2⟩ := (k'.less (k0.trans e)).bare
    refine ⟨fun _ => [], k2.sub, k2.oth, k2.bse, k2.ti, rfl, fun _ _ _ h _ => (nomatch h), fun _ _ h => (nomatch h), fun i w hw => ?_⟩
    cases i with
    | zero =>
      cases hw
      trivial
    | succ i => cases hw
  refine k1.keepC (i := 0) (F := [p]) (fun b x q => ?_) (fun a ha => ?_) ⟨a, b, c, h, rfl, p, rfl, rfl, k'.oth _ _ hp⟩
  · rw [upd_ne (ne_of_none q n)]
    exact q
  · obtain rfl := List.mem_singleton.mp ha
    exact ⟨n, by rw [hp]; simp⟩
end
section
variable {P : Program} {w : World} {K : Frg} {mg : Str → Option Value} {base : Heap} {k : Nat} {f : Addr} {fd : FuncData} {x qual ps : Str} {st : Stmt} {N : List Str}
theorem okRng (F : Fun K x qual st f fd) (S : FnScope N [ps] (defScope st))
    (hb : ∀ (cv : Value) (A : Around) (outer : List Env) (s : Shared) (H : Hp) (Q : VK) (E : XK) (ns : List Int), Room k (A.deeper (envOfC qual (defScope st) s.heap.objs.size f cv)) → ns.length ≤ 63 →
      ∃ t, PSs (cxOf CX0 P w K mg base N qual (defScope st) f cv A outer s H E).nox (defBody st) t ∧
        ∀ T I, (∀ ws a b B', 0 ≤ a → 0 ≤ b → b < 2305843009213693951 → Same I B' → RF K T B' ws [.int a, .int b, .int 0] Q) → SW K T I (.scr ns :: List.replicate (N.length - 1) .un) t { nx := fun _ H' => Q .non H', rt := Q }) : FnOk P w K mg base CX0 (k + 1) f fd [ps] (SpG K) := by
  refine F.ok S (fun vs H Q E h => ?_) (fun cv A outer s H vs Q E hr h => ?_)
  · obtain ⟨T, B, I, a, ns, rfl, _⟩ := h
    rfl
  · obtain ⟨T, B, I, a, ns, rfl, k, s1, hl, q⟩ := h
    obtain ⟨t, ht, hq⟩ := hb cv A outer s H Q E ns hr hl
    refine ⟨t, ht, ?_⟩
    have z := hq T I (fun ws a b B' h1 h2 h3 e => rf_rng ⟨h1, h2, h3, Int.le_refl 0, Int.le_refl 0⟩ k.bse q e) _ I H (k.beginS (n := N.length - 1) s1)
    exact z
end
end DL
namespace DL
open PySem PySem.Spec PyProof.Rows L2
section
variable {K : Frg} {ws : List SD} {wi : TI} {g : TG} {tt : TT} {te : TE} {vs : List Nat} {PA : List PyData → List SD → Prop}
theorem ef_lcF (p : PyData → Bool) (f : PyData → PyData) (h : IW K ws wi fun ds w0 => ds.length ≤ sizeLine ∧ (∀ (i : Nat) d, ds[i]? = some d → Plain w0 vs ∧ GC K vs (wipeS w0 vs) g d fun w2 => TW K w2 tt fun b w3 =>
      b = p d ∧ if b = true then EW K w3 te fun e w5 => e = f d ∧ backS w0 w5 vs = w0 else backS w0 w3 vs = w0) ∧ PA ((ds.filter p).map f) w0) : EF K ws (tLc wi g tt te vs) PA := by
  refine ef_lc fun T B σ I H k R q => h T B σ I H k R fun J ds w0 I' H' hp => q J ds w0 I' H' ?_
  obtain ⟨hl, hs, pa⟩ := hp
  refine ⟨fun i acc w => w = w0 ∧ acc = ((ds.take i).filter p).map f, ⟨rfl, rfl⟩, ?_, ?_⟩
  · rintro i d acc w hi ⟨rfl, rfl⟩
    obtain ⟨h1, h2⟩ := hs i d hi
    have hlt : i < ds.length := (List.getElem?_eq_some_iff.mp hi).1
    have lt : (((ds.take i).filter p).map f).length < sizeLine := by
      rw [List.length_map]
      have e1 := List.length_filter_le p (ds.take i)
      rw [List.length_take] at e1
      omega
    have nx : (ds.take (i + 1)).filter p = (ds.take i).filter p ++ (if p d = true then [d] else []) := by
      rw [List.take_add_one, hi, List.filter_append]
      show _ ++ [d].filter p = _
      cases e : p d <;> simp [List.filter_cons, e]
    refine ⟨h1, fun T B σ I H v k a Q q => h2 T B σ I H v k a Q fun w2 σ2 hw => q w2 σ2 fun T B σ I H k Q q => hw T B σ I H k Q fun b w3 I' H' hb => q b w3 I' H' ?_⟩
    obtain ⟨rfl, hb⟩ := hb
    cases e : p d with
    | true =>
      rw [e] at hb nx
      rw [if_pos rfl] at hb nx ⊢
      exact hb.imp fun z w5 ⟨e1, e2⟩ => ⟨lt, e2, by rw [nx, e1, List.map_append]; rfl⟩
    | false =>
      rw [e] at hb nx
      rw [if_neg Bool.false_ne_true] at hb nx ⊢
      exact ⟨hb, by rw [nx, List.append_nil]⟩
  · rintro acc w ⟨rfl, rfl⟩
    rw [List.take_length]
    exact pa
theorem ef_lcM (f : PyData → PyData) (h : IW K ws wi fun ds w0 => ds.length ≤ sizeLine ∧ (∀ (i : Nat) d, ds[i]? = some d → Plain w0 vs ∧ GC K vs (wipeS w0 vs) g d fun w2 => EW K w2 te fun e w5 => e = f d ∧ backS w0 w5 vs = w0) ∧ PA (ds.map f) w0) : EF K ws (tLc wi g tYes te vs) PA := by
  refine ef_lcF (fun _ => true) f fun T B σ I H k R q => h T B σ I H k R fun J ds w0 I' H' hp => q J ds w0 I' H' ?_
  obtain ⟨hl, hs, pa⟩ := hp
  refine ⟨hl, fun i d hi => ?_, ?_⟩
  · obtain ⟨h1, h2⟩ := hs i d hi
    refine ⟨h1, fun T B σ I H v k a Q q => h2 T B σ I H v k a Q fun w2 σ2 hw => q w2 σ2 (tw_yes ⟨rfl, ?_⟩)⟩
    exact hw
  · have e : ds.filter (fun _ => true) = ds := List.filter_eq_self.mpr fun _ _ => rfl
    rw [e]
    exact pa
end
end DL
namespace DL
open PySem PySem.Spec PyProof.Rows L2
theorem pe_lcD {X : Cx} (s0 : Shared) (H0 : Hp) (C0 : Addr) (cl0 : List (Str × Addr)) (fp0 : List Addr) {elt tg iter : Expr} {ifs : List Expr} {scope : Scope} {own : List (Str × Nat)} {pos : Pos} {wi : TI} {g : Shared → Hp → Addr → List (Str × Addr) → List Addr → TG} {tt : Shared → Hp → Addr → List (Str × Addr) → List Addr → TT} {te : Shared → Hp → Addr → List (Str × Addr) → List Addr → TE}
    (hc : X.calm = true) (hN : X.N.Nodup) (hi : PI X tg iter wi) (ok : BlkOk X.N X.env.scope scope own)
    (hg : ∀ (s : Shared) (H : Hp) (C : Addr) (cl : List (Str × Addr)) (fp : List Addr), PG (X.blk s H scope (compEnvC scope cl C X.env) fp) tg (g s H C cl fp)) (ht : ∀ (s : Shared) (H : Hp) (C : Addr) (cl : List (Str × Addr)) (fp : List Addr), PTs (X.blk s H scope (compEnvC scope cl C X.env) fp) ifs (tt s H C cl fp))
    (he : ∀ (s : Shared) (H : Hp) (C : Addr) (cl : List (Str × Addr)) (fp : List Addr), PE (X.blk s H scope (compEnvC scope cl C X.env) fp) elt (te s H C cl fp)) (eg : ∀ s H C cl fp, g s H C cl fp = g s0 H0 C0 cl0 fp0 := by intros; rfl) (et : ∀ s H C cl fp, tt s H C cl fp = tt s0 H0 C0 cl0 fp0 := by intros; rfl) (ee : ∀ s H C cl fp, te s H C cl fp = te s0 H0 C0 cl0 fp0 := by intros; rfl)
    (hs : ∀ x, foldedSetIterable iter X.env x = pure x := by intro _; rfl) : PE X (.ListComp elt [⟨tg, iter, ifs, 0⟩] scope pos) (tLc wi (g s0 H0 C0 cl0 fp0) (tt s0 H0 C0 cl0 fp0) (te s0 H0 C0 cl0 fp0) (own.map (·.2))) :=
  pe_lc hc hN hi ok (fun s H C cl fp => by rw [← eg s H C cl fp]; exact hg s H C cl fp) (fun s H C cl fp => by rw [← et s H C cl fp]; exact ht s H C cl fp) (fun s H C cl fp => by rw [← ee s H C cl fp]; exact he s H C cl fp) hs
end DL
namespace DL
open PySem PySem.Spec PyProof.Rows L2
theorem plain_nil {w : List SD} : Plain w [] := fun _ h => by cases h
theorem plain_cons {w : List SD} {v : Nat} {vs : List Nat} (h : w.getD v .un = .un ∨ ∃ d, w.getD v .un = .dat d) (r : Plain w vs) : Plain w (v :: vs) := fun u hu => by
  rcases List.mem_cons.mp hu with z | z
  · rw [z]
    exact h
  · exact r u z
end DL
namespace DL
open PySem PySem.Spec PyProof.Rows L2
theorem sw_seqJ {K : Frg} {T B : Hp} {ws : List SD} {t u : TS} {D : Ends} (R : List SD → Prop) (h1 : ∀ N, (∀ w, R w → NX K T B w N) → SW K T B ws t { D with nx := N }) (h2 : ∀ w, R w → SW K T B w u D) : SW K T B ws (tSeq t u) D := h1 (u D) (fun w r => h2 w r)
end DL
namespace DL
open PySem PySem.Spec PyProof.Rows L2
theorem inV_str {x : Str} {xs : List Str} : inV (.str x) (xs.map V.str) = decide (x ∈ xs) := by
  unfold inV
  rw [List.any_map, Bool.eq_iff_iff]
  simp only [List.any_eq_true, Function.comp, decide_eq_true_eq]
  constructor
  · rintro ⟨y, hy, e⟩
    have e : y = x := by simpa [eqV] using e
    exact e ▸ hy
  · exact fun h => ⟨x, h, by simp [eqV]⟩
theorem flats_strs : ∀ {xs : List Str}, (xs.map V.str).all flatV = true
  | [] => rfl
  | x :: xs => by
    rw [List.map_cons, List.all_cons, flats_strs]
    rfl
theorem ew_inM {K : Frg} {ws : List SD} {te : TE} {P : PyData → List SD → Prop} {neg : Bool} {i : Nat} {xs : List Str} (h : ws[i]? = some (.mut (xs.map .str))) (he : EW K ws te fun d w => ∃ s : Str, d = .str s ∧ w = ws ∧ P (.bool (if neg then !decide (s ∈ xs) else decide (s ∈ xs))) ws) : EW K ws (tOp (rIn K neg) te (tVar i)) P := fun T B σ I H k Q q => by
  refine he T B σ I H k _ fun v d w1 I1 H1 p1 k1 s1 a1 => ?_
  obtain ⟨s, rfl, rfl, p⟩ := p1
  obtain ⟨b, us, e, hH, _, ha, _⟩ := k1.mutAt h
  obtain rfl := a1.str_inv
  obtain rfl := ha.strs
  refine ⟨_, e, b, _, rfl, .inl (.inl (.inl hH)), rfl, flats_strs, ?_⟩
  rw [inV_str]
  exact q _ _ _ _ _ p k1 s1 (.bl _)
end DL
namespace MM
open PySem PySem.Spec PyProof.Rows L2 DL
theorem cutD_of {α : Type} (xs : List α) {a b : Int} (h0 : 0 ≤ a) (h1 : a ≤ b) (h2 : b ≤ xs.length) : DL.cutD xs (some a) (some b) = (xs.drop a.toNat).take (b.toNat - a.toNat) := by
  have e1 : HT.sIx xs.length 0 (some a) = a.toNat := by
    show (if a < 0 then (a + (xs.length : Int)).toNat else min a.toNat xs.length) = a.toNat
    rw [if_neg (by omega)]
    omega
  have e2 : HT.sIx xs.length xs.length (some b) = b.toNat := by
    show (if b < 0 then (b + (xs.length : Int)).toNat else min b.toNat xs.length) = b.toNat
    rw [if_neg (by omega)]
    omega
  unfold DL.cutD
  rw [e1, e2]
theorem slc_cut {c : Cm} (hs : c.slc) (ok : c.ok) (xs : List S) : DL.cutD (xs.map PyData.str) (some (c.rng xs.length).1) (some (c.rng xs.length).2) = (c.app xs).map PyData.str := by
  have lm : (xs.map PyData.str).length = xs.length := List.length_map _
  cases c with
  | head n =>
    have ok : 0 ≤ n := ok
    simp only [Cm.rng, Cm.app]
    rw [cutD_of _ (Int.le_refl 0) (by split <;> omega) (by rw [lm]; split <;> omega)]
    rw [List.map_take, Int.toNat_zero, List.drop_zero, List.take_eq_take_iff, lm]
    split <;> omega
  | tail n =>
    have ok : 0 ≤ n := ok
    simp only [Cm.rng, Cm.app]
    rw [cutD_of _ (by split <;> omega) (by split <;> omega) (by rw [lm]; omega)]
    rw [List.map_drop, List.take_of_length_le (by rw [List.length_drop, lm]; split <;> omega)]
    congr 1
    split <;> omega
  | skip n =>
    have ok : 0 ≤ n := ok
    simp only [Cm.rng, Cm.app]
    rw [cutD_of _ (by split <;> omega) (by split <;> omega) (by rw [lm]; omega)]
    rw [List.map_drop, List.take_of_length_le (by rw [List.length_drop, lm]; split <;> omega)]
    split
    · rename_i h
      rw [List.drop_of_length_le (by rw [lm]; omega), List.drop_of_length_le (by rw [lm]; omega)]
    · rfl
  | chop n =>
    have ok : 0 ≤ n := ok
    simp only [Cm.rng, Cm.app]
    rw [cutD_of _ (Int.le_refl 0) (by split <;> omega) (by rw [lm]; split <;> omega)]
    rw [List.map_take, Int.toNat_zero, List.drop_zero, List.take_eq_take_iff, lm]
    split <;> omega
  | rev => exact hs.elim
  | uniq => exact hs.elim
  | sort => exact hs.elim
end MM
namespace MM
theorem abs_pow {a : Int} {n : Nat} (h0 : 0 ≤ a) (h : a < 2 ^ n) : a.natAbs < 2 ^ n := by
  have e : ((2 ^ n : Nat) : Int) = (2 : Int) ^ n := Int.natCast_pow 2 n
  rw [← e] at h
  omega
theorem dig_step {a r : Int} {n : Nat} (h0 : 0 ≤ a) (h : a < 2 ^ n) (h2 : r < 10 ^ 60) : a * 10 ^ 60 + r < 2 ^ (200 + n) := by
  have h1 : a + 1 ≤ 2 ^ n := h
  have e1 : (a + 1) * 10 ^ 60 ≤ 2 ^ n * 10 ^ 60 := Int.mul_le_mul_of_nonneg_right h1 (by decide)
  have e2 : (2 : Int) ^ n * 10 ^ 60 ≤ 2 ^ n * 2 ^ 200 := Int.mul_le_mul_of_nonneg_left (by decide) (by omega)
  have e3 : (2 : Int) ^ (200 + n) = 2 ^ n * 2 ^ 200 := by rw [Nat.add_comm, Int.pow_add]
  rw [e3]
  have e4 : (a + 1) * 10 ^ 60 = a * 10 ^ 60 + 10 ^ 60 := by rw [Int.add_mul, Int.one_mul]
  omega
theorem pow_mono {a : Int} {n m : Nat} (h : a < 2 ^ n) (l : n ≤ m) : a < 2 ^ m := by
  have e : (2 : Int) ^ n ≤ 2 ^ m := by
    have e1 : ((2 ^ n : Nat) : Int) = (2 : Int) ^ n := Int.natCast_pow 2 n
    have e2 : ((2 ^ m : Nat) : Int) = (2 : Int) ^ m := Int.natCast_pow 2 m
    rw [← e1, ← e2]
    exact Int.ofNat_le.mpr (Nat.pow_le_pow_right (by decide) l)
  omega
end MM
namespace MM
open PySem PySem.Spec PyProof.Rows L2 DL
def preDraw : Cel → List PyData → Cel → (PyData → Prop) → Prop := fun c ds c' R => ∃ (v : V) (n : Nat) (lim : Int), c = rngC v n ∧ ds = [.int lim] ∧ 0 < lim ∧ lim < 2 ^ 200 ∧ n < 2 ^ 60 ∧ c' = rngC v (n + 1) ∧ R = fun d => ∃ r, d = .int r ∧ 0 ≤ r ∧ r < lim
theorem drawP : ∀ (v : V) (n : Nat) (lim : Int), 0 < lim → lim < 2 ^ 200 → n < 2 ^ 60 → preDraw (rngC v n) [.int lim] (rngC v (n + 1)) fun d => ∃ r, d = .int r ∧ 0 ≤ r ∧ r < lim := fun v n lim h1 h2 h3 => ⟨v, n, lim, rfl, rfl, h1, h2, h3, rfl, rfl⟩
end MM
namespace MM
open PySem PySem.Spec PyProof.Rows L2 DL
theorem pick_mem {α : Type} {ds : List α} {r : Int} (h0 : 0 ≤ r) (h1 : r < ds.length) : ∃ d, atI ds r = some d ∧ d ∈ ds := by
  obtain ⟨n, rfl⟩ : ∃ n : Nat, r = n := ⟨r.toNat, by omega⟩
  have h : n < ds.length := by omega
  exact ⟨ds[n], by rw [atI_nat']; exact List.getElem?_eq_getElem h, List.getElem_mem h⟩
end MM
namespace MM
theorem erase_map {α β : Type} (f : α → β) : ∀ (xs : List α) (i : Nat), (xs.map f).eraseIdx i = (xs.eraseIdx i).map f
  | [], _ => rfl
  | _ :: _, 0 => rfl
  | x :: xs, i + 1 => congrArg (f x :: ·) (erase_map f xs i)
end MM
namespace MM
open PySem PySem.Spec PyProof.Rows L2 DL
theorem canLay_lines : ∀ {xs : List S}, (∀ x ∈ xs, PyData.strOk x = true) → PyData.canLayAll0 (xs.map .str) = true
  | [], _ => by simp [PyData.canLayAll0]
  | x :: xs, h => by
    simp only [List.map_cons, PyData.canLayAll0, PyData.canLay0, Bool.and_eq_true]
    exact ⟨h x List.mem_cons_self, canLay_lines fun y hy => h y (List.mem_cons_of_mem _ hy)⟩
theorem depth_lines : ∀ {xs : List S}, PyData.depthAll (xs.map .str) = 0
  | [] => by simp [PyData.depthAll]
  | x :: xs => by
    simp only [List.map_cons, PyData.depthAll, PyData.depth, depth_lines (xs := xs)]
    rfl
theorem lines_shaped {xs : List S} (h : ∀ x ∈ xs, PyData.strOk x = true) : SeqAt.shaped (.list (xs.map .str)) = true := by
  simp [SeqAt.shaped, PyData.canLay0, PyData.depth, depth_lines, canLay_lines h]
theorem eqv_nil {xs : List S} : PyData.eqv (.list (xs.map .str)) (.list []) = xs.isEmpty := by
  cases xs <;> simp [PyData.eqv, PyData.eqvAll]
theorem nil_shaped : SeqAt.shaped (.list []) = true := by
  simp [SeqAt.shaped, PyData.canLay0, PyData.canLayAll0, PyData.depth, PyData.depthAll]
end MM
namespace MM
open PySem PySem.Spec PyProof.Rows L2 DL
theorem atI_strs {xs : List S} {i : Nat} {x : S} (h : xs[i]? = some x) : atI (xs.map PyData.str) (i : Int) = some (.str x) := by
  rw [atI_nat', List.getElem?_map, h]
  rfl
theorem rev_snoc {xs : List S} {i : Nat} (h : i < xs.length) : ∃ x, xs[xs.length - 1 - i]? = some x ∧ xs.reverse.take (i + 1) = xs.reverse.take i ++ [x] := by
  have h2 : xs.length - 1 - i < xs.length := by omega
  refine ⟨xs[xs.length - 1 - i], List.getElem?_eq_getElem h2, ?_⟩
  rw [List.take_add_one, List.getElem?_reverse h, List.getElem?_eq_getElem h2]
  rfl
theorem uq_take {xs : List S} {i : Nat} {x : S} (h : xs[i]? = some x) : uq (xs.take (i + 1)) = if i ≠ 0 ∧ xs[i - 1]? = some x then uq (xs.take i) else uq (xs.take i) ++ [x] := by
  rw [List.take_add_one, h]
  show uq (xs.take i ++ [x]) = _
  rw [uq_snoc]
  unfold stU
  rw [uq_last]
  have e : (xs.take i).getLast? = if i = 0 then none else xs[i - 1]? := by
    by_cases z : i = 0
    · subst z
      rfl
    · rw [if_neg z, List.getLast?_eq_getElem?, List.length_take]
      have hl := (List.getElem?_eq_some_iff.mp h).1
      rw [List.getElem?_take, if_pos (by omega)]
      congr 1
      omega
  rw [e]
  by_cases z : i = 0
  · rw [if_pos z, if_neg (by simp), if_neg (by simp [z])]
  · rw [if_neg z]
    by_cases y : xs[i - 1]? = some x
    · rw [if_pos y, if_pos ⟨z, y⟩]
    · rw [if_neg y, if_neg (fun q => y q.2)]
theorem cut_take {xs : List S} {i : Nat} {x : S} (h : xs[i]? = some x) (lo hi : Int) : cut (xs.take (i + 1)) lo hi = if lo ≤ (i : Int) ∧ (i : Int) < hi then cut (xs.take i) lo hi ++ [x] else cut (xs.take i) lo hi := by
  have hl := (List.getElem?_eq_some_iff.mp h).1
  have li : (xs.take i).length = i := by rw [List.length_take]; omega
  rw [List.take_add_one, h]
  show cut (xs.take i ++ [x]) lo hi = _
  unfold cut
  by_cases h2 : (i : Int) < hi
  · rw [List.take_of_length_le (l := xs.take i ++ [x]) (by rw [List.length_append, li]; simp; omega), List.take_of_length_le (l := xs.take i) (by rw [li]; omega)]
    by_cases h1 : lo ≤ (i : Int)
    · rw [if_pos ⟨h1, h2⟩, List.drop_append_of_le_length (by rw [li]; omega)]
    · rw [if_neg (fun q => h1 q.1), List.drop_of_length_le (by rw [List.length_append, li]; simp; omega), List.drop_of_length_le (by rw [li]; omega)]
  · rw [if_neg (fun q => h2 q.2), List.take_append_of_le_length (by rw [li]; omega)]
theorem cut_head {xs : List S} {n : Int} : cut xs 0 n = (Cm.head n).app xs := by
  unfold cut Cm.app
  simp
theorem cut_chop {xs : List S} {n : Int} (h : 0 ≤ n) : cut xs 0 ((xs.length : Int) - n) = (Cm.chop n).app xs := by
  unfold cut Cm.app
  have e : ((xs.length : Int) - n).toNat = xs.length - n.toNat := by omega
  simp [e]
theorem cut_skip {xs : List S} {n : Int} : cut xs n (xs.length : Int) = (Cm.skip n).app xs := by
  unfold cut Cm.app
  simp
theorem cut_tail {xs : List S} {n : Int} (h : 0 ≤ n) : cut xs ((xs.length : Int) - n) (xs.length : Int) = (Cm.tail n).app xs := by
  unfold cut Cm.app
  have e : ((xs.length : Int) - n).toNat = xs.length - n.toNat := by omega
  simp [e]
def stD (acc : List S) (x : S) : List S := if x ∈ acc then acc else acc ++ [x]
def dd (xs : List S) : List S := xs.foldl stD []
theorem dd_snoc (xs : List S) (x : S) : dd (xs ++ [x]) = stD (dd xs) x := by
  unfold dd
  rw [List.foldl_append]
  rfl
theorem dd_mem (xs : List S) : ∀ k, k ∈ dd xs ↔ k ∈ xs := by
  refine snoc_ind (P := fun xs => ∀ k, k ∈ dd xs ↔ k ∈ xs) (fun k => Iff.rfl) (fun xs x ih k => ?_) xs
  rw [dd_snoc]
  unfold stD
  split
  · rename_i h
    rw [ih, List.mem_append, List.mem_singleton]
    exact ⟨.inl, fun z => z.elim id fun e => e ▸ (ih x).1 h⟩
  · rw [List.mem_append, List.mem_append, ih]
theorem dd_nodup (xs : List S) : (dd xs).Nodup := by
  refine snoc_ind (P := fun xs => (dd xs).Nodup) .nil (fun xs x ih => ?_) xs
  rw [dd_snoc]
  unfold stD
  split
  · exact ih
  · rename_i h
    rw [List.nodup_append]
    refine ⟨ih, by simp, fun a ha b hb e => ?_⟩
    rw [List.mem_singleton] at hb
    exact h (hb ▸ e ▸ ha)
theorem dd_len (xs : List S) : (dd xs).length ≤ xs.length := nodup_len (dd_nodup xs) fun k hk => (dd_mem xs k).1 hk
theorem dd_srt {xs ys : List S} (h : ys.Perm (dd xs)) (s : sortedS ys = true) : ys = srt xs := srt_of s (h.nodup_iff.mpr (dd_nodup xs)) fun k => (h.mem_iff).trans (dd_mem xs k)
end MM
namespace DL
open PySem PySem.Spec PyProof.Rows L2
structure FnG (P : Program) (w : World) (K : Frg) (mg : Str → Option Value) (base : Heap) (CX : CXT) (k : Nat) (f : Addr) (fd : FuncData) (ps : List Str) (sp : Sp) : Prop where
  many : ∀ vs H Q E, sp vs H Q E → vs.length = ps.length
  goes : ∀ (A : Around) (outer : List Env) (s : Shared) (H : Hp) (args : Args) (us : List Value) (vs : List V) (Q : VK) (E : XK), A.guards = some [] → Room k A → Env0 P w K mg base A outer s H → BindsTo s fd args (ps.zip us) → Vals vs us → sp vs H Q E → codeAny (model P w) A (.call (.ref f) args) (CR CX outer P w H s Q E) s
theorem guards_deeper {A : Around} {env : Env} (h : A.guards = some []) : (A.deeper env).guards = some [] := h
section
variable {CX : CXT} {P : Program} {w : World} {K : Frg} {mg : Str → Option Value} {base : Heap} {k : Nat} {f : Addr} {fd : FuncData} {ps : List Str} {sp : Sp}
theorem FnG.of (F : FnOk P w K mg base CX k f fd ps sp) : FnG P w K mg base CX k f fd ps sp := ⟨F.len, fun A outer s H args us vs Q E _ => F.run A outer s H args us vs Q E⟩
theorem fnG_of {x qual : Str} {pa : Arguments} {body : List Stmt} {sc : Scope} {dV kV dc pm cv ct oc : Value} {an od : Option Addr} {sl : Array (Option Value)} {N : List Str}
    (lk : K.lookup f = some ⟨oc, od, .func (PySem.W.fnOf x qual pa body sc dV kV dc pm an cv ct), sl⟩) (hc : PySem.W.codeIn K cv qual = true) (S : FnScope N ps sc) (many : ∀ vs H Q E, sp vs H Q E → vs.length = ps.length)
    (hb : ∀ (A : Around) (outer : List Env) (s : Shared) (H : Hp) (vs : List V) (Q : VK) (E : XK), (A.deeper (envOfC qual sc s.heap.objs.size f cv)).guards = some [] → Room k (A.deeper (envOfC qual sc s.heap.objs.size f cv)) → sp vs H Q E →
      ∃ t, PSs (cxOf CX P w K mg base N qual sc f cv A outer s H E) body t ∧ t { nx := fun _ H' => Q .non H', rt := Q } (L2.start N vs) H) :
    FnG P w K mg base CX (k + 1) f (PySem.W.fnOf x qual pa body sc dV kV dc pm an cv ct) ps sp := by
  constructor
  · exact many
  · intro A outer s H args us vs Q E gu hr e0 bi rv hs
    have kin : K.In s.heap := e0.mod.kin.keeps (fun b o e => (e0.bs b o e).1)
    have nol : s.heap.NoLimit := e0.mod.nolimit.keeps (fun b o e => (e0.bs b o e).1)
    have kinds : ∀ y ∈ ps.zip us, sc.names.lookup y.1 = some .local ∨ (sc.names.lookup y.1 = some .cell ∧ ((cellsFrom (s.heap.objs.size + 1) sc.names []).lookup y.1).isSome = true) := by
      rintro ⟨n, v⟩ hy
      exact (S.par n (List.of_mem_zip hy).1).imp id (fun q => ⟨q, PySem.W.cellsFrom_some _ _ _ (.inl q)⟩)
    apply codeAny_call_function hr.depth (kin _ _ lk) rfl S.co S.gen rfl (PySem.W.codeRec_of kin hc)
    apply bi
    apply wpAny_newFunctionEnv_cells S.kind kinds
    intro env he s1 x1
    subst he
    refine And.intro (nol.keeps x1.toInCall.keep) (codeAny_func ?_)
    obtain ⟨t, ht, hq⟩ := hb A outer s H vs Q E (guards_deeper gu) (hr.deeper _) hs
    have J0 := inv_start (CX := CX) (E := E) S hr.hd e0 (many _ _ _ _ hs) rv x1
    refine wpAny_mono (ht.run [] s1 _ H _ J0 hq) ?_ (fun e s' z => z)
    intro fl s' z
    match fl, z with
    | .ret u, ⟨v, σ', H', J, r', q⟩ => exact ⟨v, H', J.os, J.bare, J.base, J.hok, r', q⟩
    | .next, ⟨σ', H', J, q⟩ => exact ⟨V.non, H', J.os, J.bare, J.base, J.hok, rfl, q⟩
    | .brk, ⟨_, _, _, q⟩ => exact q.elim
    | .cont, ⟨_, _, _, q⟩ => exact q.elim
theorem okG {x qual : Str} {st : Stmt} {N : List Str} (F : Fun K x qual st f fd) (S : FnScope N ps (defScope st)) (many : ∀ vs H Q E, sp vs H Q E → vs.length = ps.length)
    (hb : ∀ (cv : Value) (A : Around) (outer : List Env) (s : Shared) (H : Hp) (vs : List V) (Q : VK) (E : XK), (A.deeper (envOfC qual (defScope st) s.heap.objs.size f cv)).guards = some [] → Room k (A.deeper (envOfC qual (defScope st) s.heap.objs.size f cv)) → sp vs H Q E →
      ∃ t, PSs (cxOf CX0 P w K mg base N qual (defScope st) f cv A outer s H E).nox (defBody st) t ∧ t { nx := fun _ H' => Q .non H', rt := Q } (L2.start N vs) H) : FnG P w K mg base CX0 (k + 1) f fd ps sp := by
  obtain ⟨oc, od, kV, dc, pm, an, cv, ct, sl, rfl, lk, hc⟩ := F.ex
  apply fnG_of lk hc S many
  intro A outer s H vs Q E g hr hs
  obtain ⟨t, h, q⟩ := hb cv A outer s H vs Q E g hr hs
  exact ⟨t, h.nox, q⟩
end
theorem cr_repr {X : Cx} (hg : X.A.guards = some []) (hu : X.A.units + 64 < cLine) : CallR X (.builtin "repr") (fun xs H Q => ∃ v d, xs = [v] ∧ Dp X.K H v d ∧ d.showable = true ∧ d.depth ≤ 60 ∧ d.shown.length ≤ sizeLine ∧ d.hasDict = false ∧ Q (.str d.shown) H) := by
  intro pins s σ H xs us Q I r h
  obtain ⟨v, d, rfl, hd, h1, h2, h3, h4, q⟩ := h
  obtain ⟨u, rfl, ru⟩ := r.one
  obtain ⟨as, hr⟩ := Dp.reads I d v u hd ru
  have nd : d.hasDict = true → sysModules ∉ as := fun z => by rw [h4] at z; cases z
  cases hr with
  | none =>
    simp only [PyData.shown] at q
    exact PySem.P.repr_of_none ⟨.str _, H, I.tok _, ⟨_, rfl⟩, q⟩
  | bool b =>
    simp only [PyData.shown] at q
    exact PySem.P.repr_of_bool ⟨.str _, H, I.tok _, ⟨_, rfl⟩, q⟩
  | int i t =>
    simp only [PyData.shown] at q
    exact PySem.P.repr_of_int (by simpa [PyData.showable] using h1) ⟨.str _, H, I.tok _, ⟨_, rfl⟩, q⟩
  | str x t =>
    simp only [PyData.shown] at q h3
    exact PySem.P.repr_of_str ⟨.str _, H, I.tok _, ⟨_, rfl⟩, q⟩ h3
  | list a1 a2 a3 a4 => exact repr_of_reads' (.list a1 a2 a3 a4) h1 nd hg (by omega) (fun _ _ e => e) (fun h' u tk hk => ⟨.str _, H, I.kept hk, ⟨_, rfl⟩, q⟩) h3
  | tuple a1 a2 a3 a4 => exact repr_of_reads' (.tuple a1 a2 a3 a4) h1 nd hg (by omega) (fun _ _ e => e) (fun h' u tk hk => ⟨.str _, H, I.kept hk, ⟨_, rfl⟩, q⟩) h3
  | dict a1 a2 a3 a4 a5 => cases hd
theorem cw_repr {K : Frg} {d : PyData} {Pd : PyData → Prop} (h1 : d.showable = true) (h2 : d.depth ≤ 60) (h3 : d.shown.length ≤ sizeLine) (h4 : d.hasDict = false) (p : Pd (.str d.shown)) :
    CW K (fun xs H Q => ∃ v d, xs = [v] ∧ Dp K H v d ∧ d.showable = true ∧ d.depth ≤ 60 ∧ d.shown.length ≤ sizeLine ∧ d.hasDict = false ∧ Q (.str d.shown) H) [d] Pd := fun T B ws σ I H vs k a Q q => by
  cases a with
  | cons h r =>
    cases r
    exact ⟨_, d, rfl, dp_of k h, h1, h2, h3, h4, q _ _ _ _ p k (Same.refl I) (.str _)⟩
theorem law_goes {P : Program} {w : World} {K : Frg} {mg mb : Str → Option Value} {k : Nat} {fa a : Addr} {fd : FuncData} {x : Str} {sp : Sp} {s : Shared} {vs : List Value} {ns : List Int}
    (kin : K.In s.heap) (ng : s.heap.Ns mainGlobals mg) (nb : s.heap.Ns builtinsNs mb) (eb : ∀ x : Str, x ≠ "__name__" → mb x = bootBuiltins x) (nl : s.heap.NoLimit) (g0 : s.gens = #[])
    (ha : s.heap.get? a = some { cls := .type "list", data := .seq vs.toArray }) (hi : IntsAre vs ns) (hl : ns.length ≤ sizeLine) (hr : Room k callerA)
    (F : ∀ base : Heap, K.In base → base.Ns mainGlobals mg → FnG P w K mg base CX0 k fa fd [x] sp) (bi : ∀ (s : Shared) (u : Value), BindsTo s fd ⟨[u], []⟩ [(x, u)])
    (hs : ∀ H : Hp, Only H → SqL K H a (ns.map V.int) → sp [.ref a] H (fun v _ => v = .bl true) fun _ _ _ => False) :
    codeAny (model P w) callerA (.call (.ref fa) ⟨[.ref a], []⟩) (fun r s' => r = .ok (.ret (.bool true)) ∧ OldK s.heap s'.heap ∧ s'.os = s.os ∧ AllBare s'.gens) s := by
  have rv := vals_ints hi
  have key : ∀ H : Hp, Only H → SqL K H a (ns.map V.int) → HOk P w H s.heap → (∀ b, H b ≠ none → b = a ∧ K.lookup a = none) →
      codeAny (model P w) callerA (.call (.ref fa) ⟨[.ref a], []⟩) (fun r s' => r = .ok (.ret (.bool true)) ∧ OldK s.heap s'.heap ∧ s'.os = s.os ∧ AllBare s'.gens) s := by
    intro H only sq hok dom
    have stays : ∀ b o, s.heap.get? b = some o → H b = none → (hidT s.heap H).get? b = some o := fun _ _ e n => hidT_get e n
    have plain : ∀ b o, s.heap.get? b = some o → (∀ u, o.data ≠ .seq vs.toArray u) → H b = none := by
      intro b o e d
      rcases h : H b with _ | u
      · rfl
      · have z := (dom b (by rw [h]; exact nofun)).1
        rw [z, ha] at e
        cases e
        exact absurd rfl (d _)
    have ns_ : ∀ (b : Addr) (m : Str → Option Value), s.heap.Ns b m → (hidT s.heap H).Ns b m := by
      rintro b m ⟨o, es, ep, e, d, r⟩
      exact ⟨o, es, ep, stays b o e (plain b o e fun u z => by rw [d] at z; cases z), d, r⟩
    have kb : K.In (hidT s.heap H) := by
      intro b o e
      apply stays b o (kin b o e)
      rcases h : H b with _ | u
      · rfl
      · obtain ⟨z, y⟩ := dom b (by rw [h]; exact nofun)
        rw [z, y] at e
        cases e
    obtain ⟨mc, c1, c2⟩ := nl
    have e0 : Env0 P w K mg (hidT s.heap H) callerA [] s H := by
      constructor
      · rfl
      · exact ⟨kb, ns_ _ _ ng, ⟨mb, ns_ _ _ nb, eb⟩, ⟨mc, ns_ _ _ c1, c2⟩⟩
      · exact fun b o e => of_hidT e
      · exact Nat.le_of_eq (hidT_size _ _)
      · trivial
      · exact fun b hb => nomatch hb
      · exact hok
      · exact .of_eq g0
    apply codeAny_mono ((F _ kb (ns_ _ _ ng)).goes callerA [] s H ⟨[.ref a], []⟩ [.ref a] [.ref a] _ _ rfl hr e0 (bi s (.ref a)) (.cons rfl .nil) (hs H only sq))
    rintro (e | f) s' z
    · exact z.elim
    · match f, z with
      | .ret u, ⟨v, H', os, bare, un, ok', r', q⟩ =>
        have q : v = .bl true := q
        subst q
        have r' : u = Value.bool true := r'
        subst r'
        refine ⟨rfl, OldK.of_keep ?_, os, bare⟩
        intro b o e
        rcases h : H b with _ | u
        · exact un.keep b o e h (fun z => nomatch z) (fun z => nomatch z)
        · rcases only b with z | ⟨ob, xs, z⟩
          · rw [h] at z
            cases z
          · have y1 := (hok b _ z).1
            have y2 := (ok' b _ (un.frzs b ob _ z)).1
            rw [e] at y1
            cases y1
            exact y2
  rcases hk : K.lookup a with _ | o
  · have one : ∀ b, (fun b => if b = a then some (HO.frz { cls := .type "list", data := .seq vs.toArray } (.lst (ns.map V.int))) else none) b ≠ none → b = a := fun b hb => by
      by_cases z : b = a
      · exact z
      · exact absurd (if_neg z) hb
    apply key (fun b => if b = a then some (.frz { cls := .type "list", data := .seq vs.toArray } (.lst (ns.map V.int))) else none)
    · intro b
      by_cases z : b = a
      · exact .inr ⟨_, _, if_pos z⟩
      · exact .inl (if_neg z)
    · exact .inl (.inr ⟨_, if_pos rfl⟩)
    · intro b u hu
      have z := one b (by rw [hu]; exact nofun)
      subst z
      have hu := (if_pos rfl).symm.trans hu
      cases hu
      exact ⟨ha, (by rw [List.length_map]; exact hl), vs, _, rv, ha⟩
    · exact fun b hb => ⟨one b hb, hk⟩
  · have e := kin a o hk
    rw [ha] at e
    cases e
    refine key (fun _ => none) (fun _ => .inl rfl) (.inr ⟨_, vs.toArray, _, hk, rfl, rfl, rfl, ?_, by simpa using rv⟩) (fun b u z => nomatch z) (fun b z => absurd rfl z)
    rw [List.size_toArray, hi.length]
    exact hl
theorem walk_goes {l : PySem.W.OpenLaw} {n k : Nat} {q : Program} {loose : List Str} {XP : (Str → Option Value) → Heap → Prop} {YP : World → Heap → Prop} {d : DefRec} {K : Params → Frg} {sp : Frg → Sp} {x : Str}
    (hn : l.most = some n) (hn2 : n ≤ sizeLine) (hdf : d.params.defaults = []) (hr : Room k callerA) (hY : ∀ (w : World) (h : Heap), YP w h → (K w.params).In h)
    (F : ∀ (w : World) (mg : Str → Option Value) (fa : Addr) (h : Heap), (K w.params).In h → h.Ns mainGlobals mg → mg d.name = some (.ref fa) →
      ∃ fd : FuncData, (∀ (s : Shared) (u : Value), BindsTo s fd ⟨[u], []⟩ [(x, u)]) ∧ ∀ base : Heap, (K w.params).In base → base.Ns mainGlobals mg → FnG l.prog w (K w.params) mg base CX0 k fa fd [x] (sp (K w.params)))
    (hs : ∀ (K : Frg) (H : Hp) (a : Addr) (ns : List Int), ns.length ≤ n → Only H → SqL K H a (ns.map V.int) → sp K [.ref a] H (fun v _ => v = .bl true) fun _ _ _ => False) :
    PySem.W.WalkO q loose XP YP l.row.toRowW d [] (fun f vs => PySem.call f vs) := by
  apply Att.attach_call hn hdf
  intro w s0 s1 mg mb fa o pm cd doc a vs ns G Y ho hd hcd hmg hobj hints hlen hg
  have kin := hY w _ Y
  obtain ⟨fd, hb, hF⟩ := F w mg fa _ kin G.T.g hmg
  exact law_goes kin G.T.g G.T.b G.T.builtins G.T.nolimit hg hobj hints (Nat.le_trans hlen hn2) hr hF hb (fun H hO hS => hs _ H a ns hlen hO hS)
end DL
namespace MM
open PySem PySem.Spec PyProof.Rows L2 DL
theorem cw_repN {K : Frg} {d : PyData} {Pd : PyData → Prop} (h : Nice 2522 d) (p : Pd (.str d.shown)) : CW K (fun xs H Q => ∃ v d, xs = [v] ∧ Dp K H v d ∧ d.showable = true ∧ d.depth ≤ 60 ∧ d.shown.length ≤ sizeLine ∧ d.hasDict = false ∧ Q (.str d.shown) H) [d] Pd := cw_repr h.sho h.dep (h.fits (by decide)) h.hd p
theorem ew_repr2N {K : Frg} {ws : List SD} {i : Nat} {d1 d2 : List PyData} {P : PyData → List SD → Prop} (hi : ws[i]? = some (.cel (twoC K d1 d2))) (h : Nice 2522 (.list [.list d1, .list d2])) (p : P (.str (PyData.shown (.list [.list d1, .list d2]))) ws) :
    EW K ws (tCB (fun xs H Q => ∃ v d, xs = [v] ∧ Dp K H v d ∧ d.showable = true ∧ d.depth ≤ 60 ∧ d.shown.length ≤ sizeLine ∧ d.hasDict = false ∧ Q (.str d.shown) H) (tCons (tVar i) tNil)) P := ew_repr2 hi h.sho h.dep (h.fits (by decide)) h.hd p
theorem nice_two {a b : PyData} (h1 : Nice 1260 a ∧ a.depth ≤ 2) (h2 : Nice 1260 b ∧ b.depth ≤ 2) : Nice 2522 (.list [a, b]) :=
  (nice_list (xs := [a, b]) (n := 1260) (k := 2) (m := 2) (fun d hd => by
    rcases List.mem_cons.mp hd with rfl | hd
    · exact h1
    · rw [List.mem_singleton.mp hd]
      exact h2) (Nat.le_refl 2) (by decide)).1
theorem nice_cm {c : Cm} (ok : c.ok) (b : c.num < 2 ^ 150) : Nice 402 c.d ∧ c.d.depth ≤ 1 := by
  have p : ∀ {n : Int}, 0 ≤ n → n < 2 ^ 150 → Nice 200 (.int n) ∧ (PyData.int n).depth ≤ 0 := fun {n} h1 h2 => nice_int (abs_pow h1 (pow_mono h2 (by decide)))
  have st : ∀ {x : S}, PyData.strOk x = true → x.cps.size ≤ 20 → Nice 200 (.str x) ∧ (PyData.str x).depth ≤ 0 := fun h l => nice_str h (Nat.le_trans l (by decide))
  have two : ∀ {x : S} {n : Int}, PyData.strOk x = true → x.cps.size ≤ 20 → 0 ≤ n → n < 2 ^ 150 → Nice 402 (.tuple [.str x, .int n]) ∧ (PyData.tuple [.str x, .int n]).depth ≤ 1 := fun h1 h2 h3 h4 =>
    nice_tuple (n := 200) (k := 0) (m := 2) (fun d hd => by
      rcases List.mem_cons.mp hd with rfl | hd
      · exact st h1 h2
      · rw [List.mem_singleton.mp hd]
        exact p h3 h4) (Nat.le_refl 2) (by decide)
  have one : ∀ {x : S}, PyData.strOk x = true → x.cps.size ≤ 20 → Nice 402 (.tuple [.str x]) ∧ (PyData.tuple [.str x]).depth ≤ 1 := fun h1 h2 =>
    nice_tuple (n := 200) (k := 0) (m := 2) (fun d hd => by
      rw [List.mem_singleton.mp hd]
      exact st h1 h2) (Nat.le_succ 1) (by decide)
  cases c with
  | head n => exact two (by decide +kernel) (by decide +kernel) ok b
  | tail n => exact two (by decide +kernel) (by decide +kernel) ok b
  | skip n => exact two (by decide +kernel) (by decide +kernel) ok b
  | chop n => exact two (by decide +kernel) (by decide +kernel) ok b
  | rev => exact one (by decide +kernel) (by decide +kernel)
  | uniq => exact one (by decide +kernel) (by decide +kernel)
  | sort => exact one (by decide +kernel) (by decide +kernel)
theorem nice_plan {cs : List Cm} (h : ∀ c ∈ cs, c.ok ∧ c.num < 2 ^ 150) (l : cs.length ≤ 1) : Nice 1260 (planD cs) ∧ (planD cs).depth ≤ 2 := by
  obtain ⟨h1, h2⟩ := nice_list (xs := cs.map Cm.d) (n := 402) (k := 1) (m := 1) (fun d hd => by
    obtain ⟨c, hc, rfl⟩ := List.mem_map.mp hd
    exact nice_cm (h c hc).1 (h c hc).2) (by rw [List.length_map]; exact l) (by decide)
  exact ⟨h1.le (by decide), h2⟩
theorem eqv_refl_nil : PyData.eqv (.list []) (.list []) = true := by simp [PyData.eqv, PyData.eqvAll]
theorem eqv_one {x : S} : PyData.eqv (.list [.str x]) (.list [.str x]) = true := by simp [PyData.eqv, PyData.eqvAll]
end MM
local macro_rules | `(tactic| walk_at "eva") => `(tactic| first
  | ((with_reducible refine' DL.ew_var ?hh ?_); (case hh => rfl))
  | with_reducible refine DL.ew_int ?_
  | with_reducible refine DL.ew_str ?_
  | with_reducible refine DL.ew_bl ?_
  | with_reducible refine DL.ew_non ?_
  | with_reducible refine ⟨_, And.intro rfl ?_⟩
  | with_reducible refine And.intro rfl ?_
  | with_reducible refine DL.ew_cat ?_
  | with_reducible refine DL.ew_rep ?_
  | ((with_reducible refine' DL.ew_ixC ?hh ?_); (case hh => rfl))
  | ((with_reducible refine' DL.ew_ixM ?hh ?_); (case hh => rfl))
  | ((with_reducible refine' DL.ew_neM ?hh ?_); (case hh => rfl))
  | ((with_reducible refine' DL.ew_eqM ?hh ?_); (case hh => rfl))
  | ((with_reducible refine' DL.ew_lenM ?hh ?_); (case hh => rfl))
  | ((with_reducible refine' DL.ew_ef (DL.ef_sliceS ?hh ?_)); (case hh => rfl))
  | with_reducible refine DL.ew_ef (DL.ef_slice ?_)
  | with_reducible refine DL.ew_ef (DL.ef_rev ?_)
  | with_reducible refine DL.ew_ef (DL.ef_callF ?_)
  | with_reducible refine DL.oe_no ?_
  | with_reducible refine DL.oe_part ?_
  | with_reducible refine DL.ef_slice ?_
  | with_reducible refine DL.ef_rev ?_
  | with_reducible refine DL.ef_callF ?_
  | with_reducible refine DL.ew_callSw ?_
  | with_reducible refine DL.ew_callOne ?_
  | with_reducible refine DL.ew_op ?_
  | with_reducible refine DL.ew_un ?_
  | with_reducible refine DL.of_cat (Nat.le_of_ble_eq_true rfl) ?_
  | with_reducible refine DL.ow_ii ?_
  | with_reducible refine DL.uw_i ?_
  | with_reducible refine DL.ow_ib ?_
  | with_reducible refine DL.ow_eqI ?_
  | with_reducible refine DL.ow_neI ?_
  | with_reducible refine DL.ow_eqS ?_
  | with_reducible refine DL.ow_neS ?_
  | ((with_reducible refine' DL.ow_ci ?hh ?_); (case hh => first | (show (0 : Int) < _; omega) | (show (0 : Int) < _; decide) | exact Or.inl ⟨by omega, by omega⟩ | exact Or.inr ⟨by omega, by omega⟩ | exact ⟨by omega, by omega⟩ | exact ⟨by decide, by decide, by decide⟩ | assumption))
  | with_reducible refine' DL.ow_ci ?_ ?_
  | ((with_reducible refine' DL.ow_ixL ?hh ?_); (case hh => first | rfl | assumption))
  | ((with_reducible refine' DL.ow_ixT ?hh ?_); (case hh => first | rfl | assumption))
  | ((with_reducible refine' DL.ow_in ?hh ?h1 ?h2 ?_); (case hh => first | exact Or.inl rfl | exact Or.inr rfl); (case h1 => rfl); (case h2 => rfl))
  | with_reducible refine DL.ew_cst ?_
  | (refine DL.if_yes (by first | decide | assumption | omega) ?_)
  | (refine DL.if_no (by first | decide | assumption | omega) ?_)
  | (refine DL.ifn_yes (by first | decide | assumption | omega) ?_)
  | (refine DL.ifn_no (by first | decide | assumption | omega) ?_)
  | (refine DL.ifbT (by rfl) ?_)
  | (refine DL.ifbF (by rfl) ?_)
  | with_reducible refine DL.tw_test ?_
  | ((with_reducible refine' DL.tw_truM ?hh ?_); (case hh => rfl))
  | ((with_reducible refine' DL.sw_append ?hh ?_); (case hh => rfl))
  | with_reducible refine DL.tw_B ?_
  | with_reducible refine DL.tw_and ?_
  | with_reducible refine DL.tw_or ?_
  | with_reducible refine DL.tw_not ?_
  | with_reducible refine DL.tw_yes ?_
  | with_reducible refine DL.aw_cons ?_
  | with_reducible refine DL.aw_nil ?_
  | (with_reducible refine DL.ew_tup ?_)
  | (with_reducible refine DL.ew_lst ?_)
  | (with_reducible refine DL.ef_lst ?_)
  | with_reducible refine DL.ew_if ?_
  | with_reducible refine DL.ew_andV ?_
  | with_reducible refine DL.ew_orV ?_
  | with_reducible refine DL.ew_notV ?_
  | with_reducible refine DL.ew_chain ?_
  | ((with_reducible refine' DL.cw_len ?hh ?_); (case hh => first | exact Or.inl rfl | exact Or.inr rfl))
  | with_reducible refine DL.ew_cb ?_
  | with_reducible refine DL.cw_abs ?_
  | with_reducible refine DL.cw_max2 ?_
  | with_reducible refine DL.cw_min2 ?_
  | with_reducible refine DL.cw_int1 ?_
  | with_reducible refine DL.sw_seq ?_
  | with_reducible refine DL.sw_next ?_
  | with_reducible refine DL.nx_tn ?_
  | with_reducible refine DL.ct_tn ?_
  | with_reducible refine DL.nx_mk ?_
  | with_reducible refine DL.nx_e ?_
  | with_reducible refine DL.rt_mk ?_
  | with_reducible refine DL.sw_if ?_
  | (with_reducible refine DL.sw_own (DL.ef_lst ?_))
  | with_reducible refine DL.sw_set ?_
  | ((with_reducible refine' DL.sw_setC ?hh ?_); (case hh => rfl))
  | ((with_reducible refine' DL.sw_setM ?hh ?_); (case hh => rfl))
  | with_reducible refine DL.sw_asg ?_
  | ((with_reducible refine' DL.sw_retH ?hh ?_); (case hh => rfl))
  | with_reducible refine DL.sw_ret ?_
  | with_reducible refine DL.rf_mk ?_
  | with_reducible refine DL.sw_drop ?_
  | ((with_reducible refine' DL.ew_draw MM.drawP ?hh ?_); (case hh => rfl))
  | with_reducible refine DL.ew_callP ?_
  | ((with_reducible refine' And.intro (DL.plain_cons ?h1 DL.plain_nil) ?_); (case h1 => first | exact Or.inl rfl | exact Or.inr ⟨_, rfl⟩))
  | ((with_reducible refine' And.intro (DL.plain_cons ?h1 (DL.plain_cons ?h2 DL.plain_nil)) ?_); (case h1 => first | exact Or.inl rfl | exact Or.inr ⟨_, rfl⟩); (case h2 => first | exact Or.inl rfl | exact Or.inr ⟨_, rfl⟩))
  | ((refine' And.intro (DL.plain_cons ?h1 DL.plain_nil) ?_); (case h1 => first | exact Or.inl rfl | exact Or.inr ⟨_, rfl⟩))
  | ((refine' And.intro (DL.plain_cons ?h1 (DL.plain_cons ?h2 DL.plain_nil)) ?_); (case h1 => first | exact Or.inl rfl | exact Or.inr ⟨_, rfl⟩); (case h2 => first | exact Or.inl rfl | exact Or.inr ⟨_, rfl⟩))
  | ((with_reducible refine' DL.gc_name ?hh ?_); (case hh => decide))
  | ((with_reducible refine' DL.gc_tup ?hh ?_); (case hh => rfl))
  | with_reducible refine DL.gcs_cons ?_
  | with_reducible refine DL.gcs_nil ?_
  | with_reducible refine DL.iw_enum ?_
  | ((with_reducible refine' DL.gw_tup ?hh ?_); (case hh => rfl))
  | with_reducible refine DL.gws_cons ?_
  | with_reducible refine DL.gws_nil ?_
  | with_reducible refine DL.sw_par ?_
  | with_reducible refine DL.sw_for ?_
  | with_reducible refine DL.iw_list ?_
  | with_reducible refine DL.iw_tup ?_
  | with_reducible refine DL.iw_range1 ?_
  | with_reducible refine DL.iw_range2 ?_
  | with_reducible refine DL.gw_name ?_
  | (refine And.intro (Nat.le_of_ble_eq_true rfl) ?_)
  | (with_reducible refine And.intro (by assumption) ?_)
  | ((with_reducible refine' Exists.intro _ (And.intro ?hh ?_)); (case hh => first | with_reducible_and_instances rfl | with_reducible assumption))
  | (with_reducible refine ⟨_, _, rfl, rfl, (by first | omega | decide), (by first | omega | decide), (by omega), ?_⟩)
  | (refine' Exists.intro _ (And.intro ?hh ?_); (case hh => first | rfl | decide))
  | (refine And.intro (by first | decide | exact Nat.le_of_ble_eq_true rfl | (simp; decide)) ?_))
local macro_rules | `(tactic| walk_at "efa") => `(tactic| first
  | ((with_reducible refine' DL.sw_retH ?hh ?_); (case hh => rfl))
  | with_reducible refine DL.sw_retE ?_
  | walk_at "eva")
namespace K01
open PySem PySem.Spec PyProof.Rows L2 DL MM
def topS (i : Nat) : Stmt := PySem.Challenge.pw_pipeform_k01_single_commands.main.body.getD i (.Pass ⟨0, 0, 0, 0⟩)
abbrev s_PipeError : Stmt := topS 1
abbrev s_InvalidCommand : Stmt := topS 2
abbrev s_is_command : Stmt := topS 6
abbrev s_check_pipeline : Stmt := topS 7
abbrev s_kept_range : Stmt := topS 8
abbrev s_run : Stmt := topS 10
abbrev s__apply : Stmt := topS 11
abbrev s__merged : Stmt := topS 12
abbrev s__law_rng : Stmt := topS 14
abbrev s__law_draw : Stmt := topS 15
abbrev s__law_kinds : Stmt := topS 16
abbrev s__law_items : Stmt := topS 17
abbrev s__law_command : Stmt := topS 18
abbrev s__law_step : Stmt := topS 19
abbrev s__law_result : Stmt := topS 20
abbrev s_law : Stmt := topS 21
structure Bt (mg : PySem.Str → Option Value) : Prop where
  len : mg "len" = none
  enumerate : mg "enumerate" = none
  min : mg "min" = none
  list : mg "list" = none
  set : mg "set" = none
  sorted : mg "sorted" = none
  abs : mg "abs" = none
  range : mg "range" = none
  max : mg "max" = none
  repr : mg "repr" = none
  int : mg "int" = none
section
variable {P : Program} {w : World} {K : Frg} {mg : PySem.Str → Option Value} {base : Heap}
def slicD : PyData := .tuple [.str "head", .str "tail", .str "skip", .str "chop"]
def plainD : PyData := .tuple [.str "reverse", .str "uniq", .str "sort"]
theorem sc_is_command : FnScope ["element"] ["element"] (defScope s_is_command) := ⟨rfl, rfl, rfl, by decide +kernel, rfl, by decide +kernel, by decide +kernel⟩
def preCmd : List PyData → (PyData → Prop) → Prop := fun ds R => ∃ c : Cm, ds = [c.d] ∧ c.ok ∧ R = (· = .bool true)
theorem ok_is_command {f : Addr} {fd : FuncData} {k : Nat} (F : Fun K "is_command" "is_command" s_is_command f fd) (B : Bt mg) (c_SLICING : Cst K mg "SLICING" slicD) (c_PLAIN : Cst K mg "PLAIN" plainD) : FnOk P w K mg base CX0 (k + 1) f fd ["element"] (SpP K preCmd) := by
  refine okP F sc_is_command (fun ds R ⟨c, e, _⟩ => by rw [e]; rfl) fun cv A outer s H Q E ds R hr ⟨c, e1, ok, e2⟩ => ?_
  subst e1
  subst e2
  refine ⟨_, (pss_cons (ps_if (pt_cmpR op_eq (pe_callB call_len_seq (by rfl) B.len PySem.boot_len (pa_cons (pv 0) pa_nil)) pe_int (by rfl)) (pss_one (ps_ret (pe_cmpR op_in_seq (pe_ix ix_tup (pv 0) pe_int (fun _ _ => rfl)) (DL.pe_cst (by rfl) c_PLAIN) (by rfl)))) pss_nil)
      (pss_one (ps_ret (pe_and (pe_cmpR op_in_seq (pe_ix ix_tup (pv 0) pe_int (fun _ _ => rfl)) (DL.pe_cst (by rfl) c_SLICING) (by rfl)) (pe_one (pe_cmpR op_ge (pe_ix ix_tup (pv 0) pe_int (fun _ _ => rfl)) pe_int (by rfl))))))), fun T I q => ?_⟩
  dsimp only [cxOf, Cx.nox, Cx.wish]
  cases c <;> dsimp only [Cm.d, Cm.ok, Cm.num] at ok ⊢ <;> (repeat walk_at "eva")
  all_goals first | exact q _ _ _ rfl (Same.refl I) | exact q _ _ _ (congrArg PyData.bool (decide_eq_true ok)) (Same.refl I)
theorem sc_check_pipeline : FnScope ["pipeline", "index", "element"] ["pipeline"] (defScope s_check_pipeline) := ⟨rfl, rfl, rfl, by decide +kernel, rfl, by decide +kernel, by decide +kernel⟩
def preChk : List PyData → (PyData → Prop) → Prop := fun ds R => ∃ cs : List Cm, ds = [planD cs] ∧ (∀ c ∈ cs, c.ok) ∧ R = (· = .none)
theorem ok_check_pipeline {f : Addr} {fd : FuncData} (F : Fun K "check_pipeline" "check_pipeline" s_check_pipeline f fd) (B : Bt mg) (G_is_command : Df P w K mg base 1 "is_command" ["element"] (SpP K preCmd)) : FnOk P w K mg base CX0 2 f fd ["pipeline"] (SpP K preChk) := by
  refine okP F sc_check_pipeline (fun ds R ⟨c, e, _⟩ => by rw [e]; rfl) fun cv A outer s H Q E ds R hr ⟨cs, e1, ok, e2⟩ => ?_
  subst e1
  subst e2
  refine ⟨_, (pss_one (ps_for PassesOwn.never rfl (pi_enum (by rfl) B.enumerate (pa_cons (pv 0) pa_nil)) (pg_tup rfl (pgs_cons (pg_name (i := 1) sc_check_pipeline.nd rfl (Or.inl rfl)) (pgs_cons (pg_name (i := 2) sc_check_pipeline.nd rfl (Or.inl rfl)) pgs_nil))) (pss_one (ps_if (pt_not (pt_val (DL.pe_df G_is_command hr (by decide) (by rfl) (pa_cons (pv 2) pa_nil)))) (pss_one ps_never) pss_nil)))), fun T I q => ?_⟩
  dsimp only [cxOf, Cx.nox, Cx.wish]
  repeat walk_at "eva"
  refine ⟨fun i w => ∃ a b, w = [.dat (planD cs), a, b], ⟨_, _, rfl⟩, ?_, ?_⟩
  · rintro i d w B' hi ⟨a, b, rfl⟩ eb
    obtain ⟨x, hx, rfl⟩ := enumD_get hi
    rw [List.getElem?_map] at hx
    cases hc : cs[i]? with
    | none => rw [hc] at hx; cases hx
    | some c =>
      rw [hc] at hx
      cases hx
      repeat walk_at "eva"
      refine ⟨_, ⟨c, rfl, ok c (List.mem_of_getElem? hc), rfl⟩, fun d hd => ?_⟩
      subst hd
      repeat walk_at "eva"
      exact ⟨_, _, rfl⟩
  · rintro w ⟨a, b, rfl⟩
    exact fun σ I' H' k => q _ _ _ rfl (Same.refl I) σ I' H' _ k .non
theorem sc_kept_range : FnScope ["command", "length", "name", "number"] ["command", "length"] (defScope s_kept_range) := ⟨rfl, rfl, rfl, by decide +kernel, rfl, by decide +kernel, by decide +kernel⟩
def preKept : List PyData → (PyData → Prop) → Prop := fun ds R => ∃ (c : Cm) (len : Int), ds = [c.d, .int len] ∧ c.slc ∧ R = (· = .tuple [.int (c.rng len).1, .int (c.rng len).2])
theorem ok_kept_range {f : Addr} {fd : FuncData} {k : Nat} (F : Fun K "kept_range" "kept_range" s_kept_range f fd) (B : Bt mg) : FnOk P w K mg base CX0 (k + 1) f fd ["command", "length"] (SpP K preKept) := by
  refine okP F sc_kept_range (fun ds R ⟨c, _, e, _⟩ => by rw [e]; rfl) fun cv A outer s H Q E ds R hr ⟨c, len, e1, ok, e2⟩ => ?_
  subst e1
  subst e2
  refine ⟨_, (pss_cons (ps_asg (pv 0) (pg_tup rfl (pgs_cons (pg_name (i := 2) sc_kept_range.nd rfl (Or.inl rfl)) (pgs_cons (pg_name (i := 3) sc_kept_range.nd rfl (Or.inl rfl)) pgs_nil))))
      (pss_cons (ps_set (i := 3) sc_kept_range.nd rfl (Or.inl rfl) (pe_callB (call_min2 rfl) (by rfl) B.min (by decide +kernel) (pa_cons (pv 3) (pa_cons (pv 1) pa_nil))))
      (pss_cons (ps_if (pt_cmpR op_eq (pv 2) pe_str (by rfl)) (pss_one (ps_ret (pe_tup (pa_cons pe_int (pa_cons (pv 3) pa_nil))))) pss_nil)
      (pss_cons (ps_if (pt_cmpR op_eq (pv 2) pe_str (by rfl)) (pss_one (ps_ret (pe_tup (pa_cons (pe_op op_sub (pv 1) (pv 3)) (pa_cons (pv 1) pa_nil))))) pss_nil)
      (pss_cons (ps_if (pt_cmpR op_eq (pv 2) pe_str (by rfl)) (pss_one (ps_ret (pe_tup (pa_cons (pv 3) (pa_cons (pv 1) pa_nil))))) pss_nil)
      (pss_one (ps_ret (pe_tup (pa_cons pe_int (pa_cons (pe_op op_sub (pv 1) (pv 3)) pa_nil)))))))))), fun T I q => ?_⟩
  dsimp only [cxOf, Cx.nox, Cx.wish]
  cases c <;> first | exact ok.elim | skip
  all_goals dsimp only [Cm.d]
  all_goals (repeat walk_at "eva")
  all_goals exact q _ _ _ rfl (Same.refl I)
theorem sc__merged : FnScope ["runs", "merged", "line", "count"] ["runs"] (defScope s__merged) := ⟨rfl, rfl, rfl, by decide +kernel, rfl, by decide +kernel, by decide +kernel⟩
def preMrg : List PyData → (List PyData → Prop) → Prop := fun ds R => ∃ rs : List Rn, ds = [runsD rs] ∧ rs.length < sizeLine ∧ R = (· = (pack rs).map runD)
theorem ok__merged {f : Addr} {fd : FuncData} {k : Nat} (F : Fun K "_merged" "_merged" s__merged f fd) : FnOk P w K mg base CX0 (k + 1) f fd ["runs"] (SpF K preMrg) := by
  refine okF F sc__merged (fun ds R ⟨c, e, _⟩ => by rw [e]; rfl) fun cv A outer s H Q E ds R hr ⟨rs, e1, sz, e2⟩ => ?_
  subst e1
  subst e2
  refine ⟨_, (pss_cons (ps_set (i := 1) sc__merged.nd rfl (Or.inl rfl) (pe_lst pa_nil))
      (pss_cons (ps_for PassesOwn.never rfl (pi_list (pv 0)) (pg_tup rfl (pgs_cons (pg_name (i := 2) sc__merged.nd rfl (Or.inl rfl)) (pgs_cons (pg_name (i := 3) sc__merged.nd rfl (Or.inl rfl)) pgs_nil))) (pss_one (ps_if (PW.pt (pw_and (pt_truth (pv 1) (by intro; rfl)) (pw_and1 (pt_cmpR op_eq (pe_ix ix_tup (pe_ix ix_list (pv 1) (pe_un un_neg pe_int) (fun _ _ => rfl)) pe_int (fun _ _ => rfl)) (pv 2) (by rfl))))) (pss_one (ps_asg (pe_tup (pa_cons (pv 2) (pa_cons (pe_op op_add (pe_ix ix_tup (pe_ix ix_list (pv 1) (pe_un un_neg pe_int) (fun _ _ => rfl)) pe_int (fun _ _ => rfl)) (pv 3)) pa_nil))) (pg_sub (pv 1) (pe_un un_neg pe_int) set_list))) (pss_one (ps_expr (pe_bm PySem.F.plainAttrs_list PySem.F.slot_list_append PySem.F.type_list_append mt_append (pv 1) (pa_cons (pe_tup (pa_cons (pv 2) (pa_cons (pv 3) pa_nil))) pa_nil)))))))
      (pss_one (ps_ret (pv 1))))), fun T I q => ?_⟩
  dsimp only [cxOf, Cx.nox, Cx.wish]
  repeat walk_at "eva"
  refine ⟨fun i w => ∃ a b, w = [.dat (runsD rs), .mut ((pack (rs.take i)).map runD), a, b], ⟨_, _, rfl⟩, ?_, ?_⟩
  · rintro i d w B' hi ⟨a, b, rfl⟩ eb
    rw [List.getElem?_map] at hi
    cases hc : rs[i]? with
    | none => rw [hc] at hi; cases hi
    | some r =>
      rw [hc] at hi
      cases hi
      have hlt : i < rs.length := (List.getElem?_eq_some_iff.mp hc).1
      have lp : (pack (rs.take i)).length ≤ i := Nat.le_trans (pack_len _) (by rw [List.length_take]; omega)
      have nx : pack (rs.take (i + 1)) = stP (pack (rs.take i)) r := by
        rw [List.take_add_one, hc]
        exact pack_snoc _ _
      have e0 : runD r = .tuple [.str r.1, .int r.2] := rfl
      rw [e0]
      rcases hq : (pack (rs.take i)).getLast? with _ | l
      · have ep : pack (rs.take i) = [] := List.getLast?_eq_none_iff.mp hq
        have en : stP [] r = [r] := rfl
        rw [ep] at nx
        rw [ep]
        repeat walk_at "eva"
        exact ⟨_, _, by rw [nx, en]; rfl⟩
      · obtain ⟨ini, ep⟩ : ∃ ini, pack (rs.take i) = ini ++ [l] := ⟨_, snoc_of hq⟩
        have el : runD l = .tuple [.str l.1, .int l.2] := rfl
        rw [ep, List.length_append, List.length_singleton] at lp
        rw [ep] at nx
        have a1 : atI (ini.map runD ++ [PyData.tuple [.str l.1, .int l.2]]) (-1) = some (.tuple [.str l.1, .int l.2]) := MM.atI_last _ _
        have a2 : ixN (ini.map runD ++ [PyData.tuple [.str l.1, .int l.2]]).length (-1) = some ini.length := by
          rw [List.length_append, List.length_map, List.length_singleton]
          exact MM.ixN_last
        have sl : (ini.map runD ++ [PyData.tuple [.str l.1, .int l.2]]).length < sizeLine := by
          rw [List.length_append, List.length_map, List.length_singleton]
          omega
        rw [ep, List.map_append, List.map_singleton, el]
        repeat walk_at "eva"
        refine DL.ifbT (b := !(ini.map runD ++ [PyData.tuple [.str l.1, .int l.2]]).isEmpty) (by cases ini <;> rfl) ?_
        repeat walk_at "eva"
        refine ifd (fun hl => ?_) (fun hl => ?_)
        · repeat walk_at "eva"
          refine ⟨-1, ini.length, rfl, a2, ?_⟩
          repeat walk_at "eva"
          refine ⟨.dat (.str r.1), .dat (.int r.2), ?_⟩
          have st : stP (ini ++ [l]) r = ini ++ [(r.1, l.2 + r.2)] := by
            unfold stP
            rw [List.getLast?_concat]
            show (if l.1 = r.1 then _ else _) = _
            rw [if_pos hl, List.dropLast_concat]
          rw [nx, st, List.map_append, List.map_singleton]
          have su : (ini.map runD ++ [PyData.tuple [.str l.1, .int l.2]]).set ini.length (.tuple [.str r.1, .int (l.2 + r.2)]) = ini.map runD ++ [.tuple [.str r.1, .int (l.2 + r.2)]] := by
            rw [List.set_append_right _ _ (by rw [List.length_map]; exact Nat.le_refl _), List.length_map, Nat.sub_self]
            rfl
          rw [su]
          rfl
        · repeat walk_at "eva"
          refine ⟨.dat (.str r.1), .dat (.int r.2), ?_⟩
          have st : stP (ini ++ [l]) r = ini ++ [l] ++ [r] := by
            unfold stP
            rw [List.getLast?_concat]
            show (if l.1 = r.1 then _ else _) = _
            rw [if_neg hl]
          rw [nx, st, List.map_append, List.map_append, List.map_singleton, List.map_singleton]
          rfl
  · rintro w ⟨a, b, rfl⟩
    have e : List.take (rs.map runD).length rs = rs := by rw [List.length_map, List.take_length]
    rw [e]
    repeat walk_at "eva"
    exact q _ _ _ rfl (Same.refl I)
end
end K01
local macro_rules | `(tactic| walk_at "evb") => `(tactic| first
  | ((with_reducible refine' DL.ew_var ?hh ?_); (case hh => rfl))
  | with_reducible refine DL.ew_int ?_
  | with_reducible refine DL.ew_str ?_
  | with_reducible refine DL.ew_bl ?_
  | with_reducible refine DL.ew_non ?_
  | with_reducible refine ⟨_, And.intro rfl ?_⟩
  | with_reducible refine And.intro rfl ?_
  | with_reducible refine DL.ew_cat ?_
  | with_reducible refine DL.ew_rep ?_
  | ((with_reducible refine' DL.ew_ixC ?hh ?_); (case hh => rfl))
  | ((with_reducible refine' DL.ew_ixM ?hh ?_); (case hh => rfl))
  | ((with_reducible refine' DL.ew_neM ?hh ?_); (case hh => rfl))
  | ((with_reducible refine' DL.ew_eqM ?hh ?_); (case hh => rfl))
  | ((with_reducible refine' DL.ew_lenM ?hh ?_); (case hh => rfl))
  | ((with_reducible refine' DL.ew_ef (DL.ef_sliceS ?hh ?_)); (case hh => rfl))
  | with_reducible refine DL.ew_ef (DL.ef_slice ?_)
  | with_reducible refine DL.ew_ef (DL.ef_rev ?_)
  | with_reducible refine DL.ew_ef (DL.ef_callF ?_)
  | with_reducible refine DL.oe_no ?_
  | with_reducible refine DL.oe_part ?_
  | with_reducible refine DL.ef_slice ?_
  | with_reducible refine DL.ef_rev ?_
  | with_reducible refine DL.ef_callF ?_
  | with_reducible refine DL.ew_callSw ?_
  | with_reducible refine DL.ew_callOne ?_
  | with_reducible refine DL.ew_op ?_
  | with_reducible refine DL.ew_un ?_
  | with_reducible refine DL.of_cat (Nat.le_of_ble_eq_true rfl) ?_
  | with_reducible refine DL.ow_ii ?_
  | with_reducible refine DL.uw_i ?_
  | with_reducible refine DL.ow_ib ?_
  | with_reducible refine DL.ow_eqI ?_
  | with_reducible refine DL.ow_neI ?_
  | with_reducible refine DL.ow_eqS ?_
  | with_reducible refine DL.ow_neS ?_
  | ((with_reducible refine' DL.ow_ci ?hh ?_); (case hh => first | (show (0 : Int) < _; omega) | (show (0 : Int) < _; decide) | exact Or.inl ⟨by omega, by omega⟩ | exact Or.inr ⟨by omega, by omega⟩ | exact ⟨by omega, by omega⟩ | exact ⟨by decide, by decide, by decide⟩ | assumption))
  | with_reducible refine' DL.ow_ci ?_ ?_
  | ((with_reducible refine' DL.ow_ixL ?hh ?_); (case hh => first | rfl | assumption))
  | ((with_reducible refine' DL.ow_ixT ?hh ?_); (case hh => first | rfl | assumption))
  | ((with_reducible refine' DL.ow_in ?hh ?h1 ?h2 ?_); (case hh => first | exact Or.inl rfl | exact Or.inr rfl); (case h1 => rfl); (case h2 => rfl))
  | with_reducible refine DL.ew_cst ?_
  | (refine DL.if_yes (by first | decide | assumption | omega) ?_)
  | (refine DL.if_no (by first | decide | assumption | omega) ?_)
  | (refine DL.ifn_yes (by first | decide | assumption | omega) ?_)
  | (refine DL.ifn_no (by first | decide | assumption | omega) ?_)
  | (refine DL.ifbT (by rfl) ?_)
  | (refine DL.ifbF (by rfl) ?_)
  | with_reducible refine DL.tw_test ?_
  | ((with_reducible refine' DL.tw_truM ?hh ?_); (case hh => rfl))
  | ((with_reducible refine' DL.sw_append ?hh ?_); (case hh => rfl))
  | with_reducible refine DL.tw_B ?_
  | with_reducible refine DL.tw_and ?_
  | with_reducible refine DL.tw_or ?_
  | with_reducible refine DL.tw_not ?_
  | with_reducible refine DL.tw_yes ?_
  | with_reducible refine DL.aw_cons ?_
  | with_reducible refine DL.aw_nil ?_
  | (with_reducible refine DL.ew_tup ?_)
  | (with_reducible refine DL.ew_lst ?_)
  | (with_reducible refine DL.ef_lst ?_)
  | with_reducible refine DL.ew_if ?_
  | with_reducible refine DL.ew_andV ?_
  | with_reducible refine DL.ew_orV ?_
  | with_reducible refine DL.ew_notV ?_
  | with_reducible refine DL.ew_chain ?_
  | ((with_reducible refine' DL.cw_len ?hh ?_); (case hh => first | exact Or.inl rfl | exact Or.inr rfl))
  | with_reducible refine DL.ew_cb ?_
  | with_reducible refine DL.cw_abs ?_
  | with_reducible refine DL.cw_max2 ?_
  | with_reducible refine DL.cw_min2 ?_
  | with_reducible refine DL.cw_int1 ?_
  | with_reducible refine DL.sw_seq ?_
  | with_reducible refine DL.sw_next ?_
  | with_reducible refine DL.nx_tn ?_
  | with_reducible refine DL.ct_tn ?_
  | with_reducible refine DL.nx_mk ?_
  | with_reducible refine DL.nx_e ?_
  | with_reducible refine DL.rt_mk ?_
  | with_reducible refine DL.sw_if ?_
  | (with_reducible refine DL.sw_own (DL.ef_lst ?_))
  | with_reducible refine DL.sw_set ?_
  | ((with_reducible refine' DL.sw_setC ?hh ?_); (case hh => rfl))
  | ((with_reducible refine' DL.sw_setM ?hh ?_); (case hh => rfl))
  | with_reducible refine DL.sw_asg ?_
  | ((with_reducible refine' DL.sw_retH ?hh ?_); (case hh => rfl))
  | with_reducible refine DL.sw_ret ?_
  | with_reducible refine DL.rf_mk ?_
  | with_reducible refine DL.sw_drop ?_
  | ((with_reducible refine' DL.ew_draw MM.drawP ?hh ?_); (case hh => rfl))
  | with_reducible refine DL.ew_callP ?_
  | ((with_reducible refine' And.intro (DL.plain_cons ?h1 DL.plain_nil) ?_); (case h1 => first | exact Or.inl rfl | exact Or.inr ⟨_, rfl⟩))
  | ((with_reducible refine' And.intro (DL.plain_cons ?h1 (DL.plain_cons ?h2 DL.plain_nil)) ?_); (case h1 => first | exact Or.inl rfl | exact Or.inr ⟨_, rfl⟩); (case h2 => first | exact Or.inl rfl | exact Or.inr ⟨_, rfl⟩))
  | ((refine' And.intro (DL.plain_cons ?h1 DL.plain_nil) ?_); (case h1 => first | exact Or.inl rfl | exact Or.inr ⟨_, rfl⟩))
  | ((refine' And.intro (DL.plain_cons ?h1 (DL.plain_cons ?h2 DL.plain_nil)) ?_); (case h1 => first | exact Or.inl rfl | exact Or.inr ⟨_, rfl⟩); (case h2 => first | exact Or.inl rfl | exact Or.inr ⟨_, rfl⟩))
  | ((with_reducible refine' DL.gc_name ?hh ?_); (case hh => decide))
  | ((with_reducible refine' DL.gc_tup ?hh ?_); (case hh => rfl))
  | with_reducible refine DL.gcs_cons ?_
  | with_reducible refine DL.gcs_nil ?_
  | with_reducible refine DL.iw_enum ?_
  | ((with_reducible refine' DL.gw_tup ?hh ?_); (case hh => rfl))
  | with_reducible refine DL.gws_cons ?_
  | with_reducible refine DL.gws_nil ?_
  | with_reducible refine DL.sw_par ?_
  | with_reducible refine DL.sw_for ?_
  | with_reducible refine DL.iw_list ?_
  | with_reducible refine DL.iw_tup ?_
  | with_reducible refine DL.iw_range1 ?_
  | with_reducible refine DL.iw_range2 ?_
  | with_reducible refine DL.gw_name ?_
  | (refine And.intro (Nat.le_of_ble_eq_true rfl) ?_)
  | (with_reducible refine And.intro (by assumption) ?_)
  | ((with_reducible refine' Exists.intro _ (And.intro ?hh ?_)); (case hh => first | with_reducible_and_instances rfl | with_reducible assumption))
  | (with_reducible refine ⟨_, _, rfl, rfl, (by first | omega | decide), (by first | omega | decide), (by omega), ?_⟩)
  | (refine' Exists.intro _ (And.intro ?hh ?_); (case hh => first | rfl | decide))
  | (refine And.intro (by first | decide | exact Nat.le_of_ble_eq_true rfl | (simp; decide)) ?_))
local macro_rules | `(tactic| walk_at "efb") => `(tactic| first
  | ((with_reducible refine' DL.sw_retH ?hh ?_); (case hh => rfl))
  | with_reducible refine DL.sw_retE ?_
  | walk_at "evb")
namespace K01
open PySem PySem.Spec PyProof.Rows L2 DL MM
section
variable {P : Program} {w : World} {K : Frg} {mg : PySem.Str → Option Value} {base : Heap}
theorem sc__apply : FnScope ["command", "lines", "line", "count", "start", "end"] ["command", "lines"] (defScope s__apply) := ⟨rfl, rfl, rfl, by decide +kernel, rfl, by decide +kernel, by decide +kernel⟩
theorem c_shaped (c : Cm) : SeqAt.shaped c.d = true := by
  cases c <;> simp [Cm.d, SeqAt.shaped, PyData.canLay0, PyData.canLayAll0, PyData.depth, PyData.depthAll] <;> decide +kernel
theorem w_shaped {x : S} (h : PyData.strOk x = true) : SeqAt.shaped (.tuple [.str x]) = true := by
  simp [SeqAt.shaped, PyData.canLay0, PyData.canLayAll0, PyData.depth, PyData.depthAll, h]
theorem eqv_rev (c : Cm) : PyData.eqv c.d (.tuple [.str "reverse"]) = decide (c = .rev) := by
  cases c <;> simp [Cm.d, PyData.eqv, PyData.eqvAll] <;> decide
theorem eqv_uniq (c : Cm) : PyData.eqv c.d (.tuple [.str "uniq"]) = decide (c = .uniq) := by
  cases c <;> simp [Cm.d, PyData.eqv, PyData.eqvAll] <;> decide
theorem eqv_sort (c : Cm) : PyData.eqv c.d (.tuple [.str "sort"]) = decide (c = .sort) := by
  cases c <;> simp [Cm.d, PyData.eqv, PyData.eqvAll] <;> decide
def preApp : List PyData → (List PyData → Prop) → Prop := fun ds R => ∃ (c : Cm) (xs : List S), ds = [c.d, .list (xs.map .str)] ∧ c.ok ∧ xs.length < 1000 ∧ R = (· = (c.app xs).map .str)
theorem ok__apply {f : Addr} {fd : FuncData} {k : Nat} (F : Fun K "_apply" "_apply" s__apply f fd) (B : Bt mg)
    (G__merged : Df P w K mg base 1 "_merged" ["runs"] (SpF K preMrg)) (G_kept_range : Df P w K mg base 1 "kept_range" ["command", "length"] (SpP K preKept)) : FnOk P w K mg base CX0 2 f fd ["command", "lines"] (SpF K preApp) := by
  refine okF F sc__apply (fun ds R ⟨c, xs, e, _⟩ => by rw [e]; rfl) fun cv A outer s H Q E ds R hr ⟨c, xs, e1, ok, sz, e2⟩ => ?_
  subst e1
  subst e2
  refine ⟨_, (pss_cons (ps_if (pt_cmpR (op_eqD hr.units) (pv 0) (pe_tup (pa_cons pe_str pa_nil)) (by rfl)) (pss_one (ps_ret (pe_revL (pv 1)))) pss_nil)
      (pss_cons (ps_if (pt_cmpR (op_eqD hr.units) (pv 0) (pe_tup (pa_cons pe_str pa_nil)) (by rfl)) (pss_one (ps_ret (DL.pe_lcD s H f [] [] (own := [("line", 2), ("count", 3)]) rfl sc__apply.nd (pi_list (DL.pe_df G__merged hr (by decide) (by rfl) (pa_cons (DL.pe_lcD s H f [] [] (own := [("line", 2)]) rfl sc__apply.nd (pi_list (pv 1)) (blkOk_by (own := [("line", 2)]) (N := ["command", "lines", "line", "count", "start", "end"]) (sc := defScope s__apply) (by decide +kernel)) (fun _ _ _ _ _ => (pg_name (i := 2) sc__apply.nd rfl (Or.inl rfl))) (fun _ _ _ _ _ => pts_nil) (fun _ _ _ _ _ => (pe_tup (pa_cons (pv 2) (pa_cons pe_int pa_nil))))) pa_nil))) (blkOk_by (own := [("line", 2), ("count", 3)]) (N := ["command", "lines", "line", "count", "start", "end"]) (sc := defScope s__apply) (by decide +kernel)) (fun _ _ _ _ _ => (pg_tup rfl (pgs_cons (pg_name (i := 2) sc__apply.nd rfl (Or.inl rfl)) (pgs_cons (pg_name (i := 3) sc__apply.nd rfl (Or.inl rfl)) pgs_nil)))) (fun _ _ _ _ _ => pts_nil) (fun _ _ _ _ _ => (pv 2))))) pss_nil)
      (pss_cons (ps_if (pt_cmpR (op_eqD hr.units) (pv 0) (pe_tup (pa_cons pe_str pa_nil)) (by rfl)) (pss_one (ps_ret (pe_callB (SS.cr_sortT rfl) (by rfl) B.sorted (by decide +kernel) (pa_cons (pe_callTy (SS.cr_setT rfl) (by rfl) B.set (by decide +kernel) (pa_cons (pv 1) pa_nil)) pa_nil)))) pss_nil)
      (pss_cons (ps_asg (DL.pe_df G_kept_range hr (by decide) (by rfl) (pa_cons (pv 0) (pa_cons (pe_callB call_len_seq (by rfl) B.len PySem.boot_len (pa_cons (pv 1) pa_nil)) pa_nil))) (pg_tup rfl (pgs_cons (pg_name (i := 4) sc__apply.nd rfl (Or.inl rfl)) (pgs_cons (pg_name (i := 5) sc__apply.nd rfl (Or.inl rfl)) pgs_nil))))
      (pss_one (ps_ret (pe_slice sl_list (pv 1) (po_some (pv 4)) (po_some (pv 5))))))))), fun T I q => ?_⟩
  dsimp only [cxOf, Cx.nox, Cx.wish, Cx.blk]
  have sl : xs.length < sizeLine := Nat.lt_trans sz (by decide)
  have r1 : ∀ {x : S}, PyData.strOk x = true → ∀ {Pd : PyData → Prop}, Pd (.bool (PyData.eqv c.d (.tuple [.str x]))) → OW K (rEqD K) c.d (.tuple [.str x]) Pd := fun h _ p => ow_eqD (c_shaped c) (w_shaped h) p
  show SW K T I [.dat c.d, .dat (.list (xs.map .str)), .un, .un, .un, .un] _ _
  by_cases h1 : c = .rev
  · subst h1
    repeat walk_at "efb"
    refine r1 (by decide +kernel) ?_
    rw [eqv_rev]
    repeat walk_at "efb"
    refine q _ _ _ ?_ (Same.refl I)
    exact List.map_reverse.symm
  repeat walk_at "efb"
  refine r1 (by decide +kernel) ?_
  rw [eqv_rev]
  repeat walk_at "efb"
  refine r1 (by decide +kernel) ?_
  rw [eqv_uniq]
  by_cases h2 : c = .uniq
  · subst h2
    repeat walk_at "efb"
    refine ef_lcM (fun d => match d with | .tuple [x, _] => x | y => y) ?_
    repeat walk_at "efb"
    refine ew_ef (ef_lcM (fun d => .tuple [d, .int 1]) ?_)
    repeat walk_at "efb"
    refine ⟨by rw [List.length_map]; exact Nat.le_of_lt sl, fun i d hi => ?_, ?_⟩
    · repeat walk_at "efb"
      rfl
    · repeat walk_at "efb"
      have e1 : (xs.map PyData.str).map (fun d => PyData.tuple [d, PyData.int 1]) = (xs.map fun x => ((x, 1) : Rn)).map runD := by
        rw [List.map_map, List.map_map]
        rfl
      refine ⟨_, ⟨xs.map fun x => (x, 1), congrArg (fun z => [PyData.list z]) e1, by rw [List.length_map]; exact sl, rfl⟩, fun es he => ?_⟩
      subst he
      repeat walk_at "efb"
      refine ⟨by rw [List.length_map]; exact Nat.le_trans (pack_len _) (by rw [List.length_map]; exact Nat.le_of_lt sl), fun i d hi => ?_, ?_⟩
      · rw [List.getElem?_map] at hi
        cases hr : (pack (xs.map fun x => (x, 1)))[i]? with
        | none => rw [hr] at hi; cases hi
        | some r =>
          rw [hr] at hi
          cases hi
          show _ ∧ GC K _ _ _ (.tuple [.str r.1, .int r.2]) _
          repeat walk_at "efb"
          rfl
      · refine q _ _ _ ?_ (Same.refl I)
        rw [List.map_map]
        show (pack (xs.map fun x => (x, 1))).map (fun r => PyData.str r.1) = (uq xs).map .str
        have e2 := congrArg (List.map PyData.str) (pack_fst (xs.map fun x => (x, 1)))
        rw [List.map_map, List.map_map] at e2
        have e3 : (fun r : Rn => PyData.str r.1) = PyData.str ∘ (fun x : Rn => x.1) := rfl
        rw [e3, e2]
        congr 1
        have e4 : xs.map ((fun x : Rn => x.1) ∘ fun x => ((x, 1) : Rn)) = xs.map id := rfl
        rw [e4, List.map_id]
  repeat walk_at "efb"
  refine r1 (by decide +kernel) ?_
  rw [eqv_sort]
  by_cases h3 : c = .sort
  · subst h3
    repeat walk_at "efb"
    refine SS.ef_sortset ?_
    repeat walk_at "efb"
    refine ⟨Nat.lt_trans (Nat.succ_lt_succ sz) (by decide), fun ys s1 s2 s3 => ?_⟩
    refine q _ _ _ ?_ (Same.refl I)
    exact congrArg (List.map PyData.str) (srt_of s1 s2 s3)
  · have hs : c.slc := by cases c <;> first | trivial | exact absurd rfl h1 | exact absurd rfl h2 | exact absurd rfl h3
    repeat walk_at "efb"
    refine ⟨_, ⟨c, xs.length, by rw [List.length_map], hs, rfl⟩, fun d hd => ?_⟩
    subst hd
    repeat walk_at "efb"
    refine q _ _ _ ?_ (Same.refl I)
    exact slc_cut hs ok xs
end
end K01
local macro_rules | `(tactic| walk_at "evc") => `(tactic| first
  | ((with_reducible refine' DL.ew_var ?hh ?_); (case hh => rfl))
  | with_reducible refine DL.ew_int ?_
  | with_reducible refine DL.ew_str ?_
  | with_reducible refine DL.ew_bl ?_
  | with_reducible refine DL.ew_non ?_
  | with_reducible refine ⟨_, And.intro rfl ?_⟩
  | with_reducible refine And.intro rfl ?_
  | with_reducible refine DL.ew_cat ?_
  | with_reducible refine DL.ew_rep ?_
  | ((with_reducible refine' DL.ew_ixC ?hh ?_); (case hh => rfl))
  | ((with_reducible refine' DL.ew_ixM ?hh ?_); (case hh => rfl))
  | ((with_reducible refine' DL.ew_neM ?hh ?_); (case hh => rfl))
  | ((with_reducible refine' DL.ew_eqM ?hh ?_); (case hh => rfl))
  | ((with_reducible refine' DL.ew_lenM ?hh ?_); (case hh => rfl))
  | ((with_reducible refine' DL.ew_ef (DL.ef_sliceS ?hh ?_)); (case hh => rfl))
  | with_reducible refine DL.ew_ef (DL.ef_slice ?_)
  | with_reducible refine DL.ew_ef (DL.ef_rev ?_)
  | with_reducible refine DL.ew_ef (DL.ef_callF ?_)
  | with_reducible refine DL.oe_no ?_
  | with_reducible refine DL.oe_part ?_
  | with_reducible refine DL.ef_slice ?_
  | with_reducible refine DL.ef_rev ?_
  | with_reducible refine DL.ef_callF ?_
  | with_reducible refine DL.ew_callSw ?_
  | with_reducible refine DL.ew_callOne ?_
  | with_reducible refine DL.ew_op ?_
  | with_reducible refine DL.ew_un ?_
  | with_reducible refine DL.of_cat (Nat.le_of_ble_eq_true rfl) ?_
  | with_reducible refine DL.ow_ii ?_
  | with_reducible refine DL.uw_i ?_
  | with_reducible refine DL.ow_ib ?_
  | with_reducible refine DL.ow_eqI ?_
  | with_reducible refine DL.ow_neI ?_
  | with_reducible refine DL.ow_eqS ?_
  | with_reducible refine DL.ow_neS ?_
  | ((with_reducible refine' DL.ow_ci ?hh ?_); (case hh => first | (show (0 : Int) < _; omega) | (show (0 : Int) < _; decide) | exact Or.inl ⟨by omega, by omega⟩ | exact Or.inr ⟨by omega, by omega⟩ | exact ⟨by omega, by omega⟩ | exact ⟨by decide, by decide, by decide⟩ | assumption))
  | with_reducible refine' DL.ow_ci ?_ ?_
  | ((with_reducible refine' DL.ow_ixL ?hh ?_); (case hh => first | rfl | assumption))
  | ((with_reducible refine' DL.ow_ixT ?hh ?_); (case hh => first | rfl | assumption))
  | ((with_reducible refine' DL.ow_in ?hh ?h1 ?h2 ?_); (case hh => first | exact Or.inl rfl | exact Or.inr rfl); (case h1 => rfl); (case h2 => rfl))
  | with_reducible refine DL.ew_cst ?_
  | (refine DL.if_yes (by first | decide | assumption | omega) ?_)
  | (refine DL.if_no (by first | decide | assumption | omega) ?_)
  | (refine DL.ifn_yes (by first | decide | assumption | omega) ?_)
  | (refine DL.ifn_no (by first | decide | assumption | omega) ?_)
  | (refine DL.ifbT (by rfl) ?_)
  | (refine DL.ifbF (by rfl) ?_)
  | with_reducible refine DL.tw_test ?_
  | ((with_reducible refine' DL.tw_truM ?hh ?_); (case hh => rfl))
  | ((with_reducible refine' DL.sw_append ?hh ?_); (case hh => rfl))
  | with_reducible refine DL.tw_B ?_
  | with_reducible refine DL.tw_and ?_
  | with_reducible refine DL.tw_or ?_
  | with_reducible refine DL.tw_not ?_
  | with_reducible refine DL.tw_yes ?_
  | with_reducible refine DL.aw_cons ?_
  | with_reducible refine DL.aw_nil ?_
  | (with_reducible refine DL.ew_tup ?_)
  | (with_reducible refine DL.ew_lst ?_)
  | (with_reducible refine DL.ef_lst ?_)
  | with_reducible refine DL.ew_if ?_
  | with_reducible refine DL.ew_andV ?_
  | with_reducible refine DL.ew_orV ?_
  | with_reducible refine DL.ew_notV ?_
  | with_reducible refine DL.ew_chain ?_
  | ((with_reducible refine' DL.cw_len ?hh ?_); (case hh => first | exact Or.inl rfl | exact Or.inr rfl))
  | with_reducible refine DL.ew_cb ?_
  | with_reducible refine DL.cw_abs ?_
  | with_reducible refine DL.cw_max2 ?_
  | with_reducible refine DL.cw_min2 ?_
  | with_reducible refine DL.cw_int1 ?_
  | with_reducible refine DL.sw_seq ?_
  | with_reducible refine DL.sw_next ?_
  | with_reducible refine DL.nx_tn ?_
  | with_reducible refine DL.ct_tn ?_
  | with_reducible refine DL.nx_mk ?_
  | with_reducible refine DL.nx_e ?_
  | with_reducible refine DL.rt_mk ?_
  | with_reducible refine DL.sw_if ?_
  | (with_reducible refine DL.sw_own (DL.ef_lst ?_))
  | with_reducible refine DL.sw_set ?_
  | ((with_reducible refine' DL.sw_setC ?hh ?_); (case hh => rfl))
  | ((with_reducible refine' DL.sw_setM ?hh ?_); (case hh => rfl))
  | with_reducible refine DL.sw_asg ?_
  | ((with_reducible refine' DL.sw_retH ?hh ?_); (case hh => rfl))
  | with_reducible refine DL.sw_ret ?_
  | with_reducible refine DL.rf_mk ?_
  | with_reducible refine DL.sw_drop ?_
  | ((with_reducible refine' DL.ew_draw MM.drawP ?hh ?_); (case hh => rfl))
  | with_reducible refine DL.ew_callP ?_
  | ((with_reducible refine' And.intro (DL.plain_cons ?h1 DL.plain_nil) ?_); (case h1 => first | exact Or.inl rfl | exact Or.inr ⟨_, rfl⟩))
  | ((with_reducible refine' And.intro (DL.plain_cons ?h1 (DL.plain_cons ?h2 DL.plain_nil)) ?_); (case h1 => first | exact Or.inl rfl | exact Or.inr ⟨_, rfl⟩); (case h2 => first | exact Or.inl rfl | exact Or.inr ⟨_, rfl⟩))
  | ((refine' And.intro (DL.plain_cons ?h1 DL.plain_nil) ?_); (case h1 => first | exact Or.inl rfl | exact Or.inr ⟨_, rfl⟩))
  | ((refine' And.intro (DL.plain_cons ?h1 (DL.plain_cons ?h2 DL.plain_nil)) ?_); (case h1 => first | exact Or.inl rfl | exact Or.inr ⟨_, rfl⟩); (case h2 => first | exact Or.inl rfl | exact Or.inr ⟨_, rfl⟩))
  | ((with_reducible refine' DL.gc_name ?hh ?_); (case hh => decide))
  | ((with_reducible refine' DL.gc_tup ?hh ?_); (case hh => rfl))
  | with_reducible refine DL.gcs_cons ?_
  | with_reducible refine DL.gcs_nil ?_
  | with_reducible refine DL.iw_enum ?_
  | ((with_reducible refine' DL.gw_tup ?hh ?_); (case hh => rfl))
  | with_reducible refine DL.gws_cons ?_
  | with_reducible refine DL.gws_nil ?_
  | with_reducible refine DL.sw_par ?_
  | with_reducible refine DL.sw_for ?_
  | with_reducible refine DL.iw_list ?_
  | with_reducible refine DL.iw_tup ?_
  | with_reducible refine DL.iw_range1 ?_
  | with_reducible refine DL.iw_range2 ?_
  | with_reducible refine DL.gw_name ?_
  | (refine And.intro (Nat.le_of_ble_eq_true rfl) ?_)
  | (with_reducible refine And.intro (by assumption) ?_)
  | ((with_reducible refine' Exists.intro _ (And.intro ?hh ?_)); (case hh => first | with_reducible_and_instances rfl | with_reducible assumption))
  | (with_reducible refine ⟨_, _, rfl, rfl, (by first | omega | decide), (by first | omega | decide), (by omega), ?_⟩)
  | (refine' Exists.intro _ (And.intro ?hh ?_); (case hh => first | rfl | decide))
  | (refine And.intro (by first | decide | exact Nat.le_of_ble_eq_true rfl | (simp; decide)) ?_))
local macro_rules | `(tactic| walk_at "efc") => `(tactic| first
  | ((with_reducible refine' DL.sw_retH ?hh ?_); (case hh => rfl))
  | with_reducible refine DL.sw_retE ?_
  | walk_at "evc")
namespace K01
open PySem PySem.Spec PyProof.Rows L2 DL MM
section
variable {P : Program} {w : World} {K : Frg} {mg : PySem.Str → Option Value} {base : Heap}
theorem sc_run : FnScope ["pipeline", "lines", "result", "command"] ["pipeline", "lines"] (defScope s_run) := ⟨rfl, rfl, rfl, by decide +kernel, rfl, by decide +kernel, by decide +kernel⟩
def preRun : List PyData → (List PyData → Prop) → Prop := fun ds R => ∃ (cs : List Cm) (xs : List S), ds = [planD cs, .list (xs.map .str)] ∧ (∀ c ∈ cs, c.ok) ∧ xs.length < 1000 ∧ R = (· = (runP cs xs).map .str)
theorem ok_run {f : Addr} {fd : FuncData} (F : Fun K "run" "run" s_run f fd) (B : Bt mg)
    (G_check_pipeline : Df P w K mg base 2 "check_pipeline" ["pipeline"] (SpP K preChk)) (G__apply : Df P w K mg base 2 "_apply" ["command", "lines"] (SpF K preApp)) : FnOk P w K mg base CX0 3 f fd ["pipeline", "lines"] (SpF K preRun) := by
  refine okF F sc_run (fun ds R ⟨cs, xs, e, _⟩ => by rw [e]; rfl) fun cv A outer s H Q E ds R hr ⟨cs, xs, e1, ok, sz, e2⟩ => ?_
  subst e1
  subst e2
  refine ⟨_, (pss_cons (ps_expr (DL.pe_df G_check_pipeline hr (by decide) (by rfl) (pa_cons (pv 0) pa_nil)))
      (pss_cons (ps_set (i := 2) sc_run.nd rfl (Or.inl rfl) (pe_callTy call_list_of (by rfl) B.list (by decide +kernel) (pa_cons (pv 1) pa_nil)))
      (pss_cons (ps_for PassesOwn.never rfl (pi_list (pv 0)) (pg_name (i := 3) sc_run.nd rfl (Or.inl rfl)) (pss_one (ps_set (i := 2) sc_run.nd rfl (Or.inl rfl) (DL.pe_df G__apply hr (by decide) (by rfl) (pa_cons (pv 3) (pa_cons (pv 2) pa_nil))))))
      (pss_one (ps_ret (pv 2)))))), fun T I q => ?_⟩
  dsimp only [cxOf, Cx.nox, Cx.wish, Cx.blk]
  show SW K T I [.dat (planD cs), .dat (.list (xs.map .str)), .un, .un] _ _
  have sl : xs.length < sizeLine := Nat.lt_trans sz (by decide)
  repeat walk_at "efc"
  refine ⟨_, ⟨cs, rfl, ok, rfl⟩, fun d hd => ?_⟩
  subst hd
  walk_at "efc"
  walk_at "efc"
  refine sw_own (ef_cb ?_)
  repeat walk_at "efc"
  refine cf_list (.inl rfl) ?_
  repeat walk_at "efc"
  refine ⟨fun i w => ∃ a, w = [.dat (planD cs), .dat (.list (xs.map .str)), .mut ((runP (cs.take i) xs).map .str), a], ⟨_, rfl⟩, ?_, ?_⟩
  · rintro i d w B' hi ⟨a, rfl⟩ eb
    rw [List.getElem?_map] at hi
    cases hc : cs[i]? with
    | none => rw [hc] at hi; cases hi
    | some c =>
      rw [hc] at hi
      cases hi
      refine gw_name ?_
      refine sw_done (i := 2) rfl ?_
      refine sw_own (ef_callF ?_)
      repeat walk_at "efc"
      refine ⟨_, ⟨c, runP (cs.take i) xs, rfl, ok c (List.mem_of_getElem? hc), Nat.lt_of_le_of_lt (run_len _ _) sz, rfl⟩, fun es he => ?_⟩
      subst he
      repeat walk_at "efc"
      refine ⟨.dat c.d, ?_⟩
      rw [List.take_add_one, hc]
      show _ = [_, _, SD.mut ((runP (cs.take i ++ [c]) xs).map .str), _]
      rw [runP_snoc]
      rfl
  · rintro w ⟨a, rfl⟩
    have e : cs.take (cs.map Cm.d).length = cs := by rw [List.length_map, List.take_length]
    rw [e]
    repeat walk_at "efc"
    exact q _ _ _ rfl (Same.refl I)
end
end K01
local macro_rules | `(tactic| walk_at "evd") => `(tactic| first
  | ((with_reducible refine' DL.ew_var ?hh ?_); (case hh => rfl))
  | with_reducible refine DL.ew_int ?_
  | with_reducible refine DL.ew_str ?_
  | with_reducible refine DL.ew_bl ?_
  | with_reducible refine DL.ew_non ?_
  | with_reducible refine ⟨_, And.intro rfl ?_⟩
  | with_reducible refine And.intro rfl ?_
  | with_reducible refine DL.ew_cat ?_
  | with_reducible refine DL.ew_rep ?_
  | ((with_reducible refine' DL.ew_ixC ?hh ?_); (case hh => rfl))
  | ((with_reducible refine' DL.ew_ixM ?hh ?_); (case hh => rfl))
  | ((with_reducible refine' DL.ew_neM ?hh ?_); (case hh => rfl))
  | ((with_reducible refine' DL.ew_eqM ?hh ?_); (case hh => rfl))
  | ((with_reducible refine' DL.ew_lenM ?hh ?_); (case hh => rfl))
  | ((with_reducible refine' DL.ew_ef (DL.ef_sliceS ?hh ?_)); (case hh => rfl))
  | with_reducible refine DL.ew_ef (DL.ef_slice ?_)
  | with_reducible refine DL.ew_ef (DL.ef_rev ?_)
  | with_reducible refine DL.ew_ef (DL.ef_callF ?_)
  | with_reducible refine DL.oe_no ?_
  | with_reducible refine DL.oe_part ?_
  | with_reducible refine DL.ef_slice ?_
  | with_reducible refine DL.ef_rev ?_
  | with_reducible refine DL.ef_callF ?_
  | with_reducible refine DL.ew_callSw ?_
  | with_reducible refine DL.ew_callOne ?_
  | with_reducible refine DL.ew_op ?_
  | with_reducible refine DL.ew_un ?_
  | with_reducible refine DL.of_cat (Nat.le_of_ble_eq_true rfl) ?_
  | with_reducible refine DL.ow_ii ?_
  | with_reducible refine DL.uw_i ?_
  | with_reducible refine DL.ow_ib ?_
  | with_reducible refine DL.ow_eqI ?_
  | with_reducible refine DL.ow_neI ?_
  | with_reducible refine DL.ow_eqS ?_
  | with_reducible refine DL.ow_neS ?_
  | ((with_reducible refine' DL.ow_ci ?hh ?_); (case hh => first | (show (0 : Int) < _; omega) | (show (0 : Int) < _; decide) | exact Or.inl ⟨by omega, by omega⟩ | exact Or.inr ⟨by omega, by omega⟩ | exact ⟨by omega, by omega⟩ | exact ⟨by decide, by decide, by decide⟩ | assumption))
  | with_reducible refine' DL.ow_ci ?_ ?_
  | ((with_reducible refine' DL.ow_ixL ?hh ?_); (case hh => first | rfl | assumption))
  | ((with_reducible refine' DL.ow_ixT ?hh ?_); (case hh => first | rfl | assumption))
  | ((with_reducible refine' DL.ow_in ?hh ?h1 ?h2 ?_); (case hh => first | exact Or.inl rfl | exact Or.inr rfl); (case h1 => rfl); (case h2 => rfl))
  | with_reducible refine DL.ew_cst ?_
  | (refine DL.if_yes (by first | decide | assumption | omega) ?_)
  | (refine DL.if_no (by first | decide | assumption | omega) ?_)
  | (refine DL.ifn_yes (by first | decide | assumption | omega) ?_)
  | (refine DL.ifn_no (by first | decide | assumption | omega) ?_)
  | (refine DL.ifbT (by rfl) ?_)
  | (refine DL.ifbF (by rfl) ?_)
  | with_reducible refine DL.tw_test ?_
  | ((with_reducible refine' DL.tw_truM ?hh ?_); (case hh => rfl))
  | ((with_reducible refine' DL.sw_append ?hh ?_); (case hh => rfl))
  | with_reducible refine DL.tw_B ?_
  | with_reducible refine DL.tw_and ?_
  | with_reducible refine DL.tw_or ?_
  | with_reducible refine DL.tw_not ?_
  | with_reducible refine DL.tw_yes ?_
  | with_reducible refine DL.aw_cons ?_
  | with_reducible refine DL.aw_nil ?_
  | (with_reducible refine DL.ew_tup ?_)
  | (with_reducible refine DL.ew_lst ?_)
  | (with_reducible refine DL.ef_lst ?_)
  | with_reducible refine DL.ew_if ?_
  | with_reducible refine DL.ew_andV ?_
  | with_reducible refine DL.ew_orV ?_
  | with_reducible refine DL.ew_notV ?_
  | with_reducible refine DL.ew_chain ?_
  | ((with_reducible refine' DL.cw_len ?hh ?_); (case hh => first | exact Or.inl rfl | exact Or.inr rfl))
  | with_reducible refine DL.ew_cb ?_
  | with_reducible refine DL.cw_abs ?_
  | with_reducible refine DL.cw_max2 ?_
  | with_reducible refine DL.cw_min2 ?_
  | with_reducible refine DL.cw_int1 ?_
  | with_reducible refine DL.sw_seq ?_
  | with_reducible refine DL.sw_next ?_
  | with_reducible refine DL.nx_tn ?_
  | with_reducible refine DL.ct_tn ?_
  | with_reducible refine DL.nx_mk ?_
  | with_reducible refine DL.nx_e ?_
  | with_reducible refine DL.rt_mk ?_
  | with_reducible refine DL.sw_if ?_
  | (with_reducible refine DL.sw_own (DL.ef_lst ?_))
  | with_reducible refine DL.sw_set ?_
  | ((with_reducible refine' DL.sw_setC ?hh ?_); (case hh => rfl))
  | ((with_reducible refine' DL.sw_setM ?hh ?_); (case hh => rfl))
  | with_reducible refine DL.sw_asg ?_
  | ((with_reducible refine' DL.sw_retH ?hh ?_); (case hh => rfl))
  | with_reducible refine DL.sw_ret ?_
  | with_reducible refine DL.rf_mk ?_
  | with_reducible refine DL.sw_drop ?_
  | ((with_reducible refine' DL.ew_draw MM.drawP ?hh ?_); (case hh => rfl))
  | with_reducible refine DL.ew_callP ?_
  | ((with_reducible refine' And.intro (DL.plain_cons ?h1 DL.plain_nil) ?_); (case h1 => first | exact Or.inl rfl | exact Or.inr ⟨_, rfl⟩))
  | ((with_reducible refine' And.intro (DL.plain_cons ?h1 (DL.plain_cons ?h2 DL.plain_nil)) ?_); (case h1 => first | exact Or.inl rfl | exact Or.inr ⟨_, rfl⟩); (case h2 => first | exact Or.inl rfl | exact Or.inr ⟨_, rfl⟩))
  | ((refine' And.intro (DL.plain_cons ?h1 DL.plain_nil) ?_); (case h1 => first | exact Or.inl rfl | exact Or.inr ⟨_, rfl⟩))
  | ((refine' And.intro (DL.plain_cons ?h1 (DL.plain_cons ?h2 DL.plain_nil)) ?_); (case h1 => first | exact Or.inl rfl | exact Or.inr ⟨_, rfl⟩); (case h2 => first | exact Or.inl rfl | exact Or.inr ⟨_, rfl⟩))
  | ((with_reducible refine' DL.gc_name ?hh ?_); (case hh => decide))
  | ((with_reducible refine' DL.gc_tup ?hh ?_); (case hh => rfl))
  | with_reducible refine DL.gcs_cons ?_
  | with_reducible refine DL.gcs_nil ?_
  | with_reducible refine DL.iw_enum ?_
  | ((with_reducible refine' DL.gw_tup ?hh ?_); (case hh => rfl))
  | with_reducible refine DL.gws_cons ?_
  | with_reducible refine DL.gws_nil ?_
  | with_reducible refine DL.sw_par ?_
  | with_reducible refine DL.sw_for ?_
  | with_reducible refine DL.iw_list ?_
  | with_reducible refine DL.iw_tup ?_
  | with_reducible refine DL.iw_range1 ?_
  | with_reducible refine DL.iw_range2 ?_
  | with_reducible refine DL.gw_name ?_
  | (refine And.intro (Nat.le_of_ble_eq_true rfl) ?_)
  | (with_reducible refine And.intro (by assumption) ?_)
  | ((with_reducible refine' Exists.intro _ (And.intro ?hh ?_)); (case hh => first | with_reducible_and_instances rfl | with_reducible assumption))
  | (with_reducible refine ⟨_, _, rfl, rfl, (by first | omega | decide), (by first | omega | decide), (by omega), ?_⟩)
  | (refine' Exists.intro _ (And.intro ?hh ?_); (case hh => first | rfl | decide))
  | (refine And.intro (by first | decide | exact Nat.le_of_ble_eq_true rfl | (simp; decide)) ?_))
local macro_rules | `(tactic| walk_at "efd") => `(tactic| first
  | ((with_reducible refine' DL.sw_retH ?hh ?_); (case hh => rfl))
  | with_reducible refine DL.sw_retE ?_
  | walk_at "evd")
namespace K01
open PySem PySem.Spec PyProof.Rows L2 DL MM
section
variable {P : Program} {w : World} {K : Frg} {mg : PySem.Str → Option Value} {base : Heap}
theorem sc__law_rng : FnScope ["script", "digits", "seed", "cell", "size"] ["script"] (defScope s__law_rng) := ⟨rfl, rfl, rfl, by decide +kernel, rfl, by decide +kernel, by decide +kernel⟩
theorem ok__law_rng {f : Addr} {fd : FuncData} {k : Nat} (F : Fun K "_law_rng" "_law_rng" s__law_rng f fd) (B : Bt mg) : FnOk P w K mg base CX0 (k + 1) f fd ["script"] (SpG K) := by
  refine okRng F sc__law_rng fun cv A outer s H Q E ns hr hl => ?_
  refine ⟨_, (pss_cons (ps_asg (pe_tup (pa_cons pe_int (pa_cons pe_int pa_nil))) (pg_tup rfl (pgs_cons (pg_name (i := 1) sc__law_rng.nd rfl (Or.inl rfl)) (pgs_cons (pg_name (i := 2) sc__law_rng.nd rfl (Or.inl rfl)) pgs_nil))))
      (pss_cons (ps_for PassesOwn.never rfl (pi_list (pe_slice sl_list (pv 0) po_none (po_some pe_int))) (pg_name (i := 3) sc__law_rng.nd rfl (Or.inl rfl)) (pss_cons (ps_set (i := 4) sc__law_rng.nd rfl (Or.inl rfl) (pe_callB call_abs (by rfl) B.abs (by decide +kernel) (pa_cons (pv 3) pa_nil)))
      (pss_cons (ps_if (pt_cmpR op_ge (pv 4) (pe_op op_pow pe_int pe_int) (by rfl)) (pss_one (ps_set (i := 1) sc__law_rng.nd rfl (Or.inl rfl) (pe_op op_add (pe_op op_mulW (pv 1) (pe_op op_pow pe_int pe_int)) (pe_op op_mod (pv 4) (pe_op op_pow pe_int pe_int))))) pss_nil)
      (pss_one (ps_set (i := 2) sc__law_rng.nd rfl (Or.inl rfl) (pe_op op_mod (pe_op op_add (pe_op op_add (pe_op op_mul (pv 2) pe_int) (pe_op op_mod (pv 3) pe_int)) pe_int) pe_int))))))
      (pss_one (ps_ret (pe_lst (pa_cons (pv 1) (pa_cons (pv 2) (pa_cons pe_int pa_nil)))))))), fun T I q => ?_⟩
  dsimp only [cxOf, Cx.nox, Cx.wish, Cx.blk]
  show SW K T I [.scr ns, .un, .un, .un, .un] _ _
  repeat walk_at "evd"
  have lt : (cutD ns none (some 63)).length ≤ 63 := by
    unfold DL.cutD
    rw [List.length_take, List.length_drop]
    omega
  refine ⟨fun i w => ∃ (a b : Int) (x y : SD), (0 ≤ a ∧ a < 2 ^ (200 * i) ∧ 0 ≤ b ∧ b < 2305843009213693951) ∧ w = [.scr ns, .dat (.int a), .dat (.int b), x, y], ⟨0, 88675123, _, _, ⟨by decide, by decide, by decide, by decide⟩, rfl⟩, ?_, ?_⟩
  · rintro i d w B' hi ⟨a, b, x, y, ⟨h1, h2, h3, h4⟩, rfl⟩ eb
    rw [List.getElem?_map] at hi
    cases hc : (cutD ns none (some 63))[i]? with
    | none => rw [hc] at hi; cases hi
    | some c =>
      rw [hc] at hi
      cases hi
      have hi63 : i < 63 := Nat.lt_of_lt_of_le (List.getElem?_eq_some_iff.mp hc).1 lt
      repeat walk_at "evd"
      have m0 : ∀ z : Int, 0 ≤ z % 2305843009213693951 ∧ z % 2305843009213693951 < 2305843009213693951 := fun z => ⟨Int.emod_nonneg _ (by decide), Int.emod_lt_of_pos _ (by decide)⟩
      refine ifd (fun hs => ?_) (fun hs => ?_)
      · repeat walk_at "evd"
        · exact (wide_mul (a := 13000) (b := 200) (abs_pow h1 (pow_mono h2 (by omega))) (show ((10 : Int) ^ Int.toNat 60).natAbs < 2 ^ 200 by decide +kernel) (by decide) (by decide) (by decide))
        repeat walk_at "evd"
        refine ⟨_, _, _, _, ⟨?_, ?_, (m0 _).1, (m0 _).2⟩, rfl⟩
        · have := Int.mul_nonneg h1 (by decide : (0 : Int) ≤ 10 ^ 60)
          have := Int.emod_nonneg (if c < 0 then -c else c) (by decide : (10 : Int) ^ 60 ≠ 0)
          have e6 : Int.toNat 60 = 60 := rfl
          rw [e6]
          exact Int.add_nonneg (by assumption) (by assumption)
        · have e : 200 * (i + 1) = 200 + 200 * i := by omega
          have e6 : Int.toNat 60 = 60 := rfl
          rw [e, e6]
          exact dig_step h1 h2 (Int.emod_lt_of_pos _ (by decide))
      · repeat walk_at "evd"
        exact ⟨_, _, _, _, ⟨h1, pow_mono h2 (by omega), (m0 _).1, (m0 _).2⟩, rfl⟩
  · rintro w ⟨a, b, x, y, ⟨h1, h2, h3, h4⟩, rfl⟩
    repeat walk_at "efd"
    exact q _ _ _ _ h1 h3 h4 (Same.refl I)
end
end K01
local macro_rules | `(tactic| walk_at "eve") => `(tactic| first
  | ((with_reducible refine' DL.ew_var ?hh ?_); (case hh => rfl))
  | with_reducible refine DL.ew_int ?_
  | with_reducible refine DL.ew_str ?_
  | with_reducible refine DL.ew_bl ?_
  | with_reducible refine DL.ew_non ?_
  | with_reducible refine ⟨_, And.intro rfl ?_⟩
  | with_reducible refine And.intro rfl ?_
  | with_reducible refine DL.ew_cat ?_
  | with_reducible refine DL.ew_rep ?_
  | ((with_reducible refine' DL.ew_ixC ?hh ?_); (case hh => rfl))
  | ((with_reducible refine' DL.ew_ixM ?hh ?_); (case hh => rfl))
  | ((with_reducible refine' DL.ew_neM ?hh ?_); (case hh => rfl))
  | ((with_reducible refine' DL.ew_eqM ?hh ?_); (case hh => rfl))
  | ((with_reducible refine' DL.ew_lenM ?hh ?_); (case hh => rfl))
  | ((with_reducible refine' DL.ew_ef (DL.ef_sliceS ?hh ?_)); (case hh => rfl))
  | with_reducible refine DL.ew_ef (DL.ef_slice ?_)
  | with_reducible refine DL.ew_ef (DL.ef_rev ?_)
  | with_reducible refine DL.ew_ef (DL.ef_callF ?_)
  | with_reducible refine DL.oe_no ?_
  | with_reducible refine DL.oe_part ?_
  | with_reducible refine DL.ef_slice ?_
  | with_reducible refine DL.ef_rev ?_
  | with_reducible refine DL.ef_callF ?_
  | with_reducible refine DL.ew_callSw ?_
  | with_reducible refine DL.ew_callOne ?_
  | with_reducible refine DL.ew_op ?_
  | with_reducible refine DL.ew_un ?_
  | with_reducible refine DL.of_cat (Nat.le_of_ble_eq_true rfl) ?_
  | with_reducible refine DL.ow_ii ?_
  | with_reducible refine DL.uw_i ?_
  | with_reducible refine DL.ow_ib ?_
  | with_reducible refine DL.ow_eqI ?_
  | with_reducible refine DL.ow_neI ?_
  | with_reducible refine DL.ow_eqS ?_
  | with_reducible refine DL.ow_neS ?_
  | ((with_reducible refine' DL.ow_ci ?hh ?_); (case hh => first | (show (0 : Int) < _; omega) | (show (0 : Int) < _; decide) | exact Or.inl ⟨by omega, by omega⟩ | exact Or.inr ⟨by omega, by omega⟩ | exact ⟨by omega, by omega⟩ | exact ⟨by decide, by decide, by decide⟩ | assumption))
  | with_reducible refine' DL.ow_ci ?_ ?_
  | ((with_reducible refine' DL.ow_ixL ?hh ?_); (case hh => first | rfl | assumption))
  | ((with_reducible refine' DL.ow_ixT ?hh ?_); (case hh => first | rfl | assumption))
  | ((with_reducible refine' DL.ow_in ?hh ?h1 ?h2 ?_); (case hh => first | exact Or.inl rfl | exact Or.inr rfl); (case h1 => rfl); (case h2 => rfl))
  | with_reducible refine DL.ew_cst ?_
  | (refine DL.if_yes (by first | decide | assumption | omega) ?_)
  | (refine DL.if_no (by first | decide | assumption | omega) ?_)
  | (refine DL.ifn_yes (by first | decide | assumption | omega) ?_)
  | (refine DL.ifn_no (by first | decide | assumption | omega) ?_)
  | (refine DL.ifbT (by rfl) ?_)
  | (refine DL.ifbF (by rfl) ?_)
  | with_reducible refine DL.tw_test ?_
  | ((with_reducible refine' DL.tw_truM ?hh ?_); (case hh => rfl))
  | ((with_reducible refine' DL.sw_append ?hh ?_); (case hh => rfl))
  | with_reducible refine DL.tw_B ?_
  | with_reducible refine DL.tw_and ?_
  | with_reducible refine DL.tw_or ?_
  | with_reducible refine DL.tw_not ?_
  | with_reducible refine DL.tw_yes ?_
  | with_reducible refine DL.aw_cons ?_
  | with_reducible refine DL.aw_nil ?_
  | (with_reducible refine DL.ew_tup ?_)
  | (with_reducible refine DL.ew_lst ?_)
  | (with_reducible refine DL.ef_lst ?_)
  | with_reducible refine DL.ew_if ?_
  | with_reducible refine DL.ew_andV ?_
  | with_reducible refine DL.ew_orV ?_
  | with_reducible refine DL.ew_notV ?_
  | with_reducible refine DL.ew_chain ?_
  | ((with_reducible refine' DL.cw_len ?hh ?_); (case hh => first | exact Or.inl rfl | exact Or.inr rfl))
  | with_reducible refine DL.ew_cb ?_
  | with_reducible refine DL.cw_abs ?_
  | with_reducible refine DL.cw_max2 ?_
  | with_reducible refine DL.cw_min2 ?_
  | with_reducible refine DL.cw_int1 ?_
  | with_reducible refine DL.sw_seq ?_
  | with_reducible refine DL.sw_next ?_
  | with_reducible refine DL.nx_tn ?_
  | with_reducible refine DL.ct_tn ?_
  | with_reducible refine DL.nx_mk ?_
  | with_reducible refine DL.nx_e ?_
  | with_reducible refine DL.rt_mk ?_
  | with_reducible refine DL.sw_if ?_
  | (with_reducible refine DL.sw_own (DL.ef_lst ?_))
  | with_reducible refine DL.sw_set ?_
  | ((with_reducible refine' DL.sw_setC ?hh ?_); (case hh => rfl))
  | ((with_reducible refine' DL.sw_setM ?hh ?_); (case hh => rfl))
  | with_reducible refine DL.sw_asg ?_
  | ((with_reducible refine' DL.sw_retH ?hh ?_); (case hh => rfl))
  | with_reducible refine DL.sw_ret ?_
  | with_reducible refine DL.rf_mk ?_
  | with_reducible refine DL.sw_drop ?_
  | ((with_reducible refine' DL.ew_draw MM.drawP ?hh ?_); (case hh => rfl))
  | with_reducible refine DL.ew_callP ?_
  | ((with_reducible refine' And.intro (DL.plain_cons ?h1 DL.plain_nil) ?_); (case h1 => first | exact Or.inl rfl | exact Or.inr ⟨_, rfl⟩))
  | ((with_reducible refine' And.intro (DL.plain_cons ?h1 (DL.plain_cons ?h2 DL.plain_nil)) ?_); (case h1 => first | exact Or.inl rfl | exact Or.inr ⟨_, rfl⟩); (case h2 => first | exact Or.inl rfl | exact Or.inr ⟨_, rfl⟩))
  | ((refine' And.intro (DL.plain_cons ?h1 DL.plain_nil) ?_); (case h1 => first | exact Or.inl rfl | exact Or.inr ⟨_, rfl⟩))
  | ((refine' And.intro (DL.plain_cons ?h1 (DL.plain_cons ?h2 DL.plain_nil)) ?_); (case h1 => first | exact Or.inl rfl | exact Or.inr ⟨_, rfl⟩); (case h2 => first | exact Or.inl rfl | exact Or.inr ⟨_, rfl⟩))
  | ((with_reducible refine' DL.gc_name ?hh ?_); (case hh => decide))
  | ((with_reducible refine' DL.gc_tup ?hh ?_); (case hh => rfl))
  | with_reducible refine DL.gcs_cons ?_
  | with_reducible refine DL.gcs_nil ?_
  | with_reducible refine DL.iw_enum ?_
  | ((with_reducible refine' DL.gw_tup ?hh ?_); (case hh => rfl))
  | with_reducible refine DL.gws_cons ?_
  | with_reducible refine DL.gws_nil ?_
  | with_reducible refine DL.sw_par ?_
  | with_reducible refine DL.sw_for ?_
  | with_reducible refine DL.iw_list ?_
  | with_reducible refine DL.iw_tup ?_
  | with_reducible refine DL.iw_range1 ?_
  | with_reducible refine DL.iw_range2 ?_
  | with_reducible refine DL.gw_name ?_
  | (refine And.intro (Nat.le_of_ble_eq_true rfl) ?_)
  | (with_reducible refine And.intro (by assumption) ?_)
  | ((with_reducible refine' Exists.intro _ (And.intro ?hh ?_)); (case hh => first | with_reducible_and_instances rfl | with_reducible assumption))
  | (with_reducible refine ⟨_, _, rfl, rfl, (by first | omega | decide), (by first | omega | decide), (by omega), ?_⟩)
  | (refine' Exists.intro _ (And.intro ?hh ?_); (case hh => first | rfl | decide))
  | (refine And.intro (by first | decide | exact Nat.le_of_ble_eq_true rfl | (simp; decide)) ?_))
local macro_rules | `(tactic| walk_at "efe") => `(tactic| first
  | ((with_reducible refine' DL.sw_retH ?hh ?_); (case hh => rfl))
  | with_reducible refine DL.sw_retE ?_
  | walk_at "eve")
namespace K01
open PySem PySem.Spec PyProof.Rows L2 DL MM
section
variable {P : Program} {w : World} {K : Frg} {mg : PySem.Str → Option Value} {base : Heap}
theorem sc__law_draw : FnScope ["rng", "limit", "found", "mixed"] ["rng", "limit"] (defScope s__law_draw) := ⟨rfl, rfl, rfl, by decide +kernel, rfl, by decide +kernel, by decide +kernel⟩
theorem ok__law_draw {f : Addr} {fd : FuncData} {k : Nat} (F : Fun K "_law_draw" "_law_draw" s__law_draw f fd) : FnOk P w K mg base CX0 (k + 1) f fd ["rng", "limit"] (SpR K preDraw) := by
  refine okR F sc__law_draw (fun c ds c' R ⟨v, n, lim, _, e, _⟩ => by rw [e]; rfl) (fun c ds c' R ⟨v, n, lim, e, _, _, _, _, e2, _⟩ => ⟨v, by rw [e]; exact rngC_fix, by rw [e2]; exact rngC_fix⟩) fun cv A outer s H Q E c c' ds R hr ⟨v, n, lim, e1, e2, l1, l2, l3, e3, e4⟩ => ?_
  subst e1
  subst e2
  subst e3
  subst e4
  refine ⟨_, (pss_cons (ps_if (pt_cmpR op_gt (pe_ix ix_list (pv 0) pe_int (fun _ _ => rfl)) pe_int (by rfl)) (pss_cons (ps_set (i := 2) sc__law_draw.nd rfl (Or.inl rfl) (pe_op op_mod (pe_ix ix_list (pv 0) pe_int (fun _ _ => rfl)) (pv 1)))
      (pss_cons (ps_asg (pe_op op_fdivW (pe_ix ix_list (pv 0) pe_int (fun _ _ => rfl)) (pv 1)) (pg_sub (pv 0) pe_int set_list))
      (pss_one (ps_ret (pv 2))))) pss_nil)
      (pss_cons (ps_asg (pe_op op_add (pe_ix ix_list (pv 0) pe_int (fun _ _ => rfl)) pe_int) (pg_sub (pv 0) pe_int set_list))
      (pss_cons (ps_set (i := 3) sc__law_draw.nd rfl (Or.inl rfl) (pe_op op_mod (pe_op DL.op_powW (pe_op op_add (pe_ix ix_list (pv 0) pe_int (fun _ _ => rfl)) (pe_op op_mul pe_int (pe_ix ix_list (pv 0) pe_int (fun _ _ => rfl)))) pe_int) pe_int))
      (pss_cons (ps_set (i := 3) sc__law_draw.nd rfl (Or.inl rfl) (pe_op op_mod (pe_op DL.op_powW (pe_op op_add (pv 3) (pe_op op_mul pe_int (pe_ix ix_list (pv 0) pe_int (fun _ _ => rfl)))) pe_int) pe_int))
      (pss_one (ps_ret (pe_op op_mod (pe_op op_fdiv (pv 3) pe_int) (pv 1)))))))), fun T I q => ?_⟩
  dsimp only [cxOf, Cx.nox, Cx.wish, Cx.blk]
  show SW K T I [.cel (rngC v n), .dat (.int lim), .un, .un] _ _
  refine sw_open (j := 0) rfl (C := fun x : {x : Int × Int × Int // 0 ≤ x.1 ∧ 0 ≤ x.2.1 ∧ x.2.1 < 2305843009213693951 ∧ 0 ≤ x.2.2 ∧ x.2.2 ≤ n} => flC v [.int x.1.1, .int x.1.2.1, .int x.1.2.2]) (fun F u I H ⟨a, b, c, h, q⟩ => ⟨⟨(a, b, c), h⟩, q⟩) ?_
  rintro ⟨⟨x, y, z⟩, h1, h2, h3, h4, h5⟩
  dsimp only at h1 h2 h3 h4 h5
  show SW K T I [.cel (flC v [.int x, .int y, .int z]), .dat (.int lim), .un, .un] _ _
  have nl : lim.natAbs < 2 ^ 200 := abs_pow (by omega) l2
  have ml : ∀ u : Int, 0 ≤ u % lim ∧ u % lim < lim := fun u => ⟨Int.emod_nonneg _ (by omega), Int.emod_lt_of_pos _ l1⟩
  repeat walk_at "eve"
  refine ifd (fun hx => ?_) (fun hx => ?_)
  · repeat walk_at "eve"
    · exact wide_div l1 nl (by decide) (by decide)
    repeat walk_at "eve"
    refine rt_cel (j := 0) (c' := rngC v (n + 1)) rfl (fun F u I H q => ⟨x / lim, y, z, ⟨Int.ediv_nonneg h1 (by omega), h2, h3, h4, by omega⟩, q⟩) ?_
    exact q _ _ _ ⟨_, rfl, (ml _).1, (ml _).2⟩ (Same.refl I) rfl
  · repeat walk_at "eve"
    refine rt_cel (j := 0) (c' := rngC v (n + 1)) rfl (fun F u I H q => ⟨x, y, z + 1, ⟨h1, h2, h3, by omega, by omega⟩, q⟩) ?_
    exact q _ _ _ ⟨_, rfl, (ml _).1, (ml _).2⟩ (Same.refl I) rfl
end
end K01
local macro_rules | `(tactic| walk_at "evf") => `(tactic| first
  | ((with_reducible refine' DL.ew_var ?hh ?_); (case hh => rfl))
  | with_reducible refine DL.ew_int ?_
  | with_reducible refine DL.ew_str ?_
  | with_reducible refine DL.ew_bl ?_
  | with_reducible refine DL.ew_non ?_
  | with_reducible refine ⟨_, And.intro rfl ?_⟩
  | with_reducible refine And.intro rfl ?_
  | with_reducible refine DL.ew_cat ?_
  | with_reducible refine DL.ew_rep ?_
  | ((with_reducible refine' DL.ew_ixC ?hh ?_); (case hh => rfl))
  | ((with_reducible refine' DL.ew_ixM ?hh ?_); (case hh => rfl))
  | ((with_reducible refine' DL.ew_neM ?hh ?_); (case hh => rfl))
  | ((with_reducible refine' DL.ew_eqM ?hh ?_); (case hh => rfl))
  | ((with_reducible refine' DL.ew_lenM ?hh ?_); (case hh => rfl))
  | ((with_reducible refine' DL.ew_ef (DL.ef_sliceS ?hh ?_)); (case hh => rfl))
  | with_reducible refine DL.ew_ef (DL.ef_slice ?_)
  | with_reducible refine DL.ew_ef (DL.ef_rev ?_)
  | with_reducible refine DL.ew_ef (DL.ef_callF ?_)
  | with_reducible refine DL.oe_no ?_
  | with_reducible refine DL.oe_part ?_
  | with_reducible refine DL.ef_slice ?_
  | with_reducible refine DL.ef_rev ?_
  | with_reducible refine DL.ef_callF ?_
  | with_reducible refine DL.ew_callSw ?_
  | with_reducible refine DL.ew_callOne ?_
  | with_reducible refine DL.ew_op ?_
  | with_reducible refine DL.ew_un ?_
  | with_reducible refine DL.of_cat (Nat.le_of_ble_eq_true rfl) ?_
  | with_reducible refine DL.ow_ii ?_
  | with_reducible refine DL.uw_i ?_
  | with_reducible refine DL.ow_ib ?_
  | with_reducible refine DL.ow_eqI ?_
  | with_reducible refine DL.ow_neI ?_
  | with_reducible refine DL.ow_eqS ?_
  | with_reducible refine DL.ow_neS ?_
  | ((with_reducible refine' DL.ow_ci ?hh ?_); (case hh => first | (show (0 : Int) < _; omega) | (show (0 : Int) < _; decide) | exact Or.inl ⟨by omega, by omega⟩ | exact Or.inr ⟨by omega, by omega⟩ | exact ⟨by omega, by omega⟩ | exact ⟨by decide, by decide, by decide⟩ | assumption))
  | with_reducible refine' DL.ow_ci ?_ ?_
  | ((with_reducible refine' DL.ow_ixL ?hh ?_); (case hh => first | rfl | assumption))
  | ((with_reducible refine' DL.ow_ixT ?hh ?_); (case hh => first | rfl | assumption))
  | ((with_reducible refine' DL.ow_in ?hh ?h1 ?h2 ?_); (case hh => first | exact Or.inl rfl | exact Or.inr rfl); (case h1 => rfl); (case h2 => rfl))
  | with_reducible refine DL.ew_cst ?_
  | (refine DL.if_yes (by first | decide | assumption | omega) ?_)
  | (refine DL.if_no (by first | decide | assumption | omega) ?_)
  | (refine DL.ifn_yes (by first | decide | assumption | omega) ?_)
  | (refine DL.ifn_no (by first | decide | assumption | omega) ?_)
  | (refine DL.ifbT (by rfl) ?_)
  | (refine DL.ifbF (by rfl) ?_)
  | with_reducible refine DL.tw_test ?_
  | ((with_reducible refine' DL.tw_truM ?hh ?_); (case hh => rfl))
  | ((with_reducible refine' DL.sw_append ?hh ?_); (case hh => rfl))
  | with_reducible refine DL.tw_B ?_
  | with_reducible refine DL.tw_and ?_
  | with_reducible refine DL.tw_or ?_
  | with_reducible refine DL.tw_not ?_
  | with_reducible refine DL.tw_yes ?_
  | with_reducible refine DL.aw_cons ?_
  | with_reducible refine DL.aw_nil ?_
  | (with_reducible refine DL.ew_tup ?_)
  | (with_reducible refine DL.ew_lst ?_)
  | (with_reducible refine DL.ef_lst ?_)
  | with_reducible refine DL.ew_if ?_
  | with_reducible refine DL.ew_andV ?_
  | with_reducible refine DL.ew_orV ?_
  | with_reducible refine DL.ew_notV ?_
  | with_reducible refine DL.ew_chain ?_
  | ((with_reducible refine' DL.cw_len ?hh ?_); (case hh => first | exact Or.inl rfl | exact Or.inr rfl))
  | with_reducible refine DL.ew_cb ?_
  | with_reducible refine DL.cw_abs ?_
  | with_reducible refine DL.cw_max2 ?_
  | with_reducible refine DL.cw_min2 ?_
  | with_reducible refine DL.cw_int1 ?_
  | with_reducible refine DL.sw_seq ?_
  | with_reducible refine DL.sw_next ?_
  | with_reducible refine DL.nx_tn ?_
  | with_reducible refine DL.ct_tn ?_
  | with_reducible refine DL.nx_mk ?_
  | with_reducible refine DL.nx_e ?_
  | with_reducible refine DL.rt_mk ?_
  | with_reducible refine DL.sw_if ?_
  | (with_reducible refine DL.sw_own (DL.ef_lst ?_))
  | with_reducible refine DL.sw_set ?_
  | ((with_reducible refine' DL.sw_setC ?hh ?_); (case hh => rfl))
  | ((with_reducible refine' DL.sw_setM ?hh ?_); (case hh => rfl))
  | with_reducible refine DL.sw_asg ?_
  | ((with_reducible refine' DL.sw_retH ?hh ?_); (case hh => rfl))
  | with_reducible refine DL.sw_ret ?_
  | with_reducible refine DL.rf_mk ?_
  | with_reducible refine DL.sw_drop ?_
  | ((with_reducible refine' DL.ew_draw MM.drawP ?hh ?_); (case hh => rfl))
  | with_reducible refine DL.ew_callP ?_
  | ((with_reducible refine' And.intro (DL.plain_cons ?h1 DL.plain_nil) ?_); (case h1 => first | exact Or.inl rfl | exact Or.inr ⟨_, rfl⟩))
  | ((with_reducible refine' And.intro (DL.plain_cons ?h1 (DL.plain_cons ?h2 DL.plain_nil)) ?_); (case h1 => first | exact Or.inl rfl | exact Or.inr ⟨_, rfl⟩); (case h2 => first | exact Or.inl rfl | exact Or.inr ⟨_, rfl⟩))
  | ((refine' And.intro (DL.plain_cons ?h1 DL.plain_nil) ?_); (case h1 => first | exact Or.inl rfl | exact Or.inr ⟨_, rfl⟩))
  | ((refine' And.intro (DL.plain_cons ?h1 (DL.plain_cons ?h2 DL.plain_nil)) ?_); (case h1 => first | exact Or.inl rfl | exact Or.inr ⟨_, rfl⟩); (case h2 => first | exact Or.inl rfl | exact Or.inr ⟨_, rfl⟩))
  | ((with_reducible refine' DL.gc_name ?hh ?_); (case hh => decide))
  | ((with_reducible refine' DL.gc_tup ?hh ?_); (case hh => rfl))
  | with_reducible refine DL.gcs_cons ?_
  | with_reducible refine DL.gcs_nil ?_
  | with_reducible refine DL.iw_enum ?_
  | ((with_reducible refine' DL.gw_tup ?hh ?_); (case hh => rfl))
  | with_reducible refine DL.gws_cons ?_
  | with_reducible refine DL.gws_nil ?_
  | with_reducible refine DL.sw_par ?_
  | with_reducible refine DL.sw_for ?_
  | with_reducible refine DL.iw_list ?_
  | with_reducible refine DL.iw_tup ?_
  | with_reducible refine DL.iw_range1 ?_
  | with_reducible refine DL.iw_range2 ?_
  | with_reducible refine DL.gw_name ?_
  | (refine And.intro (Nat.le_of_ble_eq_true rfl) ?_)
  | (with_reducible refine And.intro (by assumption) ?_)
  | ((with_reducible refine' Exists.intro _ (And.intro ?hh ?_)); (case hh => first | with_reducible_and_instances rfl | with_reducible assumption))
  | (with_reducible refine ⟨_, _, rfl, rfl, (by first | omega | decide), (by first | omega | decide), (by omega), ?_⟩)
  | (refine' Exists.intro _ (And.intro ?hh ?_); (case hh => first | rfl | decide))
  | (refine And.intro (by first | decide | exact Nat.le_of_ble_eq_true rfl | (simp; decide)) ?_))
local macro_rules | `(tactic| walk_at "eff") => `(tactic| first
  | ((with_reducible refine' DL.sw_retH ?hh ?_); (case hh => rfl))
  | with_reducible refine DL.sw_retE ?_
  | walk_at "evf")
namespace K01
open PySem PySem.Spec PyProof.Rows L2 DL MM
section
variable {P : Program} {w : World} {K : Frg} {mg : PySem.Str → Option Value} {base : Heap}
theorem sc__law_kinds : FnScope ["rng", "pool", "turn"] ["rng"] (defScope s__law_kinds) := ⟨rfl, rfl, rfl, by decide +kernel, rfl, by decide +kernel, by decide +kernel⟩
def pool20 : List S := ["a", "b", "ab", "", "B", "z z", "~", "0", "10", "aaaaaaaaaaaaaaaaaaaa", " ", "|", "-", "9", "2", "02", " a", "_", "^", "100"]
def preKinds : Cel → List PyData → Cel → (PyData → Prop) → Prop := fun c ds c' R => ∃ (v : V) (n : Nat), c = rngC v n ∧ ds = [] ∧ n < 2 ^ 59 ∧ c' = rngC v (n + 15) ∧ R = fun d => ∃ ks : List S, d = .list (ks.map .str) ∧ 0 < ks.length ∧ ks.length ≤ 13 ∧ ∀ x ∈ ks, x ∈ pool20
theorem ok__law_kinds {f : Addr} {fd : FuncData} (F : Fun K "_law_kinds" "_law_kinds" s__law_kinds f fd) (B : Bt mg) (G__law_draw : Df P w K mg base 1 "_law_draw" ["rng", "limit"] (SpR K preDraw)) : FnOk P w K mg base CX0 2 f fd ["rng"] (SpR K preKinds) := by
  refine okR F sc__law_kinds (fun c ds c' R ⟨v, n, _, e, _⟩ => by rw [e]; rfl) (fun c ds c' R ⟨v, n, e, _, _, e2, _⟩ => ⟨v, by rw [e]; exact rngC_fix, by rw [e2]; exact rngC_fix⟩) fun cv A outer s H Q E c c' ds R hr ⟨v, n, e1, e2, l3, e3, e4⟩ => ?_
  subst e1
  subst e2
  subst e3
  subst e4
  refine ⟨_, (pss_cons (ps_set (i := 1) sc__law_kinds.nd rfl (Or.inr rfl) (pe_lst (pa_cons pe_str (pa_cons pe_str (pa_cons pe_str (pa_cons pe_str (pa_cons pe_str (pa_cons pe_str (pa_cons pe_str (pa_cons pe_str (pa_cons pe_str (pa_cons pe_str (pa_cons pe_str (pa_cons pe_str (pa_cons pe_str pa_nil)))))))))))))))
      (pss_cons (ps_set (i := 1) sc__law_kinds.nd rfl (Or.inr rfl) (pe_op op_cat (pv 1) (pe_lst (pa_cons pe_str (pa_cons pe_str (pa_cons pe_str (pa_cons pe_str (pa_cons pe_str (pa_cons pe_str (pa_cons pe_str pa_nil))))))))))
      (pss_one (ps_ret (DL.pe_lcD s H f [] [] (own := [("turn", 2)]) rfl sc__law_kinds.nd (pi_range1 (by rfl) B.range (pa_cons (pe_op op_add pe_int (DL.pe_df G__law_draw hr (by decide) (by rfl) (pa_cons (pv 0) (pa_cons (pe_ix ix_list (pe_lst (pa_cons pe_int (pa_cons pe_int pa_nil))) (DL.pe_df G__law_draw hr (by decide) (by rfl) (pa_cons (pv 0) (pa_cons pe_int pa_nil))) (fun _ _ => rfl)) pa_nil)))) pa_nil)) (blkOk_by (own := [("turn", 2)]) (N := ["rng", "pool", "turn"]) (sc := defScope s__law_kinds) (by decide +kernel)) (fun _ _ _ _ _ => (pg_name (i := 2) sc__law_kinds.nd rfl (Or.inl rfl))) (fun _ _ _ _ _ => pts_nil) (fun _ _ _ _ _ => (pe_bm PySem.F.plainAttrs_list PySem.F.slot_list_pop PySem.F.type_list_pop mt_popAt (pv 1) (pa_cons (DL.pe_df G__law_draw hr (by decide) (by rfl) (pa_cons (pv 0) (pa_cons (pe_callB call_len_seq (by rfl) B.len PySem.boot_len (pa_cons (pv 1) pa_nil)) pa_nil))) pa_nil)))))))), fun T I q => ?_⟩
  dsimp only [cxOf, Cx.nox, Cx.wish, Cx.blk]
  show SW K T I [.cel (rngC v n), .un, .un] _ _
  refine sw_seq (sw_own (ef_lst ?_))
  repeat (first | with_reducible refine DL.aw_cons ?_ | with_reducible refine DL.ew_str ?_ | with_reducible refine DL.aw_nil ?_)
  refine ⟨Nat.le_of_ble_eq_true rfl, nx_mk (sw_seq (sw_done (i := 1) rfl (sw_own (ef_op ?_))))⟩
  repeat walk_at "evf"
  show EW K [.cel (rngC v n), .mut (pool20.map .str), .un] _ _
  refine ew_ef (ef_lc ?_)
  repeat walk_at "evf"
  intro r h0 h1
  obtain ⟨m, hm, m0, m1⟩ : ∃ m : Int, atI [PyData.int 5, .int 13] r = some (.int m) ∧ 0 < m ∧ m ≤ 13 := by
    rcases (by omega : r = 0 ∨ r = 1) with rfl | rfl
    · exact ⟨5, rfl, by decide, by decide⟩
    · exact ⟨13, rfl, by decide, by decide⟩
  refine ow_ixL hm ?_
  repeat walk_at "evf"
  intro k k0 k1
  repeat walk_at "evf"
  have rl : (rangeD 0 (1 + k).toNat).length = (1 + k).toNat := rangeD_len
  refine ⟨by omega, by omega, fun i acc w => ∃ (m : Nat) (pl ks : List S), w = [.cel (rngC v m), .mut (pl.map .str), .un] ∧ m ≤ n + 2 + i ∧ acc = ks.map .str ∧ ks.length = i ∧ pl.length + i = 20 ∧ (∀ x ∈ ks, x ∈ pool20) ∧ ∀ x ∈ pl, x ∈ pool20, ⟨n + 2, pool20, [], rfl, by omega, rfl, rfl, rfl, by simp, fun _ h => h⟩, ?_, ?_⟩
  · rintro i d acc w hi ⟨m, pl, ks, rfl, h1, rfl, h3, h4, h5, h6⟩
    have hlt := (rangeD_get hi).1
    have pll : (pl.map PyData.str).length = pl.length := List.length_map _
    repeat walk_at "evf"
    refine ew_popW rfl ?_
    repeat walk_at "evf"
    intro r r0 r1
    have r2 : r.toNat < pl.length := by omega
    have g : pl[r.toNat]? = some pl[r.toNat] := List.getElem?_eq_getElem r2
    refine ⟨r, pl.map .str, rfl, rfl, by rw [pll]; omega, r0, .str pl[r.toNat], by rw [List.getElem?_map, g]; rfl, by rw [List.length_map]; exact Nat.lt_of_le_of_lt (by omega : ks.length ≤ 20) (by decide), ?_⟩
    refine ⟨m + 1, pl.eraseIdx r.toNat, ks ++ [pl[r.toNat]], ?_, by omega, by rw [List.map_append]; rfl, by rw [List.length_append, h3]; rfl, by rw [List.length_eraseIdx, if_pos r2]; omega, ?_, ?_⟩
    · rw [← erase_map]
      rfl
    · intro x hx
      rcases List.mem_append.mp hx with z | z
      · exact h5 x z
      · rw [List.mem_singleton.mp z]
        exact h6 _ (List.getElem_mem r2)
    · exact fun x hx => h6 x (List.mem_of_mem_eraseIdx hx)
  · rintro acc w ⟨m, pl, ks, rfl, h1, rfl, h3, h4, h5, h6⟩
    refine rt_cel (j := 0) (c' := rngC v (n + 15)) rfl (rngC_le (by omega)) ?_
    exact q _ _ _ ⟨ks, rfl, by omega, by omega, h5⟩ (Same.refl I) rfl
end
end K01
local macro_rules | `(tactic| walk_at "evg") => `(tactic| first
  | ((with_reducible refine' DL.ew_var ?hh ?_); (case hh => rfl))
  | with_reducible refine DL.ew_int ?_
  | with_reducible refine DL.ew_str ?_
  | with_reducible refine DL.ew_bl ?_
  | with_reducible refine DL.ew_non ?_
  | with_reducible refine ⟨_, And.intro rfl ?_⟩
  | with_reducible refine And.intro rfl ?_
  | with_reducible refine DL.ew_cat ?_
  | with_reducible refine DL.ew_rep ?_
  | ((with_reducible refine' DL.ew_ixC ?hh ?_); (case hh => rfl))
  | ((with_reducible refine' DL.ew_ixM ?hh ?_); (case hh => rfl))
  | ((with_reducible refine' DL.ew_neM ?hh ?_); (case hh => rfl))
  | ((with_reducible refine' DL.ew_eqM ?hh ?_); (case hh => rfl))
  | ((with_reducible refine' DL.ew_lenM ?hh ?_); (case hh => rfl))
  | ((with_reducible refine' DL.ew_ef (DL.ef_sliceS ?hh ?_)); (case hh => rfl))
  | with_reducible refine DL.ew_ef (DL.ef_slice ?_)
  | with_reducible refine DL.ew_ef (DL.ef_rev ?_)
  | with_reducible refine DL.ew_ef (DL.ef_callF ?_)
  | with_reducible refine DL.oe_no ?_
  | with_reducible refine DL.oe_part ?_
  | with_reducible refine DL.ef_slice ?_
  | with_reducible refine DL.ef_rev ?_
  | with_reducible refine DL.ef_callF ?_
  | with_reducible refine DL.ew_callSw ?_
  | with_reducible refine DL.ew_callOne ?_
  | with_reducible refine DL.ew_op ?_
  | with_reducible refine DL.ew_un ?_
  | with_reducible refine DL.of_cat (Nat.le_of_ble_eq_true rfl) ?_
  | with_reducible refine DL.ow_ii ?_
  | with_reducible refine DL.uw_i ?_
  | with_reducible refine DL.ow_ib ?_
  | with_reducible refine DL.ow_eqI ?_
  | with_reducible refine DL.ow_neI ?_
  | with_reducible refine DL.ow_eqS ?_
  | with_reducible refine DL.ow_neS ?_
  | ((with_reducible refine' DL.ow_ci ?hh ?_); (case hh => first | (show (0 : Int) < _; omega) | (show (0 : Int) < _; decide) | exact Or.inl ⟨by omega, by omega⟩ | exact Or.inr ⟨by omega, by omega⟩ | exact ⟨by omega, by omega⟩ | exact ⟨by decide, by decide, by decide⟩ | assumption))
  | with_reducible refine' DL.ow_ci ?_ ?_
  | ((with_reducible refine' DL.ow_ixL ?hh ?_); (case hh => first | rfl | assumption))
  | ((with_reducible refine' DL.ow_ixT ?hh ?_); (case hh => first | rfl | assumption))
  | ((with_reducible refine' DL.ow_in ?hh ?h1 ?h2 ?_); (case hh => first | exact Or.inl rfl | exact Or.inr rfl); (case h1 => rfl); (case h2 => rfl))
  | with_reducible refine DL.ew_cst ?_
  | (refine DL.if_yes (by first | decide | assumption | omega) ?_)
  | (refine DL.if_no (by first | decide | assumption | omega) ?_)
  | (refine DL.ifn_yes (by first | decide | assumption | omega) ?_)
  | (refine DL.ifn_no (by first | decide | assumption | omega) ?_)
  | (refine DL.ifbT (by rfl) ?_)
  | (refine DL.ifbF (by rfl) ?_)
  | with_reducible refine DL.tw_test ?_
  | ((with_reducible refine' DL.tw_truM ?hh ?_); (case hh => rfl))
  | ((with_reducible refine' DL.sw_append ?hh ?_); (case hh => rfl))
  | with_reducible refine DL.tw_B ?_
  | with_reducible refine DL.tw_and ?_
  | with_reducible refine DL.tw_or ?_
  | with_reducible refine DL.tw_not ?_
  | with_reducible refine DL.tw_yes ?_
  | with_reducible refine DL.aw_cons ?_
  | with_reducible refine DL.aw_nil ?_
  | (with_reducible refine DL.ew_tup ?_)
  | (with_reducible refine DL.ew_lst ?_)
  | (with_reducible refine DL.ef_lst ?_)
  | with_reducible refine DL.ew_if ?_
  | with_reducible refine DL.ew_andV ?_
  | with_reducible refine DL.ew_orV ?_
  | with_reducible refine DL.ew_notV ?_
  | with_reducible refine DL.ew_chain ?_
  | ((with_reducible refine' DL.cw_len ?hh ?_); (case hh => first | exact Or.inl rfl | exact Or.inr rfl))
  | with_reducible refine DL.ew_cb ?_
  | with_reducible refine DL.cw_abs ?_
  | with_reducible refine DL.cw_max2 ?_
  | with_reducible refine DL.cw_min2 ?_
  | with_reducible refine DL.cw_int1 ?_
  | with_reducible refine DL.sw_seq ?_
  | with_reducible refine DL.sw_next ?_
  | with_reducible refine DL.nx_tn ?_
  | with_reducible refine DL.ct_tn ?_
  | with_reducible refine DL.nx_mk ?_
  | with_reducible refine DL.nx_e ?_
  | with_reducible refine DL.rt_mk ?_
  | with_reducible refine DL.sw_if ?_
  | (with_reducible refine DL.sw_own (DL.ef_lst ?_))
  | with_reducible refine DL.sw_set ?_
  | ((with_reducible refine' DL.sw_setC ?hh ?_); (case hh => rfl))
  | ((with_reducible refine' DL.sw_setM ?hh ?_); (case hh => rfl))
  | with_reducible refine DL.sw_asg ?_
  | ((with_reducible refine' DL.sw_retH ?hh ?_); (case hh => rfl))
  | with_reducible refine DL.sw_ret ?_
  | with_reducible refine DL.rf_mk ?_
  | with_reducible refine DL.sw_drop ?_
  | ((with_reducible refine' DL.ew_draw MM.drawP ?hh ?_); (case hh => rfl))
  | with_reducible refine DL.ew_callP ?_
  | ((with_reducible refine' And.intro (DL.plain_cons ?h1 DL.plain_nil) ?_); (case h1 => first | exact Or.inl rfl | exact Or.inr ⟨_, rfl⟩))
  | ((with_reducible refine' And.intro (DL.plain_cons ?h1 (DL.plain_cons ?h2 DL.plain_nil)) ?_); (case h1 => first | exact Or.inl rfl | exact Or.inr ⟨_, rfl⟩); (case h2 => first | exact Or.inl rfl | exact Or.inr ⟨_, rfl⟩))
  | ((refine' And.intro (DL.plain_cons ?h1 DL.plain_nil) ?_); (case h1 => first | exact Or.inl rfl | exact Or.inr ⟨_, rfl⟩))
  | ((refine' And.intro (DL.plain_cons ?h1 (DL.plain_cons ?h2 DL.plain_nil)) ?_); (case h1 => first | exact Or.inl rfl | exact Or.inr ⟨_, rfl⟩); (case h2 => first | exact Or.inl rfl | exact Or.inr ⟨_, rfl⟩))
  | ((with_reducible refine' DL.gc_name ?hh ?_); (case hh => decide))
  | ((with_reducible refine' DL.gc_tup ?hh ?_); (case hh => rfl))
  | with_reducible refine DL.gcs_cons ?_
  | with_reducible refine DL.gcs_nil ?_
  | with_reducible refine DL.iw_enum ?_
  | ((with_reducible refine' DL.gw_tup ?hh ?_); (case hh => rfl))
  | with_reducible refine DL.gws_cons ?_
  | with_reducible refine DL.gws_nil ?_
  | with_reducible refine DL.sw_par ?_
  | with_reducible refine DL.sw_for ?_
  | with_reducible refine DL.iw_list ?_
  | with_reducible refine DL.iw_tup ?_
  | with_reducible refine DL.iw_range1 ?_
  | with_reducible refine DL.iw_range2 ?_
  | with_reducible refine DL.gw_name ?_
  | (refine And.intro (Nat.le_of_ble_eq_true rfl) ?_)
  | (with_reducible refine And.intro (by assumption) ?_)
  | ((with_reducible refine' Exists.intro _ (And.intro ?hh ?_)); (case hh => first | with_reducible_and_instances rfl | with_reducible assumption))
  | (with_reducible refine ⟨_, _, rfl, rfl, (by first | omega | decide), (by first | omega | decide), (by omega), ?_⟩)
  | (refine' Exists.intro _ (And.intro ?hh ?_); (case hh => first | rfl | decide))
  | (refine And.intro (by first | decide | exact Nat.le_of_ble_eq_true rfl | (simp; decide)) ?_))
local macro_rules | `(tactic| walk_at "efg") => `(tactic| first
  | ((with_reducible refine' DL.sw_retH ?hh ?_); (case hh => rfl))
  | with_reducible refine DL.sw_retE ?_
  | walk_at "evg")
namespace K01
open PySem PySem.Spec PyProof.Rows L2 DL MM
section
variable {P : Program} {w : World} {K : Frg} {mg : PySem.Str → Option Value} {base : Heap}
theorem sc__law_items : FnScope ["rng", "kinds_here", "most", "way", "found", "turn", "one"] ["rng", "kinds_here", "most"] (defScope s__law_items) := ⟨rfl, rfl, rfl, by decide +kernel, rfl, by decide +kernel, by decide +kernel⟩
theorem pool_ok : ∀ x ∈ pool20, PyData.strOk x = true := by decide +kernel
def preItems : Cel → List PyData → Cel → (PyData → Prop) → Prop := fun c ds c' R => ∃ (v : V) (n : Nat) (ks : List S) (most : Int), c = rngC v n ∧ ds = [.list (ks.map .str), .int most] ∧ n < 2 ^ 59 ∧ 0 < ks.length ∧ ks.length ≤ 13 ∧ (∀ x ∈ ks, x ∈ pool20) ∧ 0 ≤ most ∧ most ≤ 60 ∧ c' = rngC v (n + 200) ∧ R = fun d => ∃ xs : List S, d = .list (xs.map .str) ∧ xs.length ≤ 60 ∧ ∀ x ∈ xs, x ∈ pool20
theorem ok__law_items {f : Addr} {fd : FuncData} (F : Fun K "_law_items" "_law_items" s__law_items f fd) (B : Bt mg) (G__law_draw : Df P w K mg base 1 "_law_draw" ["rng", "limit"] (SpR K preDraw)) : FnOk P w K mg base CX0 2 f fd ["rng", "kinds_here", "most"] (SpR K preItems) := by
  refine okR F sc__law_items (fun c ds c' R ⟨v, n, ks, most, _, e, _⟩ => by rw [e]; rfl) (fun c ds c' R ⟨v, n, ks, most, e, _, _, _, _, _, _, _, e2, _⟩ => ⟨v, by rw [e]; exact rngC_fix, by rw [e2]; exact rngC_fix⟩) fun cv A outer s H Q E c c' ds R hr ⟨v, n, ks, most, e1, e2, l3, k0, k13, kp, m0, m60, e3, e4⟩ => ?_
  subst e1
  subst e2
  subst e3
  subst e4
  refine ⟨_, (pss_cons (ps_set (i := 3) sc__law_items.nd rfl (Or.inl rfl) (DL.pe_df G__law_draw hr (by decide) (by rfl) (pa_cons (pv 0) (pa_cons pe_int pa_nil))))
      (pss_cons (ps_set (i := 4) sc__law_items.nd rfl (Or.inl rfl) (pe_lst pa_nil))
      (pss_cons (ps_for PassesOwn.never rfl (pi_range1 (by rfl) B.range (pa_cons (DL.pe_df G__law_draw hr (by decide) (by rfl) (pa_cons (pv 0) (pa_cons (pe_op op_add (pv 2) pe_int) pa_nil))) pa_nil)) (pg_name (i := 5) sc__law_items.nd rfl (Or.inl rfl)) (pss_cons (ps_set (i := 6) sc__law_items.nd rfl (Or.inl rfl) (pe_ix ix_list (pv 1) (DL.pe_df G__law_draw hr (by decide) (by rfl) (pa_cons (pv 0) (pa_cons (pe_callB call_len_seq (by rfl) B.len PySem.boot_len (pa_cons (pv 1) pa_nil)) pa_nil))) (fun _ _ => rfl)))
      (pss_cons (ps_if (PW.pt (pw_and (pt_cmpR op_eq (pv 3) pe_int (by rfl)) (pw_and (pt_cmpR (op_neD hr.units) (pv 4) (pe_lst pa_nil) (by rfl)) (pw_and1 (pt_cmpR op_gt (DL.pe_df G__law_draw hr (by decide) (by rfl) (pa_cons (pv 0) (pa_cons pe_int pa_nil))) pe_int (by rfl)))))) (pss_one (ps_set (i := 6) sc__law_items.nd rfl (Or.inl rfl) (pe_ix ix_list (pv 4) (pe_un un_neg pe_int) (fun _ _ => rfl)))) pss_nil)
      (pss_cons (ps_if (pt_cmpR op_eq (pv 3) pe_int (by rfl)) (pss_one (ps_set (i := 6) sc__law_items.nd rfl (Or.inl rfl) (pe_ix ix_list (pv 1) (pe_op op_mod (pv 5) (pe_callB call_len_seq (by rfl) B.len PySem.boot_len (pa_cons (pv 1) pa_nil))) (fun _ _ => rfl)))) pss_nil)
      (pss_one (ps_expr (pe_bm PySem.F.plainAttrs_list PySem.F.slot_list_append PySem.F.type_list_append mt_append (pv 4) (pa_cons (pv 6) pa_nil))))))))
      (pss_one (ps_ret (pv 4)))))), fun T I q => ?_⟩
  dsimp only [cxOf, Cx.nox, Cx.wish, Cx.blk]
  show SW K T I [.cel (rngC v n), .dat (.list (ks.map .str)), .dat (.int most), .un, .un, .un, .un] _ _
  have ksl : (ks.map PyData.str).length = ks.length := List.length_map _
  repeat walk_at "evg"
  intro way w0 w1
  repeat walk_at "evg"
  intro k k0 k1
  repeat walk_at "evg"
  have rl : (rangeD 0 k.toNat).length = k.toNat := rangeD_len
  have inP : ∀ {z : Int}, 0 ≤ z → z < ks.length → ∃ x : S, atI (ks.map PyData.str) z = some (.str x) ∧ x ∈ pool20 := fun {z} h0 h1 => by
    obtain ⟨d, e1, e2⟩ := pick_mem (ds := ks.map PyData.str) h0 (by omega)
    obtain ⟨x, e3, rfl⟩ := List.mem_map.mp e2
    exact ⟨x, e1, kp x e3⟩
  refine ⟨by omega, by omega, fun i w => ∃ (m : Nat) (xs : List S) (a b : SD), w = [.cel (rngC v m), .dat (.list (ks.map .str)), .dat (.int most), .dat (.int way), .mut (xs.map .str), a, b] ∧ m ≤ n + 2 + 2 * i ∧ xs.length = i ∧ ∀ x ∈ xs, x ∈ pool20, ⟨n + 2, [], _, _, rfl, by omega, rfl, by simp⟩, ?_, ?_⟩
  · rintro i d w B' hi ⟨m, xs, a, b, rfl, h1, h2, h3⟩ eb
    obtain ⟨hlt, rfl⟩ := rangeD_get hi
    have xsl : (xs.map PyData.str).length = xs.length := List.length_map _
    have xss : SeqAt.shaped (.list (xs.map PyData.str)) = true := lines_shaped fun x hx => pool_ok x (h3 x hx)
    refine gw_name ?_
    refine sw_seq (sw_set ?_)
    repeat walk_at "evg"
    intro r r0 r1
    obtain ⟨x, e1, hx⟩ := inP r0 (by omega)
    refine ow_ixL e1 (nx_mk ?_)
    have J : ∀ {t u : TS} {D : Ends} {ws : List SD}, _ → _ → SW K T B' ws (tSeq t u) D := fun {t u D ws} h1 h2 => sw_seqJ (fun w => ∃ (m' : Nat) (one : S), w = [.cel (rngC v m'), .dat (.list (ks.map .str)), .dat (.int most), .dat (.int way), .mut (xs.map .str), .dat (.int (0 + (i : Nat))), .dat (.str one)] ∧ m' ≤ n + 4 + 2 * i ∧ one ∈ pool20) h1 h2
    refine J ?_ ?_
    · intro N hN
      repeat walk_at "evg"
      refine ifd (fun hw => ?_) (fun hw => ?_)
      · repeat walk_at "evg"
        rw [eqv_nil]
        rcases hq : xs.getLast? with _ | l
        · have : xs = [] := List.getLast?_eq_none_iff.mp hq
          subst this
          repeat walk_at "evg"
          exact hN _ ⟨m + 1, x, rfl, by omega, hx⟩
        · have ex := snoc_of hq
          have hne : xs.isEmpty = false := by rw [ex]; simp
          rw [hne]
          repeat walk_at "evg"
          intro r r0 r1
          repeat walk_at "evg"
          refine ifd (fun hr => ?_) (fun hr => ?_)
          · repeat walk_at "evg"
            have a1 : atI (xs.map PyData.str) (-1) = some (.str l) := by
              rw [ex, List.map_append]
              exact MM.atI_last _ _
            refine ⟨_, a1, ?_⟩
            repeat walk_at "evg"
            exact hN _ ⟨m + 2, l, rfl, by omega, h3 l (List.mem_of_getLast? hq)⟩
          · repeat walk_at "evg"
            exact hN _ ⟨m + 2, x, rfl, by omega, hx⟩
      · repeat walk_at "evg"
        exact hN _ ⟨m + 1, x, rfl, by omega, hx⟩
    · rintro w ⟨m', one, rfl, h4, h5⟩
      refine J ?_ ?_
      · intro N hN
        repeat walk_at "evg"
        refine ifd (fun hw => ?_) (fun hw => ?_)
        · repeat walk_at "evg"
          obtain ⟨y, e2, hy⟩ := inP (z := (0 + ((i : Nat) : Int)) % (ks.map PyData.str).length) (Int.emod_nonneg _ (by omega)) (by rw [ksl]; exact Int.emod_lt_of_pos _ (by omega))
          refine ow_ixL e2 ?_
          repeat walk_at "evg"
          exact hN _ ⟨m', y, rfl, h4, hy⟩
        · repeat walk_at "evg"
          exact hN _ ⟨m', one, rfl, h4, h5⟩
      · rintro w ⟨m', one, rfl, h4, h5⟩
        repeat walk_at "evg"
        refine ⟨by rw [xsl, h2]; exact Nat.lt_of_lt_of_le hlt (Nat.le_trans (by omega : k.toNat ≤ 100) (by decide)), ?_⟩
        repeat walk_at "evg"
        refine ⟨m', xs ++ [one], .dat (.int (0 + (i : Nat))), .dat (.str one), ?_, by omega, by rw [List.length_append, h2]; rfl, ?_⟩
        · rw [List.map_append]
          rfl
        · intro z hz
          rcases List.mem_append.mp hz with h | h
          · exact h3 z h
          · rw [List.mem_singleton.mp h]
            exact h5
  · rintro w ⟨m, xs, a, b, rfl, h1, h2, h3⟩
    refine sw_retM rfl ?_
    refine rt_cel (j := 0) (c' := rngC v (n + 200)) rfl (rngC_le (by omega)) ?_
    exact q _ _ _ ⟨xs, rfl, by omega, h3⟩ (Same.refl I) rfl
end
end K01
local macro_rules | `(tactic| walk_at "evh") => `(tactic| first
  | ((with_reducible refine' DL.ew_var ?hh ?_); (case hh => rfl))
  | with_reducible refine DL.ew_int ?_
  | with_reducible refine DL.ew_str ?_
  | with_reducible refine DL.ew_bl ?_
  | with_reducible refine DL.ew_non ?_
  | with_reducible refine ⟨_, And.intro rfl ?_⟩
  | with_reducible refine And.intro rfl ?_
  | with_reducible refine DL.ew_cat ?_
  | with_reducible refine DL.ew_rep ?_
  | ((with_reducible refine' DL.ew_ixC ?hh ?_); (case hh => rfl))
  | ((with_reducible refine' DL.ew_ixM ?hh ?_); (case hh => rfl))
  | ((with_reducible refine' DL.ew_neM ?hh ?_); (case hh => rfl))
  | ((with_reducible refine' DL.ew_eqM ?hh ?_); (case hh => rfl))
  | ((with_reducible refine' DL.ew_lenM ?hh ?_); (case hh => rfl))
  | ((with_reducible refine' DL.ew_ef (DL.ef_sliceS ?hh ?_)); (case hh => rfl))
  | with_reducible refine DL.ew_ef (DL.ef_slice ?_)
  | with_reducible refine DL.ew_ef (DL.ef_rev ?_)
  | with_reducible refine DL.ew_ef (DL.ef_callF ?_)
  | with_reducible refine DL.oe_no ?_
  | with_reducible refine DL.oe_part ?_
  | with_reducible refine DL.ef_slice ?_
  | with_reducible refine DL.ef_rev ?_
  | with_reducible refine DL.ef_callF ?_
  | with_reducible refine DL.ew_callSw ?_
  | with_reducible refine DL.ew_callOne ?_
  | with_reducible refine DL.ew_op ?_
  | with_reducible refine DL.ew_un ?_
  | with_reducible refine DL.of_cat (Nat.le_of_ble_eq_true rfl) ?_
  | with_reducible refine DL.ow_ii ?_
  | with_reducible refine DL.uw_i ?_
  | with_reducible refine DL.ow_ib ?_
  | with_reducible refine DL.ow_eqI ?_
  | with_reducible refine DL.ow_neI ?_
  | with_reducible refine DL.ow_eqS ?_
  | with_reducible refine DL.ow_neS ?_
  | ((with_reducible refine' DL.ow_ci ?hh ?_); (case hh => first | (show (0 : Int) < _; omega) | (show (0 : Int) < _; decide) | exact Or.inl ⟨by omega, by omega⟩ | exact Or.inr ⟨by omega, by omega⟩ | exact ⟨by omega, by omega⟩ | exact ⟨by decide, by decide, by decide⟩ | assumption))
  | with_reducible refine' DL.ow_ci ?_ ?_
  | ((with_reducible refine' DL.ow_ixL ?hh ?_); (case hh => first | rfl | assumption))
  | ((with_reducible refine' DL.ow_ixT ?hh ?_); (case hh => first | rfl | assumption))
  | ((with_reducible refine' DL.ow_in ?hh ?h1 ?h2 ?_); (case hh => first | exact Or.inl rfl | exact Or.inr rfl); (case h1 => rfl); (case h2 => rfl))
  | with_reducible refine DL.ew_cst ?_
  | (refine DL.if_yes (by first | decide | assumption | omega) ?_)
  | (refine DL.if_no (by first | decide | assumption | omega) ?_)
  | (refine DL.ifn_yes (by first | decide | assumption | omega) ?_)
  | (refine DL.ifn_no (by first | decide | assumption | omega) ?_)
  | (refine DL.ifbT (by rfl) ?_)
  | (refine DL.ifbF (by rfl) ?_)
  | with_reducible refine DL.tw_test ?_
  | ((with_reducible refine' DL.tw_truM ?hh ?_); (case hh => rfl))
  | ((with_reducible refine' DL.sw_append ?hh ?_); (case hh => rfl))
  | with_reducible refine DL.tw_B ?_
  | with_reducible refine DL.tw_and ?_
  | with_reducible refine DL.tw_or ?_
  | with_reducible refine DL.tw_not ?_
  | with_reducible refine DL.tw_yes ?_
  | with_reducible refine DL.aw_cons ?_
  | with_reducible refine DL.aw_nil ?_
  | (with_reducible refine DL.ew_tup ?_)
  | (with_reducible refine DL.ew_lst ?_)
  | (with_reducible refine DL.ef_lst ?_)
  | with_reducible refine DL.ew_if ?_
  | with_reducible refine DL.ew_andV ?_
  | with_reducible refine DL.ew_orV ?_
  | with_reducible refine DL.ew_notV ?_
  | with_reducible refine DL.ew_chain ?_
  | ((with_reducible refine' DL.cw_len ?hh ?_); (case hh => first | exact Or.inl rfl | exact Or.inr rfl))
  | with_reducible refine DL.ew_cb ?_
  | with_reducible refine DL.cw_abs ?_
  | with_reducible refine DL.cw_max2 ?_
  | with_reducible refine DL.cw_min2 ?_
  | with_reducible refine DL.cw_int1 ?_
  | with_reducible refine DL.sw_seq ?_
  | with_reducible refine DL.sw_next ?_
  | with_reducible refine DL.nx_tn ?_
  | with_reducible refine DL.ct_tn ?_
  | with_reducible refine DL.nx_mk ?_
  | with_reducible refine DL.nx_e ?_
  | with_reducible refine DL.rt_mk ?_
  | with_reducible refine DL.sw_if ?_
  | (with_reducible refine DL.sw_own (DL.ef_lst ?_))
  | with_reducible refine DL.sw_set ?_
  | ((with_reducible refine' DL.sw_setC ?hh ?_); (case hh => rfl))
  | ((with_reducible refine' DL.sw_setM ?hh ?_); (case hh => rfl))
  | with_reducible refine DL.sw_asg ?_
  | ((with_reducible refine' DL.sw_retH ?hh ?_); (case hh => rfl))
  | with_reducible refine DL.sw_ret ?_
  | with_reducible refine DL.rf_mk ?_
  | with_reducible refine DL.sw_drop ?_
  | ((with_reducible refine' DL.ew_draw MM.drawP ?hh ?_); (case hh => rfl))
  | with_reducible refine DL.ew_callP ?_
  | ((with_reducible refine' And.intro (DL.plain_cons ?h1 DL.plain_nil) ?_); (case h1 => first | exact Or.inl rfl | exact Or.inr ⟨_, rfl⟩))
  | ((with_reducible refine' And.intro (DL.plain_cons ?h1 (DL.plain_cons ?h2 DL.plain_nil)) ?_); (case h1 => first | exact Or.inl rfl | exact Or.inr ⟨_, rfl⟩); (case h2 => first | exact Or.inl rfl | exact Or.inr ⟨_, rfl⟩))
  | ((refine' And.intro (DL.plain_cons ?h1 DL.plain_nil) ?_); (case h1 => first | exact Or.inl rfl | exact Or.inr ⟨_, rfl⟩))
  | ((refine' And.intro (DL.plain_cons ?h1 (DL.plain_cons ?h2 DL.plain_nil)) ?_); (case h1 => first | exact Or.inl rfl | exact Or.inr ⟨_, rfl⟩); (case h2 => first | exact Or.inl rfl | exact Or.inr ⟨_, rfl⟩))
  | ((with_reducible refine' DL.gc_name ?hh ?_); (case hh => decide))
  | ((with_reducible refine' DL.gc_tup ?hh ?_); (case hh => rfl))
  | with_reducible refine DL.gcs_cons ?_
  | with_reducible refine DL.gcs_nil ?_
  | with_reducible refine DL.iw_enum ?_
  | ((with_reducible refine' DL.gw_tup ?hh ?_); (case hh => rfl))
  | with_reducible refine DL.gws_cons ?_
  | with_reducible refine DL.gws_nil ?_
  | with_reducible refine DL.sw_par ?_
  | with_reducible refine DL.sw_for ?_
  | with_reducible refine DL.iw_list ?_
  | with_reducible refine DL.iw_tup ?_
  | with_reducible refine DL.iw_range1 ?_
  | with_reducible refine DL.iw_range2 ?_
  | with_reducible refine DL.gw_name ?_
  | (refine And.intro (Nat.le_of_ble_eq_true rfl) ?_)
  | (with_reducible refine And.intro (by assumption) ?_)
  | ((with_reducible refine' Exists.intro _ (And.intro ?hh ?_)); (case hh => first | with_reducible_and_instances rfl | with_reducible assumption))
  | (with_reducible refine ⟨_, _, rfl, rfl, (by first | omega | decide), (by first | omega | decide), (by omega), ?_⟩)
  | (refine' Exists.intro _ (And.intro ?hh ?_); (case hh => first | rfl | decide))
  | (refine And.intro (by first | decide | exact Nat.le_of_ble_eq_true rfl | (simp; decide)) ?_))
local macro_rules | `(tactic| walk_at "efh") => `(tactic| first
  | ((with_reducible refine' DL.sw_retH ?hh ?_); (case hh => rfl))
  | with_reducible refine DL.sw_retE ?_
  | walk_at "evh")
local macro_rules | `(tactic| walk_at "edh") => `(tactic| first
  | with_reducible refine DL.sw_set (DL.ew_lst ?_)
  | walk_at "evh")
namespace K01
open PySem PySem.Spec PyProof.Rows L2 DL MM
section
variable {P : Program} {w : World} {K : Frg} {mg : PySem.Str → Option Value} {base : Heap}
theorem sc__law_command : FnScope ["rng", "size", "name", "some"] ["rng", "size"] (defScope s__law_command) := ⟨rfl, rfl, rfl, by decide +kernel, rfl, by decide +kernel, by decide +kernel⟩
def preCmdD : Cel → List PyData → Cel → (PyData → Prop) → Prop := fun c ds c' R => ∃ (v : V) (n : Nat) (size : Int), c = rngC v n ∧ ds = [.int size] ∧ n < 2 ^ 59 ∧ 0 ≤ size ∧ size ≤ 60 ∧ c' = rngC v (n + 10) ∧ R = fun d => ∃ c : Cm, d = c.d ∧ c.ok ∧ c.num < 2 ^ 150
theorem ok__law_command {f : Addr} {fd : FuncData} (F : Fun K "_law_command" "_law_command" s__law_command f fd) (B : Bt mg) (G__law_draw : Df P w K mg base 1 "_law_draw" ["rng", "limit"] (SpR K preDraw)) : FnOk P w K mg base CX0 2 f fd ["rng", "size"] (SpR K preCmdD) := by
  refine okR F sc__law_command (fun c ds c' R ⟨v, n, z, _, e, _⟩ => by rw [e]; rfl) (fun c ds c' R ⟨v, n, z, e, _, _, _, _, e2, _⟩ => ⟨v, by rw [e]; exact rngC_fix, by rw [e2]; exact rngC_fix⟩) fun cv A outer s H Q E c c' ds R hr ⟨v, n, z, e1, e2, l3, z0, z60, e3, e4⟩ => ?_
  subst e1
  subst e2
  subst e3
  subst e4
  refine ⟨_, (pss_cons (ps_set (i := 2) sc__law_command.nd rfl (Or.inl rfl) (pe_ix ix_list (pe_lst (pa_cons pe_str (pa_cons pe_str (pa_cons pe_str (pa_cons pe_str (pa_cons pe_str (pa_cons pe_str (pa_cons pe_str pa_nil)))))))) (DL.pe_df G__law_draw hr (by decide) (by rfl) (pa_cons (pv 0) (pa_cons pe_int pa_nil))) (fun _ _ => rfl)))
      (pss_cons (ps_if (pt_cmpR op_in_seq (pv 2) (pe_tup (pa_cons pe_str (pa_cons pe_str (pa_cons pe_str pa_nil)))) (by rfl)) (pss_one (ps_ret (pe_tup (pa_cons (pv 2) pa_nil)))) pss_nil)
      (pss_cons (ps_set (i := 3) sc__law_command.nd rfl (Or.inl rfl) (pe_lst (pa_cons pe_int (pa_cons (DL.pe_df G__law_draw hr (by decide) (by rfl) (pa_cons (pv 0) (pa_cons pe_int pa_nil))) (pa_cons (DL.pe_df G__law_draw hr (by decide) (by rfl) (pa_cons (pv 0) (pa_cons (pe_op op_add (pv 1) pe_int) pa_nil))) (pa_cons (pe_callB (call_max2 rfl) (by rfl) B.max (by decide +kernel) (pa_cons pe_int (pa_cons (pe_op op_sub (pv 1) (DL.pe_df G__law_draw hr (by decide) (by rfl) (pa_cons (pv 0) (pa_cons pe_int pa_nil)))) pa_nil))) (pa_cons (pe_op op_sub (pe_op op_pow pe_int pe_int) pe_int) pa_nil)))))))
      (pss_one (ps_ret (pe_tup (pa_cons (pv 2) (pa_cons (pe_ix ix_list (pv 3) (pe_ix ix_list (pe_lst (pa_cons pe_int (pa_cons pe_int (pa_cons pe_int (pa_cons pe_int (pa_cons pe_int (pa_cons pe_int (pa_cons pe_int (pa_cons pe_int (pa_cons pe_int pa_nil)))))))))) (DL.pe_df G__law_draw hr (by decide) (by rfl) (pa_cons (pv 0) (pa_cons pe_int pa_nil))) (fun _ _ => rfl)) (fun _ _ => rfl)) pa_nil)))))))), fun T I q => ?_⟩
  dsimp only [cxOf, Cx.nox, Cx.wish, Cx.blk]
  show SW K T I [.cel (rngC v n), .dat (.int z), .un, .un] _ _
  repeat walk_at "evh"
  intro r r0 r1
  have fin : ∀ {m : Nat} {x : PyData} {y : SD} {c : Cm}, m ≤ n + 10 → c.ok → c.num < 2 ^ 150 → RT K T I [.cel (rngC v m), .dat (.int z), .dat x, y] c.d Q := fun h ok nm =>
    rt_cel (j := 0) (c' := rngC v (n + 10)) rfl (rngC_le h) (q _ _ _ ⟨_, rfl, ok, nm⟩ (Same.refl I) rfl)
  rcases (by omega : r = 0 ∨ r = 1 ∨ r = 2 ∨ r = 3 ∨ r = 4 ∨ r = 5 ∨ r = 6) with rfl | rfl | rfl | rfl | rfl | rfl | rfl
  case inr.inr.inr.inr.inl =>
    repeat walk_at "evh"
    exact fin (c := .rev) (by omega) (Int.le_refl 0) (by decide)
  case inr.inr.inr.inr.inr.inl =>
    repeat walk_at "evh"
    exact fin (c := .uniq) (by omega) (Int.le_refl 0) (by decide)
  case inr.inr.inr.inr.inr.inr =>
    repeat walk_at "evh"
    exact fin (c := .sort) (by omega) (Int.le_refl 0) (by decide)
  all_goals
    repeat walk_at "edh"
    intro a a0 a1
    repeat walk_at "edh"
    intro b b0 b1
    repeat walk_at "edh"
    intro e e0 e1
    repeat walk_at "edh"
    intro r r0 r1
    obtain ⟨kk, hk, kk0, kk1⟩ : ∃ kk : Int, atI [PyData.int 0, .int 1, .int 1, .int 2, .int 2, .int 2, .int 3, .int 3, .int 4] r = some (.int kk) ∧ 0 ≤ kk ∧ kk ≤ 4 := by
      rcases (by omega : r = 0 ∨ r = 1 ∨ r = 2 ∨ r = 3 ∨ r = 4 ∨ r = 5 ∨ r = 6 ∨ r = 7 ∨ r = 8) with rfl | rfl | rfl | rfl | rfl | rfl | rfl | rfl | rfl <;> exact ⟨_, rfl, by decide, by decide⟩
    refine ow_ixL hk ?_
    have p30 : (10 : Int) ^ Int.toNat 30 - 1 = 999999999999999999999999999999 := by decide
    have p150 : (2 : Int) ^ 150 = 1427247692705959881058285969449495136382746624 := by decide
    obtain ⟨num, hn, n0, n1⟩ : ∃ num : Int, atI [PyData.int 0, .int a, .int b, .int (if z - e > 0 then z - e else 0), .int (10 ^ Int.toNat 30 - 1)] kk = some (.int num) ∧ 0 ≤ num ∧ num < 2 ^ 150 := by
      rw [p30, p150]
      rcases (by omega : kk = 0 ∨ kk = 1 ∨ kk = 2 ∨ kk = 3 ∨ kk = 4) with rfl | rfl | rfl | rfl | rfl <;> exact ⟨_, rfl, by first | omega | (split <;> omega), by first | omega | (split <;> omega)⟩
    refine ow_ixL hn ?_
    repeat walk_at "edh"
    first
      | exact fin (c := .head num) (by omega) n0 n1
      | exact fin (c := .tail num) (by omega) n0 n1
      | exact fin (c := .skip num) (by omega) n0 n1
      | exact fin (c := .chop num) (by omega) n0 n1
end
end K01
local macro_rules | `(tactic| walk_at "evi") => `(tactic| first
  | ((with_reducible refine' DL.ew_var ?hh ?_); (case hh => rfl))
  | with_reducible refine DL.ew_int ?_
  | with_reducible refine DL.ew_str ?_
  | with_reducible refine DL.ew_bl ?_
  | with_reducible refine DL.ew_non ?_
  | with_reducible refine ⟨_, And.intro rfl ?_⟩
  | with_reducible refine And.intro rfl ?_
  | with_reducible refine DL.ew_cat ?_
  | with_reducible refine DL.ew_rep ?_
  | ((with_reducible refine' DL.ew_ixC ?hh ?_); (case hh => rfl))
  | ((with_reducible refine' DL.ew_ixM ?hh ?_); (case hh => rfl))
  | ((with_reducible refine' DL.ew_inM ?hh ?_); (case hh => rfl))
  | ((with_reducible refine' DL.ew_neM ?hh ?_); (case hh => rfl))
  | ((with_reducible refine' DL.ew_eqM ?hh ?_); (case hh => rfl))
  | ((with_reducible refine' DL.ew_lenM ?hh ?_); (case hh => rfl))
  | ((with_reducible refine' DL.ew_ef (DL.ef_sliceS ?hh ?_)); (case hh => rfl))
  | with_reducible refine DL.ew_ef (DL.ef_slice ?_)
  | with_reducible refine DL.ew_ef (DL.ef_rev ?_)
  | with_reducible refine DL.ew_ef (DL.ef_callF ?_)
  | with_reducible refine DL.oe_no ?_
  | with_reducible refine DL.oe_part ?_
  | with_reducible refine DL.ef_slice ?_
  | with_reducible refine DL.ef_rev ?_
  | with_reducible refine DL.ef_callF ?_
  | with_reducible refine DL.ew_callSw ?_
  | with_reducible refine DL.ew_callOne ?_
  | with_reducible refine DL.ew_op ?_
  | with_reducible refine DL.ew_un ?_
  | with_reducible refine DL.of_cat (Nat.le_of_ble_eq_true rfl) ?_
  | with_reducible refine DL.ow_ii ?_
  | with_reducible refine DL.uw_i ?_
  | with_reducible refine DL.ow_ib ?_
  | with_reducible refine DL.ow_eqI ?_
  | with_reducible refine DL.ow_neI ?_
  | with_reducible refine DL.ow_eqS ?_
  | with_reducible refine DL.ow_neS ?_
  | ((with_reducible refine' DL.ow_ci ?hh ?_); (case hh => first | (show (0 : Int) < _; omega) | (show (0 : Int) < _; decide) | exact Or.inl ⟨by omega, by omega⟩ | exact Or.inr ⟨by omega, by omega⟩ | exact ⟨by omega, by omega⟩ | exact ⟨by decide, by decide, by decide⟩ | assumption))
  | with_reducible refine' DL.ow_ci ?_ ?_
  | ((with_reducible refine' DL.ow_ixL ?hh ?_); (case hh => first | rfl | assumption))
  | ((with_reducible refine' DL.ow_ixT ?hh ?_); (case hh => first | rfl | assumption))
  | ((with_reducible refine' DL.ow_in ?hh ?h1 ?h2 ?_); (case hh => first | exact Or.inl rfl | exact Or.inr rfl); (case h1 => rfl); (case h2 => rfl))
  | with_reducible refine DL.ew_cst ?_
  | (refine DL.if_yes (by first | decide | assumption | omega) ?_)
  | (refine DL.if_no (by first | decide | assumption | omega) ?_)
  | (refine DL.ifn_yes (by first | decide | assumption | omega) ?_)
  | (refine DL.ifn_no (by first | decide | assumption | omega) ?_)
  | (refine DL.ifbT (by rfl) ?_)
  | (refine DL.ifbF (by rfl) ?_)
  | with_reducible refine DL.tw_test ?_
  | ((with_reducible refine' DL.tw_truM ?hh ?_); (case hh => rfl))
  | ((with_reducible refine' DL.sw_append ?hh ?_); (case hh => rfl))
  | with_reducible refine DL.tw_B ?_
  | with_reducible refine DL.tw_and ?_
  | with_reducible refine DL.tw_or ?_
  | with_reducible refine DL.tw_not ?_
  | with_reducible refine DL.tw_yes ?_
  | with_reducible refine DL.aw_cons ?_
  | with_reducible refine DL.aw_nil ?_
  | (with_reducible refine DL.ew_tup ?_)
  | (with_reducible refine DL.ew_lst ?_)
  | (with_reducible refine DL.ef_lst ?_)
  | with_reducible refine DL.ew_if ?_
  | with_reducible refine DL.ew_andV ?_
  | with_reducible refine DL.ew_orV ?_
  | with_reducible refine DL.ew_notV ?_
  | with_reducible refine DL.ew_chain ?_
  | ((with_reducible refine' DL.cw_len ?hh ?_); (case hh => first | exact Or.inl rfl | exact Or.inr rfl))
  | with_reducible refine DL.ew_cb ?_
  | with_reducible refine DL.cw_abs ?_
  | with_reducible refine DL.cw_max2 ?_
  | with_reducible refine DL.cw_min2 ?_
  | with_reducible refine DL.cw_int1 ?_
  | with_reducible refine DL.sw_seq ?_
  | with_reducible refine DL.sw_next ?_
  | with_reducible refine DL.nx_tn ?_
  | with_reducible refine DL.ct_tn ?_
  | with_reducible refine DL.nx_mk ?_
  | with_reducible refine DL.nx_e ?_
  | with_reducible refine DL.rt_mk ?_
  | with_reducible refine DL.sw_if ?_
  | (with_reducible refine DL.sw_own (DL.ef_lst ?_))
  | with_reducible refine DL.sw_set ?_
  | ((with_reducible refine' DL.sw_setC ?hh ?_); (case hh => rfl))
  | ((with_reducible refine' DL.sw_setM ?hh ?_); (case hh => rfl))
  | with_reducible refine DL.sw_asg ?_
  | ((with_reducible refine' DL.sw_retH ?hh ?_); (case hh => rfl))
  | with_reducible refine DL.sw_ret ?_
  | with_reducible refine DL.rf_mk ?_
  | with_reducible refine DL.sw_drop ?_
  | ((with_reducible refine' DL.ew_draw MM.drawP ?hh ?_); (case hh => rfl))
  | with_reducible refine DL.ew_callP ?_
  | ((with_reducible refine' And.intro (DL.plain_cons ?h1 DL.plain_nil) ?_); (case h1 => first | exact Or.inl rfl | exact Or.inr ⟨_, rfl⟩))
  | ((with_reducible refine' And.intro (DL.plain_cons ?h1 (DL.plain_cons ?h2 DL.plain_nil)) ?_); (case h1 => first | exact Or.inl rfl | exact Or.inr ⟨_, rfl⟩); (case h2 => first | exact Or.inl rfl | exact Or.inr ⟨_, rfl⟩))
  | ((refine' And.intro (DL.plain_cons ?h1 DL.plain_nil) ?_); (case h1 => first | exact Or.inl rfl | exact Or.inr ⟨_, rfl⟩))
  | ((refine' And.intro (DL.plain_cons ?h1 (DL.plain_cons ?h2 DL.plain_nil)) ?_); (case h1 => first | exact Or.inl rfl | exact Or.inr ⟨_, rfl⟩); (case h2 => first | exact Or.inl rfl | exact Or.inr ⟨_, rfl⟩))
  | ((with_reducible refine' DL.gc_name ?hh ?_); (case hh => decide))
  | ((with_reducible refine' DL.gc_tup ?hh ?_); (case hh => rfl))
  | with_reducible refine DL.gcs_cons ?_
  | with_reducible refine DL.gcs_nil ?_
  | with_reducible refine DL.iw_enum ?_
  | ((with_reducible refine' DL.gw_tup ?hh ?_); (case hh => rfl))
  | with_reducible refine DL.gws_cons ?_
  | with_reducible refine DL.gws_nil ?_
  | with_reducible refine DL.sw_par ?_
  | with_reducible refine DL.sw_for ?_
  | with_reducible refine DL.iw_list ?_
  | with_reducible refine DL.iw_tup ?_
  | with_reducible refine DL.iw_range1 ?_
  | with_reducible refine DL.iw_range2 ?_
  | with_reducible refine DL.gw_name ?_
  | (refine And.intro (Nat.le_of_ble_eq_true rfl) ?_)
  | (with_reducible refine And.intro (by assumption) ?_)
  | ((with_reducible refine' Exists.intro _ (And.intro ?hh ?_)); (case hh => first | with_reducible_and_instances rfl | with_reducible assumption))
  | (with_reducible refine ⟨_, _, rfl, rfl, (by first | omega | decide), (by first | omega | decide), (by omega), ?_⟩)
  | (refine' Exists.intro _ (And.intro ?hh ?_); (case hh => first | rfl | decide))
  | (refine And.intro (by first | decide | exact Nat.le_of_ble_eq_true rfl | (simp; decide)) ?_))
local macro_rules | `(tactic| walk_at "efi") => `(tactic| first
  | ((with_reducible refine' DL.sw_retH ?hh ?_); (case hh => rfl))
  | with_reducible refine DL.sw_retE ?_
  | walk_at "evi")
local macro_rules | `(tactic| walk_at "edi") => `(tactic| first
  | with_reducible refine DL.sw_set (DL.ew_lst ?_)
  | walk_at "evi")
namespace K01
open PySem PySem.Spec PyProof.Rows L2 DL MM
section
variable {P : Program} {w : World} {K : Frg} {mg : PySem.Str → Option Value} {base : Heap}
theorem sc__law_step : FnScope ["command", "items", "name", "amount", "number", "spot", "found", "item", "low", "high"] ["command", "items"] (defScope s__law_step) := ⟨rfl, rfl, rfl, by decide +kernel, rfl, by decide +kernel, by decide +kernel⟩
def preStep : List PyData → (PyData → Prop) → Prop := fun ds R => ∃ (c : Cm) (xs : List S), ds = [c.d, .list (xs.map .str)] ∧ c.ok ∧ xs.length ≤ 60 ∧ R = (· = .list ((c.app xs).map .str))
theorem ok__law_step {f : Addr} {fd : FuncData} {k : Nat} (F : Fun K "_law_step" "_law_step" s__law_step f fd) (B : Bt mg) : FnOk P w K mg base CX0 (k + 1) f fd ["command", "items"] (SpP K preStep) := by
  refine okP F sc__law_step (fun ds R ⟨c, xs, e, _⟩ => by rw [e]; rfl) fun cv A outer s H Q E ds R hr ⟨c, xs, e1, ok, sz, e2⟩ => ?_
  subst e1
  subst e2
  refine ⟨_, (pss_cons (ps_asg (pe_tup (pa_cons (pe_ix ix_tup (pv 0) pe_int (fun _ _ => rfl)) (pa_cons (pe_callB call_len_seq (by rfl) B.len PySem.boot_len (pa_cons (pv 1) pa_nil)) pa_nil))) (pg_tup rfl (pgs_cons (pg_name (i := 2) sc__law_step.nd rfl (Or.inl rfl)) (pgs_cons (pg_name (i := 3) sc__law_step.nd rfl (Or.inr rfl)) pgs_nil))))
      (pss_cons (ps_set (i := 4) sc__law_step.nd rfl (Or.inl rfl) (pe_ifExp (pt_cmpR op_gt (pe_callB call_len_seq (by rfl) B.len PySem.boot_len (pa_cons (pv 0) pa_nil)) pe_int (by rfl)) (pe_ix ix_tup (pv 0) pe_int (fun _ _ => rfl)) pe_int))
      (pss_cons (ps_if (pt_cmpR op_eq (pv 2) pe_str (by rfl)) (pss_one (ps_ret (DL.pe_lcD s H f [] [] (own := [("spot", 5)]) rfl sc__law_step.nd (pi_range1 (by rfl) B.range (pa_cons (pv 3) pa_nil)) (blkOk_by (own := [("spot", 5)]) (N := ["command", "items", "name", "amount", "number", "spot", "found", "item", "low", "high"]) (sc := defScope s__law_step) (by decide +kernel)) (fun _ _ _ _ _ => (pg_name (i := 5) sc__law_step.nd rfl (Or.inl rfl))) (fun _ _ _ _ _ => pts_nil) (fun _ _ _ _ _ => (pe_ix ix_list (pv 1) (pe_op op_sub (pe_op op_sub (pv 3) pe_int) (pv 5)) (fun _ _ => rfl)))))) pss_nil)
      (pss_cons (ps_if (pt_cmpR op_eq (pv 2) pe_str (by rfl)) (pss_one (ps_ret (DL.pe_lcD s H f [] [] (own := [("spot", 5)]) rfl sc__law_step.nd (pi_range1 (by rfl) B.range (pa_cons (pv 3) pa_nil)) (blkOk_by (own := [("spot", 5)]) (N := ["command", "items", "name", "amount", "number", "spot", "found", "item", "low", "high"]) (sc := defScope s__law_step) (by decide +kernel)) (fun _ _ _ _ _ => (pg_name (i := 5) sc__law_step.nd rfl (Or.inl rfl))) (fun _ _ _ _ _ => (pts_one (PW.pt (pw_or (pt_cmpR op_eq (pv 5) pe_int (by rfl)) (pw_or1 (pt_cmpR op_ne (pe_ix ix_list (pv 1) (pv 5) (fun _ _ => rfl)) (pe_ix ix_list (pv 1) (pe_op op_sub (pv 5) pe_int) (fun _ _ => rfl)) (by rfl))))))) (fun _ _ _ _ _ => (pe_ix ix_list (pv 1) (pv 5) (fun _ _ => rfl)))))) pss_nil)
      (pss_cons (ps_if (pt_cmpR op_eq (pv 2) pe_str (by rfl)) (pss_cons (ps_set (i := 6) sc__law_step.nd rfl (Or.inl rfl) (pe_lst pa_nil))
      (pss_cons (ps_for PassesOwn.never rfl (pi_list (pv 1)) (pg_name (i := 7) sc__law_step.nd rfl (Or.inl rfl)) (pss_one (ps_if (pt_cmpR op_notIn_seq (pv 7) (pv 6) (by rfl)) (pss_one (ps_expr (pe_bm PySem.F.plainAttrs_list PySem.F.slot_list_append PySem.F.type_list_append mt_append (pv 6) (pa_cons (pv 7) pa_nil)))) pss_nil)))
      (pss_one (ps_ret (pe_callB cr_sortedS (by rfl) B.sorted (by decide +kernel) (pa_cons (pv 6) pa_nil)))))) pss_nil)
      (pss_cons (ps_set (i := 8) sc__law_step.nd rfl (Or.inr rfl) (pe_dget (Nat.lt_of_le_of_lt (Nat.add_le_add_left (by decide) _) hr.units) (pe_disp (pps_cons pe_str pe_int (pps_cons pe_str pe_int (pps_cons pe_str (pv 4) (pps_cons pe_str (pe_op op_sub (pv 3) (pv 4)) pps_nil)))) (by rfl) (by rfl) (List.cons_ne_nil _ _) (Nat.le_of_ble_eq_true rfl)) (pv 2) (fun _ _ => rfl)))
      (pss_cons (ps_set (i := 9) sc__law_step.nd rfl (Or.inr rfl) (pe_dget (Nat.lt_of_le_of_lt (Nat.add_le_add_left (by decide) _) hr.units) (pe_disp (pps_cons pe_str (pv 4) (pps_cons pe_str (pe_op op_sub (pv 3) (pv 4)) (pps_cons pe_str (pv 3) (pps_cons pe_str (pv 3) pps_nil)))) (by rfl) (by rfl) (List.cons_ne_nil _ _) (Nat.le_of_ble_eq_true rfl)) (pv 2) (fun _ _ => rfl)))
      (pss_one (ps_ret (DL.pe_lcD s H f [] [] (own := [("spot", 5)]) rfl sc__law_step.nd (pi_range1 (by rfl) B.range (pa_cons (pv 3) pa_nil)) (blkOk_by (own := [("spot", 5)]) (N := ["command", "items", "name", "amount", "number", "spot", "found", "item", "low", "high"]) (sc := defScope s__law_step) (by decide +kernel)) (fun _ _ _ _ _ => (pg_name (i := 5) sc__law_step.nd rfl (Or.inl rfl))) (fun _ _ _ _ _ => (pts_one (pt_chain op_le op_lt (pv 8) (pv 5) (pv 9)))) (fun _ _ _ _ _ => (pe_ix ix_list (pv 1) (pv 5) (fun _ _ => rfl))))))))))))), fun T I q => ?_⟩
  dsimp only [cxOf, Cx.nox, Cx.wish, Cx.blk]
  show SW K T I [.dat c.d, .dat (.list (xs.map .str)), .un, .un, .un, .un, .un, .un, .un, .un] _ _
  have sl : xs.length < sizeLine := Nat.lt_of_le_of_lt sz (by decide)
  have rl : (rangeD 0 ((xs.length : Nat) : Int).toNat).length = xs.length := rangeD_len
  have fin : ∀ {lo hi : Int} {w : List SD}, cut xs lo hi = c.app xs → RT K T I w (.list ((cut xs lo hi).map .str)) Q := fun {lo hi w} e => q _ _ _ (by rw [e]) (Same.refl I)
  cases c with
  | rev =>
    dsimp only [Cm.d] at fin ⊢
    repeat walk_at "evi"
    refine ew_ef (ef_lc ?_)
    repeat walk_at "evi"
    simp only [List.length_map]
    refine ⟨by omega, by omega, fun i acc w => acc = (xs.reverse.take i).map .str ∧ w = [.dat (.tuple [.str "reverse"]), .dat (.list (xs.map .str)), .dat (.str "reverse"), .dat (.int xs.length), .dat (.int 0), .un, .un, .un, .un, .un], ⟨rfl, rfl⟩, ?_, ?_⟩
    · rintro i d acc w hi ⟨rfl, rfl⟩
      obtain ⟨hlt, rfl⟩ := rangeD_get hi
      obtain ⟨x, e1, e2⟩ := rev_snoc (xs := xs) (i := i) (by omega)
      repeat walk_at "evi"
      have e3 : ((xs.length : Int) - 1 - (0 + (i : Int))) = ((xs.length - 1 - i : Nat) : Int) := by omega
      rw [e3]
      refine ow_ixL (atI_strs e1) ?_
      refine ⟨by rw [List.length_map, List.length_take]; exact Nat.lt_of_le_of_lt (by rw [List.length_reverse]; omega) sl, ?_, rfl⟩
      rw [e2, List.map_append]
      rfl
    · rintro acc w ⟨rfl, rfl⟩
      refine q _ _ _ ?_ (Same.refl I)
      rw [rl, List.take_of_length_le (by rw [List.length_reverse]; exact Nat.le_refl _)]
      rfl
  | uniq =>
    dsimp only [Cm.d] at fin ⊢
    repeat walk_at "evi"
    refine ew_ef (ef_lc ?_)
    repeat walk_at "evi"
    simp only [List.length_map]
    refine ⟨by omega, by omega, fun i acc w => acc = (uq (xs.take i)).map .str ∧ w = [.dat (.tuple [.str "uniq"]), .dat (.list (xs.map .str)), .dat (.str "uniq"), .dat (.int xs.length), .dat (.int 0), .un, .un, .un, .un, .un], ⟨rfl, rfl⟩, ?_, ?_⟩
    · rintro i d acc w hi ⟨rfl, rfl⟩
      obtain ⟨hlt, rfl⟩ := rangeD_get hi
      have hl : i < xs.length := by omega
      have hx := List.getElem?_eq_getElem hl
      have za : atI (xs.map PyData.str) (0 + (i : Int)) = some (.str xs[i]) := by
        rw [Int.zero_add]
        exact atI_strs hx
      have ul : ((uq (xs.take i)).map PyData.str).length < sizeLine := by
        rw [List.length_map]
        exact Nat.lt_of_le_of_lt (Nat.le_trans (uq_len _) (by rw [List.length_take]; omega)) sl
      repeat walk_at "evi"
      refine ifd (fun h0 => ?_) (fun h0 => ?_)
      · repeat walk_at "evi"
        refine ⟨?_, rfl⟩
        rw [uq_take hx, if_neg (fun z => z.1 (by omega)), List.map_append]
        rfl
      · have hl1 : i - 1 < xs.length := by omega
        have hx1 := List.getElem?_eq_getElem hl1
        have zb : atI (xs.map PyData.str) (0 + (i : Int) - 1) = some (.str xs[i - 1]) := by
          have e : (0 + (i : Int) - 1) = ((i - 1 : Nat) : Int) := by omega
          rw [e]
          exact atI_strs hx1
        repeat walk_at "evi"
        refine ifn (fun hn => ?_) (fun hn => ?_)
        · repeat walk_at "evi"
          refine ⟨?_, rfl⟩
          rw [uq_take hx, if_neg (fun z => hn (by have := z.2; rw [hx1] at this; exact (Option.some.inj this).symm)), List.map_append]
          rfl
        · refine ⟨?_, rfl⟩
          rw [uq_take hx, if_pos ⟨by omega, by rw [hx1, hn]⟩]
    · rintro acc w ⟨rfl, rfl⟩
      refine q _ _ _ ?_ (Same.refl I)
      rw [rl, List.take_length]
      rfl
  | sort =>
    dsimp only [Cm.d] at fin ⊢
    repeat walk_at "evi"
    refine ⟨fun i w => ∃ a, w = [.dat (.tuple [.str "sort"]), .dat (.list (xs.map .str)), .dat (.str "sort"), .dat (.int (xs.map PyData.str).length), .dat (.int 0), .un, .mut ((dd (xs.take i)).map .str), a, .un, .un], ⟨_, rfl⟩, ?_, ?_⟩
    · rintro i d w B' hi ⟨a, rfl⟩ eb
      rw [List.getElem?_map] at hi
      cases hc : xs[i]? with
      | none => rw [hc] at hi; cases hi
      | some x =>
        rw [hc] at hi
        cases hi
        have dl : ((dd (xs.take i)).map PyData.str).length < sizeLine := by
          rw [List.length_map]
          exact Nat.lt_of_le_of_lt (Nat.le_trans (dd_len _) (by rw [List.length_take]; omega)) sl
        have nx : dd (xs.take (i + 1)) = stD (dd (xs.take i)) x := by
          rw [List.take_add_one, hc]
          exact dd_snoc _ _
        repeat walk_at "evi"
        show if (!decide (x ∈ dd (xs.take i))) = true then _ else _
        refine ifn (fun hn => ?_) (fun hn => ?_)
        · repeat walk_at "evi"
          refine ⟨.dat (.str x), ?_⟩
          have e : stD (dd (xs.take i)) x = dd (xs.take i) ++ [x] := if_neg hn
          rw [nx, e, List.map_append]
          rfl
        · repeat walk_at "evi"
          refine ⟨.dat (.str x), ?_⟩
          have e : stD (dd (xs.take i)) x = dd (xs.take i) := if_pos hn
          rw [nx, e]
          rfl
    · rintro w ⟨a, rfl⟩
      have e : xs.take (xs.map PyData.str).length = xs := by rw [List.length_map, List.take_length]
      rw [e]
      refine nx_mk (sw_done (i := 6) rfl (sw_ret (ew_ef (ef_cb ?_))))
      repeat walk_at "evi"
      refine cf_sortS (Nat.lt_of_le_of_lt (dd_len xs) (by omega)) fun ys hp hs => ?_
      refine q _ _ _ ?_ (Same.refl I)
      exact congrArg (fun z => PyData.list (z.map .str)) (dd_srt hp hs)
  | head n =>
    dsimp only [Cm.d] at fin ⊢
    have ok : 0 ≤ n := ok
    repeat walk_at "evi"
    refine ew_pick4 ?_
    repeat walk_at "evi"
    refine ew_pick4 ?_
    repeat walk_at "evi"
    refine ew_ef (ef_lc ?_)
    repeat walk_at "evi"
    simp only [List.length_map]
    refine ⟨by omega, by omega, fun i acc w => acc = (cut (xs.take i) (0) (n)).map .str ∧ w = [.dat (.tuple [.str "head", .int n]), .dat (.list (xs.map .str)), .dat (.str "head"), .dat (.int xs.length), .dat (.int n), .un, .un, .un, .dat (.int (0)), .dat (.int (n))], ⟨by simp [cut], rfl⟩, ?_, ?_⟩
    · rintro i d acc w hi ⟨rfl, rfl⟩
      obtain ⟨hlt, rfl⟩ := rangeD_get hi
      have hl : i < xs.length := by omega
      have hx := List.getElem?_eq_getElem hl
      have za : atI (xs.map PyData.str) (0 + (i : Int)) = some (.str xs[i]) := by
        rw [Int.zero_add]
        exact atI_strs hx
      have ul : ((cut (xs.take i) (0) (n)).map PyData.str).length < sizeLine := by
        rw [List.length_map]
        refine Nat.lt_of_le_of_lt ?_ sl
        unfold cut
        rw [List.length_drop, List.length_take, List.length_take]
        omega
      have ct := cut_take hx (0) (n)
      repeat walk_at "evi"
      refine ifd (fun g1 => ?_) (fun g1 => ?_)
      · repeat walk_at "evi"
        refine ⟨?_, rfl⟩
        rw [ct, if_pos ⟨by omega, by omega⟩, List.map_append]
        rfl
      · repeat walk_at "evi"
        refine ⟨?_, rfl⟩
        rw [ct, if_neg (fun z => g1 (by omega))]
    · rintro acc w ⟨rfl, rfl⟩
      rw [rl, List.take_length]
      exact fin cut_head
  | tail n =>
    dsimp only [Cm.d] at fin ⊢
    have ok : 0 ≤ n := ok
    repeat walk_at "evi"
    refine ew_pick4 ?_
    repeat walk_at "evi"
    refine ew_pick4 ?_
    repeat walk_at "evi"
    refine ew_ef (ef_lc ?_)
    repeat walk_at "evi"
    simp only [List.length_map]
    refine ⟨by omega, by omega, fun i acc w => acc = (cut (xs.take i) ((xs.length : Int) - n) ((xs.length : Int))).map .str ∧ w = [.dat (.tuple [.str "tail", .int n]), .dat (.list (xs.map .str)), .dat (.str "tail"), .dat (.int xs.length), .dat (.int n), .un, .un, .un, .dat (.int ((xs.length : Int) - n)), .dat (.int ((xs.length : Int)))], ⟨by simp [cut], rfl⟩, ?_, ?_⟩
    · rintro i d acc w hi ⟨rfl, rfl⟩
      obtain ⟨hlt, rfl⟩ := rangeD_get hi
      have hl : i < xs.length := by omega
      have hx := List.getElem?_eq_getElem hl
      have za : atI (xs.map PyData.str) (0 + (i : Int)) = some (.str xs[i]) := by
        rw [Int.zero_add]
        exact atI_strs hx
      have ul : ((cut (xs.take i) ((xs.length : Int) - n) ((xs.length : Int))).map PyData.str).length < sizeLine := by
        rw [List.length_map]
        refine Nat.lt_of_le_of_lt ?_ sl
        unfold cut
        rw [List.length_drop, List.length_take, List.length_take]
        omega
      have ct := cut_take hx ((xs.length : Int) - n) ((xs.length : Int))
      repeat walk_at "evi"
      refine ifd (fun g1 => ?_) (fun g1 => ?_)
      · repeat walk_at "evi"
        refine ⟨?_, rfl⟩
        rw [ct, if_pos ⟨by omega, by omega⟩, List.map_append]
        rfl
      · repeat walk_at "evi"
        refine ⟨?_, rfl⟩
        rw [ct, if_neg (fun z => g1 (by omega))]
    · rintro acc w ⟨rfl, rfl⟩
      rw [rl, List.take_length]
      exact fin (cut_tail ok)
  | skip n =>
    dsimp only [Cm.d] at fin ⊢
    have ok : 0 ≤ n := ok
    repeat walk_at "evi"
    refine ew_pick4 ?_
    repeat walk_at "evi"
    refine ew_pick4 ?_
    repeat walk_at "evi"
    refine ew_ef (ef_lc ?_)
    repeat walk_at "evi"
    simp only [List.length_map]
    refine ⟨by omega, by omega, fun i acc w => acc = (cut (xs.take i) (n) ((xs.length : Int))).map .str ∧ w = [.dat (.tuple [.str "skip", .int n]), .dat (.list (xs.map .str)), .dat (.str "skip"), .dat (.int xs.length), .dat (.int n), .un, .un, .un, .dat (.int (n)), .dat (.int ((xs.length : Int)))], ⟨by simp [cut], rfl⟩, ?_, ?_⟩
    · rintro i d acc w hi ⟨rfl, rfl⟩
      obtain ⟨hlt, rfl⟩ := rangeD_get hi
      have hl : i < xs.length := by omega
      have hx := List.getElem?_eq_getElem hl
      have za : atI (xs.map PyData.str) (0 + (i : Int)) = some (.str xs[i]) := by
        rw [Int.zero_add]
        exact atI_strs hx
      have ul : ((cut (xs.take i) (n) ((xs.length : Int))).map PyData.str).length < sizeLine := by
        rw [List.length_map]
        refine Nat.lt_of_le_of_lt ?_ sl
        unfold cut
        rw [List.length_drop, List.length_take, List.length_take]
        omega
      have ct := cut_take hx (n) ((xs.length : Int))
      repeat walk_at "evi"
      refine ifd (fun g1 => ?_) (fun g1 => ?_)
      · repeat walk_at "evi"
        refine ⟨?_, rfl⟩
        rw [ct, if_pos ⟨by omega, by omega⟩, List.map_append]
        rfl
      · repeat walk_at "evi"
        refine ⟨?_, rfl⟩
        rw [ct, if_neg (fun z => g1 (by omega))]
    · rintro acc w ⟨rfl, rfl⟩
      rw [rl, List.take_length]
      exact fin cut_skip
  | chop n =>
    dsimp only [Cm.d] at fin ⊢
    have ok : 0 ≤ n := ok
    repeat walk_at "evi"
    refine ew_pick4 ?_
    repeat walk_at "evi"
    refine ew_pick4 ?_
    repeat walk_at "evi"
    refine ew_ef (ef_lc ?_)
    repeat walk_at "evi"
    simp only [List.length_map]
    refine ⟨by omega, by omega, fun i acc w => acc = (cut (xs.take i) (0) ((xs.length : Int) - n)).map .str ∧ w = [.dat (.tuple [.str "chop", .int n]), .dat (.list (xs.map .str)), .dat (.str "chop"), .dat (.int xs.length), .dat (.int n), .un, .un, .un, .dat (.int (0)), .dat (.int ((xs.length : Int) - n))], ⟨by simp [cut], rfl⟩, ?_, ?_⟩
    · rintro i d acc w hi ⟨rfl, rfl⟩
      obtain ⟨hlt, rfl⟩ := rangeD_get hi
      have hl : i < xs.length := by omega
      have hx := List.getElem?_eq_getElem hl
      have za : atI (xs.map PyData.str) (0 + (i : Int)) = some (.str xs[i]) := by
        rw [Int.zero_add]
        exact atI_strs hx
      have ul : ((cut (xs.take i) (0) ((xs.length : Int) - n)).map PyData.str).length < sizeLine := by
        rw [List.length_map]
        refine Nat.lt_of_le_of_lt ?_ sl
        unfold cut
        rw [List.length_drop, List.length_take, List.length_take]
        omega
      have ct := cut_take hx (0) ((xs.length : Int) - n)
      repeat walk_at "evi"
      refine ifd (fun g1 => ?_) (fun g1 => ?_)
      · repeat walk_at "evi"
        refine ⟨?_, rfl⟩
        rw [ct, if_pos ⟨by omega, by omega⟩, List.map_append]
        rfl
      · repeat walk_at "evi"
        refine ⟨?_, rfl⟩
        rw [ct, if_neg (fun z => g1 (by omega))]
    · rintro acc w ⟨rfl, rfl⟩
      rw [rl, List.take_length]
      exact fin (cut_chop ok)
end
end K01
local macro_rules | `(tactic| walk_at "evj") => `(tactic| first
  | ((with_reducible refine' DL.ew_var ?hh ?_); (case hh => rfl))
  | with_reducible refine DL.ew_int ?_
  | with_reducible refine DL.ew_str ?_
  | with_reducible refine DL.ew_bl ?_
  | with_reducible refine DL.ew_non ?_
  | with_reducible refine ⟨_, And.intro rfl ?_⟩
  | with_reducible refine And.intro rfl ?_
  | with_reducible refine DL.ew_cat ?_
  | with_reducible refine DL.ew_rep ?_
  | ((with_reducible refine' DL.ew_ixC ?hh ?_); (case hh => rfl))
  | ((with_reducible refine' DL.ew_ixM ?hh ?_); (case hh => rfl))
  | ((with_reducible refine' DL.ew_inM ?hh ?_); (case hh => rfl))
  | ((with_reducible refine' DL.ew_neM ?hh ?_); (case hh => rfl))
  | ((with_reducible refine' DL.ew_eqM ?hh ?_); (case hh => rfl))
  | ((with_reducible refine' DL.ew_lenM ?hh ?_); (case hh => rfl))
  | ((with_reducible refine' DL.ew_ef (DL.ef_sliceS ?hh ?_)); (case hh => rfl))
  | with_reducible refine DL.ew_ef (DL.ef_slice ?_)
  | with_reducible refine DL.ew_ef (DL.ef_rev ?_)
  | with_reducible refine DL.ew_ef (DL.ef_callF ?_)
  | with_reducible refine DL.oe_no ?_
  | with_reducible refine DL.oe_part ?_
  | with_reducible refine DL.ef_slice ?_
  | with_reducible refine DL.ef_rev ?_
  | with_reducible refine DL.ef_callF ?_
  | with_reducible refine DL.ew_callSw ?_
  | with_reducible refine DL.ew_callOne ?_
  | with_reducible refine DL.ew_op ?_
  | with_reducible refine DL.ew_un ?_
  | with_reducible refine DL.of_cat (Nat.le_of_ble_eq_true rfl) ?_
  | with_reducible refine DL.ow_ii ?_
  | with_reducible refine DL.uw_i ?_
  | with_reducible refine DL.ow_ib ?_
  | with_reducible refine DL.ow_eqI ?_
  | with_reducible refine DL.ow_neI ?_
  | with_reducible refine DL.ow_eqS ?_
  | with_reducible refine DL.ow_neS ?_
  | ((with_reducible refine' DL.ow_ci ?hh ?_); (case hh => first | (show (0 : Int) < _; omega) | (show (0 : Int) < _; decide) | exact Or.inl ⟨by omega, by omega⟩ | exact Or.inr ⟨by omega, by omega⟩ | exact ⟨by omega, by omega⟩ | exact ⟨by decide, by decide, by decide⟩ | assumption))
  | with_reducible refine' DL.ow_ci ?_ ?_
  | ((with_reducible refine' DL.ow_ixL ?hh ?_); (case hh => first | rfl | assumption))
  | ((with_reducible refine' DL.ow_ixT ?hh ?_); (case hh => first | rfl | assumption))
  | ((with_reducible refine' DL.ow_in ?hh ?h1 ?h2 ?_); (case hh => first | exact Or.inl rfl | exact Or.inr rfl); (case h1 => rfl); (case h2 => rfl))
  | with_reducible refine DL.ew_cst ?_
  | (refine DL.if_yes (by first | decide | assumption | omega) ?_)
  | (refine DL.if_no (by first | decide | assumption | omega) ?_)
  | (refine DL.ifn_yes (by first | decide | assumption | omega) ?_)
  | (refine DL.ifn_no (by first | decide | assumption | omega) ?_)
  | (refine DL.ifbT (by rfl) ?_)
  | (refine DL.ifbF (by rfl) ?_)
  | with_reducible refine DL.tw_test ?_
  | ((with_reducible refine' DL.tw_truM ?hh ?_); (case hh => rfl))
  | ((with_reducible refine' DL.sw_append ?hh ?_); (case hh => rfl))
  | with_reducible refine DL.tw_B ?_
  | with_reducible refine DL.tw_and ?_
  | with_reducible refine DL.tw_or ?_
  | with_reducible refine DL.tw_not ?_
  | with_reducible refine DL.tw_yes ?_
  | with_reducible refine DL.aw_cons ?_
  | with_reducible refine DL.aw_nil ?_
  | (with_reducible refine DL.ew_tup ?_)
  | (with_reducible refine DL.ew_lst ?_)
  | (with_reducible refine DL.ef_lst ?_)
  | with_reducible refine DL.ew_if ?_
  | with_reducible refine DL.ew_andV ?_
  | with_reducible refine DL.ew_orV ?_
  | with_reducible refine DL.ew_notV ?_
  | with_reducible refine DL.ew_chain ?_
  | ((with_reducible refine' DL.cw_len ?hh ?_); (case hh => first | exact Or.inl rfl | exact Or.inr rfl))
  | with_reducible refine DL.ew_cb ?_
  | with_reducible refine DL.cw_abs ?_
  | with_reducible refine DL.cw_max2 ?_
  | with_reducible refine DL.cw_min2 ?_
  | with_reducible refine DL.cw_int1 ?_
  | with_reducible refine DL.sw_seq ?_
  | with_reducible refine DL.sw_next ?_
  | with_reducible refine DL.nx_tn ?_
  | with_reducible refine DL.ct_tn ?_
  | with_reducible refine DL.nx_mk ?_
  | with_reducible refine DL.nx_e ?_
  | with_reducible refine DL.rt_mk ?_
  | with_reducible refine DL.sw_if ?_
  | (with_reducible refine DL.sw_own (DL.ef_lst ?_))
  | with_reducible refine DL.sw_set ?_
  | ((with_reducible refine' DL.sw_setC ?hh ?_); (case hh => rfl))
  | ((with_reducible refine' DL.sw_setM ?hh ?_); (case hh => rfl))
  | with_reducible refine DL.sw_asg ?_
  | ((with_reducible refine' DL.sw_retH ?hh ?_); (case hh => rfl))
  | with_reducible refine DL.sw_ret ?_
  | with_reducible refine DL.rf_mk ?_
  | with_reducible refine DL.sw_drop ?_
  | ((with_reducible refine' DL.ew_draw MM.drawP ?hh ?_); (case hh => rfl))
  | with_reducible refine DL.ew_callP ?_
  | ((with_reducible refine' And.intro (DL.plain_cons ?h1 DL.plain_nil) ?_); (case h1 => first | exact Or.inl rfl | exact Or.inr ⟨_, rfl⟩))
  | ((with_reducible refine' And.intro (DL.plain_cons ?h1 (DL.plain_cons ?h2 DL.plain_nil)) ?_); (case h1 => first | exact Or.inl rfl | exact Or.inr ⟨_, rfl⟩); (case h2 => first | exact Or.inl rfl | exact Or.inr ⟨_, rfl⟩))
  | ((refine' And.intro (DL.plain_cons ?h1 DL.plain_nil) ?_); (case h1 => first | exact Or.inl rfl | exact Or.inr ⟨_, rfl⟩))
  | ((refine' And.intro (DL.plain_cons ?h1 (DL.plain_cons ?h2 DL.plain_nil)) ?_); (case h1 => first | exact Or.inl rfl | exact Or.inr ⟨_, rfl⟩); (case h2 => first | exact Or.inl rfl | exact Or.inr ⟨_, rfl⟩))
  | ((with_reducible refine' DL.gc_name ?hh ?_); (case hh => decide))
  | ((with_reducible refine' DL.gc_tup ?hh ?_); (case hh => rfl))
  | with_reducible refine DL.gcs_cons ?_
  | with_reducible refine DL.gcs_nil ?_
  | with_reducible refine DL.iw_enum ?_
  | ((with_reducible refine' DL.gw_tup ?hh ?_); (case hh => rfl))
  | with_reducible refine DL.gws_cons ?_
  | with_reducible refine DL.gws_nil ?_
  | with_reducible refine DL.sw_par ?_
  | with_reducible refine DL.sw_for ?_
  | with_reducible refine DL.iw_list ?_
  | with_reducible refine DL.iw_tup ?_
  | with_reducible refine DL.iw_range1 ?_
  | with_reducible refine DL.iw_range2 ?_
  | with_reducible refine DL.gw_name ?_
  | (refine And.intro (Nat.le_of_ble_eq_true rfl) ?_)
  | (with_reducible refine And.intro (by assumption) ?_)
  | ((with_reducible refine' Exists.intro _ (And.intro ?hh ?_)); (case hh => first | with_reducible_and_instances rfl | with_reducible assumption))
  | (with_reducible refine ⟨_, _, rfl, rfl, (by first | omega | decide), (by first | omega | decide), (by omega), ?_⟩)
  | (refine' Exists.intro _ (And.intro ?hh ?_); (case hh => first | rfl | decide))
  | (refine And.intro (by first | decide | exact Nat.le_of_ble_eq_true rfl | (simp; decide)) ?_))
local macro_rules | `(tactic| walk_at "efj") => `(tactic| first
  | ((with_reducible refine' DL.sw_retH ?hh ?_); (case hh => rfl))
  | with_reducible refine DL.sw_retE ?_
  | walk_at "evj")
local macro_rules | `(tactic| walk_at "edj") => `(tactic| first
  | with_reducible refine DL.sw_set (DL.ew_lst ?_)
  | walk_at "evj")
namespace K01
open PySem PySem.Spec PyProof.Rows L2 DL MM
section
variable {P : Program} {w : World} {K : Frg} {mg : PySem.Str → Option Value} {base : Heap}
theorem sc__law_result : FnScope ["plan", "items", "command"] ["plan", "items"] (defScope s__law_result) := ⟨rfl, rfl, rfl, by decide +kernel, rfl, by decide +kernel, by decide +kernel⟩
def preRes : List PyData → (PyData → Prop) → Prop := fun ds R => ∃ (cs : List Cm) (xs : List S), ds = [planD cs, .list (xs.map .str)] ∧ (∀ c ∈ cs, c.ok) ∧ xs.length ≤ 60 ∧ R = (· = .list ((runP cs xs).map .str))
theorem ok__law_result {f : Addr} {fd : FuncData} (F : Fun K "_law_result" "_law_result" s__law_result f fd) (B : Bt mg) (G__law_step : Df P w K mg base 1 "_law_step" ["command", "items"] (SpP K preStep)) : FnOk P w K mg base CX0 2 f fd ["plan", "items"] (SpP K preRes) := by
  refine okP F sc__law_result (fun ds R ⟨cs, xs, e, _⟩ => by rw [e]; rfl) fun cv A outer s H Q E ds R hr ⟨cs, xs, e1, ok, sz, e2⟩ => ?_
  subst e1
  subst e2
  refine ⟨_, (pss_cons (ps_for PassesOwn.never rfl (pi_list (pv 0)) (pg_name (i := 2) sc__law_result.nd rfl (Or.inl rfl)) (pss_one (ps_set (i := 1) sc__law_result.nd rfl (Or.inl rfl) (DL.pe_df G__law_step hr (by decide) (by rfl) (pa_cons (pv 2) (pa_cons (pv 1) pa_nil))))))
      (pss_one (ps_ret (pv 1)))), fun T I q => ?_⟩
  dsimp only [cxOf, Cx.nox, Cx.wish, Cx.blk]
  show SW K T I [.dat (planD cs), .dat (.list (xs.map .str)), .un] _ _
  repeat walk_at "evj"
  refine ⟨fun i w => ∃ a, w = [.dat (planD cs), .dat (.list ((runP (cs.take i) xs).map .str)), a], ⟨_, rfl⟩, ?_, ?_⟩
  · rintro i d w B' hi ⟨a, rfl⟩ eb
    rw [List.getElem?_map] at hi
    cases hc : cs[i]? with
    | none => rw [hc] at hi; cases hi
    | some c =>
      rw [hc] at hi
      cases hi
      repeat walk_at "evj"
      refine ⟨_, ⟨c, runP (cs.take i) xs, rfl, ok c (List.mem_of_getElem? hc), Nat.le_trans (run_len _ _) sz, rfl⟩, fun d hd => ?_⟩
      subst hd
      repeat walk_at "evj"
      refine ⟨.dat c.d, ?_⟩
      rw [List.take_add_one, hc]
      show _ = [_, SD.dat (.list ((runP (cs.take i ++ [c]) xs).map .str)), _]
      rw [runP_snoc]
      rfl
  · rintro w ⟨a, rfl⟩
    have e : cs.take (cs.map Cm.d).length = cs := by rw [List.length_map, List.take_length]
    rw [e]
    repeat walk_at "evj"
    exact q _ _ _ rfl (Same.refl I)
end
end K01
local macro_rules | `(tactic| walk_at "evk") => `(tactic| first
  | ((with_reducible refine' DL.ew_var ?hh ?_); (case hh => rfl))
  | with_reducible refine DL.ew_int ?_
  | with_reducible refine DL.ew_str ?_
  | with_reducible refine DL.ew_bl ?_
  | with_reducible refine DL.ew_non ?_
  | with_reducible refine ⟨_, And.intro rfl ?_⟩
  | with_reducible refine And.intro rfl ?_
  | with_reducible refine DL.ew_cat ?_
  | with_reducible refine DL.ew_rep ?_
  | ((with_reducible refine' DL.ew_ixC ?hh ?_); (case hh => rfl))
  | ((with_reducible refine' DL.ew_ixM ?hh ?_); (case hh => rfl))
  | ((with_reducible refine' DL.ew_inM ?hh ?_); (case hh => rfl))
  | ((with_reducible refine' DL.ew_neM ?hh ?_); (case hh => rfl))
  | ((with_reducible refine' DL.ew_eqM ?hh ?_); (case hh => rfl))
  | ((with_reducible refine' DL.ew_lenM ?hh ?_); (case hh => rfl))
  | ((with_reducible refine' DL.ew_ef (DL.ef_sliceS ?hh ?_)); (case hh => rfl))
  | with_reducible refine DL.ew_ef (DL.ef_slice ?_)
  | with_reducible refine DL.ew_ef (DL.ef_rev ?_)
  | with_reducible refine DL.ew_ef (DL.ef_callF ?_)
  | with_reducible refine DL.oe_no ?_
  | with_reducible refine DL.oe_part ?_
  | with_reducible refine DL.ef_slice ?_
  | with_reducible refine DL.ef_rev ?_
  | with_reducible refine DL.ef_callF ?_
  | with_reducible refine DL.ew_callSw ?_
  | with_reducible refine DL.ew_callOne ?_
  | with_reducible refine DL.ew_op ?_
  | with_reducible refine DL.ew_un ?_
  | with_reducible refine DL.of_cat (Nat.le_of_ble_eq_true rfl) ?_
  | with_reducible refine DL.ow_ii ?_
  | with_reducible refine DL.uw_i ?_
  | with_reducible refine DL.ow_ib ?_
  | with_reducible refine DL.ow_eqI ?_
  | with_reducible refine DL.ow_neI ?_
  | with_reducible refine DL.ow_eqS ?_
  | with_reducible refine DL.ow_neS ?_
  | ((with_reducible refine' DL.ow_ci ?hh ?_); (case hh => first | (show (0 : Int) < _; omega) | (show (0 : Int) < _; decide) | exact Or.inl ⟨by omega, by omega⟩ | exact Or.inr ⟨by omega, by omega⟩ | exact ⟨by omega, by omega⟩ | exact ⟨by decide, by decide, by decide⟩ | assumption))
  | with_reducible refine' DL.ow_ci ?_ ?_
  | ((with_reducible refine' DL.ow_ixL ?hh ?_); (case hh => first | rfl | assumption))
  | ((with_reducible refine' DL.ow_ixT ?hh ?_); (case hh => first | rfl | assumption))
  | ((with_reducible refine' DL.ow_in ?hh ?h1 ?h2 ?_); (case hh => first | exact Or.inl rfl | exact Or.inr rfl); (case h1 => rfl); (case h2 => rfl))
  | with_reducible refine DL.ew_cst ?_
  | (refine DL.if_yes (by first | rfl | decide | assumption | omega) ?_)
  | (refine DL.if_no (by first | decide | assumption | omega) ?_)
  | (refine DL.ifn_yes (by first | decide | assumption | omega) ?_)
  | (refine DL.ifn_no (by first | rfl | decide | assumption | omega) ?_)
  | (refine DL.ifbT (by rfl) ?_)
  | (refine DL.ifbF (by rfl) ?_)
  | with_reducible refine DL.tw_test ?_
  | ((with_reducible refine' DL.tw_truM ?hh ?_); (case hh => rfl))
  | ((with_reducible refine' DL.sw_append ?hh ?_); (case hh => rfl))
  | with_reducible refine DL.tw_B ?_
  | with_reducible refine DL.tw_and ?_
  | with_reducible refine DL.tw_or ?_
  | with_reducible refine DL.tw_not ?_
  | with_reducible refine DL.tw_yes ?_
  | with_reducible refine DL.aw_cons ?_
  | with_reducible refine DL.aw_nil ?_
  | (with_reducible refine DL.ew_tup ?_)
  | (with_reducible refine DL.ew_lst ?_)
  | (with_reducible refine DL.ef_lst ?_)
  | with_reducible refine DL.ew_if ?_
  | with_reducible refine DL.ew_andV ?_
  | with_reducible refine DL.ew_orV ?_
  | with_reducible refine DL.ew_notV ?_
  | with_reducible refine DL.ew_chain ?_
  | ((with_reducible refine' DL.cw_len ?hh ?_); (case hh => first | exact Or.inl rfl | exact Or.inr rfl))
  | ((with_reducible refine' MM.ew_repr2N ?hh ?h1 ?_); (case hh => rfl); (case h1 => assumption))
  | (with_reducible refine MM.cw_repN (by assumption) ?_)
  | ((with_reducible refine' DL.ew_lenS ?hh ?_); (case hh => rfl))
  | with_reducible refine DL.ew_cb ?_
  | with_reducible refine DL.cw_abs ?_
  | with_reducible refine DL.cw_max2 ?_
  | with_reducible refine DL.cw_min2 ?_
  | with_reducible refine DL.cw_int1 ?_
  | with_reducible refine DL.sw_seq ?_
  | with_reducible refine DL.sw_next ?_
  | with_reducible refine DL.nx_tn ?_
  | with_reducible refine DL.ct_tn ?_
  | with_reducible refine DL.nx_mk ?_
  | with_reducible refine DL.nx_e ?_
  | with_reducible refine DL.rt_mk ?_
  | with_reducible refine DL.sw_if ?_
  | (with_reducible refine DL.sw_own (DL.ef_lst ?_))
  | with_reducible refine DL.sw_set ?_
  | ((with_reducible refine' DL.sw_setC ?hh ?_); (case hh => rfl))
  | ((with_reducible refine' DL.sw_setM ?hh ?_); (case hh => rfl))
  | with_reducible refine DL.sw_asg ?_
  | ((with_reducible refine' DL.sw_retH ?hh ?_); (case hh => rfl))
  | with_reducible refine DL.sw_ret ?_
  | with_reducible refine DL.rf_mk ?_
  | with_reducible refine DL.sw_drop ?_
  | ((with_reducible refine' DL.ew_draw MM.drawP ?hh ?_); (case hh => rfl))
  | ((with_reducible refine' DL.ew_callR ?hh ?_); (case hh => rfl))
  | with_reducible refine DL.ew_callP ?_
  | ((with_reducible refine' And.intro (DL.plain_cons ?h1 DL.plain_nil) ?_); (case h1 => first | exact Or.inl rfl | exact Or.inr ⟨_, rfl⟩))
  | ((with_reducible refine' And.intro (DL.plain_cons ?h1 (DL.plain_cons ?h2 DL.plain_nil)) ?_); (case h1 => first | exact Or.inl rfl | exact Or.inr ⟨_, rfl⟩); (case h2 => first | exact Or.inl rfl | exact Or.inr ⟨_, rfl⟩))
  | ((refine' And.intro (DL.plain_cons ?h1 DL.plain_nil) ?_); (case h1 => first | exact Or.inl rfl | exact Or.inr ⟨_, rfl⟩))
  | ((refine' And.intro (DL.plain_cons ?h1 (DL.plain_cons ?h2 DL.plain_nil)) ?_); (case h1 => first | exact Or.inl rfl | exact Or.inr ⟨_, rfl⟩); (case h2 => first | exact Or.inl rfl | exact Or.inr ⟨_, rfl⟩))
  | ((with_reducible refine' DL.gc_name ?hh ?_); (case hh => decide))
  | ((with_reducible refine' DL.gc_tup ?hh ?_); (case hh => rfl))
  | with_reducible refine DL.gcs_cons ?_
  | with_reducible refine DL.gcs_nil ?_
  | with_reducible refine DL.iw_enum ?_
  | ((with_reducible refine' DL.gw_tup ?hh ?_); (case hh => rfl))
  | with_reducible refine DL.gws_cons ?_
  | with_reducible refine DL.gws_nil ?_
  | with_reducible refine DL.sw_par ?_
  | ((with_reducible refine' DL.sw_turn2 ?h1 ?h2 ?h3 ?h4 ?h5 ?_); (case h1 => rfl); (case h2 => decide); (case h3 => exact Nat.le_of_ble_eq_true rfl); (case h4 => assumption); (case h5 => assumption))
  | with_reducible refine DL.sw_for ?_
  | with_reducible refine DL.iw_list ?_
  | with_reducible refine DL.iw_tup ?_
  | with_reducible refine DL.iw_range1 ?_
  | with_reducible refine DL.iw_range2 ?_
  | with_reducible refine DL.gw_name ?_
  | (refine And.intro (Nat.le_of_ble_eq_true rfl) ?_)
  | (with_reducible refine And.intro (by assumption) ?_)
  | ((with_reducible refine' Exists.intro _ (And.intro ?hh ?_)); (case hh => first | with_reducible_and_instances rfl | with_reducible assumption))
  | (with_reducible refine ⟨_, _, rfl, rfl, (by first | omega | decide), (by first | omega | decide), (by omega), ?_⟩)
  | (refine' Exists.intro _ (And.intro ?hh ?_); (case hh => first | rfl | decide))
  | (refine And.intro (by first | decide | exact Nat.le_of_ble_eq_true rfl | (simp; decide)) ?_))
local macro_rules | `(tactic| walk_at "efk") => `(tactic| first
  | ((with_reducible refine' DL.sw_retH ?hh ?_); (case hh => rfl))
  | with_reducible refine DL.sw_retE ?_
  | walk_at "evk")
local macro_rules | `(tactic| walk_at "edk") => `(tactic| first
  | with_reducible refine DL.sw_set (DL.ew_lst ?_)
  | walk_at "evk")
namespace K01
open PySem PySem.Spec PyProof.Rows L2 DL MM
section
variable {P : Program} {w : World} {K : Frg} {mg : PySem.Str → Option Value} {base : Heap}
theorem sc_law : FnScope ["script", "rng", "lap", "kinds_here", "items", "turn", "plan", "passed", "due", "again", "told", "some"] ["script"] (defScope s_law) := ⟨rfl, rfl, rfl, by decide +kernel, rfl, by decide +kernel, by decide +kernel⟩
theorem pool_small : ∀ x ∈ pool20, x.cps.size ≤ 20 := by decide +kernel
theorem nice_lines {xs : List S} (h : ∀ x ∈ xs, x ∈ pool20) (l : xs.length ≤ 60) : Nice 1260 (.list (xs.map .str)) ∧ (PyData.list (xs.map .str)).depth ≤ 2 := by
  obtain ⟨h1, h2⟩ := nice_list (xs := xs.map .str) (n := 20) (k := 0) (m := 60) (fun d hd => by
    obtain ⟨x, hx, rfl⟩ := List.mem_map.mp hd
    exact nice_str (pool_ok x (h x hx)) (pool_small x (h x hx))) (by rw [List.length_map]; exact l) (by decide)
  exact ⟨h1, Nat.le_succ_of_le h2⟩
def spLaw (K : Frg) : Sp := fun vs H Q _ => ∃ (a : Addr) (ns : List Int), vs = [.ref a] ∧ ns.length ≤ 63 ∧ SqL K H a (ns.map V.int) ∧ ∀ H', Q (.bl true) H'
theorem ok_law {f : Addr} {fd : FuncData} (F : Fun K "law" "law" s_law f fd) (B : Bt mg)
    (G__law_rng : Df P w K mg base 1 "_law_rng" ["script"] (SpG K)) (G__law_draw : Df P w K mg base 1 "_law_draw" ["rng", "limit"] (SpR K preDraw)) (G__law_kinds : Df P w K mg base 2 "_law_kinds" ["rng"] (SpR K preKinds))
    (G__law_items : Df P w K mg base 2 "_law_items" ["rng", "kinds_here", "most"] (SpR K preItems)) (G__law_command : Df P w K mg base 2 "_law_command" ["rng", "size"] (SpR K preCmdD)) (G__law_result : Df P w K mg base 2 "_law_result" ["plan", "items"] (SpP K preRes))
    (G_run : Df P w K mg base 3 "run" ["pipeline", "lines"] (SpF K preRun)) (GK_run : DfK P w K mg base 3 "run" ["pipeline", "lines"] ["lines", "pipeline"] gSw gSw (SpF K preRun)) : FnG P w K mg base CX0 4 f fd ["script"] (spLaw K) := by
  refine okG F sc_law (fun vs H Q E h => ?_) (fun cv A outer s H vs Q E hg hr h => ?_)
  · obtain ⟨a, ns, rfl, _⟩ := h
    rfl
  obtain ⟨a, ns, rfl, hl, hS, q⟩ := h
  have k0 : Ok K (fun _ => none) H [] [] H H := ⟨fun _ => [], ⟨Same.refl H, (fun _ _ e => nomatch e), Same.refl H, (fun _ h => absurd rfl h), rfl, (fun _ _ _ h _ => nomatch h), (fun _ _ h => nomatch h), (fun i w h => nomatch h)⟩⟩
  refine ⟨_, (pss_cons (ps_set (i := 1) sc_law.nd rfl (Or.inl rfl) (DL.pe_df G__law_rng hr (by decide) (by rfl) (pa_cons (pv 0) pa_nil)))
      (pss_cons (ps_for PassesOwn.never rfl (pi_range1 (by rfl) B.range (pa_cons (pe_op op_add pe_int (pe_callB (call_min2 rfl) (by rfl) B.min (by decide +kernel) (pa_cons pe_int (pa_cons (pe_callB call_len_seq (by rfl) B.len PySem.boot_len (pa_cons (pv 0) pa_nil)) pa_nil)))) pa_nil)) (pg_name (i := 2) sc_law.nd rfl (Or.inl rfl)) (pss_cons (ps_set (i := 3) sc_law.nd rfl (Or.inl rfl) (DL.pe_df G__law_kinds hr (by decide) (by rfl) (pa_cons (pv 1) pa_nil)))
      (pss_cons (ps_set (i := 4) sc_law.nd rfl (Or.inl rfl) (DL.pe_df G__law_items hr (by decide) (by rfl) (pa_cons (pv 1) (pa_cons (pv 3) (pa_cons (pe_ix ix_list (pe_lst (pa_cons pe_int (pa_cons pe_int pa_nil))) (DL.pe_df G__law_draw hr (by decide) (by rfl) (pa_cons (pv 1) (pa_cons pe_int pa_nil))) (fun _ _ => rfl)) pa_nil)))))
      (pss_one (ps_for PassesOwn.never rfl (pi_range1 (by rfl) B.range (pa_cons pe_int pa_nil)) (pg_name (i := 5) sc_law.nd rfl (Or.inl rfl)) (pss_cons (ps_set (i := 6) sc_law.nd rfl (Or.inl rfl) (pe_slice sl_list (pe_lst (pa_cons (DL.pe_df G__law_command hr (by decide) (by rfl) (pa_cons (pv 1) (pa_cons (pe_callB call_len_seq (by rfl) B.len PySem.boot_len (pa_cons (pv 4) pa_nil)) pa_nil))) pa_nil)) po_none (po_some (pe_op op_sub pe_int (pe_op op_mul (pe_callTy call_int1 (by rfl) B.int (by decide +kernel) (pa_cons (pe_cmpR op_eq (pv 5) pe_int (by rfl)) pa_nil)) pe_int)))))
      (pss_cons (ps_set (i := 7) sc_law.nd rfl (Or.inl rfl) (pe_callB (DL.cr_repr hg hr.units) (by rfl) B.repr (by decide +kernel) (pa_cons (pe_lst (pa_cons (pv 6) (pa_cons (pv 4) pa_nil))) pa_nil)))
      (pss_cons (ps_set (i := 8) sc_law.nd rfl (Or.inl rfl) (DL.pe_df G__law_result hr (by decide) (by rfl) (pa_cons (pv 6) (pa_cons (pv 4) pa_nil))))
      (pss_one (ps_for PassesOwn.never rfl (pi_range1 (by rfl) B.range (pa_cons pe_int pa_nil)) (pg_name (i := 9) sc_law.nd rfl (Or.inl rfl)) (pss_cons (ps_set (i := 10) sc_law.nd rfl (Or.inl rfl) (pe_lst (pa_cons (DL.pe_df G_run hr (by decide) (by rfl) (pa_cons (pv 6) (pa_cons (pv 4) pa_nil))) (pa_cons (DL.pe_dfK GK_run hr (by decide) (by rfl) (pk_cons (pv 4) (pk_cons (pv 6) pk_nil))) pa_nil))))
      (pss_cons (ps_if (PW.pt (pw_or (pt_cmpR op_ne (pe_callB (DL.cr_repr hg hr.units) (by rfl) B.repr (by decide +kernel) (pa_cons (pv 10) pa_nil)) (pe_callB (DL.cr_repr hg hr.units) (by rfl) B.repr (by decide +kernel) (pa_cons (pe_lst (pa_cons (pv 8) (pa_cons (pv 8) pa_nil))) pa_nil)) (by rfl)) (pw_or1 (pt_cmpR op_ne (pe_callB (DL.cr_repr hg hr.units) (by rfl) B.repr (by decide +kernel) (pa_cons (pe_lst (pa_cons (pv 6) (pa_cons (pv 4) pa_nil))) pa_nil)) (pv 7) (by rfl))))) (pss_one (ps_ret pe_bl)) pss_nil)
      (pss_one (ps_for PassesOwn.never rfl (pi_list (pv 10)) (pg_name (i := 11) sc_law.nd rfl (Or.inl rfl)) (pss_cons (ps_expr (pe_bm PySem.F.plainAttrs_list PySem.F.slot_list_append PySem.F.type_list_append mt_append (pv 11) (pa_cons pe_str pa_nil)))
      (pss_one (ps_expr (pe_bm0 PySem.F.plainAttrs_list PySem.F.slot_list_reverse PySem.F.type_list_reverse mt_reverse (pv 11)))))))))))))))))))
      (pss_one (ps_ret (pe_and (pe_cmpR (op_eqD hr.units) (DL.pe_df G_run hr (by decide) (by rfl) (pa_cons (pe_lst (pa_cons (pe_tup (pa_cons pe_str (pa_cons pe_int pa_nil))) pa_nil)) (pa_cons (pe_lst (pa_cons pe_str pa_nil)) pa_nil))) (pe_lst pa_nil) (by rfl)) (pe_and (pe_cmpR (op_eqD hr.units) (DL.pe_df G_run hr (by decide) (by rfl) (pa_cons (pe_lst (pa_cons (pe_tup (pa_cons pe_str (pa_cons pe_int pa_nil))) pa_nil)) (pa_cons (pe_lst (pa_cons pe_str pa_nil)) pa_nil))) (pe_lst (pa_cons pe_str pa_nil)) (by rfl)) (pe_one (pe_cmpR (op_eqD hr.units) (DL.pe_df G_run hr (by decide) (by rfl) (pa_cons (pe_lst (pa_cons (pe_tup (pa_cons pe_str pa_nil)) pa_nil)) (pa_cons (pe_lst pa_nil) pa_nil))) (pe_lst pa_nil) (by rfl))))))))), ?_⟩
  dsimp only [cxOf, Cx.nox, Cx.wish, Cx.blk]
  have main : ∀ {t : TS} {D : Ends}, SW K (fun _ => none) H [.scr ns, .un, .un, .un, .un, .un, .un, .un, .un, .un, .un, .un] t D → t D (L2.start ["script", "rng", "lap", "kinds_here", "items", "turn", "plan", "passed", "due", "again", "told", "some"] [.ref a]) H := fun h => h _ H H (k0.beginS (n := 11) hS)
  refine main ?_
  refine sw_seq (sw_rng rfl hl fun v => nx_mk ?_)
  repeat walk_at "evk"
  refine ⟨by split <;> omega, by split <;> omega, fun i w => ∃ (m : Nat) (a2 a3 a4 a5 a6 a7 a8 a9 a10 a11 : SD), w = [.scr ns, .cel (rngC v m), a2, a3, a4, a5, a6, a7, a8, a9, a10, a11] ∧ m ≤ 300 * i, ⟨0, _, _, _, _, _, _, _, _, _, _, rfl, by omega⟩, ?_, ?_⟩
  · rintro i d w B1 hi ⟨m, a2, a3, a4, a5, a6, a7, a8, a9, a10, a11, rfl, hm⟩ eb
    obtain ⟨hlt, rfl⟩ := rangeD_get hi
    have i20 : i < 20 := by split at hlt <;> omega
    repeat walk_at "evk"
    refine ⟨_, _, _, rfl, ⟨v, m, rfl, rfl, by omega, rfl, rfl⟩, ?_⟩
    rintro d ⟨ks, rfl, ks0, k13, kp⟩
    repeat walk_at "evk"
    intro r r0 r1
    obtain ⟨most, hmo, m0, m60⟩ : ∃ z : Int, atI [PyData.int 6, .int 60] r = some (.int z) ∧ 0 ≤ z ∧ z ≤ 60 := by
      rcases (by omega : r = 0 ∨ r = 1) with rfl | rfl
      · exact ⟨6, rfl, by decide, by decide⟩
      · exact ⟨60, rfl, by decide, by decide⟩
    refine ow_ixL hmo ?_
    repeat walk_at "evk"
    refine ⟨_, _, _, rfl, ⟨v, m + 15 + 1, ks, most, rfl, rfl, by omega, ks0, k13, kp, m0, m60, rfl, rfl⟩, ?_⟩
    rintro d ⟨xs, rfl, xl, xp⟩
    repeat walk_at "evk"
    refine ⟨fun j w => ∃ (m' : Nat) (b5 b6 b7 b8 b9 b10 b11 : SD), w = [.scr ns, .cel (rngC v m'), .dat (.int (0 + (i : Nat))), .dat (.list (ks.map .str)), .dat (.list (xs.map .str)), b5, b6, b7, b8, b9, b10, b11] ∧ m' ≤ m + 216 + 10 * j, ⟨m + 15 + 1 + 200, _, _, _, _, _, _, _, rfl, by omega⟩, ?_, ?_⟩
    · rintro j d w B2 hj ⟨m', b5, b6, b7, b8, b9, b10, b11, rfl, hm'⟩ eb2
      obtain ⟨hj8, rfl⟩ := rangeD_get hj
      have j8 : j < 8 := hj8
      repeat walk_at "evk"
      refine ⟨_, _, _, rfl, ⟨v, m', xs.length, rfl, by rw [List.length_map], by omega, by omega, by omega, rfl, rfl⟩, ?_⟩
      rintro d ⟨c, rfl, cok, cb⟩
      repeat walk_at "evk"
      obtain ⟨cs, hcs, csl, csok⟩ : ∃ cs : List Cm, DL.cutD [c.d] none (some (2 - (if decide (0 + (j : Int) = 0) = true then 1 else 0) * 2)) = cs.map Cm.d ∧ cs.length ≤ 1 ∧ ∀ c ∈ cs, c.ok ∧ c.num < 2 ^ 150 := by
        by_cases h0 : (0 + (j : Int) = 0)
        · rw [decide_eq_true h0]
          exact ⟨[], rfl, by decide, fun _ h => nomatch h⟩
        · rw [decide_eq_false h0]
          exact ⟨[c], rfl, Nat.le_refl 1, fun d hd => by
            rw [List.mem_singleton.mp hd]
            exact ⟨cok, cb⟩⟩
      rw [hcs]
      have n1 : Nice 2522 (.list [.list (cs.map Cm.d), .list (xs.map .str)]) := nice_two (nice_plan csok csl) (nice_lines xp xl)
      have rp : ∀ x ∈ runP cs xs, x ∈ pool20 := fun x hx => xp x (run_mem cs xs x hx)
      have rle : (runP cs xs).length ≤ 60 := Nat.le_trans (run_len cs xs) xl
      have n2 : Nice 2522 (.list [.list ((runP cs xs).map .str), .list ((runP cs xs).map .str)]) := nice_two (nice_lines rp rle) (nice_lines rp rle)
      have dl : ((runP cs xs).map PyData.str).length < sizeLine := by
        rw [List.length_map]
        exact Nat.lt_of_le_of_lt rle (by decide)
      have xl1 : xs.length < 1000 := by omega
      repeat walk_at "evk"
      refine ⟨_, ⟨cs, xs, rfl, fun c h => (csok c h).1, xl, rfl⟩, fun d hd => ?_⟩
      subst hd
      repeat walk_at "evk"
      refine ⟨fun l w => ∃ (c9 c10 c11 : SD), w = [.scr ns, .cel (rngC v (m' + 10)), .dat (.int (0 + (i : Nat))), .dat (.list (ks.map .str)), .dat (.list (xs.map .str)), .dat (.int (0 + (j : Nat))), .dat (.list (cs.map Cm.d)), .dat (.str (PyData.shown (.list [.list (cs.map Cm.d), .list (xs.map .str)]))), .dat (.list ((runP cs xs).map .str)), c9, c10, c11], ⟨_, _, _, rfl⟩, ?_, ?_⟩
      · rintro l d w B3 hl3 ⟨c9, c10, c11, rfl⟩ eb3
        obtain ⟨_, rfl⟩ := rangeD_get hl3
        refine gw_name (sw_seq (sw_two (ef_callF ?_)))
        repeat walk_at "evk"
        refine ⟨_, ⟨cs, xs, rfl, fun c h => (csok c h).1, xl1, rfl⟩, fun es he => ?_⟩
        subst he
        refine ef_callSwF ?_
        repeat walk_at "evk"
        refine ⟨_, _, rfl, _, ⟨cs, xs, rfl, fun c h => (csok c h).1, xl1, rfl⟩, fun es he => ?_⟩
        subst he
        repeat walk_at "evk"
        exact ⟨_, _, _, rfl⟩
      · rintro w ⟨c9, c10, c11, rfl⟩
        repeat walk_at "evk"
        exact ⟨m' + 10, _, _, _, _, _, _, _, rfl, by omega⟩
    · rintro w ⟨m', b5, b6, b7, b8, b9, b10, b11, rfl, hm'⟩
      have e8 : (rangeD 0 (Int.toNat 8)).length = 8 := rangeD_len
      rw [e8] at hm'
      repeat walk_at "evk"
      exact ⟨m', _, _, _, _, _, _, _, _, _, _, rfl, by omega⟩
  · rintro w ⟨m, a2, a3, a4, a5, a6, a7, a8, a9, a10, a11, rfl, hm⟩
    have run1 : ∀ {c : Cm}, c.ok → ∀ d ∈ [c], d.ok := fun h d hd => by
      rw [List.mem_singleton.mp hd]
      exact h
    have okA : PyData.strOk "a" = true := by decide +kernel
    have ls : ∀ x ∈ (["a"] : List S), PyData.strOk x = true := fun x hx => by
      rw [List.mem_singleton.mp hx]
      exact okA
    repeat walk_at "evk"
    refine ⟨_, ⟨[.tail 0], ["a"], rfl, run1 (Int.le_refl 0), by decide, rfl⟩, fun es he => ?_⟩
    have e1 : (runP [Cm.tail 0] ["a"]).map PyData.str = [] := rfl
    rw [e1] at he
    subst he
    repeat walk_at "evk"
    refine ow_eqD nil_shaped nil_shaped ?_
    rw [eqv_refl_nil]
    repeat walk_at "evk"
    refine ⟨_, ⟨[.chop 0], ["a"], rfl, run1 (Int.le_refl 0), by decide, rfl⟩, fun es he => ?_⟩
    have e2 : (runP [Cm.chop 0] ["a"]).map PyData.str = [.str "a"] := rfl
    rw [e2] at he
    subst he
    repeat walk_at "evk"
    refine ow_eqD (lines_shaped ls) (lines_shaped ls) ?_
    rw [eqv_one]
    repeat walk_at "evk"
    refine ⟨_, ⟨[.sort], [], rfl, run1 (Int.le_refl 0), by decide, rfl⟩, fun es he => ?_⟩
    have e3 : (runP [Cm.sort] []).map PyData.str = [] := rfl
    rw [e3] at he
    subst he
    repeat walk_at "evk"
    refine ow_eqD nil_shaped nil_shaped ?_
    rw [eqv_refl_nil]
    repeat walk_at "evk"
    exact fun σ I' H' x k' a' => by
      rw [a'.bl_inv]
      exact q _
end
end K01
namespace K01
open PySem PySem.Spec PyProof.Rows L2 DL MM
theorem all_mk {l : PySem.W.OpenLaw} {w : World} {K : Frg} {h : Heap} {mg : PySem.Str → Option Value} {fa : Addr} (X : K.In h) (G : h.Ns mainGlobals mg) (hfa : mg "law" = some (.ref fa))
    {f_is_command : Addr} {od_is_command an_is_command : Option Addr} {sl_is_command : Array (Option Value)} {oc_is_command kV_is_command dc_is_command pm_is_command cd_is_command ct_is_command : Value} (a_is_command : PySem.W.nsIn K mainGlobals "is_command" = some (some (.ref f_is_command))) (l_is_command : K.lookup f_is_command = some ⟨oc_is_command, od_is_command, .func (PySem.W.fnOf "is_command" "is_command" (defArgs s_is_command) (defBody s_is_command) (defScope s_is_command) .none kV_is_command dc_is_command pm_is_command an_is_command cd_is_command ct_is_command), sl_is_command⟩) (c_is_command : PySem.W.codeIn K cd_is_command "is_command" = true) (k_is_command : PySem.W.keepIn K (.ref f_is_command) = true)
    {f_check_pipeline : Addr} {od_check_pipeline an_check_pipeline : Option Addr} {sl_check_pipeline : Array (Option Value)} {oc_check_pipeline kV_check_pipeline dc_check_pipeline pm_check_pipeline cd_check_pipeline ct_check_pipeline : Value} (a_check_pipeline : PySem.W.nsIn K mainGlobals "check_pipeline" = some (some (.ref f_check_pipeline))) (l_check_pipeline : K.lookup f_check_pipeline = some ⟨oc_check_pipeline, od_check_pipeline, .func (PySem.W.fnOf "check_pipeline" "check_pipeline" (defArgs s_check_pipeline) (defBody s_check_pipeline) (defScope s_check_pipeline) .none kV_check_pipeline dc_check_pipeline pm_check_pipeline an_check_pipeline cd_check_pipeline ct_check_pipeline), sl_check_pipeline⟩) (c_check_pipeline : PySem.W.codeIn K cd_check_pipeline "check_pipeline" = true) (k_check_pipeline : PySem.W.keepIn K (.ref f_check_pipeline) = true)
    {f_kept_range : Addr} {od_kept_range an_kept_range : Option Addr} {sl_kept_range : Array (Option Value)} {oc_kept_range kV_kept_range dc_kept_range pm_kept_range cd_kept_range ct_kept_range : Value} (a_kept_range : PySem.W.nsIn K mainGlobals "kept_range" = some (some (.ref f_kept_range))) (l_kept_range : K.lookup f_kept_range = some ⟨oc_kept_range, od_kept_range, .func (PySem.W.fnOf "kept_range" "kept_range" (defArgs s_kept_range) (defBody s_kept_range) (defScope s_kept_range) .none kV_kept_range dc_kept_range pm_kept_range an_kept_range cd_kept_range ct_kept_range), sl_kept_range⟩) (c_kept_range : PySem.W.codeIn K cd_kept_range "kept_range" = true) (k_kept_range : PySem.W.keepIn K (.ref f_kept_range) = true)
    {f_run : Addr} {od_run an_run : Option Addr} {sl_run : Array (Option Value)} {oc_run kV_run dc_run pm_run cd_run ct_run : Value} (a_run : PySem.W.nsIn K mainGlobals "run" = some (some (.ref f_run))) (l_run : K.lookup f_run = some ⟨oc_run, od_run, .func (PySem.W.fnOf "run" "run" (defArgs s_run) (defBody s_run) (defScope s_run) .none kV_run dc_run pm_run an_run cd_run ct_run), sl_run⟩) (c_run : PySem.W.codeIn K cd_run "run" = true) (k_run : PySem.W.keepIn K (.ref f_run) = true)
    {f__apply : Addr} {od__apply an__apply : Option Addr} {sl__apply : Array (Option Value)} {oc__apply kV__apply dc__apply pm__apply cd__apply ct__apply : Value} (a__apply : PySem.W.nsIn K mainGlobals "_apply" = some (some (.ref f__apply))) (l__apply : K.lookup f__apply = some ⟨oc__apply, od__apply, .func (PySem.W.fnOf "_apply" "_apply" (defArgs s__apply) (defBody s__apply) (defScope s__apply) .none kV__apply dc__apply pm__apply an__apply cd__apply ct__apply), sl__apply⟩) (c__apply : PySem.W.codeIn K cd__apply "_apply" = true) (k__apply : PySem.W.keepIn K (.ref f__apply) = true)
    {f__merged : Addr} {od__merged an__merged : Option Addr} {sl__merged : Array (Option Value)} {oc__merged kV__merged dc__merged pm__merged cd__merged ct__merged : Value} (a__merged : PySem.W.nsIn K mainGlobals "_merged" = some (some (.ref f__merged))) (l__merged : K.lookup f__merged = some ⟨oc__merged, od__merged, .func (PySem.W.fnOf "_merged" "_merged" (defArgs s__merged) (defBody s__merged) (defScope s__merged) .none kV__merged dc__merged pm__merged an__merged cd__merged ct__merged), sl__merged⟩) (c__merged : PySem.W.codeIn K cd__merged "_merged" = true) (k__merged : PySem.W.keepIn K (.ref f__merged) = true)
    {f__law_rng : Addr} {od__law_rng an__law_rng : Option Addr} {sl__law_rng : Array (Option Value)} {oc__law_rng kV__law_rng dc__law_rng pm__law_rng cd__law_rng ct__law_rng : Value} (a__law_rng : PySem.W.nsIn K mainGlobals "_law_rng" = some (some (.ref f__law_rng))) (l__law_rng : K.lookup f__law_rng = some ⟨oc__law_rng, od__law_rng, .func (PySem.W.fnOf "_law_rng" "_law_rng" (defArgs s__law_rng) (defBody s__law_rng) (defScope s__law_rng) .none kV__law_rng dc__law_rng pm__law_rng an__law_rng cd__law_rng ct__law_rng), sl__law_rng⟩) (c__law_rng : PySem.W.codeIn K cd__law_rng "_law_rng" = true) (k__law_rng : PySem.W.keepIn K (.ref f__law_rng) = true)
    {f__law_draw : Addr} {od__law_draw an__law_draw : Option Addr} {sl__law_draw : Array (Option Value)} {oc__law_draw kV__law_draw dc__law_draw pm__law_draw cd__law_draw ct__law_draw : Value} (a__law_draw : PySem.W.nsIn K mainGlobals "_law_draw" = some (some (.ref f__law_draw))) (l__law_draw : K.lookup f__law_draw = some ⟨oc__law_draw, od__law_draw, .func (PySem.W.fnOf "_law_draw" "_law_draw" (defArgs s__law_draw) (defBody s__law_draw) (defScope s__law_draw) .none kV__law_draw dc__law_draw pm__law_draw an__law_draw cd__law_draw ct__law_draw), sl__law_draw⟩) (c__law_draw : PySem.W.codeIn K cd__law_draw "_law_draw" = true) (k__law_draw : PySem.W.keepIn K (.ref f__law_draw) = true)
    {f__law_kinds : Addr} {od__law_kinds an__law_kinds : Option Addr} {sl__law_kinds : Array (Option Value)} {oc__law_kinds kV__law_kinds dc__law_kinds pm__law_kinds cd__law_kinds ct__law_kinds : Value} (a__law_kinds : PySem.W.nsIn K mainGlobals "_law_kinds" = some (some (.ref f__law_kinds))) (l__law_kinds : K.lookup f__law_kinds = some ⟨oc__law_kinds, od__law_kinds, .func (PySem.W.fnOf "_law_kinds" "_law_kinds" (defArgs s__law_kinds) (defBody s__law_kinds) (defScope s__law_kinds) .none kV__law_kinds dc__law_kinds pm__law_kinds an__law_kinds cd__law_kinds ct__law_kinds), sl__law_kinds⟩) (c__law_kinds : PySem.W.codeIn K cd__law_kinds "_law_kinds" = true) (k__law_kinds : PySem.W.keepIn K (.ref f__law_kinds) = true)
    {f__law_items : Addr} {od__law_items an__law_items : Option Addr} {sl__law_items : Array (Option Value)} {oc__law_items kV__law_items dc__law_items pm__law_items cd__law_items ct__law_items : Value} (a__law_items : PySem.W.nsIn K mainGlobals "_law_items" = some (some (.ref f__law_items))) (l__law_items : K.lookup f__law_items = some ⟨oc__law_items, od__law_items, .func (PySem.W.fnOf "_law_items" "_law_items" (defArgs s__law_items) (defBody s__law_items) (defScope s__law_items) .none kV__law_items dc__law_items pm__law_items an__law_items cd__law_items ct__law_items), sl__law_items⟩) (c__law_items : PySem.W.codeIn K cd__law_items "_law_items" = true) (k__law_items : PySem.W.keepIn K (.ref f__law_items) = true)
    {f__law_command : Addr} {od__law_command an__law_command : Option Addr} {sl__law_command : Array (Option Value)} {oc__law_command kV__law_command dc__law_command pm__law_command cd__law_command ct__law_command : Value} (a__law_command : PySem.W.nsIn K mainGlobals "_law_command" = some (some (.ref f__law_command))) (l__law_command : K.lookup f__law_command = some ⟨oc__law_command, od__law_command, .func (PySem.W.fnOf "_law_command" "_law_command" (defArgs s__law_command) (defBody s__law_command) (defScope s__law_command) .none kV__law_command dc__law_command pm__law_command an__law_command cd__law_command ct__law_command), sl__law_command⟩) (c__law_command : PySem.W.codeIn K cd__law_command "_law_command" = true) (k__law_command : PySem.W.keepIn K (.ref f__law_command) = true)
    {f__law_step : Addr} {od__law_step an__law_step : Option Addr} {sl__law_step : Array (Option Value)} {oc__law_step kV__law_step dc__law_step pm__law_step cd__law_step ct__law_step : Value} (a__law_step : PySem.W.nsIn K mainGlobals "_law_step" = some (some (.ref f__law_step))) (l__law_step : K.lookup f__law_step = some ⟨oc__law_step, od__law_step, .func (PySem.W.fnOf "_law_step" "_law_step" (defArgs s__law_step) (defBody s__law_step) (defScope s__law_step) .none kV__law_step dc__law_step pm__law_step an__law_step cd__law_step ct__law_step), sl__law_step⟩) (c__law_step : PySem.W.codeIn K cd__law_step "_law_step" = true) (k__law_step : PySem.W.keepIn K (.ref f__law_step) = true)
    {f__law_result : Addr} {od__law_result an__law_result : Option Addr} {sl__law_result : Array (Option Value)} {oc__law_result kV__law_result dc__law_result pm__law_result cd__law_result ct__law_result : Value} (a__law_result : PySem.W.nsIn K mainGlobals "_law_result" = some (some (.ref f__law_result))) (l__law_result : K.lookup f__law_result = some ⟨oc__law_result, od__law_result, .func (PySem.W.fnOf "_law_result" "_law_result" (defArgs s__law_result) (defBody s__law_result) (defScope s__law_result) .none kV__law_result dc__law_result pm__law_result an__law_result cd__law_result ct__law_result), sl__law_result⟩) (c__law_result : PySem.W.codeIn K cd__law_result "_law_result" = true) (k__law_result : PySem.W.keepIn K (.ref f__law_result) = true)
    {f_law : Addr} {od_law an_law : Option Addr} {sl_law : Array (Option Value)} {oc_law kV_law dc_law pm_law cd_law ct_law : Value} (a_law : PySem.W.nsIn K mainGlobals "law" = some (some (.ref f_law))) (l_law : K.lookup f_law = some ⟨oc_law, od_law, .func (PySem.W.fnOf "law" "law" (defArgs s_law) (defBody s_law) (defScope s_law) .none kV_law dc_law pm_law an_law cd_law ct_law), sl_law⟩) (c_law : PySem.W.codeIn K cd_law "law" = true) (k_law : PySem.W.keepIn K (.ref f_law) = true)
    {f_SLICING : Addr} {od_SLICING : Option Addr} {sl_SLICING : Array (Option Value)} {n_SLICING : Nat} {tSLICING0 tSLICING1 tSLICING2 tSLICING3 : Nat} (a_SLICING : PySem.W.nsIn K mainGlobals "SLICING" = some (some (.ref f_SLICING))) (l_SLICING : K.lookup f_SLICING = some ⟨.type "tuple", od_SLICING, .seq #[.str "head" tSLICING0, .str "tail" tSLICING1, .str "skip" tSLICING2, .str "chop" tSLICING3] n_SLICING, sl_SLICING⟩)
    {f_PLAIN : Addr} {od_PLAIN : Option Addr} {sl_PLAIN : Array (Option Value)} {n_PLAIN : Nat} {tPLAIN0 tPLAIN1 tPLAIN2 : Nat} (a_PLAIN : PySem.W.nsIn K mainGlobals "PLAIN" = some (some (.ref f_PLAIN))) (l_PLAIN : K.lookup f_PLAIN = some ⟨.type "tuple", od_PLAIN, .seq #[.str "reverse" tPLAIN0, .str "uniq" tPLAIN1, .str "sort" tPLAIN2] n_PLAIN, sl_PLAIN⟩)
    (z_len : PySem.W.nsIn K mainGlobals "len" = some none)
    (z_enumerate : PySem.W.nsIn K mainGlobals "enumerate" = some none)
    (z_min : PySem.W.nsIn K mainGlobals "min" = some none)
    (z_list : PySem.W.nsIn K mainGlobals "list" = some none)
    (z_set : PySem.W.nsIn K mainGlobals "set" = some none)
    (z_sorted : PySem.W.nsIn K mainGlobals "sorted" = some none)
    (z_abs : PySem.W.nsIn K mainGlobals "abs" = some none)
    (z_range : PySem.W.nsIn K mainGlobals "range" = some none)
    (z_max : PySem.W.nsIn K mainGlobals "max" = some none)
    (z_repr : PySem.W.nsIn K mainGlobals "repr" = some none)
    (z_int : PySem.W.nsIn K mainGlobals "int" = some none)
    : ∃ fd : FuncData, (∀ (s : Shared) (v : Value), BindsTo s fd ⟨[v], []⟩ [("script", v)]) ∧ ∀ base : Heap, K.In base → base.Ns mainGlobals mg → FnG l.prog w K mg base CX0 4 fa fd ["script"] (spLaw K) := by
  have e := hfa.symm.trans (PySem.W.mg_of X G a_law)
  cases e
  have B : Bt mg := ⟨PySem.W.mg_none_of X G z_len, PySem.W.mg_none_of X G z_enumerate, PySem.W.mg_none_of X G z_min, PySem.W.mg_none_of X G z_list, PySem.W.mg_none_of X G z_set, PySem.W.mg_none_of X G z_sorted, PySem.W.mg_none_of X G z_abs, PySem.W.mg_none_of X G z_range, PySem.W.mg_none_of X G z_max, PySem.W.mg_none_of X G z_repr, PySem.W.mg_none_of X G z_int⟩
  have F_is_command := fun_mk (st := s_is_command) l_is_command c_is_command k_is_command
  have m_is_command := PySem.W.mg_of X G a_is_command
  have b_is_command := F_is_command.binds (ps := ["element"]) fun _ _ _ _ _ _ us hl => match us, hl with | [_], _ => rfl
  have F_check_pipeline := fun_mk (st := s_check_pipeline) l_check_pipeline c_check_pipeline k_check_pipeline
  have m_check_pipeline := PySem.W.mg_of X G a_check_pipeline
  have b_check_pipeline := F_check_pipeline.binds (ps := ["pipeline"]) fun _ _ _ _ _ _ us hl => match us, hl with | [_], _ => rfl
  have F_kept_range := fun_mk (st := s_kept_range) l_kept_range c_kept_range k_kept_range
  have m_kept_range := PySem.W.mg_of X G a_kept_range
  have b_kept_range := F_kept_range.binds (ps := ["command", "length"]) fun _ _ _ _ _ _ us hl => match us, hl with | [_, _], _ => rfl
  have F_run := fun_mk (st := s_run) l_run c_run k_run
  have m_run := PySem.W.mg_of X G a_run
  have b_run := F_run.binds (ps := ["pipeline", "lines"]) fun _ _ _ _ _ _ us hl => match us, hl with | [_, _], _ => rfl
  have F__apply := fun_mk (st := s__apply) l__apply c__apply k__apply
  have m__apply := PySem.W.mg_of X G a__apply
  have b__apply := F__apply.binds (ps := ["command", "lines"]) fun _ _ _ _ _ _ us hl => match us, hl with | [_, _], _ => rfl
  have F__merged := fun_mk (st := s__merged) l__merged c__merged k__merged
  have m__merged := PySem.W.mg_of X G a__merged
  have b__merged := F__merged.binds (ps := ["runs"]) fun _ _ _ _ _ _ us hl => match us, hl with | [_], _ => rfl
  have F__law_rng := fun_mk (st := s__law_rng) l__law_rng c__law_rng k__law_rng
  have m__law_rng := PySem.W.mg_of X G a__law_rng
  have b__law_rng := F__law_rng.binds (ps := ["script"]) fun _ _ _ _ _ _ us hl => match us, hl with | [_], _ => rfl
  have F__law_draw := fun_mk (st := s__law_draw) l__law_draw c__law_draw k__law_draw
  have m__law_draw := PySem.W.mg_of X G a__law_draw
  have b__law_draw := F__law_draw.binds (ps := ["rng", "limit"]) fun _ _ _ _ _ _ us hl => match us, hl with | [_, _], _ => rfl
  have F__law_kinds := fun_mk (st := s__law_kinds) l__law_kinds c__law_kinds k__law_kinds
  have m__law_kinds := PySem.W.mg_of X G a__law_kinds
  have b__law_kinds := F__law_kinds.binds (ps := ["rng"]) fun _ _ _ _ _ _ us hl => match us, hl with | [_], _ => rfl
  have F__law_items := fun_mk (st := s__law_items) l__law_items c__law_items k__law_items
  have m__law_items := PySem.W.mg_of X G a__law_items
  have b__law_items := F__law_items.binds (ps := ["rng", "kinds_here", "most"]) fun _ _ _ _ _ _ us hl => match us, hl with | [_, _, _], _ => rfl
  have F__law_command := fun_mk (st := s__law_command) l__law_command c__law_command k__law_command
  have m__law_command := PySem.W.mg_of X G a__law_command
  have b__law_command := F__law_command.binds (ps := ["rng", "size"]) fun _ _ _ _ _ _ us hl => match us, hl with | [_, _], _ => rfl
  have F__law_step := fun_mk (st := s__law_step) l__law_step c__law_step k__law_step
  have m__law_step := PySem.W.mg_of X G a__law_step
  have b__law_step := F__law_step.binds (ps := ["command", "items"]) fun _ _ _ _ _ _ us hl => match us, hl with | [_, _], _ => rfl
  have F__law_result := fun_mk (st := s__law_result) l__law_result c__law_result k__law_result
  have m__law_result := PySem.W.mg_of X G a__law_result
  have b__law_result := F__law_result.binds (ps := ["plan", "items"]) fun _ _ _ _ _ _ us hl => match us, hl with | [_, _], _ => rfl
  have F_law := fun_mk (st := s_law) l_law c_law k_law
  have C_SLICING : Cst K mg "SLICING" slicD := ⟨.ref f_SLICING, .ref f_SLICING, PySem.W.mg_of X G a_SLICING, rfl, .tup (xs := [V.str "head", V.str "tail", V.str "skip", V.str "chop"]) (.inr ⟨_, _, _, l_SLICING, rfl, rfl, Nat.le_of_ble_eq_true rfl, .cons ⟨_, rfl⟩ (.cons ⟨_, rfl⟩ (.cons ⟨_, rfl⟩ (.cons ⟨_, rfl⟩ (.nil))))⟩) (.cons (.str _) (.cons (.str _) (.cons (.str _) (.cons (.str _) (.nil)))))⟩
  have C_PLAIN : Cst K mg "PLAIN" plainD := ⟨.ref f_PLAIN, .ref f_PLAIN, PySem.W.mg_of X G a_PLAIN, rfl, .tup (xs := [V.str "reverse", V.str "uniq", V.str "sort"]) (.inr ⟨_, _, _, l_PLAIN, rfl, rfl, Nat.le_of_ble_eq_true rfl, .cons ⟨_, rfl⟩ (.cons ⟨_, rfl⟩ (.cons ⟨_, rfl⟩ (.nil)))⟩) (.cons (.str _) (.cons (.str _) (.cons (.str _) (.nil))))⟩
  refine ⟨PySem.W.fnOf "law" "law" (defArgs s_law) (defBody s_law) (defScope s_law) .none kV_law dc_law pm_law an_law cd_law ct_law, fun s v => .of_eq rfl, fun base _ _ => ?_⟩
  have Gic : FnOk l.prog w K mg base CX0 1 f_is_command _ ["element"] (SpP K preCmd) := ok_is_command (k := 0) F_is_command B C_SLICING C_PLAIN
  have D_is_command : Df l.prog w K mg base 1 "is_command" ["element"] (SpP K preCmd) := ⟨_, _, Gic, m_is_command, k_is_command, b_is_command⟩
  have D_check_pipeline : Df l.prog w K mg base 2 "check_pipeline" ["pipeline"] (SpP K preChk) := ⟨_, _, ok_check_pipeline F_check_pipeline B D_is_command, m_check_pipeline, k_check_pipeline, b_check_pipeline⟩
  have D_kept_range : Df l.prog w K mg base 1 "kept_range" ["command", "length"] (SpP K preKept) := ⟨_, _, ok_kept_range (k := 0) F_kept_range B, m_kept_range, k_kept_range, b_kept_range⟩
  have D__merged : Df l.prog w K mg base 1 "_merged" ["runs"] (SpF K preMrg) := ⟨_, _, ok__merged (k := 0) F__merged, m__merged, k__merged, b__merged⟩
  have D__apply : Df l.prog w K mg base 2 "_apply" ["command", "lines"] (SpF K preApp) := ⟨_, _, ok__apply (k := 0) F__apply B D__merged D_kept_range, m__apply, k__apply, b__apply⟩
  have Grun : FnOk l.prog w K mg base CX0 3 f_run _ ["pipeline", "lines"] (SpF K preRun) := ok_run F_run B D_check_pipeline D__apply
  have D_run : Df l.prog w K mg base 3 "run" ["pipeline", "lines"] (SpF K preRun) := ⟨_, _, Grun, m_run, k_run, b_run⟩
  have DK_run : DfK l.prog w K mg base 3 "run" ["pipeline", "lines"] ["lines", "pipeline"] gSw gSw (SpF K preRun) := ⟨_, _, Grun, m_run, k_run, kb_sw fun _ _ => rfl⟩
  have D__law_rng : Df l.prog w K mg base 1 "_law_rng" ["script"] (SpG K) := ⟨_, _, ok__law_rng (k := 0) F__law_rng B, m__law_rng, k__law_rng, b__law_rng⟩
  have D__law_draw : Df l.prog w K mg base 1 "_law_draw" ["rng", "limit"] (SpR K preDraw) := ⟨_, _, ok__law_draw (k := 0) F__law_draw, m__law_draw, k__law_draw, b__law_draw⟩
  have D__law_kinds : Df l.prog w K mg base 2 "_law_kinds" ["rng"] (SpR K preKinds) := ⟨_, _, ok__law_kinds F__law_kinds B D__law_draw, m__law_kinds, k__law_kinds, b__law_kinds⟩
  have D__law_items : Df l.prog w K mg base 2 "_law_items" ["rng", "kinds_here", "most"] (SpR K preItems) := ⟨_, _, ok__law_items F__law_items B D__law_draw, m__law_items, k__law_items, b__law_items⟩
  have D__law_command : Df l.prog w K mg base 2 "_law_command" ["rng", "size"] (SpR K preCmdD) := ⟨_, _, ok__law_command F__law_command B D__law_draw, m__law_command, k__law_command, b__law_command⟩
  have D__law_step : Df l.prog w K mg base 1 "_law_step" ["command", "items"] (SpP K preStep) := ⟨_, _, ok__law_step (k := 0) F__law_step B, m__law_step, k__law_step, b__law_step⟩
  have D__law_result : Df l.prog w K mg base 2 "_law_result" ["plan", "items"] (SpP K preRes) := ⟨_, _, ok__law_result F__law_result B D__law_step, m__law_result, k__law_result, b__law_result⟩
  exact ok_law F_law B D__law_rng D__law_draw D__law_kinds D__law_items D__law_command D__law_result D_run DK_run
end K01
open PySem PySem.W PyProof.Rows in
set_option maxRecDepth 100000 in
set_option maxHeartbeats 0 in
theorem PySem.Challenge.cw_pipeform_k01_single_commands_holds : PySem.Challenge.rw_pipeform_k01_single_commands.Holds := by
  w_on; o_law; k_head; (case hw => w_witness2)
  k_fill
  refine DL.walk_goes (l := PySem.Challenge.rw_pipeform_k01_single_commands) (n := 63) (k := 4) (x := "script") (sp := K01.spLaw) rfl (by decide) rfl ⟨rfl, by decide, by decide⟩ (fun w h Y => PySem.W.kIn_of Y) ?F (fun K H a ns hl _ hS => ⟨a, ns, rfl, hl, hS, fun _ => rfl⟩)
  case F =>
    intro w mg fa h KX G hmg
    refine' K01.all_mk KX G hmg ?a_is_command ?l_is_command ?c_is_command ?k_is_command ?a_check_pipeline ?l_check_pipeline ?c_check_pipeline ?k_check_pipeline ?a_kept_range ?l_kept_range ?c_kept_range ?k_kept_range ?a_run ?l_run ?c_run ?k_run ?a__apply ?l__apply ?c__apply ?k__apply ?a__merged ?l__merged ?c__merged ?k__merged ?a__law_rng ?l__law_rng ?c__law_rng ?k__law_rng ?a__law_draw ?l__law_draw ?c__law_draw ?k__law_draw ?a__law_kinds ?l__law_kinds ?c__law_kinds ?k__law_kinds ?a__law_items ?l__law_items ?c__law_items ?k__law_items ?a__law_command ?l__law_command ?c__law_command ?k__law_command ?a__law_step ?l__law_step ?c__law_step ?k__law_step ?a__law_result ?l__law_result ?c__law_result ?k__law_result ?a_law ?l_law ?c_law ?k_law ?a_SLICING ?l_SLICING ?a_PLAIN ?l_PLAIN ?z_len ?z_enumerate ?z_min ?z_list ?z_set ?z_sorted ?z_abs ?z_range ?z_max ?z_repr ?z_int
    (case a_is_command => k_is)
    (case l_is_command => k_is)
    (case c_is_command => k_is)
    (case k_is_command => k_is)
    (case a_check_pipeline => k_is)
    (case l_check_pipeline => k_is)
    (case c_check_pipeline => k_is)
    (case k_check_pipeline => k_is)
    (case a_kept_range => k_is)
    (case l_kept_range => k_is)
    (case c_kept_range => k_is)
    (case k_kept_range => k_is)
    (case a_run => k_is)
    (case l_run => k_is)
    (case c_run => k_is)
    (case k_run => k_is)
    (case a__apply => k_is)
    (case l__apply => k_is)
    (case c__apply => k_is)
    (case k__apply => k_is)
    (case a__merged => k_is)
    (case l__merged => k_is)
    (case c__merged => k_is)
    (case k__merged => k_is)
    (case a__law_rng => k_is)
    (case l__law_rng => k_is)
    (case c__law_rng => k_is)
    (case k__law_rng => k_is)
    (case a__law_draw => k_is)
    (case l__law_draw => k_is)
    (case c__law_draw => k_is)
    (case k__law_draw => k_is)
    (case a__law_kinds => k_is)
    (case l__law_kinds => k_is)
    (case c__law_kinds => k_is)
    (case k__law_kinds => k_is)
    (case a__law_items => k_is)
    (case l__law_items => k_is)
    (case c__law_items => k_is)
    (case k__law_items => k_is)
    (case a__law_command => k_is)
    (case l__law_command => k_is)
    (case c__law_command => k_is)
    (case k__law_command => k_is)
    (case a__law_step => k_is)
    (case l__law_step => k_is)
    (case c__law_step => k_is)
    (case k__law_step => k_is)
    (case a__law_result => k_is)
    (case l__law_result => k_is)
    (case c__law_result => k_is)
    (case k__law_result => k_is)
    (case a_law => k_is)
    (case l_law => k_is)
    (case c_law => k_is)
    (case k_law => k_is)
    (case a_SLICING => k_is)
    (case l_SLICING => k_is)
    (case a_PLAIN => k_is)
    (case l_PLAIN => k_is)
    (case z_len => k_is)
    (case z_enumerate => k_is)
    (case z_min => k_is)
    (case z_list => k_is)
    (case z_set => k_is)
    (case z_sorted => k_is)
    (case z_abs => k_is)
    (case z_range => k_is)
    (case z_max => k_is)
    (case z_repr => k_is)
    (case z_int => k_is)
