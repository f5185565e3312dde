import PyProof.Rows.All
import Wide.All
import OpenK.AllK
import Wide.FinOn
import HandS.ForMost
import HandS.IsInst
import HandS.Star
import HandS.WideBits
import HandS.Style
import HandS.Wide
import HandS.Flow
import HandS.TupAny
import HandS.Zip
import KE.GoesNew
import KE.GoesMore
import KE.KDictCopyH
import KE.GoesEnumKw
import HandS.Conv
import HandS.ForExc
import HandS.ExcInit
import HandS.ExcField
import KE.KExcIs
import HandS.ExcIs
import HandS.Codes
import HandS.Deep
import KE.DataMinMax
import KE.KDictKeyed
import KE.KDictWalk
import HandS.DictComp
import KE.DataFind
import HandS.AnyAll
import HandS.EndTab
import PySem.Challenge.RW_sealround_k49_confirmed
set_option Elab.async false
set_option linter.all false
set_option maxRecDepth 100000
set_option maxHeartbeats 4000000
namespace Z
open PySem L2

/-! ## one heap and the next: all but what stands in A is kept, tuples and what is locked always, tables of code grow, nothing goes -/
class NTc (o : HO) : Prop where
  nt : ∀ ps, o ≠ .tbl ps
instance (xs : List V) : NTc (.lst xs) := ⟨fun _ h => nomatch h⟩
instance (xs : List V) : NTc (.tup xs) := ⟨fun _ h => nomatch h⟩
instance (o : Obj) (u : HO) : NTc (.frz o u) := ⟨fun _ h => nomatch h⟩
instance (C d : Addr) (fs : List (Str × V)) : NTc (.ins C d fs) := ⟨fun _ h => nomatch h⟩
instance (a : Addr) : NTc (.own a) := ⟨fun _ h => nomatch h⟩
instance (kvs : List (Key × V)) : NTc (.dK kvs) := ⟨fun _ h => nomatch h⟩
instance (kvs : List (List Key × V)) : NTc (.dT kvs) := ⟨fun _ h => nomatch h⟩
instance (S : Int → Bool) (n : Nat) : NTc (.set S n) := ⟨fun _ h => nomatch h⟩
instance (fs : List (Str × V)) : NTc (.xd fs) := ⟨fun _ h => nomatch h⟩
instance (f x : Addr) : NTc (.met f x) := ⟨fun _ h => nomatch h⟩
instance (a b : Int) : NTc (.rng a b) := ⟨fun _ h => nomatch h⟩
instance (φ : Heap → Prop) : NTc (.ext φ) := ⟨fun _ h => nomatch h⟩
structure Kp (A : List Addr) (H H' : Hp) : Prop where
  k : ∀ q o, q ∉ A → (∀ ps, o ≠ .tbl ps) → H q = some o → H' q = some o
  t : ∀ q xs, H q = some (.tup xs) → H' q = some (.tup xs)
  z : ∀ q o u, H q = some (.frz o u) → H' q = some (.frz o u)
  n : ∀ q, H' q = none → H q = none
  b : ∀ q, GxR.TabG H q → GxR.TabG H' q
theorem Kp.refl (A : List Addr) (H : Hp) : Kp A H H := ⟨fun _ _ _ _ h => h, fun _ _ h => h, fun _ _ _ h => h, fun _ h => h, fun _ h => h⟩
theorem Kp.tr {A B : List Addr} {H H1 H2 : Hp} (a : Kp A H H1) (b : Kp B H1 H2) (h : ∀ l ∈ B, l ∈ A ∨ H l = none) : Kp A H H2 :=
  ⟨fun q o hq nt e => b.k q o (fun m => (h q m).elim hq fun z => by rw [z] at e; cases e) nt (a.k q o hq nt e), fun q xs e => b.t q xs (a.t q xs e), fun q o u e => b.z q o u (a.z q o u e), fun q e => a.n q (b.n q e), fun q e => b.b q (a.b q e)⟩
theorem Kp.tr0 {A : List Addr} {H H1 H2 : Hp} (a : Kp A H H1) (b : Kp [] H1 H2) : Kp A H H2 := a.tr b fun _ m => nomatch m
theorem Kp.tr1 {A : List Addr} {l : Addr} {H H1 H2 : Hp} (a : Kp A H H1) (b : Kp [l] H1 H2) (h : l ∈ A ∨ H l = none) : Kp A H H2 := a.tr b fun q m => by
  have e : q = l := by simpa using m
  rw [e]; exact h
theorem Kp.there {A : List Addr} {H H' : Hp} {q : Addr} {o : HO} (a : Kp A H H') (h : H q = some o) : H' q ≠ none := fun e => by
  rw [a.n q e] at h; cases h
theorem Kp.wk {A B : List Addr} {H H' : Hp} (a : Kp A H H') (h : ∀ l ∈ A, l ∈ B) : Kp B H H' := ⟨fun q o hq nt e => a.k q o (fun m => hq (h q m)) nt e, a.t, a.z, a.n, a.b⟩
theorem tabG_ne {H : Hp} {p P : Addr} {o : HO} (h : H p = none) (g : GxR.TabG H P) : GxR.TabG (upd H p o) P := by
  obtain ⟨ps, e, t⟩ := g
  exact ⟨ps, by rw [upd_ne (ne_of_none e h)]; exact e, t⟩
theorem Kp.new {H : Hp} {p : Addr} {o : HO} (h : H p = none) : Kp [] H (upd H p o) := by
  have k : ∀ q u, H q = some u → upd H p o q = some u := fun q u e => by rw [upd_ne (ne_of_none e h)]; exact e
  refine ⟨fun q u _ _ e => k q u e, fun q xs e => k q _ e, fun q _ _ e => k q _ e, fun q e => ?_, fun q e => tabG_ne h e⟩
  cases hq : H q with
  | none => rfl
  | some u => rw [k q u hq] at e; cases e
/-- what may be changed -/
def Mu : HO → Bool
  | .tup _ => false
  | .frz _ _ => false
  | .tbl _ => false
  | _ => true
theorem Kp.set {H : Hp} {l : Addr} {o u : HO} (h : H l = some u) (m : Mu u = true) : Kp [l] H (upd H l o) := by
  refine ⟨fun q u' hq _ e => ?_, fun q xs e => ?_, fun q o' u' e => ?_, fun q e => ?_, fun q ⟨ps, e, t⟩ => ?_⟩
  · rw [upd_ne (by simpa using hq)]; exact e
  · have ne : q ≠ l := fun z => by
      rw [z, h] at e; cases e; cases m
    rw [upd_ne ne]; exact e
  · have ne : q ≠ l := fun z => by
      rw [z, h] at e; cases e; cases m
    rw [upd_ne ne]; exact e
  · by_cases z : q = l
    · rw [z, upd_same] at e; cases e
    · rw [upd_ne z] at e; exact e
  · have ne : q ≠ l := fun z => by
      rw [z, h] at e; cases e; cases m
    exact ⟨ps, by rw [upd_ne ne]; exact e, t⟩
/-- a table that has grown -/
theorem Kp.tab {H H' : Hp} {P : Addr} (g : GxR.TabG H P) (h : GxR.Tabbed P H H') : Kp [] H H' := by
  obtain ⟨ps, e, t⟩ := g
  obtain ⟨g', o⟩ := h
  have kk : ∀ q u, (∀ ps, u ≠ .tbl ps) → H q = some u → H' q = some u := fun q u nt hq => by
    have ne : q ≠ P := fun z => by rw [z, e] at hq; exact nt ps (Option.some.inj hq).symm
    rw [o q ne]; exact hq
  refine ⟨fun q u _ nt hq => kk q u nt hq, fun q xs hq => kk q _ (fun _ z => nomatch z) hq, fun q o' u hq => kk q _ (fun _ z => nomatch z) hq, fun q hq => ?_, fun q hq => ?_⟩
  · by_cases z : q = P
    · obtain ⟨ps', e', _⟩ := g'
      rw [z, e'] at hq; cases hq
    · rw [← o q z]; exact hq
  · by_cases z : q = P
    · rw [z]; exact g'
    · obtain ⟨ps', e', t'⟩ := hq
      exact ⟨ps', by rw [o q z]; exact e', t'⟩
theorem Kp.tup {K : PySem.W.Frag} {A : List Addr} {H H' : Hp} {p : Addr} {xs : List V} (a : Kp A H H') (h : SqT K H p xs) : SqT K H' p xs := by
  rcases h with (h | ⟨o, h⟩) | h
  · exact .inl (.inl (a.t _ _ h))
  · exact .inl (.inr ⟨o, a.z _ _ _ h⟩)
  · exact .inr h
theorem Kp.lst {K : PySem.W.Frag} {A : List Addr} {H H' : Hp} {p : Addr} {xs : List V} (a : Kp A H H') (np : p ∉ A) (h : SqL K H p xs) : SqL K H' p xs := by
  rcases h with (h | ⟨o, h⟩) | h
  · exact .inl (.inl (a.k _ _ np (fun _ z => nomatch z) h))
  · exact .inl (.inr ⟨o, a.z _ _ _ h⟩)
  · exact .inr h
theorem Kp.lst0 {K : PySem.W.Frag} {H H' : Hp} {p : Addr} {xs : List V} (a : Kp [] H H') (h : SqL K H p xs) : SqL K H' p xs := a.lst (by simp) h
theorem Kp.at {A : List Addr} {H H' : Hp} {p : Addr} {o : HO} (a : Kp A H H') (np : p ∉ A) (h : H p = .some o) [nt : NTc o] : H' p = .some o := a.k _ _ np nt.nt h
theorem Kp.at0 {H H' : Hp} {p : Addr} {o : HO} (a : Kp [] H H') (h : H p = .some o) [nt : NTc o] : H' p = .some o := a.k _ _ (by simp) nt.nt h
theorem Kp.at1 {H H' : Hp} {b p : Addr} {o : HO} (k : Kp [b] H H') (n : p ≠ b) (h : H p = .some o) [nt : NTc o] : H' p = .some o := k.at (by simpa using n) h
theorem Kp.lst1 {K : PySem.W.Frag} {H H' : Hp} {b p : Addr} {xs : List V} (k : Kp [b] H H') (n : p ≠ b) (h : SqL K H p xs) : SqL K H' p xs := k.lst (by simpa using n) h
theorem SqT.of' {K : PySem.W.Frag} {H : Hp} {p : Addr} {xs : List V} (h : H p = .some (.tup xs)) : SqT K H p xs := .inl (.inl h)
theorem SqL.of' {K : PySem.W.Frag} {H : Hp} {p : Addr} {xs : List V} (h : H p = .some (.lst xs)) : SqL K H p xs := .inl (.inl h)
/-- a list that nothing changes (the script) -/
theorem ne_lst {K : PySem.W.Frag} {H : Hp} {p l : Addr} {o u : HO} (h : H p = .some o) (h' : H l = .some u) (d : o ≠ u) : p ≠ l := ne_of h h' d

/-! ## names and slots, by syntax alone -/
inductive At : List Str → St → Str → V → Prop
  | z {x : Str} {N : List Str} {v : V} {σ : St} : At (x :: N) (some v :: σ) x v
  | s {x y : Str} {N : List Str} {o : Option V} {v : V} {σ : St} : At N σ x v → At (y :: N) (o :: σ) x v
inductive Put : List Str → St → Str → V → St → Prop
  | z {x : Str} {N : List Str} {o : Option V} {v : V} {σ : St} : Put (x :: N) (o :: σ) x v (some v :: σ)
  | s {x y : Str} {N : List Str} {o : Option V} {v : V} {σ σ' : St} : Put N σ x v σ' → Put (y :: N) (o :: σ) x v (o :: σ')
inductive Mem : List Str → Str → Prop
  | z {x : Str} {N : List Str} : Mem (x :: N) x
  | s {x y : Str} {N : List Str} : Mem N x → Mem (y :: N) x
theorem At.ix {N : List Str} {σ : St} {x : Str} {v : V} (h : At N σ x v) : ∃ i : Nat, N[i]? = some x ∧ σ[i]? = some (some v) := by
  induction h with
  | z => exact ⟨0, rfl, rfl⟩
  | s _ ih => obtain ⟨i, a, b⟩ := ih; exact ⟨i + 1, by simpa using a, by simpa using b⟩
theorem Put.ix {N : List Str} {σ σ' : St} {x : Str} {v : V} (h : Put N σ x v σ') : ∃ i : Nat, N[i]? = some x ∧ σ.set i (some v) = σ' := by
  induction h with
  | z => exact ⟨0, rfl, rfl⟩
  | s _ ih => obtain ⟨i, a, b⟩ := ih; exact ⟨i + 1, by simpa using a, by simp [b]⟩
theorem Mem.mem {N : List Str} {x : Str} (h : Mem N x) : x ∈ N := by
  induction h with
  | z => simp
  | s _ ih => simp [ih]

/-! ## a block's scope: the names that it may read, may store; what it reads of the module -/
def okC (sc : Scope) (Vs Ls G : List Str) : Bool := Vs.all (fun x => sc.names.lookup x == some .local || sc.names.lookup x == some .cell || sc.names.lookup x == some .free) && Ls.all (fun x => sc.names.lookup x == some .local || sc.names.lookup x == some .cell) && G.all (fun x => sc.names.lookup x == some .globalImplicit)
theorem kind_of_beq : ∀ (a b : Option NameKind), (a == b) = true → a = b := fun a b h => by
  cases a <;> cases b <;> first | rfl | cases h | skip
  rename_i a b; cases a <;> cases b <;> first | rfl | cases h
theorem okC.vis {sc : Scope} {Vs Ls G : List Str} (h : okC sc Vs Ls G = true) {x : Str} (hx : x ∈ Vs) : Vis sc x := by
  unfold okC at h
  simp only [Bool.and_eq_true, List.all_eq_true, Bool.or_eq_true] at h
  rcases h.1.1 x hx with (q | q) | q
  · exact .inl (kind_of_beq _ _ q)
  · exact .inr (.inl (kind_of_beq _ _ q))
  · exact .inr (.inr (kind_of_beq _ _ q))
theorem okC.loc {sc : Scope} {Vs Ls G : List Str} (h : okC sc Vs Ls G = true) {x : Str} (hx : x ∈ Ls) : Loc sc x := by
  unfold okC at h
  simp only [Bool.and_eq_true, List.all_eq_true, Bool.or_eq_true] at h
  exact (h.1.2 x hx).imp (kind_of_beq _ _) (kind_of_beq _ _)
theorem okC.gl {sc : Scope} {Vs Ls G : List Str} (h : okC sc Vs Ls G = true) {x : Str} (hx : x ∈ G) : sc.names.lookup x = some .globalImplicit := by
  unfold okC at h
  simp only [Bool.and_eq_true, List.all_eq_true, Bool.or_eq_true] at h
  exact kind_of_beq _ _ (h.2 x hx)

/-! ## the judgements: a piece of syntax from a state -/
section
inductive XE (X : Cx) (e : Expr) (σ : St) (H : Hp) (Q : VK) : Prop
  | mk (t : TE) (h : PE X e t) (q : t σ H Q)
inductive XT (X : Cx) (e : Expr) (σ : St) (H : Hp) (Q : Bool → Hp → Prop) : Prop
  | mk (t : TT) (h : PT X e t) (q : t σ H Q)
inductive XW (X : Cx) (e : Expr) (σ : St) (H : Hp) (Q : Bool → Hp → Prop) : Prop
  | mk (t : TT) (h : PW X e t) (q : t σ H Q)
inductive XA (X : Cx) (es : List Expr) (σ : St) (H : Hp) (Q : List V → Hp → Prop) : Prop
  | mk (t : TA) (h : PA X es t) (q : t σ H Q)
inductive XO (X : Cx) (e : Option Expr) (σ : St) (H : Hp) (Q : Option Int → Hp → Prop) : Prop
  | mk (t : TO) (h : PO X e t) (q : t σ H Q)
inductive XG (X : Cx) (e : Expr) (v : V) (σ : St) (H : Hp) (Q : St → Hp → Prop) : Prop
  | mk (t : TG) (h : PG X e t) (q : t v σ H Q)
inductive XGs (X : Cx) (es : List Expr) (v : List V) (σ : St) (H : Hp) (Q : St → Hp → Prop) : Prop
  | mk (t : TGs) (h : PGs X es t) (q : t v σ H Q)
inductive XI (X : Cx) (tg e : Expr) (σ : St) (H : Hp) (R : It → Hp → Prop) : Prop
  | mk (t : TI) (h : PI X tg e t) (q : t σ H R)
/-- what is wanted behind a return, a break, a continue -/
structure B3 where
  rt : VK
  bk : St → Hp → Prop
  ct : St → Hp → Prop
inductive XS (X : Cx) (s : Stmt) (nx : St → Hp → Prop) (D : B3) (σ : St) (H : Hp) : Prop
  | mk (t : TS) (h : PS X s t) (q : t ⟨nx, D.rt, D.bk, D.ct⟩ σ H)
inductive XB (X : Cx) (s : List Stmt) (nx : St → Hp → Prop) (D : B3) (σ : St) (H : Hp) : Prop
  | mk (t : TS) (h : PSs X s t) (q : t ⟨nx, D.rt, D.bk, D.ct⟩ σ H)
/-! by values -/
inductive VO (X : Cx) (f : Value → Value → Sem Value) (x y : V) (H : Hp) (Q : VK) : Prop
  | mk (r : R2) (h : OpR X f r) (q : r x y H Q)
inductive VU (X : Cx) (f : Value → Sem Value) (x : V) (H : Hp) (Q : VK) : Prop
  | mk (r : V → Hp → VK → Prop) (h : UnR X f r) (q : r x H Q)
inductive VC (X : Cx) (f : Value) (xs : List V) (H : Hp) (Q : VK) : Prop
  | mk (r : List V → Hp → VK → Prop) (h : CallR X f r) (q : r xs H Q)
inductive VX (X : Cx) (x y : V) (H : Hp) (Q : VK) : Prop
  | mk (r : R2) (h : IxR X r) (q : r x y H Q)
inductive VSl (X : Cx) (x : V) (a b : Option Int) (H : Hp) (Q : VK) : Prop
  | mk (r : V → Option Int → Option Int → Hp → VK → Prop) (h : SlR X r) (q : r x a b H Q)
inductive VM (X : Cx) (id : String) (x : V) (xs : List V) (H : Hp) (Q : VK) : Prop
  | mk (r : V → List V → Hp → VK → Prop) (h : MtR X id r) (q : r x xs H Q)
inductive VT (X : Cx) (x : V) (H : Hp) (Q : Bool → Hp → Prop) : Prop
  | mk (k : Bool) (h : TruV X.K x H k) (q : Q k H)
inductive VSt (X : Cx) (o i v : V) (H : Hp) (Q : Hp → Prop) : Prop
  | mk (r : TSet) (h : PSet X r) (q : r o i v H Q)
inductive VIp (X : Cx) (op : Operator) (x y : V) (H : Hp) (Q : VK) : Prop
  | mk (r : TIp) (h : PIp X op r) (q : r x y H Q)
theorem VT.ex {X : Cx} {x : V} {H : Hp} {Q : Bool → Hp → Prop} (h : VT X x H Q) : ∃ k, TruV X.K x H k ∧ Q k H := by
  obtain ⟨k, a, b⟩ := h
  exact ⟨k, a, b⟩
end
section
variable {X : Cx} {σ σ' : St} {H : Hp} {Q : VK} {e a b : Expr} {es : List Expr} {pos p1 p2 p3 : Pos}
theorem XE.pe : PE X e (XE X e) := ⟨fun pins s σ H Q I ⟨_, ht, q⟩ => ht.run pins s σ H Q I q⟩
theorem XT.pt : PT X e (XT X e) := ⟨fun pins s σ H Q I ⟨_, ht, q⟩ => ht.run pins s σ H Q I q⟩
theorem XW.pw : PW X e (XW X e) := ⟨fun wh pins s σ H Q I ⟨_, ht, q⟩ => ht.run wh pins s σ H Q I q⟩
theorem XA.pa : PA X es (XA X es) := ⟨fun pos pins s σ H Q I ⟨_, ht, q⟩ => ht.run pos pins s σ H Q I q⟩
theorem XO.po {e : Option Expr} : PO X e (XO X e) := ⟨fun pins s σ H Q I ⟨_, ht, q⟩ => ht.run pins s σ H Q I q⟩
theorem XG.pg : PG X e (XG X e) := ⟨fun pins s σ H v u Q I r ⟨_, ht, q⟩ => ht.run pins s σ H v u Q I r q⟩
theorem XGs.pgs : PGs X es (XGs X es) := ⟨fun pins s σ H v u Q I r ⟨_, ht, q⟩ => ht.run pins s σ H v u Q I r q⟩
theorem XI.pi {tg : Expr} : PI X tg e (XI X tg e) := ⟨fun pins s σ H R I ⟨_, ht, q⟩ => ht.run pins s σ H R I q⟩
/-- a statement's reading with the wish behind it fixed apart -/
theorem XS.ps {s : Stmt} : PS X s (fun D σ H => XS X s D.nx ⟨D.rt, D.bk, D.ct⟩ σ H) := ⟨fun pins s σ H D I ⟨_, ht, q⟩ => ht.run pins s σ H D I q⟩
theorem XB.ps {s : List Stmt} : PSs X s (fun D σ H => XB X s D.nx ⟨D.rt, D.bk, D.ct⟩ σ H) := ⟨fun pins s σ H D I ⟨_, ht, q⟩ => ht.run pins s σ H D I q⟩
theorem VO.ok {f : Value → Value → Sem Value} : OpR X f (VO X f) := fun pins s σ H x y v u Q I r1 r2 ⟨_, hr, q⟩ => hr pins s σ H x y v u Q I r1 r2 q
theorem VU.ok {f : Value → Sem Value} : UnR X f (VU X f) := fun pins s σ H x v Q I r1 ⟨_, hr, q⟩ => hr pins s σ H x v Q I r1 q
theorem VC.ok {f : Value} : CallR X f (VC X f) := fun pins s σ H x v Q I r1 ⟨_, hr, q⟩ => hr pins s σ H x v Q I r1 q
theorem VX.ok : IxR X (VX X) := fun v1 v2 pins s σ H x y v u Q I r1 r2 ⟨_, hr, q⟩ hs => hr v1 v2 pins s σ H x y v u Q I r1 r2 q hs
theorem VM.ok {id : String} : MtR X id (VM X id) := fun pins s σ H x xs v us Q I r1 r2 ⟨_, hr, q⟩ => hr pins s σ H x xs v us Q I r1 r2 q
theorem VSl.ok : SlR X (VSl X) := by
  intro pins s σ H x v vl vu lo hi sl Q I rx hs pl pu ⟨_, hr, q⟩
  exact hr pins s σ H x v vl vu lo hi sl Q I rx hs pl pu q
theorem VSt.ok : PSet X (VSt X) := fun pins s σ H o i v ov iv u Q I r1 r2 r3 ⟨_, hr, q⟩ => hr pins s σ H o i v ov iv u Q I r1 r2 r3 q
theorem VIp.ok {op : Operator} : PIp X op (VIp X op) := fun pins s σ H x y v u Q I r1 r2 ⟨_, hr, q⟩ => hr pins s σ H x y v u Q I r1 r2 q


/-! ## more is wanted than asked -/
theorem XE.mono {Q' : VK} (h : XE X e σ H Q) (m : ∀ v H', Q v H' → Q' v H') : XE X e σ H Q' := by
  obtain ⟨t, ht, q⟩ := h
  exact ⟨fun σ H R => ∃ R', t σ H R' ∧ ∀ v H', R' v H' → R v H', ⟨fun pins s σ H R I ⟨R', q, m⟩ => thn (ht.run pins s σ H R' I q) fun v s ⟨x, H', I', r, z⟩ => ⟨x, H', I', r, m _ _ z⟩⟩, Q, q, m⟩
theorem XT.mono {Q Q' : Bool → Hp → Prop} (h : XT X e σ H Q) (m : ∀ v H', Q v H' → Q' v H') : XT X e σ H Q' := by
  obtain ⟨t, ht, q⟩ := h
  exact ⟨fun σ H R => ∃ R', t σ H R' ∧ ∀ v H', R' v H' → R v H', ⟨fun pins s σ H R I ⟨R', q, m⟩ => thn (ht.run pins s σ H R' I q) fun v s ⟨H', I', z⟩ => ⟨H', I', m _ _ z⟩⟩, Q, q, m⟩
theorem XW.mono {Q Q' : Bool → Hp → Prop} (h : XW X e σ H Q) (m : ∀ v H', Q v H' → Q' v H') : XW X e σ H Q' := by
  obtain ⟨t, ht, q⟩ := h
  exact ⟨fun σ H R => ∃ R', t σ H R' ∧ ∀ v H', R' v H' → R v H', ⟨fun wh pins s σ H R I ⟨R', q, m⟩ => thn (ht.run wh pins s σ H R' I q) fun v s ⟨H', I', z⟩ => ⟨H', I', m _ _ z⟩⟩, Q, q, m⟩
theorem XA.mono {Q Q' : List V → Hp → Prop} (h : XA X es σ H Q) (m : ∀ v H', Q v H' → Q' v H') : XA X es σ H Q' := by
  obtain ⟨t, ht, q⟩ := h
  exact ⟨fun σ H R => ∃ R', t σ H R' ∧ ∀ v H', R' v H' → R v H', ⟨fun pos pins s σ H R I ⟨R', q, m⟩ => thn (ht.run pos pins s σ H R' I q) fun v s ⟨x, H', I', r, z⟩ => ⟨x, H', I', r, m _ _ z⟩⟩, Q, q, m⟩
theorem VO.mono {f : Value → Value → Sem Value} {x y : V} {Q' : VK} (h : VO X f x y H Q) (m : ∀ v H', Q v H' → Q' v H') : VO X f x y H Q' := by
  obtain ⟨t, ht, q⟩ := h
  exact ⟨fun x y H R => ∃ R', t x y H R' ∧ ∀ v H', R' v H' → R v H', fun pins s σ H x y v u R I rx ry ⟨R', q, m⟩ => thn (ht pins s σ H x y v u R' I rx ry q) fun v s ⟨x, H', I', r, z⟩ => ⟨x, H', I', r, m _ _ z⟩, Q, q, m⟩
theorem VC.mono {f : Value} {xs : List V} {Q' : VK} (h : VC X f xs H Q) (m : ∀ v H', Q v H' → Q' v H') : VC X f xs H Q' := by
  obtain ⟨t, ht, q⟩ := h
  exact ⟨fun xs H R => ∃ R', t xs H R' ∧ ∀ v H', R' v H' → R v H', fun pins s σ H x v R I rx ⟨R', q, m⟩ => thn (ht pins s σ H x v R' I rx q) fun v s ⟨x, H', I', r, z⟩ => ⟨x, H', I', r, m _ _ z⟩, Q, q, m⟩

/-! ## the context of a body -/
structure Ctx (X : Cx) (sc : Scope) (N Vs Ls G : List Str) (k : Nat) : Prop where
  hN : X.N = N
  nd : N.Nodup
  esc : X.env.scope = sc
  ok : okC sc Vs Ls G = true
  calm : X.calm = true
  fn : ∀ x ∈ Ls, X.fn x = true
  po : PassesOwn (model X.prog X.w) X.A X.env X.xe
  knd : sc.kind = .function
  room : Room k X.A
variable {N Vs Ls G : List Str} {k : Nat} {D : B3} {nx : St → Hp → Prop} {K : PySem.W.Frag} {sc : Scope}
theorem Ctx.vis (C : Ctx X sc N Vs Ls G k) {x : Str} (h : Mem Vs x) : Vis X.env.scope x := by rw [C.esc]; exact okC.vis C.ok h.mem
theorem Ctx.loc (C : Ctx X sc N Vs Ls G k) {x : Str} (h : Mem Ls x) : Loc X.env.scope x := by rw [C.esc]; exact okC.loc C.ok h.mem
theorem Ctx.gl (C : Ctx X sc N Vs Ls G k) {x : Str} (h : Mem G x) : Gl X x := by
  show X.env.scope.names.lookup x = _
  rw [C.esc]; exact okC.gl C.ok h.mem
theorem Ctx.hu (C : Ctx X sc N Vs Ls G k) : X.A.units + 1 < cLine := hu_of C.room

/-! ## expressions -/
/-- a name: hd, hcd by decide -/
theorem xe_var {x : Str} {v : V} (C : Ctx X sc N Vs Ls G k) (hv : Mem Vs x) (h : At N σ x v) (q : Q v H)
    (hd : (x == ("__debug__" : Str)) = false := by decide) (hcd : (x == ("__classdict__" : Str)) = false := by decide) : XE X (.Name x pos) σ H Q := by
  obtain ⟨i, h1, h2⟩ := h.ix
  exact ⟨_, pe_var (i := i) (by rw [C.hN]; exact h1) (C.vis hv) hd hcd, v, h2, q⟩
theorem xe_int {i : Int} {j : Nat} (q : Q (.int i) H) : XE X (.Constant (.int i) j pos) σ H Q := ⟨_, pe_int, q⟩
theorem xe_bl {i : Bool} {j : Nat} (q : Q (.bl i) H) : XE X (.Constant (.bool i) j pos) σ H Q := ⟨_, pe_bl, q⟩
theorem xe_non {j : Nat} (q : Q .non H) : XE X (.Constant .none j pos) σ H Q := ⟨_, pe_non, q⟩
theorem xe_str {i : Str} {j : Nat} (q : Q (.str i) H) : XE X (.Constant (.str i) j pos) σ H Q := ⟨_, pe_str, q⟩
theorem xe_glob {x : Str} {v : V} {u : Value} (C : Ctx X sc N Vs Ls G k) (hg : Mem G x) (hm : X.mg x = some u) (r : RelV v u) (q : Q v H) (hd : (x == ("__debug__" : Str)) = false := by decide) : XE X (.Name x pos) σ H Q := ⟨_, pe_glob (C.gl hg) hm r hd, q⟩
theorem xe_bin {op : Operator} (h : XE X a σ H fun x H1 => XE X b σ H1 fun y H2 => VO X (binaryOp op) x y H2 Q) : XE X (.BinOp a op b pos) σ H Q := ⟨_, pe_op VO.ok XE.pe XE.pe, h⟩
theorem xe_un {op : UnaryOp} (h : XE X a σ H fun x H1 => VU X (unaryOp op) x H1 Q) : XE X (.UnaryOp op a pos) σ H Q := ⟨_, pe_un VU.ok XE.pe, h⟩
theorem xe_not (h : XE X a σ H fun v H1 => VT X v H1 fun c H2 => Q (.bl (!c)) H2) : XE X (.UnaryOp .Not a pos) σ H Q := ⟨_, pe_notT XE.pe, h.mono fun _ _ z => z.ex⟩
theorem xe_and {rest : List Expr} (h : XE X a σ H fun v H1 => VT X v H1 fun k H1 => if k = true then XE X (.BoolOp .And (b :: rest) pos) σ H1 Q else Q v H1) : XE X (.BoolOp .And (a :: b :: rest) pos) σ H Q := ⟨_, pe_andT XE.pe XE.pe, h.mono fun _ _ z => z.ex⟩
theorem xe_or {rest : List Expr} (h : XE X a σ H fun v H1 => VT X v H1 fun k H1 => if k = true then Q v H1 else XE X (.BoolOp .Or (b :: rest) pos) σ H1 Q) : XE X (.BoolOp .Or (a :: b :: rest) pos) σ H Q := ⟨_, pe_orT XE.pe XE.pe, h.mono fun _ _ z => z.ex⟩
theorem xe_one {op : BoolOp} (h : XE X a σ H Q) : XE X (.BoolOp op [a] pos) σ H Q := ⟨_, pe_one XE.pe, h⟩
theorem xe_cmp {op : CmpOp} (h : XE X a σ H fun x H1 => XE X b σ H1 fun y H2 => VO X (compareOp op) x y H2 Q) (hm : behindInMarks op b = false := by rfl) : XE X (.Compare a [op] [b] pos) σ H Q := ⟨_, pe_cmpR VO.ok XE.pe XE.pe hm, h⟩
theorem xe_chain {op op' : CmpOp} {c : Expr} (h : XE X a σ H fun x H1 => XE X b σ H1 fun y H2 => VO X (compareOp op) x y H2 fun z H3 => ∃ k, z = .bl k ∧
    if k = true then XE X c σ H3 (fun y' H4 => VO X (compareOp op') y y' H4 Q) else Q (.bl false) H3) (hm : lastMarks [op, op'] [b, c] = false := by with_unfolding_all rfl) : XE X (.Compare a [op, op'] [b, c] pos) σ H Q := ⟨_, pe_chain VO.ok VO.ok XE.pe XE.pe XE.pe hm, h⟩
theorem xe_ifExp {c : Expr} (h : XT X c σ H fun k H1 => if k = true then XE X a σ H1 Q else XE X b σ H1 Q) : XE X (.IfExp c a b pos) σ H Q := ⟨_, pe_ifExp XT.pt XE.pe XE.pe, h⟩
theorem xe_ix (h : XE X a σ H fun x H1 => XE X b σ H1 fun y H2 => VX X x y H2 Q) (hs : PlainIx b := by exact fun _ _ => rfl) : XE X (.Subscript a b pos) σ H Q := ⟨_, pe_ix VX.ok XE.pe XE.pe hs, h⟩
theorem xe_sl {lo hi : Option Expr} (h : XE X a σ H fun x H1 => XO X lo σ H1 fun l H2 => XO X hi σ H2 fun u H3 => VSl X x l u H3 Q) : XE X (.Subscript a (.Slice lo hi none p2) pos) σ H Q := ⟨_, pe_slice VSl.ok XE.pe XO.po XO.po, h⟩
theorem xo_none {R : Option Int → Hp → Prop} (h : R none H) : XO X none σ H R := ⟨_, po_none, h⟩
theorem xo_some {R : Option Int → Hp → Prop} (h : XE X a σ H fun x H1 => ∃ i, x = .int i ∧ R (some i) H1) : XO X (some a) σ H R := ⟨_, po_some XE.pe, h⟩
theorem xa_nil {R : List V → Hp → Prop} (h : R [] H) : XA X [] σ H R := ⟨_, pa_nil, h⟩
theorem xa_cons {R : List V → Hp → Prop} (h : XE X a σ H fun x H1 => XA X es σ H1 fun xs H2 => R (x :: xs) H2) (hs : starEach (a :: es) X.env = (false, eval a X.env) :: starEach es X.env := by rfl) : XA X (a :: es) σ H R := ⟨_, pa_cons XE.pe XA.pa hs, h⟩
theorem xa_star {R : List V → Hp → Prop} (h : XE X a σ H fun x H1 => ∃ p xs, x = .ref p ∧ (SqT X.K H1 p xs ∨ SqL X.K H1 p xs) ∧ XA X es σ H1 fun ys H2 => R (xs ++ ys) H2) (hs : starEach (.Starred a p2 :: es) X.env = (true, eval a X.env) :: starEach es X.env := by rfl) : XA X (.Starred a p2 :: es) σ H R := ⟨_, StX.pa_star XE.pe XA.pa hs, h⟩

/-- a new object -/
theorem new_ {H : Hp} {o : HO} {R : Addr → Hp → Prop} (h : ∀ p H', Kp [] H H' → H p = none → H' p = some o → R p H') (p : Addr) (hp : H p = none) : R p (upd H p o) := h p _ (Kp.new hp) hp upd_same
/-- a new tuple, wanted by what it holds alone -/
theorem newT {K : PySem.W.Frag} {H : Hp} {xs : List V} {R : V → Hp → Prop} (h : ∀ p H', Kp [] H H' → SqT K H' p xs → R (.ref p) H') (p : Addr) (hp : H p = none) : R (.ref p) (upd H p (.tup xs)) := h p _ (Kp.new hp) (.inl (.inl upd_same))
theorem xe_tup {j : Nat} (h : XA X es σ H fun vs H1 => vs.length ≤ sizeLine ∧ ∀ p H', Kp [] H1 H' → SqT X.K H' p vs → H' p = some (.tup vs) → Q (.ref p) H') : XE X (.Tuple es j pos) σ H Q :=
  ⟨_, pe_tup XA.pa, h.mono fun _ _ ⟨a, b⟩ => ⟨a, fun p hp => b p _ (Kp.new hp) (.inl (.inl upd_same)) upd_same⟩⟩
theorem xe_lst (h : XA X es σ H fun vs H1 => vs.length ≤ sizeLine ∧ ∀ p H', Kp [] H1 H' → H1 p = none → H' p = some (.lst vs) → Q (.ref p) H') : XE X (.List es pos) σ H Q :=
  ⟨_, pe_lst XA.pa, h.mono fun _ _ ⟨a, b⟩ => ⟨a, new_ b⟩⟩

/-! ## tests -/
variable {R : Bool → Hp → Prop}
theorem xt_val (h : XE X e σ H fun v H1 => VT X v H1 R) (he : ∀ whole, isTrue e X.env whole = (do let v ← whole; standAt e.pos; holding [v] (truthy v)) := by intro _; rfl) : XT X e σ H R := ⟨_, pt_truth XE.pe he, h.mono fun _ _ z => z.ex⟩
theorem xt_cmp {op : CmpOp} (h : XE X a σ H fun x H1 => XE X b σ H1 fun y H2 => VO X (compareOp op) x y H2 fun z H3 => ∃ k, z = .bl k ∧ R k H3) (hm : behindInMarks op b = false := by rfl) : XT X (.Compare a [op] [b] pos) σ H R := ⟨_, pt_cmpR VO.ok XE.pe XE.pe hm, h⟩
theorem xt_chain {op op' : CmpOp} {c : Expr} (h : XE X a σ H fun x H1 => XE X b σ H1 fun y H2 => VO X (compareOp op) x y H2 fun z H3 => ∃ k, z = .bl k ∧
    if k = true then XE X c σ H3 (fun y' H4 => VO X (compareOp op') y y' H4 fun z' H5 => ∃ k', z' = .bl k' ∧ R k' H5) else R false H3) (hm : lastMarks [op, op'] [b, c] = false := by with_unfolding_all rfl) : XT X (.Compare a [op, op'] [b, c] pos) σ H R := by
  refine ⟨_, pt_chain VO.ok VO.ok XE.pe XE.pe XE.pe hm, XE.mono h fun x H1 h => XE.mono h fun y H2 h => VO.mono h fun z H3 ⟨k, e, h⟩ => ⟨k, e, ?_⟩⟩
  cases k with
  | true => exact h
  | false => exact ⟨false, rfl, h⟩
theorem xt_not (h : XT X a σ H fun c H1 => R (!c) H1) : XT X (.UnaryOp .Not a pos) σ H R := ⟨_, pt_not XT.pt, h⟩
theorem xt_bool {op : BoolOp} {es : List Expr} (h : XW X (.BoolOp op es pos) σ H R) : XT X (.BoolOp op es pos) σ H R := ⟨_, XW.pw.pt, h⟩
theorem xw_and {rest : List Expr} (h : XT X a σ H fun c H1 => if c = true then XW X (.BoolOp .And (b :: rest) pos) σ H1 R else R false H1) : XW X (.BoolOp .And (a :: b :: rest) pos) σ H R := ⟨_, pw_and XT.pt XW.pw, h⟩
theorem xw_and1 (h : XT X a σ H R) : XW X (.BoolOp .And [a] pos) σ H R := ⟨_, pw_and1 XT.pt, h⟩
theorem xw_or {rest : List Expr} (h : XT X a σ H fun c H1 => if c = true then R true H1 else XW X (.BoolOp .Or (b :: rest) pos) σ H1 R) : XW X (.BoolOp .Or (a :: b :: rest) pos) σ H R := ⟨_, pw_or XT.pt XW.pw, h⟩
theorem xw_or1 (h : XT X a σ H R) : XW X (.BoolOp .Or [a] pos) σ H R := ⟨_, pw_or1 XT.pt, h⟩

/-! ## values: operators, tests, calls -/
variable {i j : Int} {p q : Addr} {xs ys : List V} {v : V}
theorem vo_add (h : Q (.int (i + j)) H) : VO X (binaryOp .Add) (.int i) (.int j) H Q := ⟨_, op_add, i, j, rfl, rfl, h⟩
theorem vo_sub (h : Q (.int (i - j)) H) : VO X (binaryOp .Sub) (.int i) (.int j) H Q := ⟨_, op_sub, i, j, rfl, rfl, h⟩
theorem vo_mul (c : CMul i j) (h : Q (.int (i * j)) H) : VO X (binaryOp .Mult) (.int i) (.int j) H Q := ⟨_, op_mul, i, j, rfl, rfl, c, h⟩
theorem vo_mulX (c : CMulX i j) (h : Q (.int (i * j)) H) : VO X (binaryOp .Mult) (.int i) (.int j) H Q := ⟨_, op_mulX, i, j, rfl, rfl, c, h⟩
theorem vo_fdiv (c : CDiv i j) (h : Q (.int (i / j)) H) : VO X (binaryOp .FloorDiv) (.int i) (.int j) H Q := ⟨_, op_fdiv, i, j, rfl, rfl, c, h⟩
theorem vo_mod (c : 0 < j) (h : Q (.int (i % j)) H) : VO X (binaryOp .Mod) (.int i) (.int j) H Q := ⟨_, op_mod, i, j, rfl, rfl, c, h⟩
theorem vo_pow (c : CPow i j) (h : Q (.int (i ^ j.toNat)) H) : VO X (binaryOp .Pow) (.int i) (.int j) H Q := ⟨_, op_pow, i, j, rfl, rfl, c, h⟩
theorem vo_shl (c : CPow i j) (h : Q (.int (i * 2 ^ j.toNat)) H) : VO X (binaryOp .LShift) (.int i) (.int j) H Q := ⟨_, op_shl, i, j, rfl, rfl, c, h⟩
theorem vo_and (h : Q (.int (Builtin.bitAnd i j)) H) : VO X (binaryOp .BitAnd) (.int i) (.int j) H Q := ⟨_, op_and, i, j, rfl, rfl, h⟩
theorem vo_lt (h : Q (.bl (decide (i < j))) H) : VO X (compareOp .Lt) (.int i) (.int j) H Q := ⟨_, op_lt, i, j, rfl, rfl, h⟩
theorem vo_le (h : Q (.bl (decide (i ≤ j))) H) : VO X (compareOp .LtE) (.int i) (.int j) H Q := ⟨_, op_le, i, j, rfl, rfl, h⟩
theorem vo_gt (h : Q (.bl (decide (j < i))) H) : VO X (compareOp .Gt) (.int i) (.int j) H Q := ⟨_, op_gt, i, j, rfl, rfl, h⟩
theorem vo_ge (h : Q (.bl (decide (j ≤ i))) H) : VO X (compareOp .GtE) (.int i) (.int j) H Q := ⟨_, op_ge, i, j, rfl, rfl, h⟩
theorem vo_eq (h : Q (.bl (decide (i = j))) H) : VO X (compareOp .Eq) (.int i) (.int j) H Q := by
  refine ⟨_, op_eq, rfl, ?_⟩
  have e : decide (V.int i = V.int j) = decide (i = j) := by by_cases e : i = j <;> simp [e]
  rw [e]; exact h
theorem vo_ne (h : Q (.bl (!decide (i = j))) H) : VO X (compareOp .NotEq) (.int i) (.int j) H Q := by
  refine ⟨_, op_ne, rfl, ?_⟩
  have e : decide (V.int i = V.int j) = decide (i = j) := by by_cases e : i = j <;> simp [e]
  rw [e]; exact h
theorem vo_eqB {i j : Bool} (h : Q (.bl (i == j)) H) : VO X (compareOp .Eq) (.bl i) (.bl j) H Q := ⟨_, op_eq, rfl, by rw [dec_bl]; exact h⟩
theorem vo_neB {i j : Bool} (h : Q (.bl (!(i == j))) H) : VO X (compareOp .NotEq) (.bl i) (.bl j) H Q := ⟨_, op_ne, rfl, by rw [dec_bl]; exact h⟩
theorem vo_isB {i j : Bool} (h : Q (.bl (decide (i = j))) H) : VO X (compareOp .Is) (.bl i) (.bl j) H Q := ⟨_, op_isBl, i, j, rfl, rfl, h⟩
theorem vo_notB {i j : Bool} (h : Q (.bl (!decide (i = j))) H) : VO X (compareOp .IsNot) (.bl i) (.bl j) H Q := ⟨_, op_notBl, i, j, rfl, rfl, h⟩
theorem vo_isN (h : Q (.bl (decide (v = .non))) H) : VO X (compareOp .Is) v .non H Q := ⟨_, op_isN, rfl, h⟩
theorem vo_notN (h : Q (.bl (!decide (v = .non))) H) : VO X (compareOp .IsNot) v .non H Q := ⟨_, op_notN, rfl, h⟩
theorem vo_catT (hx : SqT X.K H p xs) (hy : SqT X.K H q ys) (hz : xs.length + ys.length ≤ sizeLine) (h : ∀ r H', Kp [] H H' → SqT X.K H' r (xs ++ ys) → Q (.ref r) H') : VO X (binaryOp .Add) (.ref p) (.ref q) H Q := by
  refine ⟨_, op_catA, p, q, xs, ys, rfl, rfl, hx, hy, hz, fun e => ?_, fun _ e => ?_, fun _ _ r hr => h r _ (Kp.new hr) (.inl (.inl upd_same))⟩
  · subst e; exact h q H (Kp.refl _ _) hy
  · subst e; exact h p H (Kp.refl _ _) (by simpa using hx)
theorem vo_catL (hx : H p = some (.lst xs)) (hy : H q = some (.lst ys)) (hz : xs.length + ys.length ≤ sizeLine) (h : ∀ r H', Kp [] H H' → H r = none → H' r = some (.lst (xs ++ ys)) → Q (.ref r) H') : VO X (binaryOp .Add) (.ref p) (.ref q) H Q :=
  ⟨_, op_cat, p, q, xs, ys, rfl, rfl, hx, hy, hz, new_ h⟩
theorem vu_neg (h : Q (.int (-i)) H) : VU X (unaryOp .USub) (.int i) H Q := ⟨_, un_neg, i, rfl, h⟩
theorem vx_tup (hx : SqT X.K H p xs) (hi : atI xs i = some v) (h : Q v H) : VX X (.ref p) (.int i) H Q := ⟨_, ix_tup, p, xs, i, v, rfl, rfl, hx, hi, h⟩
theorem vx_lst (hx : SqL X.K H p xs) (hi : atI xs i = some v) (h : Q v H) : VX X (.ref p) (.int i) H Q := ⟨_, ix_list, p, xs, i, v, rfl, rfl, hx, hi, h⟩
theorem vsl_tup {lo hi : Option Int} (hx : SqT X.K H p xs) (h : ∀ r H', Kp [] H H' → SqT X.K H' r (cutV xs lo hi) → Q (.ref r) H') : VSl X (.ref p) lo hi H Q := by
  refine ⟨_, sl_tupA, p, xs, rfl, hx, fun e => ?_, fun _ r hr => h r _ (Kp.new hr) (.inl (.inl upd_same))⟩
  refine h p H (Kp.refl _ _) ?_
  have e2 : cutV xs lo hi = xs := by unfold cutV; rw [e.1, e.2]; simp
  rw [e2]; exact hx
theorem vsl_lst {lo hi : Option Int} (hx : SqL X.K H p xs) (h : ∀ r H', Kp [] H H' → H r = none → H' r = some (.lst (cutV xs lo hi)) → Q (.ref r) H') : VSl X (.ref p) lo hi H Q := ⟨_, sl_list, p, xs, rfl, hx, new_ h⟩
theorem vt_bl {c : Bool} (h : R c H) : VT X (.bl c) H R := ⟨c, rfl, h⟩
theorem vt_int (h : R (i != 0) H) : VT X (.int i) H R := ⟨_, rfl, h⟩
theorem vt_tup (hx : SqT X.K H p xs) (h : R (!xs.isEmpty) H) : VT X (.ref p) H R := ⟨_, .inr (.inl ⟨xs, hx, rfl⟩), h⟩
theorem vt_lst (hx : SqL X.K H p xs) (h : R (!xs.isEmpty) H) : VT X (.ref p) H R := ⟨_, .inl ⟨xs, hx, rfl⟩, h⟩
theorem vc_lenT (hx : SqT X.K H p xs) (h : Q (.int xs.length) H) : VC X (.builtin "len") [.ref p] H Q := ⟨_, call_len_seq, p, xs, rfl, .inr hx, h⟩
theorem vc_lenL (hx : SqL X.K H p xs) (h : Q (.int xs.length) H) : VC X (.builtin "len") [.ref p] H Q := ⟨_, call_len_seq, p, xs, rfl, .inl hx, h⟩
theorem vc_int (h : Q (.int i) H) : VC X (.type "int") [.int i] H Q := ⟨_, call_int1, .inl ⟨i, rfl, h⟩⟩
theorem vc_intB {c : Bool} (h : Q (.int (if c then 1 else 0)) H) : VC X (.type "int") [.bl c] H Q := ⟨_, call_int1, .inr ⟨c, rfl, h⟩⟩
theorem vc_abs (h : Q (.int (if i < 0 then -i else i)) H) : VC X (.builtin "abs") [.int i] H Q := ⟨_, call_abs, i, rfl, h⟩
theorem vc_listT (hx : SqT X.K H p xs) (h : ∀ r H', Kp [] H H' → H r = none → H' r = some (.lst xs) → Q (.ref r) H') : VC X (.type "list") [.ref p] H Q := ⟨_, call_list_of, p, xs, rfl, .inr hx, new_ h⟩
theorem vc_listL (hx : SqL X.K H p xs) (h : ∀ r H', Kp [] H H' → H r = none → H' r = some (.lst xs) → Q (.ref r) H') : VC X (.type "list") [.ref p] H Q := ⟨_, call_list_of, p, xs, rfl, .inl hx, new_ h⟩
theorem vc_tupL (hx : SqL X.K H p xs) (h : ∀ r H', Kp [] H H' → SqT X.K H' r xs → Q (.ref r) H') : VC X (.type "tuple") [.ref p] H Q := ⟨_, call_tuple_of, p, xs, rfl, .inl ⟨hx, newT h⟩⟩
theorem vc_isi {x : V} {t c : String} {u : Bool} (ht : TyX X.K H x (.type t)) (hk : kitB t c = some u) (h : Q (.bl u) H) : VC X (.builtin "isinstance") [x, .ty c] H Q := ⟨_, call_isi, x, .ty c, .type t, .type c, u, rfl, .ty c, ht, kit_ty hk, h⟩

/-! ## calls -/
/-- a def of the module and its promise -/
structure DefOk (P : Program) (w : World) (K : PySem.W.Frag) (mg : Str → Option Value) (base : Heap) (x : Str) (ps : List Str) (k : Nat) (sp : Sp) : Prop where
  ex : ∃ f fd, FnOk P w K mg base CX0 k f fd ps sp ∧ mg x = some (.ref f) ∧ PySem.W.keepIn K (.ref f) = true ∧ Binds K fd ps []
variable {x : Str} {ps : List Str} {k' : Nat} {sp : Sp}
theorem xe_call (C : Ctx X sc N Vs Ls G k) (F : DefOk X.prog X.w X.K X.mg X.base x ps k' sp) (hg : Mem G x) (hk : k' ≤ k) (h : XA X (a :: es) σ H fun vs H1 => sp vs H1 Q E0)
    (hdb : (x == ("__debug__" : Str)) = false := by decide) (he : starEach (a :: es) X.env = (false, eval a X.env) :: starEach es X.env := by rfl) (hpl : (backTo pos (starEach es X.env)).any (·.1) = false := by rfl) : XE X (.Call (.Name x p1) (a :: es) [] pos) σ H Q := by
  obtain ⟨f, fd, F, hm, kp, b⟩ := F.ex
  exact ⟨_, pe_call F (C.room.mono hk) (C.gl hg) hm kp b .nil pass0 XA.pa hdb he hpl, by
    refine XA.mono h fun vs H1 q => ?_
    rw [List.append_nil]; exact q⟩
theorem xe_callB {id : String} (C : Ctx X sc N Vs Ls G k) (hg : Mem G x) (hm : X.mg x = none) (hv : bootBuiltins x = some (.builtin id)) (h : XA X (a :: es) σ H fun vs H1 => VC X (.builtin id) vs H1 Q)
    (hn : x ≠ "__name__" := by decide) (hdb : (x == ("__debug__" : Str)) = false := by decide) (he : starEach (a :: es) X.env = (false, eval a X.env) :: starEach es X.env := by rfl) (hpl : (backTo pos (starEach es X.env)).any (·.1) = false := by rfl) :
    XE X (.Call (.Name x p1) (a :: es) [] pos) σ H Q := ⟨_, pe_callB VC.ok (C.gl hg) hm hv XA.pa hn hdb he hpl, h⟩
theorem xe_callTy {id : String} (C : Ctx X sc N Vs Ls G k) (hg : Mem G x) (hm : X.mg x = none) (hv : bootBuiltins x = some (.type id)) (h : XA X (a :: es) σ H fun vs H1 => VC X (.type id) vs H1 Q)
    (hn : x ≠ "__name__" := by decide) (hdb : (x == ("__debug__" : Str)) = false := by decide) (he : starEach (a :: es) X.env = (false, eval a X.env) :: starEach es X.env := by rfl) (hpl : (backTo pos (starEach es X.env)).any (·.1) = false := by rfl) :
    XE X (.Call (.Name x p1) (a :: es) [] pos) σ H Q := ⟨_, pe_callTy VC.ok (C.gl hg) hm hv XA.pa hn hdb he hpl, h⟩
/-- a built-in type's name as a value -/
theorem xe_ty {id : String} (C : Ctx X sc N Vs Ls G k) (hg : Mem G x) (hm : X.mg x = none) (hv : bootBuiltins x = some (.type id)) (h : Q (.ty id) H) (hn : x ≠ "__name__" := by decide) (hdb : (x == ("__debug__" : Str)) = false := by decide) : XE X (.Name x pos) σ H Q :=
  ⟨_, pe_bltn (v := .ty id) (C.gl hg) hm hv rfl hn hdb, h⟩
/-- n.bit_length() -/
theorem xe_bits {apos : Pos} (h : XE X a σ H fun y H1 => ∃ i, y = .int i ∧ Q (.int (Builtin.Int.intBits i : Nat)) H1) (hbase : attributeBase a "bit_length" X.env (eval a X.env) = eval a X.env := by rfl) (hline : (apos.endLine == pos.line) = true := by rfl) :
    XE X (.Call (.Attribute a "bit_length" apos) [] [] pos) σ H Q := ⟨_, pe_bits XE.pe hbase hline, h⟩
/-- o.f -/
theorem xe_fld {f : Str} (h : XE X a σ H fun y H1 => ∃ p C dx fs v, y = .ref p ∧ H1 p = some (.ins C dx fs) ∧ Cls X.K C ∧ NoAttr X.K C f ∧ fs.lookup f = some v ∧ Q v H1) (hb : attributeBase a f X.env (eval a X.env) = eval a X.env := by rfl) : XE X (.Attribute a f pos) σ H Q :=
  ⟨_, pe_fld XE.pe hb, h⟩
/-- xs.append(y) -/
theorem xe_append {apos : Pos} (h : XE X a σ H fun y H1 => ∃ l xs, y = .ref l ∧ H1 l = some (.lst xs) ∧ XE X b σ H1 fun z H2 => H2 l = some (.lst xs) ∧ xs.length < sizeLine ∧ ∀ H', Kp [l] H2 H' → H' l = some (.lst (xs ++ [z])) → Q .non H')
    (hbase : attributeBase a "append" X.env (eval a X.env) = eval a X.env := by rfl) (hs : starEach (b :: []) X.env = (false, eval b X.env) :: starEach [] X.env := by rfl) (hline : (apos.endLine == pos.line) = true := by rfl)
    (hfew : ((backTo pos (starEach [b] X.env)).all (fun x => !x.1) && (backToKw pos (keywordEach [] X.env)).all (fun x => x.1.isSome) && decide (([b] : List Expr).length + ([] : List Keyword).length + (if ([] : List Keyword).isEmpty then 0 else 1) < 30)) = true := by rfl)
    : XE X (.Call (.Attribute a "append" apos) [b] [] pos) σ H Q := by
  refine ⟨_, pe_bm PySem.F.plainAttrs_list PySem.F.slot_list_append PySem.F.type_list_append mt_append XE.pe XA.pa hbase hfew hline hs, ?_⟩
  refine XE.mono h fun y H1 ⟨l, xs, e, hl, q⟩ => ?_
  subst e
  refine ⟨.inl ⟨rfl, xs, .inl (.inl hl)⟩, xa_cons (hs := hs) (XE.mono q fun z H2 ⟨hl2, hz, q⟩ => xa_nil ?_)⟩
  exact ⟨l, xs, z, rfl, rfl, hl2, hz, q _ (Kp.set hl2 rfl) upd_same⟩

/-! ## statements -/
variable {s : Stmt} {sts sts' : List Stmt}
theorem xb_nil (h : nx σ H) : XB X [] nx D σ H := ⟨_, pss_nil, h⟩
theorem xb_cons (h : XS X s (fun σ' H' => XB X sts nx D σ' H') D σ H) : XB X (s :: sts) nx D σ H := ⟨_, pss_cons XS.ps XB.ps, h⟩
theorem xs_pass (h : nx σ H) : XS X (.Pass pos) nx D σ H := ⟨_, ps_pass, h⟩
theorem xs_break (h : D.bk σ H) : XS X (.Break pos) nx D σ H := ⟨_, ps_break, h⟩
theorem xs_cont (h : D.ct σ H) : XS X (.Continue pos) nx D σ H := ⟨_, ps_continue, h⟩
theorem xs_expr (h : XE X e σ H fun _ H1 => nx σ H1) (hs : swapsWith e none pos.line X.env = pure false := by rfl) : XS X (.Expr e pos) nx D σ H := ⟨_, ps_expr XE.pe hs, h⟩
theorem xs_ret (h : XE X e σ H D.rt) : XS X (.Return (some e) pos) nx D σ H := ⟨_, ps_ret XE.pe, h⟩
theorem xs_retN (h : D.rt .non H) : XS X (.Return none pos) nx D σ H := ⟨_, ps_retN, h⟩
theorem xs_if {c : Expr} (h : XT X c σ H fun k H1 => if k = true then XB X sts nx D σ H1 else XB X sts' nx D σ H1) : XS X (.If c sts sts' pos) nx D σ H := ⟨_, ps_if XT.pt XB.ps XB.ps, h⟩
theorem xs_set (C : Ctx X sc N Vs Ls G k) (h : XE X e σ H fun v H1 => ∃ σ', Put N σ x v σ' ∧ nx σ' H1) (hs : swapsWith e (some (.Name x p1)) pos.line X.env = pure false := by rfl) (hx : Mem N x) (hl : Mem Ls x) : XS X (.Assign [.Name x p1] e pos) nx D σ H := by
  have hx' := hx.mem
  obtain ⟨i, hi⟩ := List.getElem?_of_mem hx'
  refine ⟨_, ps_set (i := i) (by rw [C.hN]; exact C.nd) (by rw [C.hN]; exact hi) (C.loc hl) XE.pe hs (.inl (C.fn x hl.mem)), ?_⟩
  refine XE.mono h fun v H1 ⟨σ', hp, q⟩ => ?_
  obtain ⟨j, hj, e⟩ := hp.ix
  have ij : i = j := nd_ix C.nd hi hj
  subst ij
  show nx (σ.set i (some v)) H1
  rw [e]; exact q
theorem xg_name (C : Ctx X sc N Vs Ls G k) {v : V} {Q : St → Hp → Prop} (hx : Mem N x) (hl : Mem Ls x) (h : ∃ σ', Put N σ x v σ' ∧ Q σ' H) : XG X (.Name x p1) v σ H Q := by
  have hx' := hx.mem
  obtain ⟨i, hi⟩ := List.getElem?_of_mem hx'
  refine ⟨_, pg_name (i := i) (by rw [C.hN]; exact C.nd) (by rw [C.hN]; exact hi) (C.loc hl) (.inl (C.fn x hl.mem)), ?_⟩
  obtain ⟨σ', hp, q⟩ := h
  obtain ⟨j, hj, e⟩ := hp.ix
  have ij : i = j := nd_ix C.nd hi hj
  subst ij
  show Q (σ.set i (some v)) H
  rw [e]; exact q
theorem XG.mono {v : V} {Q Q' : St → Hp → Prop} (h : XG X e v σ H Q) (m : ∀ σ H, Q σ H → Q' σ H) : XG X e v σ H Q' := by
  obtain ⟨t, ht, q⟩ := h
  refine ⟨fun v σ H R => ∃ R', t v σ H R' ∧ ∀ σ H', R' σ H' → R σ H', ⟨fun pins s σ H v u R I r ⟨R', q, m⟩ => ?_⟩, Q, q, m⟩
  exact thn (ht.run pins s σ H v u R' I r q) fun _ s ⟨σ', H', I', z⟩ => ⟨σ', H', I', m _ _ z⟩
/-- a, b, .. = a tuple -/
theorem xg_tup {j : Nat} {v : V} {Q : St → Hp → Prop} (C : Ctx X sc N Vs Ls G k) (h : ∃ p xs, v = .ref p ∧ SqT X.K H p xs ∧ xs.length = (assignEach es X.env).length ∧ XGs X es xs σ H Q) (hst : (assignEach es X.env).findIdx? (·.1) = none := by rfl) : XG X (.Tuple es j pos) v σ H Q :=
  ⟨_, pg_tup C.calm XGs.pgs rfl hst, h⟩
/-- o[i] = v -/
theorem xs_setIx {o i : Expr} (h : XE X e σ H fun v H1 => XE X o σ H1 fun ov H2 => XE X i σ H2 fun iv H3 => ∃ l xs k j, ov = .ref l ∧ iv = .int k ∧ H3 l = some (.lst xs) ∧ ixN xs.length k = some j ∧ ∀ H', Kp [l] H3 H' → H' l = some (.lst (xs.set j v)) → nx σ H')
    (ha : ∀ v, assign (.Subscript o i p1) X.env v = (do
      let z1 ← holding [v] (eval o X.env)
      let z2 ← holding [v, z1] (eval i X.env)
      standAt p1; holding [v, z1, z2] (setItem z1 z2 v)
      release [v, z1, z2] []) := by intro _; rfl)
    (hs : swapsWithSole [.Subscript o i p1] e pos.line X.env = pure false := by rfl) (hw : swappedStores [.Subscript o i p1] e X.env = pure none := by rfl)
    (h1 : (assignEach [.Subscript o i p1] X.env).map (·.2) = [assign (.Subscript o i p1) X.env] := by rfl) : XS X (.Assign [.Subscript o i p1] e pos) nx D σ H := by
  refine ⟨_, ps_asg XE.pe (pg_sub XE.pe XE.pe set_list ha) hs hw h1, ?_⟩
  refine XE.mono h fun v H1 h => XE.mono h fun ov H2 h => XE.mono h fun iv H3 ⟨l, xs, k, j, e1, e2, hl, hj, q⟩ => ?_
  exact ⟨l, xs, k, j, e1, e2, hl, hj, q _ (Kp.set hl rfl) upd_same⟩
theorem XB.imp {nx' : St → Hp → Prop} (h : XB X sts nx D σ H) (m : ∀ σ H, nx σ H → nx' σ H) : XB X sts nx' D σ H := by
  obtain ⟨t, ht, q⟩ := h
  refine ⟨fun D σ H => ∃ nx0, t ⟨nx0, D.rt, D.bk, D.ct⟩ σ H ∧ ∀ σ H, nx0 σ H → D.nx σ H, ⟨fun pins s σ H D I ⟨nx0, q, m⟩ => thn (ht.run pins s σ H _ I q) fun f s1 z => ?_⟩, nx, q, m⟩
  cases f with
  | next => obtain ⟨σ', H', I', z⟩ := z; exact ⟨σ', H', I', m _ _ z⟩
  | brk => exact z
  | cont => exact z
  | ret u => exact z

/-! ## loops -/
variable {tg iter : Expr} {body : List Stmt}
/-- for x in a tuple; a list that stands still; a range -/
theorem xs_forT (C : Ctx X sc N Vs Ls G k) (h : XE X iter σ H fun v H1 => ∃ a xs, v = .ref a ∧ SqT X.K H1 a xs ∧ ∃ Pv : Nat → St → Hp → Prop, Pv 0 σ H1 ∧ (∀ i σ' H', i ≤ xs.length → Pv i σ' H' → SqT X.K H' a xs) ∧
    (∀ i y σ' H', xs[i]? = some y → Pv i σ' H' → XG X tg y σ' H' fun σ2 H2 => XB X body (Pv (i + 1)) ⟨D.rt, nx, Pv (i + 1)⟩ σ2 H2) ∧ ∀ σ' H', Pv xs.length σ' H' → nx σ' H')
    (hs : ∀ x, foldedSetIterable iter X.env x = pure x := by intro _; rfl) : XS X (.For tg iter body [] pos) nx D σ H := by
  refine ⟨_, ps_for C.po C.calm (pi_tup XE.pe) XG.pg XB.ps hs, ?_⟩
  refine XE.mono h fun v H1 ⟨a, xs, e, hx, Pv, h0, hl, hs, hd⟩ => ⟨a, e, ⟨xs, hx⟩, ?_⟩
  exact for_tup (K := X.K) (a := a) (xs := xs) (D := ⟨nx, D.rt, D.bk, D.ct⟩) (g := XG X tg) (tb := fun D σ H => XB X body D.nx ⟨D.rt, D.bk, D.ct⟩ σ H) Pv h0 hl hs hd
theorem xs_forL (C : Ctx X sc N Vs Ls G k) (h : XE X iter σ H fun v H1 => ∃ a xs, v = .ref a ∧ SqL X.K H1 a xs ∧ ∃ Pv : Nat → St → Hp → Prop, Pv 0 σ H1 ∧ (∀ i σ' H', i ≤ xs.length → Pv i σ' H' → SqL X.K H' a xs) ∧
    (∀ i y σ' H', xs[i]? = some y → Pv i σ' H' → XG X tg y σ' H' fun σ2 H2 => XB X body (Pv (i + 1)) ⟨D.rt, nx, Pv (i + 1)⟩ σ2 H2) ∧ ∀ σ' H', Pv xs.length σ' H' → nx σ' H')
    (hs : ∀ x, foldedSetIterable iter X.env x = pure x := by intro _; rfl) : XS X (.For tg iter body [] pos) nx D σ H := by
  refine ⟨_, ps_for C.po C.calm (pi_list XE.pe) XG.pg XB.ps hs, ?_⟩
  refine XE.mono h fun v H1 ⟨a, xs, e, hx, Pv, h0, hl, hs, hd⟩ => ⟨a, e, ⟨xs, hx⟩, ?_⟩
  exact for_list (K := X.K) (a := a) (xs := xs) (D := ⟨nx, D.rt, D.bk, D.ct⟩) (g := XG X tg) (tb := fun D σ H => XB X body D.nx ⟨D.rt, D.bk, D.ct⟩ σ H) Pv h0 hl hs hd
theorem xs_forR1 (C : Ctx X sc N Vs Ls G k) (hg : Mem G "range") (hm : X.mg "range" = none) (h : XA X [a] σ H fun vs H1 => ∃ j : Int, vs = [.int j] ∧ -(2 ^ 62) ≤ j ∧ j < 2 ^ 62 ∧ ∃ Pv : Nat → St → Hp → Prop, Pv 0 σ H1 ∧
    (∀ i σ' H', i < j.toNat → Pv i σ' H' → XG X tg (.int i) σ' H' fun σ2 H2 => XB X body (Pv (i + 1)) ⟨D.rt, nx, Pv (i + 1)⟩ σ2 H2) ∧ ∀ σ' H', Pv j.toNat σ' H' → nx σ' H')
    (hst : starEach [a] X.env = [(false, eval a X.env)] := by rfl) (hs : ∀ x, foldedSetIterable (.Call (.Name "range" p1) [a] [] p2) X.env x = pure x := by intro _; rfl) : XS X (.For tg (.Call (.Name "range" p1) [a] [] p2) body [] pos) nx D σ H := by
  refine ⟨_, ps_for C.po C.calm (pi_range1 (C.gl hg) hm XA.pa hst) XG.pg XB.ps hs, ?_⟩
  refine XA.mono h fun v H1 ⟨j, e, h1, h2, Pv, h0, hs, hd⟩ => ⟨j, e, h1, h2, ?_⟩
  refine for_range (lo := 0) (n := j.toNat) (D := ⟨nx, D.rt, D.bk, D.ct⟩) (g := XG X tg) (tb := fun D σ H => XB X body D.nx ⟨D.rt, D.bk, D.ct⟩ σ H) Pv h0 (fun i σ H hi p => ?_) hd
  rw [Int.zero_add]; exact hs i σ H hi p
theorem xs_forR2 (C : Ctx X sc N Vs Ls G k) (hg : Mem G "range") (hm : X.mg "range" = none) (h : XA X [a, b] σ H fun vs H1 => ∃ l j : Int, vs = [.int l, .int j] ∧ (-(2 ^ 62) ≤ l ∧ l < 2 ^ 62 ∧ -(2 ^ 62) ≤ j ∧ j < 2 ^ 62) ∧ ∃ Pv : Nat → St → Hp → Prop, Pv 0 σ H1 ∧
    (∀ i σ' H', i < (j - l).toNat → Pv i σ' H' → XG X tg (.int (l + i)) σ' H' fun σ2 H2 => XB X body (Pv (i + 1)) ⟨D.rt, nx, Pv (i + 1)⟩ σ2 H2) ∧ ∀ σ' H', Pv (j - l).toNat σ' H' → nx σ' H')
    (hst : starEach [a, b] X.env = [(false, eval a X.env), (false, eval b X.env)] := by rfl) (hs2 : starEach [b] X.env = [(false, eval b X.env)] := by rfl)
    (hs : ∀ x, foldedSetIterable (.Call (.Name "range" p1) [a, b] [] p2) X.env x = pure x := by intro _; rfl) : XS X (.For tg (.Call (.Name "range" p1) [a, b] [] p2) body [] pos) nx D σ H := by
  refine ⟨_, ps_for C.po C.calm (pi_range2 (C.gl hg) hm XA.pa hst hs2) XG.pg XB.ps hs, ?_⟩
  refine XA.mono h fun v H1 ⟨l, j, e, h1, Pv, h0, hs, hd⟩ => ⟨l, j, e, h1, ?_⟩
  exact for_range (lo := l) (n := (j - l).toNat) (D := ⟨nx, D.rt, D.bk, D.ct⟩) (g := XG X tg) (tb := fun D σ H => XB X body D.nx ⟨D.rt, D.bk, D.ct⟩ σ H) Pv h0 hs hd

/-- x op= e, x a plain name -/
theorem VIp.mono {op : Operator} {x y : V} {Q' : VK} (h : VIp X op x y H Q) (m : ∀ v H', Q v H' → Q' v H') : VIp X op x y H Q' := by
  obtain ⟨t, ht, q⟩ := h
  exact ⟨fun x y H R => ∃ R', t x y H R' ∧ ∀ v H', R' v H' → R v H', fun pins s σ H x y v u R I rx ry ⟨R', q, m⟩ => thn (ht pins s σ H x y v u R' I rx ry q) fun v s ⟨x, H', I', r, z⟩ => ⟨x, H', I', r, m _ _ z⟩, Q, q, m⟩
theorem xs_aug {x : Str} {v : V} {op : Operator} (C : Ctx X sc N Vs Ls G k) (ha : At N σ x v) (hl : Mem Ls x) (h : XE X e σ H fun y H1 => VIp X op v y H1 fun z H2 => ∃ σ', Put N σ x z σ' ∧ nx σ' H2) : XS X (.AugAssign (.Name x p1) op e pos) nx D σ H := by
  obtain ⟨i, hi, hv⟩ := ha.ix
  refine ⟨_, ps_aug (i := i) (by rw [C.hN]; exact C.nd) (by rw [C.hN]; exact hi) (C.loc hl) XE.pe VIp.ok (.inl (C.fn x hl.mem)), v, hv, ?_⟩
  refine XE.mono h fun y H1 h => VIp.mono h fun z H2 ⟨σ', hp, q⟩ => ?_
  obtain ⟨j, hj, e⟩ := hp.ix
  have ij : i = j := nd_ix C.nd hi hj
  subst ij
  show nx (σ.set i (some z)) H2
  rw [e]; exact q
theorem vip_add {i j : Int} (h : Q (.int (i + j)) H) : VIp X .Add (.int i) (.int j) H Q := ⟨_, ip_add, i, j, rfl, rfl, h⟩
theorem vip_sub {i j : Int} (h : Q (.int (i - j)) H) : VIp X .Sub (.int i) (.int j) H Q := ⟨_, ip_sub, i, j, rfl, rfl, h⟩
/-- for a, b in zip of two lists of one length -/
theorem xs_forZ {elts : List Expr} {kk : Nat} {tpos : Pos} (C : Ctx X sc N Vs Ls G k) (hg : Mem G "zip") (hm : X.mg "zip" = none) (h : XA X [a, b] σ H fun vs H1 => ∃ p q xs ys, vs = [.ref p, .ref q] ∧ SqL X.K H1 p xs ∧ SqL X.K H1 q ys ∧ xs.length = ys.length ∧ ∃ Pv : Nat → St → Hp → Prop, Pv 0 σ H1 ∧
    (∀ i σ' H', Pv i σ' H' → SqL X.K H' p xs ∧ SqL X.K H' q ys) ∧ (∀ i x y T σ' H' H2, xs[i]? = some x → ys[i]? = some y → Pv i σ' H' → Kp [] H' H2 → SqT X.K H2 T [x, y] → XG X (.Tuple elts kk tpos) (.ref T) σ' H2 fun σ3 H3 => XB X body (Pv (i + 1)) ⟨D.rt, nx, Pv (i + 1)⟩ σ3 H3) ∧ ∀ σ' H', Pv xs.length σ' H' → nx σ' H')
    (hs : starEach [a, b] X.env = (false, eval a X.env) :: starEach [b] X.env := by rfl) (hpl : (backTo p2 (starEach [b] X.env)).any (·.1) = false := by rfl) (hfs : ∀ x, foldedSetIterable (.Call (.Name "zip" p1) [a, b] [] p2) X.env x = pure x := by intro _; rfl) : XS X (.For (.Tuple elts kk tpos) (.Call (.Name "zip" p1) [a, b] [] p2) body [] pos) nx D σ H := by
  refine ⟨_, ps_for C.po C.calm (pi_zip (C.gl hg) hm XA.pa hs hpl) XG.pg XB.ps hfs, ?_⟩
  refine XA.mono h fun vs H1 ⟨p, q, xs, ys, e, hx, hy, hl, Pv, h0, hq, hs, hd⟩ => ⟨p, q, xs, ys, e, hx, hy, ?_⟩
  exact RZ.for_zipL (K := X.K) (a := p) (b := q) (xs := xs) (ys := ys) (D := ⟨nx, D.rt, D.bk, D.ct⟩) (g := XG X (.Tuple elts kk tpos)) (tb := fun D σ H => XB X body D.nx ⟨D.rt, D.bk, D.ct⟩ σ H) hl Pv h0 hq
    (fun i x y T σ H hx hy hp hT => hs i x y T σ H _ hx hy hp (Kp.new hT) (.inl (.inl upd_same))) hd
/-! ## zip of a list and a tuple -/
/-- a list at a and a tuple at b as each turn finds them -/
def ItzM (K : PySem.W.Frag) (a b : Addr) : It where
  go := fun i H => ∃ xs ys x y, (SqL K H a xs ∧ xs[i]? = some x) ∧ SqT K H b ys ∧ ys[i]? = some y
  yld := fun i H v H' => ∃ T x y, (v = .ref T ∧ H' = upd H T (.tup [x, y]) ∧ H T = none) ∧ (∀ l, SqL K H a l → l[i]? = some x) ∧ ∀ t, SqT K H b t → t[i]? = some y
  stop := fun i H => ∃ xs ys, SqL K H a xs ∧ SqT K H b ys ∧ min xs.length ys.length = i
def tnM (z TI TO i1 i2 a b : Addr) (i : Nat) (h : Heap) : Prop :=
  IsZip h z TI TO .none ∧ IsTupOf2 h TI (.ref i1) (.ref i2) ∧ (∃ a1 a2, IsTupOf2 h TO a1 a2) ∧ h.IsListIter i1 a i ∧ h.IsTupleIter i2 b i
theorem turn_zipM {P : Program} {w : World} {K : PySem.W.Frag} {elts : List Expr} {kk : Nat} {tpos : Pos} {a b z TI TO i1 i2 : Addr} (S : ZipSep2 z TI TO i1 i2 [i1, a] [i2, b]) (n1 : a ≠ i1) (n2 : b ≠ i2) :
    Turn P w K (.Tuple elts kk tpos) (ItzM K a b) [z, TI, TO, i1, i2] z (tnM z TI TO i1 i2 a b) where
  mem := .head _
  obj := by
    rintro i h ⟨q1, q2, ⟨u1, u2, q3⟩, ⟨o1, e1, k1, d1⟩, o2, e2, k2, d2⟩ c hc
    simp only [List.mem_cons, List.not_mem_nil, or_false] at hc
    rcases hc with rfl | rfl | rfl | rfl | rfl
    · exact ⟨_, q1, nofun⟩
    · exact ⟨_, q2, nofun⟩
    · exact ⟨_, q3, nofun⟩
    · exact ⟨_, e1, fun v q => nomatch d1.symm.trans q⟩
    · exact ⟨_, e2, fun v q => nomatch d2.symm.trans q⟩
  keep := by
    rintro i h h' ⟨q1, q2, ⟨u1, u2, q3⟩, q4, q5⟩ k
    exact ⟨k _ (by simp) _ q1, k _ (by simp) _ q2, ⟨u1, u2, k _ (by simp) _ q3⟩, q4.at (k _ (by simp)), q5.at (k _ (by simp))⟩
  item := by
    rintro X rfl rfl rfl hc i pins s σ H E I hf st ⟨xs, ys, x, y, ⟨lx, ex⟩, ty, ey⟩
    have ⟨its, rv, p, _⟩ := I.list lx
    have ⟨its2, rv2, p2, _⟩ := I.tuple ty
    have ⟨u, hu, ru⟩ := rv.get ex
    have ⟨u2, hu2, ru2⟩ := rv2.get ey
    have hh := I.ok.hd hc
    have D1 := Draws.list (prog := X.prog) (w := X.w) (A := X.A.in1) hh i1 a n1 its.toArray
    have D2 := Draws.tuple (prog := X.prog) (w := X.w) (A := X.A.in1) hh i2 b n2 its2.toArray
    have W := GoesN.zip2 (elts := elts) (x1 := kk) (pos := tpos) S D1 D2
    have b1 : i < its.length := (List.getElem?_eq_some_iff.1 hu).1
    have b2 : i < its2.length := (List.getElem?_eq_some_iff.1 hu2).1
    refine W.goes i s (fun v s2 => ∃ x H', Inv X pins σ H' s2 ∧ RelV x v ∧ (ItzM X.K a b).yld i H x H' ∧ tnM z TI TO i1 i2 a b (i + 1) s2.heap ∧ ∀ b ∈ [z, TI, TO, i1, i2], H' b = none) E (by simp; omega) ⟨st.1, st.2.1, st.2.2.1, ⟨st.2.2.2.1, p.isList⟩, st.2.2.2.2, p2⟩ ?_
    rintro v h' tk ⟨T, v1, v2, rfl, hn, hv1, hv2, hT⟩ ⟨r1, r2, r3, ⟨r4, _⟩, r5, _⟩ hk _
    have c1 : v1 = u := by simpa [hu] using hv1.symm
    have c2 : v2 = u2 := by simpa [hu2] using hv2.symm
    subst c1 c2
    have new : ObjOk X.prog X.w (upd H T (.tup [x, y])) h' T (.tup [x, y]) := ⟨by show 2 ≤ sizeLine; decide, [v1, v2], .cons ru (.cons ru2 .nil), hT⟩
    refine ⟨.ref T, _, I.turnedNew (t' := tk) (ch := [z, TO, i1, i2]) (fun c o hb q => hk c o hb q) (fun c hm => hf c ?_) hn new, rfl, ⟨T, x, y, ⟨rfl, rfl, I.hok.fresh hn⟩, fun l hl => ?_, fun t ht => ?_⟩, ⟨r1, r2, r3, r4, r5⟩, fun c hm => ?_⟩
    · simp only [List.mem_cons, List.not_mem_nil, or_false] at hm ⊢
      rcases hm with e | e | e | e <;> simp [e]
    · exact I.list_inj hl lx ▸ ex
    · exact I.tuple_inj ht ty ▸ ey
    · have hl : c < s.heap.objs.size := by
        obtain ⟨q1, q2, ⟨_, _, q3⟩, ⟨_, q4, _⟩, _, q5, _⟩ := st
        simp only [List.mem_cons, List.not_mem_nil, or_false] at hm
        rcases hm with rfl | rfl | rfl | rfl | rfl
        · exact Heap.lt_size q1
        · exact Heap.lt_size q2
        · exact Heap.lt_size q3
        · exact Heap.lt_size q4
        · exact Heap.lt_size q5
      exact (upd_ne (Nat.ne_of_lt (Nat.lt_of_lt_of_le hl hn))).trans (hf c hm).1
  done := by
    rintro X rfl rfl rfl hc i pins s σ H E I hf st ⟨xs, ys, lx, ty, e⟩
    have ⟨its, rv, p, _⟩ := I.list lx
    have ⟨its2, rv2, p2, _⟩ := I.tuple ty
    have hh := I.ok.hd hc
    have D1 := Draws.list (prog := X.prog) (w := X.w) (A := X.A.in1) hh i1 a n1 its.toArray
    have D2 := Draws.tuple (prog := X.prog) (w := X.w) (A := X.A.in1) hh i2 b n2 its2.toArray
    have W := GoesN.zip2 (elts := elts) (x1 := kk) (pos := tpos) S D1 D2
    have hi : min its.toArray.size its2.toArray.size = i := by
      have l1 := rv.length
      have l2 := rv2.length
      simp; omega
    refine W.stops s (fun s1 => Inv X pins σ H s1) E (by rw [hi]; exact ⟨st.1, st.2.1, st.2.2.1, ⟨st.2.2.2.1, p.isList⟩, st.2.2.2.2, p2⟩) ?_
    intro h' tk hk _
    refine I.turnedL (t' := tk) (ch := [z, TO, i1, i2]) (fun c o hb q => hk c o hb q) fun c hm => hf c ?_
    simp only [List.mem_cons, List.not_mem_nil, or_false] at hm ⊢
    rcases hm with e | e | e | e <;> simp [e]
  self := fun A i s Q E st h => wpAny_pyIter_zip st.1 h
def iZipM (K : PySem.W.Frag) (ta : TA) : TI := fun σ H R => ta σ H fun vs H1 => ∃ a b xs ys, vs = [.ref a, .ref b] ∧ (SqL K H1 a xs ∧ SqT K H1 b ys) ∧ R (ItzM K a b) H1
theorem pi_zipM {X : Cx} {e e2 : Expr} {ta : TA} {p pos tpos : Pos} {elts : List Expr} {kk : Nat} (hg : Gl X "zip") (hm : X.mg "zip" = none) (ha : PA X [e, e2] ta)
    (hs : starEach [e, e2] X.env = (false, eval e X.env) :: starEach [e2] X.env) (hpl : (backTo pos (starEach [e2] X.env)).any (·.1) = false) :
    PI X (.Tuple elts kk tpos) (.Call (.Name "zip" p) [e, e2] [] pos) (iZipM X.K ta) where
  run := by
    intro pins s σ H R I h
    refine PyProof.Rows.Call_ (ld_blt I hg hm PyProof.Rows.boot_zip (PyProof.Rows.callWith_type1 (thn (ha.run pos pins s σ H _ I h) ?_) hs hpl))
    rintro us s1 ⟨vs, H1, I1, r1, a, b, xs, ys, rfl, ⟨lx, ty⟩, q⟩
    match us, r1 with
    | [_, _], .cons r (.cons r' .nil) =>
      cases r
      cases r'
      have ⟨its, _, p1, _⟩ := I1.list lx
      have ⟨its2, _, p2, _⟩ := I1.tuple ty
      have la : a < s1.heap.objs.size := p1.lt
      have lb : b < s1.heap.objs.size := have ⟨_, e, _⟩ := p2; Heap.lt_size e
      refine zip_begins2 (begins_list a its.toArray) (begins_tuple b its2.toArray) p1.isList p2 fun h' q1 q2 q3 q4 q5 _ hk => wpAny_pyIter_zip q1 ?_
      refine ⟨_, [s1.heap.objs.size + 4, s1.heap.objs.size + 2, s1.heap.objs.size + 3, s1.heap.objs.size, s1.heap.objs.size + 1], _, _, H1, rfl, I1.kept (t' := s1.toks) hk, turn_zipM (a := a) (b := b) (zip_sep2 (by simpa using la) (by simpa using lb)) (Nat.ne_of_lt la) (Nat.ne_of_lt (Nat.lt_succ_of_lt lb)), ⟨q1, q2, ⟨_, _, q3⟩, ⟨_, q4, rfl, rfl⟩, ⟨_, q5, rfl, rfl⟩⟩, fun c hm => ?_, q⟩
      have hl : s1.heap.objs.size ≤ c := by
        simp only [List.mem_cons, List.not_mem_nil, or_false] at hm
        rcases hm with rfl | rfl | rfl | rfl | rfl <;> first | exact Nat.le_refl _ | exact Nat.le_add_right _ _
      exact I1.fpOk hl (I1.hok.fresh hl)
theorem for_zipM {K : PySem.W.Frag} {a b : Addr} {xs ys : List V} {g : TG} {tb : TS} {D : Ends} {σ : L2.St} {H : Hp} (hl : xs.length = ys.length) (Pv : Nat → L2.St → Hp → Prop) (h0 : Pv 0 σ H) (hq : ∀ i σ H, Pv i σ H → SqL K H a xs ∧ SqT K H b ys)
    (hs : ∀ (i : Nat) (x y : V) (T : Addr) (σ : L2.St) (H : Hp), xs[i]? = some x → ys[i]? = some y → Pv i σ H → H T = none → g (.ref T) σ (upd H T (.tup [x, y])) fun σ2 H2 => tb ⟨Pv (i + 1), D.rt, D.nx, Pv (i + 1)⟩ σ2 H2) (hd : ∀ σ H, Pv xs.length σ H → D.nx σ H) :
    ∃ W : Nat → Nat → L2.St → Hp → Prop, (∃ m, W 0 m σ H) ∧ ∀ i m σ H, W i m σ H →
      ((ItzM K a b).stop i H ∧ D.nx σ H) ∨ ((ItzM K a b).go i H ∧ ∃ N : L2.St → Hp → Prop, (∀ σ' H', N σ' H' → ∃ m', m' < m ∧ W (i + 1) m' σ' H') ∧ ∀ v H', (ItzM K a b).yld i H v H' → g v σ H' fun σ2 H2 => tb { D with nx := N, ct := N, bk := D.nx } σ2 H2) := by
  refine ⟨fun i m σ H => i ≤ xs.length ∧ m + i = xs.length ∧ Pv i σ H, ⟨_, Nat.zero_le _, rfl, h0⟩, ?_⟩
  rintro i m σ H ⟨hi, hm, p⟩
  have ⟨qx, qy⟩ := hq i σ H p
  rcases Nat.lt_or_ge i xs.length with lt | ge
  · have l2 : i < ys.length := hl ▸ lt
    have ex := List.getElem?_eq_getElem lt
    have ey := List.getElem?_eq_getElem l2
    refine .inr ⟨⟨xs, ys, _, _, ⟨qx, ex⟩, qy, ey⟩, Pv (i + 1), fun σ' H' p' => ⟨m - 1, by omega, lt, by omega, p'⟩, ?_⟩
    rintro v H' ⟨T, x', y', ⟨rfl, rfl, hT⟩, f1, f2⟩
    exact hs i x' y' T σ H (f1 _ qx) (f2 _ qy) p hT
  · obtain rfl : i = xs.length := Nat.le_antisymm hi ge
    exact .inl ⟨⟨xs, ys, qx, qy, by omega⟩, hd σ H p⟩
/-- for a, b in zip of a list and a tuple of one length -/
theorem xs_forZM {elts : List Expr} {kk : Nat} {tpos : Pos} (C : Ctx X sc N Vs Ls G k) (hg : Mem G "zip") (hm : X.mg "zip" = none) (h : XA X [a, b] σ H fun vs H1 => ∃ p q xs ys, vs = [.ref p, .ref q] ∧ SqL X.K H1 p xs ∧ SqT X.K H1 q ys ∧ xs.length = ys.length ∧ ∃ Pv : Nat → St → Hp → Prop, Pv 0 σ H1 ∧
    (∀ i σ' H', Pv i σ' H' → SqL X.K H' p xs ∧ SqT X.K H' q ys) ∧ (∀ i x y T σ' H' H2, xs[i]? = some x → ys[i]? = some y → Pv i σ' H' → Kp [] H' H2 → SqT X.K H2 T [x, y] → XG X (.Tuple elts kk tpos) (.ref T) σ' H2 fun σ3 H3 => XB X body (Pv (i + 1)) ⟨D.rt, nx, Pv (i + 1)⟩ σ3 H3) ∧ ∀ σ' H', Pv xs.length σ' H' → nx σ' H')
    (hs : starEach [a, b] X.env = (false, eval a X.env) :: starEach [b] X.env := by rfl) (hpl : (backTo p2 (starEach [b] X.env)).any (·.1) = false := by rfl) (hfs : ∀ x, foldedSetIterable (.Call (.Name "zip" p1) [a, b] [] p2) X.env x = pure x := by intro _; rfl) : XS X (.For (.Tuple elts kk tpos) (.Call (.Name "zip" p1) [a, b] [] p2) body [] pos) nx D σ H := by
  refine ⟨_, ps_for C.po C.calm (pi_zipM (C.gl hg) hm XA.pa hs hpl) XG.pg XB.ps hfs, ?_⟩
  refine XA.mono h fun vs H1 ⟨p, q, xs, ys, e, hx, hy, hl, Pv, h0, hq, hs, hd⟩ => ⟨p, q, xs, ys, e, ⟨hx, hy⟩, ?_⟩
  exact for_zipM (K := X.K) (a := p) (b := q) (xs := xs) (ys := ys) (D := ⟨nx, D.rt, D.bk, D.ct⟩) (g := XG X (.Tuple elts kk tpos)) (tb := fun D σ H => XB X body D.nx ⟨D.rt, D.bk, D.ct⟩ σ H) hl Pv h0 hq
    (fun i x y T σ H hx hy hp hT => hs i x y T σ H _ hx hy hp (Kp.new hT) (.inl (.inl upd_same))) hd
/-- while: a word by a measure -/
theorem xs_while {c : Expr} (C : Ctx X sc N Vs Ls G k) (Pv : Nat → St → Hp → Prop) (h0 : ∃ m, Pv m σ H) (hs : ∀ m σ' H', Pv m σ' H' → XT X c σ' H' fun b H1 => if b = true then XB X body (fun σ2 H2 => ∃ m', m' < m ∧ Pv m' σ2 H2) ⟨D.rt, nx, fun σ2 H2 => ∃ m', m' < m ∧ Pv m' σ2 H2⟩ σ' H1 else nx σ' H1) :
    XS X (.While c body [] pos) nx D σ H := by
  refine ⟨_, ps_while C.po XT.pt XB.ps, Pv, h0, fun m σ' H' p => XT.mono (hs m σ' H' p) fun b H1 q => ?_⟩
  cases b with
  | true => exact ⟨_, fun _ _ z => z, q⟩
  | false => exact q
/-- a, b = a pair -/
theorem xs_asg {tg : Expr} (h : XE X e σ H fun v H1 => XG X tg v σ H1 nx) (hs : swapsWithSole [tg] e pos.line X.env = pure false := by rfl) (hw : swappedStores [tg] e X.env = pure none := by rfl) (h1 : (assignEach [tg] X.env).map (·.2) = [assign tg X.env] := by rfl) : XS X (.Assign [tg] e pos) nx D σ H :=
  ⟨_, ps_asg XE.pe XG.pg hs hw h1, h⟩
theorem xgs_nil {Q : St → Hp → Prop} (h : Q σ H) : XGs X [] [] σ H Q := ⟨_, pgs_nil, rfl, h⟩
theorem xgs_cons {v : V} {vs : List V} {Q : St → Hp → Prop} (h : XG X e v σ H fun σ' H' => XGs X es vs σ' H' Q) (hs : (assignEach (e :: es) X.env).map (·.2) = assign e X.env :: (assignEach es X.env).map (·.2) := by rfl) : XGs X (e :: es) (v :: vs) σ H Q :=
  ⟨_, pgs_cons XG.pg XGs.pgs hs, v, vs, rfl, h⟩
theorem sw_par {env : Env} {x y : Str} {a b : Expr} {px py pt pt2 : Pos} {kt k2 : Nat} (hb : env.blockKind = .function) (hx : env.kindOf x = some .local) (hy : env.kindOf y = some .local) (hxy : ([x, y].eraseDups.length != [x, y].length) = false) (hl : (py.line == px.line) = true)
    (ha : ∀ z p, a ≠ .Starred z p) (hb' : ∀ z p, b ≠ .Starred z p) (hf : [a, b].all (foldedForSure 8) = false) (hc : [a, b].all (constantsAlone 8) = false) : swappedStores [.Tuple [.Name x px, .Name y py] kt pt] (.Tuple [a, b] k2 pt2) env = pure (some [x, y]) := by
  have e1 : (some NameKind.local == some NameKind.local) = true := by decide
  have e2 : (ScopeKind.function != ScopeKind.function) = false := by decide
  unfold swappedStores
  simp only [hb, hf, hc, e2, List.filterMap_cons, List.filterMap_nil, List.head?_cons, Option.map_some, Option.getD_some, Expr.pos, hx, hy, hl, e1, beq_self_eq_true, Bool.and_self, if_true, hxy]
  rw [if_neg (by simp)]
  split
  · rename_i h
    exfalso
    simp only [List.any_cons, List.any_nil, Bool.or_false, Bool.or_eq_true] at h
    cases h
  · rw [if_neg (by simp), if_neg Bool.false_ne_true, if_neg Bool.false_ne_true]
/-- a, b = x, y: plain locals -/
theorem xs_par {x y : Str} {px py pt pt2 : Pos} {kt k2 : Nat} (C : Ctx X sc N Vs Ls G k) (hx : Mem N x) (hy : Mem N y) (hxl : sc.names.lookup x = some .local) (hyl : sc.names.lookup y = some .local) (hxy : ([x, y].eraseDups.length != [x, y].length) = false)
    (h : XE X a σ H fun v H1 => XE X b σ H1 fun u H2 => ∃ σ1 σ2, Put N σ x v σ1 ∧ Put N σ1 y u σ2 ∧ nx σ2 H2) (hl : (py.line == px.line) = true := by rfl) (ha : ∀ z p, a ≠ .Starred z p := by intro _ _ h; cases h) (hb' : ∀ z p, b ≠ .Starred z p := by intro _ _ h; cases h) (hf : [a, b].all (foldedForSure 8) = false := by rfl) (hc : [a, b].all (constantsAlone 8) = false := by rfl)
    (hst : starEach (a :: b :: []) X.env = (false, eval a X.env) :: starEach (b :: []) X.env := by rfl) (hst2 : starEach (b :: []) X.env = (false, eval b X.env) :: starEach [] X.env := by rfl)
    (hs : swapsWithSole [.Tuple [.Name x px, .Name y py] kt pt] (.Tuple [a, b] k2 pt2) pos.line X.env = pure false := by rfl) : XS X (.Assign [.Tuple [.Name x px, .Name y py] kt pt] (.Tuple [a, b] k2 pt2) pos) nx D σ H := by
  obtain ⟨i, hi⟩ := List.getElem?_of_mem hx.mem
  obtain ⟨j, hj⟩ := List.getElem?_of_mem hy.mem
  have hij : i ≠ j := fun e => by
    subst e
    rw [hi] at hj
    cases Option.some.inj hj
    exact absurd hxy (by simp [List.eraseDups_cons])
  have hxl' : X.env.scope.names.lookup x = some .local := by rw [C.esc]; exact hxl
  have hyl' : X.env.scope.names.lookup y = some .local := by rw [C.esc]; exact hyl
  have hb : X.env.blockKind = .function := by unfold Env.blockKind; rw [C.esc, C.knd]; rfl
  refine ⟨_, ps_par (i := i) (j := j) C.calm (by rw [C.hN]; exact C.nd) (by rw [C.hN]; exact hi) (by rw [C.hN]; exact hj) hij hxl' hyl' XA.pa (sw_par hb hxl' hyl' hxy hl ha hb' hf hc) hs, ?_⟩
  refine xa_cons (hs := hst) (XE.mono h fun v H1 h => xa_cons (hs := hst2) (XE.mono h fun u H2 ⟨σ1, σ2, p1, p2, q⟩ => xa_nil ?_))
  refine ⟨v, u, rfl, ?_⟩
  obtain ⟨i', hi', e1⟩ := p1.ix
  obtain ⟨j', hj', e2⟩ := p2.ix
  have ei : i = i' := nd_ix C.nd hi hi'
  have ej : j = j' := nd_ix C.nd hj hj'
  subst ei; subst ej
  show nx ((σ.set i (some v)).set j (some u)) H2
  rw [e1, e2]; exact q
/-- xs[::-1] -/
theorem xe_revL {j : Nat} {p4 : Pos} (h : XE X a σ H fun v H1 => ∃ p xs, v = .ref p ∧ SqL X.K H1 p xs ∧ ∀ r H', Kp [] H1 H' → H1 r = none → H' r = some (.lst xs.reverse) → Q (.ref r) H') : XE X (.Subscript a (.Slice none none (some (.UnaryOp .USub (.Constant (.int 1) j p1) p2)) p3) p4) σ H Q :=
  ⟨_, pe_revL XE.pe, h.mono fun v H1 ⟨p, xs, e, hx, q⟩ => ⟨p, xs, e, hx, new_ q⟩⟩
theorem XS.imp {nx' : St → Hp → Prop} (h : XS X s nx D σ H) (m : ∀ σ H, nx σ H → nx' σ H) : XS X s nx' D σ H := by
  obtain ⟨t, ht, q⟩ := h
  refine ⟨fun D σ H => ∃ nx0, t ⟨nx0, D.rt, D.bk, D.ct⟩ σ H ∧ ∀ σ H, nx0 σ H → D.nx σ H, ⟨fun pins s σ H D I ⟨nx0, q, m⟩ => thn (ht.run pins s σ H _ I q) fun f s1 z => ?_⟩, nx, q, m⟩
  cases f with
  | next => obtain ⟨σ', H', I', z⟩ := z; exact ⟨σ', H', I', m _ _ z⟩
  | brk => exact z
  | cont => exact z
  | ret u => exact z

/-! ## comprehensions -/
def XLC (X : Cx) (elt tg iter : Expr) (ifs : List Expr) (scope : Scope) (σ : St) (H : Hp) (Q : VK) : Prop := ∃ (wi : TI) (g : TG) (tt : TT) (te : TE) (own : List (Str × Nat)), PI X tg iter wi ∧ BlkOk X.N X.env.scope scope own ∧
  (∀ (s : Shared) (H : Hp) (c : Addr) (cl : List (Str × Addr)) (fp : List Addr), PG (X.blk s H scope (compEnvC scope cl c X.env) fp) tg g) ∧ (∀ (s : Shared) (H : Hp) (c : Addr) (cl : List (Str × Addr)) (fp : List Addr), PTs (X.blk s H scope (compEnvC scope cl c X.env) fp) ifs tt) ∧
  (∀ (s : Shared) (H : Hp) (c : Addr) (cl : List (Str × Addr)) (fp : List Addr), PE (X.blk s H scope (compEnvC scope cl c X.env) fp) elt te) ∧ (∀ σ H R R', (∀ J H, R J H → R' J H) → wi σ H R → wi σ H R') ∧ tLc wi g tt te (own.map (·.2)) σ H Q
variable {elt : Expr} {ifs : List Expr} {scope : Scope}
theorem tLc_mono {wi : TI} {g : TG} {tt : TT} {te : TE} {vs : List Nat} {Q Q' : VK} (hw : ∀ σ H R R', (∀ J H, R J H → R' J H) → wi σ H R → wi σ H R') (h : tLc wi g tt te vs σ H Q) (m : ∀ v H, Q v H → Q' v H) : tLc wi g tt te vs σ H Q' := by
  refine hw _ _ _ _ (fun J H1 h D hD => ?_) h
  obtain ⟨W, h0, h⟩ := h D hD
  refine ⟨W, h0, fun i n H w => ?_⟩
  rcases h i n H w with ⟨a, b⟩ | b
  · exact .inl ⟨a, m _ _ b⟩
  · exact .inr b
theorem xe_lc (C : Ctx X sc N Vs Ls G k) (h : XLC X elt tg iter ifs scope σ H Q) (hs : ∀ x, foldedSetIterable iter X.env x = pure x := by intro _; rfl) : XE X (.ListComp elt [⟨tg, iter, ifs, 0⟩] scope pos) σ H Q := by
  obtain ⟨wi, g, tt, te, own, h1, h2, h3, h4, h5, h6, q⟩ := h
  exact ⟨_, pe_lc C.calm (by rw [C.hN]; exact C.nd) h1 h2 h3 h4 h5 hs, q⟩
/-- y = [..], y a plain local -/
theorem xs_setLc {y : Str} (C : Ctx X sc N Vs Ls G k) (hm : Mem N y) (hyl : sc.names.lookup y = some .local) (hl : (p1.line == pos.line) = true) (ha : (scope.names.any fun (n, k) => n == y && (k == .local || k == .cell)) = false)
    (h : XLC X elt tg iter ifs scope σ H fun v H1 => ∃ σ', Put N σ y v σ' ∧ nx σ' H1) (hs : ∀ x, foldedSetIterable iter X.env x = pure x := by intro _; rfl) : XS X (.Assign [.Name y p1] (.ListComp elt [⟨tg, iter, ifs, 0⟩] scope pos) p2) nx D σ H := by
  obtain ⟨wi, g, tt, te, own, h1, h2, h3, h4, h5, h6, q⟩ := h
  obtain ⟨i, hi⟩ := List.getElem?_of_mem hm.mem
  have hyl' : X.env.scope.names.lookup y = some .local := by rw [C.esc]; exact hyl
  refine XS.imp (nx := fun σ1 H1 => ∃ v, σ1 = σ.set i (some v) ∧ ∃ σ', Put N σ y v σ' ∧ nx σ' H1) ⟨_, ps_setLc (i := i) C.calm (by rw [C.hN]; exact C.nd) (by rw [C.hN]; exact hi) hyl' (sw_true (by rw [C.esc]; exact C.knd) hyl' hl ha) h1 h2 h3 h4 h5 hs, ?_⟩ ?_
  · exact tLc_mono h6 q fun v H1 z => ⟨v, rfl, z⟩
  · rintro σ1 H1 ⟨v, rfl, σ', hp, q⟩
    obtain ⟨j, hj, e⟩ := hp.ix
    have ij : i = j := nd_ix C.nd hi hj
    subst ij
    rw [e]; exact q
/-- y = [..], y a name that a comprehension reads (a cell) -/
theorem blk_ctx {Vs' G' : List Str} {s : Shared} {H : Hp} {c : Addr} {cl : List (Str × Addr)} {fp : List Addr} (C : Ctx X sc N Vs Ls G k) (h : okC (relS scope sc) Vs' [] G' = true) (hk : scope.kind = .function) :
    Ctx (X.blk s H scope (compEnvC scope cl c X.env) fp) (relS scope sc) N Vs' [] G' k :=
  ⟨C.hN, C.nd, by rw [← C.esc]; rfl, h, C.calm, fun _ m => (nomatch m), PassesOwn.never, hk, C.room⟩

/-- what one turn of a comprehension asks: the target's slot, the test (one or none), the element -/
def XEC (X : Cx) (sc scope : Scope) (N Vs' G' : List Str) (k : Nat) (elt : Expr) : TE := fun σ H Q => ∀ (s0 : Shared) (H0 : Hp) (c : Addr) (cl : List (Str × Addr)) (fp : List Addr), Ctx (X.blk s0 H0 scope (compEnvC scope cl c X.env) fp) (relS scope sc) N Vs' [] G' k → XE (X.blk s0 H0 scope (compEnvC scope cl c X.env) fp) elt σ H Q
def XTC (X : Cx) (sc scope : Scope) (N Vs' G' : List Str) (k : Nat) (elt : Expr) : TT := fun σ H Q => ∀ (s0 : Shared) (H0 : Hp) (c : Addr) (cl : List (Str × Addr)) (fp : List Addr), Ctx (X.blk s0 H0 scope (compEnvC scope cl c X.env) fp) (relS scope sc) N Vs' [] G' k → XT (X.blk s0 H0 scope (compEnvC scope cl c X.env) fp) elt σ H Q
def XTurn (X : Cx) (sc scope : Scope) (N Vs' G' : List Str) (k : Nat) (nm : Str) (ifs : List Expr) (elt : Expr) (σ : St) (y : V) (H : Hp) (L : Addr) (Nx : Hp → Prop) : Prop :=
  ∃ σ', Put N σ nm y σ' ∧ 
    match ifs with
    | [] => XEC X sc scope N Vs' G' k elt σ' H fun z H4 => ∃ acc, H4 L = some (.lst acc) ∧ acc.length < sizeLine ∧ ∀ H5, Kp [L] H4 H5 → H5 L = some (.lst (acc ++ [z])) → Nx H5
    | c' :: _ => XTC X sc scope N Vs' G' k c' σ' H fun b H3 => if b = true then XEC X sc scope N Vs' G' k elt σ' H3 (fun z H4 => ∃ acc, H4 L = some (.lst acc) ∧ acc.length < sizeLine ∧ ∀ H5, Kp [L] H4 H5 → H5 L = some (.lst (acc ++ [z])) → Nx H5) else Nx H3
def teC (X : Cx) (scope : Scope) (elt : Expr) : TE := fun σ H Q => ∀ (s0 : Shared) (H0 : Hp) (c : Addr) (cl : List (Str × Addr)) (fp : List Addr), XE (X.blk s0 H0 scope (compEnvC scope cl c X.env) fp) elt σ H Q
def ttC (X : Cx) (scope : Scope) (ifs : List Expr) : TT := fun σ H Q => match ifs with
  | [] => Q true H
  | c' :: _ => ∀ (s0 : Shared) (H0 : Hp) (c : Addr) (cl : List (Str × Addr)) (fp : List Addr), XT (X.blk s0 H0 scope (compEnvC scope cl c X.env) fp) c' σ H Q
theorem put_wipe {nm : Str} {y : V} {i : Nat} (hN : N[i]? = some nm) (nd : N.Nodup) (hp : Put N σ nm y σ') : (wipe σ [i]).set i (some y) = σ' ∧ wipe σ' [i] = wipe σ [i] := by
  obtain ⟨j, hj, e⟩ := hp.ix
  have ij : i = j := nd_ix nd hN hj
  subst ij
  subst e
  exact ⟨by show (σ.set i none).set i (some y) = _; rw [List.set_set], by show (σ.set i (some y)).set i none = σ.set i none; rw [List.set_set]⟩
section
variable {nm : Str} {i : Nat} {Vs' G' : List Str}
theorem turn_ok (C : Ctx X sc N Vs Ls G k) (hN : N[i]? = some nm) (hV : okC (relS scope sc) Vs' [] G' = true) (hk : scope.kind = .function) (hif : ifs.length ≤ 1) {y : V} {L : Addr} {Nx : Hp → Prop} (h : XTurn X sc scope N Vs' G' k nm ifs elt σ y H L Nx) :
    gName i y (wipe σ [i]) H fun σ2 H2 => wipe σ2 [i] = wipe σ [i] ∧ ttC X scope ifs σ2 H2 fun b H3 => if b = true then teC X scope elt σ2 H3 (fun y H4 => ∃ acc, H4 L = some (.lst acc) ∧ acc.length < sizeLine ∧ Nx (upd H4 L (.lst (acc ++ [y])))) else Nx H3 := by
  obtain ⟨σ', hp, h⟩ := h
  obtain ⟨e1, e2⟩ := put_wipe hN C.nd hp
  show wipe ((wipe σ [i]).set i (some y)) [i] = wipe σ [i] ∧ ttC X scope ifs ((wipe σ [i]).set i (some y)) H _
  rw [e1]
  refine ⟨e2, ?_⟩
  have fin : ∀ H3, XEC X sc scope N Vs' G' k elt σ' H3 (fun z H4 => ∃ acc, H4 L = some (.lst acc) ∧ acc.length < sizeLine ∧ ∀ H5, Kp [L] H4 H5 → H5 L = some (.lst (acc ++ [z])) → Nx H5) →
      teC X scope elt σ' H3 (fun y H4 => ∃ acc, H4 L = some (.lst acc) ∧ acc.length < sizeLine ∧ Nx (upd H4 L (.lst (acc ++ [y])))) := fun H3 h s0 H0 c cl fp =>
    (h s0 H0 c cl fp (blk_ctx C hV hk)).mono fun v H4 ⟨acc, h1, h2, h3⟩ => ⟨acc, h1, h2, h3 _ (Kp.set h1 rfl) upd_same⟩
  cases ifs with
  | nil =>
    exact iteT (B := Nx H) (fin H h)
  | cons c' r =>
    intro s0 H0 c cl fp
    refine (h s0 H0 c cl fp (blk_ctx C hV hk)).mono fun b H3 q => ?_
    cases b with
    | false => exact q
    | true => exact fin H3 q
theorem pg_blk (C : Ctx X sc N Vs Ls G k) (hN : N[i]? = some nm) (hl : (relS scope sc).names.lookup nm = some .local) {s0 : Shared} {H0 : Hp} {c : Addr} {cl : List (Str × Addr)} {fp : List Addr} : PG (X.blk s0 H0 scope (compEnvC scope cl c X.env) fp) (.Name nm p1) (gName i) := by
  have e : (compEnvC scope cl c X.env).scope = relS scope sc := by rw [← C.esc]; rfl
  refine pg_name (X := X.blk s0 H0 scope (compEnvC scope cl c X.env) fp) (i := i) (by show X.N.Nodup; rw [C.hN]; exact C.nd) (by show X.N[i]? = _; rw [C.hN]; exact hN) (.inl ?_) (.inr ?_)
  · show (compEnvC scope cl c X.env).scope.names.lookup nm = _
    rw [e]; exact hl
  · show (compEnvC scope cl c X.env).scope.names.lookup nm = _
    rw [e]; exact hl
theorem pts_blk (hif : ifs.length ≤ 1) {s0 : Shared} {H0 : Hp} {c : Addr} {cl : List (Str × Addr)} {fp : List Addr} : PTs (X.blk s0 H0 scope (compEnvC scope cl c X.env) fp) ifs (ttC X scope ifs) := by
  cases ifs with
  | nil => exact pts_nil
  | cons c' r =>
    cases r with
    | nil => exact pts_one ⟨fun pins s σ H Q I h => (XT.pt).run pins s σ H Q I (h s0 H0 c cl fp)⟩
    | cons _ _ => simp at hif
theorem pe_blk {s0 : Shared} {H0 : Hp} {c : Addr} {cl : List (Str × Addr)} {fp : List Addr} : PE (X.blk s0 H0 scope (compEnvC scope cl c X.env) fp) elt (teC X scope elt) := ⟨fun pins s σ H Q I h => (XE.pe).run pins s σ H Q I (h s0 H0 c cl fp)⟩
/-- the closed facts of a comprehension: its target's name and slot, what it reads -/
structure LcOk (sc scope : Scope) (N Vs' G' : List Str) (nm : Str) (i : Nat) (ifs : List Expr) : Prop where
  hN : N[i]? = some nm
  blk : blkC N sc scope [(nm, i)] = true
  rd : okC (relS scope sc) Vs' [] G' = true
  knd : scope.kind = .function
  own : (relS scope sc).names.lookup nm = some .local
  one : ifs.length ≤ 1
theorem xlc_R1 (C : Ctx X sc N Vs Ls G k) (O : LcOk sc scope N Vs' G' nm i ifs) (hg : Mem G "range") (hm : X.mg "range" = none)
    (h : XA X [a] σ H fun vs H1 => ∃ j : Int, vs = [.int j] ∧ -(2 ^ 62) ≤ j ∧ j < 2 ^ 62 ∧ ∀ L H2, Kp [] H1 H2 → H1 L = none → H2 L = some (.lst []) → ∃ Pv : Nat → Hp → Prop, Pv 0 H2 ∧
      (∀ t H', t < j.toNat → Pv t H' → XTurn X sc scope N Vs' G' k nm ifs elt σ (.int t) H' L (Pv (t + 1))) ∧ ∀ H', Pv j.toNat H' → Q (.ref L) H')
    (hst : starEach [a] X.env = [(false, eval a X.env)] := by rfl) : XLC X elt (.Name nm p1) (.Call (.Name "range" p2) [a] [] pos) ifs scope σ H Q := by
  refine ⟨_, gName i, ttC X scope ifs, teC X scope elt, [(nm, i)], pi_range1 (C.gl hg) hm XA.pa hst, blkOk_by (by rw [C.hN, C.esc]; exact O.blk), fun _ _ _ _ _ => pg_blk C O.hN O.own, fun _ _ _ _ _ => pts_blk O.one, fun _ _ _ _ _ => pe_blk,
    fun σ H R R' m h => h.mono fun vs H1 ⟨j, e, h1, h2, q⟩ => ⟨j, e, h1, h2, m _ _ q⟩, ?_⟩
  refine h.mono fun vs H1 ⟨j, e, h1, h2, h⟩ => ⟨j, e, h1, h2, fun L hL => ?_⟩
  obtain ⟨Pv, h0, hs, hd⟩ := h L _ (Kp.new hL) hL upd_same
  refine lc_range (lo := 0) (n := j.toNat) Pv h0 (fun t H' ht p => ?_) hd
  rw [Int.zero_add]
  exact turn_ok C O.hN O.rd O.knd O.one (hs t H' ht p)
theorem xlc_L (C : Ctx X sc N Vs Ls G k) (O : LcOk sc scope N Vs' G' nm i ifs)
    (h : XE X iter σ H fun v H1 => ∃ a xs, v = .ref a ∧ SqL X.K H1 a xs ∧ ∀ L H2, Kp [] H1 H2 → H1 L = none → H2 L = some (.lst []) → ∃ Pv : Nat → Hp → Prop, Pv 0 H2 ∧ (∀ t H', t ≤ xs.length → Pv t H' → SqL X.K H' a xs) ∧
      (∀ t y H', xs[t]? = some y → Pv t H' → XTurn X sc scope N Vs' G' k nm ifs elt σ y H' L (Pv (t + 1))) ∧ ∀ H', Pv xs.length H' → Q (.ref L) H') : XLC X elt (.Name nm p1) iter ifs scope σ H Q := by
  refine ⟨_, gName i, ttC X scope ifs, teC X scope elt, [(nm, i)], pi_list XE.pe, blkOk_by (by rw [C.hN, C.esc]; exact O.blk), fun _ _ _ _ _ => pg_blk C O.hN O.own, fun _ _ _ _ _ => pts_blk O.one, fun _ _ _ _ _ => pe_blk,
    fun σ H R R' m h => h.mono fun v H1 ⟨a, e, h1, q⟩ => ⟨a, e, h1, m _ _ q⟩, ?_⟩
  refine h.mono fun v H1 ⟨a, xs, e, hx, h⟩ => ⟨a, e, ⟨xs, hx⟩, fun L hL => ?_⟩
  obtain ⟨Pv, h0, hl, hs, hd⟩ := h L _ (Kp.new hL) hL upd_same
  exact lc_list (K := X.K) (a := a) (xs := xs) Pv h0 hl (fun t y H' ht p => turn_ok C O.hN O.rd O.knd O.one (hs t y H' ht p)) hd
end

/-! ## a def and its body -/
def st0 : List Str → List V → St
  | [], _ => []
  | _ :: N, v :: vs => some v :: st0 N vs
  | _ :: N, [] => none :: st0 N []
theorem st0_nil : ∀ N : List Str, st0 N [] = List.replicate N.length none
  | [] => rfl
  | _ :: N => by show none :: st0 N [] = _; rw [st0_nil N]; rfl
theorem start_eq : ∀ (N : List Str) (vs : List V), vs.length ≤ N.length → start N vs = st0 N vs
  | [], [], _ => rfl
  | [], _ :: _, h => by simp at h
  | x :: N, [], _ => by rw [st0_nil]; rfl
  | x :: N, v :: vs, h => by
    show some v :: (vs.map some ++ List.replicate (N.length + 1 - (vs.length + 1)) none) = some v :: st0 N vs
    rw [← start_eq N vs (by simpa using h), Nat.add_sub_add_right]; rfl
/-- where a def stands -/
structure DefAt (K : PySem.W.Frag) (mg : Str → Option Value) (x qual : Str) (st : Stmt) (ps : List Str) : Prop where
  ex : ∃ f fd, Fun K x qual st f fd ∧ mg x = some (.ref f) ∧ Binds K fd ps []
end
section
variable {P : Program} {w : World} {K : PySem.W.Frag} {mg : Str → Option Value} {base : Heap}
theorem fnOk_by {x qual : Str} {st : Stmt} {f : Addr} {fd : FuncData} {N Vs ps G : List Str} {k : Nat} {sp : Sp} (F : Fun K x qual st f fd) (S : FnScope N ps (defScope st)) (ok : okC (defScope st) Vs Vs G = true) (len : ∀ vs H Q E, sp vs H Q E → vs.length = ps.length)
    (hbody : ∀ X : Cx, X.prog = P → X.w = w → X.K = K → X.mg = mg → X.base = base → Ctx X (defScope st) N Vs Vs G k → ∀ (H : Hp) (vs : List V) (Q : VK) (E : XK), sp vs H Q E → XB X (defBody st) (fun _ H' => Q .non H') ⟨Q, fun _ _ => False, fun _ _ => False⟩ (st0 N vs) H) :
    FnOk P w K mg base CX0 (k + 1) f fd ps sp := by
  refine F.ok S len (fun cdv A outer s H vs Q E hr h => ?_)
  have hl : vs.length ≤ N.length := by
    rw [len vs H Q E h]
    have := S.pre
    rw [← this, List.length_take]; exact Nat.min_le_right _ _
  rw [start_eq N vs hl]
  obtain ⟨t, h1, q⟩ := hbody ((cxOf CX0 P w K mg base N qual (defScope st) f cdv A outer s H E).nox) rfl rfl rfl rfl rfl ⟨rfl, S.nd, rfl, ok, rfl, fun _ _ => rfl, PassesOwn.never, S.kind, hr⟩ H vs Q E h
  exact ⟨t, h1, q⟩
theorem DefOk.by {x qual : Str} {st : Stmt} {N Vs ps G : List Str} {k : Nat} {sp : Sp} (F : DefAt K mg x qual st ps) (S : FnScope N ps (defScope st)) (ok : okC (defScope st) Vs Vs G = true) (len : ∀ vs H Q E, sp vs H Q E → vs.length = ps.length)
    (hbody : ∀ X : Cx, X.prog = P → X.w = w → X.K = K → X.mg = mg → X.base = base → Ctx X (defScope st) N Vs Vs G k → ∀ (H : Hp) (vs : List V) (Q : VK) (E : XK), sp vs H Q E → XB X (defBody st) (fun _ H' => Q .non H') ⟨Q, fun _ _ => False, fun _ _ => False⟩ (st0 N vs) H) :
    DefOk P w K mg base x ps (k + 1) sp := by
  obtain ⟨f, fd, F, hm, hb⟩ := F.ex
  exact ⟨f, fd, fnOk_by F S ok len hbody, hm, F.kp, hb⟩
/-- a class of the module that is made by its __init__ -/
structure ClsOk (P : Program) (w : World) (K : PySem.W.Frag) (mg : Str → Option Value) (base : Heap) (x : Str) (C : Addr) (ps : List Str) (k : Nat) (sp : Sp) : Prop where
  ex : ∃ f fd, FnOk P w K mg base CX0 k f fd ps sp ∧ mg x = some (.ref C) ∧ Mk K C f ∧ Binds K fd ps []
theorem xe_make {X : Cx} {sc : Scope} {N Vs Ls G : List Str} {k k' : Nat} {x : Str} {C : Addr} {ps : List Str} {sp : Sp} {a : Expr} {es : List Expr} {p1 pos : Pos} {σ : St} {H : Hp} {Q : VK} (Cc : Ctx X sc N Vs Ls G k) (F : ClsOk X.prog X.w X.K X.mg X.base x C ps k' sp) (hg : Mem G x) (hk : k' + 1 ≤ k)
    (h : XA X (a :: es) σ H fun vs H1 => ∀ z dx, H1 z = none → H1 dx = none → dx ≠ z → sp (.ref z :: vs) (upd (upd H1 dx (.own z)) z (.ins C dx [])) (fun v H2 => v = .non ∧ Q (.ref z) H2) E0)
    (hdb : (x == ("__debug__" : Str)) = false := by decide) (he : starEach (a :: es) X.env = (false, eval a X.env) :: starEach es X.env := by rfl) (hpl : (backTo pos (starEach es X.env)).any (·.1) = false := by rfl) : XE X (.Call (.Name x p1) (a :: es) [] pos) σ H Q := by
  obtain ⟨f, fd, F, hm, M, b⟩ := F.ex
  refine ⟨_, pe_make M F (Cc.room.mono hk) (Cc.gl hg) hm b .nil pass0 XA.pa hdb he hpl, ?_⟩
  refine XA.mono h fun vs H1 q z dx h1 h2 h3 => ?_
  rw [List.append_nil]; exact q z dx h1 h2 h3
/-- an instance: its own dict besides -/
theorem Kp.made {H : Hp} {z dx C : Addr} (h1 : H z = none) (h2 : H dx = none) (h3 : dx ≠ z) : Kp [] H (upd (upd H dx (.own z)) z (.ins C dx [])) :=
  (Kp.new h2).tr0 (Kp.new (by rw [upd_ne (Ne.symm h3)]; exact h1))
/-- o.f = v -/
theorem xs_fld {X : Cx} {o value : Expr} {f : Str} {p1 pos : Pos} {σ : St} {H : Hp} {nx : St → Hp → Prop} {D : B3} (h : XE X value σ H fun y H1 => XE X o σ H1 fun z H2 => ∃ a C dx fs, z = .ref a ∧ H2 a = some (.ins C dx fs) ∧ Cls X.K C ∧ NoAttr X.K C f ∧ fs.length < 1000 ∧ ∀ H', Kp [a] H2 H' → H' a = some (.ins C dx (putF f y fs)) → nx σ H')
    (hs : swapsWith value (some (.Attribute o f p1)) pos.line X.env = pure false := by rfl) : XS X (.Assign [.Attribute o f p1] value pos) nx D σ H := by
  refine ⟨_, ps_fld XE.pe XE.pe hs, ?_⟩
  refine XE.mono h fun y H1 h => XE.mono h fun z H2 ⟨a, C, dx, fs, e, ha, c, n, l, q⟩ => ⟨a, C, dx, fs, e, ha, c, n, l, ?_⟩
  exact q _ (Kp.set ha rfl) upd_same

end

/-! ## data of any depth -/
theorem canLay_ints : ∀ ns : List Int, PyData.canLayAll0 (ns.map PyData.int) = true
  | [] => by simp [PyData.canLayAll0]
  | n :: ns => by simp [PyData.canLayAll0, PyData.canLay0, canLay_ints ns]
theorem depth_ints : ∀ ns : List Int, PyData.depthAll (ns.map PyData.int) = 0
  | [] => by simp [PyData.depthAll]
  | n :: ns => by simp [PyData.depthAll, PyData.depth, depth_ints ns]
theorem shT (ns : List Int) : SeqAt.shaped (.tuple (ns.map PyData.int)) = true := by simp [SeqAt.shaped, PyData.canLay0, PyData.depth, canLay_ints, depth_ints]
theorem shL (ns : List Int) : SeqAt.shaped (.list (ns.map PyData.int)) = true := by simp [SeqAt.shaped, PyData.canLay0, PyData.depth, canLay_ints, depth_ints]
theorem dpAll_ints {K : PySem.W.Frag} {H : Hp} : ∀ ns : List Int, DpAll K H (ns.map V.int) (ns.map PyData.int)
  | [] => .nil
  | n :: ns => .cons (.int n) (dpAll_ints ns)
theorem dp_T {K : PySem.W.Frag} {H : Hp} {p : Addr} {ns : List Int} (h : SqT K H p (ns.map V.int)) : Dp K H (.ref p) (.tuple (ns.map PyData.int)) := .tup h (dpAll_ints ns)
theorem dp_L {K : PySem.W.Frag} {H : Hp} {p : Addr} {ns : List Int} (h : SqL K H p (ns.map V.int)) : Dp K H (.ref p) (.list (ns.map PyData.int)) := .lst h (dpAll_ints ns)
mutual
theorem dp_kp {K : PySem.W.Frag} {H H' : Hp} (k : Kp [] H H') : ∀ {d : PyData} {v : V}, Dp K H v d → Dp K H' v d
  | _, _, .non => .non
  | _, _, .bl b => .bl b
  | _, _, .int i => .int i
  | _, _, .str x => .str x
  | _, _, .lst h a => .lst (k.lst0 h) (dpAll_kp k a)
  | _, _, .tup h a => .tup (k.tup h) (dpAll_kp k a)
theorem dpAll_kp {K : PySem.W.Frag} {H H' : Hp} (k : Kp [] H H') : ∀ {ds : List PyData} {vs : List V}, DpAll K H vs ds → DpAll K H' vs ds
  | _, _, .nil => .nil
  | _, _, .cons h a => .cons (dp_kp k h) (dpAll_kp k a)
end
theorem eqv_T (ns ms : List Int) : PyData.eqv (.tuple (ns.map PyData.int)) (.tuple (ms.map PyData.int)) = decide (ns = ms) := by rw [PyData.eqv, PySem.W.ked_eqvAll]
theorem eqv_L (ns ms : List Int) : PyData.eqv (.list (ns.map PyData.int)) (.list (ms.map PyData.int)) = decide (ns = ms) := by rw [PyData.eqv, PySem.W.ked_eqvAll]
section
variable {X : Cx} {σ : St} {H : Hp} {Q : VK} {N Vs Ls G : List Str} {k : Nat} {sc : Scope} {v u : V} {d e : PyData} {p q : Addr} {ns ms : List Int}
theorem vo_eqD (C : Ctx X sc N Vs Ls G k) (hd : Dp X.K H v d) (he : Dp X.K H u e) (sd : SeqAt.shaped d = true) (se : SeqAt.shaped e = true) (h : Q (.bl (PyData.eqv d e)) H) : VO X (compareOp .Eq) v u H Q := ⟨_, op_eqD C.room.units, d, e, hd, he, sd, se, h⟩
theorem vo_neD (C : Ctx X sc N Vs Ls G k) (hd : Dp X.K H v d) (he : Dp X.K H u e) (sd : SeqAt.shaped d = true) (se : SeqAt.shaped e = true) (h : Q (.bl (!PyData.eqv d e)) H) : VO X (compareOp .NotEq) v u H Q := ⟨_, op_neD C.room.units, d, e, hd, he, sd, se, h⟩
theorem vo_eqSame (C : Ctx X sc N Vs Ls G k) (hd : Dp X.K H v d) (he : Dp X.K H u d) (sd : SeqAt.shaped d = true) (h : Q (.bl true) H) : VO X (compareOp .Eq) v u H Q := vo_eqD C hd he sd sd (by rw [SeqAt.eqv_refl d (SeqAt.canLay_of_shaped sd)]; exact h)
theorem vo_neSame (C : Ctx X sc N Vs Ls G k) (hd : Dp X.K H v d) (he : Dp X.K H u d) (sd : SeqAt.shaped d = true) (h : Q (.bl false) H) : VO X (compareOp .NotEq) v u H Q := vo_neD C hd he sd sd (by rw [SeqAt.eqv_refl d (SeqAt.canLay_of_shaped sd)]; exact h)
theorem vo_eqT (C : Ctx X sc N Vs Ls G k) (hd : SqT X.K H p (ns.map V.int)) (he : SqT X.K H q (ms.map V.int)) (h : Q (.bl (decide (ns = ms))) H) : VO X (compareOp .Eq) (.ref p) (.ref q) H Q := vo_eqD C (dp_T hd) (dp_T he) (shT _) (shT _) (by rw [eqv_T]; exact h)
theorem vo_neT (C : Ctx X sc N Vs Ls G k) (hd : SqT X.K H p (ns.map V.int)) (he : SqT X.K H q (ms.map V.int)) (h : Q (.bl (!decide (ns = ms))) H) : VO X (compareOp .NotEq) (.ref p) (.ref q) H Q := vo_neD C (dp_T hd) (dp_T he) (shT _) (shT _) (by rw [eqv_T]; exact h)
theorem vo_eqI (C : Ctx X sc N Vs Ls G k) (hd : SqL X.K H p (ns.map V.int)) (he : SqL X.K H q (ms.map V.int)) (h : Q (.bl (decide (ns = ms))) H) : VO X (compareOp .Eq) (.ref p) (.ref q) H Q := vo_eqD C (dp_L hd) (dp_L he) (shL _) (shL _) (by rw [eqv_L]; exact h)
theorem vo_neI (C : Ctx X sc N Vs Ls G k) (hd : SqL X.K H p (ns.map V.int)) (he : SqL X.K H q (ms.map V.int)) (h : Q (.bl (!decide (ns = ms))) H) : VO X (compareOp .NotEq) (.ref p) (.ref q) H Q := vo_neD C (dp_L hd) (dp_L he) (shL _) (shL _) (by rw [eqv_L]; exact h)
end

/-- the body of a for, of a while -/
def forBody : Stmt → List Stmt
  | .For _ _ b _ _ => b
  | .While _ b _ _ => b
  | _ => []
/-- what a return returns -/
def retE : Stmt → Expr
  | .Return (some e) _ => e
  | _ => .Constant .none 0 ⟨0, 0, 0, 0⟩
def ifBody : Stmt → List Stmt
  | .If _ b _ _ => b
  | _ => []
def ifElse : Stmt → List Stmt
  | .If _ _ b _ => b
  | _ => []
/-! ## a list or a tuple; types -/
def Sq (K : PySem.W.Frag) (H : Hp) (p : Addr) (xs : List V) : Prop := SqL K H p xs ∨ SqT K H p xs
theorem vc_lenS {X : Cx} {H : Hp} {Q : VK} {p : Addr} {xs : List V} (hx : Sq X.K H p xs) (h : Q (.int xs.length) H) : VC X (.builtin "len") [.ref p] H Q := hx.elim (fun z => vc_lenL z h) fun z => vc_lenT z h
theorem vx_S {X : Cx} {H : Hp} {Q : VK} {p : Addr} {xs : List V} {i : Int} {v : V} (hx : Sq X.K H p xs) (hi : atI xs i = some v) (h : Q v H) : VX X (.ref p) (.int i) H Q := hx.elim (fun z => vx_lst z hi h) fun z => vx_tup z hi h
theorem ty_T {K : PySem.W.Frag} {H : Hp} {p : Addr} {xs : List V} (h : SqT K H p xs) : TyX K H (.ref p) (.type "tuple") := by
  rcases h with (h | ⟨o, h⟩) | ⟨o, its, n, h1, h2, _⟩
  · exact .base (.tup h)
  · exact .fTuple h
  · exact .kTuple h1 h2
theorem ty_L {K : PySem.W.Frag} {H : Hp} {p : Addr} {xs : List V} (h : SqL K H p xs) : TyX K H (.ref p) (.type "list") := by
  rcases h with (h | ⟨o, h⟩) | ⟨o, its, n, h1, h2, _⟩
  · exact .base (.lst h)
  · exact .base (.frz h)
  · exact .kList h1 h2
theorem dpAll_len {K : PySem.W.Frag} {H : Hp} : ∀ {vs : List V} {ds : List PyData}, DpAll K H vs ds → vs.length = ds.length
  | _, _, .nil => rfl
  | _, _, .cons _ a => by rw [List.length_cons, List.length_cons, dpAll_len a]
theorem dpAll_at {K : PySem.W.Frag} {H : Hp} : ∀ {vs : List V} {ds : List PyData} {i : Nat} {d : PyData}, DpAll K H vs ds → ds[i]? = some d → ∃ v, vs[i]? = some v ∧ Dp K H v d
  | _, _, _, _, .nil, e => by simp at e
  | _, _, 0, _, .cons h _, e => ⟨_, rfl, by simp at e; rw [← e]; exact h⟩
  | _, _, i + 1, _, .cons _ a, e => by
    obtain ⟨v, h1, h2⟩ := dpAll_at (i := i) a (by simpa using e)
    exact ⟨v, by simpa using h1, h2⟩
theorem depth_at : ∀ {ds : List PyData} {i : Nat} {d : PyData}, ds[i]? = some d → PyData.depth d ≤ PyData.depthAll ds
  | [], _, _, e => by simp at e
  | x :: xs, 0, d, e => by
    have e' : x = d := by simpa using e
    rw [PyData.depthAll, e']; omega
  | x :: xs, i + 1, d, e => by
    have := depth_at (ds := xs) (i := i) (d := d) (by simpa using e)
    rw [PyData.depthAll]; omega

/-! ## small things of tests -/
theorem ite_d {p A B : Prop} [Decidable p] (h1 : p → A) (h2 : ¬ p → B) : if decide p = true then A else B := by
  by_cases h : p
  · rw [if_pos (decide_eq_true h)]; exact h1 h
  · rw [if_neg (by simp [h])]; exact h2 h
theorem ite_nd {p A B : Prop} [Decidable p] (h1 : ¬ p → A) (h2 : p → B) : if (!decide p) = true then A else B := by
  by_cases h : p
  · rw [if_neg (by simp [h])]; exact h2 h
  · rw [if_pos (by simp [h])]; exact h1 h
theorem ite_b {c : Bool} {A B : Prop} (h1 : c = true → A) (h2 : c = false → B) : if c = true then A else B := by
  cases c with
  | true => exact iteT (h1 rfl)
  | false => exact iteF (h2 rfl)
theorem ite_NT {A B : Prop} (h : B) : if (!true) = true then A else B := h
theorem ite_NF {A B : Prop} (h : A) : if (!false) = true then A else B := h
theorem ex_bl {c : Bool} {R : Bool → Prop} (h : R c) : ∃ k, V.bl c = V.bl k ∧ R k := ⟨c, rfl, h⟩
theorem tr_bl {K : PySem.W.Frag} {c : Bool} {H : Hp} {R : Bool → Prop} (h : R c) : ∃ k, TruV K (.bl c) H k ∧ R k := ⟨c, rfl, h⟩
theorem at0 {α : Type} {a : α} {l : List α} : atI (a :: l) 0 = some a := atI_nat (j := 0) rfl
theorem at1 {α : Type} {a b : α} {l : List α} : atI (a :: b :: l) 1 = some b := atI_nat (j := 1) rfl
theorem at2 {α : Type} {a b c : α} {l : List α} : atI (a :: b :: c :: l) 2 = some c := atI_nat (j := 2) rfl
theorem at3 {α : Type} {a b c d : α} {l : List α} : atI (a :: b :: c :: d :: l) 3 = some d := atI_nat (j := 3) rfl
theorem at4 {α : Type} {a b c d e : α} {l : List α} : atI (a :: b :: c :: d :: e :: l) 4 = some e := atI_nat (j := 4) rfl
theorem at5 {α : Type} {a b c d e f : α} {l : List α} : atI (a :: b :: c :: d :: e :: f :: l) 5 = some f := atI_nat (j := 5) rfl
theorem ix0 {n : Nat} : ixN (n + 1) 0 = some 0 := by
  unfold ixN; rw [if_pos (by decide), if_pos (by omega)]; rfl
theorem ix1 {n : Nat} : ixN (n + 2) 1 = some 1 := by
  unfold ixN; rw [if_pos (by decide), if_pos (by omega)]; rfl
theorem sz_ {n : Nat} (h : n ≤ 100000) : n ≤ sizeLine := Nat.le_trans h (by decide)
theorem szl {n : Nat} (h : n < 100000) : n < sizeLine := Nat.lt_of_lt_of_le h (by decide)
theorem sz_lt_ {n : Nat} (h : n < 100000) : n < sizeLine := szl h
theorem cmulL {i j : Int} (h : -(2 ^ 64) < i ∧ i < 2 ^ 64) : CMul i j := .inl h
theorem cmulR {i j : Int} (h : -(2 ^ 64) < j ∧ j < 2 ^ 64) : CMul i j := .inr h
theorem map_at {ns : List Int} {i : Nat} {y : V} (h : (ns.map V.int)[i]? = some y) : ∃ n, ns[i]? = some n ∧ y = .int n := by
  rw [List.getElem?_map] at h
  cases e : ns[i]? with
  | none => rw [e] at h; cases h
  | some n => rw [e] at h; exact ⟨n, rfl, (Option.some.inj h).symm⟩
theorem at_map {ns : List Int} {i : Int} {n : Int} (h0 : 0 ≤ i) (h : ns[i.toNat]? = some n) : atI (ns.map V.int) i = some (.int n) := by
  have e : i = (i.toNat : Int) := by omega
  rw [e]; exact atI_nat (by rw [List.getElem?_map, h]; rfl)

section
variable {X : Cx} {H : Hp} {Q : VK} {p : Addr} {a b c d e f : V} {l : List V}
theorem vx_t0 (hx : SqT X.K H p (a :: l)) (h : Q a H) : VX X (.ref p) (.int 0) H Q := vx_tup hx at0 h
theorem vx_t1 (hx : SqT X.K H p (a :: b :: l)) (h : Q b H) : VX X (.ref p) (.int 1) H Q := vx_tup hx at1 h
theorem vx_t2 (hx : SqT X.K H p (a :: b :: c :: l)) (h : Q c H) : VX X (.ref p) (.int 2) H Q := vx_tup hx at2 h
theorem vx_t3 (hx : SqT X.K H p (a :: b :: c :: d :: l)) (h : Q d H) : VX X (.ref p) (.int 3) H Q := vx_tup hx at3 h
theorem vx_t4 (hx : SqT X.K H p (a :: b :: c :: d :: e :: l)) (h : Q e H) : VX X (.ref p) (.int 4) H Q := vx_tup hx at4 h
theorem vx_t5 (hx : SqT X.K H p (a :: b :: c :: d :: e :: f :: l)) (h : Q f H) : VX X (.ref p) (.int 5) H Q := vx_tup hx at5 h
theorem vx_l0 (hx : SqL X.K H p (a :: l)) (h : Q a H) : VX X (.ref p) (.int 0) H Q := vx_lst hx at0 h
theorem vx_l1 (hx : SqL X.K H p (a :: b :: l)) (h : Q b H) : VX X (.ref p) (.int 1) H Q := vx_lst hx at1 h
theorem vx_l2 (hx : SqL X.K H p (a :: b :: c :: l)) (h : Q c H) : VX X (.ref p) (.int 2) H Q := vx_lst hx at2 h
theorem vx_l3 (hx : SqL X.K H p (a :: b :: c :: d :: l)) (h : Q d H) : VX X (.ref p) (.int 3) H Q := vx_lst hx at3 h
end
/-! ## facts that a frame of new things carries over -/
theorem Kp.lstN {K : PySem.W.Frag} {A : List Addr} {H H' : Hp} {p : Addr} {xs : List V} (a : Kp A H H') (n : ∀ l ∈ A, H l = none) (h : SqL K H p xs) : SqL K H' p xs := by
  rcases h with (h | ⟨o, h⟩) | h
  · exact .inl (.inl (a.k _ _ (fun m => by rw [n _ m] at h; cases h) (fun _ z => nomatch z) h))
  · exact .inl (.inr ⟨o, a.z _ _ _ h⟩)
  · exact .inr h
theorem Kp.atN {A : List Addr} {H H' : Hp} {p : Addr} {o : HO} (a : Kp A H H') (n : ∀ l ∈ A, H l = none) (h : H p = some o) [nt : NTc o] : H' p = some o := a.k _ _ (fun m => by rw [n _ m] at h; cases h) nt.nt h
mutual
theorem dp_kpN {K : PySem.W.Frag} {A : List Addr} {H H' : Hp} (k : Kp A H H') (n : ∀ l ∈ A, H l = none) : ∀ {d : PyData} {v : V}, Dp K H v d → Dp K H' v d
  | _, _, .non => .non
  | _, _, .bl b => .bl b
  | _, _, .int i => .int i
  | _, _, .str x => .str x
  | _, _, .lst h a => .lst (k.lstN n h) (dpAll_kpN k n a)
  | _, _, .tup h a => .tup (k.tup h) (dpAll_kpN k n a)
theorem dpAll_kpN {K : PySem.W.Frag} {A : List Addr} {H H' : Hp} (k : Kp A H H') (n : ∀ l ∈ A, H l = none) : ∀ {ds : List PyData} {vs : List V}, DpAll K H vs ds → DpAll K H' vs ds
  | _, _, .nil => .nil
  | _, _, .cons h a => .cons (dp_kpN k n h) (dpAll_kpN k n a)
end
class Car (H H' : Hp) (P : Prop) (P' : outParam Prop) : Prop where
  kp : ∀ {A : List Addr}, Kp A H H' → (∀ l ∈ A, H l = none) → P → P'
theorem car {H H' : Hp} {P P' : Prop} [c : Car H H' P P'] (k : Kp [] H H') (h : P) : P' := c.kp k (fun _ m => nomatch m) h
theorem carN {H H' : Hp} {P P' : Prop} {L : Addr} [c : Car H H' P P'] (k : Kp [L] H H') (n : H L = none) (h : P) : P' := c.kp k (fun l m => by rw [List.mem_singleton.mp m]; exact n) h
section
variable {H H' : Hp}
instance {K : PySem.W.Frag} {p : Addr} {xs : List V} : Car H H' (SqT K H p xs) (SqT K H' p xs) := ⟨fun k _ h => k.tup h⟩
instance {K : PySem.W.Frag} {p : Addr} {xs : List V} : Car H H' (SqL K H p xs) (SqL K H' p xs) := ⟨fun k n h => k.lstN n h⟩
instance {p : Addr} {o : HO} [NTc o] : Car H H' (H p = some o) (H' p = some o) := ⟨fun k n h => k.atN n h⟩
instance {K : PySem.W.Frag} {v : V} {d : PyData} : Car H H' (Dp K H v d) (Dp K H' v d) := ⟨fun k n h => dp_kpN k n h⟩
instance {K : PySem.W.Frag} {v : List V} {d : List PyData} : Car H H' (DpAll K H v d) (DpAll K H' v d) := ⟨fun k n h => dpAll_kpN k n h⟩
/-- a frame that is not searched -/
def Fr (A : List Addr) (H H' : Hp) : Prop := Kp A H H'
theorem Fr.k {A : List Addr} {H H' : Hp} (h : Fr A H H') : Kp A H H' := h
instance {A : List Addr} {H0 : Hp} : Car H H' (Fr A H0 H) (Fr A H0 H') := ⟨fun k n h => (h.k.tr k fun l m => .inr (h.k.n _ (n l m)) : Kp A H0 H')⟩
instance {A : List Addr} {H0 : Hp} : Car H H' (Kp A H0 H ∧ True) (Kp A H0 H' ∧ True) := ⟨fun k n h => ⟨h.1.tr k fun l m => .inr (h.1.n _ (n l m)), trivial⟩⟩
end

end Z
/-! ## the walk: "m" a name is there, "a" its value, "u" its store, "kp" what still stands, "s" one step, "w" many -/

set_option hygiene false
local macro_rules | `(tactic| wtm_at "m") => `(tactic| first | with_reducible exact Z.Mem.z | (with_reducible refine Z.Mem.s ?_; wtm_at "m") | fail)
local macro_rules | `(tactic| wtm_at "a") => `(tactic| first | with_reducible exact Z.At.z | ((with_reducible show Z.At (_ :: _) _ _ _); with_reducible exact Z.At.s (by wtm_at "a")) | fail)
local macro_rules | `(tactic| wtm_at "u") => `(tactic| first | with_reducible exact Z.Put.z | ((with_reducible show Z.Put (_ :: _) _ _ _ _); with_reducible exact Z.Put.s (by wtm_at "u")) | fail)
local macro_rules | `(tactic| wtm_at "kq") => `(tactic| first | with_reducible assumption | ((with_reducible show SqT _ _ _ _); with_reducible exact Z.Kp.tup (by assumption) (by wtm_at "kq")) | ((with_reducible show SqL _ _ _ _); with_reducible exact Z.Kp.lst0 (by assumption) (by wtm_at "kq")) | ((with_reducible show SqT _ _ _ _); with_reducible exact Z.Kp.tup (Z.Fr.k hid) (by assumption)) | with_reducible exact Z.SqL.of' W.hw | with_reducible exact Z.SqL.of' W.h1 | with_reducible exact W.hm | ((with_reducible show _ = some _); with_reducible exact Z.Kp.at0 (by assumption) (by wtm_at "kq")) | ((with_reducible show SqL _ _ _ _); with_reducible exact Z.SqL.of' (by wtm_at "kq")) | ((with_reducible show SqT _ _ _ _); with_reducible exact Z.SqT.of' (by wtm_at "kq")) | fail)
local macro_rules | `(tactic| wtm_at "kp") => `(tactic| first | with_reducible assumption | ((with_reducible show SqT _ _ _ _); with_reducible exact Z.Kp.tup (by assumption) (by wtm_at "kp")) | ((with_reducible show SqL _ _ _ _); with_reducible exact Z.Kp.lst0 (by assumption) (by wtm_at "kp")) | ((with_reducible show SqT _ _ _ _); with_reducible exact Z.Kp.tup (Z.Fr.k hid) (by assumption)) | with_reducible exact Z.SqL.of' W.hw | with_reducible exact Z.SqL.of' W.h1 | with_reducible exact W.hm | ((with_reducible show _ = some _); with_reducible exact Z.Kp.at0 (by assumption) (by wtm_at "kp")) | ((with_reducible show SqL _ _ _ _); with_reducible exact Z.SqL.of' (by wtm_at "kp")) | ((with_reducible show SqT _ _ _ _); with_reducible exact Z.SqT.of' (by wtm_at "kp")) | assumption | fail)
/-! a statement or an expression, by its form; a value, by its form; facts that are there -/
local macro_rules | `(tactic| wtm_at "v") => `(tactic| first | ((with_reducible show Z.VX _ (L2.V.ref _) (L2.V.int 0) _ _); with_reducible refine Z.vx_t0 (by wtm_at "kq") ?_) | ((with_reducible show Z.VX _ (L2.V.ref _) (L2.V.int 1) _ _); with_reducible refine Z.vx_t1 (by wtm_at "kq") ?_) | ((with_reducible show Z.VX _ (L2.V.ref _) (L2.V.int 2) _ _); with_reducible refine Z.vx_t2 (by wtm_at "kq") ?_) | ((with_reducible show Z.VX _ (L2.V.ref _) (L2.V.int 3) _ _); with_reducible refine Z.vx_t3 (by wtm_at "kq") ?_) | ((with_reducible show Z.VX _ (L2.V.ref _) (L2.V.int 4) _ _); with_reducible refine Z.vx_t4 (by wtm_at "kq") ?_) | ((with_reducible show Z.VX _ (L2.V.ref _) (L2.V.int 5) _ _); with_reducible refine Z.vx_t5 (by wtm_at "kq") ?_) | ((with_reducible show Z.VX _ (L2.V.ref _) (L2.V.int 0) _ _); with_reducible refine Z.vx_l0 (by wtm_at "kq") ?_) | ((with_reducible show Z.VX _ (L2.V.ref _) (L2.V.int 1) _ _); with_reducible refine Z.vx_l1 (by wtm_at "kq") ?_) | ((with_reducible show Z.VX _ (L2.V.ref _) (L2.V.int 2) _ _); with_reducible refine Z.vx_l2 (by wtm_at "kq") ?_) | ((with_reducible show Z.VX _ (L2.V.ref _) (L2.V.int 3) _ _); with_reducible refine Z.vx_l3 (by wtm_at "kq") ?_) | ((with_reducible show Z.VC _ (PySem.Value.builtin "len") [L2.V.ref _] _ _); with_reducible refine Z.vc_lenL (by wtm_at "kq") ?_) | ((with_reducible show Z.VC _ (PySem.Value.builtin "len") [L2.V.ref _] _ _); with_reducible refine Z.vc_lenT (by wtm_at "kq") ?_) | ((with_reducible show Z.VT _ (L2.V.ref _) _ _); with_reducible refine Z.vt_tup (by wtm_at "kq") ?_) | ((with_reducible show Z.VT _ (L2.V.ref _) _ _); with_reducible refine Z.vt_lst (by wtm_at "kq") ?_) | ((with_reducible show Z.VO _ (PySem.binaryOp PySem.Operator.FloorDiv) _ _ _ _); refine Z.vo_fdiv (by exact ⟨by decide, by decide⟩) ?_) | ((with_reducible show Z.VO _ (PySem.binaryOp PySem.Operator.Mod) _ _ _ _); refine Z.vo_mod (by decide) ?_) | ((with_reducible show _ ∧ _); refine ⟨by exact Z.sz_ (by first | decide | (simp; done) | (simp; omega)), ?_⟩) | fail)
local macro_rules | `(tactic| wtm_at "d") => `(tactic| fail)
local macro_rules | `(tactic| wtm_at "s") => `(tactic| first | ((with_reducible show Z.XE _ _ _ _ _); first | ((with_reducible show Z.XE _ (PySem.Expr.Name _ _) _ _ _); first | ((with_reducible show Z.XE _ (PySem.Expr.Name _ _) _ _ _); refine Z.xe_var (by assumption) (by wtm_at "m") (by wtm_at "a") ?_) | wtm_at "d" | fail) | ((with_reducible show Z.XE _ (PySem.Expr.Constant _ _ _) _ _ _); first | with_reducible refine Z.xe_int ?_ | with_reducible refine Z.xe_bl ?_ | with_reducible refine Z.xe_non ?_ | wtm_at "d" | fail) | ((with_reducible show Z.XE _ (PySem.Expr.Call _ _ _ _) _ _ _); first | ((with_reducible show Z.XE _ (PySem.Expr.Call (PySem.Expr.Attribute _ "append" _) [_] [] _) _ _ _); refine Z.xe_append ?_) | wtm_at "d" | fail) | ((with_reducible show Z.XE _ (PySem.Expr.Subscript _ _ _) _ _ _); first | ((with_reducible show Z.XE _ (PySem.Expr.Subscript _ (PySem.Expr.Slice none none (some _) _) _) _ _ _); refine Z.xe_revL ?_) | ((with_reducible show Z.XE _ (PySem.Expr.Subscript _ (PySem.Expr.Slice _ _ none _) _) _ _ _); refine Z.xe_sl ?_) | ((with_reducible show Z.XE _ (PySem.Expr.Subscript _ _ _) _ _ _); refine Z.xe_ix ?_) | fail) | with_reducible refine Z.xe_bin ?_ | ((with_reducible show Z.XE _ (PySem.Expr.Compare _ [_] [_] _) _ _ _); refine Z.xe_cmp ?_) | with_reducible refine Z.xe_not ?_ | with_reducible refine Z.xe_un ?_ | with_reducible refine Z.xe_and ?_ | with_reducible refine Z.xe_or ?_ | with_reducible refine Z.xe_one ?_ | with_reducible refine Z.xe_tup ?_ | with_reducible refine Z.xe_lst ?_ | with_reducible refine Z.xe_ifExp ?_ | ((with_reducible show Z.XE _ (PySem.Expr.Compare _ [_, _] [_, _] _) _ _ _); refine Z.xe_chain ?_) | fail) | ((with_reducible show Z.VO _ _ _ _ _ _); first | with_reducible refine Z.vo_add ?_ | with_reducible refine Z.vo_sub ?_ | with_reducible refine Z.vo_lt ?_ | with_reducible refine Z.vo_le ?_ | with_reducible refine Z.vo_gt ?_ | with_reducible refine Z.vo_ge ?_ | with_reducible refine Z.vo_eq ?_ | with_reducible refine Z.vo_ne ?_ | with_reducible refine Z.vo_eqB ?_ | with_reducible refine Z.vo_neB ?_ | with_reducible refine Z.vo_isB ?_ | with_reducible refine Z.vo_isN ?_ | with_reducible refine Z.vo_notN ?_ | with_reducible refine Z.vo_notB ?_ | wtm_at "v" | fail) | ((with_reducible show Z.XS _ _ _ _ _ _); first | ((with_reducible show Z.XS _ (PySem.Stmt.Assign [PySem.Expr.Name _ _] _ _) _ _ _ _); (fail_if_success (with_reducible show Z.XS _ (PySem.Stmt.Assign [_] (PySem.Expr.ListComp _ _ _ _) _) _ _ _ _)); refine Z.xs_set (by assumption) ?_ (hx := by wtm_at "m") (hl := by wtm_at "m")) | with_reducible refine Z.xs_ret ?_ | ((with_reducible show Z.XS _ (PySem.Stmt.Expr _ _) _ _ _ _); refine Z.xs_expr ?_) | with_reducible refine Z.xs_if ?_ | with_reducible refine Z.xs_pass ?_ | with_reducible refine Z.xs_break ?_ | with_reducible refine Z.xs_cont ?_ | with_reducible refine Z.xs_retN ?_ | ((with_reducible show Z.XS _ (PySem.Stmt.AugAssign (PySem.Expr.Name _ _) _ _ _) _ _ _ _); refine Z.xs_aug (by assumption) (by wtm_at "a") (by wtm_at "m") ?_) | ((with_reducible show Z.XS _ (PySem.Stmt.Assign [PySem.Expr.Tuple _ _ _] (PySem.Expr.Call _ _ _ _) _) _ _ _ _); refine Z.xs_asg ?_) | ((with_reducible show Z.XS _ (PySem.Stmt.Assign [PySem.Expr.Tuple _ _ _] (PySem.Expr.IfExp _ _ _ _) _) _ _ _ _); refine Z.xs_asg ?_) | ((with_reducible show Z.XS _ (PySem.Stmt.Assign [PySem.Expr.Tuple _ _ _] (PySem.Expr.Name _ _) _) _ _ _ _); refine Z.xs_asg ?_) | fail) | ((with_reducible show Z.XB _ _ _ _ _ _); first | with_reducible refine Z.xb_cons ?_ | with_reducible refine Z.xb_nil ?_ | fail) | ((with_reducible show Z.XT _ _ _ _ _); first | ((with_reducible show Z.XT _ (PySem.Expr.Compare _ [_] [_] _) _ _ _); refine Z.xt_cmp ?_) | with_reducible refine Z.xt_bool ?_ | with_reducible refine Z.xt_not ?_ | ((with_reducible show Z.XT _ (PySem.Expr.Compare _ [_, _] [_, _] _) _ _ _); refine Z.xt_chain ?_) | ((with_reducible show Z.XT _ (PySem.Expr.Call _ _ _ _) _ _ _); refine Z.xt_val ?_) | ((with_reducible show Z.XT _ (PySem.Expr.Name _ _) _ _ _); refine Z.xt_val ?_) | ((with_reducible show Z.XT _ (PySem.Expr.Subscript _ _ _) _ _ _); refine Z.xt_val ?_) | ((with_reducible show Z.XT _ (PySem.Expr.Attribute _ _ _) _ _ _); refine Z.xt_val ?_) | ((with_reducible show Z.XT _ (PySem.Expr.Constant _ _ _) _ _ _); refine Z.xt_val ?_) | fail) | ((with_reducible show Z.VX _ _ _ _ _); first | wtm_at "v" | fail) | ((with_reducible show Z.VC _ _ _ _ _); first | with_reducible refine Z.vc_intB ?_ | with_reducible refine Z.vc_int ?_ | with_reducible refine Z.vc_abs ?_ | wtm_at "v" | fail) | ((with_reducible show Z.XA _ _ _ _ _); first | ((with_reducible show Z.XA _ (PySem.Expr.Starred _ _ :: _) _ _ _); refine Z.xa_star ?_) | ((with_reducible show Z.XA _ (_ :: _) _ _ _); refine Z.xa_cons ?_) | with_reducible refine Z.xa_nil ?_ | fail) | ((with_reducible show Z.VT _ _ _ _); first | with_reducible refine Z.vt_bl ?_ | with_reducible refine Z.vt_int ?_ | wtm_at "v" | fail) | ((with_reducible show Z.XW _ _ _ _ _); first | with_reducible refine Z.xw_and ?_ | with_reducible refine Z.xw_and1 ?_ | with_reducible refine Z.xw_or ?_ | with_reducible refine Z.xw_or1 ?_ | fail) | ((with_reducible show Z.XO _ _ _ _ _); first | with_reducible refine Z.xo_none ?_ | with_reducible refine Z.xo_some ?_ | fail) | ((with_reducible show Z.XG _ _ _ _ _ _); first | ((with_reducible show Z.XG _ (PySem.Expr.Name _ _) _ _ _ _); refine Z.xg_name (by assumption) (by wtm_at "m") (by wtm_at "m") ?_) | fail) | ((with_reducible show Z.XGs _ _ _ _ _ _); first | ((with_reducible show Z.XGs _ (_ :: _) _ _ _ _); refine Z.xgs_cons ?_) | with_reducible refine Z.xgs_nil ?_ | fail) | ((with_reducible show Z.VU _ _ _ _ _); first | with_reducible refine Z.vu_neg ?_ | fail) | ((with_reducible show Z.VIp _ _ _ _ _ _); first | with_reducible refine Z.vip_add ?_ | with_reducible refine Z.vip_sub ?_ | fail) | with_reducible refine Z.ex_bl ?_ | ((with_reducible show ∃ i, L2.V.int _ = L2.V.int i ∧ _); refine ⟨_, rfl, ?_⟩) | with_reducible refine L2.iteT ?_ | with_reducible refine L2.iteF ?_ | with_reducible refine Z.ite_NT ?_ | with_reducible refine Z.ite_NF ?_ | ((with_reducible show ∃ l xs, L2.V.ref _ = L2.V.ref l ∧ _ ∧ Z.XE _ _ _ _ _); refine ⟨_, _, rfl, by wtm_at "kp", ?_⟩) | ((with_reducible show ∃ _, Z.Put _ _ _ _ _ ∧ _); refine ⟨_, by wtm_at "u", ?_⟩) | ((with_reducible show _ ∧ _); wtm_at "v") | fail)
local macro_rules | `(tactic| wtm_at "w") => `(tactic| repeat wtm_at "s")
local macro_rules | `(tactic| wtm_at "ws") => `(tactic| repeat (first | wtm_at "s" | with_reducible refine Z.xe_str ?_ | with_reducible refine Law.vo_eqS ?_ | with_reducible refine Law.vo_neS ?_ | fail))


namespace Law
open PySem
open L2 hiding XE
open Z
def topS (i : Nat) : Stmt := PySem.Challenge.pw_sealround_k49_confirmed.main.body.getD i (.Pass ⟨0, 0, 0, 0⟩)
abbrev s_confirmed : Stmt := topS 1
theorem sc_confirmed : FnScope ["books", "needed", "service", "number", "digest", "having", "book"] ["books", "needed", "service", "number", "digest"] (defScope s_confirmed) := ⟨rfl, rfl, rfl, by decide +kernel, rfl, by decide +kernel, by decide +kernel⟩
theorem oc_confirmed : okC (defScope s_confirmed) ["books", "needed", "service", "number", "digest", "having"] ["books", "needed", "service", "number", "digest", "having"] ["len"] = true := by decide +kernel
abbrev s_both : Stmt := topS 2
theorem sc_both : FnScope ["books", "service", "number", "one", "two", "index", "book"] ["books", "service", "number", "one", "two"] (defScope s_both) := ⟨rfl, rfl, rfl, by decide +kernel, rfl, by decide +kernel, by decide +kernel⟩
theorem oc_both : okC (defScope s_both) ["books", "service", "number", "one", "two"] ["books", "service", "number", "one", "two"] ["enumerate"] = true := by decide +kernel
abbrev s__has : Stmt := topS 3
theorem sc__has : FnScope ["book", "service", "number", "digest", "wanted", "entry"] ["book", "service", "number", "digest"] (defScope s__has) := ⟨rfl, rfl, rfl, by decide +kernel, rfl, by decide +kernel, by decide +kernel⟩
theorem oc__has : okC (defScope s__has) ["book", "service", "number", "digest", "wanted"] ["book", "service", "number", "digest", "wanted"] ["any"] = true := by decide +kernel
abbrev s__law_cell : Stmt := topS 5
theorem sc__law_cell : FnScope ["script", "k"] ["script", "k"] (defScope s__law_cell) := ⟨rfl, rfl, rfl, by decide +kernel, rfl, by decide +kernel, by decide +kernel⟩
theorem oc__law_cell : okC (defScope s__law_cell) ["script", "k"] ["script", "k"] ["len"] = true := by decide +kernel
abbrev s__law_row : Stmt := topS 6
theorem sc__law_row : FnScope ["script", "first", "last", "row", "k", "cell", "turn"] ["script", "first", "last"] (defScope s__law_row) := ⟨rfl, rfl, rfl, by decide +kernel, rfl, by decide +kernel, by decide +kernel⟩
theorem oc__law_row : okC (defScope s__law_row) ["script", "first", "last", "row", "k", "cell", "turn"] ["script", "first", "last", "row", "k", "cell", "turn"] ["range", "_law_cell", "abs", "int"] = true := by decide +kernel
abbrev s__law_draw : Stmt := topS 7
theorem sc__law_draw : FnScope ["box", "many", "at"] ["box", "many"] (defScope s__law_draw) := ⟨rfl, rfl, rfl, by decide +kernel, rfl, by decide +kernel, by decide +kernel⟩
theorem oc__law_draw : okC (defScope s__law_draw) ["box", "many", "at"] ["box", "many", "at"] ["len", "int"] = true := by decide +kernel
abbrev s__law_is_integer : Stmt := topS 8
theorem sc__law_is_integer : FnScope ["told"] ["told"] (defScope s__law_is_integer) := ⟨rfl, rfl, rfl, by decide +kernel, rfl, by decide +kernel, by decide +kernel⟩
theorem oc__law_is_integer : okC (defScope s__law_is_integer) ["told"] ["told"] ["isinstance", "int", "bool"] = true := by decide +kernel
abbrev s__law_same : Stmt := topS 9
theorem sc__law_same : FnScope ["told", "due", "k"] ["told", "due"] (defScope s__law_same) := ⟨rfl, rfl, rfl, by decide +kernel, rfl, by decide +kernel, by decide +kernel⟩
theorem oc__law_same : okC (defScope s__law_same) ["told", "due", "k"] ["told", "due", "k"] ["isinstance", "bool", "int", "_law_is_integer", "str", "tuple", "list", "len", "range", "_law_same"] = true := by decide +kernel
abbrev s__law_books : Stmt := topS 10
theorem sc__law_books : FnScope ["box", "books", "k", "book", "i"] ["box"] (defScope s__law_books) := ⟨rfl, rfl, rfl, by decide +kernel, rfl, by decide +kernel, by decide +kernel⟩
theorem oc__law_books : okC (defScope s__law_books) ["box", "books", "k", "book", "i"] ["box", "books", "k", "book", "i"] ["range", "_law_draw"] = true := by decide +kernel
abbrev s__law_with : Stmt := topS 11
theorem sc__law_with : FnScope ["books", "service", "number", "value", "one", "k"] ["books", "service", "number", "value"] (defScope s__law_with) := ⟨rfl, rfl, rfl, by decide +kernel, rfl, by decide +kernel, by decide +kernel⟩
theorem oc__law_with : okC (defScope s__law_with) ["books", "service", "number", "value"] ["books", "service", "number", "value"] ["range", "len"] = true := by decide +kernel
abbrev s_law : Stmt := topS 12
theorem sc_law : FnScope ["script", "box", "books", "turn", "service", "number", "needed", "one", "two", "first", "second", "told", "shared", "k"] ["script"] (defScope s_law) := ⟨rfl, rfl, rfl, by decide +kernel, rfl, by decide +kernel, by decide +kernel⟩
theorem oc_law : okC (defScope s_law) ["script", "box", "books", "turn", "service", "number", "needed", "one", "two", "first", "second", "told", "shared"] ["script", "box", "books", "turn", "service", "number", "needed", "one", "two", "first", "second", "told", "shared"] ["_law_row", "_law_books", "range", "_law_draw", "_law_with", "confirmed", "_law_same", "len", "both"] = true := by decide +kernel
abbrev CxOf_law (X : Cx) (k : Nat) : Prop := Ctx X (defScope s_law) ["script", "box", "books", "turn", "service", "number", "needed", "one", "two", "first", "second", "told", "shared", "k"] ["script", "box", "books", "turn", "service", "number", "needed", "one", "two", "first", "second", "told", "shared"] ["script", "box", "books", "turn", "service", "number", "needed", "one", "two", "first", "second", "told", "shared"] ["_law_row", "_law_books", "range", "_law_draw", "_law_with", "confirmed", "_law_same", "len", "both"] k
/-! defs that make generators: their code, its table -/
def FunT (K : PySem.W.Frag) (x qual : Str) (st : Stmt) (f : Addr) (fd : FuncData) (c : Addr) : Prop := (∃ (oc : Value) (od : Option Addr) (kV doc pm : Value) (an : Option Addr) (ct : Value) (osl : Array (Option Value)),
    fd = PySem.W.fnOf x qual (defArgs st) (defBody st) (defScope st) .none kV doc pm an (.ref c) ct ∧ K.lookup f = some ⟨oc, od, .func fd, osl⟩ ∧ PySem.W.codeIn K (.ref c) qual = true) ∧ PySem.W.keepIn K (.ref f) = true
def DefAtT (K : PySem.W.Frag) (mg : Str → Option Value) (x qual : Str) (st : Stmt) (ps : List Str) (c : Addr) : Prop := ∃ f fd, FunT K x qual st f fd c ∧ mg x = some (.ref f) ∧ Binds K fd ps []
section
variable {P : Program} {w : World} {K : PySem.W.Frag} {mg : Str → Option Value} {base : Heap}
theorem DefOk.byTab {x qual : Str} {st : Stmt} {N Vs ps G : List Str} {k : Nat} {sp : Sp} {c : Addr} (F : DefAtT K mg x qual st ps c) (S : FnScope N ps (defScope st)) (ok : okC (defScope st) Vs Vs G = true) (len : ∀ vs H Q E, sp vs H Q E → vs.length = ps.length)
    (hbody : ∀ X : Cx, X.prog = P → X.w = w → X.K = K → X.mg = mg → X.base = base → Ctx X (defScope st) N Vs Vs G k → X.env.code = .ref c → ∀ (H : Hp) (vs : List V) (Q : VK) (E : XK), sp vs H Q E → XB X (defBody st) (fun _ H' => Q .non H') ⟨Q, fun _ _ => False, fun _ _ => False⟩ (st0 N vs) H) :
    DefOk P w K mg base x ps (k + 1) sp := by
  obtain ⟨f, fd, ⟨⟨oc, od, kV, doc, pm, an, ct, osl, rfl, lk, hcd⟩, kp⟩, hm, hb⟩ := F
  refine ⟨f, _, ?_, hm, kp, hb⟩
  refine fn_of lk hcd S len fun A outer s H vs Q E hr h => ?_
  have hl : vs.length ≤ N.length := by
    rw [len vs H Q E h]
    have := S.pre
    rw [← this, List.length_take]; exact Nat.min_le_right _ _
  rw [start_eq N vs hl]
  obtain ⟨t, h1, q⟩ := hbody ((cxOf CX0 P w K mg base N qual (defScope st) f (.ref c) A outer s H E).nox) rfl rfl rfl rfl rfl ⟨rfl, S.nd, rfl, ok, rfl, fun _ _ => rfl, PassesOwn.never, S.kind, hr⟩ rfl H vs Q E h
  exact ⟨t, h1.nox, q⟩
end
/-- what a law is asked from -/
def sp_lawT (K : PySem.W.Frag) (Ps : List Addr) : Sp := fun vs H Q _ => ∃ (a : Addr) (ns : List Int), vs = [.ref a] ∧ SqL K H a (ns.map V.int) ∧ ns.length ≤ 63 ∧ (∀ P ∈ Ps, GxR.TabG H P) ∧ ∀ H', Q (.bl true) H'
open PySem.Spec PyProof.Rows in
theorem walkT {l : PySem.W.OpenLaw} {k : Nat} {q : Program} {loose : List Str} {XP : (Str → Option Value) → Heap → Prop} {YP : World → Heap → Prop} {d : DefRec} {K : Params → PySem.W.Frag} (names : List Str)
    (hn : l.most = some 63) (hdf : d.params.defaults = []) (hr : Room k callerA) (hY : ∀ (w : World) (h : Heap), YP w h → (K w.params).In h)
    (hrec : ∀ x ∈ names, ∃ e, (recsOf q).find? (fun e => e.name == x) = some e)
    (F : ∀ (w : World) (mg : Str → Option Value) (fa : Addr) (h : Heap), (K w.params).In h → h.Ns mainGlobals mg → mg d.name = some (.ref fa) →
      ∃ (fd : FuncData) (cs : List (Addr × Addr)), (∀ p ∈ cs, (K w.params).lookup p.2 = none ∧ ∃ x ∈ names, PySem.W.tabIn (K w.params) x = some p) ∧ (∀ (s : Shared) (u : Value), BindsTo s fd ⟨[u], []⟩ [("script", u)]) ∧
        ∀ base : Heap, (K w.params).In base → base.Ns mainGlobals mg → (∀ p ∈ cs, GxR.TabB base mg p.1 p.2) → FnOk l.prog w (K w.params) mg base CX0 k fa fd ["script"] (sp_lawT (K w.params) (cs.map (·.2)))) :
    PySem.W.WalkO q loose XP YP l.row.toRowW d [] (fun f vs => PySem.call f vs) := by
  refine Att.attach_callB hn hdf fun w s₀ s₁ mg mb fa o pm cd doc a vs ns G Y ho hd hcd hmg hobj hints hlen hbits hg => ?_
  have KX := hY w _ Y
  obtain ⟨fd, cs, hcs, hb, hF⟩ := F w mg fa _ KX G.T.g hmg
  have tb : ∀ p ∈ cs, PySem.W.CodeHd s₁.heap p.1 p.2 ∧ s₁.heap.get? p.2 = some { cls := .none, data := .fields #[] } := fun p hp => by
    obtain ⟨_, x, hx, ht⟩ := hcs p hp
    obtain ⟨e, he⟩ := hrec x hx
    exact PySem.W.tab_of G.T KX he ht
  refine LamX.law_callTs (CX := CX0) (x := "script") KX G.T.g G.T.b G.T.builtins G.T.nolimit hg (fun p hp => (tb p hp).2) (fun p hp => (hcs p hp).1) (fun p hp => (tb p hp).1) G.T.bmain hobj hints (Nat.le_trans hlen (by decide)) hr (fun base k1 k2 h => hF base k1 k2 fun p hp => ⟨(h p hp).code, (h p hp).bm, (h p hp).gP⟩) hb (fun H hH hS => ?_) fun H e s' z => z
  refine ⟨a, ns, rfl, hS, hlen, fun P hP => ?_, fun _ => rfl⟩
  obtain ⟨p, hp, rfl⟩ := List.mem_map.mp hP
  exact ⟨#[], hH p hp, by simp [TriplesOk]⟩
/-! what the top leaves -/
structure Txt (P : Program) (w : World) (K : PySem.W.Frag) (mg : Str → Option Value) (base : Heap) where
  b_abs : mg "abs" = none
  b_any : mg "any" = none
  b_bool : mg "bool" = none
  b_enumerate : mg "enumerate" = none
  b_int : mg "int" = none
  b_isinstance : mg "isinstance" = none
  b_len : mg "len" = none
  b_list : mg "list" = none
  b_range : mg "range" = none
  b_str : mg "str" = none
  b_tuple : mg "tuple" = none
  d_confirmed : DefAt K mg "confirmed" "confirmed" s_confirmed ["books", "needed", "service", "number", "digest"]
  d_both : DefAt K mg "both" "both" s_both ["books", "service", "number", "one", "two"]
  d__has : DefAt K mg "_has" "_has" s__has ["book", "service", "number", "digest"]
  q__has : Addr
  P__has : Addr
  td__has : DefAtT K mg "_has" "_has" s__has ["book", "service", "number", "digest"] q__has
  tb__has : GxR.TabB base mg q__has P__has
  d__law_cell : DefAt K mg "_law_cell" "_law_cell" s__law_cell ["script", "k"]
  d__law_row : DefAt K mg "_law_row" "_law_row" s__law_row ["script", "first", "last"]
  d__law_draw : DefAt K mg "_law_draw" "_law_draw" s__law_draw ["box", "many"]
  d__law_is_integer : DefAt K mg "_law_is_integer" "_law_is_integer" s__law_is_integer ["told"]
  d__law_same : DefAt K mg "_law_same" "_law_same" s__law_same ["told", "due"]
  d__law_books : DefAt K mg "_law_books" "_law_books" s__law_books ["box"]
  d__law_with : DefAt K mg "_law_with" "_law_with" s__law_with ["books", "service", "number", "value"]
variable {P : Program} {w : World} {mg : Str → Option Value} {base : Heap} {K : PySem.W.Frag}
local macro_rules | `(tactic| wtm_at "go") => `(tactic| (subst e1; subst e2; subst e3; subst e4; subst e5; simp only [st0]; refine Z.xb_cons ?_))
/-! box -/
/-- the drawing box at b: a list of the drawn row, at r, and the place -/
def Box (H : Hp) (b r : Addr) : Prop := ∃ (i : Int) (ns : List Int), H b = some (.lst [.ref r, .int i]) ∧ 0 ≤ i ∧ H r = some (.lst (ns.map V.int))
theorem noInts {r : V} {i : V} {x : Addr} (hr : r = .ref x) : ∀ ns : List Int, HO.lst [r, i] ≠ .lst (ns.map V.int) := by
  intro ns e
  have e2 : [r, i] = ns.map V.int := HO.lst.inj e
  cases ns with
  | nil => cases e2
  | cons n ns => rw [List.map_cons] at e2; rw [hr] at e2; exact nomatch (List.cons.inj e2).1
theorem Box.br {H : Hp} {b r : Addr} (h : Box H b r) : r ≠ b := by
  obtain ⟨i, ns, h1, h2, h3⟩ := h
  intro e
  rw [e, h1] at h3
  exact noInts rfl ns (Option.some.inj h3)
theorem Box.nl {H : Hp} {b r l : Addr} (h : Box H b r) (n : H l = none) : b ≠ l ∧ r ≠ l := by
  obtain ⟨i, ns, h1, h2, h3⟩ := h
  exact ⟨ne_of_none h1 n, ne_of_none h3 n⟩
theorem Box.kp {H H' : Hp} {b r : Addr} (h : Box H b r) (k : Kp [] H H') : Box H' b r := by
  obtain ⟨i, ns, h1, h2, h3⟩ := h
  exact ⟨i, ns, k.at0 h1, h2, k.at0 h3⟩
theorem Box.kp1 {H H' : Hp} {b r l : Addr} (h : Box H b r) (k : Kp [l] H H') (n : b ≠ l ∧ r ≠ l) : Box H' b r := by
  obtain ⟨i, ns, h1, h2, h3⟩ := h
  exact ⟨i, ns, k.at (by simpa using n.1) h1, h2, k.at (by simpa using n.2) h3⟩
/-- a list of ints is not what is changed, if that is no list of ints -/
theorem ints_kp {K : PySem.W.Frag} {H H' : Hp} {b r : Addr} {u : HO} {ns : List Int} (h : SqL K H r (ns.map V.int)) (hb : H b = some u) (hu : ∀ ns : List Int, u ≠ .lst (ns.map V.int)) (k : Kp [b] H H') : SqL K H' r (ns.map V.int) := by
  rcases h with (h | ⟨o, h⟩) | h
  · refine .inl (.inl (k.at (fun m => ?_) h))
    have e : r = b := by simpa using m
    subst e
    rw [hb] at h
    exact hu ns (Option.some.inj h)
  · exact .inl (.inr ⟨o, k.z _ _ _ h⟩)
  · exact .inr h
theorem Box.ints {K : PySem.W.Frag} {H H' : Hp} {b r s : Addr} {ns : List Int} (h : Box H b r) (k : Kp [b] H H') (hs : SqL K H s (ns.map V.int)) : SqL K H' s (ns.map V.int) := by
  obtain ⟨i, ms, h1, h2, h3⟩ := h
  exact ints_kp hs h1 (noInts rfl) k
/-- what is no list is not the box -/
theorem Box.other {H H' : Hp} {b r p : Addr} {o : HO} (h : Box H b r) (k : Kp [b] H H') (ho : ∀ xs, o ≠ .lst xs) (hp : H p = some o) [NTc o] : H' p = some o := by
  obtain ⟨i, ms, h1, h2, h3⟩ := h
  refine k.at1 (fun e => ?_) hp
  rw [e, h1] at hp
  exact ho _ (Option.some.inj hp).symm
/-- numbers drawn one after another into the list at L -/
def LcI (P : Int → Prop) (H0 : Hp) (b r L : Addr) (t : Nat) (H' : Hp) : Prop := (b ≠ L ∧ r ≠ L) ∧ Kp [b, L] H0 H' ∧ Box H' b r ∧ ∃ ns : List Int, H' L = some (.lst (ns.map V.int)) ∧ ns.length = t ∧ ∀ n ∈ ns, P n
theorem LcI.start {P : Int → Prop} {H H0 : Hp} {b r L : Addr} (b0 : Box H b r) (k : Kp [] H H0) (n : H L = none) (e : H0 L = some (.lst [])) : LcI P H0 b r L 0 H0 := ⟨b0.nl n, Kp.refl _ _, b0.kp k, [], e, rfl, fun _ m => nomatch m⟩
theorem LcI.sz {P : Int → Prop} {H0 H8 H9 : Hp} {b r L : Addr} {t : Nat} (h : LcI P H0 b r L t H8) (ht : t < 100000) (k9 : Kp [b] H8 H9) : ∃ acc, H9 L = some (.lst acc) ∧ acc.length < sizeLine ∧ ∃ ns : List Int, acc = ns.map V.int ∧ H8 L = some (.lst (ns.map V.int)) ∧ ns.length = t ∧ ∀ n ∈ ns, P n := by
  obtain ⟨n, k, b8, ns, e, hl, hp⟩ := h
  exact ⟨_, k9.at1 n.1.symm e, szl (by rw [List.length_map]; omega), ns, rfl, e, hl, hp⟩
theorem LcI.push {P : Int → Prop} {H0 H8 H9 H10 : Hp} {b r L : Addr} {t : Nat} {ns : List Int} {d : Int} (h : LcI P H0 b r L t H8) (hl : ns.length = t) (hp : ∀ n ∈ ns, P n) (k9 : Kp [b] H8 H9) (b9 : Box H9 b r) (hd : P d) (k10 : Kp [L] H9 H10) (e : H10 L = some (.lst (ns.map V.int ++ [.int d]))) : LcI P H0 b r L (t + 1) H10 := by
  obtain ⟨n, k, _⟩ := h
  refine ⟨n, (k.tr1 k9 (.inl (by simp))).tr1 k10 (.inl (by simp)), b9.kp1 k10 n, ns ++ [d], by rw [e, List.map_append]; rfl, by simp [hl], fun m hm => ?_⟩
  rcases List.mem_append.mp hm with z | z
  · exact hp m z
  · rw [List.mem_singleton.mp z]; exact hd
theorem LcI.kp {P : Int → Prop} {H H0 H' : Hp} {b r L : Addr} {t : Nat} (h : LcI P H0 b r L t H') (k : Kp [] H H0) (n : H L = none) : Kp [b] H H' :=
  (k.wk (B := [b]) fun _ m => nomatch m).tr h.2.1 fun l m => by
    rcases List.mem_cons.mp m with z | z
    · exact .inl (by simp [z])
    · rw [List.mem_singleton.mp z]; exact .inr n
theorem Box.neInts {H : Hp} {b r e : Addr} {ns : List Int} (bx : Box H b r) (h : H e = some (.lst (ns.map V.int))) : e ≠ b := by
  obtain ⟨i, ms, h1, _, _⟩ := bx
  intro q
  rw [q, h1] at h
  exact noInts rfl ns (Option.some.inj h)
/-- facts that stand while the box is drawn from -/
class CarB (b r : Addr) (H H' : Hp) (P : Prop) (P' : outParam Prop) : Prop where
  kp : Box H b r → Kp [b] H H' → P → P'
theorem carB {b r : Addr} {H H' : Hp} {P P' : Prop} [c : CarB b r H H' P P'] (bx : Box H b r) (k : Kp [b] H H') (h : P) : P' := c.kp bx k h
/-- not the box -/
class Nb (p b : Addr) : Prop where
  ne : p ≠ b
section
variable {H H' : Hp} {b r : Addr}
instance : Car H H' (Box H b r) (Box H' b r) := ⟨fun k n ⟨i, ns, h1, h2, h3⟩ => ⟨i, ns, k.atN n h1, h2, k.atN n h3⟩⟩
instance {K : PySem.W.Frag} {p : Addr} {xs : List V} : CarB b r H H' (SqT K H p xs) (SqT K H' p xs) := ⟨fun _ k h => k.tup h⟩
instance {p : Addr} {xs : List V} : CarB b r H H' (H p = some (.tup xs)) (H' p = some (.tup xs)) := ⟨fun _ k h => k.t _ _ h⟩
instance {p : Addr} {ns : List Int} : CarB b r H H' (H p = some (.lst (ns.map V.int))) (H' p = some (.lst (ns.map V.int))) := ⟨fun bx k h => k.at1 (bx.neInts h) h⟩
instance {p x y : Addr} : CarB b r H H' (H p = some (.lst [.ref x, .ref y])) (H' p = some (.lst [.ref x, .ref y])) := ⟨fun bx k h => k.at1 (fun e => by
  obtain ⟨i, ms, h1, _, _⟩ := bx
  rw [e, h1] at h
  exact nomatch (List.cons.inj (List.cons.inj (HO.lst.inj (Option.some.inj h))).2).1) h⟩
instance {p C dx : Addr} {fs : List (Str × V)} : CarB b r H H' (H p = some (.ins C dx fs)) (H' p = some (.ins C dx fs)) := ⟨fun bx k h => bx.other k (fun _ z => nomatch z) h⟩
instance {p : Addr} {ds : List (List Key × V)} : CarB b r H H' (H p = some (.dT ds)) (H' p = some (.dT ds)) := ⟨fun bx k h => bx.other k (fun _ z => nomatch z) h⟩
instance {p : Addr} {o : HO} [n : Nb p b] [NTc o] : CarB b r H H' (H p = some o) (H' p = some o) := ⟨fun _ k h => k.at1 n.ne h⟩
instance {K : PySem.W.Frag} {p : Addr} {ns : List Int} : CarB b r H H' (SqL K H p (ns.map V.int)) (SqL K H' p (ns.map V.int)) := ⟨fun bx k h => bx.ints k h⟩
instance {H0 : Hp} : CarB b r H H' (Fr [b] H0 H) (Fr [b] H0 H') := ⟨fun _ k h => (h.k.tr1 k (.inl (by simp)) : Kp [b] H0 H')⟩
instance {H0 : Hp} : CarB b r H H' (Kp [b] H0 H ∧ True) (Kp [b] H0 H' ∧ True) := ⟨fun _ k h => ⟨h.1.tr1 k (.inl (by simp)), trivial⟩⟩
end
/-! rows -/
/-- tuples of ints -/
def RowsAt (K : PySem.W.Frag) (H : Hp) (n : Nat) (xs : List V) : Prop := ∀ y ∈ xs, ∃ (q : Addr) (ns : List Int), y = V.ref q ∧ SqT K H q (ns.map V.int) ∧ ns.length ≤ n
theorem RowsAt.kp {K : PySem.W.Frag} {A : List Addr} {H H' : Hp} {n : Nat} {xs : List V} (h : RowsAt K H n xs) (k : Kp A H H') : RowsAt K H' n xs := fun y hy => by
  obtain ⟨q, ns, e, h1, h2⟩ := h y hy
  exact ⟨q, ns, e, k.tup h1, h2⟩
theorem RowsAt.snoc {K : PySem.W.Frag} {H : Hp} {n : Nat} {xs : List V} {q : Addr} {ns : List Int} (h : RowsAt K H n xs) (h1 : SqT K H q (ns.map V.int)) (h2 : ns.length ≤ n) : RowsAt K H n (xs ++ [.ref q]) := fun y hy => by
  rcases List.mem_append.mp hy with m | m
  · exact h y m
  · exact ⟨q, ns, List.mem_singleton.mp m, h1, h2⟩
theorem cut_ints (rs : List Int) (lo hi : Option Int) : ∃ ns : List Int, cutV (rs.map V.int) lo hi = ns.map V.int ∧ ns.length ≤ rs.length ∧ ∀ n ∈ ns, n ∈ rs := by
  refine ⟨(rs.drop (HT.sIx (rs.map V.int).length 0 lo)).take (HT.sIx (rs.map V.int).length (rs.map V.int).length hi - HT.sIx (rs.map V.int).length 0 lo), ?_, ?_, fun n m => List.mem_of_mem_drop (List.mem_of_mem_take m)⟩
  · unfold cutV
    rw [List.map_take, List.map_drop]
  · rw [List.length_take, List.length_drop]; omega
def sp_law (K : PySem.W.Frag) : Sp := fun vs H Q _ => ∃ (a : Addr) (ns : List Int), vs = [.ref a] ∧ SqL K H a (ns.map V.int) ∧ ns.length ≤ 63 ∧ ∀ H', Q (.bl true) H'
/-! pow2 -/
/-! how often two divides -/
theorem and_odd (k : Nat) : (2 * k + 1) &&& (2 * k) = 2 * k := by
  apply Nat.eq_of_testBit_eq
  intro i
  cases i with
  | zero => simp
  | succ i =>
    have e1 : (2 * k + 1) / 2 = k := by omega
    have e2 : 2 * k / 2 = k := by omega
    rw [Nat.testBit_and, Nat.testBit_succ, Nat.testBit_succ, e1, e2, Bool.and_self]
theorem and_even (k : Nat) (h : 0 < k) : (2 * k) &&& (2 * k - 1) = 2 * (k &&& (k - 1)) := by
  apply Nat.eq_of_testBit_eq
  intro i
  have e : (2 * k - 1) / 2 = k - 1 := by omega
  have e2 : 2 * k / 2 = k := by omega
  have e3 : 2 * (k &&& (k - 1)) / 2 = k &&& (k - 1) := by omega
  cases i with
  | zero => simp [Nat.testBit_and]
  | succ i => rw [Nat.testBit_and, Nat.testBit_succ, Nat.testBit_succ, Nat.testBit_succ, e, e2, e3, Nat.testBit_and]
theorem and_le (k : Nat) : k &&& (k - 1) ≤ k := Nat.and_le_left
theorem lo_spec : ∀ n : Nat, 0 < n → ∃ v, n - (n &&& (n - 1)) = 2 ^ v ∧ n % 2 ^ v = 0 ∧ n % 2 ^ (v + 1) ≠ 0 := by
  intro n
  induction n using Nat.strongRecOn with
  | ind n ih =>
    intro h
    rcases Nat.mod_two_eq_zero_or_one n with e | e
    · have hk : 0 < n / 2 := by omega
      obtain ⟨v, h1, h2, h3⟩ := ih (n / 2) (by omega) hk
      have en : n = 2 * (n / 2) := by omega
      refine ⟨v + 1, ?_, ?_, ?_⟩
      · have := and_even (n / 2) hk
        rw [← en] at this
        have l := and_le (n / 2)
        rw [this, Nat.pow_succ, ← h1]; omega
      · rw [en, Nat.pow_succ, Nat.mul_comm (2 ^ v) 2, Nat.mul_mod_mul_left, h2]
      · rw [en, Nat.pow_succ, Nat.mul_comm (2 ^ (v + 1)) 2, Nat.mul_mod_mul_left]; omega
    · have en : n = 2 * (n / 2) + 1 := by omega
      refine ⟨0, ?_, by omega, by simpa using by omega⟩
      have := and_odd (n / 2)
      have e1 : n - 1 = 2 * (n / 2) := by omega
      rw [e1]
      have e2 : n &&& (2 * (n / 2)) = 2 * (n / 2) := by
        have : n &&& (2 * (n / 2)) = (2 * (n / 2) + 1) &&& (2 * (n / 2)) := by rw [← en]
        rw [this]; exact and_odd _
      rw [e2]; omega
/-- how many rounds a round goes back to -/
def cntB (n : Int) : Nat := Builtin.Int.intBits (Builtin.bitAnd n (-n))
theorem cntB_zero : cntB 0 = 0 := by decide
theorem cntB_pos {n : Int} (h : 0 < n) : ∃ v : Nat, cntB n = v + 1 ∧ n.toNat % 2 ^ v = 0 ∧ n.toNat % 2 ^ (v + 1) ≠ 0 := by
  obtain ⟨v, h1, h2, h3⟩ := lo_spec n.toNat (by omega)
  refine ⟨v, ?_, h2, h3⟩
  unfold cntB
  have e : Builtin.bitAnd n (-n) = ((2 ^ v : Nat) : Int) := by
    rw [PyProof.Rows.bitAnd_pn (by omega) (by omega)]
    have e1 : (Builtin.bitNot (-n)).toNat = n.toNat - 1 := by unfold Builtin.bitNot; omega
    have l := and_le n.toNat
    rw [e1]
    clear h2 h3
    generalize n.toNat &&& (n.toNat - 1) = c at *
    omega
  rw [e]
  unfold Builtin.Int.intBits
  have p : 0 < 2 ^ v := Nat.pow_pos (by decide)
  have ne : (((2 ^ v : Nat) : Int) == 0) = false := beq_eq_false_iff_ne.mpr (by omega)
  rw [ne]
  simp only [Bool.false_eq_true, if_false, Int.natAbs_natCast, Nat.log2_two_pow]
theorem dvd_iff {n v i : Nat} (h2 : n % 2 ^ v = 0) (h3 : n % 2 ^ (v + 1) ≠ 0) : n % 2 ^ i = 0 ↔ i ≤ v := by
  constructor
  · intro h
    by_cases hi : i ≤ v
    · exact hi
    · have d : 2 ^ (v + 1) ∣ n := Nat.dvd_trans (Nat.pow_dvd_pow 2 (by omega)) (Nat.dvd_of_mod_eq_zero h)
      exact absurd (Nat.mod_eq_zero_of_dvd d) h3
  · intro hi
    exact Nat.mod_eq_zero_of_dvd (Nat.dvd_trans (Nat.pow_dvd_pow 2 hi) (Nat.dvd_of_mod_eq_zero h2))
theorem cast_pow (i : Nat) : ((2 ^ i : Nat) : Int) = (2 : Int) ^ i := by simp
theorem cnt_lt {n : Int} (h : 0 ≤ n) (i : Nat) : i < cntB n ↔ (2 : Int) ^ i ≤ n ∧ n % 2 ^ i = 0 := by
  by_cases h0 : n = 0
  · subst h0
    rw [cntB_zero]
    have p : (0 : Int) < 2 ^ i := by rw [← cast_pow]; exact_mod_cast Nat.pow_pos (by decide)
    omega
  · obtain ⟨v, e, h2, h3⟩ := cntB_pos (n := n) (by omega)
    rw [e]
    have en : n = ((n.toNat : Nat) : Int) := by omega
    have em : n % 2 ^ i = ((n.toNat % 2 ^ i : Nat) : Int) := by
      conv => lhs; rw [en, ← cast_pow]
      exact (Int.natCast_emod _ _).symm
    constructor
    · intro hi
      have z := (dvd_iff h2 h3 (i := i)).mpr (by omega)
      have l : 2 ^ i ≤ n.toNat := Nat.le_of_dvd (by omega) (Nat.dvd_of_mod_eq_zero z)
      rw [em, z]
      refine ⟨?_, rfl⟩
      rw [en, ← cast_pow]; exact_mod_cast l
    · rintro ⟨_, hm⟩
      rw [em] at hm
      have := (dvd_iff h2 h3 (i := i)).mp (by omega)
      omega
theorem cnt_le {n : Int} {m : Nat} (h : 0 ≤ n) (hm : n < 2 ^ m) : cntB n ≤ m := by
  by_cases hc : m < cntB n
  · have := ((cnt_lt h m).mp hc).1
    omega
  · omega
/-- the rounds back -/
def bk (n : Int) : List Int := (List.range (cntB n)).map fun i => n - 2 ^ i
theorem bk_len (n : Int) : (bk n).length = cntB n := by unfold bk; rw [List.length_map, List.length_range]
def bkTo (n : Int) (i : Nat) : List Int := (List.range i).map fun i => n - 2 ^ i
theorem bkTo_succ (n : Int) (i : Nat) : bkTo n (i + 1) = bkTo n i ++ [n - 2 ^ i] := by unfold bkTo; rw [List.range_succ, List.map_append]; rfl
theorem bkTo_len (n : Int) (i : Nat) : (bkTo n i).length = i := by unfold bkTo; rw [List.length_map, List.length_range]
/-! things -/
def isThing (ns : List Int) : Bool :=
  if ns.length = 0 then false
  else if ns.getD 0 0 = 1 then decide (ns.length = 3)
  else if ns.getD 0 0 = 2 then decide (2 ≤ ns.length ∧ 2 + ns.getD 1 0 ≤ ns.length)
  else if ns.getD 0 0 = 4 then decide (6 ≤ ns.length ∧ 1 ≤ ns.getD 4 0 ∧ ns.length = 6 + cntB (ns.getD 2 0))
  else decide (ns.getD 0 0 = 5 ∧ ns.length = 2)
theorem at_getD {ns : List Int} (i : Nat) (h : i < ns.length) : atI (ns.map V.int) (i : Int) = some (.int (ns.getD i 0)) := by
  refine atI_nat ?_
  rw [List.getElem?_map, List.getElem?_eq_getElem h, List.getD_eq_getElem?_getD, List.getElem?_eq_getElem h]; rfl
/-! _law_cell -/
section
local macro_rules | `(tactic| wtm_at "d") => `(tactic| first | ((with_reducible show Z.XE _ (PySem.Expr.Call (PySem.Expr.Name "len" _) (_ :: _) [] _) _ _ _); refine Z.xe_callB (id := "len") (by assumption) (by wtm_at "m") T.b_len (by decide +kernel) ?_) | fail)
def sp_cell (K : PySem.W.Frag) : Sp := fun vs H Q _ => ∃ (a : Addr) (ns : List Int) (k : Int), vs = [.ref a, .int k] ∧ SqL K H a (ns.map V.int) ∧ 0 ≤ k ∧ ∀ v : Int, Q (.int v) H
theorem ok__law_cell (T : Txt P w K mg base) : DefOk P w K mg base "_law_cell" ["script", "k"] 1 (sp_cell K) := by
  refine DefOk.by T.d__law_cell sc__law_cell oc__law_cell (fun vs H Q E h => ?_) (fun X e1 e2 e3 e4 e5 C H vs Q E h => ?_)
  · obtain ⟨a, ns, k, rfl, _⟩ := h; rfl
  · obtain ⟨a, ns, k, rfl, hS, h0, q⟩ := h
    wtm_at "go"
    wtm_at "w"
    refine ite_d (fun h => ?_) (fun h => ?_)
    · rw [List.length_map] at h
      wtm_at "w"
      have hk : k.toNat < ns.length := by omega
      exact vx_lst hS (at_map h0 (List.getElem?_eq_getElem hk)) (q _)
    · wtm_at "w"
      exact q _
end
/-! _law_row -/
section
local macro_rules | `(tactic| wtm_at "d") => `(tactic| first | ((with_reducible show Z.XE _ (PySem.Expr.Call (PySem.Expr.Name "abs" _) (_ :: _) [] _) _ _ _); refine Z.xe_callB (id := "abs") (by assumption) (by wtm_at "m") T.b_abs (by decide +kernel) ?_) | ((with_reducible show Z.XE _ (PySem.Expr.Call (PySem.Expr.Name "int" _) (_ :: _) [] _) _ _ _); refine Z.xe_callTy (id := "int") (by assumption) (by wtm_at "m") T.b_int (by decide +kernel) ?_) | ((with_reducible show Z.XE _ (PySem.Expr.Name "int" _) _ _ _); refine Z.xe_ty (id := "int") (by assumption) (by wtm_at "m") T.b_int (by decide +kernel) ?_) | ((with_reducible show Z.XE _ (PySem.Expr.Call (PySem.Expr.Name "_law_cell" _) (_ :: _) [] _) _ _ _); refine Z.xe_call (by assumption) (Law.ok__law_cell T) (by wtm_at "m") (by omega) ?_) | fail)
def sp_row (K : PySem.W.Frag) : Sp := fun vs H Q _ => ∃ (a : Addr) (ns : List Int) (f l : Int), vs = [.ref a, .int f, .int l] ∧ SqL K H a (ns.map V.int) ∧ 0 ≤ f ∧ f ≤ 100 ∧ 0 ≤ l ∧ l ≤ 100 ∧
  ∀ p H' (rs : List Int), Kp [] H H' → H p = none → H' p = some (.lst (rs.map V.int)) → (∀ v ∈ rs, 0 ≤ v ∧ v < 840) → Q (.ref p) H'
/-- the row so far -/
def RowI (H H' : Hp) (r : Addr) (n : Nat) : Prop := H r = none ∧ Kp [] H H' ∧ ∃ rs : List Int, H' r = some (.lst (rs.map V.int)) ∧ rs.length ≤ n ∧ ∀ v ∈ rs, 0 ≤ v ∧ v < 840
theorem RowI.push {H H' H2 : Hp} {r : Addr} {n : Nat} {rs : List Int} {v : Int} (h : H r = none) (k1 : Kp [] H H') (e : H' r = some (.lst (rs.map V.int))) (hl : rs.length ≤ n) (hv : ∀ v ∈ rs, 0 ≤ v ∧ v < 840) (k2 : Kp [r] H' H2) (e2 : H2 r = some (.lst (rs.map V.int ++ [.int v]))) (h0 : 0 ≤ v ∧ v < 840) : RowI H H2 r (n + 1) := by
  refine ⟨h, k1.tr1 k2 (.inr h), rs ++ [v], ?_, ?_, ?_⟩
  · rw [e2, List.map_append]; rfl
  · rw [List.length_append]; simpa using hl
  · intro u hu
    rcases List.mem_append.mp hu with m | m
    · exact hv u m
    · rw [List.mem_singleton.mp m]; exact h0
theorem ok__law_row (T : Txt P w K mg base) : DefOk P w K mg base "_law_row" ["script", "first", "last"] 2 (sp_row K) := by
  refine DefOk.by T.d__law_row sc__law_row oc__law_row (fun vs H Q E h => ?_) (fun X e1 e2 e3 e4 e5 C H vs Q E h => ?_)
  · obtain ⟨a, ns, f, l, rfl, _⟩ := h; rfl
  · obtain ⟨a, ns, f, l, rfl, hS, f0, f1, l0, l1, q⟩ := h
    wtm_at "go"
    wtm_at "w"
    intro r H1 k1 nr hr
    wtm_at "w"
    refine xs_forR2 (by assumption) (by wtm_at "m") T.b_range ?_
    wtm_at "w"
    refine ⟨f, l, rfl, by omega, fun i σ H' => ∃ vk vc vt, σ = [some (.ref a), some (.int f), some (.int l), some (.ref r), vk, vc, vt] ∧ RowI H H' r (60 * i), ⟨none, none, none, rfl, nr, k1, [], hr, Nat.le_refl _, by simp⟩, ?_, ?_⟩
    · rintro i σ' H2 hi ⟨vk, vc, vt, rfl, n2, k2, rs, e2, len2, hv2⟩
      have hS2 : SqL X.K H2 a (ns.map V.int) := k2.lst0 hS
      wtm_at "w"
      refine ⟨a, ns, f + i, rfl, hS2, by omega, fun c => ?_⟩
      wtm_at "w"
      refine vo_mul (cmulL ⟨by decide, by decide⟩) ?_
      wtm_at "w"
      generalize hc : ((if 2 * c < 0 then -(2 * c) else 2 * c) + if decide (c < 0) = true then 1 else 0 : Int) = c'
      refine vo_pow ⟨by decide, by decide, by decide⟩ ?_
      wtm_at "w"
      refine ite_d (fun h => ?_) (fun h => ?_)
      · wtm_at "w"
        refine xs_forR1 (by assumption) (by wtm_at "m") T.b_range ?_
        wtm_at "w"
        refine ⟨60, rfl, by decide, by decide, fun t σ H' => ∃ vk, ∃ c : Int, ∃ vt, σ = [some (.ref a), some (.int f), some (.int l), some (.ref r), vk, some (.int c), vt] ∧ RowI H H' r (60 * i + t), ⟨_, _, _, rfl, n2, k2, rs, e2, by omega, hv2⟩, ?_, ?_⟩
        · rintro t σ' H3 ht ⟨vk, d, vt, rfl, n3, k3, rs3, e3, len3, hv3⟩
          have ht' : t < 60 := ht
          have hi' : i < 100 := by omega
          wtm_at "w"
          refine ite_d (fun h => ?_) (fun h => ?_)
          · wtm_at "w"
            refine ⟨e3, szl (by rw [List.length_map]; omega), fun H4 k4 e4 => ?_⟩
            wtm_at "w"
            exact ⟨_, _, _, rfl, RowI.push n3 k3 e3 len3 hv3 k4 e4 ⟨Int.emod_nonneg _ (by decide), Int.emod_lt_of_pos _ (by decide)⟩⟩
          · wtm_at "w"
            exact ⟨_, _, _, rfl, n3, k3, rs3, e3, by omega, hv3⟩
        · rintro σ' H3 ⟨vk, d, vt, rfl, n3, k3, rs3, e3, len3, hv3⟩
          wtm_at "w"
          have len3' : rs3.length ≤ 60 * i + 60 := len3
          exact ⟨_, _, _, rfl, n3, k3, rs3, e3, by omega, hv3⟩
      · wtm_at "w"
        refine xs_forR1 (by assumption) (by wtm_at "m") T.b_range ?_
        wtm_at "w"
        refine ⟨10, rfl, by decide, by decide, fun t σ H' => ∃ vt, ∃ c : Int, σ = [some (.ref a), some (.int f), some (.int l), some (.ref r), some (.int (f + i)), some (.int c), vt] ∧ RowI H H' r (60 * i + t), ⟨_, _, rfl, n2, k2, rs, e2, by omega, hv2⟩, ?_, ?_⟩
        · rintro t σ' H3 ht ⟨vt, d, rfl, n3, k3, rs3, e3, len3, hv3⟩
          have ht' : t < 10 := ht
          have hi' : i < 100 := by omega
          wtm_at "w"
          refine vo_mul (cmulR ⟨by decide, by decide⟩) ?_
          wtm_at "w"
          refine vo_mul (cmulL ⟨by decide, by decide⟩) ?_
          wtm_at "w"
          refine ⟨e3, szl (by rw [List.length_map]; omega), fun H4 k4 e4 => ?_⟩
          wtm_at "w"
          exact ⟨_, _, rfl, RowI.push n3 k3 e3 len3 hv3 k4 e4 ⟨Int.emod_nonneg _ (by decide), Int.emod_lt_of_pos _ (by decide)⟩⟩
        · rintro σ' H3 ⟨vt, d, rfl, n3, k3, rs3, e3, len3, hv3⟩
          wtm_at "w"
          have len3' : rs3.length ≤ 60 * i + 10 := len3
          exact ⟨_, _, _, rfl, n3, k3, rs3, e3, by omega, hv3⟩
    · rintro σ' H2 ⟨vk, vc, vt, rfl, n2, k2, rs, e2, len2, hv2⟩
      wtm_at "w"
      exact q _ _ rs k2 n2 e2 hv2
end
/-! _law_draw -/
section
local macro_rules | `(tactic| wtm_at "d") => `(tactic| first | ((with_reducible show Z.XE _ (PySem.Expr.Call (PySem.Expr.Name "int" _) (_ :: _) [] _) _ _ _); refine Z.xe_callTy (id := "int") (by assumption) (by wtm_at "m") T.b_int (by decide +kernel) ?_) | ((with_reducible show Z.XE _ (PySem.Expr.Name "int" _) _ _ _); refine Z.xe_ty (id := "int") (by assumption) (by wtm_at "m") T.b_int (by decide +kernel) ?_) | ((with_reducible show Z.XE _ (PySem.Expr.Call (PySem.Expr.Name "len" _) (_ :: _) [] _) _ _ _); refine Z.xe_callB (id := "len") (by assumption) (by wtm_at "m") T.b_len (by decide +kernel) ?_) | fail)
def sp_draw : Sp := fun vs H Q _ => ∃ (b r : Addr) (m : Int), vs = [.ref b, .int m] ∧ Box H b r ∧ 0 < m ∧ ∀ (v : Int) H', 0 ≤ v → v < m → Kp [b] H H' → Box H' b r → Q (.int v) H'
theorem ok__law_draw (T : Txt P w K mg base) : DefOk P w K mg base "_law_draw" ["box", "many"] 1 sp_draw := by
  refine DefOk.by T.d__law_draw sc__law_draw oc__law_draw (fun vs H Q E h => ?_) (fun X e1 e2 e3 e4 e5 C H vs Q E h => ?_)
  · obtain ⟨b, r, m, rfl, _⟩ := h; rfl
  · obtain ⟨b, r, m, rfl, bx, hm, q⟩ := h
    have nbr := bx.br
    obtain ⟨i, ns, h1, h2, h3⟩ := bx
    wtm_at "go"
    wtm_at "w"
    refine xs_setIx ?_
    wtm_at "w"
    refine ⟨b, _, 1, 1, rfl, rfl, h1, ix1, fun H2 k2 e2 => ?_⟩
    have e2 : H2 b = some (.lst [.ref r, .int (i + 1)]) := e2
    have h3' : H2 r = some (.lst (ns.map V.int)) := k2.at1 nbr h3
    have hB : Box H2 b r := ⟨i + 1, ns, e2, by omega, h3'⟩
    wtm_at "w"
    refine ite_d (fun h => ?_) (fun h => ?_)
    · rw [List.length_map] at h
      wtm_at "w"
      have hk : i.toNat < ns.length := by omega
      refine vx_lst (Z.SqL.of' h3') (at_map h2 (List.getElem?_eq_getElem hk)) ?_
      wtm_at "w"
      refine vo_mod hm ?_
      exact q _ _ (Int.emod_nonneg _ (by omega)) (Int.emod_lt_of_pos _ hm) k2 hB
    · wtm_at "w"
      refine vo_mul (cmulR ⟨by decide, by decide⟩) ?_
      wtm_at "w"
      refine vo_mod hm ?_
      exact q _ _ (Int.emod_nonneg _ (by omega)) (Int.emod_lt_of_pos _ hm) k2 hB
end
/-! prime -/
def PR : Int := 2305843009213693951
/-! digests -/
/-! what a digest is -/
def mixS (f s n : Int) : Int := (s * f + n + 1) % PR
def mixF (f : Int) (ns : List Int) (s : Int) : Int := ns.foldl (mixS f) s
def dig (b f : Int) (ns : List Int) : Int := (mixF f (ns.length :: ns) 1 * 48271 + mixF f (ns.length :: ns) 1 / 65536) % b
theorem mixS_rng (f s n : Int) : 0 ≤ mixS f s n ∧ mixS f s n < PR := ⟨Int.emod_nonneg _ (by decide), Int.emod_lt_of_pos _ (by decide)⟩
theorem mixF_snoc (f : Int) (ns : List Int) (n s : Int) : mixF f (ns ++ [n]) s = mixS f (mixF f ns s) n := by unfold mixF; rw [List.foldl_append]; rfl
theorem mixF_take {f s n : Int} {ns : List Int} {i : Nat} (h : ns[i]? = some n) : mixF f (ns.take (i + 1)) s = mixS f (mixF f (ns.take i) s) n := by
  rw [List.take_add_one, h]; exact mixF_snoc _ _ _ _
theorem mixF_rng {f : Int} : ∀ (ns : List Int) (s : Int), 0 ≤ s → s < PR → 0 ≤ mixF f ns s ∧ mixF f ns s < PR
  | [], s, h0, h1 => ⟨h0, h1⟩
  | n :: ns, s, _, _ => mixF_rng ns (mixS f s n) (mixS_rng f s n).1 (mixS_rng f s n).2
theorem mulP {s : Int} (h0 : 0 ≤ s) (h1 : s < PR) : -(2 ^ 64) < s ∧ s < 2 ^ 64 := by unfold PR at h1; omega
theorem dig_rng {b f : Int} {ns : List Int} (hb : 0 < b) : 0 ≤ dig b f ns ∧ dig b f ns < b := ⟨Int.emod_nonneg _ (by omega), Int.emod_lt_of_pos _ hb⟩
/-- a mixing at p -/
def mxF (b f : Int) : List (Str × V) := putF "factor" (.int f) (putF "bound" (.int b) [])
theorem mx_b (b f : Int) : (mxF b f).lookup ("bound" : Str) = some (.int b) := by
  unfold mxF; rw [lookup_putF, if_neg (by decide +kernel), lookup_putF, if_pos rfl]
theorem mx_f (b f : Int) : (mxF b f).lookup ("factor" : Str) = some (.int f) := by
  unfold mxF; rw [lookup_putF, if_pos rfl]
def Mx (C : Addr) (H : Hp) (p : Addr) (b f : Int) : Prop := ∃ dx, H p = some (.ins C dx (mxF b f))
theorem Mx.kp {C p : Addr} {H H' : Hp} {b f : Int} (h : Mx C H p b f) (k : Kp [] H H') : Mx C H' p b f := by
  obtain ⟨dx, h⟩ := h
  exact ⟨dx, k.at0 h⟩
theorem Mx.kp1 {C p l : Addr} {H H' : Hp} {b f : Int} {xs : List V} (h : Mx C H p b f) (k : Kp [l] H H') (hl : H l = some (.lst xs)) : Mx C H' p b f := by
  obtain ⟨dx, h⟩ := h
  refine ⟨dx, k.at (fun m => ?_) h⟩
  rw [List.mem_singleton.mp m, hl] at h; cases h
theorem Mx.box {C p b' r : Addr} {H H' : Hp} {b f : Int} (h : Mx C H p b f) (bx : Box H b' r) (k : Kp [b'] H H') : Mx C H' p b f := by
  obtain ⟨dx, h⟩ := h
  exact ⟨dx, bx.other k (fun _ e => nomatch e) h⟩
theorem Mx.new {C p l : Addr} {H H' : Hp} {b f : Int} (h : Mx C H p b f) (n : p ≠ l) (k : Kp [l] H H') : Mx C H' p b f := by
  obtain ⟨dx, h⟩ := h
  exact ⟨dx, k.at1 n h⟩
theorem Mx.nl {C p l : Addr} {H : Hp} {b f : Int} (h : Mx C H p b f) (n : H l = none) : p ≠ l := by
  obtain ⟨dx, h⟩ := h
  exact ne_of_none h n
/-! carm -/
section
variable {H H' : Hp} {b r : Addr}
instance {C p : Addr} {n f : Int} : Car H H' (Mx C H p n f) (Mx C H' p n f) := ⟨fun k nn ⟨dx, h⟩ => ⟨dx, k.atN nn h⟩⟩
instance {C p : Addr} {n f : Int} : CarB b r H H' (Mx C H p n f) (Mx C H' p n f) := ⟨fun bx k h => h.box bx k⟩
end
/-! seqs -/
theorem map_at_bl {bs : List Bool} {i : Nat} {y : V} (h : (bs.map V.bl)[i]? = some y) : ∃ n, bs[i]? = some n ∧ y = .bl n := by
  rw [List.getElem?_map] at h
  cases e : bs[i]? with
  | none => rw [e] at h; cases h
  | some n => rw [e] at h; exact ⟨n, rfl, (Option.some.inj h).symm⟩
theorem drop_at {α : Type} {l : List α} {t : Nat} {x : α} (h : l[t]? = some x) : l.drop t = x :: l.drop (t + 1) := by
  obtain ⟨h1, h2⟩ := List.getElem?_eq_some_iff.mp h
  rw [List.drop_eq_getElem_cons h1, h2]
theorem at_nat {α : Type} {xs : List α} {t : Nat} {y : α} (h : xs[t]? = some y) : atI xs (t : Int) = some y := by
  have hi := (List.getElem?_eq_some_iff.mp h).1
  unfold atI ixN
  rw [if_pos (by omega), if_pos (by omega)]
  exact h
theorem at_getLast {α : Type} {xs : List α} {v : α} (h : xs.getLast? = some v) : atI xs (-1) = some v := by
  have l : 0 < xs.length := by
    cases xs with
    | nil => cases h
    | cons x xs => simp
  unfold atI ixN
  rw [if_neg (by decide), if_pos (by omega)]
  rw [List.getLast?_eq_getElem?] at h
  simp only [Option.bind]
  rw [← h]
  congr 1
  omega
theorem at_map_nat {ns : List Int} {i : Nat} {x : Int} (h : ns[i]? = some x) : atI (ns.map V.int) (i : Int) = some (.int x) := at_nat (by rw [List.getElem?_map, h]; rfl)
/-! trees -/
/-! where entries part -/
def hf (n : Nat) : Nat := 2 ^ (n - 1).log2
theorem hf_pos (n : Nat) : 0 < hf n := Nat.pow_pos (by decide)
theorem hf_lt {n : Nat} (h : 2 ≤ n) : hf n < n := by
  have := Nat.log2_self_le (n := n - 1) (by omega)
  unfold hf; omega
theorem hf_ge (n : Nat) : n ≤ 2 * hf n := by
  have := Nat.lt_log2_self (n := n - 1)
  unfold hf
  rw [Nat.pow_succ] at this; omega
theorem hf_le {n d : Nat} (h : 2 ≤ n) (hd : n ≤ 2 ^ (d + 1)) : hf n ≤ 2 ^ d := by
  have h1 := hf_lt h
  unfold hf at h1 ⊢
  refine Nat.pow_le_pow_right (by decide) ?_
  have : (n - 1).log2 < d + 1 := (Nat.pow_lt_pow_iff_right (a := 2) (by decide)).mp (by omega)
  omega
theorem rest_le {n d : Nat} (h : 2 ≤ n) (hd : n ≤ 2 ^ (d + 1)) : n - hf n ≤ 2 ^ d := by
  have := hf_le h hd
  have := hf_ge n
  omega
/-- the root of entries -/
def rt (b f : Int) (es : List Int) : Int :=
  if h : 2 ≤ es.length then dig b f [3, rt b f (es.take (hf es.length)), rt b f (es.drop (hf es.length))] else es.headD 0
termination_by es.length
decreasing_by
  · rw [List.length_take]; have := hf_lt h; omega
  · rw [List.length_drop]; have := hf_pos es.length; omega
theorem rt_two {b f : Int} {es : List Int} (h : 2 ≤ es.length) : rt b f es = dig b f [3, rt b f (es.take (hf es.length)), rt b f (es.drop (hf es.length))] := by rw [rt, dif_pos h]
theorem rt_one {b f : Int} {es : List Int} (h : ¬ 2 ≤ es.length) : rt b f es = es.headD 0 := by rw [rt, dif_neg h]
/-- the nodes within, each ahead of those of its parts -/
def nds (b f : Int) (es : List Int) : List (List Int) :=
  if h : 2 ≤ es.length then [3, rt b f (es.take (hf es.length)), rt b f (es.drop (hf es.length))] :: (nds b f (es.take (hf es.length)) ++ nds b f (es.drop (hf es.length))) else []
termination_by es.length
decreasing_by
  · rw [List.length_take]; have := hf_lt h; omega
  · rw [List.length_drop]; have := hf_pos es.length; omega
theorem nds_two {b f : Int} {es : List Int} (h : 2 ≤ es.length) : nds b f es = [3, rt b f (es.take (hf es.length)), rt b f (es.drop (hf es.length))] :: (nds b f (es.take (hf es.length)) ++ nds b f (es.drop (hf es.length))) := by rw [nds, dif_pos h]
theorem nds_one {b f : Int} {es : List Int} (h : ¬ 2 ≤ es.length) : nds b f es = [] := by rw [nds, dif_neg h]
theorem nds_len (b f : Int) : ∀ (d : Nat) (es : List Int), es.length ≤ d → 1 ≤ es.length → (nds b f es).length + 1 = es.length
  | 0, es, h, h1 => by omega
  | d + 1, es, h, h1 => by
    by_cases h2 : 2 ≤ es.length
    · have a := hf_lt h2
      have p := hf_pos es.length
      have i1 := nds_len b f d (es.take (hf es.length)) (by rw [List.length_take]; omega) (by rw [List.length_take]; omega)
      have i2 := nds_len b f d (es.drop (hf es.length)) (by rw [List.length_drop]; omega) (by rw [List.length_drop]; omega)
      rw [List.length_take] at i1
      rw [List.length_drop] at i2
      rw [nds_two h2, List.length_cons, List.length_append]
      omega
    · rw [nds_one h2]; simp; omega
/-- the turns of an index, from the entry up -/
def tn (c i : Nat) : List Bool :=
  if h : 2 ≤ c then (if i < hf c then tn (hf c) i ++ [false] else tn (c - hf c) (i - hf c) ++ [true]) else []
termination_by c
decreasing_by
  · exact hf_lt h
  · have := hf_pos c; omega
theorem tn_lo {c i : Nat} (h : 2 ≤ c) (hi : i < hf c) : tn c i = tn (hf c) i ++ [false] := by rw [tn, dif_pos h, if_pos hi]
theorem tn_hi {c i : Nat} (h : 2 ≤ c) (hi : ¬ i < hf c) : tn c i = tn (c - hf c) (i - hf c) ++ [true] := by rw [tn, dif_pos h, if_neg hi]
theorem tn_one {c i : Nat} (h : ¬ 2 ≤ c) : tn c i = [] := by rw [tn, dif_neg h]
theorem tn_len : ∀ (d c i : Nat), c ≤ 2 ^ d → (tn c i).length ≤ d
  | 0, c, i, h => by rw [tn_one (by simp at h; omega)]; simp
  | d + 1, c, i, h => by
    by_cases h2 : 2 ≤ c
    · by_cases hi : i < hf c
      · have := tn_len d (hf c) i (hf_le h2 h)
        rw [tn_lo h2 hi, List.length_append]; simp; omega
      · have := tn_len d (c - hf c) (i - hf c) (rest_le h2 h)
        rw [tn_hi h2 hi, List.length_append]; simp; omega
    · rw [tn_one h2]; simp
/-- the way of an index -/
def wy (b f : Int) (es : List Int) (i : Nat) : List Int :=
  if h : 2 ≤ es.length then (if i < hf es.length then wy b f (es.take (hf es.length)) i ++ [rt b f (es.drop (hf es.length))] else wy b f (es.drop (hf es.length)) (i - hf es.length) ++ [rt b f (es.take (hf es.length))]) else []
termination_by es.length
decreasing_by
  · rw [List.length_take]; have := hf_lt h; omega
  · rw [List.length_drop]; have := hf_pos es.length; omega
theorem wy_lo {b f : Int} {es : List Int} {i : Nat} (h : 2 ≤ es.length) (hi : i < hf es.length) : wy b f es i = wy b f (es.take (hf es.length)) i ++ [rt b f (es.drop (hf es.length))] := by rw [wy, dif_pos h, if_pos hi]
theorem wy_hi {b f : Int} {es : List Int} {i : Nat} (h : 2 ≤ es.length) (hi : ¬ i < hf es.length) : wy b f es i = wy b f (es.drop (hf es.length)) (i - hf es.length) ++ [rt b f (es.take (hf es.length))] := by rw [wy, dif_pos h, if_neg hi]
theorem wy_one {b f : Int} {es : List Int} {i : Nat} (h : ¬ 2 ≤ es.length) : wy b f es i = [] := by rw [wy, dif_neg h]
theorem wy_len (b f : Int) : ∀ (d : Nat) (es : List Int) (i : Nat), es.length ≤ d → (wy b f es i).length = (tn es.length i).length
  | 0, es, i, h => by rw [wy_one (by omega), tn_one (by omega)]; rfl
  | d + 1, es, i, h => by
    by_cases h2 : 2 ≤ es.length
    · have a := hf_lt h2
      have p := hf_pos es.length
      have lt : (es.take (hf es.length)).length = hf es.length := by rw [List.length_take]; omega
      have ld : (es.drop (hf es.length)).length = es.length - hf es.length := by rw [List.length_drop]
      by_cases hi : i < hf es.length
      · have := wy_len b f d (es.take (hf es.length)) i (by omega)
        rw [wy_lo h2 hi, tn_lo h2 hi, List.length_append, List.length_append, this, lt]; rfl
      · have := wy_len b f d (es.drop (hf es.length)) (i - hf es.length) (by omega)
        rw [wy_hi h2 hi, tn_hi h2 hi, List.length_append, List.length_append, this, ld]; rfl
    · rw [wy_one h2, tn_one h2]; rfl
/-- slices by numbers -/
theorem cut_take (xs : List V) (k : Nat) (h : k ≤ xs.length) : cutV xs none (some (k : Int)) = xs.take k := by
  unfold cutV
  rw [HT.sIx_none, HT.sIx_nat, Nat.min_eq_left h]; simp
theorem cut_drop (xs : List V) (k : Nat) (h : k ≤ xs.length) : cutV xs (some (k : Int)) none = xs.drop k := by
  unfold cutV
  rw [HT.sIx_none, HT.sIx_nat, Nat.min_eq_left h]
  exact List.take_of_length_le (by rw [List.length_drop]; omega)
theorem bits_log {n : Nat} (h : 0 < n) : Builtin.Int.intBits (n : Int) = n.log2 + 1 := by
  unfold Builtin.Int.intBits
  have ne : ((n : Int) == 0) = false := beq_eq_false_iff_ne.mpr (by omega)
  rw [ne]
  simp
/-! tups -/
/-- rows that are tuples of these ints -/
def TupsAt (K : PySem.W.Frag) (H : Hp) (vs : List V) (nss : List (List Int)) : Prop := DpAll K H vs (nss.map fun ns => PyData.tuple (ns.map PyData.int))
theorem dpAll_app {K : PySem.W.Frag} {H : Hp} : ∀ {vs us : List V} {ds es : List PyData}, DpAll K H vs ds → DpAll K H us es → DpAll K H (vs ++ us) (ds ++ es)
  | _, _, _, _, .nil, b => b
  | _, _, _, _, .cons h a, b => .cons h (dpAll_app a b)
theorem TupsAt.app {K : PySem.W.Frag} {H : Hp} {vs us : List V} {a b : List (List Int)} (h : TupsAt K H vs a) (g : TupsAt K H us b) : TupsAt K H (vs ++ us) (a ++ b) := by
  unfold TupsAt
  rw [List.map_append]
  exact dpAll_app h g
theorem TupsAt.kp {K : PySem.W.Frag} {H H' : Hp} {vs : List V} {a : List (List Int)} (h : TupsAt K H vs a) (k : Kp [] H H') : TupsAt K H' vs a := dpAll_kp k h
theorem TupsAt.len {K : PySem.W.Frag} {H : Hp} {vs : List V} {a : List (List Int)} (h : TupsAt K H vs a) : vs.length = a.length := by
  have := dpAll_len h
  rw [this, List.length_map]
theorem len_take {es : List Int} (h : 2 ≤ es.length) : (es.take (hf es.length)).length = hf es.length := by
  have := hf_lt h
  rw [List.length_take]; omega
theorem dpAll_intsInv {K : PySem.W.Frag} {H : Hp} : ∀ {ns : List Int} {vs : List V}, DpAll K H vs (ns.map PyData.int) → vs = ns.map V.int
  | [], _, .nil => rfl
  | n :: ns, _, .cons h a => by
    cases h
    rw [dpAll_intsInv a]; rfl
theorem dp_Tinv {K : PySem.W.Frag} {H : Hp} {v : V} {ns : List Int} (h : Dp K H v (.tuple (ns.map PyData.int))) : ∃ p, v = .ref p ∧ SqT K H p (ns.map V.int) := by
  cases h with
  | tup hx a => exact ⟨_, rfl, by rw [← dpAll_intsInv a]; exact hx⟩
theorem TupsAt.at {K : PySem.W.Frag} {H : Hp} {vs : List V} {nss : List (List Int)} {i : Nat} {v : V} (h : TupsAt K H vs nss) (hv : vs[i]? = some v) : ∃ ns p, nss[i]? = some ns ∧ v = .ref p ∧ SqT K H p (ns.map V.int) := by
  have hi : i < vs.length := (List.getElem?_eq_some_iff.mp hv).1
  have hl := h.len
  have hn : nss[i]? = some nss[i] := List.getElem?_eq_getElem (by omega)
  obtain ⟨v', h1, h2⟩ := dpAll_at h (i := i) (d := .tuple (nss[i].map PyData.int)) (by rw [List.getElem?_map, hn]; rfl)
  rw [hv] at h1
  cases h1
  obtain ⟨p, e, hp⟩ := dp_Tinv h2
  exact ⟨_, p, hn, e, hp⟩
theorem TupsAt.kpA {K : PySem.W.Frag} {H H' : Hp} {A : List Addr} (k : Kp A H H') : ∀ {a : List (List Int)} {vs : List V}, TupsAt K H vs a → TupsAt K H' vs a
  | [], _, .nil => .nil
  | n :: ns, _, .cons h a => by
    obtain ⟨p, rfl, hp⟩ := dp_Tinv h
    exact .cons (dp_T (k.tup hp)) (TupsAt.kpA k a)
/-! climbs -/
/-! a digest and a way climb -/
def nodeOf (s : Bool) (e w : Int) : List Int := if s = true then [3, w, e] else [3, e, w]
def nup (b f : Int) : List Bool → Int → List Int → List (List Int)
  | s :: ss, e, w :: ws => nodeOf s e w :: nup b f ss (dig b f (nodeOf s e w)) ws
  | _, _, _ => []
def cl (b f : Int) : List Bool → Int → List Int → Int
  | s :: ss, e, w :: ws => cl b f ss (dig b f (nodeOf s e w)) ws
  | _, e, _ => e
theorem nodeOf_len (s : Bool) (e w : Int) : (nodeOf s e w).length = 3 := by cases s <;> rfl
theorem nup_nil {b f e : Int} {ws : List Int} : nup b f [] e ws = [] := by simp [nup]
theorem cl_nil {b f e : Int} {ws : List Int} : cl b f [] e ws = e := by simp [cl]
theorem nup_len (b f : Int) : ∀ (ss : List Bool) (e : Int) (ws : List Int), ss.length = ws.length → (nup b f ss e ws).length = ss.length
  | [], e, ws, _ => by rw [nup_nil]; rfl
  | s :: ss, e, [], h => nomatch h
  | s :: ss, e, w :: ws, h => by
    rw [nup, List.length_cons, List.length_cons, nup_len b f ss _ ws (Nat.succ.inj h)]
/-- the last node's digest is the root -/
theorem cl_last (b f : Int) : ∀ (ss : List Bool) (e : Int) (ws : List Int) (n : List Int), (nup b f ss e ws).getLast? = some n → cl b f ss e ws = dig b f n
  | [], e, ws, n, h => by rw [nup_nil] at h; cases h
  | s :: ss, e, [], n, h => by simp [nup] at h
  | s :: ss, e, w :: ws, n, h => by
    rw [nup, List.getLast?_cons] at h
    rw [cl]
    cases g : (nup b f ss (dig b f (nodeOf s e w)) ws).getLast? with
    | some m =>
      rw [g] at h
      rw [cl_last b f ss _ ws m g]
      exact congrArg _ (Option.some.inj h)
    | none =>
      rw [g] at h
      have e1 : nodeOf s e w = n := Option.some.inj h
      have e2 := List.getLast?_eq_none_iff.mp g
      rw [← e1]
      cases ss with
      | nil => rw [cl_nil]
      | cons s' ss =>
        cases ws with
        | nil => simp [cl]
        | cons w' ws => rw [nup] at e2; cases e2
/-! climbs_up -/
/-! a way climbs from its entry to the root -/
theorem cl_snoc (b f : Int) : ∀ (ss : List Bool) (e : Int) (ws : List Int) (s : Bool) (w : Int), ss.length = ws.length → cl b f (ss ++ [s]) e (ws ++ [w]) = dig b f (nodeOf s (cl b f ss e ws) w)
  | [], e, [], s, w, _ => by simp [cl]
  | [], e, _ :: _, s, w, h => nomatch h
  | _ :: _, e, [], s, w, h => nomatch h
  | x :: ss, e, y :: ws, s, w, h => by
    show cl b f (ss ++ [s]) (dig b f (nodeOf x e y)) (ws ++ [w]) = _
    rw [cl_snoc b f ss _ ws s w (Nat.succ.inj h)]
    rfl
theorem cl_wy (b f : Int) : ∀ (d : Nat) (es : List Int) (i : Nat) (x : Int), es.length ≤ d → es[i]? = some x → cl b f (tn es.length i) x (wy b f es i) = rt b f es
  | 0, es, i, x, h, hx => by
    have := (List.getElem?_eq_some_iff.mp hx).1
    omega
  | d + 1, es, i, x, h, hx => by
    have il := (List.getElem?_eq_some_iff.mp hx).1
    by_cases h2 : 2 ≤ es.length
    · have a := hf_lt h2
      have p := hf_pos es.length
      have lt : (es.take (hf es.length)).length = hf es.length := by rw [List.length_take]; omega
      have ld : (es.drop (hf es.length)).length = es.length - hf es.length := by rw [List.length_drop]
      by_cases hi : i < hf es.length
      · have ih := cl_wy b f d (es.take (hf es.length)) i x (by omega) (by rw [List.getElem?_take, if_pos hi]; exact hx)
        have wl := wy_len b f d (es.take (hf es.length)) i (by omega)
        rw [lt] at ih wl
        rw [wy_lo h2 hi, tn_lo h2 hi, cl_snoc b f _ _ _ _ _ wl.symm, ih, rt_two h2]
        rfl
      · have ih := cl_wy b f d (es.drop (hf es.length)) (i - hf es.length) x (by omega) (by rw [List.getElem?_drop, show hf es.length + (i - hf es.length) = i by omega]; exact hx)
        have wl := wy_len b f d (es.drop (hf es.length)) (i - hf es.length) (by omega)
        rw [ld] at ih wl
        rw [wy_hi h2 hi, tn_hi h2 hi, cl_snoc b f _ _ _ _ _ wl.symm, ih, rt_two h2]
        rfl
    · have i0 : i = 0 := by omega
      rw [tn_one h2, wy_one h2, cl_nil, rt_one h2]
      cases es with
      | nil => simp at il
      | cons y ys => rw [i0] at hx; exact (Option.some.inj hx).symm
/-! unlike -/
/-! the first nodes that differ -/
def fdiff : List (List Int) → List (List Int) → Option (List Int × List Int)
  | a :: as, b :: bs => if a = b then fdiff as bs else some (a, b)
  | _, _ => none
theorem fdiff_cons (a b : List Int) (as bs : List (List Int)) : fdiff (a :: as) (b :: bs) = if a = b then fdiff as bs else some (a, b) := by rw [fdiff]
theorem fdiff_app : ∀ (as bs cs ds : List (List Int)), as.length = bs.length → fdiff (as ++ cs) (bs ++ ds) = (fdiff as bs).or (fdiff cs ds)
  | [], [], cs, ds, _ => by simp [fdiff]
  | a :: as, b :: bs, cs, ds, h => by
    by_cases e : a = b
    · simp only [List.cons_append, fdiff, if_pos e]
      exact fdiff_app as bs cs ds (by simpa using h)
    · simp [fdiff, if_neg e]
  | [], _ :: _, _, _, h => by simp at h
  | _ :: _, [], _, _, h => by simp at h
/-- the node at the head of entries -/
def hd3 (b f : Int) (es : List Int) : List Int := [3, rt b f (es.take (hf es.length)), rt b f (es.drop (hf es.length))]
theorem fdiff_two {b f : Int} {xs ys : List Int} (h : xs.length = ys.length) (h2 : 2 ≤ xs.length) : fdiff (nds b f xs) (nds b f ys) = if hd3 b f xs = hd3 b f ys then (fdiff (nds b f (xs.take (hf xs.length))) (nds b f (ys.take (hf ys.length)))).or (fdiff (nds b f (xs.drop (hf xs.length))) (nds b f (ys.drop (hf ys.length)))) else some (hd3 b f xs, hd3 b f ys) := by
  have h2' : 2 ≤ ys.length := by omega
  rw [nds_two h2, nds_two h2']
  rw [fdiff_cons]
  show (if hd3 b f xs = hd3 b f ys then _ else some (hd3 b f xs, hd3 b f ys)) = _
  by_cases e : hd3 b f xs = hd3 b f ys
  · rw [if_pos e, if_pos e]
    apply fdiff_app
    have p := hf_pos xs.length
    have l := hf_lt h2
    have n1 := nds_len b f xs.length (xs.take (hf xs.length)) (by rw [List.length_take]; omega) (by rw [List.length_take]; omega)
    have n2 := nds_len b f ys.length (ys.take (hf ys.length)) (by rw [List.length_take]; omega) (by rw [List.length_take, ← h]; omega)
    rw [List.length_take] at n1 n2
    have hh : hf ys.length = hf xs.length := by rw [h]
    omega
  · rw [if_neg e, if_neg e]
theorem fdiff_one {b f : Int} {xs ys : List Int} (h2 : ¬ 2 ≤ xs.length) : fdiff (nds b f xs) (nds b f ys) = none := by rw [nds_one h2]; simp [fdiff]
theorem fdiff_self : ∀ as : List (List Int), fdiff as as = none
  | [] => by simp [fdiff]
  | a :: as => by simp [fdiff, fdiff_self as]
/-- what is told: nothing of equal entries; else two unlike nodes with one digest -/
theorem fdiff_none {b f : Int} : ∀ (n : Nat) (xs ys : List Int), xs.length ≤ n → xs.length = ys.length → 1 ≤ xs.length → rt b f xs = rt b f ys → fdiff (nds b f xs) (nds b f ys) = none → xs = ys
  | 0, xs, ys, h, _, h1, _, _ => by omega
  | n + 1, xs, ys, h, hl, h1, hr, hd => by
    by_cases h2 : 2 ≤ xs.length
    · have p := hf_pos xs.length
      have l := hf_lt h2
      rw [fdiff_two hl h2] at hd
      by_cases e : hd3 b f xs = hd3 b f ys
      · rw [if_pos e] at hd
        have e1 : rt b f (xs.take (hf xs.length)) = rt b f (ys.take (hf ys.length)) := by unfold hd3 at e; simp at e; exact e.1
        have e2 : rt b f (xs.drop (hf xs.length)) = rt b f (ys.drop (hf ys.length)) := by unfold hd3 at e; simp at e; exact e.2
        have hd' := Option.or_eq_none_iff.mp hd
        have i1 := fdiff_none n _ _ (by rw [List.length_take]; omega) (by rw [List.length_take, List.length_take, hl]) (by rw [List.length_take]; omega) e1 hd'.1
        have i2 := fdiff_none n _ _ (by rw [List.length_drop]; omega) (by rw [List.length_drop, List.length_drop, hl]) (by rw [List.length_drop]; omega) e2 hd'.2
        rw [← List.take_append_drop (hf xs.length) xs, ← List.take_append_drop (hf ys.length) ys, i1, i2]
      · rw [if_neg e] at hd; cases hd
    · rw [rt_one h2, rt_one (by omega)] at hr
      cases xs with
      | nil => simp at h1
      | cons x xs =>
        cases ys with
        | nil => simp at hl
        | cons y ys =>
          have a : xs = [] := List.length_eq_zero_iff.mp (by rw [List.length_cons] at h2; omega)
          have b : ys = [] := List.length_eq_zero_iff.mp (by rw [List.length_cons] at h2 hl; rw [List.length_cons] at hl; omega)
          have c : x = y := hr
          rw [a, b, c]
theorem fdiff_some {b f : Int} : ∀ (n : Nat) (xs ys u v : List Int), xs.length ≤ n → xs.length = ys.length → 1 ≤ xs.length → rt b f xs = rt b f ys → fdiff (nds b f xs) (nds b f ys) = some (u, v) → u ≠ v ∧ dig b f u = dig b f v ∧ u.length = 3 ∧ v.length = 3
  | 0, xs, ys, _, _, h, _, h1, _, _ => by omega
  | n + 1, xs, ys, u, v, h, hl, h1, hr, hd => by
    by_cases h2 : 2 ≤ xs.length
    · have p := hf_pos xs.length
      have l := hf_lt h2
      rw [fdiff_two hl h2] at hd
      by_cases e : hd3 b f xs = hd3 b f ys
      · rw [if_pos e] at hd
        have e1 : rt b f (xs.take (hf xs.length)) = rt b f (ys.take (hf ys.length)) := by unfold hd3 at e; simp at e; exact e.1
        have e2 : rt b f (xs.drop (hf xs.length)) = rt b f (ys.drop (hf ys.length)) := by unfold hd3 at e; simp at e; exact e.2
        cases c : fdiff (nds b f (xs.take (hf xs.length))) (nds b f (ys.take (hf ys.length))) with
        | some z =>
          rw [c] at hd
          have : z = (u, v) := by simpa using hd
          exact fdiff_some n _ _ u v (by rw [List.length_take]; omega) (by rw [List.length_take, List.length_take, hl]) (by rw [List.length_take]; omega) e1 (by rw [c, this])
        | none =>
          rw [c] at hd
          exact fdiff_some n _ _ u v (by rw [List.length_drop]; omega) (by rw [List.length_drop, List.length_drop, hl]) (by rw [List.length_drop]; omega) e2 (by simpa using hd)
      · rw [if_neg e] at hd
        have q := Option.some.inj hd
        have q1 : hd3 b f xs = u := congrArg Prod.fst q
        have q2 : hd3 b f ys = v := congrArg Prod.snd q
        rw [← q1, ← q2]
        refine ⟨e, ?_, rfl, rfl⟩
        have r1 := rt_two (b := b) (f := f) h2
        have r2 := rt_two (b := b) (f := f) (show 2 ≤ ys.length by omega)
        show dig b f (hd3 b f xs) = dig b f (hd3 b f ys)
        unfold hd3
        rw [← r1, ← r2]; exact hr
    · rw [fdiff_one h2] at hd; cases hd
/-- as data -/
def unD : Option (List Int × List Int) → PyData
  | none => .none
  | some (a, b) => .tuple [.tuple (a.map PyData.int), .tuple (b.map PyData.int)]
/-! plain -/
mutual
def plainD : PyData → Prop
  | .none | .bool _ | .int _ => True
  | .str _ | .dict _ => False
  | .list ds | .tuple ds => ds.length ≤ 100000 ∧ plainAll ds
def plainAll : List PyData → Prop
  | [] => True
  | d :: ds => plainD d ∧ plainAll ds
end
theorem plain_at : ∀ {ds : List PyData} {i : Nat} {d : PyData}, plainAll ds → ds[i]? = some d → plainD d
  | [], _, _, _, e => by simp at e
  | x :: xs, 0, d, h, e => by
    have e' : x = d := by simpa using e
    rw [plainAll] at h; rw [← e']; exact h.1
  | x :: xs, i + 1, d, h, e => by rw [plainAll] at h; exact plain_at (ds := xs) h.2 (by simpa using e)
theorem plain_ints : ∀ ns : List Int, plainAll (ns.map PyData.int)
  | [] => by simp [plainAll]
  | n :: ns => by simp [plainAll, plainD, plain_ints ns]
/-! data -/
theorem canLay_bls : ∀ bs : List Bool, PyData.canLayAll0 (bs.map PyData.bool) = true
  | [] => by simp [PyData.canLayAll0]
  | n :: ns => by simp [PyData.canLayAll0, PyData.canLay0, canLay_bls ns]
theorem depth_bls : ∀ bs : List Bool, PyData.depthAll (bs.map PyData.bool) = 0
  | [] => by simp [PyData.depthAll]
  | n :: ns => by simp [PyData.depthAll, PyData.depth, depth_bls ns]
theorem plain_bls : ∀ bs : List Bool, plainAll (bs.map PyData.bool)
  | [] => by simp [plainAll]
  | n :: ns => by simp [plainAll, plainD, plain_bls ns]
theorem dpAll_bls {K : PySem.W.Frag} {H : Hp} : ∀ bs : List Bool, DpAll K H (bs.map V.bl) (bs.map PyData.bool)
  | [] => .nil
  | n :: ns => .cons (.bl n) (dpAll_bls ns)
theorem dp_B {K : PySem.W.Frag} {H : Hp} {p : Addr} {bs : List Bool} (h : SqL K H p (bs.map V.bl)) : Dp K H (.ref p) (.list (bs.map PyData.bool)) := .lst h (dpAll_bls bs)
theorem plB (bs : List Bool) (h : bs.length ≤ 100000) : plainD (.list (bs.map PyData.bool)) ∧ (PyData.list (bs.map PyData.bool)).depth ≤ 3 := by
  rw [plainD, PyData.depth, depth_bls, List.length_map]
  exact ⟨⟨h, plain_bls bs⟩, by decide⟩
theorem plT (ns : List Int) (h : ns.length ≤ 100000) : plainD (.tuple (ns.map PyData.int)) ∧ (PyData.tuple (ns.map PyData.int)).depth ≤ 3 := by
  rw [plainD, PyData.depth, depth_ints, List.length_map]
  exact ⟨⟨h, plain_ints ns⟩, by decide⟩
theorem plL (ns : List Int) (h : ns.length ≤ 100000) : plainD (.list (ns.map PyData.int)) ∧ (PyData.list (ns.map PyData.int)).depth ≤ 3 := by
  rw [plainD, PyData.depth, depth_ints, List.length_map]
  exact ⟨⟨h, plain_ints ns⟩, by decide⟩
theorem plI (n : Int) : plainD (.int n) ∧ (PyData.int n).depth ≤ 3 := by
  rw [plainD, PyData.depth]; exact ⟨trivial, by decide⟩
theorem sh2 (as bs : List Int) : SeqAt.shaped (.list [.list (as.map PyData.int), .list (bs.map PyData.int)]) = true := by
  simp [SeqAt.shaped, PyData.canLay0, PyData.canLayAll0, PyData.depth, PyData.depthAll, canLay_ints, depth_ints]
/-! unlike_data -/
theorem unD_non {K : PySem.W.Frag} {H : Hp} {v : V} {o : Option (List Int × List Int)} (h : Dp K H v (unD o)) : (v = .non ↔ o = none) := by
  cases o with
  | none => cases h; simp
  | some z =>
    obtain ⟨a, b⟩ := z
    cases h with
    | tup _ _ => simp
theorem noRefs {p : Addr} {us : List V} : ∀ ns : List Int, HO.lst (.ref p :: us) ≠ .lst (ns.map V.int) := by
  intro ns e
  have e2 : V.ref p :: us = ns.map V.int := HO.lst.inj e
  cases ns with
  | nil => cases e2
  | cons n ns => rw [List.map_cons] at e2; exact nomatch (List.cons.inj e2).1
theorem plU {o : Option (List Int × List Int)} (h : ∀ u v, o = some (u, v) → u.length = 3 ∧ v.length = 3) : plainD (unD o) ∧ (unD o).depth ≤ 3 := by
  cases o with
  | none => exact ⟨by simp [unD, plainD], by simp [unD, PyData.depth]⟩
  | some z =>
    obtain ⟨u, v⟩ := z
    have := h u v rfl
    refine ⟨?_, by simp [unD, PyData.depth, PyData.depthAll, depth_ints]⟩
    unfold unD
    simp only [plainD, plainAll, List.length_map, List.length_cons, List.length_nil]
    exact ⟨by omega, ⟨by omega, plain_ints _⟩, ⟨by omega, plain_ints _⟩, trivial⟩
/-! _law_is_integer -/
section
local macro_rules | `(tactic| wtm_at "d") => `(tactic| first | ((with_reducible show Z.XE _ (PySem.Expr.Call (PySem.Expr.Name "bool" _) (_ :: _) [] _) _ _ _); refine Z.xe_callTy (id := "bool") (by assumption) (by wtm_at "m") T.b_bool (by decide +kernel) ?_) | ((with_reducible show Z.XE _ (PySem.Expr.Name "bool" _) _ _ _); refine Z.xe_ty (id := "bool") (by assumption) (by wtm_at "m") T.b_bool (by decide +kernel) ?_) | ((with_reducible show Z.XE _ (PySem.Expr.Call (PySem.Expr.Name "int" _) (_ :: _) [] _) _ _ _); refine Z.xe_callTy (id := "int") (by assumption) (by wtm_at "m") T.b_int (by decide +kernel) ?_) | ((with_reducible show Z.XE _ (PySem.Expr.Name "int" _) _ _ _); refine Z.xe_ty (id := "int") (by assumption) (by wtm_at "m") T.b_int (by decide +kernel) ?_) | ((with_reducible show Z.XE _ (PySem.Expr.Call (PySem.Expr.Name "isinstance" _) (_ :: _) [] _) _ _ _); refine Z.xe_callB (id := "isinstance") (by assumption) (by wtm_at "m") T.b_isinstance (by decide +kernel) ?_) | fail)
def sp_isint : Sp := fun vs H Q _ => ∃ v : Int, vs = [.int v] ∧ Q (.bl true) H
theorem ok__law_is_integer (T : Txt P w K mg base) : DefOk P w K mg base "_law_is_integer" ["told"] 1 sp_isint := by
  refine DefOk.by T.d__law_is_integer sc__law_is_integer oc__law_is_integer (fun vs H Q E h => ?_) (fun X e1 e2 e3 e4 e5 C H vs Q E h => ?_)
  · obtain ⟨v, rfl, _⟩ := h; rfl
  · obtain ⟨v, rfl, q⟩ := h
    wtm_at "go"
    wtm_at "w"
    refine vc_isi (t := "int") (u := true) (.base (.int v)) (by decide +kernel) ?_
    wtm_at "w"
    refine vc_isi (t := "int") (u := false) (.base (.int v)) (by decide +kernel) ?_
    wtm_at "w"
    exact q
end
/-! plainS -/
mutual
def plainS : PyData → Prop
  | .none | .bool _ | .int _ | .str _ => True
  | .dict _ => False
  | .list ds | .tuple ds => ds.length ≤ 100000 ∧ plainSs ds
def plainSs : List PyData → Prop
  | [] => True
  | d :: ds => plainS d ∧ plainSs ds
end
theorem plainS_at : ∀ {ds : List PyData} {i : Nat} {d : PyData}, plainSs ds → ds[i]? = some d → plainS d
  | [], _, _, _, e => by simp at e
  | x :: xs, 0, d, h, e => by
    have e' : x = d := by simpa using e
    rw [plainSs] at h; rw [← e']; exact h.1
  | x :: xs, i + 1, d, h, e => by rw [plainSs] at h; exact plainS_at (ds := xs) h.2 (by simpa using e)
theorem plainSs_ints : ∀ ns : List Int, plainSs (ns.map PyData.int)
  | [] => by simp [plainSs]
  | n :: ns => by simp [plainSs, plainS, plainSs_ints ns]
theorem plainS_L {ns : List Int} (h : ns.length ≤ 100000) : plainS (.list (ns.map PyData.int)) ∧ (PyData.list (ns.map PyData.int)).depth ≤ 3 := by
  rw [plainS, PyData.depth, depth_ints, List.length_map]
  exact ⟨⟨h, plainSs_ints _⟩, by omega⟩
theorem plainS_T {ns : List Int} (h : ns.length ≤ 100000) : plainS (.tuple (ns.map PyData.int)) ∧ (PyData.tuple (ns.map PyData.int)).depth ≤ 3 := by
  rw [plainS, PyData.depth, depth_ints, List.length_map]
  exact ⟨⟨h, plainSs_ints _⟩, by omega⟩
/-! _law_same_s4 -/
section
local macro_rules | `(tactic| wtm_at "d") => `(tactic| first | ((with_reducible show Z.XE _ (PySem.Expr.Call (PySem.Expr.Name "bool" _) (_ :: _) [] _) _ _ _); refine Z.xe_callTy (id := "bool") (by assumption) (by wtm_at "m") T.b_bool (by decide +kernel) ?_) | ((with_reducible show Z.XE _ (PySem.Expr.Name "bool" _) _ _ _); refine Z.xe_ty (id := "bool") (by assumption) (by wtm_at "m") T.b_bool (by decide +kernel) ?_) | ((with_reducible show Z.XE _ (PySem.Expr.Call (PySem.Expr.Name "int" _) (_ :: _) [] _) _ _ _); refine Z.xe_callTy (id := "int") (by assumption) (by wtm_at "m") T.b_int (by decide +kernel) ?_) | ((with_reducible show Z.XE _ (PySem.Expr.Name "int" _) _ _ _); refine Z.xe_ty (id := "int") (by assumption) (by wtm_at "m") T.b_int (by decide +kernel) ?_) | ((with_reducible show Z.XE _ (PySem.Expr.Call (PySem.Expr.Name "isinstance" _) (_ :: _) [] _) _ _ _); refine Z.xe_callB (id := "isinstance") (by assumption) (by wtm_at "m") T.b_isinstance (by decide +kernel) ?_) | ((with_reducible show Z.XE _ (PySem.Expr.Call (PySem.Expr.Name "len" _) (_ :: _) [] _) _ _ _); refine Z.xe_callB (id := "len") (by assumption) (by wtm_at "m") T.b_len (by decide +kernel) ?_) | ((with_reducible show Z.XE _ (PySem.Expr.Call (PySem.Expr.Name "list" _) (_ :: _) [] _) _ _ _); refine Z.xe_callTy (id := "list") (by assumption) (by wtm_at "m") T.b_list (by decide +kernel) ?_) | ((with_reducible show Z.XE _ (PySem.Expr.Name "list" _) _ _ _); refine Z.xe_ty (id := "list") (by assumption) (by wtm_at "m") T.b_list (by decide +kernel) ?_) | ((with_reducible show Z.XE _ (PySem.Expr.Call (PySem.Expr.Name "str" _) (_ :: _) [] _) _ _ _); refine Z.xe_callTy (id := "str") (by assumption) (by wtm_at "m") T.b_str (by decide +kernel) ?_) | ((with_reducible show Z.XE _ (PySem.Expr.Name "str" _) _ _ _); refine Z.xe_ty (id := "str") (by assumption) (by wtm_at "m") T.b_str (by decide +kernel) ?_) | ((with_reducible show Z.XE _ (PySem.Expr.Call (PySem.Expr.Name "tuple" _) (_ :: _) [] _) _ _ _); refine Z.xe_callTy (id := "tuple") (by assumption) (by wtm_at "m") T.b_tuple (by decide +kernel) ?_) | ((with_reducible show Z.XE _ (PySem.Expr.Name "tuple" _) _ _ _); refine Z.xe_ty (id := "tuple") (by assumption) (by wtm_at "m") T.b_tuple (by decide +kernel) ?_) | ((with_reducible show Z.XE _ (PySem.Expr.Call (PySem.Expr.Name "_law_is_integer" _) (_ :: _) [] _) _ _ _); refine Z.xe_call (by assumption) (Law.ok__law_is_integer T) (by wtm_at "m") (by omega) ?_) | ((with_reducible show Z.XE _ (PySem.Expr.Call (PySem.Expr.Name "_law_same" _) (_ :: _) [] _) _ _ _); refine Z.xe_call (by assumption) (Law.ok__law_same T) (by wtm_at "m") (by omega) ?_) | fail)
def sp_same (n : Nat) (K : PySem.W.Frag) : Sp := fun vs H Q _ => ∃ (t u : V) (d : PyData), vs = [t, u] ∧ Dp K H t d ∧ Dp K H u d ∧ d.depth ≤ n ∧ plainS d ∧ Q (.bl true) H
theorem same_by (T : Txt P w K mg base) (n : Nat) (ih : 0 < n → DefOk P w K mg base "_law_same" ["told", "due"] (n + 1) (sp_same (n - 1) K)) : DefOk P w K mg base "_law_same" ["told", "due"] (n + 1 + 1) (sp_same n K) := by
  refine DefOk.by T.d__law_same sc__law_same oc__law_same (fun vs H Q E h => ?_) (fun X e1 e2 e3 e4 e5 C H vs Q E h => ?_)
  · obtain ⟨t, u, d, rfl, _⟩ := h; rfl
  · obtain ⟨t, u, d, rfl, ht, hu, hd, hp, q⟩ := h
    subst e1; subst e2; subst e3; subst e4; subst e5
    have tail : ∀ (p p' : Addr) (xs ys : List V) (ds : List PyData), Sq X.K H p xs → Sq X.K H p' ys → DpAll X.K H xs ds → DpAll X.K H ys ds → 0 < n → PyData.depthAll ds ≤ n - 1 → plainSs ds → ds.length ≤ 100000 →
        XB X ((defBody s__law_same).drop 6) (fun _ H' => Q .non H') ⟨Q, fun _ _ => False, fun _ _ => False⟩ [some (.ref p), some (.ref p'), none] H := by
      intro p p' xs ys ds hx hy ax ay hn hdd hpp hll
      have lx := dpAll_len ax
      have ly := dpAll_len ay
      refine xb_cons ?_
      wtm_at "w"
      refine vc_lenS hx ?_
      wtm_at "w"
      refine vc_lenS hy ?_
      wtm_at "w"
      refine ite_nd (fun h => absurd (by omega) h) (fun _ => ?_)
      wtm_at "w"
      refine xs_forR1 (by assumption) (by wtm_at "m") T.b_range ?_
      wtm_at "w"
      refine vc_lenS hy ?_
      wtm_at "w"
      refine ⟨_, rfl, by omega, by omega, fun i σ H' => ∃ vk, σ = [some (.ref p), some (.ref p'), vk] ∧ H' = H, ⟨_, rfl, rfl⟩, ?_, ?_⟩
      · rintro i σ' H' hi ⟨vk, rfl, rfl⟩
        have hi' : i < ds.length := by omega
        obtain ⟨v, h1, h2⟩ := dpAll_at ax (List.getElem?_eq_getElem hi')
        obtain ⟨v', h3, h4⟩ := dpAll_at ay (List.getElem?_eq_getElem hi')
        have hdi := depth_at (List.getElem?_eq_getElem hi')
        wtm_at "w"
        refine xe_call (by assumption) (ih hn) (by wtm_at "m") (by omega) ?_
        wtm_at "w"
        refine vx_S hx (atI_nat h1) ?_
        wtm_at "w"
        refine vx_S hy (atI_nat h3) ?_
        wtm_at "w"
        refine ⟨v, v', _, rfl, h2, h4, by omega, plainS_at hpp (List.getElem?_eq_getElem hi'), ?_⟩
        wtm_at "w"
        exact ⟨_, rfl, rfl⟩
      · rintro σ' H' ⟨vk, rfl, rfl⟩
        wtm_at "w"
        exact q
    simp only [st0]
    refine xb_cons ?_
    cases hu with
    | non =>
      cases ht
      wtm_at "w"
      refine vc_isi (t := "NoneType") (u := false) (.base .non) (by decide +kernel) ?_
      wtm_at "w"
      refine vc_isi (t := "NoneType") (u := false) (.base .non) (by decide +kernel) ?_
      wtm_at "w"
      refine vc_isi (t := "NoneType") (u := false) (.base .non) (by decide +kernel) ?_
      wtm_at "w"
      refine ite_d (fun _ => ?_) (fun h => absurd rfl h)
      wtm_at "w"
      simpa using q
    | bl b =>
      cases ht
      wtm_at "w"
      refine vc_isi (t := "bool") (u := true) (.base (.bl _)) (by decide +kernel) ?_
      wtm_at "w"
      refine vc_isi (t := "bool") (u := true) (.base (.bl _)) (by decide +kernel) ?_
      wtm_at "w"
      simpa using q
    | int i =>
      cases ht
      wtm_at "w"
      refine vc_isi (t := "int") (u := false) (.base (.int _)) (by decide +kernel) ?_
      wtm_at "w"
      refine vc_isi (t := "int") (u := true) (.base (.int _)) (by decide +kernel) ?_
      wtm_at "w"
      refine ⟨i, rfl, ?_⟩
      wtm_at "w"
      simpa using q
    | str x =>
      cases ht
      wtm_at "w"
      refine vc_isi (t := "str") (u := false) (.base (.str _)) (by decide +kernel) ?_
      wtm_at "w"
      refine vc_isi (t := "str") (u := false) (.base (.str _)) (by decide +kernel) ?_
      wtm_at "w"
      refine vc_isi (t := "str") (u := true) (.base (.str _)) (by decide +kernel) ?_
      wtm_at "w"
      refine vc_isi (t := "str") (u := true) (.base (.str _)) (by decide +kernel) ?_
      wtm_at "w"
      refine ⟨_, op_eq, rfl, ?_⟩
      simpa using q
    | lst hy ay =>
      cases ht with
      | lst hx ax =>
        rw [plainS] at hp
        rw [PyData.depth] at hd
        wtm_at "w"
        refine vc_isi (t := "list") (u := false) (ty_L hy) (by decide +kernel) ?_
        wtm_at "w"
        refine vc_isi (t := "list") (u := false) (ty_L hy) (by decide +kernel) ?_
        wtm_at "w"
        refine vc_isi (t := "list") (u := false) (ty_L hy) (by decide +kernel) ?_
        wtm_at "w"
        refine ite_d (fun h => nomatch h) (fun _ => ?_)
        wtm_at "w"
        refine vc_isi (t := "list") (u := false) (ty_L hy) (by decide +kernel) ?_
        wtm_at "w"
        refine vc_isi (t := "list") (u := true) (ty_L hy) (by decide +kernel) ?_
        wtm_at "w"
        refine vc_isi (t := "list") (u := true) (ty_L hx) (by decide +kernel) ?_
        refine vt_bl (ite_NT (xb_nil ?_))
        exact tail _ _ _ _ _ (.inl hx) (.inl hy) ax ay (by omega) (by omega) hp.2 hp.1
    | tup hy ay =>
      cases ht with
      | tup hx ax =>
        rw [plainS] at hp
        rw [PyData.depth] at hd
        wtm_at "w"
        refine vc_isi (t := "tuple") (u := false) (ty_T hy) (by decide +kernel) ?_
        wtm_at "w"
        refine vc_isi (t := "tuple") (u := false) (ty_T hy) (by decide +kernel) ?_
        wtm_at "w"
        refine vc_isi (t := "tuple") (u := false) (ty_T hy) (by decide +kernel) ?_
        wtm_at "w"
        refine ite_d (fun h => nomatch h) (fun _ => ?_)
        wtm_at "w"
        refine vc_isi (t := "tuple") (u := true) (ty_T hy) (by decide +kernel) ?_
        wtm_at "w"
        refine vc_isi (t := "tuple") (u := true) (ty_T hx) (by decide +kernel) ?_
        wtm_at "w"
        refine vc_isi (t := "tuple") (u := false) (ty_T hy) (by decide +kernel) ?_
        refine vt_bl (L2.iteF (L2.iteF (xb_nil ?_)))
        exact tail _ _ _ _ _ (.inr hx) (.inr hy) ax ay (by omega) (by omega) hp.2 hp.1
theorem same_ok (T : Txt P w K mg base) : ∀ n, DefOk P w K mg base "_law_same" ["told", "due"] (n + 1 + 1) (sp_same n K)
  | 0 => same_by T 0 fun h => absurd h (by omega)
  | n + 1 => same_by T (n + 1) fun _ => same_ok T n
theorem ok__law_same (T : Txt P w K mg base) : DefOk P w K mg base "_law_same" ["told", "due"] 6 (sp_same 4 K) := same_ok T 4
end
/-! noL -/
mutual
def noL : PyData → Bool
  | .list _ => false
  | .tuple ds => noLs ds
  | _ => true
def noLs : List PyData → Bool
  | [] => true
  | d :: ds => noL d && noLs ds
end
mutual
theorem dp_kpT {K : PySem.W.Frag} {H H' : Hp} {A : List Addr} (k : Kp A H H') : ∀ {d : PyData} {v : V}, noL d = true → Dp K H v d → Dp K H' v d
  | _, _, _, .non => .non
  | _, _, _, .bl b => .bl b
  | _, _, _, .int i => .int i
  | _, _, _, .str x => .str x
  | _, _, n, .lst h a => by simp [noL] at n
  | _, _, n, .tup h a => .tup (k.tup h) (dpAll_kpT k (by simpa [noL] using n) a)
theorem dpAll_kpT {K : PySem.W.Frag} {H H' : Hp} {A : List Addr} (k : Kp A H H') : ∀ {ds : List PyData} {vs : List V}, noLs ds = true → DpAll K H vs ds → DpAll K H' vs ds
  | _, _, _, .nil => .nil
  | _, _, n, .cons h a => by
    simp only [noLs, Bool.and_eq_true] at n
    exact .cons (dp_kpT k n.1 h) (dpAll_kpT k n.2 a)
end
theorem noLs_ints : ∀ ns : List Int, noLs (ns.map PyData.int) = true
  | [] => rfl
  | n :: ns => by rw [List.map_cons, noLs, noLs_ints ns]; rfl
theorem noLs_take : ∀ {ds : List PyData} (t : Nat), noLs ds = true → noLs (ds.take t) = true
  | [], t, _ => by simp [noLs]
  | d :: ds, 0, _ => rfl
  | d :: ds, t + 1, h => by
    simp only [noLs, Bool.and_eq_true] at h
    rw [List.take_succ_cons, noLs, h.1, noLs_take t h.2]; rfl
/-! boxn -/
theorem Box.neRefs {H : Hp} {b r p : Addr} {as : List Addr} (bx : Box H b r) (h : H p = some (.lst (as.map V.ref))) : p ≠ b := by
  intro e
  obtain ⟨i, ns, hb, _, _⟩ := bx
  rw [e, hb] at h
  have h' := HO.lst.inj (Option.some.inj h)
  cases as with
  | nil => cases h'
  | cons x as =>
    cases as with
    | nil => cases h'
    | cons y as => rw [List.map_cons, List.map_cons] at h'; exact nomatch (List.cons.inj (List.cons.inj h').2).1
/-! strs -/
/-! texts that are compared; data taken apart -/
section
variable {X : Cx} {H : Hp} {Q : VK} {a b : Str}
theorem vo_eqS (h : Q (.bl (decide (a = b))) H) : VO X (compareOp .Eq) (.str a) (.str b) H Q := by
  refine ⟨_, op_eq, rfl, ?_⟩
  have e : decide (V.str a = V.str b) = decide (a = b) := by by_cases e : a = b <;> simp [e]
  rw [e]; exact h
theorem vo_neS (h : Q (.bl (!decide (a = b))) H) : VO X (compareOp .NotEq) (.str a) (.str b) H Q := by
  refine ⟨_, op_ne, rfl, ?_⟩
  have e : decide (V.str a = V.str b) = decide (a = b) := by by_cases e : a = b <;> simp [e]
  rw [e]; exact h
end
local macro_rules | `(tactic| wtm_at "v") => `(tactic| first | (with_reducible refine Law.vo_eqS ?_) | (with_reducible refine Law.vo_neS ?_) | fail)
theorem dp_tupI {K : PySem.W.Frag} {H : Hp} {v : V} {ds : List PyData} (h : Dp K H v (.tuple ds)) : ∃ p vs, v = .ref p ∧ SqT K H p vs ∧ DpAll K H vs ds := by
  cases h with
  | tup h a => exact ⟨_, _, rfl, h, a⟩
theorem dp_lstI {K : PySem.W.Frag} {H : Hp} {v : V} {ds : List PyData} (h : Dp K H v (.list ds)) : ∃ p vs, v = .ref p ∧ SqL K H p vs ∧ DpAll K H vs ds := by
  cases h with
  | lst h a => exact ⟨_, _, rfl, h, a⟩
theorem dpAll2 {K : PySem.W.Frag} {H : Hp} {vs : List V} {a b : PyData} (h : DpAll K H vs [a, b]) : ∃ x y, vs = [x, y] ∧ Dp K H x a ∧ Dp K H y b := by
  cases h with
  | cons h1 h => cases h with
    | cons h2 h => cases h; exact ⟨_, _, rfl, h1, h2⟩
theorem dpAll3 {K : PySem.W.Frag} {H : Hp} {vs : List V} {a b c : PyData} (h : DpAll K H vs [a, b, c]) : ∃ x y z, vs = [x, y, z] ∧ Dp K H x a ∧ Dp K H y b ∧ Dp K H z c := by
  cases h with
  | cons h1 h => cases h with
    | cons h2 h => cases h with
      | cons h3 h => cases h; exact ⟨_, _, _, rfl, h1, h2, h3⟩
theorem dp_strI {K : PySem.W.Frag} {H : Hp} {v : V} {s : Str} (h : Dp K H v (.str s)) : v = .str s := by cases h; rfl
theorem dp_intI {K : PySem.W.Frag} {H : Hp} {v : V} {s : Int} (h : Dp K H v (.int s)) : v = .int s := by cases h; rfl
/-! lc2 -/
/-! [.. for x, y in a list of pairs] -/
section
variable {X : Cx} {σ σ' : St} {H : Hp} {Q : VK} {N Vs Ls G Vs' G' : List Str} {k i j kt : Nat} {sc scope : Scope} {elt iter : Expr} {ifs : List Expr} {p1 p2 p3 pos : Pos} {nm nm2 : Str}
def gTwo (K : PySem.W.Frag) (i j : Nat) : TG := fun v σ H Q => ∃ (p : Addr) (x y : V), v = .ref p ∧ SqT K H p [x, y] ∧ Q ((σ.set i (some x)).set j (some y)) H
structure LcOk2 (sc scope : Scope) (N Vs' G' : List Str) (nm nm2 : Str) (i j : Nat) (ifs : List Expr) : Prop where
  hN : N[i]? = some nm
  hN2 : N[j]? = some nm2
  ne : i ≠ j
  blk : blkC N sc scope [(nm, i), (nm2, j)] = true
  rd : okC (relS scope sc) Vs' [] G' = true
  knd : scope.kind = .function
  own : (relS scope sc).names.lookup nm = some .local
  own2 : (relS scope sc).names.lookup nm2 = some .local
  one : ifs.length ≤ 1
theorem pg_two (C : Ctx X sc N Vs Ls G k) (O : LcOk2 sc scope N Vs' G' nm nm2 i j ifs) {s0 : Shared} {H0 : Hp} {c : Addr} {cl : List (Str × Addr)} {fp : List Addr} : PG (X.blk s0 H0 scope (compEnvC scope cl c X.env) fp) (.Tuple [.Name nm p1, .Name nm2 p2] kt p3) (gTwo X.K i j) := by
  refine ⟨fun pins s σ H v u Q I r ⟨p, x, y, e, ht, q⟩ => ?_⟩
  exact (pg_tup (X := X.blk s0 H0 scope (compEnvC scope cl c X.env) fp) (n := 2) C.calm (pgs_cons (pg_blk C O.hN O.own) (pgs_cons (pg_blk C O.hN2 O.own2) pgs_nil))).run pins s σ H v u Q I r ⟨p, [x, y], e, ht, rfl, x, [y], rfl, y, [], rfl, rfl, q⟩
/-- one turn: both names stored, the test, the element -/
def XTurn2 (X : Cx) (sc scope : Scope) (N Vs' G' : List Str) (k : Nat) (nm nm2 : Str) (ifs : List Expr) (elt : Expr) (σ : St) (v : V) (H : Hp) (L : Addr) (Nx : Hp → Prop) : Prop :=
  ∃ (p : Addr) (x y : V) (σ1 σ2 : St), v = .ref p ∧ SqT X.K H p [x, y] ∧ Put N σ nm x σ1 ∧ Put N σ1 nm2 y σ2 ∧
    match ifs with
    | [] => XEC X sc scope N Vs' G' k elt σ2 H fun z H4 => ∃ acc, H4 L = some (.lst acc) ∧ acc.length < sizeLine ∧ ∀ H5, Kp [L] H4 H5 → H5 L = some (.lst (acc ++ [z])) → Nx H5
    | c' :: _ => XTC X sc scope N Vs' G' k c' σ2 H fun b H3 => if b = true then XEC X sc scope N Vs' G' k elt σ2 H3 (fun z H4 => ∃ acc, H4 L = some (.lst acc) ∧ acc.length < sizeLine ∧ ∀ H5, Kp [L] H4 H5 → H5 L = some (.lst (acc ++ [z])) → Nx H5) else Nx H3
theorem turn_ok2 (C : Ctx X sc N Vs Ls G k) (O : LcOk2 sc scope N Vs' G' nm nm2 i j ifs) {v : V} {L : Addr} {Nx : Hp → Prop} (h : XTurn2 X sc scope N Vs' G' k nm nm2 ifs elt σ v H L Nx) :
    gTwo X.K i j v (wipe σ [i, j]) H fun σ2 H2 => wipe σ2 [i, j] = wipe σ [i, j] ∧ ttC X scope ifs σ2 H2 fun b H3 => if b = true then teC X scope elt σ2 H3 (fun y H4 => ∃ acc, H4 L = some (.lst acc) ∧ acc.length < sizeLine ∧ Nx (upd H4 L (.lst (acc ++ [y])))) else Nx H3 := by
  obtain ⟨p, x, y, σ1, σ2, e, ht, q1, q2, h⟩ := h
  obtain ⟨i', hi', e1⟩ := q1.ix
  obtain ⟨j', hj', e2⟩ := q2.ix
  have ei : i = i' := nd_ix C.nd O.hN hi'
  have ej : j = j' := nd_ix C.nd O.hN2 hj'
  subst ei; subst ej
  have ne := O.ne
  have w1 : ((wipe σ [i, j]).set i (some x)).set j (some y) = σ2 := by
    rw [← e2, ← e1]
    show (((σ.set j none).set i none).set i (some x)).set j (some y) = _
    rw [List.set_set, List.set_comm none (some x) (Ne.symm ne), List.set_set]
  refine ⟨p, x, y, e, ht, ?_⟩
  rw [w1]
  refine ⟨?_, ?_⟩
  · rw [← e2, ← e1]
    show ((((σ.set i (some x)).set j (some y)).set j none).set i none) = (σ.set j none).set i none
    rw [List.set_set, List.set_comm (some x) none ne, List.set_set]
  have fin : ∀ H3, XEC X sc scope N Vs' G' k elt σ2 H3 (fun z H4 => ∃ acc, H4 L = some (.lst acc) ∧ acc.length < sizeLine ∧ ∀ H5, Kp [L] H4 H5 → H5 L = some (.lst (acc ++ [z])) → Nx H5) →
      teC X scope elt σ2 H3 (fun y H4 => ∃ acc, H4 L = some (.lst acc) ∧ acc.length < sizeLine ∧ Nx (upd H4 L (.lst (acc ++ [y])))) := fun H3 h s0 H0 c cl fp =>
    (h s0 H0 c cl fp (blk_ctx C O.rd O.knd)).mono fun v H4 ⟨acc, h1, h2, h3⟩ => ⟨acc, h1, h2, h3 _ (Kp.set h1 rfl) upd_same⟩
  cases ifs with
  | nil => exact iteT (B := Nx H) (fin H h)
  | cons c' r =>
    intro s0 H0 c cl fp
    refine (h s0 H0 c cl fp (blk_ctx C O.rd O.knd)).mono fun b H3 q => ?_
    cases b with
    | false => exact q
    | true => exact fin H3 q
theorem xlc_L2 (C : Ctx X sc N Vs Ls G k) (O : LcOk2 sc scope N Vs' G' nm nm2 i j ifs)
    (h : XE X iter σ H fun v H1 => ∃ a xs, v = .ref a ∧ SqL X.K H1 a xs ∧ ∀ L H2, Kp [] H1 H2 → H1 L = none → H2 L = some (.lst []) → ∃ Pv : Nat → Hp → Prop, Pv 0 H2 ∧ (∀ t H', t ≤ xs.length → Pv t H' → SqL X.K H' a xs) ∧
      (∀ t y H', xs[t]? = some y → Pv t H' → XTurn2 X sc scope N Vs' G' k nm nm2 ifs elt σ y H' L (Pv (t + 1))) ∧ ∀ H', Pv xs.length H' → Q (.ref L) H') : XLC X elt (.Tuple [.Name nm p1, .Name nm2 p2] kt p3) iter ifs scope σ H Q := by
  refine ⟨_, gTwo X.K i j, ttC X scope ifs, teC X scope elt, [(nm, i), (nm2, j)], pi_list XE.pe, blkOk_by (by rw [C.hN, C.esc]; exact O.blk), fun _ _ _ _ _ => pg_two C O, fun _ _ _ _ _ => pts_blk O.one, fun _ _ _ _ _ => pe_blk,
    fun σ H R R' m h => h.mono fun v H1 ⟨a, e, h1, q⟩ => ⟨a, e, h1, m _ _ q⟩, ?_⟩
  refine h.mono fun v H1 ⟨a, xs, e, hx, h⟩ => ⟨a, e, ⟨xs, hx⟩, fun L hL => ?_⟩
  obtain ⟨Pv, h0, hl, hs, hd⟩ := h L _ (Kp.new hL) hL upd_same
  exact lc_list (K := X.K) (a := a) (xs := xs) Pv h0 hl (fun t y H' ht p => turn_ok2 C O (hs t y H' ht p)) hd
end
/-! enumS -/
/-! for i, x in enumerate(a list, start=k) -/
section
open PyProof.Rows
theorem callWith_tyKw {M : Model} {A : Around} {E : Value → Shared → Prop} {s : Shared} {env : Env} {pos : Pos} {T : String} {e : Expr} {rest : List Expr} {kws : List Keyword} {Q : Value → Shared → Prop}
    (h : wpAny M A (spliced (backTo pos (starEach (e :: rest) env))) (fun vs s₁ => wpAny M A (evalAll ((backToKw pos (keywordEach kws env)).map (·.2)))
      (fun kvs s₂ => wpAny M A (call (.type T) vs (((backToKw pos (keywordEach kws env)).filterMap (·.1)).zip kvs)) Q E s₂) E s₁) E s)
    (he : backTo pos (starEach (e :: rest) env) = (false, eval e env) :: backTo pos (starEach rest env) := by rfl)
    (hplain : (backTo pos (starEach (e :: rest) env)).any (·.1) = false := by rfl)
    (hall : (backToKw pos (keywordEach kws env)).all (·.1.isSome) = true := by rfl)
    (hkw : (backToKw pos (keywordEach kws env)).any (·.1.isNone) = false := by rfl) :
    wpAny M A (callWith pos (.type T) [] (backTo pos (starEach (e :: rest) env)) (backToKw pos (keywordEach kws env))) Q E s := by
  have h2 : wpAny M A (evalArgs (.type T) true (backTo pos (starEach (e :: rest) env)) (backToKw pos (keywordEach kws env))) (fun a s₁ => wpAny M A (call (.type T) ([] ++ a.pos) a.kw) Q E s₁) E s := by
    rw [he] at h ⊢
    exact evalArgs_kwB hall h
  unfold callWith
  refine wpAny_bind (wpAny_holding (wpAny_mono h2 (fun a s₁ h₁ => wpAny_bind (wpAny_standAt ?_)) fun _ _ x => x))
  simp only [hplain, hkw, Bool.or_false]
  refine wpAny_bind (wpAny_pure ?_)
  exact wpAny_bind (wpAny_mono h₁ (fun r s₂ hr => wpAny_bind (wpAny_holding (wpAny_point (wpAny_pure hr)))) fun _ _ x => x)
/-- the list at a, each item in a new pair with its number from k0 on -/
def IteS (K : PySem.W.Frag) (a : Addr) (k0 : Int) : It :=
  ⟨fun i H => ∃ (xs : List V) (x : V), SqL K H a xs ∧ xs[i]? = some x, fun i H v H' => ∃ T x, v = .ref T ∧ H T = none ∧ H' = upd H T (.tup [.int (k0 + (i : Int)), x]) ∧ ∀ xs, SqL K H a xs → xs[i]? = some x, fun i H => ∃ xs : List V, SqL K H a xs ∧ xs.length = i⟩
theorem turn_enumS {P : Program} {w : World} {K : PySem.W.Frag} {elts : List Expr} {kk : Nat} {tpos : Pos} (a e it : Addr) (k0 : Int) (n1 : a ≠ it) (n2 : e ≠ it) (n3 : e ≠ a) :
    Turn P w K (.Tuple elts kk tpos) (IteS K a k0) [e, it] e (fun i h => (∃ old, IsEnum h e it (k0 + (i : Int)) old) ∧ h.IsListIter it a i) where
  mem := by simp
  obj := fun i h st b hb => by
    obtain ⟨⟨old, he⟩, ⟨o, ho, hc, hd⟩⟩ := st
    have e' : b = e ∨ b = it := by simpa using hb
    rcases e' with z | z
    · rw [z]; exact ⟨_, he, fun v q => nomatch q⟩
    · rw [z]; exact ⟨o, ho, fun v q => by rw [hd] at q; cases q⟩
  keep := fun i h h' st k => let ⟨⟨old, he⟩, hi⟩ := st; ⟨⟨old, k e (by simp) _ he⟩, hi.at fun o q => k it (by simp) o q⟩
  item := by
    rintro X rfl rfl rfl hc i pins s σ H E I hf ⟨⟨old, he⟩, hit⟩ ⟨xs, x, lx, ex⟩
    have ⟨its, rv, p, _⟩ := I.list lx
    have ⟨u, hu, ru⟩ := rv.get ex
    have D1 := Draws.list (prog := X.prog) (w := X.w) (A := X.A.in1) (I.ok.hd hc) it a n1 its.toArray
    have W := GoesN.enumFrom (elts := elts) (x1 := kk) (pos := tpos) k0 D1 e n2 (by simp [n2, n3]) (by simp)
    have b1 : i < its.length := (List.getElem?_eq_some_iff.1 hu).1
    refine W.goes i s (fun v s2 => ∃ x H', Inv X pins σ H' s2 ∧ RelV x v ∧ (IteS X.K a k0).yld i H x H' ∧ ((∃ old, IsEnum s2.heap e it (k0 + ((i + 1 : Nat) : Int)) old) ∧ s2.heap.IsListIter it a (i + 1)) ∧ ∀ b ∈ [e, it], H' b = none) E (by simpa using b1) ⟨⟨old, he⟩, hit, p.isList⟩ ?_
    rintro v h' tk ⟨T, t1, v1, rfl, hn, hv1, hT⟩ ⟨r1, r2, _⟩ hk _
    have c1 : v1 = u := by simpa [hu] using hv1.symm
    subst c1
    have new : ObjOk X.prog X.w (upd H T (.tup [.int (k0 + (i : Int)), x])) h' T (.tup [.int (k0 + (i : Int)), x]) := ⟨by show 2 ≤ sizeLine; decide, [.int (k0 + (i : Int)) t1, v1], .cons ⟨_, rfl⟩ (.cons ru .nil), hT⟩
    refine ⟨.ref T, _, I.turnedNew (t' := tk) (ch := [e, it]) (fun c o hb q => hk c o hb q) (fun c hm => hf c hm) hn new, rfl, ⟨T, x, rfl, I.hok.fresh hn, rfl, fun l hl => I.list_inj hl lx ▸ ex⟩, ⟨r1, r2⟩, fun c hm => ?_⟩
    have hl : c < s.heap.objs.size := by
      obtain ⟨o2, q2, _⟩ := hit
      simp only [List.mem_cons, List.not_mem_nil, or_false] at hm
      rcases hm with rfl | rfl
      · exact Heap.lt_size he
      · exact Heap.lt_size q2
    exact (upd_ne (Nat.ne_of_lt (Nat.lt_of_lt_of_le hl hn))).trans (hf c hm).1
  done := by
    rintro X rfl rfl rfl hc i pins s σ H E I hf ⟨⟨old, he⟩, hit⟩ ⟨xs, lx, ex⟩
    have ⟨its, rv, p, _⟩ := I.list lx
    have D1 := Draws.list (prog := X.prog) (w := X.w) (A := X.A.in1) (I.ok.hd hc) it a n1 its.toArray
    have W := GoesN.enumFrom (elts := elts) (x1 := kk) (pos := tpos) k0 D1 e n2 (by simp [n2, n3]) (by simp)
    have hi : its.toArray.size = i := by
      have l1 := rv.length
      simp; omega
    refine W.stops s (fun s1 => Inv X pins σ H s1) E (by rw [hi]; exact ⟨⟨old, he⟩, hit, p.isList⟩) ?_
    intro h' tk hk _
    exact I.turnedL (t' := tk) (ch := [e, it]) (fun c o hb q => hk c o hb q) fun c hm => hf c hm
  self := fun A i s Q E st h => let ⟨⟨_, he⟩, _⟩ := st; wpAny_pyIter_enum he h
def iEnumS (K : PySem.W.Frag) (k0 : Int) (ta : TA) : TI := fun σ H R => ta σ H fun vs H1 => ∃ a xs, vs = [.ref a] ∧ SqL K H1 a xs ∧ R (IteS K a k0) H1
theorem pi_enumS {X : Cx} {e : Expr} {ta : TA} {p pos tpos cpos kpos : Pos} {elts : List Expr} {kk j : Nat} {k0 : Int} (hk0 : -(2 ^ 63) ≤ k0) (hk1 : k0 < 2 ^ 63) (hg : Gl X "enumerate") (hm : X.mg "enumerate" = none) (ha : PA X [e] ta) (hst : starEach [e] X.env = [(false, eval e X.env)] := by rfl) :
    PI X (.Tuple elts kk tpos) (.Call (.Name "enumerate" p) [e] [⟨some "start", .Constant (.int k0) j cpos, kpos⟩] pos) (iEnumS X.K k0 ta) where
  run := by
    intro pins s σ H R I h
    refine wpAny_Call_Name_kw (ld_blt I hg hm PyProof.Rows.boot_enumerate ?_)
    refine callWith_tyKw (he := by rw [hst]; rfl) (hplain := by rw [hst]; rfl) (thn (ha.run pos pins s σ H _ I h) ?_)
    rintro us s1 ⟨vs, H1, I1, r1, a, xs, rfl, lx, q⟩
    refine thn ((pk_cons (X := X) (nm := some "start") (kpos := kpos) (pe_int (X := X) (i := k0) (j := j) (pos := cpos)) pk_nil).run pos pins s1 σ H1 (fun zs H2 => zs = [.int k0] ∧ H2 = H1) I1 ⟨rfl, rfl⟩) ?_
    rintro ws s2 ⟨zs, H2, I2, r2, rfl, rfl⟩
    match us, r1, ws, r2 with
    | [_], .cons r .nil, [_], .cons rk .nil =>
      cases r
      obtain ⟨tk0, rfl⟩ := rk
      have ⟨its, _, p1, _⟩ := I2.list lx
      have la : a < s2.heap.objs.size := p1.lt
      show wpAny _ _ (call (.type "enumerate") [.ref a] [(Str.ofString "start", .int k0 tk0)]) _ _ _
      refine enum_begins_start (begins_list a its.toArray) p1.isList hk0 hk1 fun h' q1 q2 _ hk => wpAny_pyIter_enum q1 ?_
      refine ⟨_, [s2.heap.objs.size + 1, s2.heap.objs.size], _, _, H2, rfl, I2.kept (t' := s2.toks) hk, turn_enumS a _ _ k0 (Nat.ne_of_lt la) (Nat.succ_ne_self _) (Nat.ne_of_gt (Nat.lt_succ_of_lt la)), ⟨⟨.none, by simpa using q1⟩, ⟨_, q2, rfl, rfl⟩⟩, fun c hm => ?_, q⟩
      have hl : s2.heap.objs.size ≤ c := by
        simp only [List.mem_cons, List.not_mem_nil, or_false] at hm
        rcases hm with rfl | rfl <;> first | exact Nat.le_refl _ | exact Nat.le_add_right _ _
      exact I2.fpOk hl (I2.hok.fresh hl)
end
theorem for_enumS {K : PySem.W.Frag} {a : Addr} {k0 : Int} {xs : List V} {g : TG} {tb : TS} {D : Ends} {σ : L2.St} {H : Hp} (Pv : Nat → L2.St → Hp → Prop) (h0 : Pv 0 σ H) (hq : ∀ i σ H, i ≤ xs.length → Pv i σ H → SqL K H a xs)
    (hs : ∀ (i : Nat) (x : V) (T : Addr) (σ : L2.St) (H : Hp), xs[i]? = some x → Pv i σ H → H T = none → g (.ref T) σ (upd H T (.tup [.int (k0 + (i : Int)), x])) fun σ2 H2 => tb ⟨Pv (i + 1), D.rt, D.nx, Pv (i + 1)⟩ σ2 H2) (hd : ∀ σ H, Pv xs.length σ H → D.nx σ H) :
    ∃ W : Nat → Nat → L2.St → Hp → Prop, (∃ m, W 0 m σ H) ∧ ∀ i m σ H, W i m σ H →
      ((IteS K a k0).stop i H ∧ D.nx σ H) ∨ ((IteS K a k0).go i H ∧ ∃ N : L2.St → Hp → Prop, (∀ σ' H', N σ' H' → ∃ m', m' < m ∧ W (i + 1) m' σ' H') ∧ ∀ v H', (IteS K a k0).yld i H v H' → g v σ H' fun σ2 H2 => tb { D with nx := N, ct := N, bk := D.nx } σ2 H2) := by
  refine ⟨fun i m σ H => i ≤ xs.length ∧ m + i = xs.length ∧ Pv i σ H, ⟨_, Nat.zero_le _, rfl, h0⟩, ?_⟩
  rintro i m σ H ⟨hi, hm, p⟩
  have qx := hq i σ H hi p
  rcases Nat.lt_or_ge i xs.length with lt | ge
  · have ex := List.getElem?_eq_getElem lt
    refine .inr ⟨⟨xs, _, qx, ex⟩, Pv (i + 1), fun σ' H' p' => ⟨m - 1, by omega, lt, by omega, p'⟩, ?_⟩
    rintro v H' ⟨T, x', rfl, hT, rfl, f1⟩
    exact hs i x' T σ H (f1 _ qx) p hT
  · obtain rfl : i = xs.length := Nat.le_antisymm hi ge
    exact .inl ⟨⟨xs, qx, rfl⟩, hd σ H p⟩
section
variable {X : Cx} {σ : St} {H : Hp} {N Vs Ls G : List Str} {k : Nat} {sc : Scope} {e : Expr} {pos p2 tpos p cpos kpos : Pos} {nx : St → Hp → Prop} {D : B3} {body : List Stmt} {elts : List Expr} {kk j : Nat} {k0 : Int}
theorem xs_forES (C : Ctx X sc N Vs Ls G k) (hk0 : -(2 ^ 63) ≤ k0) (hk1 : k0 < 2 ^ 63) (hg : Mem G "enumerate") (hm : X.mg "enumerate" = none) (h : XA X [e] σ H fun vs H1 => ∃ a xs, vs = [.ref a] ∧ SqL X.K H1 a xs ∧ ∃ Pv : Nat → St → Hp → Prop, Pv 0 σ H1 ∧
    (∀ i σ' H', i ≤ xs.length → Pv i σ' H' → SqL X.K H' a xs) ∧ (∀ i x T σ' H' H2, xs[i]? = some x → Pv i σ' H' → Kp [] H' H2 → SqT X.K H2 T [.int (k0 + (i : Int)), x] → XG X (.Tuple elts kk tpos) (.ref T) σ' H2 fun σ3 H3 => XB X body (Pv (i + 1)) ⟨D.rt, nx, Pv (i + 1)⟩ σ3 H3) ∧ ∀ σ' H', Pv xs.length σ' H' → nx σ' H')
    (hst : starEach [e] X.env = [(false, eval e X.env)] := by rfl) (hfs : ∀ x, foldedSetIterable (.Call (.Name "enumerate" p) [e] [⟨some "start", .Constant (.int k0) j cpos, kpos⟩] p2) X.env x = pure x := by intro _; rfl) : XS X (.For (.Tuple elts kk tpos) (.Call (.Name "enumerate" p) [e] [⟨some "start", .Constant (.int k0) j cpos, kpos⟩] p2) body [] pos) nx D σ H := by
  refine ⟨_, ps_for C.po C.calm (pi_enumS hk0 hk1 (C.gl hg) hm XA.pa hst) XG.pg XB.ps hfs, ?_⟩
  refine XA.mono h fun vs H1 ⟨a, xs, e, hx, Pv, h0, hq, hs, hd⟩ => ⟨a, xs, e, hx, ?_⟩
  exact for_enumS (K := X.K) (a := a) (k0 := k0) (xs := xs) (D := ⟨nx, D.rt, D.bk, D.ct⟩) (g := XG X (.Tuple elts kk tpos)) (tb := fun D σ H => XB X body D.nx ⟨D.rt, D.bk, D.ct⟩ σ H) Pv h0 hq
    (fun i x T σ H hx hp hT => hs i x T σ H _ hx hp (Kp.new hT) (.inl (.inl upd_same))) hd
end
/-! enumT -/
/-! enumerate of a tuple or of a list, without a start -/
section
open PyProof.Rows
set_option maxHeartbeats 4000000 in
theorem meets_enumerate_new1 {v : Value} {o : Obj} {H : Heap → Prop} (B : Begins v o H) :
    Meets (Builtin.«enumerate.__new__» ⟨[.type "enumerate", v], []⟩) (fun _ R s => H s.heap ∧
      R (.ok (.ret (.ref (s.heap.push o).objs.size))) { s with heap := (s.heap.push o).push { cls := .type "enumerate", data := .fields #[.none, .bool false, .ref s.heap.objs.size, rawInt 0, .none, .none] } }) :=
  .of_wp fun prog w A R s h => by
    obtain ⟨hp, g, d, tk, os⟩ := s; obtain ⟨h1, h⟩ := h
    have hsub := sub_enumerate
    have q1 : ∀ {A' : Around} {E : Value → Shared → Prop} {Q : Value → Shared → Prop}, Q (.ref hp.objs.size) ⟨hp.push o, g, d, tk, os⟩ → wpAny (model prog w) A' (pyIter v) Q E ⟨hp, g, d, tk, os⟩ :=
      fun q => B.iter prog w _ _ ⟨hp, g, d, tk, os⟩ _ h1 q
    wp_walk using q1
    refine wpAny_stack_any fun st => wpAny_pure ?_
    split
    · rename_i c _ _ _ _ _
      cases (c == Value.type "enumerate")
      · wp_walk using q1
        exact ⟨_, rfl, h⟩
      · wp_walk using q1
        exact ⟨_, rfl, h⟩
    · wp_walk using q1
      exact ⟨_, rfl, h⟩
theorem enum_begins1 {prog : Program} {w : World} {A : Around} {E : Value → Shared → Prop} {s : Shared} {v : Value} {o : Obj} {H : Heap → Prop} {Q : Value → Shared → Prop} (B : Begins v o H) (h1 : H s.heap)
    (h : ∀ h', IsEnum h' (s.heap.objs.size + 1) s.heap.objs.size 0 .none → h'.get? s.heap.objs.size = some o → h'.objs.size = s.heap.objs.size + 2 →
      (∀ b o, s.heap.get? b = some o → h'.get? b = some o) → Q (.ref (s.heap.objs.size + 1)) { s with heap := h' }) :
    wpAny (model prog w) A (call (.type "enumerate") [v]) Q E s := by
  refine callType_new F.called_enumerate (by decide) (F.typeCall_enumerate_1 _) (F.newCall_enumerate_1 _) (fun obj => F.args_object_init_2 obj _) F.entry_enumerate_new
    (meets_enumerate_new1 B) ⟨h1, ?_⟩
  have hz : (s.heap.push o).objs.size = s.heap.objs.size + 1 := Heap.size_push ..
  show _ ∧ _
  rw [hz]
  have he : IsEnum ((s.heap.push o).push { cls := .type "enumerate", data := .fields #[.none, .bool false, .ref s.heap.objs.size, rawInt 0, .none, .none] }) (s.heap.objs.size + 1) s.heap.objs.size 0 .none := by
    have := Heap.get?_push_size (s.heap.push o) (o := { cls := .type "enumerate", data := .fields #[.none, .bool false, .ref s.heap.objs.size, rawInt 0, .none, .none] }) rfl
    rw [hz] at this; exact this
  refine ⟨⟨_, he, rfl⟩, h _ he (Heap.get?_push_of_some _ (Heap.get?_push_size _ B.free)) (by rw [Heap.size_push, hz]) fun b o x => Heap.get?_push_of_some _ (Heap.get?_push_of_some _ x)⟩
/-- the tuple at a, each item in a new pair with its number -/
def IteT (K : PySem.W.Frag) (a : Addr) : It :=
  ⟨fun i H => ∃ (xs : List V) (x : V), SqT K H a xs ∧ xs[i]? = some x, fun i H v H' => ∃ T x, v = .ref T ∧ H T = none ∧ H' = upd H T (.tup [.int (i : Int), x]) ∧ ∀ xs, SqT K H a xs → xs[i]? = some x, fun i H => ∃ xs : List V, SqT K H a xs ∧ xs.length = i⟩
theorem turn_enumT {P : Program} {w : World} {K : PySem.W.Frag} {elts : List Expr} {kk : Nat} {tpos : Pos} (a e it : Addr) (n1 : a ≠ it) (n2 : e ≠ it) (n3 : e ≠ a) :
    Turn P w K (.Tuple elts kk tpos) (IteT K a) [e, it] e (fun i h => (∃ old, IsEnum h e it (i : Int) old) ∧ h.IsTupleIter it a i) where
  mem := by simp
  obj := fun i h st b hb => by
    obtain ⟨⟨old, he⟩, ⟨o, ho, hc, hd⟩⟩ := st
    have e' : b = e ∨ b = it := by simpa using hb
    rcases e' with z | z
    · rw [z]; exact ⟨_, he, fun v q => nomatch q⟩
    · rw [z]; exact ⟨o, ho, fun v q => by rw [hd] at q; cases q⟩
  keep := fun i h h' st k => let ⟨⟨old, he⟩, hi⟩ := st; ⟨⟨old, k e (by simp) _ he⟩, hi.at (k it (by simp))⟩
  item := by
    rintro X rfl rfl rfl hc i pins s σ H E I hf ⟨⟨old, he⟩, hit⟩ ⟨xs, x, lx, ex⟩
    have ⟨its, rv, p, _⟩ := I.tuple lx
    have ⟨u, hu, ru⟩ := rv.get ex
    have D1 := Draws.tuple (prog := X.prog) (w := X.w) (A := X.A.in1) (I.ok.hd hc) it a n1 its.toArray
    have W := GoesN.enumFrom (elts := elts) (x1 := kk) (pos := tpos) 0 D1 e n2 (by simp [n2, n3]) (by simp)
    have b1 : i < its.length := (List.getElem?_eq_some_iff.1 hu).1
    refine W.goes i s (fun v s2 => ∃ x H', Inv X pins σ H' s2 ∧ RelV x v ∧ (IteT X.K a).yld i H x H' ∧ ((∃ old, IsEnum s2.heap e it ((i + 1 : Nat) : Int) old) ∧ s2.heap.IsTupleIter it a (i + 1)) ∧ ∀ b ∈ [e, it], H' b = none) E (by simpa using b1) ⟨⟨old, by rw [Int.zero_add]; exact he⟩, hit, p⟩ ?_
    rintro v h' tk ⟨T, t1, v1, rfl, hn, hv1, hT⟩ ⟨r1, r2, _⟩ hk _
    have c1 : v1 = u := by simpa [hu] using hv1.symm
    subst c1
    rw [Int.zero_add] at hT
    have new : ObjOk X.prog X.w (upd H T (.tup [.int (i : Int), x])) h' T (.tup [.int (i : Int), x]) := ⟨by show 2 ≤ sizeLine; decide, [.int (i : Int) t1, v1], .cons ⟨_, rfl⟩ (.cons ru .nil), hT⟩
    obtain ⟨old1, r1⟩ := r1
    rw [Int.zero_add] at r1
    refine ⟨.ref T, _, I.turnedNew (t' := tk) (ch := [e, it]) (fun c o hb q => hk c o hb q) (fun c hm => hf c hm) hn new, rfl, ⟨T, x, rfl, I.hok.fresh hn, rfl, fun l hl => I.tuple_inj hl lx ▸ ex⟩, ⟨⟨old1, r1⟩, r2⟩, fun c hm => ?_⟩
    have hl : c < s.heap.objs.size := by
      obtain ⟨o2, q2, _⟩ := hit
      simp only [List.mem_cons, List.not_mem_nil, or_false] at hm
      rcases hm with rfl | rfl
      · exact Heap.lt_size he
      · exact Heap.lt_size q2
    exact (upd_ne (Nat.ne_of_lt (Nat.lt_of_lt_of_le hl hn))).trans (hf c hm).1
  done := by
    rintro X rfl rfl rfl hc i pins s σ H E I hf ⟨⟨old, he⟩, hit⟩ ⟨xs, lx, ex⟩
    have ⟨its, rv, p, _⟩ := I.tuple lx
    have D1 := Draws.tuple (prog := X.prog) (w := X.w) (A := X.A.in1) (I.ok.hd hc) it a n1 its.toArray
    have W := GoesN.enumFrom (elts := elts) (x1 := kk) (pos := tpos) 0 D1 e n2 (by simp [n2, n3]) (by simp)
    have hi : its.toArray.size = i := by
      have l1 := rv.length
      simp; omega
    refine W.stops s (fun s1 => Inv X pins σ H s1) E (by rw [hi]; exact ⟨⟨old, by rw [Int.zero_add]; exact he⟩, hit, p⟩) ?_
    intro h' tk hk _
    exact I.turnedL (t' := tk) (ch := [e, it]) (fun c o hb q => hk c o hb q) fun c hm => hf c hm
  self := fun A i s Q E st h => let ⟨⟨_, he⟩, _⟩ := st; wpAny_pyIter_enum he h
def iEnumT (K : PySem.W.Frag) (ta : TA) : TI := fun σ H R => ta σ H fun vs H1 => ∃ a xs, vs = [.ref a] ∧ SqT K H1 a xs ∧ R (IteT K a) H1
theorem pi_enumT {X : Cx} {e : Expr} {ta : TA} {p pos tpos : Pos} {elts : List Expr} {kk : Nat} (hg : Gl X "enumerate") (hm : X.mg "enumerate" = none) (ha : PA X [e] ta) (hst : starEach [e] X.env = [(false, eval e X.env)] := by rfl) :
    PI X (.Tuple elts kk tpos) (.Call (.Name "enumerate" p) [e] [] pos) (iEnumT X.K ta) where
  run := by
    intro pins s σ H R I h
    refine PyProof.Rows.Call_ (ld_blt I hg hm PyProof.Rows.boot_enumerate (PyProof.Rows.callWith_type1 (thn (ha.run pos pins s σ H _ I h) ?_) hst rfl))
    rintro us s1 ⟨vs, H1, I1, r1, a, xs, rfl, lx, q⟩
    match us, r1 with
    | [_], .cons r .nil =>
      cases r
      have ⟨its, _, p1, _⟩ := I1.tuple lx
      have la : a < s1.heap.objs.size := have ⟨_, e, _⟩ := p1; Heap.lt_size e
      refine enum_begins1 (begins_tuple a its.toArray) p1 fun h' q1 q2 _ hk => wpAny_pyIter_enum q1 ?_
      refine ⟨_, [s1.heap.objs.size + 1, s1.heap.objs.size], _, _, H1, rfl, I1.kept (t' := s1.toks) hk, turn_enumT a _ _ (Nat.ne_of_lt la) (Nat.succ_ne_self _) (Nat.ne_of_gt (Nat.lt_succ_of_lt la)), ⟨⟨.none, by simpa using q1⟩, ⟨_, q2, rfl, rfl⟩⟩, fun c hm => ?_, q⟩
      have hl : s1.heap.objs.size ≤ c := by
        simp only [List.mem_cons, List.not_mem_nil, or_false] at hm
        rcases hm with rfl | rfl <;> first | exact Nat.le_refl _ | exact Nat.le_add_right _ _
      exact I1.fpOk hl (I1.hok.fresh hl)
end
/-! enumC -/
/-! [.. for i, x in enumerate(..)] -/
theorem lc_it {J : It} {n : Nat} {g : TG} {tt : TT} {te : TE} {vs : List Nat} {σ : L2.St} {H1 : Hp} {D : Addr} {Qd : Hp → Prop} (Pv : Nat → Hp → Prop) (h0 : Pv 0 (upd H1 D (.lst []))) (hgo : ∀ i H, i < n → Pv i H → J.go i H) (hst : ∀ H, Pv n H → J.stop n H)
    (hs : ∀ i H, i < n → Pv i H → ∀ x H', J.yld i H x H' → g x (wipe σ vs) H' fun σ2 H2 => wipe σ2 vs = wipe σ vs ∧ tt σ2 H2 fun b H3 =>
      if b = true then te σ2 H3 fun y H4 => ∃ acc, H4 D = some (.lst acc) ∧ acc.length < sizeLine ∧ Pv (i + 1) (upd H4 D (.lst (acc ++ [y]))) else Pv (i + 1) H3) (hd : ∀ H, Pv n H → Qd H) :
    ∃ W : Nat → Nat → Hp → Prop, (∃ m, W 0 m (upd H1 D (.lst []))) ∧ ∀ i m H, W i m H →
      (J.stop i H ∧ Qd H) ∨ (J.go i H ∧ ∃ Nx : Hp → Prop, (∀ H', Nx H' → ∃ m', m' < m ∧ W (i + 1) m' H') ∧ ∀ x H', J.yld i H x H' → g x (wipe σ vs) H' fun σ2 H2 => wipe σ2 vs = wipe σ vs ∧ tt σ2 H2 fun b H3 =>
        if b = true then te σ2 H3 fun y H4 => ∃ acc, H4 D = some (.lst acc) ∧ acc.length < sizeLine ∧ Nx (upd H4 D (.lst (acc ++ [y]))) else Nx H3) := by
  refine ⟨fun i m H => m = n - i ∧ i ≤ n ∧ Pv i H, ⟨n, by simp, Nat.zero_le _, h0⟩, ?_⟩
  rintro i m H ⟨rfl, hi, p⟩
  by_cases hlt : i < n
  · exact .inr ⟨hgo i H hlt p, Pv (i + 1), fun H' p' => ⟨n - (i + 1), by omega, rfl, hlt, p'⟩, hs i H hlt p⟩
  · have e : i = n := by omega
    subst e
    exact .inl ⟨hst H p, hd H p⟩
section
variable {X : Cx} {σ σ' : L2.St} {H : Hp} {Q : VK} {N Vs Ls G Vs' G' : List Str} {k i j kt : Nat} {sc scope : Scope} {elt e : Expr} {ifs : List Expr} {p p1 p2 p3 pos : Pos} {nm nm2 : Str}
theorem xlc_ET2 (C : Ctx X sc N Vs Ls G k) (O : LcOk2 sc scope N Vs' G' nm nm2 i j ifs) (hg : Mem G "enumerate") (hm : X.mg "enumerate" = none)
    (h : XA X [e] σ H fun vs H1 => ∃ a xs, vs = [.ref a] ∧ SqT X.K H1 a xs ∧ ∀ L H2, Kp [] H1 H2 → H1 L = none → H2 L = some (.lst []) → ∃ Pv : Nat → Hp → Prop, Pv 0 H2 ∧ (∀ t H', t ≤ xs.length → Pv t H' → SqT X.K H' a xs) ∧
      (∀ t y T H' H'', xs[t]? = some y → Pv t H' → Kp [] H' H'' → H' T = none → SqT X.K H'' T [.int (t : Int), y] → XTurn2 X sc scope N Vs' G' k nm nm2 ifs elt σ (.ref T) H'' L (Pv (t + 1))) ∧ ∀ H', Pv xs.length H' → Q (.ref L) H')
    (hst : starEach [e] X.env = [(false, eval e X.env)] := by rfl) : XLC X elt (.Tuple [.Name nm p1, .Name nm2 p2] kt p3) (.Call (.Name "enumerate" p) [e] [] pos) ifs scope σ H Q := by
  refine ⟨_, gTwo X.K i j, ttC X scope ifs, teC X scope elt, [(nm, i), (nm2, j)], pi_enumT (C.gl hg) hm XA.pa hst, blkOk_by (by rw [C.hN, C.esc]; exact O.blk), fun _ _ _ _ _ => pg_two C O, fun _ _ _ _ _ => pts_blk O.one, fun _ _ _ _ _ => pe_blk,
    fun σ H R R' m h => h.mono fun vs H1 ⟨a, xs, e, h1, q⟩ => ⟨a, xs, e, h1, m _ _ q⟩, ?_⟩
  refine h.mono fun vs H1 ⟨a, xs, e, hx, h⟩ => ⟨a, xs, e, hx, fun L hL => ?_⟩
  obtain ⟨Pv, h0, hl, hs, hd⟩ := h L _ (Kp.new hL) hL upd_same
  refine lc_it (n := xs.length) Pv h0 (fun t H hi p => ⟨xs, xs[t], hl t H (Nat.le_of_lt hi) p, List.getElem?_eq_getElem hi⟩) (fun H p => ⟨xs, hl _ H (Nat.le_refl _) p, rfl⟩) (fun t H hi p x H' y => ?_) hd
  obtain ⟨T, z, rfl, hT, rfl, hz⟩ := y
  exact turn_ok2 C O (hs t z T H _ (hz xs (hl t H (Nat.le_of_lt hi) p)) p (Kp.new hT) hT (.inl (.inl upd_same)))
theorem xlc_EL2 (C : Ctx X sc N Vs Ls G k) (O : LcOk2 sc scope N Vs' G' nm nm2 i j ifs) (hg : Mem G "enumerate") (hm : X.mg "enumerate" = none)
    (h : XA X [e] σ H fun vs H1 => ∃ a xs, vs = [.ref a] ∧ SqL X.K H1 a xs ∧ ∀ L H2, Kp [] H1 H2 → H1 L = none → H2 L = some (.lst []) → ∃ Pv : Nat → Hp → Prop, Pv 0 H2 ∧ (∀ t H', t ≤ xs.length → Pv t H' → SqL X.K H' a xs) ∧
      (∀ t y T H' H'', xs[t]? = some y → Pv t H' → Kp [] H' H'' → H' T = none → SqT X.K H'' T [.int (t : Int), y] → XTurn2 X sc scope N Vs' G' k nm nm2 ifs elt σ (.ref T) H'' L (Pv (t + 1))) ∧ ∀ H', Pv xs.length H' → Q (.ref L) H')
    (hst : starEach [e] X.env = [(false, eval e X.env)] := by rfl) : XLC X elt (.Tuple [.Name nm p1, .Name nm2 p2] kt p3) (.Call (.Name "enumerate" p) [e] [] pos) ifs scope σ H Q := by
  refine ⟨_, gTwo X.K i j, ttC X scope ifs, teC X scope elt, [(nm, i), (nm2, j)], pi_enum (C.gl hg) hm XA.pa hst, blkOk_by (by rw [C.hN, C.esc]; exact O.blk), fun _ _ _ _ _ => pg_two C O, fun _ _ _ _ _ => pts_blk O.one, fun _ _ _ _ _ => pe_blk,
    fun σ H R R' m h => h.mono fun vs H1 ⟨a, xs, e, h1, q⟩ => ⟨a, xs, e, h1, m _ _ q⟩, ?_⟩
  refine h.mono fun vs H1 ⟨a, xs, e, hx, h⟩ => ⟨a, xs, e, hx, fun L hL => ?_⟩
  obtain ⟨Pv, h0, hl, hs, hd⟩ := h L _ (Kp.new hL) hL upd_same
  refine lc_it (n := xs.length) Pv h0 (fun t H hi p => ⟨xs, xs[t], hl t H (Nat.le_of_lt hi) p, List.getElem?_eq_getElem hi⟩) (fun H p => ⟨xs, hl _ H (Nat.le_refl _) p, Nat.le_refl _⟩) (fun t H hi p x H' y => ?_) hd
  obtain ⟨T, z, rfl, hT, rfl, hz⟩ := y
  exact turn_ok2 C O (hs t z T H _ (hz xs (hl t H (Nat.le_of_lt hi) p)) p (Kp.new hT) hT (.inl (.inl upd_same)))
end
/-! anyL -/
/-! any, all of a generator expression over a list; its element by what it is at each place -/
section
open PySem.Spec PyProof.Rows GxR
variable {X : Cx} {pins : List (Addr × Obj)} {σ : L2.St} {H : Hp} {s : Shared}
/-- the element at place i is the truth value pb i -/
def EltL (X : Cx) (σ : L2.St) (H1 : Hp) (P : Addr) (scope : Scope) (x : Str) (elt : Expr) (xs : List V) (pb : Nat → Bool) : Prop :=
  ∀ (pins : List (Addr × Obj)) (s1 : Shared), Inv X pins σ H1 s1 → ∀ (i : Nat) (v : V) (u : Value) (L : Addr) (code : Value) (bi : Addr) (A' : Around) (E' : Value → Shared → Prop) (s₂ : Shared) (m₂ : Str → Option Value), A'.handled = none → A'.units ≤ X.A.units + 8 → xs[i]? = some v → RelV v u → s₂.heap.Ns L m₂ → m₂ x = some u →
    (∀ b o, b ≠ P → s1.heap.get? b = some o → s₂.heap.get? b = some o) →
    wpAny (model X.prog X.w) A' (eval elt (genEnv scope (cloFrom X.env.cells scope.names []) L code bi X.env)) (fun y s₃ => y = .bool (pb i) ∧ Keeps s₂ s₃) E' s₂
def ReadyL (X : Cx) (pins : List (Addr × Obj)) (σ : L2.St) (H1 : Hp) (P : Addr) (n : Nat) (pb : Nat → Bool) (g : Addr) (s5 : Shared) : Prop :=
  ∃ (fp wr : List Addr) (G : Array GenState → Array GenState → Prop) (F : Nat → Value → Prop) (St : Nat → Shared → Prop),
    WalksS X.prog X.w X.A.in1 g fp wr G n F St ∧ St 0 s5 ∧ TruthOf X.prog X.w X.A.in1 F pb ∧ ∀ s', Moved wr G s5 s' → ∃ H2, Tabbed P H1 H2 ∧ Inv X pins σ H2 s'
theorem gen_lstV {c P : Addr} {elt iter : Expr} {x : Str} {px gpos : Pos} {scope : Scope} {te : TE} {k : Nat} {Q' : Value → Shared → Prop} {R : List V → (Nat → Bool) → Hp → Prop}
    (hr : Room k X.A) (TB : TabB X.base X.mg c P) (hcode : X.env.code = .ref c) (S : GenS X.env scope x) (hi : PE X iter te)
    (hs : ∀ v, genFold iter X.env v = pure v) (I : Inv X pins σ H s) (h : te σ H fun v H1 => ∃ (yl : Addr) (xs : List V) (pb : Nat → Bool), v = .ref yl ∧ SqL X.K H1 yl xs ∧ TabG H1 P ∧ EltL X σ H1 P scope x elt xs pb ∧ R xs pb H1)
    (hQ : ∀ xs pb H1 g s5, R xs pb H1 → ReadyL X pins σ H1 P xs.length pb g s5 → Q' (.ref g) s5) :
    wpAny (model X.prog X.w) X.A (eval (.GeneratorExp elt [⟨.Name x px, iter, [], 0⟩] scope gpos) X.env) Q' X.xe s := by
  refine wpAny_GeneratorExp_walksQD hr.hd S.co (closure_ok S.free) S.cell S.dot S.loc S.kind (by have := hr.dp; omega) ?_ hs
  refine thn (hi.run pins s σ H _ I h) fun xv s1 ⟨v, H1, I1, r1, q1⟩ => ?_
  obtain ⟨yl, xs, pb, rfl, hyl, ⟨ps, hP, ht⟩, hel, q1⟩ := q1
  obtain rfl : xv = Value.ref yl := r1
  obtain ⟨its, rv, hl, hz⟩ := I1.list hyl
  have hIL := hl.isList
  have hlen : its.length = xs.length := by rw [← rv.length]
  have hat : ∀ (i : Nat) (u : Value), its.toArray[i]? = some u → ∃ (v : V), xs[i]? = some v ∧ RelV v u := fun i u hv => by
    have hv2 : its[i]? = some u := by simpa using hv
    have hi2 : i < its.length := (List.getElem?_eq_some_iff.mp hv2).1
    have ha : xs[i]? = some (xs[i]'(by omega)) := List.getElem?_eq_getElem _
    obtain ⟨u', hu, ru⟩ := rv.get ha
    rw [hv2] at hu
    cases hu
    exact ⟨_, ha, ru⟩
  refine wpAny_pyIter_list hIL ?_
  generalize ho : ({ cls := .type "list_iterator", data := .fields #[.ref yl, .int 0 0] } : Obj) = o
  have hitr : (s1.heap.push o).IsListIter s1.heap.objs.size yl 0 := by
    subst ho
    exact ⟨_, Heap.get?_push_size _ rfl, rfl, rfl⟩
  have hylt : yl < s1.heap.objs.size := by
    obtain ⟨_, e, _⟩ := _root_.id hIL
    exact Heap.lt_size e
  have hPs : s1.heap.get? P = some { cls := .none, data := .fields ps } := I1.hok P _ hP
  have hPlt : P < s1.heap.objs.size := Heap.lt_size hPs
  have hP2 : (s1.heap.push o).get? P = some { cls := .none, data := .fields ps } := Heap.get?_push_of_some _ hPs
  have cd : PySem.W.CodeHd (s1.heap.push o) c P := TB.code.keeps fun b u e => Heap.get?_push_of_some _ (I1.bk b u e)
  have lim2 : (s1.heap.push o).NoLimit := I1.nolimit.push o
  have cont : ∀ (code : Value) (h3 : Heap) (tk : Nat) (ps' : Array Value), Heap.ExtBut P (s1.heap.push o) h3 → (s1.heap.push o).objs.size ≤ h3.objs.size → h3.get? P = some { cls := .none, data := .fields ps' } → (∃ more, ps' = ps ++ more) → TriplesOk ps'.toList →
      wpAny (model X.prog X.w) X.A (builtinsFor X.env.globals X.env.builtins) (fun bi s₄ =>
        ∃ Ia fp wr n₀ Pf St₀ pz F, Value.ref s1.heap.objs.size = .ref Ia ∧ (∀ A' : Around, A'.handled = none → Walks X.prog X.w A' Ia fp wr n₀ Pf St₀) ∧ St₀ 0 s₄.heap ∧ (∀ b ∈ fp, b < s₄.heap.objs.size) ∧ s₄.heap.NoLimit ∧ cStatics ∉ wr ∧
          (∀ href : Heap, (∀ b o, s₄.heap.get? b = some o → href.get? b = some o) →
            QuietGenD X.prog X.w (genEnv scope (cloFrom X.env.cells scope.names []) s₄.heap.objs.size code bi X.env) x [] elt (List.range s₄.heap.objs.size) wr Pf pz F href (X.A.depth + 1) (X.A.units + 8)) ∧
          (∀ a h₅ tk gs, gs.bare = true → s₄.heap.objs.size < a → h₅.objs.size = a + 1 → (∀ b o, s₄.heap.get? b = some o → h₅.get? b = some o) →
            WalksS X.prog X.w X.A.in4 a (a :: s₄.heap.objs.size :: List.range s₄.heap.objs.size) (s₄.heap.objs.size :: wr) (GenOnlyQ s₄.gens.size) (passing pz n₀ 0).length
              (fun j y => ∃ i, (passing pz n₀ 0)[j]? = some i ∧ F i y) (GenAt X.prog X.w X.A.in4 a s₄.gens.size s₄.heap.objs.size (List.range s₄.heap.objs.size) wr pz n₀ F) →
            GenAt X.prog X.w X.A.in4 a s₄.gens.size s₄.heap.objs.size (List.range s₄.heap.objs.size) wr pz n₀ F 0 { s₄ with gens := s₄.gens.push gs, toks := tk, heap := h₅ } →
            Q' (.ref a) { s₄ with gens := s₄.gens.push gs, toks := tk, heap := h₅ })) X.xe { s1 with heap := h3, toks := tk } := by
    intro code h3 tk ps' hx hsz hP3 hmore ht3
    obtain ⟨bm, ob, e1, e2, e3, e4, e5, e6, e7, e8⟩ := TB.bm
    have hcP : cStatics ≠ P := fun e => by
      obtain ⟨_, hns, _⟩ := I1.nolimit
      obtain ⟨o', es, ep, ho, hd, _⟩ := hns
      rw [e, hPs] at ho
      cases ho
      cases hd
    have hcl : cStatics < s1.heap.objs.size := let ⟨_, hns, _⟩ := I1.nolimit; hns.lt
    have sz2 : (s1.heap.push o).objs.size = s1.heap.objs.size + 1 := Heap.size_push ..
    have keep3 : ∀ b u, b ≠ P → s1.heap.get? b = some u → h3.get? b = some u := fun b u hb e => hx b u hb (Heap.get?_push_of_some _ e)
    refine wpAny_builtinsFor (m := X.mg) (by rw [I1.ok.glob]; exact ((I1.mod.glob.keeps I1.bk).push o).extBut hx TB.gP) e1 e2 (keep3 _ _ e4 (I1.bk _ _ e5)) e6 e7 e8 ?_
    have hylP : yl ≠ P := fun z => by
      obtain ⟨_, e, hc1, _, hd1⟩ := _root_.id hIL
      rw [z, hPs] at e
      cases e
      cases hd1
    have hIL3 : h3.IsList yl its.toArray := by
      obtain ⟨ob, e, r⟩ := _root_.id hIL
      exact ⟨ob, keep3 _ _ hylP e, r⟩
    have hItr3 : h3.IsListIter s1.heap.objs.size yl 0 := hitr.at fun u e => hx _ u (Nat.ne_of_gt hPlt) e
    refine ⟨s1.heap.objs.size, [s1.heap.objs.size, yl], [s1.heap.objs.size], its.toArray.size, (fun i v => its.toArray[i]? = some v), (fun i h => h.IsListIter s1.heap.objs.size yl i ∧ h.IsList yl its.toArray), (fun _ => true),
      (fun i y => y = .bool (pb i)), rfl, (fun A' hA => Walks.list hA _ _ (Nat.ne_of_lt hylt) _), ⟨hItr3, hIL3⟩, ?_, lim2.extBut hx hcP, ?_, ?_, ?_⟩
    · intro b hb
      rcases List.mem_cons.mp hb with z | z
      · rw [z]
        show s1.heap.objs.size < h3.objs.size
        omega
      · rcases List.mem_cons.mp z with z | z
        · rw [z]
          have e9 : s1.heap.objs.size ≤ h3.objs.size := by omega
          exact Nat.lt_of_lt_of_le hylt e9
        · cases z
    · intro z
      rcases List.mem_cons.mp z with z | z
      · exact Nat.ne_of_lt hcl z
      · cases z
    · intro href hhref
      refine ⟨fun A' E' i v s₂ m₂ hA _ _ hPv hn hm hk => ?_, fun A' E' i v s₂ m₂ hA hdp hun hPv hp hn hm hk => ?_⟩
      · simp only [List.forIn_nil]
        exact wpAny_pure ⟨rfl, keeps_refl _⟩
      · obtain ⟨v', ha, ru⟩ := hat i v hPv
        refine hel pins s1 I1 i v' v _ code _ A' E' s₂ m₂ hA hun ha ru hn hm (fun b u hb e => ?_)
        have lb := Heap.lt_size e
        refine hk b (List.mem_range.mpr ?_) (fun z => ?_) u (hhref b u (keep3 b u hb e))
        · show b < h3.objs.size
          have : s1.heap.objs.size ≤ h3.objs.size := by omega
          exact Nat.lt_of_lt_of_le lb this
        · rw [List.mem_singleton.mp z] at lb
          exact Nat.lt_irrefl _ lb
    · intro g h5 tk5 gs hgb hag hsz5 hk5 W5 hgat
      simp only [GxR.passing_true, List.length_range] at W5
      have hn5 : its.toArray.size = xs.length := by rw [List.size_toArray, hlen]
      rw [hn5] at W5 hgat
      refine hQ xs pb H1 g _ q1 ⟨_, _, _, _, _, W5.in4_1, hgat, ?_, fun s' hm => ?_⟩
      · intro j y sj Qj Ej hy hQj
        obtain ⟨i, hij, rfl⟩ := hy
        obtain ⟨hj, ej⟩ := List.getElem?_eq_some_iff.mp hij
        rw [List.getElem_range] at ej
        subst ej
        exact wpAny_truthy_bool hQj
      · obtain ⟨more, em⟩ := hmore
        have nwr : ∀ b u, s1.heap.get? b = some u → b ∉ h3.objs.size :: [s1.heap.objs.size] := fun b u e hb => by
          have hl := Heap.lt_size e
          rcases List.mem_cons.mp hb with z | z
          · rw [z] at hl
            have h9 : (h3.objs.size : Nat) < s1.heap.objs.size := hl
            omega
          · rcases List.mem_cons.mp z with z | z
            · rw [z] at hl
              exact Nat.lt_irrefl _ hl
            · cases z
        have J := inv_tab (more := more) (h' := s'.heap) (g' := s'.gens) (d' := s'.drawn) (t' := s'.toks) I1 hP (fun b u hb e => hm.heap b u (nwr b u e) (hk5 b u (keep3 b u hb e)))
          (by rw [← em]; exact hm.heap P _ (nwr P _ hPs) (hk5 P _ hP3)) (AllBare.movedS (I1.bare.push hgb) hm)
        rw [sh_eta s1 s' hm.os] at J
        refine ⟨upd H1 P (.tbl (ps ++ more)), ⟨⟨ps ++ more, upd_same, by rw [← em]; exact ht3⟩, fun b hb => upd_ne hb⟩, J⟩
  refine ⟨lim2, ?_⟩
  cases hf : codeAmong gpos ps.toList with
  | none =>
    refine wpAny_genexprCodeX hcode (cd.code hP2 ht) (cd.tab hP2) hf fun c' h' tk hx hge hlt hco' _ htab' _ => ?_
    obtain ⟨o1, vs, f1, tf, fl, tg, inF, tx, tt, op, _, _, _, _, _, _, _, _, _, htr, _⟩ := hco'
    exact cont _ h' tk _ hx (Nat.le_trans hge (Nat.le_of_lt hlt)) htab'.2 ⟨_, rfl⟩ htr
  | some cv =>
    refine wpAny_genexprCode_hit hcode (cd.code hP2 ht) hf ?_
    exact cont cv (s1.heap.push o) s1.toks ps (Heap.ExtBut.refl _ _) (Nat.le_refl _) hP2 ⟨#[], by simp⟩ ht
/-- .. by what can be decided -/
structure GenD (sc scope : Scope) (x : Str) : Prop where
  kind : scope.kind = .function
  co : scope.isCoroutine = false
  cell : ∀ y ∈ scope.names, y.2 ≠ .cell
  dot : scope.names.lookup (".0" : Str) = some NameKind.local
  loc : scope.names.lookup x = some .local
  free : ∀ y ∈ scope.names, y.2 = .free → sc.names.lookup y.1 = some .cell
theorem GenD.sS {sc scope : Scope} {x : Str} (g : GenD sc scope x) (esc : X.env.scope = sc) (I : Inv X pins σ H s) : GenS X.env scope x := ⟨g.kind, g.co, g.cell, g.dot, g.loc, fun y m e => I.ok.has y.1 (.inl (by show X.env.scope.names.lookup y.1 = _; rw [esc]; exact g.free y m e))⟩
def tAnyL (X : Cx) (P : Addr) (scope : Scope) (x : Str) (elt : Expr) (te : TE) : TE := fun σ H Q => te σ H fun v H1 => ∃ (yl : Addr) (xs : List V) (pb : Nat → Bool), v = .ref yl ∧ SqL X.K H1 yl xs ∧ TabG H1 P ∧ EltL X σ H1 P scope x elt xs pb ∧ ∀ H2, Tabbed P H1 H2 → Q (.bl ((List.range xs.length).any pb)) H2
theorem pe_anyL {c P : Addr} {elt iter : Expr} {x : Str} {px p pos gpos : Pos} {scope : Scope} {te : TE} {k : Nat}
    (hr : Room k X.A) (hg : Gl X "any") (hm : X.mg "any" = none) (TB : TabB X.base X.mg c P) (hcode : X.env.code = .ref c) {sc : Scope} (esc : X.env.scope = sc) (S : GenD sc scope x) (hi : PE X iter te)
    (hs : ∀ v, genFold iter X.env v = pure v)
    (he : starEach [.GeneratorExp elt [⟨.Name x px, iter, [], 0⟩] scope gpos] X.env = (false, eval (.GeneratorExp elt [⟨.Name x px, iter, [], 0⟩] scope gpos) X.env) :: starEach [] X.env := by rfl) :
    PE X (.Call (.Name "any" p) [.GeneratorExp elt [⟨.Name x px, iter, [], 0⟩] scope gpos] [] pos) (tAnyL X P scope x elt te) := by
  refine ⟨fun pins s σ H Q I h => ?_⟩
  refine wpAny_Call_Name_kw (ld_blt I hg hm boot_any ?_)
  refine PyProof.Rows.callWith_builtin1 ?_ he (by rfl)
  rw [he]
  show wpAny _ _ (spliced ((false, eval (.GeneratorExp elt [⟨.Name x px, iter, [], 0⟩] scope gpos) X.env) :: backTo pos (starEach [] X.env))) _ _ s
  refine Calls.spliced_cons (gen_lstV (R := fun xs pb H1 => ∀ H2, Tabbed P H1 H2 → Q (.bl ((List.range xs.length).any pb)) H2) hr TB hcode (S.sS esc I) hi hs I h fun xs pb H1 g s5 hR hG => ?_)
  obtain ⟨fp, wr, G, F, St, W, hst, htr, hI⟩ := hG
  refine Calls.spliced_nil ?_
  refine call_any_walkS (W.self 0 _ _ _ hst ⟨g, fp, wr, G, _, F, St, _, rfl, W, hst, htr, fun s' hmv => ?_⟩)
  obtain ⟨H2, hT, J⟩ := hI s' hmv
  exact ⟨.bl _, H2, J, rfl, hR H2 hT⟩
theorem xe_anyL {sc : Scope} {N Vs Ls G : List Str} {k : Nat} {c P : Addr} {elt iter : Expr} {x : Str} {px p pos gpos : Pos} {scope : Scope} {Q : VK} (C : Ctx X sc N Vs Ls G k) (TB : TabB X.base X.mg c P) (hcode : X.env.code = .ref c) (S : GenD sc scope x) (hg : Mem G "any") (hm : X.mg "any" = none)
    (h : XE X iter σ H fun v H1 => ∃ (yl : Addr) (xs : List V) (pb : Nat → Bool), v = .ref yl ∧ SqL X.K H1 yl xs ∧ TabG H1 P ∧ EltL X σ H1 P scope x elt xs pb ∧ ∀ H2, Tabbed P H1 H2 → Q (.bl ((List.range xs.length).any pb)) H2)
    (hs : ∀ v, genFold iter X.env v = pure v := by intro _; rfl)
    (he : starEach [.GeneratorExp elt [⟨.Name x px, iter, [], 0⟩] scope gpos] X.env = (false, eval (.GeneratorExp elt [⟨.Name x px, iter, [], 0⟩] scope gpos) X.env) :: starEach [] X.env := by rfl) :
    XE X (.Call (.Name "any" p) [.GeneratorExp elt [⟨.Name x px, iter, [], 0⟩] scope gpos] [] pos) σ H Q := ⟨_, pe_anyL C.room (C.gl hg) hm TB hcode C.esc S XE.pe hs he, h⟩
end
/-! eltHas -/
/-! elements of generator expressions -/
section
open PySem.Spec PyProof.Rows GxR
section
variable {prog : Program} {w : World} {A : Around} {E : Value → Shared → Prop} {s : Shared} {cenv : Env} {x : Str} {t : Addr} {m : Str → Option Value} {Q : Value → Shared → Prop} {p1 p2 p3 : Pos} {items : Array Value} {u : Value}
theorem ev_tupAt {k j : Nat} (hk : cenv.scope.kind = .function) (hl : cenv.scope.names.lookup x = some .local) (hn : s.heap.Ns cenv.locals m) (hm : m x = some (.ref t)) (ht : IsTup s.heap t items) (hx : items[k]? = some u) (k63 : (k : Int) < 2 ^ 63)
    (h : ∀ tk, Q u { s with toks := tk }) (hd : (x == ("__debug__" : Str)) = false := by decide) : wpAny (model prog w) A (eval (.Subscript (.Name x p1) (.Constant (.int (k : Int)) j p2) p3) cenv) Q E s := by
  refine Subscript_ (wpAny_Name (wpAny_loadName_local hk hl hn hm ?_) hd)
  refine wpAny_Constant_int ?_
  have lt : k < items.size := (Array.getElem?_eq_some_iff.mp hx).1
  have hj : seqIndex? (k : Int) items.size = some k := by
    have h0 : ¬ ((k : Int) < 0) := by omega
    unfold seqIndex?
    simp [h0, lt]
  exact subscriptTail_builtin (T := "tuple") (show ({ s with toks := s.toks + 1 } : Shared).TypeIs (.ref t) "tuple" from (ht : IsTup ({ s with toks := s.toks + 1 } : Shared).heap t items).typeIs) slot_tuple_getitem.lookup (getItem_tuple (s := { s with toks := s.toks + 1 }) ht (by have : (0 : Int) ≤ (k : Int) := Int.natCast_nonneg k; omega) k63 hj hx (h _))
end
theorem tbl_obj {X : Cx} {pins : List (Addr × Obj)} {σ : L2.St} {H : Hp} {s : Shared} {P t : Addr} {items : Array Value} (I : Inv X pins σ H s) (hP : TabG H P) (ht : IsTup s.heap t items) : t ≠ P := fun z => by
  obtain ⟨ps, e, _⟩ := hP
  have h1 := I.hok P _ e
  obtain ⟨o, e1, e2, _⟩ := ht
  have h2 : s.heap.get? P = some { cls := .none, data := .fields ps } := h1
  rw [z, h2] at e1
  cases e1
  cases e2
theorem tup_kept {P t : Addr} {items : Array Value} {h h' : Heap} (kp : ∀ b o, b ≠ P → h.get? b = some o → h'.get? b = some o) (n : t ≠ P) (ht : IsTup h t items) : IsTup h' t items := by
  obtain ⟨o, e1, r⟩ := ht
  exact ⟨o, kp t o n e1, r⟩
theorem free_cl {cells : List (Str × Addr)} {names : List (Str × NameKind)} {y : Str} {c : Addr} (hm : (y, NameKind.free) ∈ names) (hc : cells.lookup y = some c) (one : ∀ y' k, (y', k) ∈ names → k = NameKind.free → y' = y) : (cloFrom cells names []).lookup y = some c := by
  have all : ∀ (names : List (Str × NameKind)) (acc : List (Str × Addr)), (∀ y' k, (y', k) ∈ names → k = NameKind.free → y' = y) → (∀ q ∈ acc, q = (y, c)) → ((y, NameKind.free) ∈ names ∨ acc ≠ []) → (cloFrom cells names acc).lookup y = some c := by
    intro names
    induction names with
    | nil =>
      intro acc _ ha h
      rcases h with h | h
      · cases h
      · cases acc with
        | nil => exact absurd rfl h
        | cons q r =>
          rw [ha q List.mem_cons_self]
          show List.lookup y ((y, c) :: r) = some c
          rw [List.lookup_cons, beq_self_eq_true]
    | cons n r ih =>
      intro acc h1 ha h
      obtain ⟨n, k⟩ := n
      rw [cloFrom]
      by_cases hk : k = NameKind.free
      · subst hk
        have e : n = y := h1 n _ List.mem_cons_self rfl
        subst e
        rw [if_pos (by rfl), hc]
        exact ih _ (fun y' k' m => h1 y' k' (List.mem_cons_of_mem _ m)) (fun q m => by
          rcases List.mem_cons.mp m with z | z
          · exact z
          · exact ha q z) (.inr (by simp))
      · have kb : (k == NameKind.free) = false := by cases k <;> first | rfl | exact absurd rfl hk
        rw [kb]
        refine ih acc (fun y' k' m => h1 y' k' (List.mem_cons_of_mem _ m)) ha ?_
        rcases h with h | h
        · rcases List.mem_cons.mp h with z | z
          · exact absurd (Prod.mk.inj z).2.symm hk
          · exact .inl z
        · exact .inr h
  exact all names [] one (fun q m => nomatch m) (.inl hm)
/-- (x[0], x[1], x[3]) == y, y a name of the def -/
theorem elt_has {X : Cx} {sc : Scope} {N Vs Ls G : List Str} {k : Nat} (C : Ctx X sc N Vs Ls G k) {σ : L2.St} {H1 : Hp} {P : Addr} {scope : Scope} {x y : Str} {kt : Nat} {p0 p1 p2 p3 p4 p5 p6 p7 p8 p9 pa pc : Pos} {j0 j1 j3 : Nat} {xs : List V} {es : List (Int × Int × Int × Int)} {wa : Addr} {a b d : Int}
    (hP : TabG H1 P) (he : xs.length = es.length) (hx : ∀ (i : Nat) (e : Int × Int × Int × Int), es[i]? = some e → ∃ t : Addr, xs[i]? = some (V.ref t) ∧ SqT X.K H1 t [.int e.1, .int e.2.1, .int e.2.2.1, .int e.2.2.2]) (hw : SqT X.K H1 wa [.int a, .int b, .int d]) (hv : At N σ y (.ref wa)) (hyc : sc.names.lookup y = some .cell)
    (hk : scope.kind = .function) (hl : scope.names.lookup x = some .local) (hf : scope.names.lookup y = some .free) (hm : (y, NameKind.free) ∈ scope.names) (one : ∀ q ∈ scope.names, q.2 = NameKind.free → q.1 = y)
    (hd : (x == ("__debug__" : Str)) = false := by decide) (hd2 : (y == ("__debug__" : Str)) = false := by decide) (hn2 : (y == ("__classdict__" : Str)) = false := by decide) :
    EltL X σ H1 P scope x (.Compare (.Tuple [.Subscript (.Name x p0) (.Constant (.int 0) j0 p1) p2, .Subscript (.Name x p3) (.Constant (.int 1) j1 p4) p5, .Subscript (.Name x p6) (.Constant (.int 3) j3 p7) p8] kt p9) [.Eq] [.Name y pa] pc) xs
      (fun i => decide ([(es.getD i (0, 0, 0, 0)).1, (es.getD i (0, 0, 0, 0)).2.1, (es.getD i (0, 0, 0, 0)).2.2.2] = [a, b, d])) := by
  intro pins s1 I1 i v u L code bi A' E' s₂ m₂ hA hun hi ru hn hmx kp
  have hi' : i < es.length := by rw [← he]; exact (List.getElem?_eq_some_iff.mp hi).1
  obtain ⟨t, ht, hT⟩ := hx i es[i] (List.getElem?_eq_getElem hi')
  have eg : es.getD i (0, 0, 0, 0) = es[i] := by rw [List.getD_eq_getElem?_getD, List.getElem?_eq_getElem hi']; rfl
  show wpAny _ _ _ (fun y s₃ => y = Value.bool (decide ([(es.getD i (0, 0, 0, 0)).1, (es.getD i (0, 0, 0, 0)).2.1, (es.getD i (0, 0, 0, 0)).2.2.2] = [a, b, d])) ∧ Keeps s₂ s₃) _ _
  rw [eg]
  generalize es[i] = e at hT ⊢
  have ev : v = .ref t := Option.some.inj (hi.symm.trans ht)
  subst ev
  obtain rfl : u = Value.ref t := ru
  obtain ⟨its, rv, hIT, _⟩ := I1.tuple hT
  have hIT2 := tup_kept kp (tbl_obj I1 hP hIT) hIT
  obtain ⟨its2, rv2, hIW, _⟩ := I1.tuple hw
  have hIW2 := tup_kept kp (tbl_obj I1 hP hIW) hIW
  cases rv with
  | cons r0 rv => cases rv with
    | cons r1 rv => cases rv with
      | cons r2 rv => cases rv with
        | cons r3 rv =>
          cases rv
          obtain ⟨t0, rfl⟩ := r0
          obtain ⟨t1, rfl⟩ := r1
          obtain ⟨t2, rfl⟩ := r2
          obtain ⟨t3, rfl⟩ := r3
          cases rv2 with
          | cons q0 rv2 => cases rv2 with
            | cons q1 rv2 => cases rv2 with
              | cons q2 rv2 =>
                cases rv2
                obtain ⟨w0, rfl⟩ := q0
                obtain ⟨w1, rfl⟩ := q1
                obtain ⟨w2, rfl⟩ := q2
                refine wpAny_Compare1 ?_
                refine Tuple_ ?_
                show wpAny _ _ (spliced [(false, eval _ _), (false, eval _ _), (false, eval _ _)]) _ _ _
                refine Calls.spliced_cons (ev_tupAt (k := 0) hk hl hn hmx hIT2 (u := .int e.1 t0) rfl (by decide) (fun tk => ?_) hd)
                refine Calls.spliced_cons (ev_tupAt (k := 1) (s := { s₂ with toks := tk }) hk hl hn hmx hIT2 (u := .int e.2.1 t1) rfl (by decide) (fun tk1 => ?_) hd)
                refine Calls.spliced_cons (ev_tupAt (k := 3) (s := { s₂ with toks := tk1 }) hk hl hn hmx hIT2 (u := .int e.2.2.2 t3) rfl (by decide) (fun tk3 => ?_) hd)
                refine Calls.spliced_nil ?_
                refine wpAny_newTuple ?_ (by show 3 ≤ sizeLine; decide)
                -- the other side
                obtain ⟨m, hnm, look⟩ := I1.loc
                obtain ⟨iy, h1, h2⟩ := hv.ix
                obtain ⟨uw, rw', lk⟩ := look iy y (.ref wa) (by rw [C.hN]; exact h1) h2 (by rw [C.esc]; exact .inr (.inl hyc))
                obtain rfl : uw = Value.ref wa := rw'
                have kk : X.env.kindOf y = some .cell := by show X.env.scope.names.lookup y = _; rw [C.esc]; exact hyc
                obtain ⟨c, hc, hcell⟩ : ∃ c, X.env.cells.lookup y = some c ∧ s1.heap.IsCell c (some (.ref wa)) := by
                  rcases lk with ⟨z, _⟩ | ⟨_, c, hc, hcell⟩
                  · rw [kk] at z; cases z
                  · exact ⟨c, hc, hcell⟩
                have hcP : c ≠ P := fun z => by
                  obtain ⟨ps, e, _⟩ := hP
                  have h1 : s1.heap.get? P = some { cls := .none, data := .fields ps } := I1.hok P _ e
                  obtain ⟨o, e1, e2⟩ := hcell
                  rw [z, h1] at e1
                  cases e1
                  first | cases e2 | (obtain ⟨e3, _⟩ := e2; cases e3) | (obtain ⟨_, e3⟩ := e2; cases e3)
                have hcell2 : (s₂.heap.push { cls := .type "tuple", data := .seq #[.int e.1 t0, .int e.2.1 t1, .int e.2.2.2 t3] }).IsCell c (some (.ref wa)) := by
                  obtain ⟨o, e1, e2⟩ := hcell
                  exact ⟨o, Heap.get?_push_of_some _ (kp c o hcP e1), e2⟩
                refine wpAny_Name (wpAny_loadName_free (c := c) (v := .ref wa) hk hf (free_cl hm hc (fun y' k m e => one (y', k) m e)) hcell2 ?_ hn2) hd2
                have rA : Reads (s₂.heap.push { cls := .type "tuple", data := .seq #[.int e.1 t0, .int e.2.1 t1, .int e.2.2.2 t3] }) (.ref s₂.heap.objs.size) (.tuple ([e.1, e.2.1, e.2.2.2].map PyData.int)) _ :=
                  Reads.tuple (Heap.get?_push_size _ rfl) rfl rfl (.cons (.int _ _) (.cons (.int _ _) (.cons (.int _ _) .nil)))
                obtain ⟨ow, ew, cw, nw, dw⟩ := hIW2
                have rB : Reads (s₂.heap.push { cls := .type "tuple", data := .seq #[.int e.1 t0, .int e.2.1 t1, .int e.2.2.2 t3] }) (.ref wa) (.tuple ([a, b, d].map PyData.int)) _ :=
                  Reads.tuple (Heap.get?_push_of_some _ ew) cw dw (.cons (.int _ _) (.cons (.int _ _) (.cons (.int _ _) .nil)))
                refine SeqAt.compareEq_shaped (s := { s₂ with toks := tk3, heap := s₂.heap.push { cls := .type "tuple", data := .seq #[.int e.1 t0, .int e.2.1 t1, .int e.2.2.2 t3] } }) rA rB (shT _) (shT _) (by have := C.room.units; have hu := C.room.un; omega) ?_
                refine ⟨?_, ⟨_, tk3, rfl, fun bb oo ee => Heap.get?_push_of_some _ ee⟩⟩
                rw [eqv_T]
end
/-! has49 -/
section
local macro_rules | `(tactic| wtm_at "d") => `(tactic| first | ((with_reducible show Z.XE _ (PySem.Expr.Call (PySem.Expr.Name "any" _) (_ :: _) [] _) _ _ _); refine Z.xe_callB (id := "any") (by assumption) (by wtm_at "m") T.b_any (by decide +kernel) ?_) | fail)
/-! books: rows of a service, a round, an hour, a digest -/
abbrev E4 := Int × Int × Int × Int
def eD (e : E4) : List V := [.int e.1, .int e.2.1, .int e.2.2.1, .int e.2.2.2]
def BkAt (K : PySem.W.Frag) (H : Hp) (b : Addr) (es : List E4) : Prop := ∃ ts : List Addr, H b = some (.lst (ts.map V.ref)) ∧ ts.length = es.length ∧ ∀ (i : Nat) (t : Addr) (e : E4), ts[i]? = some t → es[i]? = some e → SqT K H t (eD e)
theorem BkAt.kp {K : PySem.W.Frag} {H H' : Hp} {b : Addr} {es : List E4} (h : BkAt K H b es) (k : Kp [] H H') : BkAt K H' b es := by
  obtain ⟨ts, h1, h2, h3⟩ := h
  exact ⟨ts, k.at0 h1, h2, fun i t e ht he => k.tup (h3 i t e ht he)⟩
theorem BkAt.get {K : PySem.W.Frag} {H : Hp} {b : Addr} {es : List E4} (h : BkAt K H b es) : ∃ us : List V, H b = some (.lst us) ∧ us.length = es.length ∧ ∀ (i : Nat) (e : E4), es[i]? = some e → ∃ t : Addr, us[i]? = some (V.ref t) ∧ SqT K H t [.int e.1, .int e.2.1, .int e.2.2.1, .int e.2.2.2] := by
  obtain ⟨ts, h1, h2, h3⟩ := h
  refine ⟨_, h1, by rw [List.length_map, h2], fun i e he => ?_⟩
  have hi := (List.getElem?_eq_some_iff.mp he).1
  have ht : ts[i]? = some (ts[i]'(by omega)) := List.getElem?_eq_getElem _
  exact ⟨_, by rw [List.getElem?_map, ht]; rfl, h3 i _ e ht he⟩
def hasB (es : List E4) (s n d : Int) : Bool := es.any fun e => decide ([e.1, e.2.1, e.2.2.2] = [s, n, d])
theorem any_range {α : Type} (l : List α) (z : α) (p : α → Bool) : (List.range l.length).any (fun i => p (l.getD i z)) = l.any p := by
  rw [Bool.eq_iff_iff, List.any_eq_true, List.any_eq_true]
  constructor
  · rintro ⟨i, hi, h⟩
    have lt := List.mem_range.mp hi
    rw [List.getD_eq_getElem?_getD, List.getElem?_eq_getElem lt] at h
    exact ⟨_, List.getElem_mem lt, h⟩
  · rintro ⟨x, hx, h⟩
    obtain ⟨i, lt, rfl⟩ := List.mem_iff_getElem.mp hx
    refine ⟨i, List.mem_range.mpr lt, ?_⟩
    rw [List.getD_eq_getElem?_getD, List.getElem?_eq_getElem lt]; exact h
def sp_has (K : PySem.W.Frag) (P : Addr) : Sp := fun vs H Q _ => ∃ (b : Addr) (s n d : Int) (es : List E4), vs = [.ref b, .int s, .int n, .int d] ∧ BkAt K H b es ∧ GxR.TabG H P ∧ ∀ H', Kp [] H H' → Q (.bl (hasB es s n d)) H'
theorem ok__has (T : Txt P w K mg base) : DefOk P w K mg base "_has" ["book", "service", "number", "digest"] 1 (sp_has K T.P__has) := by
  refine DefOk.byTab T.td__has sc__has oc__has (fun vs H Q E h => ?_) (fun X e1 e2 e3 e4 e5 C hcode H vs Q E h => ?_)
  · obtain ⟨b, s, n, d, es, rfl, _⟩ := h; rfl
  · obtain ⟨b, s, n, d, es, rfl, hb, tab, q⟩ := h
    have TB := T.tb__has
    wtm_at "go"
    wtm_at "w"
    intro wa H1 k1 hwa _
    refine ⟨_, by wtm_at "u", ?_⟩
    refine xb_cons ?_
    refine xs_ret ?_
    have tab1 := k1.b _ tab
    obtain ⟨us, h1, h2, h3⟩ := (hb.kp k1).get
    refine xe_anyL C TB hcode ⟨rfl, rfl, by decide +kernel, rfl, rfl, by decide +kernel⟩ (by wtm_at "m") T.b_any ?_
    wtm_at "w"
    refine ⟨b, us, _, rfl, Z.SqL.of' h1, tab1, elt_has C (es := es) tab1 h2 (fun i e he => ?_) hwa (by wtm_at "a") rfl rfl rfl rfl (by decide +kernel) (by decide +kernel), fun H2 ht => ?_⟩
    · obtain ⟨t, a, c⟩ := h3 i e he
      exact ⟨t, a, c⟩
    · rw [h2, any_range es (0, 0, 0, 0) (fun e => decide ([e.1, e.2.1, e.2.2.2] = [s, n, d]))]
      exact q H2 (k1.tr0 (Kp.tab tab1 ht))
end
/-! books49 -/
section
local macro_rules | `(tactic| wtm_at "d") => `(tactic| first | ((with_reducible show Z.XE _ (PySem.Expr.Call (PySem.Expr.Name "enumerate" _) (_ :: _) [] _) _ _ _); refine Z.xe_callB (id := "enumerate") (by assumption) (by wtm_at "m") T.b_enumerate (by decide +kernel) ?_) | ((with_reducible show Z.XE _ (PySem.Expr.Call (PySem.Expr.Name "len" _) (_ :: _) [] _) _ _ _); refine Z.xe_callB (id := "len") (by assumption) (by wtm_at "m") T.b_len (by decide +kernel) ?_) | ((with_reducible show Z.XE _ (PySem.Expr.Call (PySem.Expr.Name "_has" _) (_ :: _) [] _) _ _ _); refine Z.xe_call (by assumption) (Law.ok__has T) (by wtm_at "m") (by omega) ?_) | fail)
/-- books, one behind the other -/
def BksAt (K : PySem.W.Frag) (H : Hp) (B : Addr) (bs : List (List E4)) : Prop := ∃ as : List Addr, H B = some (.lst (as.map V.ref)) ∧ as.length = bs.length ∧ ∀ (i : Nat) (a : Addr) (es : List E4), as[i]? = some a → bs[i]? = some es → BkAt K H a es
theorem BksAt.kp {K : PySem.W.Frag} {H H' : Hp} {B : Addr} {bs : List (List E4)} (h : BksAt K H B bs) (k : Kp [] H H') : BksAt K H' B bs := by
  obtain ⟨as, h1, h2, h3⟩ := h
  exact ⟨as, k.at0 h1, h2, fun i a es ha he => (h3 i a es ha he).kp k⟩
theorem BksAt.get {K : PySem.W.Frag} {H : Hp} {B : Addr} {bs : List (List E4)} (h : BksAt K H B bs) : ∃ us : List V, H B = some (.lst us) ∧ us.length = bs.length ∧ ∀ (i : Nat) (y : V), us[i]? = some y → ∃ (a : Addr) (es : List E4), y = .ref a ∧ bs[i]? = some es ∧ BkAt K H a es := by
  obtain ⟨as, h1, h2, h3⟩ := h
  refine ⟨_, h1, by rw [List.length_map, h2], fun i y hy => ?_⟩
  rw [List.getElem?_map] at hy
  obtain ⟨a, ha, rfl⟩ := Option.map_eq_some_iff.mp hy
  have hi := (List.getElem?_eq_some_iff.mp ha).1
  have he : bs[i]? = some (bs[i]'(by omega)) := List.getElem?_eq_getElem _
  exact ⟨a, _, rfl, he, h3 i a _ ha he⟩
def havB (s n d : Int) (bs : List (List E4)) : List (List E4) := bs.filter fun es => hasB es s n d
theorem filt_take {α : Type} {p : α → Bool} {l : List α} {i : Nat} {x : α} (h : l[i]? = some x) : (l.take (i + 1)).filter p = (l.take i).filter p ++ if p x = true then [x] else [] := by
  rw [List.take_add_one, h, List.filter_append]
  congr 1
  show List.filter p [x] = _
  rw [List.filter_cons]; rfl
def sp_confirmed (K : PySem.W.Frag) (P : Addr) : Sp := fun vs H Q _ => ∃ (B : Addr) (w s n d : Int) (bs : List (List E4)), vs = [.ref B, .int w, .int s, .int n, .int d] ∧ BksAt K H B bs ∧ bs.length ≤ 1000 ∧ GxR.TabG H P ∧ ∀ H', Kp [] H H' → Q (.bl (decide (w ≤ ((havB s n d bs).length : Int)))) H'
theorem ok_confirmed (T : Txt P w K mg base) : DefOk P w K mg base "confirmed" ["books", "needed", "service", "number", "digest"] 2 (sp_confirmed K T.P__has) := by
  refine DefOk.by T.d_confirmed sc_confirmed oc_confirmed (fun vs H Q E h => ?_) (fun X e1 e2 e3 e4 e5 C H vs Q E h => ?_)
  · obtain ⟨B, w, s, n, d, bs, rfl, _⟩ := h; rfl
  · obtain ⟨B, nd, s, n, d, bs, rfl, hB, lb, tab, q⟩ := h
    wtm_at "go"
    refine xs_setLc C (by wtm_at "m") (by decide +kernel) rfl (by decide +kernel) ?_
    refine xlc_L (Vs' := ["service", "number", "digest", "book"]) (G' := ["_has"]) (nm := "book") (i := 6) C ⟨rfl, by decide +kernel, by decide +kernel, rfl, by decide +kernel, by decide⟩ ?_
    obtain ⟨us, hus, lu, gu⟩ := hB.get
    wtm_at "w"
    refine ⟨B, us, rfl, Z.SqL.of' hus, fun L H1 k1 nL hL => ⟨fun i H' => Kp [] H H' ∧ ∃ ws : List V, H' L = some (.lst ws) ∧ ws.length = (havB s n d (bs.take i)).length, ⟨k1, [], hL, rfl⟩, ?_, ?_, ?_⟩⟩
    · rintro i H' _ ⟨k, _⟩
      exact Z.SqL.of' (k.at0 hus)
    · rintro i y H2 hy ⟨k2, ws, h2, lw⟩
      obtain ⟨a, es, rfl, hes, hbk⟩ := gu i y hy
      have bk2 := hbk.kp k2
      have tab2 := k2.b _ tab
      have et := filt_take (p := fun es => hasB es s n d) hes
      have ll : (havB s n d (bs.take i)).length ≤ 1000 := by
        have := List.length_filter_le (fun es => hasB es s n d) (bs.take i)
        rw [List.length_take] at this
        unfold havB; omega
      have hid2 : Kp [] H H2 ∧ True := ⟨k2, trivial⟩
      clear k1 k2
      refine ⟨_, by wtm_at "u", ?_⟩
      intro s0 H0 c' cl fp C'
      wtm_at "w"
      refine ⟨a, s, n, d, es, rfl, bk2, tab2, fun H3 k3 => ?_⟩
      wtm_at "w"
      refine ite_b (fun hc => ?_) (fun hc => ?_)
      · intro s1 H01 c1' cl1 fp1 C1'
        wtm_at "w"
        refine ⟨_, k3.at0 h2, szl (by omega), fun H4 k4 h4 => ⟨(hid2.1.tr0 k3).tr1 k4 (.inr nL), _, h4, ?_⟩⟩
        unfold havB at lw ⊢
        rw [et, if_pos hc, List.length_append, List.length_append, lw]; rfl
      · refine ⟨hid2.1.tr0 k3, ws, k3.at0 h2, ?_⟩
        unfold havB at lw ⊢
        rw [et, if_neg (by rw [hc]; simp), List.append_nil, lw]
    rintro H1 ⟨k1, ws, h1, lw⟩
    rw [lu, List.take_length] at lw
    refine ⟨_, by wtm_at "u", ?_⟩
    wtm_at "w"
    rw [lw]
    exact q H1 k1
def bothN (s n d1 d2 : Int) (bs : List (List E4)) (k : Nat) : List Int := ((List.range k).filter fun i => hasB (bs.getD i []) s n d1 && hasB (bs.getD i []) s n d2).map Int.ofNat
def sp_both (K : PySem.W.Frag) (P : Addr) : Sp := fun vs H Q _ => ∃ (B : Addr) (s n d1 d2 : Int) (bs : List (List E4)), vs = [.ref B, .int s, .int n, .int d1, .int d2] ∧ BksAt K H B bs ∧ bs.length ≤ 1000 ∧ GxR.TabG H P ∧ ∀ L H', Kp [] H H' → H L = none → H' L = some (.lst ((bothN s n d1 d2 bs bs.length).map V.int)) → Q (.ref L) H'
theorem ok_both (T : Txt P w K mg base) : DefOk P w K mg base "both" ["books", "service", "number", "one", "two"] 2 (sp_both K T.P__has) := by
  refine DefOk.by T.d_both sc_both oc_both (fun vs H Q E h => ?_) (fun X e1 e2 e3 e4 e5 C H vs Q E h => ?_)
  · obtain ⟨B, s, n, d1, d2, bs, rfl, _⟩ := h; rfl
  · obtain ⟨B, s, n, d1, d2, bs, rfl, hB, lb, tab, q⟩ := h
    wtm_at "go"
    refine xs_ret ?_
    refine xe_lc C ?_
    obtain ⟨us, hus, lu, gu⟩ := hB.get
    refine xlc_EL2 (Vs' := ["service", "number", "one", "two", "index", "book"]) (G' := ["_has"]) (nm := "index") (nm2 := "book") (i := 5) (j := 6) C ⟨rfl, rfl, by decide, by decide +kernel, by decide +kernel, rfl, by decide +kernel, by decide +kernel, by decide⟩ (by wtm_at "m") T.b_enumerate ?_
    wtm_at "w"
    refine ⟨B, us, rfl, Z.SqL.of' hus, fun L H1 k1 nL hL => ⟨fun i H' => Kp [] H H' ∧ H' L = some (.lst ((bothN s n d1 d2 bs i).map V.int)), ⟨k1, hL⟩, ?_, ?_, ?_⟩⟩
    · rintro i H' _ ⟨k, _⟩
      exact Z.SqL.of' (k.at0 hus)
    · rintro i y TT H2 H3 hy ⟨k2, h2⟩ k3 nT hT
      obtain ⟨a, es, rfl, hes, hbk⟩ := gu i y hy
      have hi := (List.getElem?_eq_some_iff.mp hy).1
      have eg : bs.getD i [] = es := by rw [List.getD_eq_getElem?_getD, hes]; rfl
      have k03 := k2.tr0 k3
      have bk3 := hbk.kp k03
      have tab3 := k03.b _ tab
      have h3 := k3.at0 h2
      have et : bothN s n d1 d2 bs (i + 1) = bothN s n d1 d2 bs i ++ if (hasB es s n d1 && hasB es s n d2) = true then [(i : Int)] else [] := by
        unfold bothN
        rw [List.range_succ, List.filter_append, List.map_append]
        congr 1
        show List.map _ (List.filter _ [i]) = _
        rw [List.filter_cons, eg]
        split <;> rfl
      have ll : (bothN s n d1 d2 bs i).length ≤ 1000 := by
        unfold bothN
        rw [List.length_map]
        have := List.length_filter_le (fun i => hasB (bs.getD i []) s n d1 && hasB (bs.getD i []) s n d2) (List.range i)
        rw [List.length_range] at this
        omega
      have hid3 : Kp [] H H3 ∧ True := ⟨k03, trivial⟩
      clear k1 k2 k3 k03
      refine ⟨TT, .int (i : Int), .ref a, _, _, rfl, hT, by wtm_at "u", by wtm_at "u", ?_⟩
      intro s0 H0 c' cl fp C'
      wtm_at "w"
      refine ⟨a, s, n, d1, es, rfl, bk3, tab3, fun H4 k4 => ?_⟩
      have bk4 := bk3.kp k4
      have tab4 := k4.b _ tab3
      have h4 := k4.at0 h3
      have hid4 : Kp [] H H4 ∧ True := ⟨hid3.1.tr0 k4, trivial⟩
      clear k4
      wtm_at "w"
      refine ite_b (fun hc => ?_) (fun hc => ?_)
      · wtm_at "w"
        refine ⟨a, s, n, d2, es, rfl, bk4, tab4, fun H5 k5 => ?_⟩
        have h5 := k5.at0 h4
        have hid5 : Kp [] H H5 ∧ True := ⟨hid4.1.tr0 k5, trivial⟩
        clear k5
        wtm_at "w"
        refine ite_b (fun hc2 => ?_) (fun hc2 => ?_)
        · intro s1 H01 c1' cl1 fp1 C1'
          wtm_at "w"
          refine ⟨_, h5, szl (by rw [List.length_map]; omega), fun H6 k6 h6 => ⟨hid5.1.tr1 k6 (.inr nL), ?_⟩⟩
          rw [et, hc, hc2, h6, List.map_append]; rfl
        · exact ⟨hid5.1, by rw [et, hc2, Bool.and_false, if_neg (by simp), List.append_nil]; exact h5⟩
      · exact ⟨hid4.1, by rw [et, hc, Bool.false_and, if_neg (by simp), List.append_nil]; exact h4⟩
    rintro H1 ⟨k1, h1⟩
    rw [lu] at h1
    exact q L H1 k1 nL h1
end
/-! bk49 -/
section
local macro_rules | `(tactic| wtm_at "d") => `(tactic| first | ((with_reducible show Z.XE _ (PySem.Expr.Call (PySem.Expr.Name "len" _) (_ :: _) [] _) _ _ _); refine Z.xe_callB (id := "len") (by assumption) (by wtm_at "m") T.b_len (by decide +kernel) ?_) | ((with_reducible show Z.XE _ (PySem.Expr.Call (PySem.Expr.Name "_law_draw" _) (_ :: _) [] _) _ _ _); refine Z.xe_call (by assumption) (Law.ok__law_draw T) (by wtm_at "m") (by omega) ?_) | fail)
theorem box_setL {H H' : Hp} {b r L : Addr} (h : Box H b r) (nb : L ≠ b) (nr : r ≠ L) (k : Kp [L] H H') : Box H' b r := by
  obtain ⟨bi, bns, h1, h2, h3⟩ := h
  exact ⟨bi, bns, k.at1 (Ne.symm nb) h1, h2, k.at1 nr h3⟩
theorem BkAt.draw {K : PySem.W.Frag} {H H' : Hp} {b r L : Addr} {es : List E4} (h : BkAt K H L es) (bx : Box H b r) (k : Kp [b] H H') : BkAt K H' L es := by
  obtain ⟨ts, h1, h2, h3⟩ := h
  exact ⟨ts, k.at1 (bx.neRefs h1) h1, h2, fun i t e ht he => k.tup (h3 i t e ht he)⟩
theorem BkAt.set {K : PySem.W.Frag} {H H' : Hp} {B L : Addr} {es : List E4} (h : BkAt K H L es) (n : L ≠ B) (k : Kp [B] H H') : BkAt K H' L es := by
  obtain ⟨ts, h1, h2, h3⟩ := h
  exact ⟨ts, k.at1 n h1, h2, fun i t e ht he => k.tup (h3 i t e ht he)⟩
theorem BkAt.snoc {K : PySem.W.Frag} {H H' : Hp} {L T : Addr} {es : List E4} {e : E4} {ts : List Addr} (h2 : ts.length = es.length) (h3 : ∀ (i : Nat) (t : Addr) (e : E4), ts[i]? = some t → es[i]? = some e → SqT K H t (eD e)) (k : Kp [L] H H') (h1 : H' L = some (.lst (ts.map V.ref ++ [.ref T]))) (hT : SqT K H' T (eD e)) : BkAt K H' L (es ++ [e]) := by
  refine ⟨ts ++ [T], by rw [h1, List.map_append]; rfl, by simp [h2], fun i t x ht hx => ?_⟩
  by_cases lt : i < ts.length
  · rw [List.getElem?_append_left lt] at ht
    rw [List.getElem?_append_left (by omega)] at hx
    exact k.tup (h3 i t x ht hx)
  · rw [List.getElem?_append_right (by omega)] at ht hx
    rw [← h2] at hx
    have : i - ts.length = 0 := by
      have := (List.getElem?_eq_some_iff.mp ht).1
      simp at this; omega
    rw [this] at ht hx
    simp at ht hx
    rw [← ht, ← hx]; exact hT
/-- books that are being gathered -/
def BksV (K : PySem.W.Frag) (H : Hp) (B : Addr) (bs : List (List E4)) : Prop := ∃ as : List Addr, H B = some (.lst (as.map V.ref)) ∧ as.length = bs.length ∧ ∀ (i : Nat) (a : Addr) (es : List E4), as[i]? = some a → bs[i]? = some es → a ≠ B ∧ BkAt K H a es
theorem BksV.at {K : PySem.W.Frag} {H : Hp} {B : Addr} {bs : List (List E4)} (h : BksV K H B bs) : BksAt K H B bs := by
  obtain ⟨as, h1, h2, h3⟩ := h
  exact ⟨as, h1, h2, fun i a es ha he => (h3 i a es ha he).2⟩
theorem BksV.draw {K : PySem.W.Frag} {H H' : Hp} {b r B : Addr} {bs : List (List E4)} (h : BksV K H B bs) (bx : Box H b r) (k : Kp [b] H H') : BksV K H' B bs := by
  obtain ⟨as, h1, h2, h3⟩ := h
  exact ⟨as, k.at1 (bx.neRefs h1) h1, h2, fun i a es ha he => ⟨(h3 i a es ha he).1, (h3 i a es ha he).2.draw bx k⟩⟩
theorem BksAt.draw {K : PySem.W.Frag} {H H' : Hp} {b r B : Addr} {bs : List (List E4)} (h : BksAt K H B bs) (bx : Box H b r) (k : Kp [b] H H') : BksAt K H' B bs := by
  obtain ⟨as, h1, h2, h3⟩ := h
  exact ⟨as, k.at1 (bx.neRefs h1) h1, h2, fun i a es ha he => (h3 i a es ha he).draw bx k⟩
theorem BksV.snoc {K : PySem.W.Frag} {H H' : Hp} {B L : Addr} {bs : List (List E4)} {es : List E4} {as : List Addr} (h2 : as.length = bs.length) (h3 : ∀ (i : Nat) (a : Addr) (es : List E4), as[i]? = some a → bs[i]? = some es → a ≠ B ∧ BkAt K H a es) (k : Kp [B] H H') (h1 : H' B = some (.lst (as.map V.ref ++ [.ref L]))) (n : L ≠ B) (hL : BkAt K H L es) : BksV K H' B (bs ++ [es]) := by
  refine ⟨as ++ [L], by rw [h1, List.map_append]; rfl, by simp [h2], fun i t x ht hx => ?_⟩
  by_cases lt : i < as.length
  · rw [List.getElem?_append_left lt] at ht
    rw [List.getElem?_append_left (by omega)] at hx
    exact ⟨(h3 i t x ht hx).1, (h3 i t x ht hx).2.set (h3 i t x ht hx).1 k⟩
  · rw [List.getElem?_append_right (by omega)] at ht hx
    rw [← h2] at hx
    have : i - as.length = 0 := by
      have := (List.getElem?_eq_some_iff.mp ht).1
      simp at this; omega
    rw [this] at ht hx
    simp at ht hx
    rw [← ht, ← hx]; exact ⟨n, hL.set n k⟩
def sp_lbooks (K : PySem.W.Frag) : Sp := fun vs H Q _ => ∃ (b r : Addr), vs = [.ref b] ∧ Box H b r ∧ ∀ (B : Addr) (bs : List (List E4)) H', Kp [b] H H' → Box H' b r → BksAt K H' B bs → bs.length ≤ 7 → (∀ es ∈ bs, es.length ≤ 6) → Q (.ref B) H'
theorem ok__law_books (T : Txt P w K mg base) : DefOk P w K mg base "_law_books" ["box"] 2 (sp_lbooks K) := by
  refine DefOk.by T.d__law_books sc__law_books oc__law_books (fun vs H Q E h => ?_) (fun X e1 e2 e3 e4 e5 C H vs Q E h => ?_)
  · obtain ⟨b, r, rfl, _⟩ := h; rfl
  · obtain ⟨b, r, rfl, bx, q⟩ := h
    wtm_at "go"
    wtm_at "w"
    intro B H1 k1 nB hB
    wtm_at "w"
    refine xs_forR1 C (by wtm_at "m") T.b_range ?_
    wtm_at "w"
    refine ⟨b, r, 7, rfl, bx.kp k1, by decide, fun c H2 c0 c1 k2 bx2 => ?_⟩
    have k02 : Kp [b] H H2 := (k1.wk (fun l m => nomatch m)).tr k2 (fun l m => .inl m)
    have hB2 := k2.at1 (Box.neRefs (as := []) (bx.kp k1) hB) hB
    clear k1 k2
    wtm_at "w"
    refine ⟨_, rfl, by omega, by omega, fun i σ H' => ∃ (bs : List (List E4)) (v1 v2 v3 : Option V), σ = [some (.ref b), some (.ref B), v1, v2, v3] ∧ Kp [b] H H' ∧ Box H' b r ∧ BksV X.K H' B bs ∧ bs.length = i ∧ ∀ es ∈ bs, es.length ≤ 6, ⟨[], _, _, _, rfl, k02, bx2, ⟨[], hB2, rfl, fun i a es h => by simp at h⟩, rfl, fun _ m => nomatch m⟩, ?_, ?_⟩
    · rintro i σ' H3 hi ⟨bs, v1, v2, v3, rfl, k3, bx3, bk3, lb, few⟩
      wtm_at "w"
      intro L H4 k4 nL hL
      have bx4 := bx3.kp k4
      have nLr := bx3.nl nL
      refine ⟨_, by wtm_at "u", ?_⟩
      refine xb_cons ?_
      refine xs_forR1 C (by wtm_at "m") T.b_range ?_
      wtm_at "w"
      refine ⟨b, r, 7, rfl, bx4, by decide, fun c H5 c0 c1 k5 bx5 => ?_⟩
      have k35 : Kp [b] H3 H5 := (k4.wk (fun l m => nomatch m)).tr k5 (fun l m => .inl m)
      have hL5 := k5.at1 (Box.neRefs (as := []) bx4 hL) hL
      clear k4 k5
      wtm_at "w"
      refine ⟨_, rfl, by omega, by omega, fun j σ H' => ∃ (es : List E4) (v3 : Option V), σ = [some (.ref b), some (.ref B), some (.int i), some (.ref L), v3] ∧ Kp [b] H3 H' ∧ Box H' b r ∧ BkAt X.K H' L es ∧ es.length = j, ⟨[], _, rfl, k35, bx5, ⟨[], hL5, rfl, fun i a es h => by simp at h⟩, rfl⟩, ?_, ?_⟩
      · rintro j σ' H6 hj ⟨es, v3, rfl, k6, bx6, ⟨ts, t1, t2, t3⟩, le⟩
        wtm_at "w"
        refine ⟨b, r, 2, rfl, bx6, by decide, fun d1 H7 _ _ k7 bx7 => ?_⟩
        have t17 := k7.at1 (bx6.neRefs t1) t1
        wtm_at "w"
        refine ⟨b, r, 2, rfl, bx7, by decide, fun d2 H8 _ _ k8 bx8 => ?_⟩
        have t18 := k8.at1 (bx7.neRefs t17) t17
        wtm_at "w"
        refine ⟨b, r, 3, rfl, bx8, by decide, fun d3 H9 _ _ k9 bx9 => ?_⟩
        have t19 := k9.at1 (bx8.neRefs t18) t18
        wtm_at "w"
        intro TT H10 k10 hT _
        have k79 : Kp [b] H6 H10 := ((k7.tr k8 (fun l m => .inl m)).tr k9 (fun l m => .inl m)).tr0 k10
        have nb := bx9.neRefs t19
        refine ⟨k10.at0 t19, szl (by rw [List.length_map]; omega), fun H11 k11 h11 => ?_⟩
        wtm_at "w"
        refine ⟨es ++ [(d1, d2, (j : Int), d3)], _, rfl, (k6.tr k79 (fun l m => .inl m)).tr1 k11 (.inr nL), box_setL (bx9.kp k10) nb nLr.2 k11, BkAt.snoc t2 (fun i t e ht he => k79.tup (t3 i t e ht he)) k11 h11 (k11.tup hT), by simp [le]⟩
      · rintro σ' H6 ⟨es, v3, rfl, k6, bx6, bkL, le⟩
        obtain ⟨as, a1, a2, a3⟩ := bk3.draw bx3 k6
        have nBb := bx6.neRefs a1
        wtm_at "w"
        refine ⟨a1, szl (by rw [List.length_map]; omega), fun H7 k7 h7 => ?_⟩
        wtm_at "w"
        have nLB : L ≠ B := by
          intro e
          obtain ⟨as', b1, _⟩ := bk3
          rw [e, b1] at nL; cases nL
        refine ⟨bs ++ [es], _, _, _, rfl, (k3.tr k6 (fun l m => .inl m)).tr1 k7 (.inr nB), box_setL bx6 nBb (bx.nl nB).2 k7, BksV.snoc a2 a3 k7 h7 nLB bkL, by simp [lb], fun x m => ?_⟩
        rcases List.mem_append.mp m with m | m
        · exact few x m
        · rw [List.mem_singleton.mp m]; omega
    · rintro σ' H3 ⟨bs, v1, v2, v3, rfl, k3, bx3, bk3, lb, few⟩
      wtm_at "w"
      exact q B bs H3 k3 bx3 bk3.at (by omega) few
def withN (s n d : Int) (bs : List (List E4)) (k : Nat) : List Int := ((List.range k).filter fun i => hasB (bs.getD i []) s n d).map Int.ofNat
def oneP (s n d : Int) (e : E4) : Bool := decide ([e.1, e.2.1] = [s, n]) && decide (e.2.2.2 = d)
theorem oneP_any (s n d : Int) (es : List E4) : decide ((es.filter (oneP s n d)).length > 0) = hasB es s n d := by
  rw [Bool.eq_iff_iff, decide_eq_true_iff]
  unfold hasB
  rw [List.any_eq_true]
  constructor
  · intro h
    obtain ⟨x, hx⟩ := List.exists_mem_of_length_pos h
    obtain ⟨m, hp⟩ := List.mem_filter.mp hx
    refine ⟨x, m, ?_⟩
    unfold oneP at hp
    simp at hp ⊢
    exact ⟨hp.1.1, hp.1.2, hp.2⟩
  · rintro ⟨x, m, hp⟩
    refine List.length_pos_of_mem (List.mem_filter.mpr ⟨m, ?_⟩)
    unfold oneP
    simp at hp ⊢
    exact ⟨⟨hp.1, hp.2.1⟩, hp.2.2⟩
def sp_lwith (K : PySem.W.Frag) : Sp := fun vs H Q _ => ∃ (B : Addr) (s n d : Int) (bs : List (List E4)), vs = [.ref B, .int s, .int n, .int d] ∧ BksAt K H B bs ∧ bs.length ≤ 7 ∧ (∀ es ∈ bs, es.length ≤ 6) ∧ ∀ L H', Kp [] H H' → H L = none → H' L = some (.lst ((withN s n d bs bs.length).map V.int)) → Q (.ref L) H'
theorem ok__law_with (T : Txt P w K mg base) : DefOk P w K mg base "_law_with" ["books", "service", "number", "value"] 2 (sp_lwith K) := by
  refine DefOk.by T.d__law_with sc__law_with oc__law_with (fun vs H Q E h => ?_) (fun X e1 e2 e3 e4 e5 C H vs Q E h => ?_)
  · obtain ⟨B, s, n, d, bs, rfl, _⟩ := h; rfl
  · obtain ⟨B, s, n, d, bs, rfl, hB, lb, few, q⟩ := h
    obtain ⟨us, hus, lu, gu⟩ := hB.get
    wtm_at "go"
    refine xs_ret ?_
    refine xe_lc C ?_
    refine xlc_R1 (Vs' := ["books", "service", "number", "value", "k"]) (G' := ["len"]) (nm := "k") (i := 5) (by assumption) ⟨rfl, by decide +kernel, by decide +kernel, rfl, by decide +kernel, by decide⟩ (by wtm_at "m") T.b_range ?_
    wtm_at "w"
    refine ⟨_, rfl, by omega, by omega, fun L H1 k1 nL hL => ⟨fun i H' => Kp [] H H' ∧ H' L = some (.lst ((withN s n d bs i).map V.int)), ⟨k1, hL⟩, ?_, ?_⟩⟩
    · rintro i H2 hi ⟨k2, h2⟩
      have hi' : i < us.length := by omega
      obtain ⟨a, es, hy, hes, hbk⟩ := gu i _ (List.getElem?_eq_getElem hi')
      have ua : us[i]? = some (.ref a) := by rw [List.getElem?_eq_getElem hi', hy]
      have les := few es (List.mem_of_getElem? hes)
      have eg : bs.getD i [] = es := by rw [List.getD_eq_getElem?_getD, hes]; rfl
      have et : withN s n d bs (i + 1) = withN s n d bs i ++ if hasB es s n d = true then [(i : Int)] else [] := by
        unfold withN
        rw [List.range_succ, List.filter_append, List.map_append]
        congr 1
        show List.map _ (List.filter _ [i]) = _
        rw [List.filter_cons, eg]
        split <;> rfl
      have ll : (withN s n d bs i).length ≤ 7 := by
        unfold withN
        rw [List.length_map]
        have := List.length_filter_le (fun i => hasB (bs.getD i []) s n d) (List.range i)
        rw [List.length_range] at this
        omega
      have us2 := k2.at0 hus
      have bk2 := hbk.kp k2
      have hid2 : Kp [] H H2 ∧ True := ⟨k2, trivial⟩
      clear k1 k2
      refine ⟨_, by wtm_at "u", ?_⟩
      intro s0 H0 c' cl fp C'
      wtm_at "w"
      refine xe_lc C' ?_
      refine xlc_L (Vs' := ["service", "number", "value", "one"]) (G' := []) (nm := "one") (i := 4) C' ⟨rfl, by decide +kernel, by decide +kernel, rfl, by decide +kernel, by decide⟩ ?_
      wtm_at "w"
      refine vx_lst (Z.SqL.of' us2) (at_nat ua) ?_
      obtain ⟨vs, g1, g2, g3⟩ := bk2.get
      refine ⟨a, vs, rfl, Z.SqL.of' g1, fun L2 H3 k3 nL2 hL2 => ⟨fun j H' => Kp [] H2 H' ∧ ∃ ws : List V, H' L2 = some (.lst ws) ∧ ws.length = ((es.take j).filter (oneP s n d)).length, ⟨k3, [], hL2, rfl⟩, ?_, ?_, ?_⟩⟩
      · rintro j H' _ ⟨k, _⟩
        exact Z.SqL.of' (k.at0 g1)
      · rintro j y H4 hy ⟨k4, ws, h4, lw⟩
        have hj : j < es.length := by have := (List.getElem?_eq_some_iff.mp hy).1; omega
        have hej := List.getElem?_eq_getElem hj
        generalize es[j] = e at hej
        obtain ⟨t, ht, hT⟩ := g3 j e hej
        rw [hy] at ht
        obtain rfl := Option.some.inj ht
        have hT4 := k4.tup hT
        have et2 := filt_take (p := oneP s n d) hej
        have l4 : ((es.take j).filter (oneP s n d)).length ≤ 6 := by
          have := List.length_filter_le (oneP s n d) (es.take j)
          rw [List.length_take] at this
          omega
        have hid4 : Kp [] H2 H4 ∧ True := ⟨k4, trivial⟩
        clear k3 k4
        refine ⟨_, by wtm_at "u", ?_⟩
        intro s1 H01 c1' cl1 fp1 C1'
        wtm_at "w"
        refine ⟨2, rfl, vsl_tup hT4 (fun r H5 k5 h5 => ?_)⟩
        have h45 := k5.at0 h4
        have hT5 := k5.tup hT4
        wtm_at "w"
        intro TT H6 k6 h6 _
        have h46 := k6.at0 h45
        have hT6 := k6.tup hT5
        refine vo_eqT C1' (ns := [e.1, e.2.1]) (ms := [s, n]) (k6.tup h5) h6 ?_
        have k46 := k5.tr0 k6
        clear k5 k6
        wtm_at "w"
        refine ite_d (fun hc => ?_) (fun hc => ?_)
        · wtm_at "w"
          refine vx_t3 hT6 ?_
          wtm_at "w"
          refine ite_d (fun hc2 => ?_) (fun hc2 => ?_)
          · intro s2 H02 c2' cl2 fp2 C2'
            wtm_at "w"
            refine ⟨_, h46, szl (by omega), fun H7 k7 h7 => ⟨(hid4.1.tr0 k46).tr1 k7 (.inr nL2), _, h7, ?_⟩⟩
            have : oneP s n d e = true := by unfold oneP; rw [decide_eq_true hc, decide_eq_true hc2]; rfl
            rw [et2, if_pos this, List.length_append, List.length_append, lw]; rfl
          · refine ⟨hid4.1.tr0 k46, _, h46, ?_⟩
            have : oneP s n d e = false := by unfold oneP; rw [decide_eq_false hc2, Bool.and_false]
            rw [et2, this, if_neg (by simp), List.append_nil, lw]
        · refine ⟨hid4.1.tr0 k46, _, h46, ?_⟩
          have : oneP s n d e = false := by unfold oneP; rw [decide_eq_false hc, Bool.false_and]
          rw [et2, this, if_neg (by simp), List.append_nil, lw]
      · rintro H3 ⟨k3, ws, h3, lw⟩
        rw [g2, List.take_length] at lw
        have hc := oneP_any s n d es
        rw [← lw] at hc
        have h23 := k3.at0 h2
        have hid3 := hid2.1.tr0 k3
        clear k3
        wtm_at "w"
        refine vc_lenL (Z.SqL.of' h3) ?_
        wtm_at "w"
        refine ite_d (fun h => ?_) (fun h => ?_)
        · intro s2 H02 c2' cl2 fp2 C2'
          wtm_at "w"
          refine ⟨_, h23, szl (by rw [List.length_map]; omega), fun H7 k7 h7 => ⟨hid3.tr1 k7 (.inr nL), ?_⟩⟩
          have : hasB es s n d = true := by rw [← hc]; exact decide_eq_true (by omega)
          rw [et, this, h7, List.map_append]; rfl
        · refine ⟨hid3, ?_⟩
          have : hasB es s n d = false := by rw [← hc]; exact decide_eq_false (by omega)
          rw [et, this, if_neg (by simp), List.append_nil]; exact h23
    · rintro H1 ⟨k1, h1⟩
      have : (bs.length : Int).toNat = bs.length := by omega
      try rw [lu, this] at h1
      exact q L H1 k1 nL h1
end
/-! law -/
section
local macro_rules | `(tactic| wtm_at "d") => `(tactic| first | ((with_reducible show Z.XE _ (PySem.Expr.Call (PySem.Expr.Name "len" _) (_ :: _) [] _) _ _ _); refine Z.xe_callB (id := "len") (by assumption) (by wtm_at "m") T.b_len (by decide +kernel) ?_) | ((with_reducible show Z.XE _ (PySem.Expr.Call (PySem.Expr.Name "confirmed" _) (_ :: _) [] _) _ _ _); refine Z.xe_call (by assumption) (Law.ok_confirmed T) (by wtm_at "m") (by omega) ?_) | ((with_reducible show Z.XE _ (PySem.Expr.Call (PySem.Expr.Name "both" _) (_ :: _) [] _) _ _ _); refine Z.xe_call (by assumption) (Law.ok_both T) (by wtm_at "m") (by omega) ?_) | ((with_reducible show Z.XE _ (PySem.Expr.Call (PySem.Expr.Name "_law_row" _) (_ :: _) [] _) _ _ _); refine Z.xe_call (by assumption) (Law.ok__law_row T) (by wtm_at "m") (by omega) ?_) | ((with_reducible show Z.XE _ (PySem.Expr.Call (PySem.Expr.Name "_law_draw" _) (_ :: _) [] _) _ _ _); refine Z.xe_call (by assumption) (Law.ok__law_draw T) (by wtm_at "m") (by omega) ?_) | ((with_reducible show Z.XE _ (PySem.Expr.Call (PySem.Expr.Name "_law_same" _) (_ :: _) [] _) _ _ _); refine Z.xe_call (by assumption) (Law.ok__law_same T) (by wtm_at "m") (by omega) ?_) | ((with_reducible show Z.XE _ (PySem.Expr.Call (PySem.Expr.Name "_law_books" _) (_ :: _) [] _) _ _ _); refine Z.xe_call (by assumption) (Law.ok__law_books T) (by wtm_at "m") (by omega) ?_) | ((with_reducible show Z.XE _ (PySem.Expr.Call (PySem.Expr.Name "_law_with" _) (_ :: _) [] _) _ _ _); refine Z.xe_call (by assumption) (Law.ok__law_with T) (by wtm_at "m") (by omega) ?_) | fail)
theorem range_getD {α : Type} (l : List α) (z : α) : (List.range l.length).map (fun i => l.getD i z) = l := by
  apply List.ext_getElem
  · rw [List.length_map, List.length_range]
  · intro i h1 h2
    rw [List.getElem_map, List.getElem_range, List.getD_eq_getElem?_getD, List.getElem?_eq_getElem h2]; rfl
theorem withN_len (s n d : Int) (bs : List (List E4)) : (withN s n d bs bs.length).length = (havB s n d bs).length := by
  unfold withN havB
  rw [List.length_map]
  conv => rhs; rw [← range_getD bs [], List.filter_map, List.length_map]
  rfl
theorem mem_withN {s n d : Int} {bs : List (List E4)} {m i : Nat} (h : i < m) : decide ((i : Int) ∈ withN s n d bs m) = hasB (bs.getD i []) s n d := by
  rw [Bool.eq_iff_iff, decide_eq_true_iff]
  unfold withN
  rw [List.mem_map]
  constructor
  · rintro ⟨j, hj, e⟩
    have : j = i := by have e' : (j : Int) = (i : Int) := e; omega
    rw [← this]; exact (List.mem_filter.mp hj).2
  · intro hp
    exact ⟨i, List.mem_filter.mpr ⟨List.mem_range.mpr h, hp⟩, rfl⟩
theorem bothN_eq (s n d1 d2 : Int) (bs : List (List E4)) (m : Nat) : (withN s n d1 bs m).filter (fun k => decide (k ∈ withN s n d2 bs m)) = bothN s n d1 d2 bs m := by
  conv => lhs; arg 2; unfold withN
  unfold bothN
  rw [List.filter_map, List.filter_filter]
  congr 1
  apply List.filter_congr
  intro i hi
  have := List.mem_range.mp hi
  show (decide ((i : Int) ∈ _) && _) = _
  rw [mem_withN this, Bool.and_comm]
theorem filt_both {α : Type} (p q : α → Bool) : ∀ l : List α, (l.filter p).length + (l.filter q).length ≤ (l.filter fun x => p x && q x).length + l.length
  | [] => Nat.le_refl _
  | x :: l => by
    have := filt_both p q l
    rw [List.filter_cons, List.filter_cons, List.filter_cons, List.length_cons]
    cases hp : p x <;> cases hq : q x <;> simp <;> omega
theorem both_ge (s n d1 d2 : Int) (bs : List (List E4)) (m : Nat) : (withN s n d1 bs m).length + (withN s n d2 bs m).length ≤ (bothN s n d1 d2 bs m).length + m := by
  unfold withN bothN
  rw [List.length_map, List.length_map, List.length_map]
  have := filt_both (fun i => hasB (bs.getD i []) s n d1) (fun i => hasB (bs.getD i []) s n d2) (List.range m)
  rw [List.length_range] at this
  exact this
theorem eqv_bb (c1 c2 : Bool) : PyData.eqv (.list [.bool c1, .bool c2]) (.list [.bool true, .bool true]) = (c1 && c2) := by
  cases c1 <;> cases c2 <;> simp [PyData.eqv, PyData.eqvAll]
theorem any_int (x : Int) : ∀ l : List Int, ((l.map PyData.int).any fun z => PyData.eqv z (.int x)) = decide (x ∈ l)
  | [] => by simp
  | y :: l => by
    rw [List.map_cons, List.any_cons, any_int x l]
    have : PyData.eqv (.int y) (.int x) = decide (y = x) := by simp only [PyData.eqv]; by_cases e : y = x <;> simp [e]
    rw [this]
    by_cases e : y = x
    · subst e; simp
    · have e' : x ≠ y := fun z => e z.symm
      simp [e, e']
theorem vo_inI {X : Cx} {H : Hp} {Q : VK} {N Vs Ls G : List Str} {k : Nat} {sc : Scope} {x : Int} {u : Addr} {ms : List Int} (C : Ctx X sc N Vs Ls G k) (he : SqL X.K H u (ms.map V.int)) (h : Q (.bl (decide (x ∈ ms))) H) : VO X (compareOp .In) (.int x) (.ref u) H Q :=
  ⟨_, op_inD (by have := C.room.un; omega), .int x, ms.map PyData.int, .int _, dp_L he, rfl, shL _, by rw [any_int]; exact h⟩
theorem shbb (c1 c2 : Bool) : SeqAt.shaped (.list [.bool c1, .bool c2]) = true := by cases c1 <;> cases c2 <;> decide
theorem plbb (c1 c2 : Bool) : plainS (.list [.bool c1, .bool c2]) := ⟨by simp, trivial, trivial, trivial⟩
theorem dpbb (c1 c2 : Bool) : (PyData.list [.bool c1, .bool c2]).depth ≤ 4 := by simp [PyData.depth, PyData.depthAll]
theorem depL (ns : List Int) : (PyData.list (ns.map PyData.int)).depth ≤ 4 := by rw [PyData.depth, depth_ints]; decide
theorem plL49 {ns : List Int} (h : ns.length ≤ 100000) : plainS (.list (ns.map PyData.int)) := by rw [plainS]; exact ⟨by rw [List.length_map]; exact h, plainSs_ints ns⟩
theorem fn_law {f : Addr} {fd : FuncData} (T : Txt P w K mg base) (F : Fun K "law" "law" s_law f fd) : FnOk P w K mg base CX0 12 f fd ["script"] (sp_lawT K [T.P__has]) := by
  refine fnOk_by F sc_law oc_law (fun vs H Q E h => ?_) (fun X e1 e2 e3 e4 e5 C H vs Q E h => ?_)
  · obtain ⟨a, ns, rfl, _⟩ := h; rfl
  · obtain ⟨a, ns, rfl, hS, hl, tabs, q⟩ := h
    have tab := tabs T.P__has (by simp)
    clear tabs
    subst e1; subst e2; subst e3; subst e4; subst e5
    simp only [st0]
    refine xb_cons ?_
    wtm_at "w"
    refine ⟨a, ns, 0, 30, rfl, hS, by decide, by decide, by decide, by decide, fun r H1 rs k1 nr hr hrs => ?_⟩
    wtm_at "w"
    intro b H2 k2 nb hb
    have bx : Box H2 b r := ⟨0, rs, hb, by decide, k2.at0 hr⟩
    have tab2 := (k1.tr0 k2).b _ tab
    clear k1 k2 hr nr hb nb
    wtm_at "w"
    refine ⟨b, r, rfl, bx, fun B bs H3 k3 bx3 hB lb few => ?_⟩
    have tab3 := k3.b _ tab2
    clear k3 bx tab2 tab
    wtm_at "w"
    refine xs_forR1 C (by wtm_at "m") T.b_range ?_
    wtm_at "w"
    refine ⟨12, rfl, by decide, by decide, fun t σ H' => ∃ v1 v2 v3 v4 v5 v6 v7 v8 v9 v10, σ = [some (.ref a), some (.ref b), some (.ref B), v1, v2, v3, v4, v5, v6, v7, v8, v9, v10, none] ∧ Box H' b r ∧ BksAt X.K H' B bs ∧ GxR.TabG H' T.P__has, ⟨_, _, _, _, _, _, _, _, _, _, rfl, bx3, hB, tab3⟩, ?_, ?_⟩
    · rintro t σ' H4 ht ⟨v1, v2, v3, v4, v5, v6, v7, v8, v9, v10, rfl, bx4, hB4, tab4⟩
      clear bx3 hB tab3
      wtm_at "w"
      refine ⟨b, r, 2, rfl, bx4, by decide, fun s H5 _ _ k5 bx5 => ?_⟩
      wtm_at "w"
      refine ⟨b, r, 3, rfl, bx5, by decide, fun n H6 _ _ k6 bx6 => ?_⟩
      wtm_at "w"
      refine ⟨b, r, 9, rfl, bx6, by decide, fun nd H7 d0 d1 k7 bx7 => ?_⟩
      wtm_at "w"
      refine ⟨b, r, 3, rfl, bx7, by decide, fun o1 H8 _ _ k8 bx8 => ?_⟩
      wtm_at "w"
      refine ⟨b, r, 3, rfl, bx8, by decide, fun o2 H9 _ _ k9 bx9 => ?_⟩
      have hB9 := (((((hB4.draw bx4 k5).draw bx5 k6).draw bx6 k7).draw bx7 k8).draw bx8 k9)
      have tab9 := k9.b _ (k8.b _ (k7.b _ (k6.b _ (k5.b _ tab4))))
      clear k5 k6 k7 k8 k9 bx4 bx5 bx6 bx7 bx8 hB4 tab4
      wtm_at "w"
      refine ⟨B, s, n, o1, bs, rfl, hB9, lb, few, fun F1 H10 k10 n10 h10 => ?_⟩
      have l1 := withN_len s n o1 bs
      have lf1 := List.length_filter_le (fun es => hasB es s n o1) bs
      wtm_at "w"
      refine ⟨B, s, n, o2, bs, rfl, hB9.kp k10, lb, few, fun F2 H11 k11 n11 h11 => ?_⟩
      have l2 := withN_len s n o2 bs
      have lf2 := List.length_filter_le (fun es => hasB es s n o2) bs
      have bth := both_ge s n o1 o2 bs bs.length
      have beq := bothN_eq s n o1 o2 bs bs.length
      have f1 := k11.at0 h10
      have k911 := k10.tr0 k11
      clear k10 k11 n10 n11 h10
      have bx11 := bx9.kp k911
      have hB11 := hB9.kp k911
      have tab11 := k911.b _ tab9
      clear k911 bx9 hB9 tab9
      wtm_at "w"
      refine ⟨B, nd, s, n, o1, bs, rfl, hB11, by omega, tab11, fun H12 k12 => ?_⟩
      wtm_at "w"
      refine ⟨B, nd, s, n, o2, bs, rfl, hB11.kp k12, by omega, k12.b _ tab11, fun H13 k13 => ?_⟩
      have k1113 := k12.tr0 k13
      clear k12 k13
      wtm_at "w"
      intro TL H14 k14 nTL hTL
      have k1114 := k1113.tr0 k14
      have f14 := k1114.at0 f1
      have g14 := k1114.at0 h11
      have bx14 := bx11.kp k1114
      have hB14 := hB11.kp k1114
      have tab14 := k1114.b _ tab11
      clear k1113 k14 k1114 f1 h11 bx11 hB11 tab11
      wtm_at "w"
      intro DL H15 k15 nDL hDL
      rw [List.length_map, List.length_map, l1, l2] at hDL
      have tl15 := k15.at0 hTL
      obtain ⟨C1, eC1⟩ : ∃ c, decide (nd ≤ ((havB s n o1 bs).length : Int)) = c := ⟨_, rfl⟩
      obtain ⟨C2, eC2⟩ : ∃ c, decide (nd ≤ ((havB s n o2 bs).length : Int)) = c := ⟨_, rfl⟩
      rw [eC1, eC2] at hDL tl15
      clear hTL
      wtm_at "w"
      refine ⟨_, _, .list [.bool C1, .bool C2], rfl, dp_B (bs := [C1, C2]) (Z.SqL.of' tl15), dp_B (bs := [C1, C2]) (Z.SqL.of' hDL), dpbb _ _, plbb _ _, ?_⟩
      wtm_at "w"
      have hB15 := hB14.kp k15
      refine ⟨B, s, n, o1, o2, bs, rfl, hB15, by omega, k15.b _ tab14, fun SH H16 k16 nSH hSH => ?_⟩
      have k1416 := k15.tr0 k16
      have f16 := k1416.at0 f14
      have g16 := k1416.at0 g14
      have bx16 := bx14.kp k1416
      have hB16 := hB14.kp k1416
      have tab16 := k1416.b _ tab14
      have tl16 := k16.at0 tl15
      clear k15 k16 k1416 f14 g14 bx14 hB14 hB15 tab14 tl15 hDL nDL nTL nSH
      wtm_at "w"
      refine xe_lc C ?_
      refine xlc_L (Vs' := ["second", "k"]) (G' := []) (nm := "k") (i := 13) C ⟨rfl, by decide +kernel, by decide +kernel, rfl, by decide +kernel, by decide⟩ ?_
      wtm_at "w"
      refine ⟨F1, _, rfl, Z.SqL.of' f16, fun R H17 k17 nR hR => ⟨fun i H' => Kp [] H16 H' ∧ H' R = some (.lst ((((withN s n o1 bs bs.length).take i).filter fun k => decide (k ∈ withN s n o2 bs bs.length)).map V.int)), ⟨k17, hR⟩, ?_, ?_, ?_⟩⟩
      · rintro i H' _ ⟨k, _⟩
        exact Z.SqL.of' (k.at0 f16)
      · rintro i y H18 hy ⟨k18, h18⟩
        rw [List.getElem?_map] at hy
        obtain ⟨x, hx, rfl⟩ := Option.map_eq_some_iff.mp hy
        have g18 := k18.at0 g16
        have hid18 : Kp [] H16 H18 ∧ True := ⟨k18, trivial⟩
        have et := filt_take (p := fun k => decide (k ∈ withN s n o2 bs bs.length)) hx
        have ll : (((withN s n o1 bs bs.length).take i).filter fun k => decide (k ∈ withN s n o2 bs bs.length)).length ≤ 1000 := by
          have a1 := List.length_filter_le (fun k => decide (k ∈ withN s n o2 bs bs.length)) ((withN s n o1 bs bs.length).take i)
          rw [List.length_take] at a1
          unfold havB at l1
          omega
        clear k17 k18
        refine ⟨_, by wtm_at "u", ?_⟩
        intro s0 H0 c' cl fp C'
        wtm_at "w"
        refine vo_inI C' (Z.SqL.of' g18) ?_
        refine ⟨_, rfl, ite_d (fun hc => ?_) (fun hc => ?_)⟩
        · intro s2 H02 c2' cl2 fp2 C2'
          wtm_at "w"
          refine ⟨_, h18, szl (by rw [List.length_map]; omega), fun H19 k19 h19 => ⟨hid18.1.tr1 k19 (.inr nR), ?_⟩⟩
          rw [et, if_pos (decide_eq_true hc), h19, List.map_append]; rfl
        · refine ⟨hid18.1, ?_⟩
          rw [et, if_neg (by simpa using hc), List.append_nil]; exact h18
      · rintro H18 ⟨k18, h18⟩
        have lbo : (bothN s n o1 o2 bs bs.length).length ≤ bs.length := by
          unfold bothN
          rw [List.length_map]
          have := List.length_filter_le (fun i => hasB (bs.getD i []) s n o1 && hasB (bs.getD i []) s n o2) (List.range bs.length)
          rw [List.length_range] at this
          exact this
        rw [List.length_map, List.take_length, beq] at h18
        have k1618 := k18
        clear k18 k17
        wtm_at "w"
        refine ⟨_, _, .list ((bothN s n o1 o2 bs bs.length).map PyData.int), rfl, dp_L (Z.SqL.of' (k1618.at0 hSH)), dp_L (Z.SqL.of' h18), depL _, plL49 (by omega), ?_⟩
        have tl18 := k1618.at0 tl16
        have sh18 := k1618.at0 hSH
        obtain ⟨us, hus, lu, _⟩ := (hB16.kp k1618).get
        have bx18 := bx16.kp k1618
        have hB18 := hB16.kp k1618
        have tab18 := k1618.b _ tab16
        clear k1618
        wtm_at "w"
        intro BL H19 k19 _ hBL
        refine vo_eqD C (dp_B (bs := [C1, C2]) (Z.SqL.of' (k19.at0 tl18))) (dp_B (bs := [true, true]) (Z.SqL.of' hBL)) (shbb _ _) (shbb _ _) ?_
        rw [show (PyData.list ([C1, C2].map PyData.bool)) = .list [.bool C1, .bool C2] from rfl, show (PyData.list ([true, true].map PyData.bool)) = .list [.bool true, .bool true] from rfl, eqv_bb]
        have us19 := k19.at0 hus
        have sh19 := k19.at0 sh18
        have out : Box H19 b r ∧ BksAt X.K H19 B bs ∧ GxR.TabG H19 T.P__has := ⟨bx18.kp k19, hB18.kp k19, k19.b _ tab18⟩
        clear k19
        wtm_at "w"
        refine ite_b (fun hc => ?_) (fun hc => ?_)
        · wtm_at "w"
          refine vo_mul (cmulL ⟨by decide, by decide⟩) ?_
          wtm_at "w"
          refine ite_d (fun hlt => absurd hlt ?_) (fun _ => ?_)
          · rw [List.length_map]
            rw [Bool.and_eq_true] at hc
            have g1 := of_decide_eq_true (eC1.trans hc.1)
            have g2 := of_decide_eq_true (eC2.trans hc.2)
            omega
          · wtm_at "w"
            exact ⟨_, _, _, _, _, _, _, _, _, _, rfl, out⟩
        · wtm_at "w"
          exact ⟨_, _, _, _, _, _, _, _, _, _, rfl, out⟩
    · rintro σ' H4 ⟨v1, v2, v3, v4, v5, v6, v7, v8, v9, v10, rfl, _, _, _⟩
      wtm_at "w"
      exact q _
end
/-! the end -/
theorem all_mk {l : PySem.W.OpenLaw} {w : World} {K : PySem.W.Frag} {h : Heap} {mg : Str → Option Value} {fa f_confirmed f_both f__has f__law_cell f__law_row f__law_draw f__law_is_integer f__law_same f__law_books f__law_with f_law q__has P__has : Addr} (X : K.In h) (G : h.Ns mainGlobals mg) (hfa : mg "law" = some (.ref fa))
    {od_confirmed an_confirmed od_both an_both od__has an__has od__law_cell an__law_cell od__law_row an__law_row od__law_draw an__law_draw od__law_is_integer an__law_is_integer od__law_same an__law_same od__law_books an__law_books od__law_with an__law_with od_law an_law : Option Addr} {sl_confirmed sl_both sl__has sl__law_cell sl__law_row sl__law_draw sl__law_is_integer sl__law_same sl__law_books sl__law_with sl_law : Array (Option Value)} {oc_confirmed kV_confirmed dc_confirmed pm_confirmed ct_confirmed cd_confirmed oc_both kV_both dc_both pm_both ct_both cd_both oc__has kV__has dc__has pm__has ct__has oc__law_cell kV__law_cell dc__law_cell pm__law_cell ct__law_cell cd__law_cell oc__law_row kV__law_row dc__law_row pm__law_row ct__law_row cd__law_row oc__law_draw kV__law_draw dc__law_draw pm__law_draw ct__law_draw cd__law_draw oc__law_is_integer kV__law_is_integer dc__law_is_integer pm__law_is_integer ct__law_is_integer cd__law_is_integer oc__law_same kV__law_same dc__law_same pm__law_same ct__law_same cd__law_same oc__law_books kV__law_books dc__law_books pm__law_books ct__law_books cd__law_books oc__law_with kV__law_with dc__law_with pm__law_with ct__law_with cd__law_with oc_law kV_law dc_law pm_law ct_law cd_law : Value}
    (a_confirmed : PySem.W.nsIn K mainGlobals "confirmed" = some (some (.ref f_confirmed)))
    (l_confirmed : K.lookup f_confirmed = some ⟨oc_confirmed, od_confirmed, .func (PySem.W.fnOf "confirmed" "confirmed" (defArgs s_confirmed) (defBody s_confirmed) (defScope s_confirmed) .none kV_confirmed dc_confirmed pm_confirmed an_confirmed cd_confirmed ct_confirmed), sl_confirmed⟩)
    (c_confirmed : PySem.W.codeIn K cd_confirmed "confirmed" = true)
    (k_confirmed : PySem.W.keepIn K (.ref f_confirmed) = true)
    (a_both : PySem.W.nsIn K mainGlobals "both" = some (some (.ref f_both)))
    (l_both : K.lookup f_both = some ⟨oc_both, od_both, .func (PySem.W.fnOf "both" "both" (defArgs s_both) (defBody s_both) (defScope s_both) .none kV_both dc_both pm_both an_both cd_both ct_both), sl_both⟩)
    (c_both : PySem.W.codeIn K cd_both "both" = true)
    (k_both : PySem.W.keepIn K (.ref f_both) = true)
    (a__has : PySem.W.nsIn K mainGlobals "_has" = some (some (.ref f__has)))
    (l__has : K.lookup f__has = some ⟨oc__has, od__has, .func (PySem.W.fnOf "_has" "_has" (defArgs s__has) (defBody s__has) (defScope s__has) .none kV__has dc__has pm__has an__has (.ref q__has) ct__has), sl__has⟩)
    (c__has : PySem.W.codeIn K (.ref q__has) "_has" = true)
    (k__has : PySem.W.keepIn K (.ref f__has) = true)
    (a__law_cell : PySem.W.nsIn K mainGlobals "_law_cell" = some (some (.ref f__law_cell)))
    (l__law_cell : K.lookup f__law_cell = some ⟨oc__law_cell, od__law_cell, .func (PySem.W.fnOf "_law_cell" "_law_cell" (defArgs s__law_cell) (defBody s__law_cell) (defScope s__law_cell) .none kV__law_cell dc__law_cell pm__law_cell an__law_cell cd__law_cell ct__law_cell), sl__law_cell⟩)
    (c__law_cell : PySem.W.codeIn K cd__law_cell "_law_cell" = true)
    (k__law_cell : PySem.W.keepIn K (.ref f__law_cell) = true)
    (a__law_row : PySem.W.nsIn K mainGlobals "_law_row" = some (some (.ref f__law_row)))
    (l__law_row : K.lookup f__law_row = some ⟨oc__law_row, od__law_row, .func (PySem.W.fnOf "_law_row" "_law_row" (defArgs s__law_row) (defBody s__law_row) (defScope s__law_row) .none kV__law_row dc__law_row pm__law_row an__law_row cd__law_row ct__law_row), sl__law_row⟩)
    (c__law_row : PySem.W.codeIn K cd__law_row "_law_row" = true)
    (k__law_row : PySem.W.keepIn K (.ref f__law_row) = true)
    (a__law_draw : PySem.W.nsIn K mainGlobals "_law_draw" = some (some (.ref f__law_draw)))
    (l__law_draw : K.lookup f__law_draw = some ⟨oc__law_draw, od__law_draw, .func (PySem.W.fnOf "_law_draw" "_law_draw" (defArgs s__law_draw) (defBody s__law_draw) (defScope s__law_draw) .none kV__law_draw dc__law_draw pm__law_draw an__law_draw cd__law_draw ct__law_draw), sl__law_draw⟩)
    (c__law_draw : PySem.W.codeIn K cd__law_draw "_law_draw" = true)
    (k__law_draw : PySem.W.keepIn K (.ref f__law_draw) = true)
    (a__law_is_integer : PySem.W.nsIn K mainGlobals "_law_is_integer" = some (some (.ref f__law_is_integer)))
    (l__law_is_integer : K.lookup f__law_is_integer = some ⟨oc__law_is_integer, od__law_is_integer, .func (PySem.W.fnOf "_law_is_integer" "_law_is_integer" (defArgs s__law_is_integer) (defBody s__law_is_integer) (defScope s__law_is_integer) .none kV__law_is_integer dc__law_is_integer pm__law_is_integer an__law_is_integer cd__law_is_integer ct__law_is_integer), sl__law_is_integer⟩)
    (c__law_is_integer : PySem.W.codeIn K cd__law_is_integer "_law_is_integer" = true)
    (k__law_is_integer : PySem.W.keepIn K (.ref f__law_is_integer) = true)
    (a__law_same : PySem.W.nsIn K mainGlobals "_law_same" = some (some (.ref f__law_same)))
    (l__law_same : K.lookup f__law_same = some ⟨oc__law_same, od__law_same, .func (PySem.W.fnOf "_law_same" "_law_same" (defArgs s__law_same) (defBody s__law_same) (defScope s__law_same) .none kV__law_same dc__law_same pm__law_same an__law_same cd__law_same ct__law_same), sl__law_same⟩)
    (c__law_same : PySem.W.codeIn K cd__law_same "_law_same" = true)
    (k__law_same : PySem.W.keepIn K (.ref f__law_same) = true)
    (a__law_books : PySem.W.nsIn K mainGlobals "_law_books" = some (some (.ref f__law_books)))
    (l__law_books : K.lookup f__law_books = some ⟨oc__law_books, od__law_books, .func (PySem.W.fnOf "_law_books" "_law_books" (defArgs s__law_books) (defBody s__law_books) (defScope s__law_books) .none kV__law_books dc__law_books pm__law_books an__law_books cd__law_books ct__law_books), sl__law_books⟩)
    (c__law_books : PySem.W.codeIn K cd__law_books "_law_books" = true)
    (k__law_books : PySem.W.keepIn K (.ref f__law_books) = true)
    (a__law_with : PySem.W.nsIn K mainGlobals "_law_with" = some (some (.ref f__law_with)))
    (l__law_with : K.lookup f__law_with = some ⟨oc__law_with, od__law_with, .func (PySem.W.fnOf "_law_with" "_law_with" (defArgs s__law_with) (defBody s__law_with) (defScope s__law_with) .none kV__law_with dc__law_with pm__law_with an__law_with cd__law_with ct__law_with), sl__law_with⟩)
    (c__law_with : PySem.W.codeIn K cd__law_with "_law_with" = true)
    (k__law_with : PySem.W.keepIn K (.ref f__law_with) = true)
    (a_law : PySem.W.nsIn K mainGlobals "law" = some (some (.ref f_law)))
    (l_law : K.lookup f_law = some ⟨oc_law, od_law, .func (PySem.W.fnOf "law" "law" (defArgs s_law) (defBody s_law) (defScope s_law) .none kV_law dc_law pm_law an_law cd_law ct_law), sl_law⟩)
    (c_law : PySem.W.codeIn K cd_law "law" = true)
    (k_law : PySem.W.keepIn K (.ref f_law) = true)
    (z_abs : PySem.W.nsIn K mainGlobals "abs" = some none)
    (z_any : PySem.W.nsIn K mainGlobals "any" = some none)
    (z_bool : PySem.W.nsIn K mainGlobals "bool" = some none)
    (z_enumerate : PySem.W.nsIn K mainGlobals "enumerate" = some none)
    (z_int : PySem.W.nsIn K mainGlobals "int" = some none)
    (z_isinstance : PySem.W.nsIn K mainGlobals "isinstance" = some none)
    (z_len : PySem.W.nsIn K mainGlobals "len" = some none)
    (z_list : PySem.W.nsIn K mainGlobals "list" = some none)
    (z_range : PySem.W.nsIn K mainGlobals "range" = some none)
    (z_str : PySem.W.nsIn K mainGlobals "str" = some none)
    (z_tuple : PySem.W.nsIn K mainGlobals "tuple" = some none)
    (tq__has : K.lookup q__has = some ⟨qo__has, qd__has, .fields vq__has, qs__has⟩)
    (tp__has : (vq__has[11]? : Option Value) = some (.ref P__has))
    (tu__has : K.lookup P__has = none)
    : ∃ (fd : FuncData) (cs : List (Addr × Addr)), (∀ p ∈ cs, K.lookup p.2 = none ∧ ∃ x ∈ (["_has"] : List Str), PySem.W.tabIn K x = some p) ∧ (∀ (s : Shared) (v : Value), BindsTo s fd ⟨[v], []⟩ [("script", v)]) ∧ ∀ base : Heap, K.In base → base.Ns mainGlobals mg → (∀ p ∈ cs, GxR.TabB base mg p.1 p.2) → FnOk l.prog w K mg base CX0 12 fa fd ["script"] (sp_lawT K (cs.map (·.2))) := by
  have e := hfa.symm.trans (PySem.W.mg_of X G a_law)
  cases e
  have F_confirmed := fun_mk (st := s_confirmed) l_confirmed c_confirmed k_confirmed
  have b_confirmed := F_confirmed.binds (ps := ["books", "needed", "service", "number", "digest"]) fun _ _ _ _ _ _ us hl => match us, hl with | [_, _, _, _, _], _ => rfl
  have F_both := fun_mk (st := s_both) l_both c_both k_both
  have b_both := F_both.binds (ps := ["books", "service", "number", "one", "two"]) fun _ _ _ _ _ _ us hl => match us, hl with | [_, _, _, _, _], _ => rfl
  have F__has := fun_mk (st := s__has) l__has c__has k__has
  have b__has := F__has.binds (ps := ["book", "service", "number", "digest"]) fun _ _ _ _ _ _ us hl => match us, hl with | [_, _, _, _], _ => rfl
  have F__law_cell := fun_mk (st := s__law_cell) l__law_cell c__law_cell k__law_cell
  have b__law_cell := F__law_cell.binds (ps := ["script", "k"]) fun _ _ _ _ _ _ us hl => match us, hl with | [_, _], _ => rfl
  have F__law_row := fun_mk (st := s__law_row) l__law_row c__law_row k__law_row
  have b__law_row := F__law_row.binds (ps := ["script", "first", "last"]) fun _ _ _ _ _ _ us hl => match us, hl with | [_, _, _], _ => rfl
  have F__law_draw := fun_mk (st := s__law_draw) l__law_draw c__law_draw k__law_draw
  have b__law_draw := F__law_draw.binds (ps := ["box", "many"]) fun _ _ _ _ _ _ us hl => match us, hl with | [_, _], _ => rfl
  have F__law_is_integer := fun_mk (st := s__law_is_integer) l__law_is_integer c__law_is_integer k__law_is_integer
  have b__law_is_integer := F__law_is_integer.binds (ps := ["told"]) fun _ _ _ _ _ _ us hl => match us, hl with | [_], _ => rfl
  have F__law_same := fun_mk (st := s__law_same) l__law_same c__law_same k__law_same
  have b__law_same := F__law_same.binds (ps := ["told", "due"]) fun _ _ _ _ _ _ us hl => match us, hl with | [_, _], _ => rfl
  have F__law_books := fun_mk (st := s__law_books) l__law_books c__law_books k__law_books
  have b__law_books := F__law_books.binds (ps := ["box"]) fun _ _ _ _ _ _ us hl => match us, hl with | [_], _ => rfl
  have F__law_with := fun_mk (st := s__law_with) l__law_with c__law_with k__law_with
  have b__law_with := F__law_with.binds (ps := ["books", "service", "number", "value"]) fun _ _ _ _ _ _ us hl => match us, hl with | [_, _, _, _], _ => rfl
  have F_law := fun_mk (st := s_law) l_law c_law k_law
  refine ⟨PySem.W.fnOf "law" "law" (defArgs s_law) (defBody s_law) (defScope s_law) .none kV_law dc_law pm_law an_law cd_law ct_law, [(q__has, P__has)], fun p hp => ?_, fun s v => .of_eq rfl, fun base _ _ htb => ?_⟩
  · simp only [List.mem_cons, List.not_mem_nil, or_false] at hp
    rcases hp with rfl
    · exact ⟨tu__has, "_has", by simp, by unfold PySem.W.tabIn; rw [a__has]; dsimp only; rw [l__has]; dsimp only [PySem.W.fnOf]; rw [tq__has]; dsimp only; rw [tp__has]⟩
  let T : Txt l.prog w K mg base := { b_abs := PySem.W.mg_none_of X G z_abs, b_any := PySem.W.mg_none_of X G z_any, b_bool := PySem.W.mg_none_of X G z_bool, b_enumerate := PySem.W.mg_none_of X G z_enumerate, b_int := PySem.W.mg_none_of X G z_int, b_isinstance := PySem.W.mg_none_of X G z_isinstance, b_len := PySem.W.mg_none_of X G z_len, b_list := PySem.W.mg_none_of X G z_list, b_range := PySem.W.mg_none_of X G z_range, b_str := PySem.W.mg_none_of X G z_str, b_tuple := PySem.W.mg_none_of X G z_tuple, d_confirmed := ⟨_, _, F_confirmed, PySem.W.mg_of X G a_confirmed, b_confirmed⟩, d_both := ⟨_, _, F_both, PySem.W.mg_of X G a_both, b_both⟩, d__has := ⟨_, _, F__has, PySem.W.mg_of X G a__has, b__has⟩, q__has := q__has, P__has := P__has, td__has := ⟨_, _, ⟨⟨_, _, _, _, _, _, _, _, rfl, l__has, c__has⟩, k__has⟩, PySem.W.mg_of X G a__has, b__has⟩, tb__has := htb (q__has, P__has) (by simp), d__law_cell := ⟨_, _, F__law_cell, PySem.W.mg_of X G a__law_cell, b__law_cell⟩, d__law_row := ⟨_, _, F__law_row, PySem.W.mg_of X G a__law_row, b__law_row⟩, d__law_draw := ⟨_, _, F__law_draw, PySem.W.mg_of X G a__law_draw, b__law_draw⟩, d__law_is_integer := ⟨_, _, F__law_is_integer, PySem.W.mg_of X G a__law_is_integer, b__law_is_integer⟩, d__law_same := ⟨_, _, F__law_same, PySem.W.mg_of X G a__law_same, b__law_same⟩, d__law_books := ⟨_, _, F__law_books, PySem.W.mg_of X G a__law_books, b__law_books⟩, d__law_with := ⟨_, _, F__law_with, PySem.W.mg_of X G a__law_with, b__law_with⟩ }
  exact fn_law T F_law
end Law
open PySem PySem.W PyProof.Rows in
set_option maxRecDepth 100000 in
set_option maxHeartbeats 0 in
theorem PySem.Challenge.cw_sealround_k49_confirmed_holds : PySem.Challenge.rw_sealround_k49_confirmed.Holds := by
  w_on; o_law; k_head; (case hw => w_witness2)
  k_fill
  refine Law.walkT (l := PySem.Challenge.rw_sealround_k49_confirmed) (k := 12) ["_has"] rfl rfl ⟨rfl, by decide, by decide⟩ (fun w h Y => PySem.W.kIn_of Y) (fun x hx => ?R) ?F
  case R =>
    simp only [List.mem_cons, List.not_mem_nil, or_false] at hx
    rcases hx with rfl <;> exact ⟨_, rfl⟩
  case F =>
    intro w mg fa h KX G hmg
    refine' Law.all_mk KX G hmg ?a_confirmed ?l_confirmed ?c_confirmed ?k_confirmed ?a_both ?l_both ?c_both ?k_both ?a__has ?l__has ?c__has ?k__has ?a__law_cell ?l__law_cell ?c__law_cell ?k__law_cell ?a__law_row ?l__law_row ?c__law_row ?k__law_row ?a__law_draw ?l__law_draw ?c__law_draw ?k__law_draw ?a__law_is_integer ?l__law_is_integer ?c__law_is_integer ?k__law_is_integer ?a__law_same ?l__law_same ?c__law_same ?k__law_same ?a__law_books ?l__law_books ?c__law_books ?k__law_books ?a__law_with ?l__law_with ?c__law_with ?k__law_with ?a_law ?l_law ?c_law ?k_law ?z_abs ?z_any ?z_bool ?z_enumerate ?z_int ?z_isinstance ?z_len ?z_list ?z_range ?z_str ?z_tuple ?tq__has ?tp__has ?tu__has
    (case a_confirmed => k_is)
    (case l_confirmed => k_is)
    (case c_confirmed => k_is)
    (case k_confirmed => k_is)
    (case a_both => k_is)
    (case l_both => k_is)
    (case c_both => k_is)
    (case k_both => k_is)
    (case a__has => k_is)
    (case l__has => k_is)
    (case c__has => k_is)
    (case k__has => k_is)
    (case a__law_cell => k_is)
    (case l__law_cell => k_is)
    (case c__law_cell => k_is)
    (case k__law_cell => k_is)
    (case a__law_row => k_is)
    (case l__law_row => k_is)
    (case c__law_row => k_is)
    (case k__law_row => k_is)
    (case a__law_draw => k_is)
    (case l__law_draw => k_is)
    (case c__law_draw => k_is)
    (case k__law_draw => k_is)
    (case a__law_is_integer => k_is)
    (case l__law_is_integer => k_is)
    (case c__law_is_integer => k_is)
    (case k__law_is_integer => k_is)
    (case a__law_same => k_is)
    (case l__law_same => k_is)
    (case c__law_same => k_is)
    (case k__law_same => k_is)
    (case a__law_books => k_is)
    (case l__law_books => k_is)
    (case c__law_books => k_is)
    (case k__law_books => k_is)
    (case a__law_with => k_is)
    (case l__law_with => k_is)
    (case c__law_with => k_is)
    (case k__law_with => k_is)
    (case a_law => k_is)
    (case l_law => k_is)
    (case c_law => k_is)
    (case k_law => k_is)
    (case z_abs => k_is)
    (case z_any => k_is)
    (case z_bool => k_is)
    (case z_enumerate => k_is)
    (case z_int => k_is)
    (case z_isinstance => k_is)
    (case z_len => k_is)
    (case z_list => k_is)
    (case z_range => k_is)
    (case z_str => k_is)
    (case z_tuple => k_is)
    (case tq__has => k_is)
    (case tp__has => rfl)
    (case tu__has => rfl)
